/- Walks of the words' functions. -/
import Derived.Test.YtnfmcdfdbipeoaaGreatDoorQ04
import Derived.Test.YtnfmcdfdbipeoaaGreatDoorProg
import Derived.Deep.QuietTactic
import Derived.BigQuiet
import Derived.WalkLawsBesides
namespace Go.Proofs.YtnfmcdfdbipeoaaGreatDoor
open Go.RowKit Go.Proofs.Num

def sgn (n : Int) : Int := if n < 0 then -1 else if 0 < n then 1 else 0

theorem sign_any (n : Int) (w : World) : Calls Tryz.prog 136 #[.int .i64 n] w fun e w' => e = .returned (.int .i64 (sgn n)) ∧ w = w' := by
  rcases (show n < -1 ∨ n = -1 ∨ n = 0 ∨ n = 1 ∨ 1 < n by omega) with h | rfl | rfl | rfl | h <;>
  · go_enter Tryz.func136, Tryz.ntmps136
    go_wp2
    go_ret
    exact ⟨by unfold sgn; (try rw [if_pos (by omega)]); (try rw [if_neg (by omega)]); (try rw [if_pos (by omega)]); (try rw [if_neg (by omega)]); (try rfl), rfl⟩

set_option maxHeartbeats 800000 in
set_option maxRecDepth 100000 in
theorem trim_at (b off cap : Nat) (l : List Nat) (w : World) (hl : l.length ≤ cap) (hsm : l.length ≤ 4294967296) (hc : ∀ j, j < l.length → w.cell? ⟨b, off + j, none⟩ = some (.int .u64 ((nth l j : Nat) : Int))) :
    Calls Tryz.prog 133 #[.slice (some ⟨b, off, none⟩) l.length cap] w fun e w' => (∃ k, k ≤ l.length ∧ e = .returned (.slice (some ⟨b, off, none⟩) k cap) ∧ val 1000000000 (l.take k) = val 1000000000 l ∧ (k = 0 ∨ nth l (k - 1) ≠ 0)) ∧ w = w' := by
  go_enter Tryz.func133, Tryz.ntmps133
  go_wp2
  go_loop [0] (fun v => ∃ k : Nat, k ≤ l.length ∧ v = .slice (some ⟨b, off, none⟩) k cap ∧ val 1000000000 (l.take k) = val 1000000000 l) (fun v => match v with | .slice _ n _ => n | _ => 0)
  case atStart => exact ⟨l.length, Nat.le_refl _, rfl, by rw [List.take_length]⟩
  case round =>
    obtain ⟨k, hk, rfl, hv⟩ := hrel
    by_cases h0 : 0 < k
    · have hcell : w.cell? ⟨b, off + (k - 1), none⟩ = some (.int .u64 ((nth l (k - 1) : Nat) : Int)) := hc (k - 1) (by omega)
      by_cases hz : nth l (k - 1) = 0
      · have hz' : (((nth l (k - 1) : Nat) : Int) == 0) = true := by simp [hz]
        have hv' : val 1000000000 (l.take (k - 1)) = val 1000000000 l := by
          rw [← hv]; conv => rhs; rw [show k = (k - 1) + 1 by omega, val_take_nth, hz]
          omega
        have HV := Lib.hid hv'
        clear hv hv' hz
        go_wp2
        go_round
        case rel => exact ⟨k - 1, by omega, rfl, HV.out⟩
        case measure => show k - 1 < k; omega
      · have hz' : (((nth l (k - 1) : Nat) : Int) == 0) = false := by simp; omega
        have HZ := Lib.hid hz
        have HV := Lib.hid hv
        clear hv hz
        go_wp2
        go_ret
        exact ⟨⟨k, hk, rfl, HV.out, .inr HZ.out⟩, rfl⟩
    · have HV := Lib.hid hv
      clear hv
      go_wp2
      go_ret
      exact ⟨⟨k, hk, rfl, HV.out, .inl (by omega)⟩, rfl⟩

theorem norm_take {l : List Nat} {k : Nat} (hl : ∀ x ∈ l, x < 1000000000) (hk : k ≤ l.length) (hv : val 1000000000 (l.take k) = val 1000000000 l) (h : k = 0 ∨ nth l (k - 1) ≠ 0) : dig 1000000000 (val 1000000000 l) = l.take k := by
  rw [← hv]
  refine dig_val (by omega) _ ⟨fun x hx => hl x (List.mem_of_mem_take hx), ?_⟩
  rcases h with rfl | h
  · simp
  · intro h2
    have h3 : k - 1 < l.length := by
      rcases Nat.lt_or_ge (k - 1) l.length with h3 | h3
      · exact h3
      · exact absurd (nth_past l (k - 1) h3) h
    by_cases h0 : k = 0
    · subst h0; simp at h2
    · rw [show k = (k - 1) + 1 by omega, take_succ_nth l (k - 1) h3, List.getLast?_append] at h2
      simp at h2
      exact h h2

theorem trim_nil (a : Option Addr) (cap : Nat) (w : World) : Calls Tryz.prog 133 #[.slice a 0 cap] w fun e w' => e = .returned (.slice a 0 cap) ∧ w = w' := by
  go_enter Tryz.func133, Tryz.ntmps133
  go_wp2
  refine wp_loop_rounds 1 ?_
  rw [rounds_succ]
  go_wp2
  go_ret
  exact ⟨rfl, rfl⟩

def GivesWd (w : World) (n : Nat) (e : Ending) (w' : World) : Prop := ∃ v', e = .returned v' ∧ (∃ a k cap, v' = .slice a k cap) ∧ Wd w' v' n ∧ Below w.heap.size w w'

/-- trim: what comes back reads as the canonical words of the value. -/
theorem trim_any (v : Value) (l : List Nat) (w : World) (hv : Rd .u64 135 w v l) (hl : ∀ x ∈ l, x < 1000000000) (hsm : l.length ≤ 4294967296) :
    Calls Tryz.prog 133 #[v] w fun e w' => ∃ v', e = .returned v' ∧ Wd w v' (val 1000000000 l) ∧ w = w' := by
  rcases hv with ⟨rfl, a, cap, rfl⟩ | ⟨b, off, cap, rfl, h⟩
  · refine (trim_nil a cap w).mono ?_
    rintro e w' ⟨rfl, rfl⟩
    exact ⟨_, rfl, by rw [val_nil]; unfold Wd; rw [dig_zero]; exact Rd.nil _ _ _ _ _, rfl⟩
  · refine (trim_at b off cap l w h.fits hsm h.cell).mono ?_
    rintro e w' ⟨⟨k, hk, rfl, hv, h0⟩, rfl⟩
    refine ⟨_, rfl, ?_, rfl⟩
    have hd := norm_take hl hk hv h0
    have hlen : (l.take k).length = k := by rw [List.length_take]; omega
    unfold Wd
    rw [hd]
    refine .inr ⟨b, off, cap, by rw [hlen], by have := h.fits; omega, h.lt, h.ty, fun j hj => ?_⟩
    rw [h.cell j (by omega)]
    unfold nth
    rw [getD_get l j (by omega), getD_get (l.take k) j hj, List.getElem_take]
end Go.Proofs.YtnfmcdfdbipeoaaGreatDoor
