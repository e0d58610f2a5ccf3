/- Walks of the laws' helpers: small. -/
import Derived.Test.YtbmonfbbkmpdhaaDoorQ07
namespace Go.Proofs.YtbmonfbbkmpdhaaDoor
open Go.RowKit Go.Proofs.Num

/-- Canonical and short. -/
def smallB (s : ByteArray) : Bool := decide (s.size ≤ 60) && (chk s.data.toList == 0)

set_option maxHeartbeats 1600000 in
set_option maxRecDepth 100000 in
theorem small_any (l : List ByteArray) (b : Nat) (w : World) (hl : l.length ≤ 100) (hc : ∀ (k : Nat) (h : k < l.length), w.cell? ⟨b, k, none⟩ = some (.string l[k])) :
    Calls Tryd.prog 46 #[.slice (some ⟨b, 0, none⟩) l.length l.length] w fun e w' => e = .returned (.bool (l.all smallB)) ∧ w = w' := by
  obtain ⟨n, hn⟩ : ∃ n, n = l.length := ⟨_, rfl⟩
  have HC := Lib.hid hc
  have HN := Lib.hid hn
  have hn100 : n ≤ 100 := by omega
  rw [← hn]
  clear hc hl hn
  go_enter Tryd.func46, Tryd.ntmps46
  go_wp2
  go_loop [7] (fun i => ∃ k : Nat, k ≤ n ∧ i = .int .i64 k ∧ (l.take k).all smallB = true) (fun i => n - (intOf i).toNat)
  case atStart => exact ⟨0, Nat.zero_le _, rfl, rfl⟩
  case round =>
    obtain ⟨k, hk, rfl, hall⟩ := hrel
    have HA := Lib.hid hall
    clear hall
    by_cases hlt : k < n
    · have hkl : k < l.length := by rw [← HN.out]; exact hlt
      have hcell := HC.out k hkl
      have hmem : l[k] ∈ l := List.getElem_mem _
      have hts : l.take (k + 1) = l.take k ++ [l[k]] := List.take_succ_eq_append_getElem hkl
      obtain ⟨s, hs⟩ : ∃ s, s = l[k] := ⟨_, rfl⟩
      rw [← hs] at hcell hmem hts
      have HT := Lib.hid hts
      have HM := Lib.hid hmem
      clear hts hs hmem
      by_cases h60 : s.size ≤ 60
      · obtain ⟨c, hcc⟩ : ∃ c, c = chk s.data.toList := ⟨_, rfl⟩
        have HCC := Lib.hid hcc
        clear hcc
        by_cases h0 : c = 0
        · subst h0
          have hyes : smallB s = true := by unfold smallB; rw [← HCC.out]; simp [h60]
          have HY := Lib.hid hyes
          clear hyes
          go_wp2_with (go_at_call 20; refine (rcheck_any _ _ (by omega)).mono ?_; rintro e w' ⟨he, rfl⟩; rw [← HCC.out] at he; subst he)
          go_round
          case rel => exact ⟨k + 1, by omega, by go_num, by rw [HT.out, List.all_append, HA.out]; simp [HY.out]⟩
          case measure => simp [intOf]; omega
        · have hne : (((c : Nat) : Int) == 0) = false := beq_eq_false_iff_ne.2 (by omega)
          have hne2 : (((c : Nat) : Int) != 0) = true := by simp; omega
          have hno : l.all smallB = false := List.all_eq_false.2 ⟨s, HM.out, by unfold smallB; rw [← HCC.out]; simp [h0]⟩
          have HY := Lib.hid hno
          clear hno h0
          go_wp2_with (go_at_call 20; refine (rcheck_any _ _ (by omega)).mono ?_; rintro e w' ⟨he, rfl⟩; rw [← HCC.out] at he; subst he)
          go_ret
          exact ⟨by rw [HY.out]; rfl, rfl⟩
      · have hno : l.all smallB = false := List.all_eq_false.2 ⟨s, HM.out, by unfold smallB; simp [h60]⟩
        have HY := Lib.hid hno
        clear hno
        go_wp2
        go_ret
        exact ⟨by rw [HY.out]; rfl, rfl⟩
    · have hall : l.all smallB = true := by
        have := HA.out
        rwa [show k = l.length by rw [← HN.out]; omega, List.take_length] at this
      have HY := Lib.hid hall
      clear hall
      go_wp2
      go_ret
      exact ⟨by rw [HY.out]; rfl, rfl⟩
end Go.Proofs.YtbmonfbbkmpdhaaDoor
