/- New numbers of vertices. -/
import Derived.Test.YtjaafneoinidkaaGy
import Derived.BigQuiet
import Derived.Deep.QuietTactic
namespace Go.Proofs.Ytjaafneoinidkaa
open Go.RowKit Go.Shelf Go.Proofs.Gr

theorem RowAt.take {α : Type} {k : Nat} {enc : α → List Value} {w : World} {a : Option Addr} {L : List α} (h : RowAt k enc w a L) (i : Nat) : RowAt k enc w a (L.take i) := by
  intro j hj
  have hj2 : j < L.length := by rw [List.length_take] at hj; omega
  obtain ⟨b, off, h1, h2, h3⟩ := h j hj2
  exact ⟨b, off, h1, h2, fun i hi => by rw [h3 i hi, List.getElem_take]⟩
/-- The error of a new number. -/
def nErr (n : Int) (S : List Int) (i : Nat) : Nat := if iAt S i < 0 ∨ n ≤ iAt S i then 2 else if (S.take i).contains (iAt S i) = true then 7 else 0
def renE (n : Int) (S : List Int) : Nat := if (S.length : Int) ≠ n then 8 else firstE (nErr n S) S.length
set_option maxHeartbeats 12800000 in
set_option maxRecDepth 100000 in
theorem rrenaming_any (n : Int) (b : Option Addr) (c : Nat) (S : List Int) (hS : S.length ≤ 100000) (hc : S.length ≤ c) (w : World) (hv : IsAt w b S) :
    Calls Try.prog 42 #[.int .i64 n, .slice b S.length c] w (GivesN w (renE n S : Nat)) := by
  have HH := Lib.hid (fun v w i h => holds_any b c (S.take i) (by rw [List.length_take]; omega) v w h)
  have HVs := Lib.hid hv
  unfold GivesN
  by_cases hn : (S.length : Int) = n
  · subst hn
    have HR : Hid (renE S.length S = firstE (nErr S.length S) S.length) := Lib.hid (by unfold renE; rw [if_neg (fun h => h rfl)])
    generalize renE S.length S = R at *
    clear hv
    go_enter Try.func42, Try.ntmps42
    go_wp2
    go_loopw [5] (fun v wr => ∃ i : Nat, i ≤ S.length ∧ v = .int .i64 i ∧ (∀ j, j < i → nErr S.length S j = 0) ∧ Below w.heap.size w wr) (fun v _ => S.length - (intOf v).toNat)
    case atStart => exact ⟨0, by omega, rfl, fun j hj => by omega, Below.refl _ _⟩
    case round =>
      obtain ⟨i, hi, rfl, hz, hb⟩ := hrel
      have HBr := Lib.hid hb
      have HZ := Lib.hid hz
      by_cases hlt : i < S.length
      · have HVr := Lib.hid ((HVs.out.keep hb).take i)
        obtain ⟨b1, o1, hbb, q1, x1⟩ := (HVs.out.keep hb).one i hlt
        subst hbb
        have i1 : (i : Int) < ((S.length : Nat) : Int) := by omega
        have i0 : (0 : Int) ≤ (i : Int) := by omega
        have HEr : Hid (nErr S.length S i = if iAt S i < 0 ∨ (S.length : Int) ≤ iAt S i then 2 else if (S.take i).contains (iAt S i) = true then 7 else 0) := Lib.hid rfl
        have HFI : Hid (nErr S.length S i ≠ 0 → R = nErr S.length S i) := Lib.hid (fun hne => by rw [HR.out]; exact firstE_at HZ.out hne hlt)
        have HNX : Hid (nErr S.length S i = 0 → ∀ j, j < i + 1 → nErr S.length S j = 0) := Lib.hid (fun h0 j hj => by
          by_cases e : j = i
          · subst e; exact h0
          · exact HZ.out j (by omega))
        have HHi : Hid (∀ v w, IsAt w (some ⟨b1, o1, none⟩) (S.take i) → Calls Try.prog 65 #[.slice (some ⟨b1, o1, none⟩) i c, .int .i64 v] w (fun e w' => e = .returned (.bool ((S.take i).contains v)) ∧ w = w')) := Lib.hid fun v w h => by
          have h9 := HH.out v w i h
          rwa [List.length_take, Nat.min_eq_left hi] at h9
        generalize nErr S.length S i = er at *
        generalize iAt S i = z at *
        generalize hr : (S.take i).contains z = r at *
        have hHz : Hid (∀ w, IsAt w (some ⟨b1, o1, none⟩) (S.take i) → Calls Try.prog 65 #[.slice (some ⟨b1, o1, none⟩) i c, .int .i64 z] w (fun e w' => e = .returned (.bool r) ∧ w = w')) := Lib.hid fun w h => by
          have h9 := HHi.out z w h
          rwa [hr] at h9
        clear hb hz hr
        by_cases hz0 : z < 0
        · have HEr' : er = 2 := by rw [HEr.out, if_pos (Or.inl hz0)]
          have p0 : decide (z < 0) = true := decide_eq_true hz0
          go_wp2
          go_ret
          exact ⟨by rw [HFI.out (by rw [HEr']; omega), HEr']; rfl, HBr.out⟩
        · by_cases hz1 : (S.length : Int) ≤ z
          · have HEr' : er = 2 := by rw [HEr.out, if_pos (Or.inr hz1)]
            have p0 : decide (z < 0) = false := decide_eq_false hz0
            have p1 : decide ((S.length : Int) ≤ z) = true := decide_eq_true hz1
            go_wp2
            go_ret
            exact ⟨by rw [HFI.out (by rw [HEr']; omega), HEr']; rfl, HBr.out⟩
          · have HEr2 : Hid (er = if r = true then 7 else 0) := Lib.hid (by rw [HEr.out, if_neg (fun h => h.elim hz0 hz1)])
            have p0 : decide (z < 0) = false := decide_eq_false hz0
            have p1 : decide ((S.length : Int) ≤ z) = false := decide_eq_false hz1
            have ic : i ≤ c := by omega
            have ic2 : (i : Int) ≤ (c : Int) := by omega
            have HS : Hid (∀ x, Below wr.heap.size wr x → (Below wr.heap.size wr x ∧ x.cell? ⟨b1, o1 + i, none⟩ = some (.int .i64 z))) := fun x hx => ⟨hx, (hx.cell (p := ⟨b1, o1 + i, none⟩) q1).trans x1⟩
            cases r
            · have HEr' : er = 0 := by rw [HEr2.out]; rfl
              go_wp2
              have hk2 : Below wr.heap.size wr wr.drew := (Below.refl _ _).drew
              obtain ⟨_, f0⟩ := HS.out _ hk2
              go_region_held3 (fun x => Below wr.heap.size wr x ∧ x.cell? ⟨b1, o1 + i, none⟩ = some (.int .i64 z))
                (first | exact HS.out _ (by assumption) | exact HS.out _ (Below.drew (by assumption)))
                (first | (go_at_call 65; refine (hHz.out _ (HVr.out.keep hk2)).mono ?_; rintro e wz ⟨rfl, rfl⟩))
              have HB2 := Lib.hid (HBr.out.trans (hk2.mono HBr.out.size))
              clear hk2 f0
              go_wp2
              go_roundw
              case rel => exact ⟨i + 1, by omega, by go_num, HNX.out HEr', HB2.out⟩
              case measure => simp [intOf]; omega
            · have HEr' : er = 7 := by rw [HEr2.out]; rfl
              go_wp2
              have hk2 : Below wr.heap.size wr wr.drew := (Below.refl _ _).drew
              obtain ⟨_, f0⟩ := HS.out _ hk2
              go_region_held3 (fun x => Below wr.heap.size wr x ∧ x.cell? ⟨b1, o1 + i, none⟩ = some (.int .i64 z))
                (first | exact HS.out _ (by assumption) | exact HS.out _ (Below.drew (by assumption)))
                (first | (go_at_call 65; refine (hHz.out _ (HVr.out.keep hk2)).mono ?_; rintro e wz ⟨rfl, rfl⟩))
              have HB2 := Lib.hid (HBr.out.trans (hk2.mono HBr.out.size))
              clear hk2 f0
              go_wp2
              go_ret
              exact ⟨by rw [HFI.out (by rw [HEr']; omega), HEr']; rfl, HB2.out⟩
      · obtain rfl : i = S.length := by omega
        have HRZ : Hid (R = 0) := Lib.hid (by rw [HR.out]; exact firstE_zero HZ.out)
        clear hb hz
        go_wp2
        go_ret
        exact ⟨by rw [HRZ.out]; rfl, HBr.out⟩
  · have HRE : Hid (renE n S = 8) := Lib.hid (by unfold renE; rw [if_pos hn])
    have p0 : (((S.length : Nat) : Int) != n) = true := bne_iff_ne.2 hn
    clear hv hn
    go_enter Try.func42, Try.ntmps42
    go_wp2
    go_ret
    exact ⟨by rw [HRE.out]; rfl, Below.refl _ _⟩
end Go.Proofs.Ytjaafneoinidkaa
