/- Orders and equal lists, by both. -/
import Derived.Test.YtgejkgeojjgclaaCk
namespace Go.Proofs.Ytgejkgeojjgclaa
open Go.RowKit Go.Proofs.Gr Go.Proofs.Cp
attribute [local go_sem] Oper.semAt_some

theorem ord_lt {A B : List Int} (i : Nat) (hA : i < A.length) (hB : i < B.length) (h : ∀ j, j < i → iAt A j = iAt B j) (hl : iAt A i < iAt B i) : ordD A B = -1 := by
  induction A generalizing B i with
  | nil => simp at hA
  | cons a A ih =>
    cases B with
    | nil => simp at hB
    | cons b B =>
      rw [ordD]
      cases i with
      | zero => have : a < b := hl; rw [if_pos this]
      | succ i =>
        have h0 : a = b := h 0 (by omega)
        rw [if_neg (by omega), if_neg (by omega)]
        exact ih i (by simpa using hA) (by simpa using hB) (fun j hj => h (j + 1) (by omega)) hl
theorem ord_gt {A B : List Int} (i : Nat) (hA : i < A.length) (hB : i < B.length) (h : ∀ j, j < i → iAt A j = iAt B j) (hl : iAt B i < iAt A i) : ordD A B = 1 := by
  induction A generalizing B i with
  | nil => simp at hA
  | cons a A ih =>
    cases B with
    | nil => simp at hB
    | cons b B =>
      rw [ordD]
      cases i with
      | zero => have : b < a := hl; rw [if_neg (by omega), if_pos this]
      | succ i =>
        have h0 : a = b := h 0 (by omega)
        rw [if_neg (by omega), if_neg (by omega)]
        exact ih i (by simpa using hA) (by simpa using hB) (fun j hj => h (j + 1) (by omega)) hl
theorem ord_self (A : List Int) : ordD A A = 0 := by
  induction A with
  | nil => rfl
  | cons a A ih => rw [ordD, if_neg (by omega), if_neg (by omega), ih]
theorem eq_of_at {A B : List Int} (hl : A.length = B.length) (h : ∀ j, j < A.length → iAt A j = iAt B j) : A = B := by
  refine List.ext_getElem hl fun j h1 h2 => ?_
  rw [iAt_get A j h1, iAt_get B j h2, h j h1]
theorem ord_zero {A B : List Int} (hl : A.length = B.length) : ordD A B = 0 ↔ A = B := by
  constructor
  · intro h
    induction A generalizing B with
    | nil => cases B with
      | nil => rfl
      | cons b B => simp at hl
    | cons a A ih =>
      cases B with
      | nil => simp at hl
      | cons b B =>
        rw [ordD] at h
        by_cases h1 : a < b
        · rw [if_pos h1] at h; omega
        · rw [if_neg h1] at h
          by_cases h2 : b < a
          · rw [if_pos h2] at h; omega
          · rw [if_neg h2] at h
            rw [ih (by simpa using hl) h, show a = b by omega]
  · rintro rfl; exact ord_self A
theorem ne_at {A B : List Int} (i : Nat) (h : iAt A i ≠ iAt B i) : decide (A = B) = false := by
  rw [decide_eq_false_iff_not]; rintro rfl; exact h rfl
set_option maxHeartbeats 12800000 in
set_option maxRecDepth 100000 in
theorem rOrder_any (a b : Option Addr) (c d : Nat) (A B : List Int) (hA : A.length ≤ 1000) (_hB : B.length ≤ 1000) (hl : A.length = B.length) (w : World) (h1 : IsAt w a A) (h2 : IsAt w b B) :
    Calls Try.prog 56 #[.slice a A.length c, .slice b B.length d] w (fun e w' => e = .returned (.int .i64 (ordD A B)) ∧ Below w.heap.size w w') := by
  have H1 := Lib.hid h1
  have H2 := Lib.hid h2
  have HLL := Lib.hid hl
  have HLT : Hid (∀ i, i < A.length → (∀ j, j < i → iAt A j = iAt B j) → iAt A i < iAt B i → ordD A B = -1) := Lib.hid fun i hi h h' => ord_lt i hi (by omega) h h'
  have HGT : Hid (∀ i, i < A.length → (∀ j, j < i → iAt A j = iAt B j) → iAt B i < iAt A i → ordD A B = 1) := Lib.hid fun i hi h h' => ord_gt i hi (by omega) h h'
  have HEQ : Hid ((∀ j, j < A.length → iAt A j = iAt B j) → ordD A B = 0) := Lib.hid fun h => (ord_zero hl).2 (eq_of_at hl h)
  generalize ordD A B = R at *
  clear h1 h2 hl
  go_enter Try.func56, Try.ntmps56
  go_wp2
  go_loopw [5] (fun x wr => ∃ i : Nat, i ≤ A.length ∧ x = .int .i64 i ∧ (∀ j, j < i → iAt A j = iAt B j) ∧ Below w.heap.size w wr) (fun x _ => A.length - (intOf x).toNat)
  case atStart => exact ⟨0, by omega, rfl, fun j hj => by omega, Below.refl _ _⟩
  case round =>
    obtain ⟨i, hi, rfl, hz, hb⟩ := hrel
    have HZ := Lib.hid hz
    have HB := Lib.hid hb
    by_cases hlt : i < A.length
    · have i1 : (i : Int) < (A.length : Int) := by omega
      have i2 : (0 : Int) ≤ (i : Int) := by omega
      have i3 : (i : Int) < (B.length : Int) := by have := HLL.out; omega
      obtain ⟨b1, o1, hb1, q1, x1⟩ := (H1.out.keep hb).one i hlt
      obtain ⟨b2, o2, hb2, q2, x2⟩ := (H2.out.keep hb).one i (by have := HLL.out; omega)
      subst hb1 hb2
      have HZN : Hid (iAt A i = iAt B i → ∀ j, j < i + 1 → iAt A j = iAt B j) := Lib.hid fun h0 j hj => by
        by_cases e : j = i
        · subst e; exact h0
        · exact HZ.out j (by omega)
      have HL1 := Lib.hid (HLT.out i hlt hz)
      have HG1 := Lib.hid (HGT.out i hlt hz)
      generalize iAt A i = x at *
      generalize iAt B i = y at *
      clear hz hb
      by_cases e1 : x < y
      · have HR := Lib.hid (HL1.out e1)
        go_wp2
        go_quiet (fail)
        go_wp2
        go_ret
        exact ⟨by rw [HR.out]; rfl, HB.out.trans ((below_drewN (Below.refl _ _) _).mono HB.out.size)⟩
      · by_cases e2 : y < x
        · have HR := Lib.hid (HG1.out e2)
          have e3 : ¬ x < y := by omega
          go_wp2
          go_quiet (fail)
          go_wp2
          go_quiet (fail)
          go_wp2
          go_ret
          exact ⟨by rw [HR.out]; rfl, HB.out.trans ((below_drewN (below_drewN (Below.refl _ _) _) _).mono HB.out.size)⟩
        · have HR := Lib.hid (HZN.out (by omega))
          go_wp2
          go_quiet (fail)
          go_wp2
          go_quiet (fail)
          go_wp2
          go_roundw
          case rel => exact ⟨i + 1, by omega, by go_num, HR.out, by first | exact HB.out.trans ((below_drewN (Below.refl _ _) _).mono HB.out.size) | exact HB.out.trans ((below_drewN (below_drewN (Below.refl _ _) _) _).mono HB.out.size)⟩
          case measure => simp [intOf]; omega
    · obtain rfl : i = A.length := by omega
      have i1 : ¬ (A.length : Int) < (A.length : Int) := by omega
      have HR := Lib.hid (HEQ.out hz)
      clear hz hb
      go_wp2
      go_ret
      exact ⟨by rw [HR.out]; rfl, HB.out⟩
set_option maxHeartbeats 12800000 in
set_option maxRecDepth 100000 in
theorem rSame_any (a b : Option Addr) (c d : Nat) (A B : List Int) (hA : A.length ≤ 1000) (hB : B.length ≤ 1000) (w : World) (h1 : IsAt w a A) (h2 : IsAt w b B) :
    Calls Try.prog 18 #[.slice a A.length c, .slice b B.length d] w (fun e w' => e = .returned (.bool (decide (A = B))) ∧ Below w.heap.size w w') := by
  have HO : Hid (A.length = B.length → Calls Try.prog 56 #[.slice a A.length c, .slice b B.length d] w (fun e w' => e = .returned (.int .i64 (ordD A B)) ∧ Below w.heap.size w w')) := Lib.hid fun hl => rOrder_any a b c d A B hA hB hl w h1 h2
  have HNL : Hid (A.length ≠ B.length → decide (A = B) = false) := Lib.hid fun h => by rw [decide_eq_false_iff_not]; rintro rfl; exact h rfl
  have HEQ : Hid (A.length = B.length → decide (A = B) = (ordD A B == 0)) := Lib.hid fun hl => by
    by_cases h : A = B
    · rw [decide_eq_true h, beq_iff_eq.2 ((ord_zero hl).2 h)]
    · rw [decide_eq_false h, beq_eq_false_iff_ne.2 (fun e => h ((ord_zero hl).1 e))]
  generalize decide (A = B) = R at *
  generalize ordD A B = O at *
  clear h1 h2
  go_enter Try.func18, Try.ntmps18
  by_cases hl : A.length = B.length
  · have d0 : ((A.length : Int) != (B.length : Int)) = false := by rw [bne_eq_false_iff_eq]; omega
    have HO1 := Lib.hid (HO.out hl)
    have HR := Lib.hid (HEQ.out hl)
    clear hl
    go_wp2_with fail
    refine HO1.out.mono ?_
    rintro e w1 ⟨rfl, hb⟩
    have HB := Lib.hid hb
    clear hb
    go_wp2
    go_ret
    exact ⟨by rw [HR.out]; rfl, HB.out⟩
  · have d0 : ((A.length : Int) != (B.length : Int)) = true := by rw [bne_iff_ne]; omega
    have HR := Lib.hid (HNL.out hl)
    go_wp2
    go_ret
    exact ⟨by rw [HR.out]; rfl, Below.refl _ _⟩
end Go.Proofs.Ytgejkgeojjgclaa
