/- Orders and equal lists, by both. -/
import Derived.Test.YtalbdggpghkcfaaCk
namespace Go.Proofs.Ytalbdggpghkcfaa
open Go.RowKit Go.Proofs.Gr Go.Proofs.Cp
attribute [local go_sem] Oper.semAt_some

theorem ord_lt {A B : List Int} (i : Nat) (hA : i < A.length) (hB : i < B.length) (h : ∀ j, j < i → iAt A j = iAt B j) (hl : iAt A i < iAt B i) : ordD A B = -1 := by
  induction A generalizing B i with
  | nil => simp at hA
  | cons a A ih =>
    cases B with
    | nil => simp at hB
    | cons b B =>
      rw [ordD]
      cases i with
      | zero => have : a < b := hl; rw [if_pos this]
      | succ i =>
        have h0 : a = b := h 0 (by omega)
        rw [if_neg (by omega), if_neg (by omega)]
        exact ih i (by simpa using hA) (by simpa using hB) (fun j hj => h (j + 1) (by omega)) hl
theorem ord_gt {A B : List Int} (i : Nat) (hA : i < A.length) (hB : i < B.length) (h : ∀ j, j < i → iAt A j = iAt B j) (hl : iAt B i < iAt A i) : ordD A B = 1 := by
  induction A generalizing B i with
  | nil => simp at hA
  | cons a A ih =>
    cases B with
    | nil => simp at hB
    | cons b B =>
      rw [ordD]
      cases i with
      | zero => have : b < a := hl; rw [if_neg (by omega), if_pos this]
      | succ i =>
        have h0 : a = b := h 0 (by omega)
        rw [if_neg (by omega), if_neg (by omega)]
        exact ih i (by simpa using hA) (by simpa using hB) (fun j hj => h (j + 1) (by omega)) hl
theorem ord_self (A : List Int) : ordD A A = 0 := by
  induction A with
  | nil => rfl
  | cons a A ih => rw [ordD, if_neg (by omega), if_neg (by omega), ih]
theorem eq_of_at {A B : List Int} (hl : A.length = B.length) (h : ∀ j, j < A.length → iAt A j = iAt B j) : A = B := by
  refine List.ext_getElem hl fun j h1 h2 => ?_
  rw [iAt_get A j h1, iAt_get B j h2, h j h1]
theorem ord_zero {A B : List Int} (hl : A.length = B.length) : ordD A B = 0 ↔ A = B := by
  constructor
  · intro h
    induction A generalizing B with
    | nil => cases B with
      | nil => rfl
      | cons b B => simp at hl
    | cons a A ih =>
      cases B with
      | nil => simp at hl
      | cons b B =>
        rw [ordD] at h
        by_cases h1 : a < b
        · rw [if_pos h1] at h; omega
        · rw [if_neg h1] at h
          by_cases h2 : b < a
          · rw [if_pos h2] at h; omega
          · rw [if_neg h2] at h
            rw [ih (by simpa using hl) h, show a = b by omega]
  · rintro rfl; exact ord_self A
theorem ne_at {A B : List Int} (i : Nat) (h : iAt A i ≠ iAt B i) : decide (A = B) = false := by
  rw [decide_eq_false_iff_not]; rintro rfl; exact h rfl
set_option maxHeartbeats 12800000 in
set_option maxRecDepth 100000 in
theorem rOrder_any (a b : Option Addr) (c d : Nat) (A B : List Int) (hA : A.length ≤ 1000) (_hB : B.length ≤ 1000) (hl : A.length = B.length) (w : World) (h1 : IsAt w a A) (h2 : IsAt w b B) :
    Calls Try.prog 54 #[.slice a A.length c, .slice b B.length d] w (fun e w' => e = .returned (.int .i64 (ordD A B)) ∧ Below w.heap.size w w') := by
  have H1 := Lib.hid h1
  have H2 := Lib.hid h2
  have HLL := Lib.hid hl
  have HLT : Hid (∀ i, i < A.length → (∀ j, j < i → iAt A j = iAt B j) → iAt A i < iAt B i → ordD A B = -1) := Lib.hid fun i hi h h' => ord_lt i hi (by omega) h h'
  have HGT : Hid (∀ i, i < A.length → (∀ j, j < i → iAt A j = iAt B j) → iAt B i < iAt A i → ordD A B = 1) := Lib.hid fun i hi h h' => ord_gt i hi (by omega) h h'
  have HEQ : Hid ((∀ j, j < A.length → iAt A j = iAt B j) → ordD A B = 0) := Lib.hid fun h => (ord_zero hl).2 (eq_of_at hl h)
  generalize ordD A B = R at *
  clear h1 h2 hl
  go_enter Try.func54, Try.ntmps54
  go_wp2
  go_loopw [5] (fun x wr => ∃ i : Nat, i ≤ A.length ∧ x = .int .i64 i ∧ (∀ j, j < i → iAt A j = iAt B j) ∧ Below w.heap.size w wr) (fun x _ => A.length - (intOf x).toNat)
  case atStart => exact ⟨0, by omega, rfl, fun j hj => by omega, Below.refl _ _⟩
  case round =>
    obtain ⟨i, hi, rfl, hz, hb⟩ := hrel
    have HZ := Lib.hid hz
    have HB := Lib.hid hb
    by_cases hlt : i < A.length
    · have i1 : (i : Int) < (A.length : Int) := by omega
      have i2 : (0 : Int) ≤ (i : Int) := by omega
      have i3 : (i : Int) < (B.length : Int) := by have := HLL.out; omega
      obtain ⟨b1, o1, hb1, q1, x1⟩ := (H1.out.keep hb).one i hlt
      obtain ⟨b2, o2, hb2, q2, x2⟩ := (H2.out.keep hb).one i (by have := HLL.out; omega)
      subst hb1 hb2
      have HZN : Hid (iAt A i = iAt B i → ∀ j, j < i + 1 → iAt A j = iAt B j) := Lib.hid fun h0 j hj => by
        by_cases e : j = i
        · subst e; exact h0
        · exact HZ.out j (by omega)
      have HL1 := Lib.hid (HLT.out i hlt hz)
      have HG1 := Lib.hid (HGT.out i hlt hz)
      generalize iAt A i = x at *
      generalize iAt B i = y at *
      clear hz hb
      by_cases e1 : x < y
      · have HR := Lib.hid (HL1.out e1)
        go_wp2
        go_quiet (fail)
        go_wp2
        go_ret
        exact ⟨by rw [HR.out]; rfl, HB.out.trans ((below_drewN (Below.refl _ _) _).mono HB.out.size)⟩
      · by_cases e2 : y < x
        · have HR := Lib.hid (HG1.out e2)
          have e3 : ¬ x < y := by omega
          go_wp2
          go_quiet (fail)
          go_wp2
          go_quiet (fail)
          go_wp2
          go_ret
          exact ⟨by rw [HR.out]; rfl, HB.out.trans ((below_drewN (below_drewN (Below.refl _ _) _) _).mono HB.out.size)⟩
        · have HR := Lib.hid (HZN.out (by omega))
          go_wp2
          go_quiet (fail)
          go_wp2
          go_quiet (fail)
          go_wp2
          go_roundw
          case rel => exact ⟨i + 1, by omega, by go_num, HR.out, by first | exact HB.out.trans ((below_drewN (Below.refl _ _) _).mono HB.out.size) | exact HB.out.trans ((below_drewN (below_drewN (Below.refl _ _) _) _).mono HB.out.size)⟩
          case measure => simp [intOf]; omega
    · obtain rfl : i = A.length := by omega
      have i1 : ¬ (A.length : Int) < (A.length : Int) := by omega
      have HR := Lib.hid (HEQ.out hz)
      clear hz hb
      go_wp2
      go_ret
      exact ⟨by rw [HR.out]; rfl, HB.out⟩
set_option maxHeartbeats 12800000 in
set_option maxRecDepth 100000 in
theorem rSameInts_any (a b : Option Addr) (c d : Nat) (A B : List Int) (hA : A.length ≤ 1000) (hB : B.length ≤ 1000) (w : World) (h1 : IsAt w a A) (h2 : IsAt w b B) :
    Calls Try.prog 37 #[.slice a A.length c, .slice b B.length d] w (fun e w' => e = .returned (.bool (decide (A = B))) ∧ Below w.heap.size w w') := by
  have H1 := Lib.hid h1
  have H2 := Lib.hid h2
  have HNE := Lib.hid (fun i h => ne_at (A := A) (B := B) i h)
  have HNL : Hid (A.length ≠ B.length → decide (A = B) = false) := Lib.hid fun h => by rw [decide_eq_false_iff_not]; rintro rfl; exact h rfl
  have HEQ : Hid (A.length = B.length → (∀ j, j < A.length → iAt A j = iAt B j) → decide (A = B) = true) := Lib.hid fun hl h => decide_eq_true (eq_of_at hl h)
  generalize decide (A = B) = R at *
  clear h1 h2
  go_enter Try.func37, Try.ntmps37
  by_cases hl : A.length = B.length
  · have d0 : ((A.length : Int) != (B.length : Int)) = false := by rw [bne_eq_false_iff_eq]; omega
    have HLL := Lib.hid hl
    have HE2 := Lib.hid (HEQ.out hl)
    clear hl
    go_wp2
    go_loopw [5] (fun x wr => ∃ i : Nat, i ≤ A.length ∧ x = .int .i64 i ∧ (∀ j, j < i → iAt A j = iAt B j) ∧ Below w.heap.size w wr) (fun x _ => A.length - (intOf x).toNat)
    case atStart => exact ⟨0, by omega, rfl, fun j hj => by omega, Below.refl _ _⟩
    case round =>
      obtain ⟨i, hi, rfl, hz, hb⟩ := hrel
      have HZ := Lib.hid hz
      have HB := Lib.hid hb
      by_cases hlt : i < A.length
      · have i1 : (i : Int) < (A.length : Int) := by omega
        have i2 : (0 : Int) ≤ (i : Int) := by omega
        have i3 : (i : Int) < (B.length : Int) := by have := HLL.out; omega
        obtain ⟨b1, o1, hb1, q1, x1⟩ := (H1.out.keep hb).one i hlt
        obtain ⟨b2, o2, hb2, q2, x2⟩ := (H2.out.keep hb).one i (by have := HLL.out; omega)
        subst hb1 hb2
        have HZN : Hid (iAt A i = iAt B i → ∀ j, j < i + 1 → iAt A j = iAt B j) := Lib.hid fun h0 j hj => by
          by_cases e : j = i
          · subst e; exact h0
          · exact HZ.out j (by omega)
        have HN1 := Lib.hid (HNE.out i)
        generalize iAt A i = x at *
        generalize iAt B i = y at *
        clear hz hb
        by_cases e1 : x = y
        · have d1 : (x != y) = false := by rw [bne_eq_false_iff_eq]; exact e1
          have HR := Lib.hid (HZN.out e1)
          clear e1
          go_wp2
          go_quiet (fail)
          go_wp2
          go_roundw
          case rel => exact ⟨i + 1, by omega, by go_num, HR.out, HB.out.trans ((below_drewN (Below.refl _ _) _).mono HB.out.size)⟩
          case measure => simp [intOf]; omega
        · have d1 : (x != y) = true := by rw [bne_iff_ne]; exact e1
          have HR := Lib.hid (HN1.out e1)
          clear e1
          go_wp2
          go_quiet (fail)
          go_wp2
          go_ret
          exact ⟨by rw [HR.out]; rfl, HB.out.trans ((below_drewN (Below.refl _ _) _).mono HB.out.size)⟩
      · obtain rfl : i = A.length := by omega
        have i1 : ¬ (A.length : Int) < (A.length : Int) := by omega
        have HR := Lib.hid (HE2.out hz)
        clear hz hb
        go_wp2
        go_ret
        exact ⟨by rw [HR.out]; rfl, HB.out⟩
  · have d0 : ((A.length : Int) != (B.length : Int)) = true := by rw [bne_iff_ne]; omega
    have HR := Lib.hid (HNL.out hl)
    go_wp2
    go_ret
    exact ⟨by rw [HR.out]; rfl, Below.refl _ _⟩
set_option maxHeartbeats 12800000 in
set_option maxRecDepth 100000 in
theorem pEqualI_any (a b : Option Addr) (c d : Nat) (A B : List Int) (hA : A.length ≤ 1000) (hB : B.length ≤ 1000) (w : World) (h1 : IsAt w a A) (h2 : IsAt w b B) :
    Calls Try.prog 55 #[.slice a A.length c, .slice b B.length d] w (fun e w' => e = .returned (.bool (decide (A = B))) ∧ Below w.heap.size w w') := by
  have H1 := Lib.hid h1
  have H2 := Lib.hid h2
  have HNE := Lib.hid (fun i h => ne_at (A := A) (B := B) i h)
  have HNL : Hid (A.length ≠ B.length → decide (A = B) = false) := Lib.hid fun h => by rw [decide_eq_false_iff_not]; rintro rfl; exact h rfl
  have HEQ : Hid (A.length = B.length → (∀ j, j < A.length → iAt A j = iAt B j) → decide (A = B) = true) := Lib.hid fun hl h => decide_eq_true (eq_of_at hl h)
  generalize decide (A = B) = R at *
  clear h1 h2
  go_enter Try.func55, Try.ntmps55
  by_cases hl : A.length = B.length
  · have d0 : ((A.length : Int) != (B.length : Int)) = false := by rw [bne_eq_false_iff_eq]; omega
    have HLL := Lib.hid hl
    have HE2 := Lib.hid (HEQ.out hl)
    clear hl
    go_wp2
    go_loopw [13] (fun x wr => ∃ i : Nat, i ≤ A.length ∧ x = .int .i64 i ∧ (∀ j, j < i → iAt A j = iAt B j) ∧ Below w.heap.size w wr) (fun x _ => A.length - (intOf x).toNat)
    case atStart => exact ⟨0, by omega, rfl, fun j hj => by omega, Below.refl _ _⟩
    case round =>
      obtain ⟨i, hi, rfl, hz, hb⟩ := hrel
      have HZ := Lib.hid hz
      have HB := Lib.hid hb
      by_cases hlt : i < A.length
      · have i1 : (i : Int) < (A.length : Int) := by omega
        have i2 : (0 : Int) ≤ (i : Int) := by omega
        have i3 : (i : Int) < (B.length : Int) := by have := HLL.out; omega
        obtain ⟨b1, o1, hb1, q1, x1⟩ := (H1.out.keep hb).one i hlt
        obtain ⟨b2, o2, hb2, q2, x2⟩ := (H2.out.keep hb).one i (by have := HLL.out; omega)
        subst hb1 hb2
        have HZN : Hid (iAt A i = iAt B i → ∀ j, j < i + 1 → iAt A j = iAt B j) := Lib.hid fun h0 j hj => by
          by_cases e : j = i
          · subst e; exact h0
          · exact HZ.out j (by omega)
        have HN1 := Lib.hid (HNE.out i)
        generalize iAt A i = x at *
        generalize iAt B i = y at *
        clear hz hb
        by_cases e1 : x = y
        · have d1 : (x != y) = false := by rw [bne_eq_false_iff_eq]; exact e1
          have HR := Lib.hid (HZN.out e1)
          clear e1
          go_wp2
          go_quiet (fail)
          go_wp2
          go_roundw
          case rel => exact ⟨i + 1, by omega, by go_num, HR.out, HB.out.trans ((below_drewN (Below.refl _ _) _).mono HB.out.size)⟩
          case measure => simp [intOf]; omega
        · have d1 : (x != y) = true := by rw [bne_iff_ne]; exact e1
          have HR := Lib.hid (HN1.out e1)
          clear e1
          go_wp2
          go_quiet (fail)
          go_wp2
          go_ret
          exact ⟨by rw [HR.out]; rfl, HB.out.trans ((below_drewN (Below.refl _ _) _).mono HB.out.size)⟩
      · obtain rfl : i = A.length := by omega
        have i1 : ¬ (A.length : Int) < (A.length : Int) := by omega
        have HR := Lib.hid (HE2.out hz)
        clear hz hb
        go_wp2
        go_ret
        exact ⟨by rw [HR.out]; rfl, HB.out⟩
  · have d0 : ((A.length : Int) != (B.length : Int)) = true := by rw [bne_iff_ne]; omega
    have HR := Lib.hid (HNL.out hl)
    go_wp2
    go_ret
    exact ⟨by rw [HR.out]; rfl, Below.refl _ _⟩
set_option maxHeartbeats 12800000 in
set_option maxRecDepth 100000 in
theorem pEqualD_any (a b : Option Addr) (c d : Nat) (A B : List Int) (hA : A.length ≤ 1000) (hB : B.length ≤ 1000) (w : World) (h1 : IsAt w a A) (h2 : IsAt w b B) :
    Calls Try.prog 72 #[.slice a A.length c, .slice b B.length d] w (fun e w' => e = .returned (.bool (decide (A = B))) ∧ Below w.heap.size w w') := by
  have H1 := Lib.hid h1
  have H2 := Lib.hid h2
  have HNE := Lib.hid (fun i h => ne_at (A := A) (B := B) i h)
  have HNL : Hid (A.length ≠ B.length → decide (A = B) = false) := Lib.hid fun h => by rw [decide_eq_false_iff_not]; rintro rfl; exact h rfl
  have HEQ : Hid (A.length = B.length → (∀ j, j < A.length → iAt A j = iAt B j) → decide (A = B) = true) := Lib.hid fun hl h => decide_eq_true (eq_of_at hl h)
  generalize decide (A = B) = R at *
  clear h1 h2
  go_enter Try.func72, Try.ntmps72
  by_cases hl : A.length = B.length
  · have d0 : ((A.length : Int) != (B.length : Int)) = false := by rw [bne_eq_false_iff_eq]; omega
    have HLL := Lib.hid hl
    have HE2 := Lib.hid (HEQ.out hl)
    clear hl
    go_wp2
    go_loopw [13] (fun x wr => ∃ i : Nat, i ≤ A.length ∧ x = .int .i64 i ∧ (∀ j, j < i → iAt A j = iAt B j) ∧ Below w.heap.size w wr) (fun x _ => A.length - (intOf x).toNat)
    case atStart => exact ⟨0, by omega, rfl, fun j hj => by omega, Below.refl _ _⟩
    case round =>
      obtain ⟨i, hi, rfl, hz, hb⟩ := hrel
      have HZ := Lib.hid hz
      have HB := Lib.hid hb
      by_cases hlt : i < A.length
      · have i1 : (i : Int) < (A.length : Int) := by omega
        have i2 : (0 : Int) ≤ (i : Int) := by omega
        have i3 : (i : Int) < (B.length : Int) := by have := HLL.out; omega
        obtain ⟨b1, o1, hb1, q1, x1⟩ := (H1.out.keep hb).one i hlt
        obtain ⟨b2, o2, hb2, q2, x2⟩ := (H2.out.keep hb).one i (by have := HLL.out; omega)
        subst hb1 hb2
        have HZN : Hid (iAt A i = iAt B i → ∀ j, j < i + 1 → iAt A j = iAt B j) := Lib.hid fun h0 j hj => by
          by_cases e : j = i
          · subst e; exact h0
          · exact HZ.out j (by omega)
        have HN1 := Lib.hid (HNE.out i)
        generalize iAt A i = x at *
        generalize iAt B i = y at *
        clear hz hb
        by_cases e1 : x = y
        · have d1 : (x != y) = false := by rw [bne_eq_false_iff_eq]; exact e1
          have HR := Lib.hid (HZN.out e1)
          clear e1
          go_wp2
          go_quiet (fail)
          go_wp2
          go_roundw
          case rel => exact ⟨i + 1, by omega, by go_num, HR.out, HB.out.trans ((below_drewN (Below.refl _ _) _).mono HB.out.size)⟩
          case measure => simp [intOf]; omega
        · have d1 : (x != y) = true := by rw [bne_iff_ne]; exact e1
          have HR := Lib.hid (HN1.out e1)
          clear e1
          go_wp2
          go_quiet (fail)
          go_wp2
          go_ret
          exact ⟨by rw [HR.out]; rfl, HB.out.trans ((below_drewN (Below.refl _ _) _).mono HB.out.size)⟩
      · obtain rfl : i = A.length := by omega
        have i1 : ¬ (A.length : Int) < (A.length : Int) := by omega
        have HR := Lib.hid (HE2.out hz)
        clear hz hb
        go_wp2
        go_ret
        exact ⟨by rw [HR.out]; rfl, HB.out⟩
  · have d0 : ((A.length : Int) != (B.length : Int)) = true := by rw [bne_iff_ne]; omega
    have HR := Lib.hid (HNL.out hl)
    go_wp2
    go_ret
    exact ⟨by rw [HR.out]; rfl, Below.refl _ _⟩
set_option maxHeartbeats 12800000 in
set_option maxRecDepth 100000 in
theorem rSame_any (a b : Option Addr) (c d : Nat) (A B : List Int) (hA : A.length ≤ 1000) (hB : B.length ≤ 1000) (w : World) (h1 : IsAt w a A) (h2 : IsAt w b B) :
    Calls Try.prog 20 #[.slice a A.length c, .slice b B.length d] w (fun e w' => e = .returned (.bool (decide (A = B))) ∧ Below w.heap.size w w') := by
  have HO : Hid (A.length = B.length → Calls Try.prog 54 #[.slice a A.length c, .slice b B.length d] w (fun e w' => e = .returned (.int .i64 (ordD A B)) ∧ Below w.heap.size w w')) := Lib.hid fun hl => rOrder_any a b c d A B hA hB hl w h1 h2
  have HNL : Hid (A.length ≠ B.length → decide (A = B) = false) := Lib.hid fun h => by rw [decide_eq_false_iff_not]; rintro rfl; exact h rfl
  have HEQ : Hid (A.length = B.length → decide (A = B) = (ordD A B == 0)) := Lib.hid fun hl => by
    by_cases h : A = B
    · rw [decide_eq_true h, beq_iff_eq.2 ((ord_zero hl).2 h)]
    · rw [decide_eq_false h, beq_eq_false_iff_ne.2 (fun e => h ((ord_zero hl).1 e))]
  generalize decide (A = B) = R at *
  generalize ordD A B = O at *
  clear h1 h2
  go_enter Try.func20, Try.ntmps20
  by_cases hl : A.length = B.length
  · have d0 : ((A.length : Int) != (B.length : Int)) = false := by rw [bne_eq_false_iff_eq]; omega
    have HO1 := Lib.hid (HO.out hl)
    have HR := Lib.hid (HEQ.out hl)
    clear hl
    go_wp2_with fail
    refine HO1.out.mono ?_
    rintro e w1 ⟨rfl, hb⟩
    have HB := Lib.hid hb
    clear hb
    go_wp2
    go_ret
    exact ⟨by rw [HR.out]; rfl, HB.out⟩
  · have d0 : ((A.length : Int) != (B.length : Int)) = true := by rw [bne_iff_ne]; omega
    have HR := Lib.hid (HNL.out hl)
    go_wp2
    go_ret
    exact ⟨by rw [HR.out]; rfl, Below.refl _ _⟩
def cmpI (x y : Int) : Int := if x < y then -1 else if y < x then 1 else 0
set_option maxHeartbeats 12800000 in
set_option maxRecDepth 100000 in
theorem isNaN_any (x : Int) (w : World) :
    Calls Try.prog 84 #[.int .i64 x] w (fun e w' => e = .returned (.bool false) ∧ w = w') := by
  have d0 : (x != x) = false := by simp
  go_enter Try.func84, Try.ntmps84
  go_wp2
  go_ret
  exact ⟨rfl, rfl⟩
set_option maxHeartbeats 12800000 in
set_option maxRecDepth 100000 in
theorem cmp_any (x y : Int) (w : World) :
    Calls Try.prog 83 #[.int .i64 x, .int .i64 y] w (fun e w' => e = .returned (.int .i64 (cmpI x y)) ∧ w = w') := by
  have HN := Lib.hid (fun x w => isNaN_any x w)
  have HE : Hid (cmpI x y = if x < y then -1 else if y < x then 1 else 0) := Lib.hid rfl
  generalize cmpI x y = R at *
  go_enter Try.func83, Try.ntmps83
  go_wp2_with fail
  refine (HN.out x w).mono ?_
  rintro e w1 ⟨rfl, rfl⟩
  go_wp2_with fail
  refine (HN.out y w).mono ?_
  rintro e w1 ⟨rfl, rfl⟩
  by_cases h1 : x < y
  · have HR : Hid (R = -1) := Lib.hid (by rw [HE.out, if_pos h1])
    go_wp2
    go_ret
    exact ⟨by rw [HR.out]; rfl, rfl⟩
  · by_cases h2 : y < x
    · have HR : Hid (R = 1) := Lib.hid (by rw [HE.out, if_neg h1, if_pos h2])
      go_wp2
      go_ret
      exact ⟨by rw [HR.out]; rfl, rfl⟩
    · have HR : Hid (R = 0) := Lib.hid (by rw [HE.out, if_neg h1, if_neg h2])
      go_wp2
      go_ret
      exact ⟨by rw [HR.out]; rfl, rfl⟩
set_option maxHeartbeats 12800000 in
set_option maxRecDepth 100000 in
theorem pcompare_any (a b : Option Addr) (c d : Nat) (A B : List Int) (hA : A.length ≤ 1000) (_hB : B.length ≤ 1000) (hl : A.length = B.length) (w : World) (h1 : IsAt w a A) (h2 : IsAt w b B) :
    Calls Try.prog 71 #[.slice a A.length c, .slice b B.length d] w (fun e w' => e = .returned (.int .i64 (ordD A B)) ∧ Below w.heap.size w w') := by
  have H1 := Lib.hid h1
  have H2 := Lib.hid h2
  have HLL := Lib.hid hl
  have HCM := Lib.hid (fun x y w => cmp_any x y w)
  have HLT : Hid (∀ i, i < A.length → (∀ j, j < i → iAt A j = iAt B j) → cmpI (iAt A i) (iAt B i) ≠ 0 → ordD A B = cmpI (iAt A i) (iAt B i)) := Lib.hid fun i hi h h' => by
    unfold cmpI at *
    by_cases e1 : iAt A i < iAt B i
    · rw [if_pos e1]; exact ord_lt i hi (by omega) h e1
    · rw [if_neg e1] at h' ⊢
      by_cases e2 : iAt B i < iAt A i
      · rw [if_pos e2]; exact ord_gt i hi (by omega) h e2
      · rw [if_neg e2] at h'; exact absurd rfl h'
  have HC0 : Hid (∀ x y, cmpI x y = 0 → x = y) := Lib.hid fun x y h => by
    unfold cmpI at h
    by_cases e1 : x < y
    · rw [if_pos e1] at h; omega
    · rw [if_neg e1] at h
      by_cases e2 : y < x
      · rw [if_pos e2] at h; omega
      · omega
  have HEQ : Hid ((∀ j, j < A.length → iAt A j = iAt B j) → ordD A B = 0) := Lib.hid fun h => (ord_zero hl).2 (eq_of_at hl h)
  generalize ordD A B = R at *
  have hge : ¬ (A.length : Int) < (B.length : Int) := by omega
  clear h1 h2 hl
  go_enter Try.func71, Try.ntmps71
  go_wp2
  go_loopw [11] (fun x wr => ∃ i : Nat, i ≤ A.length ∧ x = .int .i64 i ∧ (∀ j, j < i → iAt A j = iAt B j) ∧ Below w.heap.size w wr) (fun x _ => A.length - (intOf x).toNat)
  case atStart => exact ⟨0, by omega, rfl, fun j hj => by omega, Below.refl _ _⟩
  case round =>
    obtain ⟨i, hi, rfl, hz, hb⟩ := hrel
    have HZ := Lib.hid hz
    have HB := Lib.hid hb
    by_cases hlt : i < A.length
    · have i1 : (i : Int) < (A.length : Int) := by omega
      have i2 : (0 : Int) ≤ (i : Int) := by omega
      have i3 : (i : Int) < (B.length : Int) := by have := HLL.out; omega
      obtain ⟨b1, o1, hb1, q1, x1⟩ := (H1.out.keep hb).one i hlt
      obtain ⟨b2, o2, hb2, q2, x2⟩ := (H2.out.keep hb).one i (by have := HLL.out; omega)
      subst hb1 hb2
      have HZN : Hid (iAt A i = iAt B i → ∀ j, j < i + 1 → iAt A j = iAt B j) := Lib.hid fun h0 j hj => by
        by_cases e : j = i
        · subst e; exact h0
        · exact HZ.out j (by omega)
      have HL1 := Lib.hid (HLT.out i hlt hz)
      have HC1 := Lib.hid (HC0.out (iAt A i) (iAt B i))
      have i4 : ¬ (B.length : Int) ≤ (i : Int) := by omega
      generalize iAt A i = x at *
      generalize iAt B i = y at *
      clear hz hb
      go_wp2_with fail
      refine (HCM.out x y _).mono ?_
      rintro e w1 ⟨rfl, rfl⟩
      generalize cmpI x y = r at *
      by_cases e1 : r = 0
      · have d1 : (r != 0) = false := by rw [bne_eq_false_iff_eq]; exact e1
        have HR := Lib.hid (HZN.out (HC1.out e1))
        clear e1
        go_wp2
        go_roundw
        case rel => exact ⟨i + 1, by omega, by go_num, HR.out, HB.out⟩
        case measure => simp [intOf]; omega
      · have d1 : (r != 0) = true := by rw [bne_iff_ne]; exact e1
        have HR := Lib.hid (HL1.out e1)
        clear e1
        go_wp2
        go_ret
        exact ⟨by rw [HR.out]; rfl, HB.out⟩
    · obtain rfl : i = A.length := by omega
      have i1 : ¬ (A.length : Int) < (A.length : Int) := by omega
      have HR := Lib.hid (HEQ.out hz)
      clear hz hb
      go_wp2
      go_ret
      exact ⟨by rw [HR.out]; rfl, HB.out⟩
end Go.Proofs.Ytalbdggpghkcfaa
