/- Compare and Above of both; Meet, Join, Add, Sub, Neg, Scale of the reference. -/
import Derived.Test.YtalbdggpghkcfaaCo
import Derived.Test.YtalbdggpghkcfaaCj
import Derived.Lib.MinMax
namespace Go.Proofs.Ytalbdggpghkcfaa
open Go.RowKit Go.Proofs.Gr Go.Proofs.Cp
attribute [local go_sem] Oper.semAt_some

def cmpV (A B : List Int) : Int := if bothD A B = 0 then ordD A B else 0
def abvB (A B : List Int) : Bool := decide (∀ j, j < A.length → iAt B j ≤ iAt A j)
def abvV (A B : List Int) : Bool := if bothD A B = 0 then abvB A B else false
theorem zip_at (f : Int → Int → Int) {A B : List Int} (h : A.length = B.length) (j : Nat) (hj : j < A.length) : iAt (zipD f A B) j = f (iAt A j) (iAt B j) := by
  unfold zipD
  rw [← iAt_get _ j (by rw [List.length_zipWith]; omega), List.getElem_zipWith, iAt_get A j hj, iAt_get B j (by omega)]
theorem zip_rng {f : Int → Int → Int} {A B : List Int} (h : ∀ x y, -1048576 ≤ x ∧ x ≤ 1048576 → -1048576 ≤ y ∧ y ≤ 1048576 → -1048576 ≤ f x y ∧ f x y ≤ 1048576) (hA : Div A) (hB : Div B) (hl : A.length = B.length) : (zipD f A B).any big = false := by
  refine any_of fun z hz => ?_
  obtain ⟨j, hj, rfl⟩ := List.getElem_of_mem hz
  rw [zip_len f hl] at hj
  rw [iAt_get _ j (by rw [zip_len f hl]; exact hj), zip_at f hl j hj]
  exact h _ _ (div_at hA j hj) (div_at hB j (by omega))
theorem cmb_ok {f : Int → Int → Int} {A B : List Int} (hb : bothD A B = 0) (ha : (zipD f A B).any big = false) : cmbK f A B = 0 ∧ cmbL f A B = zipD f A B := by
  have h : cmbK f A B = 0 := by unfold cmbK; rw [if_neg (by omega), if_neg (by rw [ha]; simp)]
  exact ⟨h, by unfold cmbL; rw [if_pos h]⟩
theorem cmb_err {f : Int → Int → Int} {A B : List Int} (hb : bothD A B ≠ 0) : cmbK f A B = bothD A B ∧ cmbL f A B = [] := by
  have h : cmbK f A B = bothD A B := by unfold cmbK; rw [if_pos hb]
  exact ⟨h, by unfold cmbL; rw [h, if_neg hb]⟩
theorem cmb_big {f : Int → Int → Int} {A B : List Int} (hb : bothD A B = 0) (ha : (zipD f A B).any big = true) : cmbK f A B = 11 ∧ cmbL f A B = [] := by
  have h : cmbK f A B = 11 := by unfold cmbK; rw [if_neg (by omega), if_pos ha]
  exact ⟨h, by unfold cmbL; rw [h, if_neg (by omega)]⟩
theorem min_rng (x y : Int) (hx : -1048576 ≤ x ∧ x ≤ 1048576) (hy : -1048576 ≤ y ∧ y ≤ 1048576) : -1048576 ≤ min x y ∧ min x y ≤ 1048576 := by omega
theorem max_rng (x y : Int) (hx : -1048576 ≤ x ∧ x ≤ 1048576) (hy : -1048576 ≤ y ∧ y ≤ 1048576) : -1048576 ≤ max x y ∧ max x y ≤ 1048576 := by omega
/-- Meet and Join are never too large. -/
theorem meet_ok (A B : List Int) : cmbK (fun x y => min x y) A B = bothD A B ∧ (bothD A B = 0 → cmbL (fun x y => min x y) A B = zipD (fun x y => min x y) A B) := by
  by_cases hb : bothD A B = 0
  · obtain ⟨h1, h2, h3⟩ := both_div hb
    obtain ⟨e1, e2⟩ := cmb_ok (f := fun x y => min x y) hb (zip_rng min_rng h1 h2 h3)
    exact ⟨by rw [e1, hb], fun _ => e2⟩
  · exact ⟨(cmb_err hb).1, fun h => absurd h hb⟩
theorem join_ok (A B : List Int) : cmbK (fun x y => max x y) A B = bothD A B ∧ (bothD A B = 0 → cmbL (fun x y => max x y) A B = zipD (fun x y => max x y) A B) := by
  by_cases hb : bothD A B = 0
  · obtain ⟨h1, h2, h3⟩ := both_div hb
    obtain ⟨e1, e2⟩ := cmb_ok (f := fun x y => max x y) hb (zip_rng max_rng h1 h2 h3)
    exact ⟨by rw [e1, hb], fun _ => e2⟩
  · exact ⟨(cmb_err hb).1, fun h => absurd h hb⟩
theorem abv_meet {A B : List Int} (h : A.length = B.length) : decide (zipD (fun x y => min x y) A B = B) = abvB A B := by
  unfold abvB
  by_cases hh : ∀ j, j < A.length → iAt B j ≤ iAt A j
  · rw [decide_eq_true hh, decide_eq_true]
    refine eq_of_at (by rw [zip_len _ h]; exact h) fun j hj => ?_
    rw [zip_len _ h] at hj
    rw [zip_at _ h j hj]
    have := hh j hj
    omega
  · rw [decide_eq_false hh, decide_eq_false]
    intro e
    apply hh
    intro j hj
    have := zip_at (fun x y => min x y) h j hj
    rw [e] at this
    have this := this
    omega
set_option maxHeartbeats 12800000 in
set_option maxRecDepth 100000 in
theorem pCompare_any (a b : Option Addr) (c d : Nat) (A B : List Int) (hA : A.length ≤ 1000) (hB : B.length ≤ 1000) (w : World) (h1 : IsAt w a A) (h2 : IsAt w b B) :
    Calls Try.prog 38 #[.slice a A.length c, .slice b B.length d] w (fun e w' => e = .returned (.tuple #[.int .i64 (cmpV A B), .int .i64 (bothD A B : Nat)]) ∧ Below w.heap.size w w') := by
  have HC := Lib.hid (check2_any a b c d A B hA hB w h1 h2)
  have H1 := Lib.hid h1
  have H2 := Lib.hid h2
  have HF : Hid (bothD A B = 0 → ∀ u, IsAt u a A → IsAt u b B → Calls Try.prog 71 #[.slice a A.length c, .slice b B.length d] u (fun e u' => e = .returned (.int .i64 (ordD A B)) ∧ Below u.heap.size u u')) := Lib.hid fun hz u ha hb => pcompare_any a b c d A B hA hB (both_div hz).2.2 u ha hb
  have HV : Hid (bothD A B = 0 → cmpV A B = ordD A B) := Lib.hid fun hz => by unfold cmpV; rw [if_pos hz]
  have HV2 : Hid (bothD A B ≠ 0 → cmpV A B = 0) := Lib.hid fun hz => by unfold cmpV; rw [if_neg hz]
  generalize cmpV A B = R at *
  generalize ordD A B = S at *
  generalize bothD A B = k at *
  clear h1 h2
  go_enter Try.func38, Try.ntmps38
  go_wp2_with fail
  refine HC.out.mono ?_
  rintro e w1 ⟨rfl, hb⟩
  have HB1 := Lib.hid hb
  clear hb
  by_cases hk : k = 0
  · have HF1 := Lib.hid (HF.out hk)
    have HR := Lib.hid (HV.out hk)
    subst hk
    go_wp2_with fail
    refine (HF1.out w1 (H1.out.keep HB1.out) (H2.out.keep HB1.out)).mono ?_
    rintro e w2 ⟨rfl, hb⟩
    have HB2 := Lib.hid (HB1.out.trans (hb.mono HB1.out.size))
    clear hb
    go_wp2
    go_ret2
    exact ⟨by rw [HR.out]; rfl, HB2.out⟩
  · have q0 : (((k : Nat) : Int) != 0) = true := by rw [bne_iff_ne]; omega
    have HR := Lib.hid (HV2.out hk)
    clear hk
    go_wp2
    go_ret2
    exact ⟨by rw [HR.out]; rfl, HB1.out⟩
set_option maxHeartbeats 12800000 in
set_option maxRecDepth 100000 in
theorem rCompare_any (a b : Option Addr) (c d : Nat) (A B : List Int) (hA : A.length ≤ 1000) (hB : B.length ≤ 1000) (w : World) (h1 : IsAt w a A) (h2 : IsAt w b B) :
    Calls Try.prog 39 #[.slice a A.length c, .slice b B.length d] w (fun e w' => e = .returned (.tuple #[.int .i64 (cmpV A B), .int .i64 (bothD A B : Nat)]) ∧ Below w.heap.size w w') := by
  have HC := Lib.hid (rBoth_any a b c d A B hA hB w h1 h2)
  have H1 := Lib.hid h1
  have H2 := Lib.hid h2
  have HF : Hid (bothD A B = 0 → ∀ u, IsAt u a A → IsAt u b B → Calls Try.prog 54 #[.slice a A.length c, .slice b B.length d] u (fun e u' => e = .returned (.int .i64 (ordD A B)) ∧ Below u.heap.size u u')) := Lib.hid fun hz u ha hb => rOrder_any a b c d A B hA hB (both_div hz).2.2 u ha hb
  have HV : Hid (bothD A B = 0 → cmpV A B = ordD A B) := Lib.hid fun hz => by unfold cmpV; rw [if_pos hz]
  have HV2 : Hid (bothD A B ≠ 0 → cmpV A B = 0) := Lib.hid fun hz => by unfold cmpV; rw [if_neg hz]
  generalize cmpV A B = R at *
  generalize ordD A B = S at *
  generalize bothD A B = k at *
  clear h1 h2
  go_enter Try.func39, Try.ntmps39
  go_wp2_with fail
  refine HC.out.mono ?_
  rintro e w1 ⟨rfl, hb⟩
  have HB1 := Lib.hid hb
  clear hb
  by_cases hk : k = 0
  · have HF1 := Lib.hid (HF.out hk)
    have HR := Lib.hid (HV.out hk)
    subst hk
    go_wp2_with fail
    refine (HF1.out w1 (H1.out.keep HB1.out) (H2.out.keep HB1.out)).mono ?_
    rintro e w2 ⟨rfl, hb⟩
    have HB2 := Lib.hid (HB1.out.trans (hb.mono HB1.out.size))
    clear hb
    go_wp2
    go_ret2
    exact ⟨by rw [HR.out]; rfl, HB2.out⟩
  · have q0 : (((k : Nat) : Int) != 0) = true := by rw [bne_iff_ne]; omega
    have HR := Lib.hid (HV2.out hk)
    clear hk
    go_wp2
    go_ret2
    exact ⟨by rw [HR.out]; rfl, HB1.out⟩
set_option maxHeartbeats 12800000 in
set_option maxRecDepth 100000 in
theorem pAbove_any (a b : Option Addr) (c d : Nat) (A B : List Int) (hA : A.length ≤ 1000) (hB : B.length ≤ 1000) (w : World) (h1 : IsAt w a A) (h2 : IsAt w b B) :
    Calls Try.prog 40 #[.slice a A.length c, .slice b B.length d] w (fun e w' => e = .returned (.tuple #[.bool (abvV A B), .int .i64 (bothD A B : Nat)]) ∧ Below w.heap.size w w') := by
  have HM := Lib.hid (pMeet_any a b c d A B hA hB w h1 h2)
  obtain ⟨e1, e2⟩ := meet_ok A B
  rw [e1] at HM
  have HX := Lib.hid e2
  have H2 := Lib.hid h2
  have HF : Hid (bothD A B = 0 → ∀ p q u, IsAt u p (zipD (fun x y => min x y) A B) → IsAt u b B → Calls Try.prog 72 #[.slice p (zipD (fun x y => min x y) A B).length q, .slice b B.length d] u (fun e u' => e = .returned (.bool (abvB A B)) ∧ Below u.heap.size u u')) := Lib.hid fun hz p q u ha hb => by
    have hl := (both_div hz).2.2
    rw [← abv_meet hl]
    exact pEqualD_any p b q d _ B (by rw [zip_len _ hl]; exact hA) hB u ha hb
  have HV : Hid (bothD A B = 0 → abvV A B = abvB A B) := Lib.hid fun hz => by unfold abvV; rw [if_pos hz]
  have HV2 : Hid (bothD A B ≠ 0 → abvV A B = false) := Lib.hid fun hz => by unfold abvV; rw [if_neg hz]
  unfold GivesIE at HM
  generalize abvV A B = R at *
  generalize abvB A B = S at *
  generalize bothD A B = k at *
  generalize cmbL (fun x y => min x y) A B = X at *
  generalize zipD (fun x y => min x y) A B = Y at *
  clear h1 h2 e1 e2
  go_enter Try.func40, Try.ntmps40
  go_wp2_with fail
  refine HM.out.mono ?_
  rintro e w1 ⟨p, q, rfl, hr, hb⟩
  have HB1 := Lib.hid hb
  by_cases hk : k = 0
  · obtain rfl := HX.out hk
    have HF1 := Lib.hid (HF.out hk)
    have HR := Lib.hid (HV.out hk)
    have HP := Lib.hid hr
    subst hk
    clear hb hr
    go_wp2_with fail
    refine (HF1.out p q w1 HP.out (H2.out.keep HB1.out)).mono ?_
    rintro e w2 ⟨rfl, hb⟩
    have HB2 := Lib.hid (HB1.out.trans (hb.mono HB1.out.size))
    clear hb
    go_wp2
    go_ret2
    exact ⟨by rw [HR.out]; rfl, HB2.out⟩
  · have q0 : (((k : Nat) : Int) != 0) = true := by rw [bne_iff_ne]; omega
    have HR := Lib.hid (HV2.out hk)
    clear hk hb hr
    go_wp2
    go_ret2
    exact ⟨by rw [HR.out]; rfl, HB1.out⟩
set_option maxHeartbeats 12800000 in
set_option maxRecDepth 100000 in
theorem rAbove_any (a b : Option Addr) (c d : Nat) (A B : List Int) (hA : A.length ≤ 1000) (hB : B.length ≤ 1000) (w : World) (h1 : IsAt w a A) (h2 : IsAt w b B) :
    Calls Try.prog 41 #[.slice a A.length c, .slice b B.length d] w (fun e w' => e = .returned (.tuple #[.bool (abvV A B), .int .i64 (bothD A B : Nat)]) ∧ Below w.heap.size w w') := by
  have HC := Lib.hid (rBoth_any a b c d A B hA hB w h1 h2)
  have H1 := Lib.hid h1
  have H2 := Lib.hid h2
  have HLL0 : Hid (bothD A B = 0 → A.length = B.length) := Lib.hid fun hz => (both_div hz).2.2
  have HV : Hid (bothD A B = 0 → (∀ j, j < A.length → iAt B j ≤ iAt A j) → abvV A B = true) := Lib.hid fun hz h => by unfold abvV abvB; rw [if_pos hz]; exact decide_eq_true h
  have HV1 : Hid (bothD A B = 0 → ∀ j, j < A.length → iAt A j < iAt B j → abvV A B = false) := Lib.hid fun hz j hj h => by unfold abvV abvB; rw [if_pos hz]; exact decide_eq_false fun h' => by have := h' j hj; omega
  have HV2 : Hid (bothD A B ≠ 0 → abvV A B = false) := Lib.hid fun hz => by unfold abvV; rw [if_neg hz]
  generalize abvV A B = R at *
  generalize bothD A B = k at *
  clear h1 h2
  go_enter Try.func41, Try.ntmps41
  go_wp2_with fail
  refine HC.out.mono ?_
  rintro e w1 ⟨rfl, hb⟩
  have HB1 := Lib.hid hb
  clear hb
  by_cases hk : k = 0
  · have HLL := Lib.hid (HLL0.out hk)
    have HVA := Lib.hid (HV.out hk)
    have HVB := Lib.hid (HV1.out hk)
    subst hk
    go_wp2
    go_loopw [7] (fun x wr => ∃ i : Nat, i ≤ A.length ∧ x = .int .i64 i ∧ (∀ j, j < i → iAt B j ≤ iAt A j) ∧ Below w.heap.size w wr) (fun x _ => A.length - (intOf x).toNat)
    case atStart => exact ⟨0, by omega, rfl, fun j hj => by omega, HB1.out⟩
    case round =>
      obtain ⟨i, hi, rfl, hz, hb⟩ := hrel
      have HZ := Lib.hid hz
      have HB := Lib.hid hb
      by_cases hlt : i < A.length
      · have i1 : (i : Int) < (A.length : Int) := by omega
        have i2 : (0 : Int) ≤ (i : Int) := by omega
        have i3 : (i : Int) < (B.length : Int) := by have := HLL.out; omega
        obtain ⟨b1, o1, hb1, q1, x1⟩ := (H1.out.keep hb).one i hlt
        obtain ⟨b2, o2, hb2, q2, x2⟩ := (H2.out.keep hb).one i (by have := HLL.out; omega)
        subst hb1 hb2
        have HZN : Hid (iAt B i ≤ iAt A i → ∀ j, j < i + 1 → iAt B j ≤ iAt A j) := Lib.hid fun h0 j hj => by
          by_cases e : j = i
          · subst e; exact h0
          · exact HZ.out j (by omega)
        have HL1 := Lib.hid (HVB.out i hlt)
        generalize iAt A i = x at *
        generalize iAt B i = y at *
        clear hz hb
        by_cases e1 : x < y
        · have HR := Lib.hid (HL1.out e1)
          go_wp2
          go_quiet (fail)
          go_wp2
          go_ret2
          exact ⟨by rw [HR.out]; rfl, HB.out.trans ((below_drewN (Below.refl _ _) _).mono HB.out.size)⟩
        · have HR := Lib.hid (HZN.out (by omega))
          go_wp2
          go_quiet (fail)
          go_wp2
          go_roundw
          case rel => exact ⟨i + 1, by omega, by go_num, HR.out, HB.out.trans ((below_drewN (Below.refl _ _) _).mono HB.out.size)⟩
          case measure => simp [intOf]; omega
      · obtain rfl : i = A.length := by omega
        have i1 : ¬ (A.length : Int) < (A.length : Int) := by omega
        have HR := Lib.hid (HVA.out hz)
        clear hz hb
        go_wp2
        go_ret2
        exact ⟨by rw [HR.out]; rfl, HB.out⟩
  · have q0 : (((k : Nat) : Int) != 0) = true := by rw [bne_iff_ne]; omega
    have HR := Lib.hid (HV2.out hk)
    clear hk
    go_wp2
    go_ret2
    exact ⟨by rw [HR.out]; rfl, HB1.out⟩
end Go.Proofs.Ytalbdggpghkcfaa
