/- Small divisors in numbers, Both and Small of the reference at every list. -/
import Derived.Test.YtalbdggpghkcfaaEc
namespace Go.Proofs.Ytalbdggpghkcfaa
open Go.RowKit Go.Proofs.Gr Go.Proofs.Cp
attribute [local go_sem] Oper.semAt_some

set_option maxHeartbeats 12800000 in
set_option maxRecDepth 100000 in
theorem rCheck_long (a : Option Addr) (c : Nat) (D : List Int) (hD : 12 < D.length) (w : World) :
    Calls Try.prog 19 #[.slice a D.length c, .int .i64 (D.length : Int)] w (fun e w' => e = .returned (.int .i64 (2 : Nat)) ∧ Below w.heap.size w w') := by
  have d1 : decide ((D.length : Int) < 1) = false := by rw [decide_eq_false_iff_not]; omega
  have d2 : decide (12 < (D.length : Int)) = true := by rw [decide_eq_true_iff]; omega
  clear hD
  go_enter Try.func19, Try.ntmps19
  go_wp2
  go_ret
  exact ⟨rfl, Below.refl _ _⟩
theorem own_long {D : List Int} (h : 12 < D.length) : ownD D = 2 := by unfold ownD chkD; rw [if_pos (by omega)]
set_option maxHeartbeats 12800000 in
set_option maxRecDepth 100000 in
theorem rOwn_all (a : Option Addr) (c : Nat) (D : List Int) (w : World) (h : IsAt w a D) :
    Calls Try.prog 53 #[.slice a D.length c] w (fun e w' => e = .returned (.int .i64 (ownD D : Nat)) ∧ Below w.heap.size w w') := by
  have HC : Hid (Calls Try.prog 19 #[.slice a D.length c, .int .i64 (D.length : Int)] w (fun e w' => e = .returned (.int .i64 (ownD D : Nat)) ∧ Below w.heap.size w w')) := Lib.hid (by
    by_cases hD : D.length ≤ 1000
    · exact rCheck_any a c D hD D.length w h
    · rw [own_long (by omega)]; exact rCheck_long a c D (by omega) w)
  generalize ownD D = R at *
  clear h
  go_enter Try.func53, Try.ntmps53
  go_wp2_with fail
  refine HC.out.mono ?_
  rintro e w1 ⟨rfl, hb⟩
  have HB := Lib.hid hb
  clear hb
  go_wp2
  go_ret
  exact ⟨rfl, HB.out⟩
set_option maxHeartbeats 12800000 in
set_option maxRecDepth 100000 in
theorem rBoth_all (a b : Option Addr) (c d : Nat) (A B : List Int) (w : World) (h1 : IsAt w a A) (h2 : IsAt w b B) :
    Calls Try.prog 51 #[.slice a A.length c, .slice b B.length d] w (fun e w' => e = .returned (.int .i64 (bothD A B : Nat)) ∧ Below w.heap.size w w') := by
  have HA := Lib.hid (fun w h => rOwn_all a c A w h)
  have HB := Lib.hid (fun w h => rOwn_all b d B w h)
  have H1 := Lib.hid h1
  have H2 := Lib.hid h2
  have HE : Hid (bothD A B = if ownD A ≠ 0 then ownD A else if ownD B ≠ 0 then ownD B else if A.length ≠ B.length then 8 else 0) := Lib.hid rfl
  generalize bothD A B = R at *
  generalize ownD A = ka at *
  generalize ownD B = kb at *
  clear h1 h2
  go_enter Try.func51, Try.ntmps51
  go_wp2_with fail
  refine (HA.out w H1.out).mono ?_
  rintro e w1 ⟨rfl, hb1⟩
  have HB1 := Lib.hid hb1
  clear hb1
  by_cases hk : ka ≠ 0
  · have q0 : (((ka : Nat) : Int) != 0) = true := by rw [bne_iff_ne]; omega
    have HR : Hid (R = ka) := Lib.hid (by rw [HE.out, if_pos hk])
    clear HE hk
    go_wp2
    go_ret
    exact ⟨by rw [HR.out]; rfl, HB1.out⟩
  obtain rfl : ka = 0 := by omega
  have HE2 : Hid (R = if kb ≠ 0 then kb else if A.length ≠ B.length then 8 else 0) := Lib.hid (by rw [HE.out, if_neg (by omega)])
  clear HE hk
  go_wp2_with fail
  refine (HB.out w1 (H2.out.keep HB1.out)).mono ?_
  rintro e w2 ⟨rfl, hb2⟩
  have HB2 := Lib.hid (HB1.out.trans (hb2.mono HB1.out.size))
  clear hb2
  by_cases hk : kb ≠ 0
  · have q0 : (((kb : Nat) : Int) != 0) = true := by rw [bne_iff_ne]; omega
    have HR : Hid (R = kb) := Lib.hid (by rw [HE2.out, if_pos hk])
    clear HE2 hk
    go_wp2
    go_ret
    exact ⟨by rw [HR.out]; rfl, HB2.out⟩
  obtain rfl : kb = 0 := by omega
  by_cases hl : A.length = B.length
  · have q1 : ((A.length : Int) != (B.length : Int)) = false := by rw [bne_eq_false_iff_eq]; omega
    have HR : Hid (R = 0) := Lib.hid (by rw [HE2.out, if_neg (by omega), if_neg (by omega)])
    clear HE2 hk hl
    go_wp2
    go_ret
    exact ⟨by rw [HR.out]; rfl, HB2.out⟩
  · have q1 : ((A.length : Int) != (B.length : Int)) = true := by rw [bne_iff_ne]; omega
    have HR : Hid (R = 8) := Lib.hid (by rw [HE2.out, if_neg (by omega), if_pos hl])
    clear HE2 hk hl
    go_wp2
    go_ret
    exact ⟨by rw [HR.out]; rfl, HB2.out⟩
def smallD (D : List Int) : Bool := D.all fun z => decide (-60 ≤ z) && decide (z ≤ 60)
theorem small_iff (D : List Int) : smallD D = true ↔ ∀ j, j < D.length → -60 ≤ iAt D j ∧ iAt D j ≤ 60 := by
  unfold smallD
  rw [List.all_eq_true]
  constructor
  · intro h j hj; have := h _ (List.getElem_mem hj); rw [iAt_get D j hj] at this; simpa using this
  · intro h z hz
    obtain ⟨j, hj, rfl⟩ := List.getElem_of_mem hz
    rw [iAt_get D j hj]; simpa using h j hj
theorem small_no {D : List Int} (j : Nat) (hj : j < D.length) (h : ¬ (-60 ≤ iAt D j ∧ iAt D j ≤ 60)) : smallD D = false := by
  cases hp : smallD D with
  | false => rfl
  | true => exact absurd ((small_iff D).1 hp j hj) h
set_option maxHeartbeats 12800000 in
set_option maxRecDepth 100000 in
theorem rSmall_any (a : Option Addr) (c : Nat) (D : List Int) (hD : D.length ≤ 1000) (w : World) (h : IsAt w a D) :
    Calls Try.prog 52 #[.slice a D.length c] w (fun e w' => e = .returned (.bool (smallD D)) ∧ Below w.heap.size w w') := by
  have HE := Lib.hid h
  have HNO := Lib.hid (fun j hj h => small_no (D := D) j hj h)
  have HYES := Lib.hid ((small_iff D).2)
  generalize smallD D = R at *
  clear h
  go_enter Try.func52, Try.ntmps52
  go_wp2
  go_loopw [3] (fun x wr => ∃ i : Nat, i ≤ D.length ∧ x = .int .i64 i ∧ (∀ j, j < i → -60 ≤ iAt D j ∧ iAt D j ≤ 60) ∧ Below w.heap.size w wr) (fun x _ => D.length - (intOf x).toNat)
  case atStart => exact ⟨0, by omega, rfl, fun j hj => by omega, Below.refl _ _⟩
  case round =>
    obtain ⟨i, hi, rfl, hz, hb⟩ := hrel
    have HZ := Lib.hid hz
    have HB := Lib.hid hb
    by_cases hlt : i < D.length
    · have i1 : (i : Int) < (D.length : Int) := by omega
      have i2 : (0 : Int) ≤ (i : Int) := by omega
      obtain ⟨b1, o1, hb1, q1, x1⟩ := (HE.out.keep hb).one i hlt
      subst hb1
      have HTI := Lib.hid (HNO.out i hlt)
      have HZN : Hid (-60 ≤ iAt D i ∧ iAt D i ≤ 60 → ∀ j, j < i + 1 → -60 ≤ iAt D j ∧ iAt D j ≤ 60) := Lib.hid fun h0 j hj => by
        by_cases e : j = i
        · subst e; exact h0
        · exact HZ.out j (by omega)
      generalize iAt D i = z at *
      clear hz hb
      by_cases h0 : z < -60
      · have d1 : decide (z < -60) = true := decide_eq_true h0
        have HR := Lib.hid (HTI.out (by omega))
        go_wp2
        go_ret
        exact ⟨by rw [HR.out]; rfl, HB.out⟩
      · have d1 : decide (z < -60) = false := decide_eq_false h0
        by_cases h2 : 60 < z
        · have d2 : decide (60 < z) = true := decide_eq_true h2
          have HR := Lib.hid (HTI.out (by omega))
          go_wp2
          go_ret
          exact ⟨by rw [HR.out]; rfl, HB.out⟩
        · have d2 : decide (60 < z) = false := decide_eq_false h2
          have HR := Lib.hid (HZN.out (by omega))
          go_wp2
          go_roundw
          case rel => exact ⟨i + 1, by omega, by go_num, HR.out, HB.out⟩
          case measure => simp [intOf]; omega
    · obtain rfl : i = D.length := by omega
      have i1 : ¬ (D.length : Int) < (D.length : Int) := by omega
      have HR := Lib.hid (HYES.out hz)
      clear hz hb
      go_wp2
      go_ret
      exact ⟨by rw [HR.out]; rfl, HB.out⟩
/-- Lists within bounds. -/
structure Bd (p : Int) (n : Nat) (D : List Int) : Prop where
  len : D.length = n
  one : 1 ≤ n
  le : n ≤ 12
  rng : ∀ j, j < n → -p ≤ iAt D j ∧ iAt D j ≤ p
theorem Bd.div {p : Int} {n : Nat} {D : List Int} (h : Bd p n D) (hp : p ≤ 1048576) : Div D := ⟨by have := h.one; have := h.len; omega, by have := h.le; have := h.len; omega, fun z hz => by
  obtain ⟨j, hj, rfl⟩ := List.getElem_of_mem hz
  rw [iAt_get D j hj]
  have := h.rng j (by have := h.len; omega)
  omega⟩
theorem Bd.zip {p q r : Int} {n : Nat} {A B : List Int} {f : Int → Int → Int} (hA : Bd p n A) (hB : Bd q n B) (hf : ∀ x y, -p ≤ x ∧ x ≤ p → -q ≤ y ∧ y ≤ q → -r ≤ f x y ∧ f x y ≤ r) : Bd r n (zipD f A B) :=
  ⟨by rw [zip_len f (by rw [hA.len, hB.len]), hA.len], hA.one, hA.le, fun j hj => by
    rw [zip_at f (by rw [hA.len, hB.len]) j (by rw [hA.len]; exact hj)]
    exact hf _ _ (hA.rng j hj) (hB.rng j hj)⟩
theorem Bd.cmb {p q r : Int} {n : Nat} {A B : List Int} {f : Int → Int → Int} (hA : Bd p n A) (hB : Bd q n B) (hp : p ≤ 1048576) (hq : q ≤ 1048576) (hr : r ≤ 1048576) (hf : ∀ x y, -p ≤ x ∧ x ≤ p → -q ≤ y ∧ y ≤ q → -r ≤ f x y ∧ f x y ≤ r) : cmbK f A B = 0 ∧ cmbL f A B = zipD f A B :=
  cmb_ok (both_of (hA.div hp) (hB.div hq) (by rw [hA.len, hB.len])) (any_of ((Bd.zip hA hB hf).div hr).rng)
theorem sumD_zip {A B : List Int} (h : A.length = B.length) : sumD (zipD (fun x y => x + y) A B) = sumD A + sumD B := by
  induction A generalizing B with
  | nil => cases B with
    | nil => rfl
    | cons b B => simp at h
  | cons a A ih =>
    cases B with
    | nil => simp at h
    | cons b B =>
      have := ih (B := B) (by simpa using h)
      unfold zipD at *
      rw [List.zipWith_cons_cons, sumD, sumD, sumD, this]
      omega
end Go.Proofs.Ytalbdggpghkcfaa
