/- What comes of two divisors, vertex by vertex, by the program. -/
import Derived.Test.YtalbdggpghkcfaaCc
import Derived.Test.YtalbdggpghkcfaaLateD
namespace Go.Proofs.Ytalbdggpghkcfaa
open Go.RowKit Go.Proofs.Gr Go.Proofs.Cp
attribute [local go_sem] Oper.semAt_some

/-- Hands back ints, or an error. -/
def GivesIE (w : World) (X : List Int) (k : Nat) (e : Ending) (x : World) : Prop := ∃ a c, e = .returned (.tuple #[.slice a X.length c, .int .i64 (k : Nat)]) ∧ IsAt x a X ∧ Below w.heap.size w x
/-- A list that is made place by place. -/
def stepD (f : Int → Int → Int) (A B : List Int) : Nat → List Int
  | 0 => A
  | k + 1 => (stepD f A B k).set k (f (iAt A k) (iAt B k))
theorem stepD_len (f : Int → Int → Int) (A B : List Int) (k : Nat) : (stepD f A B k).length = A.length := by
  induction k with
  | zero => rfl
  | succ k ih => rw [stepD, List.length_set, ih]
theorem stepD_at (f : Int → Int → Int) (A B : List Int) (k j : Nat) (hk : k ≤ A.length) : (stepD f A B k)[j]? = if j < k then some (f (iAt A j) (iAt B j)) else A[j]? := by
  induction k with
  | zero => rw [stepD, if_neg (by omega)]
  | succ k ih =>
    rw [stepD]
    by_cases e : k = j
    · subst e
      rw [List.getElem?_set_self (by rw [stepD_len]; omega), if_pos (by omega)]
    · rw [List.getElem?_set_ne e, ih (by omega)]
      by_cases h : j < k
      · rw [if_pos h, if_pos (by omega)]
      · rw [if_neg h, if_neg (by omega)]
theorem stepD_all (f : Int → Int → Int) {A B : List Int} (h : A.length = B.length) : stepD f A B A.length = zipD f A B := by
  refine List.ext_getElem? fun j => ?_
  rw [stepD_at f A B _ j (Nat.le_refl _)]
  unfold zipD
  by_cases hj : j < A.length
  · rw [if_pos hj, List.getElem?_zipWith, List.getElem?_eq_getElem hj, List.getElem?_eq_getElem (by omega), iAt_get A j hj, iAt_get B j (by omega)]
  · rw [if_neg hj, List.getElem?_eq_none (by omega), List.getElem?_eq_none (by rw [List.length_zipWith]; omega)]
theorem stepD_one (f : Int → Int → Int) (A B : List Int) (k : Nat) : stepD f A B (k + 1) = (stepD f A B k).set k (f (iAt A k) (iAt B k)) := rfl
theorem div_at {D : List Int} (h : Div D) (i : Nat) (hi : i < D.length) : -1048576 ≤ iAt D i ∧ iAt D i ≤ 1048576 := h.rng _ (by rw [← iAt_get D i hi]; exact List.getElem_mem hi)
set_option maxHeartbeats 12800000 in
set_option maxRecDepth 100000 in
theorem add1_any (x y : Int) (hx : -1048576 ≤ x ∧ x ≤ 1048576) (hy : -1048576 ≤ y ∧ y ≤ 1048576) (w : World) :
    Calls Try.prog 61 #[.int .i64 x, .int .i64 y] w (fun e w' => e = .returned (.int .i64 (x + y)) ∧ w = w') := by

  go_enter Try.func61, Try.ntmps61
  go_wp2
  go_ret
  exact ⟨rfl, rfl⟩
set_option maxHeartbeats 12800000 in
set_option maxRecDepth 100000 in
theorem sub1_any (x y : Int) (hx : -1048576 ≤ x ∧ x ≤ 1048576) (hy : -1048576 ≤ y ∧ y ≤ 1048576) (w : World) :
    Calls Try.prog 64 #[.int .i64 x, .int .i64 y] w (fun e w' => e = .returned (.int .i64 (x - y)) ∧ w = w') := by

  go_enter Try.func64, Try.ntmps64
  go_wp2
  go_ret
  exact ⟨rfl, rfl⟩
set_option maxHeartbeats 12800000 in
set_option maxRecDepth 100000 in
theorem min1_any (x y : Int) (_hx : -1048576 ≤ x ∧ x ≤ 1048576) (_hy : -1048576 ≤ y ∧ y ≤ 1048576) (w : World) :
    Calls Try.prog 73 #[.int .i64 x, .int .i64 y] w (fun e w' => e = .returned (.int .i64 (min x y)) ∧ w = w') := by
  obtain ⟨R, hR⟩ : ∃ R, R = min x y := ⟨_, rfl⟩
  rw [← hR]
  have HR := Lib.hid hR
  clear hR
  go_enter Try.func73, Try.ntmps73
  rcases Int.lt_trichotomy x y with h | h | h
  · have e1 : ¬ y < x := by omega
    go_wp2
    go_ret
    exact ⟨by rw [HR.out]; simp; omega, rfl⟩
  · subst h
    have e1 : ¬ x < x := by omega
    go_wp2
    go_ret
    exact ⟨by rw [HR.out]; simp, rfl⟩
  · have e1 : ¬ x < y := by omega
    go_wp2
    go_ret
    exact ⟨by rw [HR.out]; simp; omega, rfl⟩
set_option maxHeartbeats 12800000 in
set_option maxRecDepth 100000 in
theorem max1_any (x y : Int) (_hx : -1048576 ≤ x ∧ x ≤ 1048576) (_hy : -1048576 ≤ y ∧ y ≤ 1048576) (w : World) :
    Calls Try.prog 74 #[.int .i64 x, .int .i64 y] w (fun e w' => e = .returned (.int .i64 (max x y)) ∧ w = w') := by
  obtain ⟨R, hR⟩ : ∃ R, R = max x y := ⟨_, rfl⟩
  rw [← hR]
  have HR := Lib.hid hR
  clear hR
  go_enter Try.func74, Try.ntmps74
  rcases Int.lt_trichotomy x y with h | h | h
  · have e1 : ¬ y < x := by omega
    go_wp2
    go_ret
    exact ⟨by rw [HR.out]; simp; omega, rfl⟩
  · subst h
    have e1 : ¬ x < x := by omega
    go_wp2
    go_ret
    exact ⟨by rw [HR.out]; simp, rfl⟩
  · have e1 : ¬ x < y := by omega
    go_wp2
    go_ret
    exact ⟨by rw [HR.out]; simp; omega, rfl⟩
set_option maxHeartbeats 12800000 in
set_option maxRecDepth 100000 in
theorem scale1_any (k x y : Int) (p : Addr) (hx : -1048576 ≤ x ∧ x ≤ 1048576) (w : World) (hp : w.cell? p = some (.int .i64 k)) :
    Calls Try.prog 65 #[.int .i64 x, .int .i64 y, .pointer (some p)] w (fun e w' => e = .returned (.int .i64 (mulK k x y)) ∧ w = w') := by
  have HL := Lib.hid (fun k w => isLarge_any k w)
  have HE : Hid (mulK k x y = if big k = true ∧ x ≠ 0 then k else x * k) := Lib.hid rfl
  have HB : Hid (big k = false → -1048576 ≤ k ∧ k ≤ 1048576) := Lib.hid fun h => big_false.1 h
  generalize mulK k x y = R at *
  go_enter Try.func65, Try.ntmps65
  go_wp2_with fail
  refine (HL.out k w).mono ?_
  rintro e w1 ⟨rfl, rfl⟩
  cases hb : big k with
  | true =>
    by_cases h0 : x = 0
    · subst h0
      have HR : Hid (R = 0) := Lib.hid (by rw [HE.out, if_neg (by simp), Int.zero_mul])
      clear HE hb
      have e0 : (0 : Int) * k = 0 := Int.zero_mul k
      go_wp2
      go_ret
      exact ⟨by rw [HR.out]; first | rfl | simp, rfl⟩
    · have d1 : (x != 0) = true := by rw [bne_iff_ne]; exact h0
      have HR : Hid (R = k) := Lib.hid (by rw [HE.out, if_pos ⟨hb, h0⟩])
      clear HE hb
      go_wp2
      go_ret
      exact ⟨by rw [HR.out]; rfl, rfl⟩
  | false =>
    have HR : Hid (R = x * k) := Lib.hid (by rw [HE.out, if_neg (by rw [hb]; simp)])
    have hk := HB.out hb
    have m1 : x * k ≤ 1048576 * 1048576 ∧ -(1048576 * 1048576) ≤ x * k := by
      have h1 : (x * k).natAbs ≤ 1048576 * 1048576 := by rw [Int.natAbs_mul]; exact Nat.mul_le_mul (by omega) (by omega)
      omega
    clear HE hb
    go_wp2
    go_ret
    exact ⟨by rw [HR.out]; rfl, rfl⟩
end Go.Proofs.Ytalbdggpghkcfaa
