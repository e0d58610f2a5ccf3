/- What comes of two divisors, vertex by vertex, by the program. -/
import Derived.Test.YtgejkgeojjgclaaCc
import Derived.Test.YtgejkgeojjgclaaLateD
namespace Go.Proofs.Ytgejkgeojjgclaa
open Go.RowKit Go.Proofs.Gr Go.Proofs.Cp
attribute [local go_sem] Oper.semAt_some

/-- A list that is made place by place. -/
def stepD (f : Int → Int → Int) (A B : List Int) : Nat → List Int
  | 0 => A
  | k + 1 => (stepD f A B k).set k (f (iAt A k) (iAt B k))
theorem stepD_len (f : Int → Int → Int) (A B : List Int) (k : Nat) : (stepD f A B k).length = A.length := by
  induction k with
  | zero => rfl
  | succ k ih => rw [stepD, List.length_set, ih]
theorem stepD_at (f : Int → Int → Int) (A B : List Int) (k j : Nat) (hk : k ≤ A.length) : (stepD f A B k)[j]? = if j < k then some (f (iAt A j) (iAt B j)) else A[j]? := by
  induction k with
  | zero => rw [stepD, if_neg (by omega)]
  | succ k ih =>
    rw [stepD]
    by_cases e : k = j
    · subst e
      rw [List.getElem?_set_self (by rw [stepD_len]; omega), if_pos (by omega)]
    · rw [List.getElem?_set_ne e, ih (by omega)]
      by_cases h : j < k
      · rw [if_pos h, if_pos (by omega)]
      · rw [if_neg h, if_neg (by omega)]
theorem stepD_all (f : Int → Int → Int) {A B : List Int} (h : A.length = B.length) : stepD f A B A.length = zipD f A B := by
  refine List.ext_getElem? fun j => ?_
  rw [stepD_at f A B _ j (Nat.le_refl _)]
  unfold zipD
  by_cases hj : j < A.length
  · rw [if_pos hj, List.getElem?_zipWith, List.getElem?_eq_getElem hj, List.getElem?_eq_getElem (by omega), iAt_get A j hj, iAt_get B j (by omega)]
  · rw [if_neg hj, List.getElem?_eq_none (by omega), List.getElem?_eq_none (by rw [List.length_zipWith]; omega)]
theorem stepD_one (f : Int → Int → Int) (A B : List Int) (k : Nat) : stepD f A B (k + 1) = (stepD f A B k).set k (f (iAt A k) (iAt B k)) := rfl
theorem div_at {D : List Int} (h : Div D) (i : Nat) (hi : i < D.length) : -1048576 ≤ iAt D i ∧ iAt D i ≤ 1048576 := h.rng _ (by rw [← iAt_get D i hi]; exact List.getElem_mem hi)
end Go.Proofs.Ytgejkgeojjgclaa
