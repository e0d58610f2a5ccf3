/- Graphs in numbers: edges, their order, the error of a graph. No program is named. -/
import Derived.Below
namespace Go.Proofs.Gr

/-- An edge: its ends, how often it is there. -/
structure E where
  a : Int
  b : Int
  m : Int
deriving DecidableEq
def e0 : E := ⟨0, 0, 0⟩
def eAt (L : List E) (j : Nat) : E := L.getD j e0
theorem eAt_get (L : List E) (j : Nat) (h : j < L.length) : L[j] = eAt L j := by
  unfold eAt; rw [List.getD_eq_getElem?_getD, List.getElem?_eq_getElem h]; rfl
/-- A number is a vertex. -/
def isV (n v : Int) : Bool := decide (0 ≤ v) && decide (v < n)
/-- The order of edges. -/
def ltE (x y : E) : Bool := decide (x.a < y.a) || (decide (x.a = y.a) && decide (x.b < y.b))
/-- The range of an edge. -/
def rngE (n : Int) (x : E) : Bool := isV n x.a && isV n x.b && decide (1 ≤ x.m) && decide (x.m ≤ 50)
/-- The error of the edge number i. -/
def errAt (n : Int) (L : List E) (i : Nat) : Nat :=
  if rngE n (eAt L i) = false then 2
  else if (eAt L i).b < (eAt L i).a then 9
  else if 0 < i ∧ ltE (eAt L (i - 1)) (eAt L i) = false then 9
  else 0
/-- The first of some errors. -/
def firstE (f : Nat → Nat) : Nat → Nat
  | 0 => 0
  | n + 1 => if firstE f n ≠ 0 then firstE f n else f n
theorem firstE_zero {f : Nat → Nat} {n : Nat} (h : ∀ j, j < n → f j = 0) : firstE f n = 0 := by
  induction n with
  | zero => rfl
  | succ n ih =>
    have h1 := ih (fun j hj => h j (by omega))
    rw [firstE, h1]
    simpa using h n (by omega)
theorem firstE_at {f : Nat → Nat} {n i : Nat} (h : ∀ j, j < i → f j = 0) (hi : f i ≠ 0) (hn : i < n) : firstE f n = f i := by
  induction n with
  | zero => omega
  | succ n ih =>
    rw [firstE]
    by_cases e : i = n
    · subst e
      rw [firstE_zero h]; simp
    · have h1 := ih (by omega)
      rw [h1, if_pos hi]
theorem firstE_all {f : Nat → Nat} {n : Nat} (h : firstE f n = 0) : ∀ j, j < n → f j = 0 := by
  induction n with
  | zero => intro j hj; omega
  | succ n ih =>
    intro j hj
    rw [firstE] at h
    by_cases e : firstE f n = 0
    · rw [e] at h
      rcases Nat.lt_or_ge j n with h1 | h1
      · exact ih e j h1
      · obtain rfl : j = n := by omega
        simpa using h
    · rw [if_pos e] at h; exact absurd h e
theorem firstE_cases (f : Nat → Nat) (n : Nat) : (firstE f n = 0 ∧ ∀ j, j < n → f j = 0) ∨ (∃ i, i < n ∧ f i ≠ 0 ∧ (∀ j, j < i → f j = 0) ∧ firstE f n = f i) := by
  induction n with
  | zero => exact .inl ⟨rfl, fun j hj => by omega⟩
  | succ n ih =>
    rcases ih with ⟨h1, h2⟩ | ⟨i, h1, h2, h3, h4⟩
    · by_cases h : f n = 0
      · refine .inl ⟨by rw [firstE, h1]; simpa using h, fun j hj => ?_⟩
        rcases Nat.lt_or_ge j n with h5 | h5
        · exact h2 j h5
        · obtain rfl : j = n := by omega
          exact h
      · exact .inr ⟨n, by omega, h, h2, by rw [firstE, h1]; simp⟩
    · exact .inr ⟨i, by omega, h2, h3, by rw [firstE, h4, if_pos h2]⟩
/-- The error of a graph. -/
def chkG (n : Int) (L : List E) : Nat := if n < 1 ∨ 12 < n then 2 else firstE (errAt n L) L.length
theorem chkG_n {n : Int} {L : List E} (h : chkG n L = 0) : 1 ≤ n ∧ n ≤ 12 := by
  unfold chkG at h
  by_cases h1 : n < 1 ∨ 12 < n
  · rw [if_pos h1] at h; omega
  · omega
theorem chkG_at {n : Int} {L : List E} (h : chkG n L = 0) (i : Nat) (hi : i < L.length) : errAt n L i = 0 := by
  have h1 := chkG_n h
  unfold chkG at h
  rw [if_neg (by omega)] at h
  exact firstE_all h i hi
theorem chkG_rng {n : Int} {L : List E} (h : chkG n L = 0) (i : Nat) (hi : i < L.length) : 0 ≤ (eAt L i).a ∧ (eAt L i).a ≤ (eAt L i).b ∧ (eAt L i).b < n ∧ 1 ≤ (eAt L i).m ∧ (eAt L i).m ≤ 50 := by
  have h1 := chkG_at h i hi
  unfold errAt at h1
  by_cases h2 : rngE n (eAt L i) = false
  · rw [if_pos h2] at h1; omega
  · rw [if_neg h2] at h1
    by_cases h3 : (eAt L i).b < (eAt L i).a
    · rw [if_pos h3] at h1; omega
    · simp only [rngE, isV, Bool.not_eq_false, Bool.and_eq_true, decide_eq_true_eq] at h2
      omega
theorem chkG_lt {n : Int} {L : List E} (h : chkG n L = 0) (i : Nat) (hi : i + 1 < L.length) : ltE (eAt L i) (eAt L (i + 1)) = true := by
  have h1 := chkG_at h (i + 1) hi
  unfold errAt at h1
  by_cases h2 : rngE n (eAt L (i + 1)) = false
  · rw [if_pos h2] at h1; omega
  · rw [if_neg h2] at h1
    by_cases h3 : (eAt L (i + 1)).b < (eAt L (i + 1)).a
    · rw [if_pos h3] at h1; omega
    · rw [if_neg h3] at h1
      by_cases h4 : ltE (eAt L i) (eAt L (i + 1)) = true
      · exact h4
      · rw [if_pos ⟨by omega, by simpa using h4⟩] at h1; omega
end Go.Proofs.Gr
