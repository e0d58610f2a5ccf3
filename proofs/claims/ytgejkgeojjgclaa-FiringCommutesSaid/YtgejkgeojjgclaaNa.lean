/- Divisors in numbers: errors, sums, orders, and all effective ones of a degree. No program is named. -/
import Derived.Below
namespace Go.Proofs.Cp

/-- A number is out of range. -/
def big (k : Int) : Bool := decide (k < -1048576) || decide (1048576 < k)
theorem big_false {k : Int} : big k = false ↔ -1048576 ≤ k ∧ k ≤ 1048576 := by
  unfold big; rw [Bool.or_eq_false_iff, decide_eq_false_iff_not, decide_eq_false_iff_not]; omega
/-- The error of a divisor on n vertices. -/
def chkD (D : List Int) (n : Int) : Nat := if n < 1 ∨ 12 < n then 2 else if (D.length : Int) ≠ n then 8 else if D.any big = true then 2 else 0
def ownD (D : List Int) : Nat := chkD D D.length
def bothD (A B : List Int) : Nat := if ownD A ≠ 0 then ownD A else if ownD B ≠ 0 then ownD B else if A.length ≠ B.length then 8 else 0
/-- A right divisor. -/
structure Div (D : List Int) : Prop where
  one : 1 ≤ D.length
  le : D.length ≤ 12
  rng : ∀ z ∈ D, -1048576 ≤ z ∧ z ≤ 1048576
theorem any_false {D : List Int} (h : D.any big = false) : ∀ z ∈ D, -1048576 ≤ z ∧ z ≤ 1048576 := fun z hz => by
  have h1 := (List.any_eq_false.1 h) z hz
  exact big_false.1 (by simpa using h1)
theorem any_of {D : List Int} (h : ∀ z ∈ D, -1048576 ≤ z ∧ z ≤ 1048576) : D.any big = false := by
  rw [List.any_eq_false]
  intro z hz
  rw [big_false.2 (h z hz)]; simp
theorem own_div {D : List Int} (h : ownD D = 0) : Div D := by
  unfold ownD chkD at h
  by_cases h1 : ((D.length : Int) < 1 ∨ 12 < (D.length : Int))
  · rw [if_pos h1] at h; omega
  · rw [if_neg h1, if_neg (by simp)] at h
    by_cases h2 : D.any big = true
    · rw [if_pos h2] at h; omega
    · exact ⟨by omega, by omega, any_false (by simpa using h2)⟩
theorem Div.own {D : List Int} (h : Div D) : ownD D = 0 := by
  unfold ownD chkD
  have := h.one; have := h.le
  rw [if_neg (by omega), if_neg (by simp), any_of h.rng]; simp
theorem both_div {A B : List Int} (h : bothD A B = 0) : Div A ∧ Div B ∧ A.length = B.length := by
  unfold bothD at h
  by_cases h1 : ownD A ≠ 0
  · rw [if_pos h1] at h; exact absurd h h1
  · rw [if_neg h1] at h
    by_cases h2 : ownD B ≠ 0
    · rw [if_pos h2] at h; exact absurd h h2
    · rw [if_neg h2] at h
      by_cases h3 : A.length ≠ B.length
      · rw [if_pos h3] at h; omega
      · exact ⟨own_div (by omega), own_div (by omega), by omega⟩
theorem both_of {A B : List Int} (h : Div A) (h' : Div B) (hl : A.length = B.length) : bothD A B = 0 := by
  unfold bothD; rw [h.own, h'.own]; simp [hl]
/-- Two divisors, vertex by vertex. -/
def zipD (f : Int → Int → Int) (A B : List Int) : List Int := List.zipWith f A B
theorem zip_len (f : Int → Int → Int) {A B : List Int} (h : A.length = B.length) : (zipD f A B).length = A.length := by simp [zipD, h]
/-- What comes of it, with the error. -/
def cmbK (f : Int → Int → Int) (A B : List Int) : Nat := if bothD A B ≠ 0 then bothD A B else if (zipD f A B).any big = true then 11 else 0
def cmbL (f : Int → Int → Int) (A B : List Int) : List Int := if cmbK f A B = 0 then zipD f A B else []
def okL {α : Type} (k : Nat) (l : List α) : List α := if k = 0 then l else []
theorem okL_pos {α : Type} {k : Nat} (l : List α) (h : k = 0) : okL k l = l := by unfold okL; rw [if_pos h]
theorem okL_neg {α : Type} {k : Nat} (l : List α) (h : k ≠ 0) : okL k l = [] := by unfold okL; rw [if_neg h]
/-- A multiple of a number, or something that is as large. -/
def mulK (k x _y : Int) : Int := if big k = true ∧ x ≠ 0 then k else x * k
/-- The degree. -/
def sumD : List Int → Int
  | [] => 0
  | z :: D => z + sumD D
/-- The sum of the first ones. -/
theorem sumD_append (A B : List Int) : sumD (A ++ B) = sumD A + sumD B := by
  induction A with
  | nil => simp [sumD]
  | cons a A ih => rw [List.cons_append, sumD, sumD, ih]; omega
def payD (D : List Int) : Bool := D.all fun z => decide (0 ≤ z)
/-- The lexicographic order. -/
def ordD : List Int → List Int → Int
  | a :: A, b :: B => if a < b then -1 else if b < a then 1 else ordD A B
  | _, _ => 0
def geD (A B : List Int) : Bool := (List.zipWith (fun a b => decide (b ≤ a)) A B).all id

/-- The place of the last number that is not 0, or the first place. -/
def lastZ : List Int → Nat
  | [] => 0
  | _ :: D => if D.all (fun z => decide (z = 0)) = true then 0 else lastZ D + 1
/-- The next effective divisor. -/
def nxtS (z : Int) (D : List Int) : Option (List Int) → Option (List Int)
  | some D' => some (z :: D')
  | none => match D with
    | [] => none
    | y :: D2 => if y = 0 then none else some ((z + 1) :: (List.replicate D2.length 0 ++ [y - 1]))
def nxt : List Int → Option (List Int)
  | [] => none
  | z :: D => nxtS z D (nxt D)
/-- How many effective divisors of degree k there are on m + 1 vertices, and which. -/
def upN (f : Nat → Nat) : Nat → Nat
  | 0 => 1
  | k + 1 => f (k + 1) + upN f k
def cnt : Nat → Nat → Nat
  | 0 => fun _ => 1
  | m + 1 => upN (cnt m)
theorem cnt_0 (k : Nat) : cnt 0 k = 1 := rfl
theorem cnt_s0 (m : Nat) : cnt (m + 1) 0 = 1 := rfl
theorem cnt_ss (m k : Nat) : cnt (m + 1) (k + 1) = cnt m (k + 1) + cnt (m + 1) k := rfl
def inc : List Int → List Int
  | [] => []
  | z :: D => (z + 1) :: D
def upE (f : Nat → List (List Int)) : Nat → List (List Int)
  | 0 => (f 0).map (0 :: ·)
  | k + 1 => (f (k + 1)).map (0 :: ·) ++ (upE f k).map inc
def allE : Nat → Nat → List (List Int)
  | 0 => fun k => [[(k : Int)]]
  | m + 1 => upE (allE m)
theorem allE_0 (k : Nat) : allE 0 k = [[(k : Int)]] := rfl
theorem allE_s0 (m : Nat) : allE (m + 1) 0 = (allE m 0).map (0 :: ·) := rfl
theorem allE_ss (m k : Nat) : allE (m + 1) (k + 1) = (allE m (k + 1)).map (0 :: ·) ++ (allE (m + 1) k).map inc := rfl
theorem cnt_zero (m : Nat) : cnt m 0 = 1 := by cases m <;> rfl
theorem allE_len (m k : Nat) : (allE m k).length = cnt m k := by
  induction m generalizing k with
  | zero => rfl
  | succ m ih =>
    induction k with
    | zero => rw [allE_s0, cnt_s0, List.length_map, ih, cnt_zero]
    | succ k ihk => rw [allE_ss, cnt_ss, List.length_append, List.length_map, List.length_map, ih, ihk]
theorem cnt_pos (m k : Nat) : 1 ≤ cnt m k := by
  induction m generalizing k with
  | zero => exact Nat.le_refl _
  | succ m ih =>
    cases k with
    | zero => exact Nat.le_refl _
    | succ k => rw [cnt_ss]; have := ih (k + 1); omega
/-- The product formula. -/
theorem cnt_both (i : Nat) : (∀ k, cnt i (k + 1) * (k + 1) = cnt i k * (i + k + 1)) ∧ (∀ k, cnt (i + 1) k * (i + 1) = cnt i k * (k + i + 1)) := by
  have up : ∀ i, (∀ k, cnt i (k + 1) * (k + 1) = cnt i k * (i + k + 1)) → ∀ k, cnt (i + 1) k * (i + 1) = cnt i k * (k + i + 1) := by
    intro i B k
    induction k with
    | zero => rw [cnt_zero, cnt_zero]; omega
    | succ k ih =>
      rw [cnt_ss, Nat.add_mul, ih]
      have := B k
      rw [show k + i + 1 = i + k + 1 by omega, ← this, ← Nat.mul_add]
      congr 1
      omega
  induction i with
  | zero =>
    have B : ∀ k, cnt 0 (k + 1) * (k + 1) = cnt 0 k * (0 + k + 1) := fun k => by simp [cnt_0]
    exact ⟨B, up 0 B⟩
  | succ i ih =>
    obtain ⟨B, A⟩ := ih
    have B2 : ∀ k, cnt (i + 1) (k + 1) * (k + 1) = cnt (i + 1) k * (i + 1 + k + 1) := fun k => by
      rw [cnt_ss, Nat.add_mul, B k]
      have := A k
      rw [show i + k + 1 = k + i + 1 by omega, ← this, ← Nat.mul_add]
      congr 1
    exact ⟨B2, up (i + 1) B2⟩
theorem cnt_step (i k : Nat) : cnt (i + 1) k = cnt i k * (k + (i + 1)) / (i + 1) := by
  have := (cnt_both i).2 k
  rw [show k + (i + 1) = k + i + 1 by omega, ← this, Nat.mul_div_cancel _ (by omega)]
theorem cnt_mono (i k : Nat) : cnt i k ≤ cnt (i + 1) k := by
  cases k with
  | zero => rw [cnt_zero, cnt_zero]; exact Nat.le_refl _
  | succ k => rw [cnt_ss]; omega
theorem cnt_mono' {i j : Nat} (k : Nat) (h : i ≤ j) : cnt i k ≤ cnt j k := by
  induction h with
  | refl => exact Nat.le_refl _
  | step _ ih => exact Nat.le_trans ih (cnt_mono _ k)

/-- The elements of the list. -/
theorem allE_mem {m k : Nat} {D : List Int} (h : D ∈ allE m k) : D.length = m + 1 ∧ (∀ z ∈ D, 0 ≤ z) ∧ sumD D = k := by
  induction m generalizing k D with
  | zero =>
    rw [allE_0, List.mem_singleton] at h
    subst h
    refine ⟨rfl, fun z hz => ?_, ?_⟩
    · rw [List.mem_singleton] at hz; omega
    · simp [sumD]
  | succ m ih =>
    have zero : ∀ k (D : List Int), D ∈ (allE m k).map (0 :: ·) → D.length = m + 1 + 1 ∧ (∀ z ∈ D, 0 ≤ z) ∧ sumD D = k := by
      intro k D h
      obtain ⟨D', h1, rfl⟩ := List.mem_map.1 h
      obtain ⟨a, b, c⟩ := ih h1
      refine ⟨by simp [a], fun z hz => ?_, by rw [sumD, c]; omega⟩
      rcases List.mem_cons.1 hz with rfl | hz
      · exact Int.le_refl _
      · exact b z hz
    induction k generalizing D with
    | zero => rw [allE_s0] at h; exact zero 0 D h
    | succ k ihk =>
      rw [allE_ss, List.mem_append] at h
      rcases h with h | h
      · exact zero _ D h
      · obtain ⟨D', h1, rfl⟩ := List.mem_map.1 h
        obtain ⟨a, b, c⟩ := ihk h1
        match D', a, b, c with
        | z :: D', a, b, c =>
          refine ⟨by simpa [inc] using a, fun y hy => ?_, ?_⟩
          · have b0 := b z (List.mem_cons_self ..)
            rw [inc] at hy
            rcases List.mem_cons.1 hy with rfl | hy
            · omega
            · exact b y (List.mem_cons_of_mem _ hy)
          · rw [inc, sumD]; rw [sumD] at c; omega
/-- The first and the last one. -/
def fstD (m k : Nat) : List Int := List.replicate m 0 ++ [(k : Int)]
def lstD (m k : Nat) : List Int := (k : Int) :: List.replicate m 0
theorem allE_ne (m k : Nat) : allE m k ≠ [] := fun h => by have := allE_len m k; rw [h] at this; have := cnt_pos m k; simp at *; omega
theorem allE_head (m k : Nat) : (allE m k)[0]? = some (fstD m k) := by
  induction m generalizing k with
  | zero => rfl
  | succ m ih =>
    cases k with
    | zero => rw [allE_s0, List.getElem?_map, ih]; rfl
    | succ k =>
      rw [allE_ss, List.getElem?_append_left (by rw [List.length_map, allE_len]; exact cnt_pos _ _), List.getElem?_map, ih]; rfl
theorem allE_last (m k : Nat) : (allE m k)[cnt m k - 1]? = some (lstD m k) := by
  induction m generalizing k with
  | zero => rfl
  | succ m ih =>
    induction k with
    | zero => rw [allE_s0, cnt_s0, List.getElem?_map]; have := ih 0; rw [cnt_zero] at this; rw [this]; rfl
    | succ k ihk =>
      have h1 := cnt_pos (m + 1) k
      rw [allE_ss, cnt_ss, List.getElem?_append_right (by rw [List.length_map, allE_len]; omega), List.length_map, allE_len, List.getElem?_map, show cnt m (k + 1) + cnt (m + 1) k - 1 - cnt m (k + 1) = cnt (m + 1) k - 1 by omega, ihk]; rfl
theorem nxt_zeros (m : Nat) : nxt (List.replicate m 0) = none := by
  induction m with
  | zero => rfl
  | succ m ih =>
    rw [List.replicate_succ, nxt, ih]
    cases m with
    | zero => rfl
    | succ m => rw [List.replicate_succ, nxtS]; simp
theorem nxt_last (m k : Nat) : nxt (lstD m k) = none := by
  unfold lstD
  rw [nxt, nxt_zeros]
  cases m with
  | zero => rfl
  | succ m => rw [List.replicate_succ, nxtS]; simp
theorem nxt_inc {D D' : List Int} (h : nxt D = some D') : nxt (inc D) = some (inc D') := by
  cases D with
  | nil => simp [nxt] at h
  | cons z D =>
    rw [inc]
    rw [nxt] at h ⊢
    cases hn : nxt D with
    | some E => rw [hn, nxtS] at h; injection h with h; subst h; rfl
    | none =>
      rw [hn] at h
      cases D with
      | nil => simp [nxtS] at h
      | cons y D2 =>
        rw [nxtS] at h ⊢
        by_cases hy : y = 0
        · rw [if_pos hy] at h; cases h
        · rw [if_neg hy] at h ⊢; injection h with h; subst h; rfl
theorem nxt_cons {D D' : List Int} (z : Int) (h : nxt D = some D') : nxt (z :: D) = some (z :: D') := by rw [nxt, h, nxtS]
theorem nxt_turn (m k : Nat) : nxt (0 :: lstD m (k + 1)) = some (inc (fstD (m + 1) k)) := by
  have h := nxt_last m (k + 1)
  rw [nxt, h]
  unfold lstD fstD
  rw [nxtS, if_neg (by omega), List.length_replicate, List.replicate_succ, List.cons_append, inc]
  congr 3
  congr 1
  omega
/-- Each one leads to the following one. -/
theorem allE_next (m k i : Nat) (h : i + 1 < cnt m k) : ∃ D D', (allE m k)[i]? = some D ∧ (allE m k)[i + 1]? = some D' ∧ nxt D = some D' := by
  induction m generalizing k i with
  | zero => rw [cnt_0] at h; omega
  | succ m ih =>
    induction k generalizing i with
    | zero => rw [cnt_s0] at h; omega
    | succ k ihk =>
      rw [allE_ss]
      have hl : ((allE m (k + 1)).map (fun x => 0 :: x)).length = cnt m (k + 1) := by rw [List.length_map, allE_len]
      rw [cnt_ss] at h
      by_cases h1 : i + 1 < cnt m (k + 1)
      · obtain ⟨D, D', a, b, c⟩ := ih (k + 1) i h1
        refine ⟨0 :: D, 0 :: D', ?_, ?_, nxt_cons 0 c⟩
        · rw [List.getElem?_append_left (by rw [hl]; omega), List.getElem?_map, a]; rfl
        · rw [List.getElem?_append_left (by rw [hl]; omega), List.getElem?_map, b]; rfl
      · by_cases h2 : i + 1 = cnt m (k + 1)
        · refine ⟨0 :: lstD m (k + 1), inc (fstD (m + 1) k), ?_, ?_, nxt_turn m k⟩
          · rw [List.getElem?_append_left (by rw [hl]; omega), List.getElem?_map, show i = cnt m (k + 1) - 1 by omega, allE_last]; rfl
          · rw [List.getElem?_append_right (by rw [hl]; omega), hl, List.getElem?_map, show i + 1 - cnt m (k + 1) = 0 by omega, allE_head]; rfl
        · obtain ⟨D, D', a, b, c⟩ := ihk (i - cnt m (k + 1)) (by omega)
          refine ⟨inc D, inc D', ?_, ?_, nxt_inc c⟩
          · rw [List.getElem?_append_right (by rw [hl]; omega), hl, List.getElem?_map, a]; rfl
          · rw [List.getElem?_append_right (by rw [hl]; omega), hl, List.getElem?_map, show i + 1 - cnt m (k + 1) = i - cnt m (k + 1) + 1 by omega, b]; rfl
end Go.Proofs.Cp
