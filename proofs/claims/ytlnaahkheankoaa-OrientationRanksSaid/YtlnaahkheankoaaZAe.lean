/- Orders of vertices: what the program strikes and what the reference takes. -/
import Derived.Test.YtlnaahkheankoaaQ08
import Derived.Test.YtlnaahkheankoaaQ09
namespace Go.Proofs.Ytlnaahkheankoaa
open Go.RowKit Go.Shelf Go.Proofs.Gr

/-- How many of the first arcs end at a vertex and come from none of some. -/
def cntO (A : List (Int × Int)) (T : List Int) (v : Int) : Nat → Nat
  | 0 => 0
  | k + 1 => cntO A T v k + (if (pAt A k).2 = v ∧ T.contains (pAt A k).1 = false then 1 else 0)
def cntX (A : List (Int × Int)) (x v : Int) : Nat → Nat
  | 0 => 0
  | k + 1 => cntX A x v k + (if (pAt A k).1 = x ∧ (pAt A k).2 = v then 1 else 0)
theorem cnt_split (A : List (Int × Int)) (T : List Int) (x v : Int) (hx : T.contains x = false) (k : Nat) : cntO A T v k = cntO A (T ++ [x]) v k + cntX A x v k := by
  induction k with
  | zero => rfl
  | succ k ih =>
    unfold cntO cntX
    rw [ih]
    have h1 : (T ++ [x]).contains (pAt A k).1 = (T.contains (pAt A k).1 || (pAt A k).1 == x) := by
      rw [List.contains_append, List.contains_cons, List.contains_nil, Bool.or_false]
    rw [h1]
    by_cases h2 : (pAt A k).2 = v
    · by_cases h3 : (pAt A k).1 = x
      · rw [h3, hx]; simp [h2]; omega
      · have h4 : ((pAt A k).1 == x) = false := beq_eq_false_iff_ne.2 h3
        rw [h4, Bool.or_false, if_neg (c := (pAt A k).1 = x ∧ (pAt A k).2 = v) (fun h => h3 h.1)]
        omega
    · rw [if_neg (fun h => h2 h.1), if_neg (fun h => h2 h.1), if_neg (fun h => h2 h.2)]
      omega
theorem cnt_nil (A : List (Int × Int)) (v : Int) (k : Nat) : cntO A [] v k = hdN A v k := by
  induction k with
  | zero => rfl
  | succ k ih =>
    unfold cntO hdN
    rw [ih]
    simp
theorem strike_at (A : List (Int × Int)) (x : Int) (D : List Int) (v : Nat) (k : Nat) (hr : ∀ j, j < k → 0 ≤ (pAt A j).2 ∧ (pAt A j).2 < D.length) : iAt (strike A x D k) v = iAt D v - cntX A x v k := by
  induction k with
  | zero => simp [strike, cntX]
  | succ k ih =>
    have h1 := ih (fun j hj => hr j (by omega))
    have h2 := hr k (by omega)
    unfold strike cntX
    by_cases h3 : (pAt A k).1 = x
    · rw [if_pos h3, iAt_set _ _ _ _ (by rw [strike_len]; omega)]
      by_cases h4 : (pAt A k).2 = (v : Int)
      · have h5 : (pAt A k).2.toNat = v := by omega
        rw [if_pos h5, if_pos ⟨h3, h4⟩, h5, h1]
        omega
      · rw [if_neg (by omega), if_neg (fun h => h4 h.2), h1]
        omega
    · rw [if_neg h3, if_neg (fun h => h3 h.1), h1]
      omega
/-- An arc that keeps a vertex from being taken. -/
def badB (A : List (Int × Int)) (T : List Int) (v : Int) (j : Nat) : Bool := (pAt A j).2 == v && !T.contains (pAt A j).1
def freeB (A : List (Int × Int)) (T : List Int) (v : Int) : Bool := (List.range A.length).all fun j => !badB A T v j
theorem free_yes {A : List (Int × Int)} {T : List Int} {v : Int} (h : ∀ j, j < A.length → badB A T v j = false) : freeB A T v = true := by
  unfold freeB
  rw [List.all_eq_true]
  intro j hj
  rw [h j (List.mem_range.1 hj)]; rfl
theorem free_no {A : List (Int × Int)} {T : List Int} {v : Int} (j : Nat) (hj : j < A.length) (h : badB A T v j = true) : freeB A T v = false := by
  unfold freeB
  rw [List.all_eq_false]
  exact ⟨j, List.mem_range.2 hj, by rw [h]; decide⟩
theorem cnt_free (A : List (Int × Int)) (T : List Int) (v : Int) : cntO A T v A.length = 0 ↔ freeB A T v = true := by
  have h1 : ∀ k, k ≤ A.length → (cntO A T v k = 0 ↔ ∀ j, j < k → badB A T v j = false) := by
    intro k hk
    induction k with
    | zero => simp [cntO]
    | succ k ih =>
      unfold cntO
      have h2 : ((pAt A k).2 = v ∧ T.contains (pAt A k).1 = false) ↔ badB A T v k = true := by
        unfold badB
        rw [Bool.and_eq_true, beq_iff_eq, Bool.not_eq_true']
      constructor
      · intro h j hj
        by_cases e : j = k
        · subst e
          cases hb : badB A T v j
          · rfl
          · rw [if_pos (h2.2 hb)] at h; omega
        · exact (ih (by omega)).1 (by omega) j (by omega)
      · intro h
        rw [(ih (by omega)).2 (fun j hj => h j (by omega)), if_neg (fun h3 => by have := h k (by omega); rw [h2.1 h3] at this; cases this)]
  rw [h1 _ (Nat.le_refl _)]
  constructor
  · exact free_yes
  · intro h j hj
    cases hb : badB A T v j
    · rfl
    · rw [free_no j hj hb] at h; cases h
/-- The least vertex that may be taken, looked for from above. -/
def nextD (c : Nat → Bool) (N : Nat) : Nat → Int
  | 0 => -1
  | t + 1 => if c (N - 1 - t) = true then ((N - 1 - t : Nat) : Int) else nextD c N t
theorem next_cases (c : Nat → Bool) (N t : Nat) (ht : t ≤ N) : (nextD c N t = -1 ∧ ∀ v, N - t ≤ v → v < N → c v = false) ∨ (∃ v, N - t ≤ v ∧ v < N ∧ nextD c N t = (v : Nat) ∧ c v = true ∧ ∀ u, N - t ≤ u → u < v → c u = false) := by
  induction t with
  | zero => exact .inl ⟨rfl, fun v h1 h2 => by omega⟩
  | succ t ih =>
    unfold nextD
    cases hc : c (N - 1 - t) with
    | true =>
      rw [if_pos rfl]
      exact .inr ⟨N - 1 - t, by omega, by omega, rfl, hc, fun u h1 h2 => by omega⟩
    | false =>
      rw [if_neg (by decide)]
      rcases ih (by omega) with ⟨h1, h2⟩ | ⟨v, h1, h2, h3, h4, h5⟩
      · refine .inl ⟨h1, fun v h3 h4 => ?_⟩
        by_cases e : v = N - 1 - t
        · rw [e]; exact hc
        · exact h2 v (by omega) h4
      · refine .inr ⟨v, by omega, h2, h3, h4, fun u h6 h7 => ?_⟩
        by_cases e : u = N - 1 - t
        · rw [e]; exact hc
        · exact h5 u (by omega) h7
def canT (A : List (Int × Int)) (T : List Int) (v : Nat) : Bool := !T.contains (v : Int) && freeB A T v
/-- What the reference takes in k rounds. -/
def srtR (A : List (Int × Int)) (N : Nat) : Nat → List Int
  | 0 => []
  | k + 1 => srtR A N k ++ (if 0 ≤ nextD (canT A (srtR A N k)) N N then [nextD (canT A (srtR A N k)) N N] else [])
theorem srtR_len (A : List (Int × Int)) (N k : Nat) : (srtR A N k).length ≤ k := by
  induction k with
  | zero => exact Nat.le_refl _
  | succ k ih => rw [srtR, List.length_append]; split <;> simp <;> omega
structure InvS (A : List (Int × Int)) (N : Nat) (o D : List Int) : Prop where
  len : D.length = N
  val : ∀ v : Nat, v < N → (o.contains (v : Int) = true → iAt D v ≤ -1) ∧ (o.contains (v : Int) = false → iAt D v = cntO A o v A.length)
theorem inv_next {A : List (Int × Int)} {N : Nat} {o D : List Int} (h : InvS A N o D) : nextD (canT A o) N N = Lib.idxOf D 0 := by
  have hz : ∀ v : Nat, v < N → (iAt D v = 0 ↔ canT A o v = true) := by
    intro v hv
    obtain ⟨h1, h2⟩ := h.val v hv
    unfold canT
    cases hc : o.contains (v : Int) with
    | true =>
      have := h1 hc
      constructor
      · intro e; omega
      · intro e; simp at e
    | false =>
      rw [h2 hc, Bool.not_false, Bool.true_and, ← cnt_free]
      omega
  rcases next_cases (canT A o) N N (Nat.le_refl _) with ⟨h1, h2⟩ | ⟨v, -, h2, h3, h4, h5⟩
  · rcases idx_cases D 0 with ⟨h3, -⟩ | ⟨k, hk, -, h4, -⟩
    · rw [h1, h3]
    · have := h2 k (by omega) (by have := h.len; omega)
      rw [(hz k (by have := h.len; omega)).1 h4] at this; cases this
  · rcases idx_cases D 0 with ⟨-, h6⟩ | ⟨k, hk, h6, h7, h8⟩
    · exact absurd ((hz v h2).2 h4) (h6 v (by have := h.len; omega))
    · rw [h3, h6]
      rcases Nat.lt_trichotomy v k with e | e | e
      · exact absurd ((hz v h2).2 h4) (h8 v e)
      · rw [e]
      · have := h5 k (by omega) e
        rw [(hz k (by have := h.len; omega)).1 h7] at this; cases this
theorem inv_step {A : List (Int × Int)} {N : Nat} {o D : List Int} (hr : ∀ j, j < A.length → 0 ≤ (pAt A j).2 ∧ (pAt A j).2 < N) (h : InvS A N o D) (x : Nat) (hx : x < N) (hc : o.contains (x : Int) = false) :
    InvS A N (o ++ [(x : Int)]) (strike A (x : Int) (D.set x (-1)) A.length) := by
  have hl : (D.set x (-1)).length = N := by rw [List.length_set]; exact h.len
  refine ⟨by rw [strike_len]; exact hl, fun v hv => ?_⟩
  have e1 := strike_at A (x : Int) (D.set x (-1)) v A.length (fun j hj => by rw [hl]; exact hr j hj)
  rw [iAt_set _ _ _ _ (by rw [h.len]; exact hx)] at e1
  have e2 : (o ++ [(x : Int)]).contains (v : Int) = (o.contains (v : Int) || (v : Int) == (x : Int)) := by rw [List.contains_append, List.contains_cons, List.contains_nil, Bool.or_false]
  obtain ⟨h1, h2⟩ := h.val v hv
  by_cases hxv : x = v
  · rw [if_pos hxv] at e1
    refine ⟨fun _ => by omega, fun hf => ?_⟩
    rw [e2, hxv] at hf; simp at hf
  · rw [if_neg hxv] at e1
    have e3 : ((v : Int) == (x : Int)) = false := beq_eq_false_iff_ne.2 (by omega)
    rw [e2, e3, Bool.or_false]
    refine ⟨fun hf => by have := h1 hf; omega, fun hf => ?_⟩
    have h3 := h2 hf
    have h4 := cnt_split A o (x : Int) (v : Int) hc A.length
    omega
theorem inv_zero (A : List (Int × Int)) (N : Nat) : InvS A N [] (inL A N A.length) := by
  refine ⟨inL_len _ _ _, fun v hv => ⟨fun h => by simp at h, fun _ => ?_⟩⟩
  rw [inL_at _ _ _ _ hv, cnt_nil]
theorem srt_inv {A : List (Int × Int)} {N : Nat} (hr : ∀ j, j < A.length → 0 ≤ (pAt A j).2 ∧ (pAt A j).2 < N) (k : Nat) : (∀ o D, srt A N k = some (o, D) → srtR A N k = o ∧ o.length = k ∧ InvS A N o D) ∧ (srt A N k = none → (srtR A N k).length < k ∧ nextD (canT A (srtR A N k)) N N < 0) := by
  induction k with
  | zero => exact ⟨fun o D h => (by cases h; exact ⟨rfl, rfl, inv_zero A N⟩), fun h => (by cases h)⟩
  | succ k ih =>
    cases hs : srt A N k with
    | none =>
      obtain ⟨h1, h2⟩ := ih.2 hs
      have e1 : srt A N (k + 1) = none := by rw [srt, hs]
      have e2 : srtR A N (k + 1) = srtR A N k := by rw [srtR, if_neg (by omega), List.append_nil]
      rw [e1, e2]
      exact ⟨fun o D h => (by cases h), fun _ => ⟨by omega, h2⟩⟩
    | some p =>
      obtain ⟨o, D⟩ := p
      obtain ⟨h1, h2, h3⟩ := ih.1 o D hs
      have hn := inv_next h3
      have e1 : srt A N (k + 1) = if Lib.idxOf D 0 < 0 then none else some (o ++ [Lib.idxOf D 0], strike A (Lib.idxOf D 0) (D.set (Lib.idxOf D 0).toNat (-1)) A.length) := by rw [srt, hs]
      rw [e1]
      by_cases hneg : Lib.idxOf D 0 < 0
      · rw [if_pos hneg]
        have e2 : srtR A N (k + 1) = o := by rw [srtR, h1, hn, if_neg (by omega), List.append_nil]
        refine ⟨fun o D h => (by cases h), fun _ => ?_⟩
        rw [e2, hn]
        exact ⟨by omega, hneg⟩
      · rw [if_neg hneg]
        refine ⟨fun o2 D2 h => ?_, fun h => (by cases h)⟩
        cases h
        have e2 : srtR A N (k + 1) = o ++ [Lib.idxOf D 0] := by rw [srtR, h1, hn, if_pos (by omega)]
        rcases next_cases (canT A o) N N (Nat.le_refl _) with ⟨h4, -⟩ | ⟨v, -, h5, h6, h7, -⟩
        · omega
        · rw [hn] at h6
          have h8 : o.contains (v : Int) = false := by
            unfold canT at h7
            rw [Bool.and_eq_true, Bool.not_eq_true'] at h7
            exact h7.1
          refine ⟨e2, by rw [List.length_append, h2]; rfl, ?_⟩
          have h9 := inv_step hr h3 v h5 h8
          rw [h6]
          simpa using h9
theorem srt_ref {A : List (Int × Int)} {N : Nat} (hr : ∀ j, j < A.length → 0 ≤ (pAt A j).2 ∧ (pAt A j).2 < N) : (srtB A N = true → srtR A N N = srtL A N ∧ (srtR A N N).length = N) ∧ (srtB A N = false → (srtR A N N).length < N ∧ srtL A N = []) := by
  obtain ⟨h1, h2⟩ := srt_inv hr N
  unfold srtB srtL
  cases hs : srt A N N with
  | none => exact ⟨fun h => (by cases h), fun _ => ⟨(h2 hs).1, rfl⟩⟩
  | some p =>
    obtain ⟨o, D⟩ := p
    obtain ⟨h3, h4, -⟩ := h1 o D hs
    exact ⟨fun _ => ⟨h3, by rw [h3, h4]⟩, fun h => (by cases h)⟩
end Go.Proofs.Ytlnaahkheankoaa
