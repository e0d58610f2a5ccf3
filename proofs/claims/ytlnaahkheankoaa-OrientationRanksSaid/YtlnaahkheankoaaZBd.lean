/- Orders and what comes of them, in numbers. -/
import Derived.Test.YtlnaahkheankoaaZAe
import Derived.Test.YtlnaahkheankoaaZAc
import Derived.Test.YtlnaahkheankoaaQ09
import Derived.Test.YtlnaahkheankoaaQ12
namespace Go.Proofs.Ytlnaahkheankoaa
open Go.RowKit Go.Shelf Go.Proofs.Gr

theorem nodup_len {l m : List Int} (hl : l.Nodup) (hs : ∀ x ∈ l, x ∈ m) : l.length ≤ m.length := by
  induction l generalizing m with
  | nil => simp
  | cons x r ih =>
    obtain ⟨h1, h2⟩ := List.nodup_cons.1 hl
    have hx : x ∈ m := hs x (by simp)
    have h3 := ih h2 (m := m.erase x) (fun y hy => (List.mem_erase_of_ne (fun e => h1 (by rw [← e]; exact hy))).2 (hs y (by simp [hy])))
    rw [List.length_erase_of_mem hx] at h3
    have h4 := List.length_pos_of_mem hx
    rw [List.length_cons]; omega
theorem srt_next (A : List (Int × Int)) (N k : Nat) : (srtR A N (k + 1) = srtR A N k ∧ ∀ v, v < N → canT A (srtR A N k) v = false) ∨ ∃ v : Nat, v < N ∧ canT A (srtR A N k) v = true ∧ (∀ u, u < v → canT A (srtR A N k) u = false) ∧ srtR A N (k + 1) = srtR A N k ++ [(v : Int)] := by
  rcases next_cases (canT A (srtR A N k)) N N (Nat.le_refl _) with ⟨h1, h2⟩ | ⟨v, -, h3, h4, h5, h6⟩
  · left
    exact ⟨by rw [srtR, h1, if_neg (by omega), List.append_nil], fun v hv => h2 v (by omega) hv⟩
  · right
    exact ⟨v, h3, h5, fun u hu => h6 u (by omega) hu, by rw [srtR, h4, if_pos (by omega)]⟩
structure SrtI (A : List (Int × Int)) (N : Nat) (T : List Int) : Prop where
  nodup : T.Nodup
  rng : ∀ z ∈ T, 0 ≤ z ∧ z < (N : Int)
  free : ∀ i, i < T.length → freeB A (T.take i) (iAt T i) = true
theorem can_two {A : List (Int × Int)} {T : List Int} {v : Nat} (h : canT A T v = true) : T.contains (v : Int) = false ∧ freeB A T v = true := by
  unfold canT at h
  rw [Bool.and_eq_true, Bool.not_eq_true'] at h
  exact h
theorem srt_all (A : List (Int × Int)) (N k : Nat) : SrtI A N (srtR A N k) := by
  induction k with
  | zero => exact ⟨by simp [srtR], by simp [srtR], fun i hi => by simp [srtR] at hi⟩
  | succ k ih =>
    rcases srt_next A N k with ⟨e, -⟩ | ⟨v, hv, hc, -, e⟩
    · rw [e]; exact ih
    · rw [e]
      obtain ⟨c1, c2⟩ := can_two hc
      have c3 : (v : Int) ∉ srtR A N k := fun hm => by rw [← List.contains_iff_mem, c1] at hm; cases hm
      refine ⟨?_, fun z hz => ?_, fun i hi => ?_⟩
      · rw [List.nodup_append]
        exact ⟨ih.nodup, by simp, fun x hx y hy => by rw [List.mem_singleton] at hy; subst hy; exact fun e => c3 (by rw [← e]; exact hx)⟩
      · rcases List.mem_append.1 hz with h | h
        · exact ih.rng z h
        · rw [List.mem_singleton] at h; omega
      · rw [List.length_append, List.length_singleton] at hi
        by_cases e2 : i < (srtR A N k).length
        · have h1 := ih.free i e2
          rw [List.take_append_of_le_length (by omega)]
          have e3 : iAt (srtR A N k ++ [(v : Int)]) i = iAt (srtR A N k) i := by
            rw [← iAt_get _ i (by rw [List.length_append]; omega), ← iAt_get _ i e2, List.getElem_append_left e2]
          rw [e3]; exact h1
        · have e3 : i = (srtR A N k).length := by omega
          have e4 : iAt (srtR A N k ++ [(v : Int)]) i = (v : Int) := by
            rw [← iAt_get _ i (by rw [List.length_append, List.length_singleton]; omega), List.getElem_append_right (by omega)]
            simp
          rw [e4, e3, List.take_left' rfl]
          exact c2
/-- Where some vertex can always be taken, all are. -/
theorem srt_full {A : List (Int × Int)} {N : Nat} (h : ∀ T : List Int, T.Nodup → (∀ z ∈ T, 0 ≤ z ∧ z < (N : Int)) → T.length < N → ∃ v, v < N ∧ canT A T v = true) (k : Nat) (hk : k ≤ N) : (srtR A N k).length = k := by
  induction k with
  | zero => rfl
  | succ k ih =>
    have h1 := ih (by omega)
    rcases srt_next A N k with ⟨-, h2⟩ | ⟨v, -, -, -, e⟩
    · obtain ⟨v, hv, hc⟩ := h (srtR A N k) (srt_all A N k).nodup (srt_all A N k).rng (by omega)
      rw [h2 v hv] at hc; cases hc
    · rw [e, List.length_append, h1]; rfl
theorem srt_head (A : List (Int × Int)) (N k : Nat) (h : 0 < (srtR A N k).length) : ∃ v : Nat, v < N ∧ canT A [] v = true ∧ (∀ u, u < v → canT A [] u = false) ∧ iAt (srtR A N k) 0 = v := by
  induction k with
  | zero => simp [srtR] at h
  | succ k ih =>
    rcases srt_next A N k with ⟨e, -⟩ | ⟨v, hv, hc, hm, e⟩
    · rw [e] at h ⊢; exact ih h
    · by_cases h0 : 0 < (srtR A N k).length
      · obtain ⟨x, x1, x2, x3, x4⟩ := ih h0
        refine ⟨x, x1, x2, x3, ?_⟩
        rw [e, ← iAt_get _ 0 (by rw [List.length_append]; omega), List.getElem_append_left h0, iAt_get _ 0 h0, x4]
      · have e0 : srtR A N k = [] := List.length_eq_zero_iff.1 (by omega)
        rw [e0] at hc hm e
        exact ⟨v, hv, hc, hm, by rw [e]; rfl⟩
/-- A bad arc at a vertex that is not taken. -/
theorem free_arc {A : List (Int × Int)} {T : List Int} {v : Int} (h : freeB A T v = true) (j : Nat) (hj : j < A.length) (hv : (pAt A j).2 = v) : T.contains (pAt A j).1 = true := by
  cases hc : T.contains (pAt A j).1 with
  | true => rfl
  | false =>
    have := free_no j hj (T := T) (v := v) (by unfold badB; rw [hv, hc]; simp)
    rw [this] at h; cases h
/-- A loop keeps its vertex from being taken. -/
theorem srt_loop {A : List (Int × Int)} {N : Nat} (j : Nat) (hj : j < A.length) (hl : (pAt A j).1 = (pAt A j).2) (hr : 0 ≤ (pAt A j).2 ∧ (pAt A j).2 < (N : Int)) (k : Nat) : (srtR A N k).length < N := by
  have hs := srt_all A N k
  have hn : (pAt A j).2 ∉ srtR A N k := fun hm => by
    obtain ⟨i, hi, e⟩ := List.getElem_of_mem hm
    have h1 := hs.free i hi
    rw [← iAt_get _ i hi, e] at h1
    have h2 := free_arc h1 j hj rfl
    rw [hl, List.contains_iff_mem] at h2
    obtain ⟨x, hx, e2⟩ := List.getElem_of_mem h2
    rw [List.length_take] at hx
    rw [List.getElem_take] at e2
    exact absurd (e2.trans e.symm) (List.pairwise_iff_getElem.1 hs.nodup x i (by omega) hi (by omega))
  have h3 := nodup_len (l := srtR A N k) (m := ((List.range N).map fun v : Nat => (v : Int)).erase (pAt A j).2) hs.nodup (fun z hz => by
    have h4 := hs.rng z hz
    exact (List.mem_erase_of_ne (fun e => hn (by rw [← e]; exact hz))).2 (List.mem_map.2 ⟨z.toNat, List.mem_range.2 (by omega), by omega⟩))
  rw [List.length_erase_of_mem (List.mem_map.2 ⟨(pAt A j).2.toNat, List.mem_range.2 (by omega), by omega⟩)] at h3
  simp only [List.length_map, List.length_range] at h3
  omega
/-- The first places of an order that are missing. -/
theorem ord_miss (S T : List Int) (m : Nat) (hm : m ≤ S.length) : (∀ i, i < m → iAt S i ∈ T) ∨ ∃ i, i < m ∧ iAt S i ∉ T ∧ ∀ j, j < i → iAt S j ∈ T := by
  induction m with
  | zero => left; intro i hi; omega
  | succ m ih =>
    rcases ih (by omega) with h | ⟨i, h1, h2, h3⟩
    · by_cases hc : iAt S m ∈ T
      · left
        intro i hi
        by_cases e : i = m
        · rw [e]; exact hc
        · exact h i (by omega)
      · right; exact ⟨m, by omega, hc, h⟩
    · right; exact ⟨i, by omega, h2, h3⟩
theorem src_first (D : List Int) (k v : Nat) (hv : v < k) (h0 : iAt D v = 0) (hm : ∀ u, u < v → iAt D u ≠ 0) : 0 < (srcL D k).length ∧ iAt (srcL D k) 0 = v := by
  have hn : ∀ u, u ≤ v → srcL D u = [] := by
    intro u
    induction u with
    | zero => intro _; rfl
    | succ u ih => intro hu; rw [srcL, ih (by omega), if_neg (hm u (by omega))]; rfl
  induction k with
  | zero => omega
  | succ k ih =>
    rw [srcL]
    by_cases e : v = k
    · subst e
      rw [hn v (Nat.le_refl _), if_pos h0]
      exact ⟨by simp, rfl⟩
    · obtain ⟨h1, h2⟩ := ih (by omega)
      refine ⟨by rw [List.length_append]; omega, ?_⟩
      rw [← iAt_get _ 0 (by rw [List.length_append]; omega), List.getElem_append_left h1, iAt_get _ 0 h1, h2]
end Go.Proofs.Ytlnaahkheankoaa
