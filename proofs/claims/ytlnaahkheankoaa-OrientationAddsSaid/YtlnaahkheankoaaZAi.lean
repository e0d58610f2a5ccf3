/- Orientations turned whole: numbers. -/
import Derived.Test.YtlnaahkheankoaaQ09
namespace Go.Proofs.Ytlnaahkheankoaa
open Go.RowKit Go.Shelf Go.Proofs.Gr

/-- The first numbers. -/
def upto (m : Nat) : List Int := (List.range m).map fun k : Nat => (k : Int)
theorem upto_len (m : Nat) : (upto m).length = m := by simp [upto]
theorem upto_at (m i : Nat) (h : i < m) : iAt (upto m) i = i := by
  unfold iAt upto
  rw [List.getD_eq_getElem?_getD, List.getElem?_map, List.getElem?_range h]; rfl
theorem upto_succ (m : Nat) : upto (m + 1) = upto m ++ [(m : Int)] := by
  unfold upto; rw [List.range_succ, List.map_append]; rfl
theorem bAt_set (l : List Bool) (i j : Nat) (v : Bool) (h : i < l.length) : bAt (l.set i v) j = if i = j then v else bAt l j := by
  unfold bAt
  rw [List.getD_eq_getElem?_getD, List.getElem?_set]
  by_cases e : i = j
  · rw [if_pos e, if_pos e, if_pos h]; rfl
  · rw [if_neg e, if_neg e, List.getD_eq_getElem?_getD]
/-- All that come are turned. -/
theorem rev_at (O : List Bool) (k : Nat) (hk : k ≤ O.length) (j : Nat) : bAt (revL O (upto O.length) k) j = if j < k then !bAt O j else bAt O j := by
  induction k with
  | zero => rw [if_neg (by omega)]; rfl
  | succ k ih =>
    have h1 := ih (by omega)
    have h2 := upto_at O.length k (by omega)
    rw [revL, h2, Int.toNat_natCast, bAt_set _ _ _ _ (by rw [revL_len]; omega)]
    by_cases e : k = j
    · subst e
      rw [if_pos rfl, if_pos (by omega), h1, if_neg (by omega)]
    · rw [if_neg e, h1]
      by_cases h3 : j < k
      · rw [if_pos h3, if_pos (by omega)]
      · rw [if_neg h3, if_neg (by omega)]
theorem list_bAt {l m : List Bool} (h : l.length = m.length) (hb : ∀ j, j < l.length → bAt l j = bAt m j) : l = m := by
  refine List.ext_getElem h fun j h1 h2 => ?_
  rw [bAt_get l j h1, bAt_get m j h2]
  exact hb j h1
theorem rev_all (O : List Bool) : revL O (upto O.length) (upto O.length).length = O.map (!·) := by
  rw [upto_len]
  refine list_bAt (by rw [revL_len, List.length_map]) fun j hj => ?_
  rw [revL_len] at hj
  rw [rev_at O _ (Nat.le_refl _), if_pos hj]
  unfold bAt
  rw [List.getD_eq_getElem?_getD, List.getD_eq_getElem?_getD, List.getElem?_map, List.getElem?_eq_getElem hj]; rfl
theorem rev_twice (O : List Bool) : revL (O.map (!·)) (upto O.length) (upto O.length).length = O := by
  have h := rev_all (O.map (!·))
  rw [List.length_map] at h
  rw [h, List.map_map]
  have : ((!·) ∘ (!·) : Bool → Bool) = id := by funext x; cases x <;> rfl
  rw [this, List.map_id]
theorem rev_err {n : Int} {L : List E} {O O2 : List Bool} (h : chkO n L O = 0) (hl : O2.length = O.length) : revE n L O2 (upto O.length) = 0 := by
  have h2 : chkO n L O2 = chkO n L O := by unfold chkO; rw [hl]
  unfold revE
  rw [h2, h, if_neg (fun h => h rfl)]
  refine firstE_zero fun j hj => ?_
  rw [upto_len] at hj
  unfold nErr
  rw [upto_at _ _ hj, if_neg (by omega), if_neg]
  intro hc
  rw [List.contains_iff_mem] at hc
  obtain ⟨i, hi, e⟩ := List.mem_iff_getElem.1 hc
  rw [List.length_take] at hi
  rw [List.getElem_take, iAt_get _ _ (by omega), upto_at _ _ (by rw [upto_len] at hi; omega)] at e
  omega
/-- An arc and its turned one end at the two ends of the edge. -/
theorem heads_both (P : List (Int × Int)) (O : List Bool) (hl : O.length = P.length) (v : Int) (k : Nat) (hk : k ≤ P.length) :
    hdN (arcs P O) v k + hdN (arcs P (O.map (!·))) v k = ((P.take k).countP fun p => p.1 == v) + ((P.take k).countP fun p => p.2 == v) := by
  induction k with
  | zero => rfl
  | succ k ih =>
    have h1 := ih (by omega)
    have e1 : pAt (arcs P O) k = arcP P O k := arcs_at _ _ _ (by omega)
    have e2 : pAt (arcs P (O.map (!·))) k = arcP P (O.map (!·)) k := arcs_at _ _ _ (by omega)
    have e3 : bAt (O.map (!·)) k = !bAt O k := by
      unfold bAt
      rw [List.getD_eq_getElem?_getD, List.getD_eq_getElem?_getD, List.getElem?_map, List.getElem?_eq_getElem (by omega)]; rfl
    unfold hdN
    rw [e1, e2, List.take_succ_eq_append_getElem (by omega), List.countP_append, List.countP_append, List.countP_singleton, List.countP_singleton, pAt_get P k (by omega)]
    have e4 : (arcP P O k).2 = if bAt O k = true then (pAt P k).2 else (pAt P k).1 := by unfold arcP; split <;> rfl
    have e5 : (arcP P (O.map (!·)) k).2 = if bAt O k = true then (pAt P k).1 else (pAt P k).2 := by unfold arcP; rw [e3]; cases bAt O k <;> rfl
    rw [e4, e5]
    cases bAt O k <;> simp only [beq_iff_eq, if_true, Bool.false_eq_true, if_false] <;> omega
/-- The degree of a vertex, by ends. -/
def degP : List (Int × Int) → Int → Int
  | [], _ => 0
  | p :: r, v => (if p.1 = v then 1 else 0) + (if p.2 = v then 1 else 0) + degP r v
theorem degP_append (A B : List (Int × Int)) (v : Int) : degP (A ++ B) v = degP A v + degP B v := by
  induction A with
  | nil => simp [degP]
  | cons p r ih => rw [List.cons_append, degP, degP, ih]; omega
theorem degP_ends {n : Int} {L : List E} (h : ∀ e ∈ L, 0 ≤ e.a ∧ e.a ≤ e.b ∧ e.b < n ∧ 1 ≤ e.m ∧ e.m ≤ 50) (v : Int) : degP (endsG L) v = sumL (othE v) L + 2 * sumL (loopE v) L := by
  induction L with
  | nil => rfl
  | cons e r ih =>
    have h1 := ih (fun x hx => h x (by simp [hx]))
    have h2 := h e (by simp)
    have e1 : endsG (e :: r) = List.replicate e.m.toNat (e.a, e.b) ++ endsG r := by unfold endsG; rw [List.flatMap_cons]
    have e2 : ∀ k : Nat, degP (List.replicate k (e.a, e.b)) v = ((if e.a = v then 1 else 0) + (if e.b = v then 1 else 0)) * (k : Int) := by
      intro k
      induction k with
      | zero => simp [degP]
      | succ k ik => rw [List.replicate_succ, degP, ik, Int.natCast_succ, Int.mul_add]; simp only; omega
    rw [e1, degP_append, h1, e2, sumL, sumL, Int.toNat_of_nonneg (by omega)]
    unfold othE loopE
    by_cases ha : e.a = v <;> by_cases hb : e.b = v <;> simp [ha, hb] <;> omega
theorem deg_cnt (P : List (Int × Int)) (v : Int) : degP P v = (((P.countP fun p => p.1 == v) + (P.countP fun p => p.2 == v) : Nat) : Int) := by
  induction P with
  | nil => rfl
  | cons p r ih =>
    rw [degP, ih, List.countP_cons, List.countP_cons]
    by_cases h1 : p.1 = v <;> by_cases h2 : p.2 = v <;> simp [h1, h2] <;> omega
theorem deg_ref {N : Nat} {L : List E} (hR : Right N L) (v : Int) : valZ v L N + 2 * betw v v L = degP (endsG L) v := by
  rw [degP_ends hR.rng, valZ_oth v L hR.rng]
  unfold betw
  rw [Int.min_self, Int.max_self, bet_loop]
/-- Sums of a list's first ones. -/
def sumN (f : Nat → Int) : Nat → Int
  | 0 => 0
  | k + 1 => sumN f k + f k
theorem sumN_add (f g : Nat → Int) (n : Nat) : sumN (fun v => f v + g v) n = sumN f n + sumN g n := by
  induction n with
  | zero => rfl
  | succ n ih => rw [sumN, sumN, sumN, ih]; omega
theorem sumN_congr {f g : Nat → Int} {n : Nat} (h : ∀ v, v < n → f v = g v) : sumN f n = sumN g n := by
  induction n with
  | zero => rfl
  | succ n ih => rw [sumN, sumN, ih (fun v hv => h v (by omega)), h n (by omega)]
theorem sumN_one (x : Int) (n : Nat) : sumN (fun v => if x = (v : Int) then 1 else 0) n = if 0 ≤ x ∧ x < n then 1 else 0 := by
  induction n with
  | zero => rw [sumN, if_neg (by omega)]
  | succ n ih =>
    rw [sumN, ih]
    by_cases h1 : 0 ≤ x ∧ x < (n : Int)
    · rw [if_pos h1, if_neg (by omega), if_pos (by omega)]; rfl
    · rw [if_neg h1]
      by_cases h2 : x = (n : Int)
      · rw [if_pos h2, if_pos (by omega)]; rfl
      · rw [if_neg h2, if_neg (by omega)]; rfl
theorem sum_heads (A : List (Int × Int)) (N k : Nat) (hr : ∀ j, j < k → 0 ≤ (pAt A j).2 ∧ (pAt A j).2 < N) : sumN (fun v => (hdN A (v : Int) k : Int)) N = k := by
  induction k with
  | zero =>
    have : ∀ n, sumN (fun v => (hdN A (v : Int) 0 : Int)) n = 0 := by
      intro n
      induction n with
      | zero => rfl
      | succ n ih => rw [sumN, ih]; rfl
    exact this N
  | succ k ih =>
    have h1 := ih (fun j hj => hr j (by omega))
    have h2 := hr k (by omega)
    have h3 : sumN (fun v => (hdN A (v : Int) (k + 1) : Int)) N = sumN (fun v => (hdN A (v : Int) k : Int) + (if (pAt A k).2 = (v : Int) then 1 else 0)) N :=
      sumN_congr fun v _ => by rw [hdN]; split <;> simp
    rw [h3, sumN_add, h1, sumN_one, if_pos h2]
    omega
theorem sum_in {n : Int} {L : List E} {O : List Bool} (h : chkO n L O = 0) : sumN (fun v => iAt (inO n L O) v) n.toNat = O.length := by
  have h2 := chkG_n (chkO_zero h).1
  have h1 := sum_heads (arcs (endsG L) O) n.toNat (arcs (endsG L) O).length (fun j hj => by
    have h1 := arcs_rng (right_of (chkO_zero h).1) O j hj
    omega)
  rw [show sumN (fun v => iAt (inO n L O) v) n.toNat = sumN (fun v => (hdN (arcs (endsG L) O) (v : Int) (arcs (endsG L) O).length : Int)) n.toNat from sumN_congr fun v hv => inL_at _ _ _ _ hv, h1, arcs_len, chkO_len h]
theorem in_out {N : Nat} {L : List E} {O : List Bool} (h : chkO (N : Int) L O = 0) (v : Nat) (hv : v < N) : iAt (inO N L O) v + iAt (inO N L (O.map (!·))) v = valZ (v : Int) L N + 2 * betw (v : Int) (v : Int) L := by
  have hR := right_of (chkO_zero h).1
  have hl := chkO_len h
  have h1 := heads_both (endsG L) O hl.symm (v : Int) (endsG L).length (Nat.le_refl _)
  rw [List.take_length] at h1
  rw [deg_ref hR, deg_cnt, ← h1]
  unfold inO
  rw [Int.toNat_natCast, inL_at _ _ _ _ hv, inL_at _ _ _ _ hv, arcs_len, arcs_len]
  omega
end Go.Proofs.Ytlnaahkheankoaa
