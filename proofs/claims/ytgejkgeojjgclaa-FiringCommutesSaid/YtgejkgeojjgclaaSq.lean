/- Scripts one after the other: their sums, and the degree. -/
import Derived.Test.YtgejkgeojjgclaaSn
namespace Go.Proofs.Ytgejkgeojjgclaa
open Go.RowKit Go.Proofs.Gr Go.Proofs.Cp

theorem sumD_range (f : Nat → Int) (N : Nat) : sumD ((List.range N).map f) = sumZ (fun v => f v.toNat) N := by
  induction N with
  | zero => rfl
  | succ N ih =>
    rw [List.range_succ, List.map_append, sumD_append, ih, sumZ]
    show _ + (f N + 0) = _ + f (Int.toNat (N : Int))
    rw [Int.toNat_natCast]; omega
theorem sumD_at (D : List Int) : sumD D = sumZ (fun v => iAt D v.toNat) D.length := by
  have h : D = (List.range D.length).map fun v : Nat => iAt D v := by
    refine eq_of_at (by simp) fun v hv => ?_
    unfold iAt
    rw [List.getD_eq_getElem?_getD, List.getD_eq_getElem?_getD, List.getElem?_map, List.getElem?_range hv]
    simp [List.getD_eq_getElem?_getD, List.getElem?_eq_getElem hv]
  have h2 := sumD_range (fun v => iAt D v) D.length
  rw [← h] at h2
  exact h2
theorem sumZ_congr {f g : Int → Int} (N : Nat) (h : ∀ u : Nat, u < N → f u = g u) : sumZ f N = sumZ g N := by
  induction N with
  | zero => rfl
  | succ N ih => rw [sumZ, sumZ, ih fun u hu => h u (by omega), h N (by omega)]
theorem eN_two (s : Int → Int) (v : Int) (e : E) (h : e.a ≠ e.b) : eN s v e = (if e.a = v then e.m * (s e.b - s e.a) else 0) + (if e.b = v then e.m * (s e.a - s e.b) else 0) := by
  unfold eN
  rw [if_neg h]
  by_cases h1 : e.a = v
  · rw [if_pos h1, if_pos h1, if_neg (fun h2 => h (h1.trans h2.symm))]; omega
  · rw [if_neg h1, if_neg h1]; omega
theorem eN_total {N : Nat} (s : Int → Int) (e : E) (h : 0 ≤ e.a ∧ e.a ≤ e.b ∧ e.b < (N : Int)) : sumZ (fun v => eN s v e) N = 0 := by
  by_cases hl : e.a = e.b
  · refine sumZ_zero _ _ fun u _ => ?_
    unfold eN; rw [if_pos hl]
  · rw [sumZ_congr (g := fun v => (if e.a = v then e.m * (s e.b - s e.a) else 0) + (if e.b = v then e.m * (s e.a - s e.b) else 0)) N (fun u _ => eN_two s u e hl), sumZ_add]
    obtain ⟨x, hx⟩ : ∃ x : Nat, e.a = x := ⟨e.a.toNat, by omega⟩
    obtain ⟨y, hy⟩ : ∃ y : Nat, e.b = y := ⟨e.b.toNat, by omega⟩
    rw [sumZ_one _ N x (by omega) (fun u _ hne => by rw [if_neg (by omega)]), sumZ_one _ N y (by omega) (fun u _ hne => by rw [if_neg (by omega)])]
    rw [if_pos hx, if_pos hy, ← Int.mul_add]
    rw [show s e.b - s e.a + (s e.a - s e.b) = 0 by omega, Int.mul_zero]
theorem sumN_total {N : Nat} (s : Int → Int) (L : List E) (h : ∀ e ∈ L, 0 ≤ e.a ∧ e.a ≤ e.b ∧ e.b < (N : Int) ∧ 1 ≤ e.m ∧ e.m ≤ 50) : sumZ (fun v => sumL (eN s v) L) N = 0 := by
  induction L with
  | nil => exact sumZ_zero _ _ fun u _ => rfl
  | cons e r ih =>
    have h1 := ih fun x hx => h x (by simp [hx])
    have h2 := h e (by simp)
    show sumZ (fun v => eN s v e + sumL (eN s v) r) N = 0
    rw [sumZ_add, h1, eN_total s e (by omega)]; rfl
/-- A script keeps the degree. -/
theorem chD_total {n : Int} {D S : List Int} {L : List E} (hR : Right n L) (hD : (D.length : Int) = n) : sumD (chD D S L) = sumD D := by
  unfold chD
  rw [sumD_range, sumZ_congr (g := fun v => iAt D v.toNat + sumL (eN (fS S) v) L) D.length (fun u _ => by rw [Int.toNat_natCast]), sumZ_add, ← sumD_at, sumN_total (N := D.length) (fS S) L (by rw [hD]; exact hR.rng)]
  omega
/-- Lists within bounds. -/
structure Bq (p : Int) (N : Nat) (D : List Int) : Prop where
  len : D.length = N
  bd : ∀ v : Nat, v < N → -p ≤ iAt D v ∧ iAt D v ≤ p
theorem Bq.div {p : Int} {N : Nat} {D : List Int} {L : List E} (h : Bq p N D) (hp : p ≤ 1048576) (hR : Right N L) : Cp.Div D := by
  have h1 := hR.lo
  have h2 := hR.hi
  have h3 := h.len
  refine ⟨by omega, by omega, fun z hz => ?_⟩
  obtain ⟨j, hj, rfl⟩ := List.getElem_of_mem hz
  rw [iAt_get _ j hj]
  have := h.bd j (by omega)
  omega
theorem Bq.fS {p : Int} {N : Nat} {S : List Int} (h : Bq p N S) : ∀ u : Int, 0 ≤ u → u < N → -p ≤ fS S u ∧ fS S u ≤ p := fun u h0 h1 => h.bd u.toNat (by omega)
theorem Bq.ch {p q : Int} {N : Nat} {D S : List Int} {L : List E} (hD : Bq p N D) (hS : Bq q N S) (hq : 0 ≤ q ∧ q ≤ 1000) (hR : Right N L) (hl : L.length ≤ 40) : Bq (p + 4000 * q) N (chD D S L) := by
  refine ⟨by rw [chD_len, hD.len], fun v hv => ?_⟩
  rw [chD_at _ _ _ v (by rw [hD.len]; exact hv)]
  have h1 := sumN_small hR hq hS.fS v hl
  have h2 := hD.bd v hv
  omega
theorem smD_bq {n : Int} {N : Nat} {L : List E} {S : List Int} (h : SmS n L S) (hn : n = N) : Bq 60 N S := by
  have := h.len
  exact ⟨by omega, fun v hv => h.sm v (by omega)⟩
theorem sml_out {n : Int} {L : List E} {D : List Int} (h : smlD n L D = true) : SmS n L D := by
  unfold smlD at h
  rw [Bool.and_eq_true, Bool.and_eq_true, decide_eq_true_iff] at h
  exact sml_of h.1.1 h.1.2 h.2
/-- Applied scripts, where nothing leaves the range. -/
theorem apply_num {p q : Int} {N : Nat} {D S : List Int} {L : List E} (hD : Bq p N D) (hS : Bq q N S) (hq : 0 ≤ q ∧ q ≤ 1000) (hpq : 0 ≤ p ∧ p + 4000 * q ≤ 1048576) (hR : Right N L) (hl : L.length ≤ 40) : resV (appK N L D S) D S L = chD D S L ∧ resK (appK N L D S) D S L = 0 := by
  have h1 := chkGD_ok hR (hD.div (by omega) hR) (by rw [hD.len])
  have h2 := chkGD_ok hR (hS.div (by omega) hR) (by rw [hS.len])
  have h3 : appK N L D S = 0 := by unfold appK; rw [if_neg (by omega)]; exact h2
  have hb := hD.ch hS hq hR hl
  obtain ⟨c1, c2⟩ := ch_ok (n := N) (D := D) (S := S) (L := L) (by rw [hD.len]) (fun v hv => by
    have := hb.bd v (by rw [← hD.len]; exact hv)
    rw [chD_at _ _ _ v hv] at this
    omega)
  obtain ⟨r1, r2⟩ := res_ok D S L h3
  exact ⟨by rw [r2, c2], by rw [r1, c1]⟩
/-- The sum of two scripts, as far as it is filled in. -/
def addT (S T : List Int) (N i : Nat) : List Int := (List.range N).map fun j : Nat => if j < i then iAt S j + iAt T j else 0
theorem addT_len (S T : List Int) (N i : Nat) : (addT S T N i).length = N := by simp [addT]
theorem addT_at (S T : List Int) (N i j : Nat) (h : j < N) : iAt (addT S T N i) j = if j < i then iAt S j + iAt T j else 0 := by
  unfold addT
  show List.getD _ j 0 = _
  rw [List.getD_eq_getElem?_getD, List.getElem?_map, List.getElem?_range h]; rfl
theorem addT_zero (S T : List Int) (N : Nat) : addT S T N 0 = List.replicate N 0 := by
  refine eq_of_at (by rw [addT_len, List.length_replicate]) fun j hj => ?_
  rw [addT_len] at hj
  rw [addT_at _ _ _ _ _ hj, if_neg (by omega)]
  unfold iAt
  rw [List.getD_eq_getElem?_getD, List.getElem?_replicate]
  split <;> rfl
theorem addT_next (S T : List Int) (N i : Nat) (h : i < N) : (addT S T N i).set i (iAt S i + iAt T i) = addT S T N (i + 1) := by
  refine eq_of_at (by rw [List.length_set, addT_len, addT_len]) fun j hj => ?_
  rw [List.length_set, addT_len] at hj
  rw [iAt_set _ _ _ _ (by rw [addT_len]; exact h), addT_at _ _ _ _ _ hj, addT_at _ _ _ _ _ hj]
  by_cases e : i = j
  · subst e; rw [if_pos rfl, if_pos (by omega)]
  · rw [if_neg e]
    by_cases e2 : j < i
    · rw [if_pos e2, if_pos (by omega)]
    · rw [if_neg e2, if_neg (by omega)]
theorem addT_bq {p q : Int} {N : Nat} {S T : List Int} (hS : Bq p N S) (hT : Bq q N T) : Bq (p + q) N (addT S T N N) :=
  ⟨addT_len _ _ _ _, fun v hv => by
    rw [addT_at _ _ _ _ _ hv, if_pos hv]
    have h1 := hS.bd v hv
    have h2 := hT.bd v hv
    omega⟩
/-- One after the other, in either order, and at once. -/
theorem ch_ch {N : Nat} {D S T : List Int} {L : List E} (_hD : D.length = N) (hR : Right N L) : chD (chD D S L) T L = chD D (addT S T N N) L := by
  refine eq_of_at (by rw [chD_len, chD_len, chD_len]) fun v hv => ?_
  rw [chD_len, chD_len] at hv
  rw [chD_at _ _ _ v (by rw [chD_len]; exact hv), chD_at _ _ _ v hv, chD_at _ _ _ v hv, Int.add_assoc, ← sumN_add]
  congr 1
  refine sumN_congr hR v fun u h0 h1 => ?_
  show iAt S u.toNat + iAt T u.toNat = iAt (addT S T N N) u.toNat
  rw [addT_at _ _ _ _ _ (by omega), if_pos (by omega)]
theorem addT_comm (S T : List Int) (N i : Nat) : addT S T N i = addT T S N i := by
  unfold addT
  refine List.map_congr_left fun j _ => ?_
  split
  · omega
  · rfl
end Go.Proofs.Ytgejkgeojjgclaa
