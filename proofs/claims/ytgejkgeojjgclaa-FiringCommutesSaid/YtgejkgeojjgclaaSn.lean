/- Scripts, sets and what they change, in numbers. -/
import Derived.Test.YtgejkgeojjgclaaEa
namespace Go.Proofs.Ytgejkgeojjgclaa
open Go.RowKit Go.Proofs.Gr Go.Proofs.Cp

theorem eN_add (s t : Int → Int) (v : Int) (e : E) : eN (fun u => s u + t u) v e = eN s v e + eN t v e := by
  unfold eN
  split
  · rfl
  · split
    · rw [← Int.mul_add]; congr 1; simp only; omega
    · split
      · rw [← Int.mul_add]; congr 1; simp only; omega
      · rfl
theorem eN_congr {s t : Int → Int} {v : Int} {e : E} (ha : s e.a = t e.a) (hb : s e.b = t e.b) : eN s v e = eN t v e := by
  unfold eN; rw [ha, hb]
theorem eN_shift (s : Int → Int) (c v : Int) (e : E) : eN (fun u => s u - c) v e = eN s v e := by
  unfold eN
  rw [show s e.b - c - (s e.a - c) = s e.b - s e.a by omega, show s e.a - c - (s e.b - c) = s e.a - s e.b by omega]
theorem sumL_congr {f g : E → Int} (L : List E) (h : ∀ e ∈ L, f e = g e) : sumL f L = sumL g L := by
  induction L with
  | nil => rfl
  | cons e r ih => rw [sumL, sumL, h e (by simp), ih (fun x hx => h x (by simp [hx]))]
theorem sumL_add (f g : E → Int) (L : List E) : sumL (fun e => f e + g e) L = sumL f L + sumL g L := by
  induction L with
  | nil => rfl
  | cons e r ih => rw [sumL, sumL, sumL, ih]; omega
theorem sumN_add (s t : Int → Int) (v : Int) (L : List E) : sumL (eN (fun u => s u + t u) v) L = sumL (eN s v) L + sumL (eN t v) L := by
  rw [← sumL_add]; exact sumL_congr L fun e _ => eN_add s t v e
theorem sumN_congr {n : Int} {s t : Int → Int} {L : List E} (hR : Right n L) (v : Int) (h : ∀ u, 0 ≤ u → u < n → s u = t u) : sumL (eN s v) L = sumL (eN t v) L :=
  sumL_congr L fun e he => by have := hR.rng e he; exact eN_congr (h _ (by omega) (by omega)) (h _ (by omega) (by omega))
theorem sumN_shift (s : Int → Int) (c v : Int) (L : List E) : sumL (eN (fun u => s u - c) v) L = sumL (eN s v) L :=
  sumL_congr L fun e _ => eN_shift s c v e
/-- Bounds of what a small script changes. -/
theorem eN_small {n : Int} {p : Int} {s : Int → Int} (hp : 0 ≤ p ∧ p ≤ 1000) (hs : ∀ u, 0 ≤ u → u < n → -p ≤ s u ∧ s u ≤ p) (v : Int) {e : E} (h : 0 ≤ e.a ∧ e.a ≤ e.b ∧ e.b < n ∧ 1 ≤ e.m ∧ e.m ≤ 50) : -(100 * p) ≤ eN s v e ∧ eN s v e ≤ 100 * p := by
  have h1 := hs e.a (by omega) (by omega)
  have h2 := hs e.b (by omega) (by omega)
  have key : ∀ x : Int, -(2 * p) ≤ x ∧ x ≤ 2 * p → -(100 * p) ≤ e.m * x ∧ e.m * x ≤ 100 * p := fun x hx => by
    have h3 : (e.m * x).natAbs ≤ 50 * (2 * p).natAbs := by rw [Int.natAbs_mul]; exact Nat.mul_le_mul (by omega) (by omega)
    omega
  unfold eN
  split
  · omega
  · split
    · exact key _ (by omega)
    · split
      · exact key _ (by omega)
      · omega
theorem sumN_small {n : Int} {p : Int} {s : Int → Int} {L : List E} (hR : Right n L) (hp : 0 ≤ p ∧ p ≤ 1000) (hs : ∀ u, 0 ≤ u → u < n → -p ≤ s u ∧ s u ≤ p) (v : Int) (hl : L.length ≤ 40) : -(4000 * p) ≤ sumL (eN s v) L ∧ sumL (eN s v) L ≤ 4000 * p := by
  have key : ∀ M : List E, (∀ e ∈ M, 0 ≤ e.a ∧ e.a ≤ e.b ∧ e.b < n ∧ 1 ≤ e.m ∧ e.m ≤ 50) → -(100 * p * (M.length : Int)) ≤ sumL (eN s v) M ∧ sumL (eN s v) M ≤ 100 * p * (M.length : Int) := by
    intro M
    induction M with
    | nil => intro _; simp [sumL]
    | cons e r ih =>
      intro h
      have h1 := ih fun x hx => h x (by simp [hx])
      have h2 := eN_small hp hs v (h e (by simp))
      rw [sumL, List.length_cons, Int.natCast_add, Int.mul_add]
      simp only [Int.natCast_one, Int.mul_one]
      omega
  have h1 := key L hR.rng
  have h2 : 100 * p * (L.length : Int) ≤ 100 * p * 40 := Int.mul_le_mul_of_nonneg_left (by omega) (by omega)
  omega
/-- What comes of a script where the numbers stay in range. -/
theorem ch_ok {n : Int} {D S : List Int} {L : List E} (_hD : (D.length : Int) = n) (h : ∀ v : Nat, v < D.length → -1048576 ≤ iAt D v + sumL (eN (fS S) v) L ∧ iAt D v + sumL (eN (fS S) v) L ≤ 1048576) : chK D S L = 0 ∧ chV D S L = chD D S L := by
  have hb : (chD D S L).any big = false := by
    rw [List.any_eq_false]
    intro z hz
    obtain ⟨j, hj, rfl⟩ := List.getElem_of_mem hz
    rw [chD_len] at hj
    rw [iAt_get _ j (by rw [chD_len]; exact hj), chD_at D S L j hj]
    have := big_false.2 (h j hj)
    rw [this]; decide
  unfold chK chV
  rw [if_neg (by rw [hb]; decide), if_neg (by rw [hb]; decide)]
  exact ⟨rfl, rfl⟩
/-- The script of a set. -/
theorem setL_at (N : Nat) (t : Int) (A : List Int) (k : Nat) (hk : k ≤ A.length) (hr : ∀ i, i < A.length → 0 ≤ iAt A i ∧ iAt A i < N) (v : Nat) : iAt (setL N t A k) v = if (A.take k).contains (v : Int) = true then t else 0 := by
  induction k with
  | zero =>
    rw [setL]
    simp [iAt, List.getD_eq_getElem?_getD, List.getElem?_replicate]
    split <;> rfl
  | succ k ih =>
    have h1 := ih (by omega)
    have h2 := hr k (by omega)
    rw [setL, iAt_set _ _ _ _ (by rw [setL_len]; omega), List.take_succ_eq_append_getElem (by omega), iAt_get A k (by omega), h1]
    by_cases e : (iAt A k).toNat = v
    · rw [if_pos e, if_pos (by
        rw [List.contains_iff_mem]
        have : iAt A k = (v : Int) := by omega
        rw [this]; simp)]
    · rw [if_neg e]
      have hne : ¬ (v : Int) = iAt A k := by omega
      by_cases hc : (A.take k).contains (v : Int) = true
      · rw [if_pos hc, if_pos (by rw [List.contains_iff_mem] at hc ⊢; simp [hc])]
      · rw [if_neg hc, if_neg (by rw [List.contains_iff_mem] at hc ⊢; simp [hc, hne])]
theorem setS_at {n : Int} (t : Int) {A : List Int} (hr : ∀ i, i < A.length → 0 ≤ iAt A i ∧ iAt A i < n) (v : Nat) : iAt (setS n t A) v = if A.contains (v : Int) = true then t else 0 := by
  unfold setS
  by_cases hn : 0 ≤ n
  · rw [setL_at n.toNat t A A.length (Nat.le_refl _) (fun i hi => by have := hr i hi; omega) v, List.take_length]
  · have h0 : A = [] := by
      cases A with
      | nil => rfl
      | cons x r => have := hr 0 (by simp); omega
    subst h0
    show iAt (List.replicate n.toNat 0) v = _
    rw [show n.toNat = 0 by omega]; rfl
/-- The places of the greater numbers ascend. -/
theorem grT_iff (S : List Int) (m : Int) (k : Nat) (z : Int) : z ∈ grT S m k ↔ ∃ j : Nat, z = j ∧ j < k ∧ m < iAt S j := by
  induction k with
  | zero => simp [grT]
  | succ k ih =>
    rw [grT, List.mem_append, ih]
    constructor
    · rintro (⟨j, h1, h2, h3⟩ | h)
      · exact ⟨j, h1, by omega, h3⟩
      · by_cases hc : m < iAt S k
        · rw [if_pos hc, List.mem_singleton] at h; exact ⟨k, h, by omega, hc⟩
        · rw [if_neg hc] at h; cases h
    · rintro ⟨j, h1, h2, h3⟩
      by_cases e : j = k
      · subst e; right; rw [if_pos h3, List.mem_singleton]; exact h1
      · left; exact ⟨j, h1, by omega, h3⟩
theorem grT_asc (S : List Int) (m : Int) (k : Nat) : (grT S m k).Pairwise (· < ·) := by
  induction k with
  | zero => simp [grT]
  | succ k ih =>
    rw [grT, List.pairwise_append]
    refine ⟨ih, ?_, ?_⟩
    · split <;> simp
    · intro x hx y hy
      obtain ⟨j, rfl, hj, -⟩ := (grT_iff S m k x).1 hx
      split at hy
      · rw [List.mem_singleton] at hy; omega
      · cases hy
theorem subE_asc {n : Int} {A : List Int} (h : A.Pairwise (· < ·)) (hr : ∀ z ∈ A, 0 ≤ z ∧ z < n) : subE n A = 0 := by
  unfold subE
  refine firstE_zero fun i hi => ?_
  unfold sErr
  have h1 := hr (iAt A i) (by rw [← iAt_get A i hi]; exact List.getElem_mem hi)
  rw [if_neg (by unfold isV; rw [decide_eq_true h1.1, decide_eq_true h1.2]; decide), if_neg]
  rintro ⟨h2, h3⟩
  have h4 := List.pairwise_iff_getElem.1 h (i - 1) i (by omega) hi (by omega)
  rw [iAt_get A i hi, iAt_get A (i - 1) (by omega)] at h4
  omega
/-- How often a vertex has fired behind some sets. -/
def lvF (S : List Int) (i : Nat) (v : Int) : Int := max 0 ((i : Int) - (moS S - fS S v))
def lvL (S : List Int) (i : Nat) : List Int := (List.range S.length).map fun v : Nat => lvF S i v
theorem lvL_at (S : List Int) (i v : Nat) (h : v < S.length) : iAt (lvL S i) v = lvF S i v := by
  unfold lvL
  show List.getD _ v 0 = _
  rw [List.getD_eq_getElem?_getD, List.getElem?_map, List.getElem?_range h]; rfl
theorem lvL_len (S : List Int) (i : Nat) : (lvL S i).length = S.length := by simp [lvL]
theorem mo_ge (S : List Int) (v : Nat) (h : v < S.length) : iAt S v ≤ moS S := by
  have key : ∀ k j, j ≤ k → iAt S j ≤ maxT S k := by
    intro k
    induction k with
    | zero => intro j hj; obtain rfl : j = 0 := by omega
              exact Int.le_refl _
    | succ k ih =>
      intro j hj
      rw [maxT]
      by_cases e : j = k + 1
      · subst e; exact Int.le_max_right ..
      · exact Int.le_trans (ih j (by omega)) (Int.le_max_left ..)
  exact key _ v (by omega)
/-- The next set. -/
theorem lvF_next {n : Int} (S : List Int) (hn : (S.length : Int) = n) (i : Nat) (u : Int) (h0 : 0 ≤ u) (h1 : u < n) : fS (lvL S i) u + fS (setS n 1 (grT S (moS S - 1 - i) S.length)) u = fS (lvL S (i + 1)) u := by
  obtain ⟨v, rfl⟩ : ∃ v : Nat, u = v := ⟨u.toNat, by omega⟩
  have e1 : fS (lvL S i) (v : Int) = iAt (lvL S i) v := rfl
  have e2 : fS (lvL S (i + 1)) (v : Int) = iAt (lvL S (i + 1)) v := rfl
  have e3 : fS (setS n 1 (grT S (moS S - 1 - i) S.length)) (v : Int) = iAt (setS n 1 (grT S (moS S - 1 - i) S.length)) v := rfl
  rw [e1, e2, e3, lvL_at _ _ _ (by omega), lvL_at _ _ _ (by omega), setS_at 1 (fun j hj => by
    have hm : iAt (grT S (moS S - 1 - i) S.length) j ∈ grT S (moS S - 1 - i) S.length := by rw [← iAt_get _ j hj]; exact List.getElem_mem hj
    obtain ⟨x, hx, h2, -⟩ := (grT_iff _ _ _ _).1 hm
    omega) v]
  have e4 : fS S (v : Int) = iAt S v := rfl
  have hmo := mo_ge S v (by omega)
  unfold lvF
  rw [e4]
  by_cases hc : moS S - 1 - (i : Int) < iAt S v
  · rw [if_pos (by rw [List.contains_iff_mem, grT_iff]; exact ⟨v, rfl, by omega, hc⟩)]
    push_cast
    omega
  · rw [if_neg (by
      rw [List.contains_iff_mem, grT_iff]
      rintro ⟨j, hj, -, h3⟩
      obtain rfl : v = j := by omega
      exact hc h3)]
    push_cast
    omega
theorem chD_zero_at {n : Int} (hn : 0 ≤ n) (T : List Int) (L : List E) (v : Nat) (hv : (v : Int) < n) : iAt (chD (zeroL n) T L) v = sumL (eN (fS T) v) L := by
  have hl : (zeroL n).length = n.toNat := by simp [zeroL]
  rw [chD_at _ _ _ v (by omega)]
  have : iAt (zeroL n) v = 0 := by
    unfold zeroL iAt
    rw [List.getD_eq_getElem?_getD, List.getElem?_replicate]
    split <;> rfl
  omega
/-- What some sets have changed. -/
def sumQ (n : Int) (L : List E) (S : List Int) (i : Nat) : List Int := chD (zeroL n) (lvL S i) L
theorem sumQ_len (n : Int) (L : List E) (S : List Int) (i : Nat) : (sumQ n L S i).length = n.toNat := by unfold sumQ; rw [chD_len]; simp [zeroL]
structure SmS (n : Int) (L : List E) (S : List Int) : Prop where
  right : Right n L
  few : L.length ≤ 40
  len : (S.length : Int) = n
  sm : ∀ v : Nat, v < S.length → -60 ≤ iAt S v ∧ iAt S v ≤ 60
theorem SmS.mo {n : Int} {L : List E} {S : List Int} (h : SmS n L S) : 1 ≤ S.length ∧ -60 ≤ leS S ∧ leS S ≤ moS S ∧ moS S ≤ 60 := by
  have h0 := h.right.lo
  have h1 := h.len
  obtain ⟨j, hj, e⟩ := maxT_at S (S.length - 1)
  obtain ⟨j', hj', e'⟩ := minT_at S (S.length - 1)
  have a1 := h.sm j (by omega)
  have a2 := h.sm j' (by omega)
  refine ⟨by omega, ?_, le_mo S, ?_⟩
  · unfold leS; omega
  · unfold moS; omega
theorem SmS.lv {n : Int} {L : List E} {S : List Int} (h : SmS n L S) (i : Nat) (hi : i ≤ 120) (u : Int) (h0 : 0 ≤ u) (h1 : u < n) : -120 ≤ fS (lvL S i) u ∧ fS (lvL S i) u ≤ 120 := by
  obtain ⟨v, rfl⟩ : ∃ v : Nat, u = v := ⟨u.toNat, by omega⟩
  have e1 : fS (lvL S i) (v : Int) = iAt (lvL S i) v := rfl
  have h2 := h.len
  have h3 := mo_ge S v (by omega)
  have e4 : fS S (v : Int) = iAt S v := rfl
  rw [e1, lvL_at _ _ _ (by omega)]
  unfold lvF
  rw [e4]
  omega
theorem SmS.sum_bd {n : Int} {L : List E} {S : List Int} (h : SmS n L S) (i : Nat) (hi : i ≤ 120) (v : Nat) (hv : (v : Int) < n) : -480000 ≤ iAt (sumQ n L S i) v ∧ iAt (sumQ n L S i) v ≤ 480000 := by
  have := h.right.lo
  unfold sumQ
  rw [chD_zero_at (by omega) _ L v hv]
  have := sumN_small (p := 120) h.right (by omega) (fun u h0 h1 => h.lv i hi u h0 h1) v h.few
  omega
theorem SmS.sum_div {n : Int} {L : List E} {S : List Int} (h : SmS n L S) (i : Nat) (hi : i ≤ 120) : Cp.Div (sumQ n L S i) := by
  have h1 := h.right.lo
  have h2 := h.right.hi
  have hl := sumQ_len n L S i
  refine ⟨by omega, by omega, fun z hz => ?_⟩
  obtain ⟨j, hj, rfl⟩ := List.getElem_of_mem hz
  rw [iAt_get _ j hj]
  have := h.sum_bd i hi j (by omega)
  omega
theorem chkGD_ok {n : Int} {L : List E} {D : List Int} (hR : Right n L) (hd : Cp.Div D) (hl : (D.length : Int) = n) : chkGD n L D = 0 := by
  unfold chkGD; rw [right_chk hR, if_neg (by omega), ← hl]; exact div_chk hd
theorem setK_s {n : Int} {L : List E} {D : List Int} (h : chkGD n L D = 0) (A : List Int) : setK n L D A = subE n A := by
  have h1 : chkG n L = 0 := by
    unfold chkGD at h
    by_cases h2 : chkG n L ≠ 0
    · rw [if_pos h2] at h; exact h
    · omega
  unfold setK chkS
  rw [if_neg (by omega), if_neg (by omega)]
/-- A set is fired. -/
theorem SmS.step {n : Int} {L : List E} {S : List Int} (h : SmS n L S) (i : Nat) (hi : i + 1 ≤ 120) :
    resV (setK n L (sumQ n L S i) (grT S (moS S - 1 - i) S.length)) (sumQ n L S i) (setS n 1 (grT S (moS S - 1 - i) S.length)) L = sumQ n L S (i + 1) ∧ resK (setK n L (sumQ n L S i) (grT S (moS S - 1 - i) S.length)) (sumQ n L S i) (setS n 1 (grT S (moS S - 1 - i) S.length)) L = 0 := by
  have h1 := h.right.lo
  have hl := sumQ_len n L S i
  have hln : ((sumQ n L S i).length : Int) = n := by omega
  have hsl := h.len
  have hk : setK n L (sumQ n L S i) (grT S (moS S - 1 - i) S.length) = 0 := by
    rw [setK_s (chkGD_ok h.right (h.sum_div i (by omega)) hln)]
    refine subE_asc (grT_asc _ _ _) fun z hz => ?_
    obtain ⟨j, rfl, hj, -⟩ := (grT_iff _ _ _ _).1 hz
    omega
  have hat : ∀ v : Nat, v < (sumQ n L S i).length → iAt (sumQ n L S i) v + sumL (eN (fS (setS n 1 (grT S (moS S - 1 - i) S.length))) v) L = iAt (sumQ n L S (i + 1)) v := fun v hv => by
    unfold sumQ
    rw [chD_zero_at (by omega) _ L v (by omega), chD_zero_at (by omega) _ L v (by omega), ← sumN_add]
    exact sumN_congr h.right v fun u h0 h2 => lvF_next S hsl i u h0 h2
  obtain ⟨c1, c2⟩ := ch_ok (n := n) (D := sumQ n L S i) (S := setS n 1 (grT S (moS S - 1 - i) S.length)) (L := L) hln (fun v hv => by
    rw [hat v hv]
    have := h.sum_bd (i + 1) hi v (by omega)
    omega)
  obtain ⟨r1, r2⟩ := res_ok (sumQ n L S i) (setS n 1 (grT S (moS S - 1 - i) S.length)) L hk
  refine ⟨?_, by rw [r1, c1]⟩
  rw [r2, c2]
  refine eq_of_at (by rw [chD_len, hl, sumQ_len]) fun v hv => ?_
  rw [chD_len] at hv
  rw [chD_at _ _ _ v hv, hat v hv]
theorem SmS.start {n : Int} {L : List E} {S : List Int} (h : SmS n L S) : sumQ n L S 0 = zeroL n := by
  have h1 := h.right.lo
  have hsl := h.len
  have hl : (zeroL n).length = n.toNat := by simp [zeroL]
  refine eq_of_at (by rw [sumQ_len, hl]) fun v hv => ?_
  rw [sumQ_len] at hv
  have e0 : iAt (zeroL n) v = 0 := by
    unfold zeroL iAt
    rw [List.getD_eq_getElem?_getD, List.getElem?_replicate]
    split <;> rfl
  unfold sumQ
  rw [chD_zero_at (by omega) _ L v (by omega), e0]
  have e1 : ∀ e ∈ L, eN (fS (lvL S 0)) v e = eN (fun _ => 0) v e := fun e he => by
    have hr := h.right.rng e he
    have key : ∀ u : Int, 0 ≤ u → u < n → fS (lvL S 0) u = 0 := fun u a1 a2 => by
      obtain ⟨x, rfl⟩ : ∃ x : Nat, u = x := ⟨u.toNat, by omega⟩
      have e2 : fS (lvL S 0) (x : Int) = iAt (lvL S 0) x := rfl
      have e4 : fS S (x : Int) = iAt S x := rfl
      have := mo_ge S x (by omega)
      rw [e2, lvL_at _ _ _ (by omega)]
      unfold lvF
      rw [e4]; omega
    exact eN_congr (key _ (by omega) (by omega)) (key _ (by omega) (by omega))
  rw [sumL_congr L e1]
  have e3 : ∀ M : List E, sumL (eN (fun _ => 0) (v : Int)) M = 0 := by
    intro M
    induction M with
    | nil => rfl
    | cons e r ih =>
      rw [sumL, ih]
      unfold eN
      simp
  exact e3 L
theorem SmS.last {n : Int} {L : List E} {S : List Int} (h : SmS n L S) : resV (chkGD n L S) (zeroL n) S L = sumQ n L S (moS S - leS S).toNat ∧ resK (chkGD n L S) (zeroL n) S L = 0 := by
  have h1 := h.right.lo
  have h12 := h.right.hi
  have hsl := h.len
  obtain ⟨m1, m2, m3, m4⟩ := h.mo
  have hd : Cp.Div S := ⟨by omega, by omega, fun z hz => by
    obtain ⟨j, hj, rfl⟩ := List.getElem_of_mem hz
    rw [iAt_get _ j hj]; have := h.sm j hj; omega⟩
  have hk := chkGD_ok h.right hd hsl
  have hl : (zeroL n).length = n.toNat := by simp [zeroL]
  have hz : ∀ v : Nat, iAt (zeroL n) v = 0 := fun v => by
    unfold zeroL iAt
    rw [List.getD_eq_getElem?_getD, List.getElem?_replicate]
    split <;> rfl
  obtain ⟨c1, c2⟩ := ch_ok (n := n) (D := zeroL n) (S := S) (L := L) (by omega) (fun v hv => by
    rw [hz v]
    have := sumN_small (p := 60) (s := fS S) h.right (by omega) (fun u h0 h2 => h.sm u.toNat (by omega)) v h.few
    omega)
  obtain ⟨r1, r2⟩ := res_ok (zeroL n) S L hk
  refine ⟨?_, by rw [r1, c1]⟩
  rw [r2, c2]
  refine eq_of_at (by rw [chD_len, sumQ_len, hl]) fun v hv => ?_
  rw [chD_len] at hv
  unfold sumQ
  rw [chD_zero_at (by omega) _ L v (by omega), chD_zero_at (by omega) _ L v (by omega)]
  rw [← sumN_shift (fS S) (leS S)]
  refine sumN_congr h.right v fun u h0 h2 => ?_
  obtain ⟨x, rfl⟩ : ∃ x : Nat, u = x := ⟨u.toNat, by omega⟩
  have e2 : fS (lvL S (moS S - leS S).toNat) (x : Int) = iAt (lvL S (moS S - leS S).toNat) x := rfl
  have e4 : fS S (x : Int) = iAt S x := rfl
  have hx := minT_le S (S.length - 1) x (by omega)
  have hle : leS S ≤ iAt S x := hx
  rw [e2, lvL_at _ _ _ (by omega)]
  unfold lvF
  rw [e4]
  omega
theorem sml_of {n : Int} {L : List E} {S : List Int} (hf : fewD n L S = true) (hk : chkGD n L S = 0) (hs : smallD S = true) : SmS n L S := by
  obtain ⟨hR, -, hl⟩ := chkGD_zero hk
  exact ⟨hR, (by unfold fewD at hf; rw [Bool.and_eq_true] at hf; exact few_len hf.1), hl, fun v hv => (small_iff S).1 hs v hv⟩
theorem lstT_at (S : List Int) (T i : Nat) (h : i < T) : (lstT S T).getD i [] = grT S (moS S - 1 - i) S.length := by
  induction T with
  | zero => omega
  | succ T ih =>
    rw [lstT, List.getD_eq_getElem?_getD]
    by_cases e : i = T
    · subst e
      rw [List.getElem?_append_right (by rw [lstT_len]; exact Nat.le_refl _), lstT_len]
      simp
    · rw [List.getElem?_append_left (by rw [lstT_len]; omega), ← List.getD_eq_getElem?_getD]
      exact ih (by omega)
end Go.Proofs.Ytgejkgeojjgclaa
