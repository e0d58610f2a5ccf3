/- Firing and borrowing, a set and all others, in numbers. -/
import Derived.Test.YtgejkgeojjgclaaSq
import Derived.Test.YtgejkgeojjgclaaFs
namespace Go.Proofs.Ytgejkgeojjgclaa
open Go.RowKit Go.Proofs.Gr Go.Proofs.Cp

theorem setS_bq {N : Nat} (t : Int) (ht : -1 ≤ t ∧ t ≤ 1) (A : List Int) : Bq 1 N (setS N t A) := by
  have hl : (setS (N : Int) t A).length = N := setL_len _ _ _ _
  refine ⟨hl, fun v hv => ?_⟩
  exact setL_rng N t A ht A.length _ (by
    have : iAt (setS (N : Int) t A) v ∈ setS (N : Int) t A := by rw [← iAt_get _ v (by rw [hl]; exact hv)]; exact List.getElem_mem _
    exact this)
/-- A set is fired, from a small divisor. -/
theorem fire_num {p : Int} {N : Nat} {D A : List Int} {L : List E} {t : Int} (ht : -1 ≤ t ∧ t ≤ 1) (hD : Bq p N D) (hp : 0 ≤ p ∧ p ≤ 1000000) (hR : Right N L) (hl : L.length ≤ 40) (hA : subE N A = 0) :
    resV (setK N L D A) D (setS N t A) L = chD D (setS N t A) L ∧ resK (setK N L D A) D (setS N t A) L = 0 ∧ setK N L D A = 0 := by
  have h1 := chkGD_ok hR (hD.div (by omega) hR) (by rw [hD.len])
  have h3 : setK N L D A = 0 := by rw [setK_s h1]; exact hA
  have hb := hD.ch (setS_bq t ht A) (by omega) hR hl
  obtain ⟨c1, c2⟩ := ch_ok (n := N) (D := D) (S := setS N t A) (L := L) (by rw [hD.len]) (fun v hv => by
    have := hb.bd v (by rw [← hD.len]; exact hv)
    rw [chD_at _ _ _ v hv] at this
    omega)
  obtain ⟨r1, r2⟩ := res_ok D (setS N t A) L h3
  exact ⟨by rw [r2, c2], by rw [r1, c1], h3⟩
theorem sub_rng {n : Int} {A : List Int} (h : subE n A = 0) : ∀ i, i < A.length → 0 ≤ iAt A i ∧ iAt A i < n := fun i hi => by
  have := firstE_all h i hi
  unfold sErr at this
  by_cases h3 : isV n (iAt A i) = false
  · rw [if_pos h3] at this; omega
  · have h4 : isV n (iAt A i) = true := by cases h : isV n (iAt A i) with
      | false => exact absurd h h3
      | true => rfl
    unfold isV at h4
    rw [Bool.and_eq_true, decide_eq_true_iff, decide_eq_true_iff] at h4
    exact h4
theorem sub_one {n v : Int} (h : 0 ≤ v ∧ v < n) : subE n [v] = 0 :=
  subE_asc (by simp) (by simp; exact h)
/-- Two scripts that add up to the same number everywhere. -/
theorem ch_back {N : Nat} {D S T : List Int} {L : List E} (c : Int) (_hD : D.length = N) (hR : Right N L) (h : ∀ v : Nat, v < N → iAt S v + iAt T v = c) : chD (chD D S L) T L = D := by
  refine eq_of_at (by rw [chD_len, chD_len]) fun v hv => ?_
  rw [chD_len, chD_len] at hv
  rw [chD_at _ _ _ v (by rw [chD_len]; exact hv), chD_at _ _ _ v hv, Int.add_assoc, ← sumN_add]
  have h1 : sumL (eN (fun u => fS S u + fS T u) (v : Int)) L = sumL (eN (fun _ => c) v) L := sumN_congr hR v fun u h0 h2 => h u.toNat (by omega)
  have h2 : ∀ M : List E, sumL (eN (fun _ => c) (v : Int)) M = 0 := by
    intro M
    induction M with
    | nil => rfl
    | cons e r ih => rw [sumL, ih]; unfold eN; simp
  rw [h1, h2 L]; omega
theorem one_back {N : Nat} {D : List Int} {L : List E} {v : Int} (hD : D.length = N) (hR : Right N L) (hv : 0 ≤ v ∧ v < N) : chD (chD D (setS N 1 [v]) L) (setS N (-1) [v]) L = D := by
  have hr : ∀ i, i < [v].length → 0 ≤ iAt [v] i ∧ iAt [v] i < N := fun i hi => by
    obtain rfl : i = 0 := by (simp at hi; omega)
    exact hv
  refine ch_back 0 hD hR fun u hu => ?_
  rw [setS_at 1 hr u, setS_at (-1) hr u]
  split <;> omega
/-- All other vertices. -/
def otT (A : List Int) : Nat → List Int
  | 0 => []
  | k + 1 => otT A k ++ (if A.contains (k : Int) = true then [] else [(k : Int)])
theorem otT_iff (A : List Int) (k : Nat) (z : Int) : z ∈ otT A k ↔ ∃ j : Nat, z = j ∧ j < k ∧ A.contains (j : Int) = false := by
  induction k with
  | zero => simp [otT]
  | succ k ih =>
    rw [otT, List.mem_append, ih]
    constructor
    · rintro (⟨j, h1, h2, h3⟩ | h)
      · exact ⟨j, h1, by omega, h3⟩
      · cases hc : A.contains (k : Int) with
        | true => rw [if_pos hc] at h; cases h
        | false => rw [if_neg (by rw [hc]; decide), List.mem_singleton] at h; exact ⟨k, h, by omega, hc⟩
    · rintro ⟨j, h1, h2, h3⟩
      by_cases e : j = k
      · subst e; right; rw [if_neg (by rw [h3]; decide), List.mem_singleton]; exact h1
      · left; exact ⟨j, h1, by omega, h3⟩
theorem otT_len (A : List Int) (k : Nat) : (otT A k).length ≤ k := by
  induction k with
  | zero => simp [otT]
  | succ k ih => rw [otT, List.length_append]; split <;> simp <;> omega
theorem otT_asc (A : List Int) (k : Nat) : (otT A k).Pairwise (· < ·) := by
  induction k with
  | zero => simp [otT]
  | succ k ih =>
    rw [otT, List.pairwise_append]
    refine ⟨ih, ?_, ?_⟩
    · split <;> simp
    · intro x hx y hy
      obtain ⟨j, rfl, hj, -⟩ := (otT_iff A k x).1 hx
      split at hy
      · cases hy
      · rw [List.mem_singleton] at hy; omega
theorem otT_sub (A : List Int) (N : Nat) : subE N (otT A N) = 0 := subE_asc (otT_asc A N) fun z hz => by
  obtain ⟨j, rfl, hj, -⟩ := (otT_iff A N z).1 hz
  omega
theorem set_back {N : Nat} {D A : List Int} {L : List E} (hD : D.length = N) (hR : Right N L) (hA : subE N A = 0) : chD (chD D (setS N 1 A) L) (setS N 1 (otT A N)) L = D := by
  refine ch_back 1 hD hR fun u hu => ?_
  rw [setS_at 1 (sub_rng hA) u, setS_at 1 (sub_rng (otT_sub A N)) u]
  cases hc : A.contains (u : Int) with
  | true =>
    rw [if_pos rfl, if_neg]; · rfl
    rw [Bool.not_eq_true]
    cases h : (otT A N).contains (u : Int) with
    | false => rfl
    | true =>
      rw [List.contains_iff_mem, otT_iff] at h
      obtain ⟨j, hj, -, h3⟩ := h
      obtain rfl : u = j := by omega
      rw [hc] at h3; cases h3
  | false =>
    rw [if_neg (by decide), if_pos (by rw [List.contains_iff_mem, otT_iff]; exact ⟨u, rfl, hu, hc⟩)]; rfl
/-- What a vertex of a set that is fired has left. -/
theorem set_left {N : Nat} {D A : List Int} {L : List E} (hD : D.length = N) (hR : Right N L) (hA : subE N A = 0) (v : Nat) (hv : v < N) (hin : A.contains (v : Int) = true) : iAt (chD D (setS N 1 A) L) v = iAt D v - outZ A v L N := by
  rw [chD_at _ _ _ v (by omega), outZ_outE (n := N) A v hin L hR.rng]
  have key : ∀ M : List E, (∀ e ∈ M, 0 ≤ e.a ∧ e.a ≤ e.b ∧ e.b < (N : Int) ∧ 1 ≤ e.m ∧ e.m ≤ 50) → sumL (eN (fS (setS N 1 A)) v) M = - sumL (outE A v) M := by
    intro M
    induction M with
    | nil => intro _; rfl
    | cons e r ih =>
      intro h
      have h2 := h e (by simp)
      have hs : ∀ u : Int, 0 ≤ u → u < N → fS (setS N 1 A) u = if A.contains u = true then 1 else 0 := fun u h0 h1 => by
        obtain ⟨x, rfl⟩ : ∃ x : Nat, u = x := ⟨u.toNat, by omega⟩
        exact setS_at 1 (sub_rng hA) x
      rw [sumL, sumL, ih fun x hx => h x (by simp [hx])]
      have h3 : eN (fS (setS N 1 A)) v e = - outE A v e := by
        unfold eN outE
        rw [hs e.a (by omega) (by omega), hs e.b (by omega) (by omega)]
        by_cases hl : e.a = e.b
        · rw [if_pos hl, if_pos hl]; rfl
        · rw [if_neg hl, if_neg hl]
          by_cases ha : e.a = v
          · rw [if_pos ha, if_pos ha, ha, if_pos hin]
            by_cases hb : A.contains e.b = true
            · rw [if_pos hb, if_pos hb]; simp
            · rw [if_neg hb, if_neg hb]; omega
          · rw [if_neg ha, if_neg ha]
            by_cases hb : e.b = v
            · rw [if_pos hb, if_pos hb, hb, if_pos hin]
              by_cases hc : A.contains e.a = true
              · rw [if_pos hc, if_pos hc]; simp
              · rw [if_neg hc, if_neg hc]; omega
            · rw [if_neg hb, if_neg hb]; rfl
      rw [h3]; omega
  rw [key L hR.rng]; omega
theorem leg_left {N : Nat} {D A : List Int} {L : List E} (hD : D.length = N) (hR : Right N L) (hA : subE N A = 0) (hl : legB L D A = true) (i : Nat) (hi : i < A.length) : 0 ≤ iAt (chD D (setS N 1 A) L) (iAt A i).toNat := by
  have hr := sub_rng hA
  have h0 := hr i hi
  have hm : iAt A i ∈ A := by rw [← iAt_get A i hi]; exact List.getElem_mem hi
  obtain ⟨x, hx⟩ : ∃ x : Nat, iAt A i = x := ⟨(iAt A i).toNat, by omega⟩
  rw [set_left hD hR hA (iAt A i).toNat (by omega) (by rw [List.contains_iff_mem, show (((iAt A i).toNat : Nat) : Int) = iAt A i by omega]; exact hm)]
  rw [legB_mayS hR hD hr] at hl
  unfold mayS at hl
  rw [Bool.and_eq_true, List.all_eq_true] at hl
  have := of_decide_eq_true (hl.1 _ hm)
  rw [show (((iAt A i).toNat : Nat) : Int) = iAt A i by omega]
  omega
end Go.Proofs.Ytgejkgeojjgclaa
