/- Moves that are played, in numbers: what they lead to depends on how often the vertices occur. -/
import Derived.Test.YtgejkgeojjgclaaSq
namespace Go.Proofs.Ytgejkgeojjgclaa
open Go.RowKit Go.Proofs.Gr Go.Proofs.Cp

/-- How often the vertices occur in a list. -/
def cntL (N : Nat) (P : List Int) : List Int := (List.range N).map fun v : Nat => ((P.count (v : Int) : Nat) : Int)
theorem cntL_len (N : Nat) (P : List Int) : (cntL N P).length = N := by simp [cntL]
theorem cntL_at (N : Nat) (P : List Int) (v : Nat) (h : v < N) : iAt (cntL N P) v = ((P.count (v : Int) : Nat) : Int) := by
  unfold cntL
  show List.getD _ v 0 = _
  rw [List.getD_eq_getElem?_getD, List.getElem?_map, List.getElem?_range h]; rfl
theorem cntL_bq (N : Nat) (P : List Int) : Bq P.length N (cntL N P) :=
  ⟨cntL_len _ _, fun v hv => by
    rw [cntL_at _ _ _ hv]
    have := List.count_le_length (a := (v : Int)) (l := P)
    omega⟩
theorem cntL_rev (N : Nat) (P : List Int) : cntL N P.reverse = cntL N P := by
  unfold cntL
  refine List.map_congr_left fun v _ => ?_
  rw [List.count_reverse]
theorem couL_cnt (N : Nat) (A : List Int) (hr : ∀ i, i < A.length → 0 ≤ iAt A i ∧ iAt A i < N) (k : Nat) (hk : k ≤ A.length) : couL N A k = cntL N (A.take k) := by
  induction k with
  | zero =>
    refine eq_of_at (by rw [couL_len, cntL_len]) fun v hv => ?_
    rw [couL_len] at hv
    rw [cntL_at _ _ _ hv]
    show iAt (List.replicate N 0) v = _
    unfold iAt
    rw [List.getD_eq_getElem?_getD, List.getElem?_replicate]
    split <;> simp
  | succ k ih =>
    have h1 := hr k (by omega)
    rw [couL, ih (by omega)]
    refine eq_of_at (by rw [List.length_set, cntL_len, cntL_len]) fun v hv => ?_
    rw [List.length_set, cntL_len] at hv
    rw [iAt_set _ _ _ _ (by rw [cntL_len]; omega), cntL_at _ _ _ hv, cntL_at _ _ _ hv, List.take_succ_eq_append_getElem (by omega), iAt_get A k (by omega), List.count_append, cntL_at _ _ _ (by omega)]
    by_cases e : (iAt A k).toNat = v
    · have e2 : iAt A k = (v : Int) := by omega
      rw [if_pos e, e, e2]; simp
    · rw [if_neg e]
      have e2 : ¬ iAt A k = (v : Int) := by omega
      rw [List.count_eq_zero_of_not_mem (l := [iAt A k]) (by simp; exact fun h => e2 h.symm)]
      simp
/-- What a list of moves leads to. -/
def cD (N : Nat) (L : List E) (D P : List Int) : List Int := chD D (cntL N P) L
theorem cD_nil {N : Nat} {L : List E} {D : List Int} (_hD : D.length = N) (hR : Right N L) : cD N L D [] = D := by
  refine eq_of_at (by unfold cD; rw [chD_len]) fun v hv => ?_
  unfold cD at hv ⊢
  rw [chD_len] at hv
  rw [chD_at _ _ _ v hv]
  have h1 : sumL (eN (fS (cntL N [])) (v : Int)) L = sumL (eN (fun _ => 0) v) L := sumN_congr hR v fun u h0 h2 => by
    show iAt (cntL N []) u.toNat = 0
    rw [cntL_at _ _ _ (by omega)]; rfl
  have h2 : ∀ M : List E, sumL (eN (fun _ => 0) (v : Int)) M = 0 := by
    intro M
    induction M with
    | nil => rfl
    | cons e r ih => rw [sumL, ih]; unfold eN; simp
  rw [h1, h2 L]; omega
theorem cD_next {N : Nat} {L : List E} {D P : List Int} {v : Int} (hR : Right N L) (hv : 0 ≤ v ∧ v < N) : chD (cD N L D P) (setS N 1 [v]) L = cD N L D (P ++ [v]) := by
  unfold cD
  refine eq_of_at (by rw [chD_len, chD_len, chD_len]) fun u hu => ?_
  rw [chD_len, chD_len] at hu
  rw [chD_at _ _ _ u (by rw [chD_len]; exact hu), chD_at _ _ _ u hu, chD_at _ _ _ u hu, Int.add_assoc, ← sumN_add]
  congr 1
  refine sumN_congr hR u fun x h0 h1 => ?_
  obtain ⟨y, rfl⟩ : ∃ y : Nat, x = y := ⟨x.toNat, by omega⟩
  show iAt (cntL N P) y + iAt (setS N 1 [v]) y = iAt (cntL N (P ++ [v])) y
  rw [cntL_at _ _ _ (by omega), cntL_at _ _ _ (by omega), setS_at 1 (fun i hi => by
    obtain rfl : i = 0 := by (simp at hi; omega)
    exact hv) y, List.count_append]
  by_cases e : v = (y : Int)
  · rw [e, if_pos (by simp)]; simp
  · rw [if_neg (by simp; exact fun h => e h.symm), List.count_eq_zero_of_not_mem (l := [v]) (by simp; exact fun h => e h.symm)]
    simp
theorem cD_bq {N : Nat} {L : List E} {D P : List Int} (hD : Bq 60 N D) (hR : Right N L) (hl : L.length ≤ 40) (hp : P.length ≤ 60) : Bq 240060 N (cD N L D P) := by
  have h1 := hD.ch (cntL_bq N P) (by omega) hR hl
  exact ⟨h1.len, fun v hv => by have := h1.bd v hv; unfold cD; omega⟩
theorem ply_num {N : Nat} {L : List E} {D : List Int} (hR : Right N L) (hl : L.length ≤ 40) (hD : Bq 60 N D) (A : List Int) : ∀ (P : List Int) (i : Nat), (∀ z ∈ A, 0 ≤ z ∧ z < (N : Int)) → P.length + A.length ≤ 60 →
    (plyR N L A i (cD N L D P)).2.2 = 18 ∨ plyR N L A i (cD N L D P) = (cD N L D (P ++ A), i + A.length, 0) := by
  induction A with
  | nil => intro P i _ _; right; rw [plyR, List.append_nil]; rfl
  | cons v A ih =>
    intro P i hr hlen
    have hv := hr v (by simp)
    rw [List.length_cons] at hlen
    rw [plyR]
    by_cases h1 : legB L (cD N L D P) [v] = false
    · rw [if_pos h1]; left; rfl
    · rw [if_neg h1]
      have hb := cD_bq (P := P) hD hR hl (by omega)
      have hb2 := cD_bq (P := P ++ [v]) hD hR hl (by rw [List.length_append]; simp; omega)
      obtain ⟨c1, c2⟩ := ch_ok (n := N) (D := cD N L D P) (S := setS N 1 [v]) (L := L) (by rw [hb.len]) (fun u hu => by
        have h3 := hb2.bd u (by rw [← hb.len]; exact hu)
        rw [← cD_next hR hv, chD_at _ _ _ u hu] at h3
        omega)
      rw [if_neg (by omega), c2, cD_next hR hv]
      rcases ih (P ++ [v]) (i + 1) (fun z hz => hr z (by simp [hz])) (by rw [List.length_append]; simp; omega) with h4 | h4
      · left; exact h4
      · right
        rw [h4, List.append_assoc, List.length_cons]
        simp only [List.singleton_append, Prod.mk.injEq, true_and, and_true]
        omega
/-- Moves of a small divisor. -/
theorem pla_num {N : Nat} {L : List E} {D A : List Int} (hR : Right N L) (hl : L.length ≤ 40) (hD : Bq 60 N D) (hA : A.length ≤ 60) (hm : movK N A = 0) :
    (plaR N L D A).2.2 = 18 ∨ plaR N L D A = (cD N L D A, A.length, 0) := by
  have h1 := chkGD_ok hR (hD.div (by omega) hR) (by rw [hD.len])
  unfold plaR
  rw [if_neg (by omega), if_neg (by omega)]
  have h2 := ply_num hR hl hD A [] 0 (fun z hz => by
    obtain ⟨j, hj, rfl⟩ := List.getElem_of_mem hz
    rw [iAt_get A j hj]; exact (movK_zero hm).2 j hj) (by simpa using hA)
  rw [cD_nil hD.len hR, List.nil_append, Nat.zero_add] at h2
  exact h2
theorem pla_err {N : Nat} {L : List E} {D A : List Int} (hR : Right N L) (hD : Bq 60 N D) (h : (plaR N L D A).2.2 = 0) : movK N A = 0 := by
  have h1 := chkGD_ok hR (hD.div (by omega) hR) (by rw [hD.len])
  unfold plaR at h
  rw [if_neg (by omega)] at h
  by_cases hm : movK N A ≠ 0
  · rw [if_pos hm] at h; exact absurd h hm
  · omega
theorem movK_rev (n : Int) (A : List Int) : movK n A.reverse = movK n A := by
  unfold movK lackB
  rw [List.length_reverse, List.any_reverse]
theorem cD_rev (N : Nat) (L : List E) (D A : List Int) : cD N L D A.reverse = cD N L D A := by unfold cD; rw [cntL_rev]
theorem cou_num {N : Nat} {L : List E} {A : List Int} (hR : Right N L) (hm : movK N A = 0) : couV N L A = cntL N A ∧ couK N L A = 0 := by
  have h1 : couK N L A = 0 := by unfold couK; rw [right_chk hR, if_neg (by omega)]; exact hm
  refine ⟨?_, h1⟩
  unfold couV
  rw [if_neg (by omega), Int.toNat_natCast, couL_cnt N A (movK_zero hm).2 A.length (Nat.le_refl _), List.take_length]
end Go.Proofs.Ytgejkgeojjgclaa
