/- The law of moves, in numbers. -/
import Derived.Test.YtndjjafpdiehdaaQ18
namespace Go.Proofs.Ytndjjafpdiehdaa
open Go.Proofs.Gr

/-- How many elements of the list without one element. -/
theorem countP_drop {α : Type} (p : α → Bool) (l : List α) (e : Nat) (he : e < l.length) : (dropP l e).countP p + (if p l[e] = true then 1 else 0) = l.countP p := by
  rw [(dropP_perm l e he).countP_eq, List.countP_cons]
theorem countP_range (p : Int × Int → Bool) (Q : List (Int × Int)) : Q.countP p = cntB (fun j => p (pAt Q j)) Q.length := by
  rw [cntB_filter]
  have h1 : Q = (List.range Q.length).map (pAt Q) := by
    refine List.ext_getElem (by simp) fun i h1 h2 => ?_
    rw [List.getElem_map, List.getElem_range, pAt_get]
  conv => lhs; rw [h1]
  rw [List.countP_map, List.countP_eq_length_filter]
  rfl
theorem cntB_put (g : Nat → Bool) (n e : Nat) (he : e < n) : cntB (fun j => decide (j ≠ e) && g j) n + (if g e = true then 1 else 0) = cntB g n := by
  by_cases h : g e = true
  · rw [if_pos h, cntB_but g (fun j => decide (j ≠ e) && g j) n e he h fun v _ => by rw [Bool.and_comm]]
  · rw [if_neg h, Nat.add_zero]
    refine cntB_congr _ _ n fun v _ => ?_
    by_cases hv : v = e
    · subst hv; simp [h]
    · simp [hv]
theorem countP_oth (p : Int × Int → Bool) (Q : List (Int × Int)) (e : Nat) (he : e < Q.length) : (dropP Q e).countP p = cntB (fun j => decide (j ≠ e) && p (pAt Q j)) Q.length := by
  have h1 := countP_drop p Q e he
  rw [countP_range p Q, pAt_get] at h1
  have h2 := cntB_put (fun j => p (pAt Q j)) Q.length e he
  omega
theorem countP_ge {α : Type} (p : α → Bool) (y : List α) (l : Nat) (h : ∀ i (hi : i < y.length), i < l → p y[i] = true) (hl : l ≤ y.length) : l ≤ y.countP p := by
  have h1 : (y.take l).countP p = l := by
    rw [List.countP_eq_length.2 fun x hx => ?_, List.length_take]
    · omega
    · obtain ⟨i, hi, rfl⟩ := List.mem_iff_getElem.1 hx
      rw [List.length_take] at hi
      rw [List.getElem_take]
      exact h i (by omega) (by omega)
  have h2 : y.countP p = (y.take l).countP p + (y.drop l).countP p := by rw [← List.countP_append, List.take_append_drop]
  omega
theorem countP_le' {α : Type} (p : α → Bool) (y : List α) (l : Nat) (h : ∀ i (hi : i < y.length), l ≤ i → p y[i] = false) : y.countP p ≤ l := by
  have h1 : (y.drop l).countP p = 0 := by
    rw [List.countP_eq_zero]
    intro x hx
    obtain ⟨i, hi, rfl⟩ := List.mem_iff_getElem.1 hx
    rw [List.length_drop] at hi
    rw [List.getElem_drop, h (l + i) (by omega) (by omega)]
    simp
  have h2 : y.countP p = (y.take l).countP p + (y.drop l).countP p := by rw [← List.countP_append, List.take_append_drop]
  have h3 := List.countP_le_length (p := p) (l := y.take l)
  rw [List.length_take] at h3
  omega
/-- What stands at a place of an ordered list. -/
theorem sorted_at (y : List (Int × Int)) (hs : y.Pairwise (fun p q => ltP q p = false)) (z : Int × Int) (l : Nat) (h1 : y.countP (fun q => ltP q z) ≤ l) (h2 : l < y.countP (fun q => !ltP z q)) : l < y.length ∧ pAt y l = z := by
  have hl : l < y.length := Nat.lt_of_lt_of_le h2 List.countP_le_length
  refine ⟨hl, ?_⟩
  have hg := List.pairwise_iff_getElem.1 hs
  rcases ltP_three (pAt y l) z with h | h | h
  · exfalso
    have := countP_ge (fun q => ltP q z) y (l + 1) (fun i hi hil => by
      by_cases e : i = l
      · subst e; rw [pAt_get]; exact h
      · have h3 := hg i l hi hl (by omega)
        rw [pAt_get, pAt_get] at h3
        rw [pAt_get]
        rcases ltP_three (pAt y i) z with k | k | k
        · exact k
        · rw [k, h] at h3; cases h3
        · rw [ltP_trans h k] at h3; cases h3) (by omega)
    omega
  · exact h
  · exfalso
    have := countP_le' (fun q => !ltP z q) y l fun i hi hil => by
      have h4 : ltP z y[i] = true := by
        by_cases e : i = l
        · subst e; rw [pAt_get]; exact h
        · have h3 := hg l i hl hi (by omega)
          rw [pAt_get, pAt_get] at h3
          rw [pAt_get]
          rcases ltP_three (pAt y i) (pAt y l) with k | k | k
          · rw [k] at h3; cases h3
          · rw [k]; exact h
          · exact ltP_trans h k
      rw [h4]; rfl
    omega
/-- The place of a single edge behind a change. -/
theorem place_at {Q : List (Int × Int)} {e s : Nat} (he : e < Q.length) (hs : s < Q.length) (hse : s ≠ e) {y : List (Int × Int)} (hy : y.Pairwise (fun p q => ltP q p = false)) (hp : y.Perm (dropP Q e)) : cntI Q e s Q.length < y.length ∧ pAt y (cntI Q e s Q.length) = pAt Q s := by
  refine sorted_at y hy _ _ ?_ ?_
  · rw [hp.countP_eq, countP_oth _ Q e he]
    unfold cntI
    refine cntB_mono _ _ _ fun v _ h => ?_
    simp only [Bool.and_eq_true, decide_eq_true_eq] at h ⊢
    exact ⟨h.1, (ltI_iff Q v s).2 (.inl h.2)⟩
  · rw [hp.countP_eq, countP_oth _ Q e he]
    unfold cntI
    refine cntB_lt _ _ _ s (fun v _ h => ?_) hs ?_ ?_
    · simp only [Bool.and_eq_true, decide_eq_true_eq] at h ⊢
      refine ⟨h.1, ?_⟩
      rcases (ltI_iff Q v s).1 h.2 with k | k
      · rw [ltP_asym k]; rfl
      · rw [k.1, ltP_irr]; rfl
    · have : ltI Q s s = false := by simpa using ltI_irr Q s
      rw [this, Bool.and_false]
    · rw [ltP_irr]; simp [hse]
theorem place_inj {Q : List (Int × Int)} {e s t : Nat} (hs : s < Q.length) (ht : t < Q.length) (hse : s ≠ e) (hte : t ≠ e) (h : cntI Q e s Q.length = cntI Q e t Q.length) : s = t := by
  have key : ∀ a b, a < Q.length → a ≠ e → ltI Q a b = true → cntI Q e a Q.length < cntI Q e b Q.length := by
    intro a b ha hae hab
    unfold cntI
    refine cntB_lt _ _ _ a (fun v _ h => ?_) ha ?_ ?_
    · simp only [Bool.and_eq_true, decide_eq_true_eq] at h ⊢
      exact ⟨h.1, ltI_trans h.2 hab⟩
    · have : ltI Q a a = false := by simpa using ltI_irr Q a
      rw [this, Bool.and_false]
    · rw [hab]; simp [hae]
  rcases ltI_three Q s t with k | k | k
  · have := key s t hs hse k; omega
  · exact k
  · have := key t s ht hte k; omega
theorem nrm_mv (f : Int → Int) (Q : List (Int × Int)) : (mvP f Q).map nrm = mvP f Q := by
  unfold mvP
  rw [List.map_map]
  refine List.map_congr_left fun p _ => ?_
  exact nrm_id (mn_mx (f p.1, f p.2)).1
/-- The ends behind deleting are the other ones. -/
theorem ends_del {N : Nat} {L : List E} (hR : Right N L) (e : Nat) (hF : Fine N (dropP (endsG L) e)) : endsG (mkG N (dropP (endsG L) e)) = dropP (endsG L) e := by
  have h1 := ends_mk hF
  have h2 : (dropP (endsG L) e).map nrm = dropP (endsG L) e := by
    have h3 : (dropP (endsG L) e).map nrm = (dropP (endsG L) e).map id := List.map_congr_left fun p hp => nrm_id (ends_rng hR.rng p (dropP_mem hp)).2.1
    rw [h3, List.map_id]
  rw [h2] at h1
  have h4 := ends_asc (mk_right hF)
  have h5 : (dropP (endsG L) e).Pairwise (fun p q => ltP q p = false) := by
    have h6 := ends_asc hR
    unfold dropP
    have h7 : (endsG L).take e ++ (endsG L).drop (e + 1) = (endsG L).take e ++ (endsG L).drop (e + 1) := rfl
    have h8 : ((endsG L).take e ++ (endsG L).drop (e + 1)).Sublist (endsG L) := by
      conv => rhs; rw [← List.take_append_drop e (endsG L)]
      refine List.Sublist.append (List.Sublist.refl _) ?_
      rw [show (endsG L).drop (e + 1) = ((endsG L).drop e).drop 1 by rw [List.drop_drop]]
      exact List.drop_sublist _ _
    exact h6.sublist h8
  refine List.ext_getElem h1.length_eq fun i h6 h7 => ?_
  have hl : ∀ (y : List (Int × Int)), y.Pairwise (fun p q => ltP q p = false) → ∀ j (hj : j < y.length), y.countP (fun q => ltP q y[j]) ≤ j ∧ j < y.countP (fun q => !ltP y[j] q) := by
    intro y hy j hj
    have hg := List.pairwise_iff_getElem.1 hy
    constructor
    · refine countP_le' _ y j fun i hi hij => ?_
      by_cases e : i = j
      · subst e; exact ltP_irr _
      · exact hg j i hj hi (by omega)
    · refine countP_ge (fun q => !ltP y[j] q) y (j + 1) (fun i hi hij => ?_) (by omega)
      by_cases e : i = j
      · subst e; rw [ltP_irr]; rfl
      · rw [hg i j hi hj (by omega)]; rfl
  have h8 := hl _ h5 i h7
  have h9 := sorted_at _ h4 (dropP (endsG L) e)[i] i (by rw [h1.countP_eq]; exact h8.1) (by rw [h1.countP_eq]; exact h8.2)
  rw [pAt_get]; exact h9.2
theorem ends_con {M : Nat} {L : List E} (e : Nat) (f : Int → Int) (hF : Fine M (mvP f (dropP (endsG L) e))) : (endsG (mkG M (mvP f (dropP (endsG L) e)))).Perm (dropP (mvP f (endsG L)) e) := by
  have h1 := ends_mk hF
  rw [nrm_mv] at h1
  rw [← mvP_drop]
  exact h1
/-- The other ones, each at its new place. -/
theorem less_at {P : List (Int × Int)} {e s : Nat} (hs : s < P.length) (hse : s ≠ e) : ∃ k : Nat, iAt (lessL P.length e) s = k ∧ k + 1 < P.length + (if e < P.length then 0 else 1) ∧ (dropP P e)[k]? = P[s]? := by
  rw [lessL_at _ _ _ hs, if_neg hse]
  by_cases h : e < s
  · rw [if_pos h]
    refine ⟨s - 1, by omega, by split <;> omega, ?_⟩
    rw [dropP_at P e (s - 1) (by omega), if_neg (by omega), show s - 1 + 1 = s by omega]
  · rw [if_neg h]
    refine ⟨s, rfl, by split <;> omega, ?_⟩
    by_cases he : e < P.length
    · rw [dropP_at P e s he, if_pos (by omega)]
    · unfold dropP
      rw [List.getElem?_append_left (by rw [List.length_take]; omega), List.getElem?_take_of_lt (by omega)]
theorem less_inj {n e s t : Nat} (hs : s < n) (ht : t < n) (hse : s ≠ e) (hte : t ≠ e) (h : iAt (lessL n e) s = iAt (lessL n e) t) : s = t := by
  rw [lessL_at _ _ _ hs, lessL_at _ _ _ ht, if_neg hse, if_neg hte] at h
  split at h <;> split at h <;> omega
end Go.Proofs.Ytndjjafpdiehdaa
