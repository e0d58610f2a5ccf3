/- An insertion sort of places in order is a stable one. -/
import Derived.Test.YtndjjafpdiehdaaQ07
import Derived.Sort.LotA
namespace Go.Proofs.Ytndjjafpdiehdaa
open Go.Proofs.Gr Go.Sort

section
variable {α : Type} [Inhabited α] {lt lt2 : α → α → Bool} {ix : α → Nat}
theorem ins_at (d : Array α) (j : Nat) (t : Nat) (ht : t < d.size) : (swp d (j + 1) j)[t]! = if t = j then d[j + 1]! else if t = j + 1 then d[j]! else d[t]! := by
  unfold swp
  rw [getElem!_pos _ t (by simpa using ht), Array.getElem_setIfInBounds (by simpa using ht), Array.getElem_setIfInBounds (by simpa using ht)]
  by_cases h1 : t = j
  · rw [if_pos h1.symm, if_pos h1]
  · rw [if_neg (fun e => h1 e.symm), if_neg h1]
    by_cases h2 : t = j + 1
    · rw [if_pos h2.symm, if_pos h2]
    · rw [if_neg (fun e => h2 e.symm), if_neg h2, getElem!_pos d t ht]
theorem ins_same (hl : ∀ x y, ix y < ix x → lt x y = lt2 x y) : ∀ (j : Nat) (d : Array α), j < d.size → (∀ t, t < j → ix d[t]! < ix d[j]!) → insInner lt 0 j d = insInner lt2 0 j d
  | 0, d, _, _ => rfl
  | j + 1, d, hj, h => by
    unfold insInner
    rw [hl _ _ (h j (by omega))]
    split
    · refine ins_same hl j _ (by unfold swp; simp; omega) fun t ht => ?_
      rw [ins_at d j t (by omega), ins_at d j j (by omega), if_pos rfl, if_neg (by omega), if_neg (by omega)]
      exact h t (by omega)
    · rfl
theorem ins_size (l : α → α → Bool) : ∀ (j : Nat) (d : Array α), (insInner l 0 j d).size = d.size
  | 0, d => rfl
  | j + 1, d => by
    unfold insInner
    split
    · rw [ins_size l j]; unfold swp; simp
    · rfl
theorem ins_from (l : α → α → Bool) : ∀ (j : Nat) (d : Array α), j < d.size → (∀ s, j < s → s < d.size → (insInner l 0 j d)[s]! = d[s]!) ∧ ∀ t, t ≤ j → ∃ t', t' ≤ j ∧ (insInner l 0 j d)[t]! = d[t']!
  | 0, d, _ => ⟨fun _ _ _ => rfl, fun t ht => ⟨t, ht, rfl⟩⟩
  | j + 1, d, hj => by
    unfold insInner
    split
    · have hs : (swp d (j + 1) j).size = d.size := by unfold swp; simp
      obtain ⟨h1, h2⟩ := ins_from l j (swp d (j + 1) j) (by omega)
      refine ⟨fun s hs1 hs2 => ?_, fun t ht => ?_⟩
      · rw [h1 s (by omega) (by omega), ins_at d j s hs2, if_neg (by omega), if_neg (by omega)]
      · by_cases h3 : t ≤ j
        · obtain ⟨t', h4, h5⟩ := h2 t h3
          rw [h5, ins_at d j t' (by omega)]
          by_cases h6 : t' = j
          · rw [if_pos h6]; exact ⟨j + 1, by omega, rfl⟩
          · rw [if_neg h6, if_neg (by omega)]; exact ⟨t', by omega, rfl⟩
        · rw [h1 t (by omega) (by omega), ins_at d j t (by omega), if_neg (by omega), if_pos (by omega)]
          exact ⟨j, by omega, rfl⟩
    · exact ⟨fun _ _ _ => rfl, fun t ht => ⟨t, ht, rfl⟩⟩
theorem outer_same (hl : ∀ x y, ix y < ix x → lt x y = lt2 x y) (n : Nat) : ∀ (m i : Nat) (d : Array α), n - i = m → d.size = n → (∀ t s, t < s → i ≤ s → s < n → ix d[t]! < ix d[s]!) → insOuter lt 0 n i d = insOuter lt2 0 n i d
  | 0, i, d, hm, _, _ => by
    conv => lhs; rw [insOuter, if_neg (by omega)]
    conv => rhs; rw [insOuter, if_neg (by omega)]
  | m + 1, i, d, hm, hd, h => by
    conv => lhs; rw [insOuter, if_pos (by omega)]
    conv => rhs; rw [insOuter, if_pos (by omega)]
    rw [ins_same hl i d (by omega) fun t ht => h t i ht (Nat.le_refl _) (by omega)]
    refine outer_same hl n m (i + 1) _ (by omega) (by rw [ins_size]; exact hd) fun t s hts hs hsn => ?_
    obtain ⟨h1, h2⟩ := ins_from lt2 i d (by omega)
    rw [h1 s (by omega) (by omega)]
    by_cases h3 : t ≤ i
    · obtain ⟨t', h4, h5⟩ := h2 t h3
      rw [h5]; exact h t' s (by omega) (by omega) hsn
    · rw [h1 t (by omega) (by omega)]; exact h t s hts (by omega) hsn
theorem sort_same (hl : ∀ x y, ix y < ix x → lt x y = lt2 x y) (d : Array α) (h : ∀ t s, t < s → s < d.size → ix d[t]! < ix d[s]!) : insertionSort lt d 0 d.size = insertionSort lt2 d 0 d.size := by
  unfold insertionSort
  exact outer_same hl d.size _ _ d rfl rfl fun t s hts _ hs => h t s hts hs
end
/-- The order of single edges of a list. -/
theorem swoI (Q : List (Int × Int)) (n : Nat) : SWO (fun x y : Fin n => ltI Q x y) := by
  refine ⟨fun x => ?_, fun x y z h k => ltI_trans h k, fun x y z h k => ?_⟩
  · cases h : ltI Q x x with
    | false => rfl
    | true => exact absurd h (ltI_irr _ _)
  · cases hz : ltI Q x z with
    | false => rfl
    | true =>
      rcases ltI_three Q x y with h1 | h1 | h1
      · rw [h] at h1; cases h1
      · rw [h1] at hz; rw [k] at hz; cases hz
      · rw [ltI_trans h1 hz] at k; cases k
theorem stable_sorted (Q : List (Int × Int)) (n : Nat) [Inhabited (Fin n)] (D : List (Fin n)) (hD : D.Pairwise (fun x y => x.1 < y.1)) (lt : Fin n → Fin n → Bool) (hl : ∀ x y : Fin n, lt x y = ltP (pAt Q x) (pAt Q y)) :
    (insertionSort lt D.toArray 0 D.toArray.size).toList.Perm D ∧ (insertionSort lt D.toArray 0 D.toArray.size).toList.Pairwise (fun x y : Fin n => ltI Q x y = true) := by
  have hs := sort_same (lt := lt) (lt2 := fun x y : Fin n => ltI Q x y) (ix := fun x => x.1) (fun x y hxy => by
    rw [hl, Bool.eq_iff_iff, ltI_iff]
    exact ⟨.inl, fun h => by exact h.elim id (fun h => absurd h.2 (by omega))⟩) D.toArray (fun t s hts hs => by
    have hs' : s < D.length := by simpa using hs
    rw [getElem!_pos _ t (by simp; omega), getElem!_pos _ s hs]
    simp only [List.getElem_toArray]
    exact List.pairwise_iff_getElem.1 hD t s (by omega) hs' hts)
  rw [hs]
  obtain ⟨hp, ho⟩ := insertionSort_holds (lt := fun x y : Fin n => ltI Q x y) (swoI Q n) D.toArray 0 D.toArray.size (Nat.zero_le _) (Nat.le_refl _)
  generalize insertionSort (fun x y : Fin n => ltI Q x y) D.toArray 0 D.toArray.size = d' at *
  have hperm : d'.toList.Perm D := by
    have h3 := hp.2.2
    have e1 : d'.extract 0 D.toArray.size = d' := by rw [show D.toArray.size = d'.size from hp.1.symm]; simp
    have e2 : D.toArray.extract 0 D.toArray.size = D.toArray := by simp
    rw [e1, e2] at h3
    simpa using h3
  refine ⟨hperm, ?_⟩
  have hnd : d'.toList.Nodup := hperm.nodup_iff.2 (hD.imp fun h e => by subst e; omega)
  rw [List.pairwise_iff_getElem]
  intro i j hi hj hij
  have h4 := ho i j (Nat.zero_le _) hij (by simpa [hp.1] using hj)
  rw [getElem!_pos d' j (by simpa using hj), getElem!_pos d' i (by simpa using hi)] at h4
  simp only [Array.getElem_toList]
  rcases ltI_three Q (d'[i]'(by simpa using hi)) (d'[j]'(by simpa using hj)) with h5 | h5 | h5
  · exact h5
  · have := List.pairwise_iff_getElem.1 hnd i j hi hj hij
    simp only [Array.getElem_toList] at this
    exact absurd (Fin.ext h5) this
  · simp only [h5] at h4; cases h4
end Go.Proofs.Ytndjjafpdiehdaa
