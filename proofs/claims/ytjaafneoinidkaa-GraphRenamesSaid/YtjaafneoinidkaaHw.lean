/- Graphs whose vertices are renamed, in numbers. -/
import Derived.Test.YtjaafneoinidkaaHv
import Derived.Test.YtjaafneoinidkaaHt
namespace Go.Proofs.Ytjaafneoinidkaa
open Go.Proofs.Gr

/-- Sums over lists of vertices. -/
def sumI (f : Int → Int) : List Int → Int
  | [] => 0
  | x :: r => f x + sumI f r
theorem sumI_perm (f : Int → Int) {l m : List Int} (h : l.Perm m) : sumI f l = sumI f m := by
  induction h with
  | nil => rfl
  | cons x _ ih => rw [sumI, sumI, ih]
  | swap x y l => rw [sumI, sumI, sumI, sumI]; omega
  | trans _ _ h1 h2 => exact h1.trans h2
theorem sumI_append (f : Int → Int) (l m : List Int) : sumI f (l ++ m) = sumI f l + sumI f m := by
  induction l with
  | nil => simp [sumI]
  | cons x r ih => rw [List.cons_append, sumI, sumI, ih]; omega
theorem sumZ_list (f : Int → Int) (n : Nat) : sumZ f n = sumI f ((List.range n).map fun k : Nat => (k : Int)) := by
  induction n with
  | zero => rfl
  | succ n ih => rw [sumZ, ih, List.range_succ, List.map_append, sumI_append]; simp [sumI]
theorem sumI_map (f : Int → Int) (g : Int → Int) (l : List Int) : sumI f (l.map g) = sumI (fun x => f (g x)) l := by
  induction l with
  | nil => rfl
  | cons x r ih => rw [List.map_cons, sumI, sumI, ih]
theorem perm_of {l m : List Int} (hl : l.Nodup) (hs : ∀ x ∈ l, x ∈ m) (hlen : m.length = l.length) : l.Perm m := by
  induction l generalizing m with
  | nil => rw [List.length_nil, List.length_eq_zero_iff] at hlen; rw [hlen]
  | cons x r ih =>
    obtain ⟨h1, h2⟩ := List.nodup_cons.1 hl
    have hx : x ∈ m := hs x (by simp)
    have h3 := ih h2 (m := m.erase x) (fun y hy => (List.mem_erase_of_ne (fun e => h1 (by rw [← e]; exact hy))).2 (hs y (by simp [hy]))) (by rw [List.length_erase_of_mem hx, hlen, List.length_cons]; omega)
    exact (h3.cons x).trans (List.perm_cons_erase hx).symm
section
variable {S : List Int} (hz : ∀ j, j < S.length → nErr S.length S j = 0)
include hz
theorem ren_mem (z : Int) : z ∈ S ↔ 0 ≤ z ∧ z < S.length := by
  constructor
  · intro h
    obtain ⟨j, hj, rfl⟩ := List.mem_iff_getElem.1 h
    have h2 := nErr_rng (hz j hj)
    rw [← iAt_get S j hj] at h2
    exact ⟨h2.1, h2.2.1⟩
  · intro h
    have := ren_all hz z.toNat (by omega)
    rw [Int.toNat_of_nonneg h.1] at this
    simpa using this
theorem ren_perm : S.Perm ((List.range S.length).map fun k : Nat => (k : Int)) :=
  perm_of (nErr_nodup hz) (fun x hx => by
    have h1 := (ren_mem hz x).1 hx
    exact List.mem_map.2 ⟨x.toNat, List.mem_range.2 (by omega), by omega⟩) (by simp)
/-- Sums over new numbers are sums over the old ones. -/
theorem ren_sum (f : Int → Int) : sumZ (fun x => f (ixZ S x)) S.length = sumZ f S.length := by
  rw [sumZ_list, sumZ_list, ← sumI_perm _ (ren_perm hz)]
  have : ∀ (l : List Int), l = (List.range S.length).map (fun i => iAt S i) → sumI (fun x => f (ixZ S x)) l = sumI f ((List.range S.length).map fun k : Nat => (k : Int)) := by
    rintro l rfl
    have e1 : ∀ m, m ≤ S.length → sumI (fun x => f (ixZ S x)) ((List.range m).map (fun i => iAt S i)) = sumI f ((List.range m).map fun k : Nat => (k : Int)) := by
      intro m hm
      induction m with
      | zero => rfl
      | succ m ih =>
        rw [List.range_succ, List.map_append, List.map_append, sumI_append, sumI_append, ih (by omega)]
        simp only [List.map_cons, List.map_nil, sumI]
        rw [ren_ix hz m (by omega)]
    exact e1 _ (Nat.le_refl _)
  refine this S ?_
  refine List.ext_getElem (by simp) fun j h1 h2 => ?_
  rw [List.getElem_map, List.getElem_range, iAt_get]
theorem ix_rng (u : Nat) (hu : u < S.length) : 0 ≤ ixZ S u ∧ ixZ S u < S.length ∧ iAt S (ixZ S u).toNat = u := by
  have := ixZ_mem (ren_all hz u hu)
  exact this
/-- What the new graph joins. -/
theorem rel_bet {L : List E} (hR : Right S.length L) (u v : Nat) (hu : u < S.length) (hv : v < S.length) : betw u v (relG L S) = betw (ixZ S u) (ixZ S v) L := by
  have _hz := hz
  have key : ∀ x y : Nat, x < S.length → y < S.length → x ≤ y → bet x y (relG L S) = betw (ixZ S x) (ixZ S y) L := by
    intro x y hx hy hxy
    have hb : 0 ≤ betw (ixZ S x) (ixZ S y) L := by unfold betw; exact bet_nonneg hR.rng _ _
    have hs := joinT_asc (fun x y => betw (ixZ S x) (ixZ S y) L) S.length S.length
    by_cases h0 : 0 < betw (ixZ S x) (ixZ S y) L
    · have hm : (⟨x, y, betw (ixZ S x) (ixZ S y) L⟩ : E) ∈ relG L S := (joinT_mem _ _ _ _).2 ⟨x, y, hx, hy, hxy, h0, rfl⟩
      obtain ⟨i, hi, he⟩ := mem_eAt hm
      rw [bet_first (L := relG L S) hs i hi (by rw [← he]; exact ⟨rfl, rfl⟩), ← he]
    · rw [bet_none]
      · omega
      · intro e he hk
        obtain ⟨a, b, h1, h2, h3, h4, rfl⟩ := (joinT_mem _ _ _ _).1 he
        simp only at hk
        obtain ⟨k1, k2⟩ := hk
        obtain rfl : a = x := by omega
        obtain rfl : b = y := by omega
        exact h0 h4
  rcases Nat.le_total u v with h | h
  · rw [← key u v hu hv h]; unfold betw; rw [Int.min_eq_left (by omega), Int.max_eq_right (by omega)]
  · rw [betw_symm (ixZ S u), ← key v u hv hu h]; unfold betw; rw [Int.min_eq_right (by omega), Int.max_eq_left (by omega)]
theorem rel_right {L : List E} (hR : Right S.length L) (hm : ∀ p q, bet p q L ≤ 50) : Right S.length (relG L S) := by
  have _hz := hz
  have h0 := hR.lo
  have h1 := hR.hi
  exact joinT_right _ _ (by omega) (by omega) fun a b => by unfold betw; exact hm _ _
/-- The degrees of the new graph. -/
theorem rel_deg {L : List E} (hR : Right S.length L) (v : Nat) (hv : v < S.length) : valZ (v : Int) (relG L S) S.length + 2 * betw v v (relG L S) = valZ (ixZ S v) L S.length + 2 * betw (ixZ S v) (ixZ S v) L := by
  rw [rel_bet hz hR v v hv hv]
  congr 1
  unfold valZ
  rw [← ren_sum hz (fun u => if u = ixZ S v then 0 else betw u (ixZ S v) L)]
  refine sumZ_congr _ _ _ fun u hu => ?_
  have h1 := ix_rng hz u hu
  have h2 := ix_rng hz v hv
  by_cases e : u = v
  · subst e; rw [if_pos rfl, if_pos rfl]
  · rw [if_neg (by omega), if_neg (fun h => e (by
      have := h1.2.2
      rw [h, h2.2.2] at this
      omega)), rel_bet hz hR u v hu hv]
theorem rel_size {L : List E} (hR : Right S.length L) (hm : ∀ p q, bet p q L ≤ 50) : sizeG (relG L S) = sizeG L := by
  have hJ := rel_right hz hR hm
  have e1 := shake hJ.rng
  have e2 := shake hR.rng
  have e3 : sumZ (fun v => 2 * sumL (loopE v) (relG L S) + sumL (othE v) (relG L S)) S.length = sumZ (fun x => 2 * sumL (loopE (ixZ S x)) L + sumL (othE (ixZ S x)) L) S.length :=
    sumZ_congr _ _ _ fun v hv => by
      have h1 := rel_deg hz hR v hv
      rw [valZ_oth _ _ hJ.rng, valZ_oth _ _ hR.rng] at h1
      unfold betw at h1
      rw [Int.min_self, Int.max_self, bet_loop, Int.min_self, Int.max_self, bet_loop] at h1
      omega
  rw [e3, ren_sum hz (fun x => 2 * sumL (loopE x) L + sumL (othE x) L)] at e1
  omega
end
/-- Parts are no more than those of a graph that is joined alike under other numbers. -/
theorem parts_le {J L : List E} {n : Nat} (σ : Nat → Nat) (hσ : ∀ u, u < n → σ u < n) (hJL : ∀ u v, u < n → v < n → Cn (eG L) n (σ u) (σ v) → Cn (eG J) n u v) : partsR J n ≤ partsR L n := by
  obtain ⟨p, hp, hpl⟩ := parts_least J n
  obtain ⟨q, hq, hql⟩ := parts_least L n
  rw [hp, hq, cntB_filter, cntB_filter]
  have least : ∀ r, r < n → ∃ m, m < n ∧ Cn (eG L) n m r ∧ q m = true := by
    intro r hr
    have : ∀ k, k ≤ r → (∃ m, m < n ∧ Cn (eG L) n m r ∧ ∀ u, u < m → ¬ Cn (eG L) n u r) ∨ ∀ u, u < k → ¬ Cn (eG L) n u r := by
      intro k hk
      induction k with
      | zero => exact .inr fun u hu => by omega
      | succ k ih =>
        rcases ih (by omega) with h1 | h1
        · exact .inl h1
        · by_cases h2 : Cn (eG L) n k r
          · exact .inl ⟨k, by omega, h2, h1⟩
          · refine .inr fun u hu => ?_
            by_cases e : u = k
            · subst e; exact h2
            · exact h1 u (by omega)
    rcases this r (Nat.le_refl _) with ⟨m, h1, h2, h3⟩ | h1
    · exact ⟨m, h1, h2, (hql m h1).2 fun u hu hk => h3 u hu (hk.trans h2)⟩
    · exact ⟨r, hr, .refl, (hql r hr).2 fun u hu hk => h1 u hu hk⟩
  have hch : ∀ m : Nat, ∃ t : Nat, m < n → t < n ∧ Cn (eG L) n t (σ m) ∧ q t = true := fun m => by
    by_cases hm : m < n
    · obtain ⟨t, ht⟩ := least (σ m) (hσ m hm)
      exact ⟨t, fun _ => ht⟩
    · exact ⟨0, fun h => absurd h hm⟩
  obtain ⟨f, hf⟩ := Classical.axiomOfChoice hch
  rw [← show (((List.range n).filter p).map f).length = ((List.range n).filter p).length from List.length_map _]
  refine len_le _ _ ?_ fun x hx => ?_
  · rw [List.pairwise_map]
    refine List.Pairwise.imp_of_mem ?_ ((List.pairwise_lt_range (n := n)).filter _)
    intro a b ha hb hab e
    have ha' : a < n ∧ p a = true := by simpa using ha
    have hb' : b < n ∧ p b = true := by simpa using hb
    have fa := hf a ha'.1
    have fb := hf b hb'.1
    rw [e] at fa
    exact (hpl b hb'.1).1 hb'.2 a hab (hJL a b ha'.1 hb'.1 ((fa.2.1.symm (eG_symm L)).trans fb.2.1))
  · obtain ⟨m, hm, rfl⟩ := List.mem_map.1 hx
    have hm' : m < n ∧ p m = true := by simpa using hm
    have fm := hf m hm'.1
    simpa using ⟨fm.1, fm.2.2⟩
section
variable {S : List Int} (hz : ∀ j, j < S.length → nErr S.length S j = 0)
include hz
theorem rel_eG {L : List E} (hR : Right S.length L) (u v : Nat) (hu : u < S.length) (hv : v < S.length) : eG (relG L S) u v = eG L (ixZ S u).toNat (ixZ S v).toNat := by
  have h1 := ix_rng hz u hu
  have h2 := ix_rng hz v hv
  unfold eG
  rw [rel_bet hz hR u v hu hv, Int.toNat_of_nonneg h1.1, Int.toNat_of_nonneg h2.1]
theorem at_rng (i : Nat) (hi : i < S.length) : 0 ≤ iAt S i ∧ iAt S i < S.length ∧ ixZ S (iAt S i) = i := by
  have h1 := nErr_rng (hz i hi)
  exact ⟨h1.1, h1.2.1, ren_ix hz i hi⟩
theorem rel_parts {L : List E} (hR : Right S.length L) : partsR (relG L S) S.length = partsR L S.length := by
  refine Nat.le_antisymm ?_ ?_
  · refine parts_le (fun u => (ixZ S u).toNat) (fun u hu => by have := ix_rng hz u hu; omega) fun u v hu hv h => ?_
    have back : ∀ t, Cn (eG L) S.length (ixZ S u).toNat t → t < S.length → Cn (eG (relG L S)) S.length u (iAt S t).toNat := by
      intro t h
      induction h with
      | refl =>
        intro _
        have := (ix_rng hz u hu).2.2
        rw [this]; exact .refl
      | @step x y _ h1 h2 h3 ih =>
        intro _
        have ax := at_rng hz x h1
        have ay := at_rng hz y h2
        refine .step (ih h1) (by omega) (by omega) ?_
        rw [rel_eG hz hR _ _ (by omega) (by omega), Int.toNat_of_nonneg ax.1, Int.toNat_of_nonneg ay.1, ax.2.2, ay.2.2]
        exact h3
    have hvr := ix_rng hz v hv
    have h9 := back _ h (by omega)
    rw [hvr.2.2] at h9
    exact h9
  · refine parts_le (fun u => (iAt S u).toNat) (fun u hu => by have := at_rng hz u hu; omega) fun u v hu hv h => ?_
    have back : ∀ t, Cn (eG (relG L S)) S.length (iAt S u).toNat t → t < S.length → Cn (eG L) S.length u (ixZ S t).toNat := by
      intro t h
      induction h with
      | refl =>
        intro _
        have := at_rng hz u hu
        rw [Int.toNat_of_nonneg this.1, this.2.2]; exact .refl
      | @step x y _ h1 h2 h3 ih =>
        intro _
        have ax := ix_rng hz x h1
        have ay := ix_rng hz y h2
        rw [rel_eG hz hR _ _ h1 h2] at h3
        exact .step (ih h1) (by omega) (by omega) h3
    have hvr := at_rng hz v hv
    have h9 := back _ h (by omega)
    rw [Int.toNat_of_nonneg hvr.1, hvr.2.2] at h9
    exact h9
end
/-- The numbers that take others back. -/
def backS (S : List Int) : List Int := (List.range S.length).map fun x : Nat => ixZ S x
theorem back_len (S : List Int) : (backS S).length = S.length := by unfold backS; simp
theorem back_at (S : List Int) (x : Nat) (hx : x < S.length) : iAt (backS S) x = ixZ S x := by
  rw [← iAt_get _ x (by rw [back_len]; exact hx)]
  unfold backS
  simp
section
variable {S : List Int} (hz : ∀ j, j < S.length → nErr S.length S j = 0)
include hz
theorem back_ok (j : Nat) (hj : j < (backS S).length) : nErr (backS S).length (backS S) j = 0 := by
  rw [back_len] at hj ⊢
  have h1 := ix_rng hz j hj
  unfold nErr
  rw [back_at S j hj, if_neg (by omega), if_neg]
  intro hc
  have hm : ixZ S j ∈ (backS S).take j := by simpa using hc
  obtain ⟨i, hi, he⟩ := List.mem_iff_getElem.1 hm
  rw [List.length_take, back_len] at hi
  rw [List.getElem_take, iAt_get, back_at S i (by omega)] at he
  have h2 := ix_rng hz i (by omega)
  have h3 := h1.2.2
  rw [← he, h2.2.2] at h3
  omega
theorem back_ix (i : Nat) (hi : i < S.length) : ixZ (backS S) i = iAt S i := by
  have h1 := at_rng hz i hi
  have h2 := ren_ix (back_ok hz) (iAt S i).toNat (by rw [back_len]; omega)
  rw [back_at S _ (by omega), Int.toNat_of_nonneg h1.1, h1.2.2] at h2
  exact h2
/-- Taken back, the graph is the old one. -/
theorem rel_back {L : List E} (hR : Right S.length L) : relG (relG L S) (backS S) = L := by
  unfold relG
  rw [back_len]
  refine (joinT_congr _ (fun a b => bet a b L) _ _ fun a b h1 h2 h3 => ?_).trans (joinT_bet hR)
  rw [back_ix hz a h1, back_ix hz b h3]
  have ha := at_rng hz a h1
  have hb := at_rng hz b h3
  have h9 := rel_bet hz hR (iAt S a).toNat (iAt S b).toNat (by omega) (by omega)
  rw [Int.toNat_of_nonneg ha.1, Int.toNat_of_nonneg hb.1, ha.2.2, hb.2.2] at h9
  refine Eq.trans h9 ?_
  unfold betw
  rw [Int.min_eq_left (by omega), Int.max_eq_right (by omega)]
end
