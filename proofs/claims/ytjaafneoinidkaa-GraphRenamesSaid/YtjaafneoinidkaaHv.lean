/- Cuts, induced graphs and graphs made again, in numbers. -/
import Derived.Test.YtjaafneoinidkaaHr
namespace Go.Proofs.Ytjaafneoinidkaa
open Go.Proofs.Gr

theorem cutI_count (g : (Int × Int) → Bool) (P : List (Int × Int)) (k : Nat) (hk : k ≤ P.length) : (cutI (fun e => g (pAt P e)) k).length = ((P.take k).filter g).length := by
  induction k with
  | zero => rfl
  | succ k ih =>
    rw [cutI, List.length_append, ih (by omega), List.take_succ_eq_append_getElem (by omega), List.filter_append, List.length_append, pAt_get P k (by omega)]
    congr 1
    cases hg : g (pAt P k) <;> simp [hg]
theorem ends_count (g : (Int × Int) → Bool) {n : Int} {L : List E} (h : ∀ e ∈ L, 0 ≤ e.a ∧ e.a ≤ e.b ∧ e.b < n ∧ 1 ≤ e.m ∧ e.m ≤ 50) : (((endsG L).filter g).length : Int) = sumL (fun e => if g (e.a, e.b) = true then e.m else 0) L := by
  induction L with
  | nil => rfl
  | cons e r ih =>
    have h1 := ih (fun x hx => h x (by simp [hx]))
    have h2 := h e (by simp)
    have e1 : endsG (e :: r) = List.replicate e.m.toNat (e.a, e.b) ++ endsG r := by unfold endsG; rw [List.flatMap_cons]
    rw [e1, List.filter_append, List.length_append, sumL, ← h1, Int.natCast_add]
    congr 1
    cases hg : g (e.a, e.b) with
    | true => rw [List.filter_replicate_of_pos hg, List.length_replicate, if_pos rfl]; omega
    | false => rw [List.filter_replicate_of_neg (by rw [hg]; decide)]; simp
theorem cut_count {n : Int} {L : List E} (h : ∀ e ∈ L, 0 ≤ e.a ∧ e.a ≤ e.b ∧ e.b < n ∧ 1 ≤ e.m ∧ e.m ≤ 50) (S : List Int) : ((cutG L S).length : Int) = sumL (fun e => if outB S (e.a, e.b) = true then e.m else 0) L := by
  unfold cutG
  rw [cutI_count (outB S) (endsG L) _ (Nat.le_refl _), List.take_length]
  exact ends_count (outB S) h
theorem sumL_congr (f g : E → Int) (L : List E) (h : ∀ e ∈ L, f e = g e) : sumL f L = sumL g L := by
  induction L with
  | nil => rfl
  | cons e r ih => rw [sumL, sumL, ih (fun x hx => h x (by simp [hx])), h e (by simp)]
theorem sumL_add (f g : E → Int) (L : List E) : sumL (fun e => f e + g e) L = sumL f L + sumL g L := by
  induction L with
  | nil => rfl
  | cons e r ih => rw [sumL, sumL, sumL, ih]; omega
theorem sumL_map (f : E → Int) (g : E → E) (L : List E) : sumL f (L.map g) = sumL (fun e => f (g e)) L := by
  induction L with
  | nil => rfl
  | cons e r ih => rw [List.map_cons, sumL, sumL, ih]
theorem sumL_filter (f : E → Int) (p : E → Bool) (L : List E) : sumL f (L.filter p) = sumL (fun e => if p e = true then f e else 0) L := by
  induction L with
  | nil => rfl
  | cons e r ih =>
    rw [List.filter_cons, sumL]
    cases hp : p e with
    | true => rw [if_pos rfl, if_pos rfl, sumL, ih]
    | false => rw [if_neg (by decide), if_neg (by decide), ih]; omega
/-- The induced graph, edge by edge. -/
def bothB (S : List Int) (e : E) : Bool := S.contains e.a && S.contains e.b
def reE (S : List Int) (e : E) : E := ⟨ixZ S e.a, ixZ S e.b, e.m⟩
theorem asc_ix {S : List Int} (hS : S.Pairwise (· < ·)) {x y : Int} (hx : S.contains x = true) (hy : S.contains y = true) : x < y ↔ ixZ S x < ixZ S y := by
  have h1 := ixZ_mem hx
  have h2 := ixZ_mem hy
  constructor
  · intro h
    refine Int.not_le.1 fun hle => ?_
    have h3 := asc_lt hS (i := (ixZ S y).toNat) (j := (ixZ S x).toNat) (by omega) (by omega) (by omega)
    rw [h1.2.2, h2.2.2] at h3
    omega
  · intro h
    have h3 := List.pairwise_iff_getElem.1 hS (ixZ S x).toNat (ixZ S y).toNat (by omega) (by omega) (by omega)
    rw [iAt_get, iAt_get, h1.2.2, h2.2.2] at h3
    exact h3
theorem ind_eq {n : Int} {L : List E} (hR : Right n L) {S : List Int} (hS : S.Pairwise (· < ·)) : indG L S = (L.filter (bothB S)).map (reE S) := by
  have hin : ∀ z ∈ S, S.contains z = true := fun z hz => by simpa using hz
  have hAt : ∀ i, i < S.length → S.contains (iAt S i) = true := fun i hi => by rw [← iAt_get S i hi]; simp
  refine ltE_ext (joinT_asc _ _ _) ?_ fun e => ?_
  · rw [List.pairwise_map]
    refine List.Pairwise.imp_of_mem ?_ (hR.srt.filter (p := bothB S))
    intro x y hx hy hxy
    have hx' := (List.mem_filter.1 hx).2
    have hy' := (List.mem_filter.1 hy).2
    simp only [bothB, Bool.and_eq_true] at hx' hy'
    have e1 := asc_ix hS hx'.1 hy'.1
    have e2 := asc_ix hS hy'.1 hx'.1
    have e3 := asc_ix hS hx'.2 hy'.2
    unfold reE
    simp only [ltE, Bool.or_eq_true, Bool.and_eq_true, decide_eq_true_eq] at hxy ⊢
    rcases hxy with h1 | ⟨h1, h2⟩
    · exact .inl (e1.1 h1)
    · exact .inr ⟨by rw [h1], e3.1 h2⟩
  · unfold indG
    rw [joinT_mem, List.mem_map]
    constructor
    · rintro ⟨a, b, h1, h2, h3, h4, rfl⟩
      have h0 := asc_lt hS h1 h2 h3
      have h5 : betw (iAt S a) (iAt S b) L = bet (iAt S a) (iAt S b) L := by unfold betw; rw [Int.min_eq_left h0, Int.max_eq_right h0]
      rw [h5] at h4 ⊢
      obtain ⟨x, hx, k1, k2⟩ := (bet_pos hR.rng _ _).1 h4
      obtain ⟨i, hi, rfl⟩ := mem_eAt hx
      have h7 := bet_first hR.srt i hi ⟨k1, k2⟩
      refine ⟨eAt L i, List.mem_filter.2 ⟨hx, ?_⟩, ?_⟩
      · unfold bothB; rw [k1, k2, hAt a h1, hAt b h2]; rfl
      · unfold reE
        rw [k1, k2, ixZ_at hS a h1, ixZ_at hS b h2, h7]
    · rintro ⟨x, hx, rfl⟩
      obtain ⟨hx1, hx2⟩ := List.mem_filter.1 hx
      simp only [bothB, Bool.and_eq_true] at hx2
      obtain ⟨i, hi, rfl⟩ := mem_eAt hx1
      have hr := hR.rng _ hx1
      have ha := ixZ_mem hx2.1
      have hb := ixZ_mem hx2.2
      have hab : ixZ S (eAt L i).a ≤ ixZ S (eAt L i).b := Int.not_lt.1 fun h => by
        have := (asc_ix hS hx2.2 hx2.1).2 h
        omega
      have h7 := bet_first hR.srt i hi ⟨rfl, rfl⟩
      have h8 : betw (iAt S (ixZ S (eAt L i).a).toNat) (iAt S (ixZ S (eAt L i).b).toNat) L = (eAt L i).m := by
        rw [ha.2.2, hb.2.2]
        unfold betw
        rw [Int.min_eq_left hr.2.1, Int.max_eq_right hr.2.1, h7]
      refine ⟨(ixZ S (eAt L i).a).toNat, (ixZ S (eAt L i).b).toNat, by omega, by omega, by omega, by rw [h8]; omega, ?_⟩
      rw [h8]
      unfold reE
      congr 1 <;> omega
theorem ind_size {n : Int} {L : List E} (hR : Right n L) {S : List Int} (hS : S.Pairwise (· < ·)) : sizeG (indG L S) = sumL (fun e => if bothB S e = true then e.m else 0) L := by
  rw [ind_eq hR hS]
  unfold sizeG
  rw [sumL_map, sumL_filter]
  rfl
theorem bet_max {n : Int} {L : List E} (hR : Right n L) (p q : Int) : bet p q L ≤ 50 := by
  by_cases h : 0 < bet p q L
  · obtain ⟨x, hx, k1, k2⟩ := (bet_pos hR.rng p q).1 h
    obtain ⟨i, hi, rfl⟩ := mem_eAt hx
    rw [bet_first hR.srt i hi ⟨k1, k2⟩]
    exact (hR.rng _ hx).2.2.2.2
  · omega
theorem ind_right {n : Int} {L : List E} (hR : Right n L) {S : List Int} (h0 : 1 ≤ S.length) (h1 : S.length ≤ 12) : Right S.length (indG L S) := joinT_right _ _ h0 h1 fun _ _ => bet_max hR _ _
/-- What degrees of a set add up to. -/
def degS (S : List Int) (e : E) : Int := (if S.contains e.a = true then e.m else 0) + (if S.contains e.b = true then e.m else 0)
theorem degS_eq {n : Int} {L : List E} (hR : Right n L) {S : List Int} (hS : S.Pairwise (· < ·)) : sumL (degS S) L = ((cutG L S).length : Int) + 2 * sizeG (indG L S) := by
  rw [cut_count hR.rng, ind_size hR hS]
  have : ∀ M : List E, sumL (degS S) M = sumL (fun e => if outB S (e.a, e.b) = true then e.m else 0) M + 2 * sumL (fun e => if bothB S e = true then e.m else 0) M := by
    intro M
    induction M with
    | nil => rfl
    | cons e r ih =>
      rw [sumL, sumL, sumL, ih]
      unfold degS outB bothB
      cases S.contains e.a <;> cases S.contains e.b <;> simp <;> omega
  exact this L
/-- The degree of one more vertex. -/
theorem degS_snoc {L : List E} (S : List Int) (v : Int) (hv : S.contains v = false) : sumL (degS (S ++ [v])) L = sumL (degS S) L + (sumL (othE v) L + 2 * sumL (loopE v) L) := by
  have hc : ∀ z, (S ++ [v]).contains z = (S.contains z || decide (z = v)) := fun z => by simp
  have key : ∀ e : E, degS (S ++ [v]) e = degS S e + (othE v e + 2 * loopE v e) := fun e => by
    unfold degS othE loopE
    rw [hc, hc]
    by_cases ha : e.a = v
    · by_cases hb : e.b = v
      · simp only [ha, hb, hv, and_self, if_true, decide_true, Bool.or_true]; simp <;> omega
      · simp only [ha, hb, hv, and_false, if_false, true_or, if_true, decide_true, decide_false, Bool.or_true, Bool.or_false]; simp; omega
    · by_cases hb : e.b = v
      · simp only [ha, hb, hv, false_and, if_false, or_true, if_true, decide_true, decide_false, Bool.or_true, Bool.or_false]; simp
      · simp only [ha, hb, false_and, or_self, if_false, decide_false, Bool.or_false]; omega
  induction L with
  | nil => rfl
  | cons e r ih => rw [sumL, sumL, sumL, sumL, ih, key]; omega
/-- The sets of a pattern. -/
def selS (p : Nat → Bool) : Nat → List Int
  | 0 => []
  | n + 1 => selS p n ++ (if p n = true then [(n : Int)] else [])
theorem selS_mem (p : Nat → Bool) (n : Nat) (z : Int) : z ∈ selS p n ↔ ∃ i : Nat, i < n ∧ p i = true ∧ z = i := by
  induction n with
  | zero => simp [selS]
  | succ n ih =>
    rw [selS, List.mem_append, ih]
    constructor
    · rintro (⟨i, h1, h2⟩ | h)
      · exact ⟨i, by omega, h2⟩
      · split at h
        · rename_i hp
          obtain rfl : z = n := by simpa using h
          exact ⟨n, by omega, hp, rfl⟩
        · simp at h
    · rintro ⟨i, h1, h2, rfl⟩
      by_cases e : i = n
      · subst e; right; rw [if_pos h2]; simp
      · exact .inl ⟨i, by omega, h2, rfl⟩
theorem selS_len (p : Nat → Bool) (n : Nat) : (selS p n).length ≤ n := by
  induction n with
  | zero => exact Nat.le_refl _
  | succ n ih => rw [selS, List.length_append]; split <;> simp <;> omega
theorem selS_asc (p : Nat → Bool) (n : Nat) : (selS p n).Pairwise (· < ·) := by
  induction n with
  | zero => exact List.Pairwise.nil
  | succ n ih =>
    rw [selS, List.pairwise_append]
    refine ⟨ih, by split <;> simp, fun x hx y hy => ?_⟩
    obtain ⟨i, h1, h2, rfl⟩ := (selS_mem p n x).1 hx
    split at hy
    · obtain rfl : y = n := by simpa using hy
      omega
    · simp at hy
theorem selS_sub (p : Nat → Bool) (n : Nat) : subE n (selS p n) = 0 := by
  unfold subE
  refine firstE_zero fun j hj => ?_
  have hm : iAt (selS p n) j ∈ selS p n := by rw [← iAt_get _ j hj]; exact List.getElem_mem hj
  obtain ⟨i, h1, h2, h3⟩ := (selS_mem p n _).1 hm
  unfold sErr
  rw [if_neg (by unfold isV; rw [h3]; simp; omega), if_neg]
  rintro ⟨k1, k2⟩
  have h4 := List.pairwise_iff_getElem.1 (selS_asc p n) (j - 1) j (by omega) hj (by omega)
  rw [iAt_get, iAt_get] at h4
  omega
theorem selS_not (p : Nat → Bool) (n : Nat) (z : Nat) (hz : z < n) : (selS (fun i => !p i) n).contains (z : Int) = !(selS p n).contains (z : Int) := by
  have h1 : (selS p n).contains (z : Int) = p z := by
    rw [Bool.eq_iff_iff]
    simp only [List.contains_iff_mem]
    rw [selS_mem]
    constructor
    · rintro ⟨i, k1, k2, k3⟩
      obtain rfl : z = i := by omega
      exact k2
    · exact fun h => ⟨z, hz, h, rfl⟩
  have h2 : (selS (fun i => !p i) n).contains (z : Int) = !p z := by
    rw [Bool.eq_iff_iff]
    simp only [List.contains_iff_mem]
    rw [selS_mem]
    constructor
    · rintro ⟨i, k1, k2, k3⟩
      obtain rfl : z = i := by omega
      exact k2
    · exact fun h => ⟨z, hz, h, rfl⟩
  rw [h1, h2]
theorem ends_rng {n : Int} {L : List E} (h : ∀ e ∈ L, 0 ≤ e.a ∧ e.a ≤ e.b ∧ e.b < n ∧ 1 ≤ e.m ∧ e.m ≤ 50) (p : Int × Int) (hp : p ∈ endsG L) : 0 ≤ p.1 ∧ p.1 ≤ p.2 ∧ p.2 < n := by
  unfold endsG at hp
  obtain ⟨e, he, h1⟩ := List.mem_flatMap.1 hp
  obtain rfl := (List.mem_replicate.1 h1).2
  have := h e he
  exact ⟨this.1, this.2.1, this.2.2.1⟩
theorem cutI_congr (f g : Nat → Bool) (n : Nat) (h : ∀ i, i < n → f i = g i) : cutI f n = cutI g n := by
  induction n with
  | zero => rfl
  | succ n ih => rw [cutI, cutI, ih (fun i hi => h i (by omega)), h n (by omega)]
theorem cut_not {N : Nat} {L : List E} (h : ∀ e ∈ L, 0 ≤ e.a ∧ e.a ≤ e.b ∧ e.b < (N : Int) ∧ 1 ≤ e.m ∧ e.m ≤ 50) (p : Nat → Bool) : cutG L (selS (fun i => !p i) N) = cutG L (selS p N) := by
  unfold cutG
  refine cutI_congr _ _ _ fun i hi => ?_
  have h1 := ends_rng h (pAt (endsG L) i) (by rw [← pAt_get _ i hi]; exact List.getElem_mem hi)
  generalize pAt (endsG L) i = q at *
  obtain ⟨x, y⟩ := q
  simp only at h1
  unfold outB
  have e1 := selS_not p N x.toNat (by omega)
  have e2 := selS_not p N y.toNat (by omega)
  rw [Int.toNat_of_nonneg (by omega)] at e1 e2
  simp only
  rw [e1, e2]
  cases (selS p N).contains x <;> cases (selS p N).contains y <;> rfl
/-- Remaking a graph from its ends. -/
def swpP (p : Int × Int) : Int × Int := (p.2, p.1)
def keyP (p : Int × Int) : (Int × Int) × Int := ((mnP p, mxP p), 1)
theorem key_swp (p : Int × Int) : keyP (swpP p) = keyP p := by
  unfold keyP swpP mnP mxP
  simp only
  congr 2
  · split <;> split <;> omega
  · split <;> split <;> omega
theorem accF_append (A B : List ((Int × Int) × Int)) (p : Int × Int) : accF (A ++ B) p = accF A p + accF B p := by
  induction A with
  | nil => simp [accF]
  | cons x r ih => rw [List.cons_append, accF, accF, ih]; omega
theorem accF_rev (A : List ((Int × Int) × Int)) (p : Int × Int) : accF A.reverse p = accF A p := by
  induction A with
  | nil => rfl
  | cons x r ih => rw [List.reverse_cons, accF_append, ih, accF, accF, accF]; omega
theorem accF_rep (k : (Int × Int)) (m : Nat) (p : Int × Int) : accF (List.replicate m (k, 1)) p = if k = p then (m : Int) else 0 := by
  induction m with
  | zero => simp [accF]
  | succ m ih =>
    rw [List.replicate_succ, accF, ih]
    by_cases h : k = p
    · rw [if_pos h, if_pos h, if_pos h]; omega
    · rw [if_neg h, if_neg h, if_neg h]; rfl
theorem ends_acc {n : Int} {L : List E} (h : ∀ e ∈ L, 0 ≤ e.a ∧ e.a ≤ e.b ∧ e.b < n ∧ 1 ≤ e.m ∧ e.m ≤ 50) (x y : Int) : accF ((endsG L).map keyP) (x, y) = bet x y L := by
  induction L with
  | nil => rfl
  | cons e r ih =>
    have h1 := ih (fun x hx => h x (by simp [hx]))
    have h2 := h e (by simp)
    have e1 : endsG (e :: r) = List.replicate e.m.toNat (e.a, e.b) ++ endsG r := by unfold endsG; rw [List.flatMap_cons]
    have e2 : keyP (e.a, e.b) = ((e.a, e.b), 1) := by
      unfold keyP mnP mxP
      simp only
      congr 2
      · rw [if_neg (by omega)]
      · split <;> omega
    rw [e1, List.map_append, accF_append, h1, List.map_replicate, e2, accF_rep, bet]
    congr 1
    by_cases hk : e.a = x ∧ e.b = y
    · rw [if_pos (by rw [hk.1, hk.2]), if_pos hk]; omega
    · rw [if_neg (by rw [Prod.mk.injEq]; exact hk), if_neg hk]
/-- The first i ends, turned where f says so. -/
def Fl (P : List (Int × Int)) (f : Nat → Bool) (i : Nat) : List (Int × Int) := (List.range P.length).map fun j => if j < i ∧ f j = true then swpP (pAt P j) else pAt P j
theorem Fl_len (P : List (Int × Int)) (f : Nat → Bool) (i : Nat) : (Fl P f i).length = P.length := by unfold Fl; simp
theorem Fl_at (P : List (Int × Int)) (f : Nat → Bool) (i j : Nat) (h : j < P.length) : pAt (Fl P f i) j = if j < i ∧ f j = true then swpP (pAt P j) else pAt P j := by
  rw [← pAt_get _ j (by rw [Fl_len]; exact h)]
  unfold Fl
  simp
theorem Fl_zero (P : List (Int × Int)) (f : Nat → Bool) : Fl P f 0 = P := by
  refine List.ext_getElem (Fl_len P f 0) fun j h1 h2 => ?_
  rw [pAt_get _ j h1, pAt_get _ j h2, Fl_at P f 0 j h2, if_neg (by omega)]
theorem Fl_skip (P : List (Int × Int)) (f : Nat → Bool) (i : Nat) (h : f i = false) : Fl P f (i + 1) = Fl P f i := by
  refine List.ext_getElem (by rw [Fl_len, Fl_len]) fun j h1 h2 => ?_
  have h3 : j < P.length := by rw [Fl_len] at h2; exact h2
  rw [pAt_get _ j h1, pAt_get _ j h2, Fl_at P f _ j h3, Fl_at P f _ j h3]
  by_cases e : j = i
  · subst e; rw [if_neg (by rw [h]; simp), if_neg (by omega)]
  · by_cases e2 : j < i ∧ f j = true
    · rw [if_pos e2, if_pos ⟨by omega, e2.2⟩]
    · rw [if_neg e2, if_neg (fun h' => e2 ⟨by omega, h'.2⟩)]
theorem Fl_set (P : List (Int × Int)) (f : Nat → Bool) (i : Nat) (h : f i = true) : Fl P f (i + 1) = (Fl P f i).set i (swpP (pAt (Fl P f i) i)) := by
  refine List.ext_getElem (by rw [List.length_set, Fl_len, Fl_len]) fun j h1 h2 => ?_
  have h3 : j < P.length := by rw [Fl_len] at h1; exact h1
  rw [List.getElem_set]
  by_cases e : i = j
  · subst e
    rw [if_pos rfl, pAt_get _ i h1, Fl_at P f _ i h3, Fl_at P f _ i h3, if_pos ⟨by omega, h⟩, if_neg (by omega)]
  · rw [if_neg e, pAt_get _ j h1, pAt_get _ j (by rw [Fl_len]; exact h3), Fl_at P f _ j h3, Fl_at P f _ j h3]
    by_cases e2 : j < i ∧ f j = true
    · rw [if_pos e2, if_pos ⟨by omega, e2.2⟩]
    · rw [if_neg e2, if_neg (fun h' => e2 ⟨by omega, h'.2⟩)]
theorem Fl_key (P : List (Int × Int)) (f : Nat → Bool) (i : Nat) : (Fl P f i).map keyP = P.map keyP := by
  refine List.ext_getElem (by rw [List.length_map, List.length_map, Fl_len]) fun j h1 h2 => ?_
  have h3 : j < P.length := by simpa using h2
  rw [List.getElem_map, List.getElem_map, pAt_get _ j (by rw [Fl_len]; exact h3), pAt_get _ j h3, Fl_at P f i j h3]
  split
  · exact key_swp _
  · rfl
theorem prs_all (P : List (Int × Int)) : prs P P.length = P.map keyP := by unfold prs keyP; rw [List.take_length]
theorem remake_acc {n : Int} {L : List E} (h : ∀ e ∈ L, 0 ≤ e.a ∧ e.a ≤ e.b ∧ e.b < n ∧ 1 ≤ e.m ∧ e.m ≤ 50) (f : Nat → Bool) (x y : Int) :
    accF (prs (Fl (endsG L) f (endsG L).length).reverse (Fl (endsG L) f (endsG L).length).reverse.length) (x, y) = bet x y L := by
  rw [prs_all, List.map_reverse, accF_rev, Fl_key, ends_acc h]
theorem remake_err {n : Int} {L : List E} (h : ∀ e ∈ L, 0 ≤ e.a ∧ e.a ≤ e.b ∧ e.b < n ∧ 1 ≤ e.m ∧ e.m ≤ 50) (f : Nat → Bool) (j : Nat) (hj : j < (Fl (endsG L) f (endsG L).length).reverse.length) : pErr n (Fl (endsG L) f (endsG L).length).reverse j = 0 := by
  have hm : pAt (Fl (endsG L) f (endsG L).length).reverse j ∈ Fl (endsG L) f (endsG L).length := by
    rw [← pAt_get _ j hj]; exact List.mem_reverse.1 (List.getElem_mem hj)
  obtain ⟨i, hi, he⟩ := List.mem_iff_getElem.1 hm
  rw [Fl_len] at hi
  rw [pAt_get _ i (by rw [Fl_len]; exact hi), Fl_at _ f _ i hi] at he
  have hr := ends_rng h (pAt (endsG L) i) (by rw [← pAt_get _ i hi]; exact List.getElem_mem hi)
  unfold pErr
  rw [← he, if_pos]
  unfold isV swpP
  split <;> simp <;> omega
theorem remake_join {N : Nat} {L : List E} (hR : Right N L) (f : Nat → Bool) : joinT (cntT (Fl (endsG L) f (endsG L).length).reverse (Fl (endsG L) f (endsG L).length).reverse.length) N N = L := by
  refine (joinT_congr _ (fun a b => bet a b L) N N fun a b h1 h2 h3 => ?_).trans (joinT_bet hR)
  rw [cntT_acc _ _ (Nat.le_refl _) (remake_err hR.rng f), remake_acc hR.rng f]
theorem remake_cnt {N : Nat} {L : List E} (hR : Right N L) (f : Nat → Bool) (x y : Nat) : cntT (Fl (endsG L) f (endsG L).length).reverse (Fl (endsG L) f (endsG L).length).reverse.length x y = bet x y L := by
  rw [cntT_acc _ _ (Nat.le_refl _) (remake_err hR.rng f), remake_acc hR.rng f]
end Go.Proofs.Ytjaafneoinidkaa
