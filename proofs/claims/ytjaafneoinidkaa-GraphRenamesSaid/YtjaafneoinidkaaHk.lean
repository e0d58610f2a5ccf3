/- The numbers of the vertices of a set, as a map; what an induced graph collects. -/
import Derived.Test.YtjaafneoinidkaaHj
import Derived.Maps.OwnSet
namespace Go.Proofs.Ytjaafneoinidkaa
open Go.RowKit Go.Shelf Go.Proofs.Gr Go.Maps

theorem lawI : Keyed Try.prog 3 := int_keyed Try.underlying3
theorem key_int {z : Int} (h : W64 z) : keyOf Try.prog 3 (.int .i64 z) = some (.int .i64 z) := keyOf_int_mk Try.underlying3 h
theorem key_lit (z : Int) : WideAt.IsKeyLit (.int .i64 z) := trivial
/-- The place of a number in a list, or 0. -/
def ixZ (S : List Int) (z : Int) : Int := if S.contains z = true then (S.idxOf z : Int) else 0
theorem ixZ_snoc (S : List Int) (v z : Int) (hv : S.contains v = false) : ixZ (S ++ [v]) z = if z = v then (S.length : Int) else ixZ S z := by
  unfold ixZ
  by_cases e : z = v
  · subst e
    rw [if_pos rfl, if_pos (by simp)]
    have : z ∉ S := by simpa using hv
    rw [List.idxOf_append, if_neg this]; simp
  · rw [if_neg e]
    by_cases h : S.contains z = true
    · rw [if_pos h, if_pos (by simp at h; simp [h])]
      rw [List.idxOf_append, if_pos (by simpa using h)]
    · rw [if_neg h, if_neg (by simp at h; simp [h, e])]
/-- The block b is a map that holds the places of the numbers of a list. -/
def Idx (w : World) (b m : Nat) (S : List Int) : Prop := ∃ D : DataW Unit, w.ownsMap Try.prog 3 plE b m D ∧ ∀ z, W64 z → Maps.has D (.int .i64 z) = S.contains z ∧ D.atKey (.int .i64 z) (.lit (.int .i64 0)) = .lit (.int .i64 (ixZ S z))
theorem Idx.made (w : World) : Idx (w.alloc (.map #[] 0)) w.heap.size 0 [] := ⟨_, World.ownsMap_made w _ _ _, fun z _ => ⟨by simp [Maps.has], by simp [ixZ, DataW.atKey]⟩⟩
theorem Idx.lt {w : World} {b m : Nat} {S : List Int} (h : Idx w b m S) : b < w.heap.size := by
  obtain ⟨D, h1, _⟩ := h; exact h1.lt
theorem Idx.kept {w w' : World} {b m : Nat} {S : List Int} (h : Idx w b m S) {row : Option Nat} (hg : w.grownBy w' row) (hne : some b ≠ row) : Idx w' b m S := by
  obtain ⟨D, h1, h2⟩ := h; exact ⟨D, h1.kept hg hne, h2⟩
theorem Idx.alloc {w : World} {b m : Nat} {S : List Int} (h : Idx w b m S) (o : Obj) : Idx (w.alloc o) b m S := h.kept (World.grownBy_alloc w o none) (by simp)
theorem Idx.below {w w' : World} {b m B : Nat} {S : List Int} (h : Idx w b m S) (hb : Below B w w') (hB : b < B) : Idx w' b m S := by
  obtain ⟨D, ⟨es, clock, h1, h2⟩, h3⟩ := h
  exact ⟨D, ⟨es, clock, (hb.block b hB).trans h1, h2⟩, h3⟩
theorem Idx.put {b m : Nat} {S : List Int} {D : DataW Unit} (h : ∀ z, W64 z → Maps.has D (.int .i64 z) = S.contains z ∧ D.atKey (.int .i64 z) (.lit (.int .i64 0)) = .lit (.int .i64 (ixZ S z))) (hm : Maps.IsMap D) {v : Int} (hv : W64 v) (hn : S.contains v = false)
    {w' : World} (ho : w'.ownsMap Try.prog 3 plE b m (D.put (.int .i64 v) (.lit (.int .i64 (S.length : Int))))) : Idx w' b m (S ++ [v]) := by
  refine ⟨_, ho, fun z hz => ?_⟩
  rw [ixZ_snoc S v z hn]
  by_cases e : z = v
  · subst e
    rw [if_pos rfl]
    exact ⟨by rw [Maps.has_put_same hm (key_lit z)]; simp, by rw [Maps.atKey_put_same hm (key_lit z)]⟩
  · have hne : (Lit.int .i64 z) ≠ .int .i64 v := fun he => e (by injection he)
    rw [if_neg e, Maps.has_put_other hne, Maps.atKey_put_other hne]
    have h1 := h z hz
    exact ⟨by rw [h1.1]; by_cases h2 : z ∈ S <;> simp [h2, e], h1.2⟩
theorem Idx.look {w : World} {b m : Nat} {S : List Int} (h : Idx w b m S) {z : Int} (hz : W64 z) : (Instr.lookup 87 (.map (some b)) (.int .i64 z) true).run Try.prog w = .ok (.tuple #[.int .i64 (ixZ S z), .bool (S.contains z)]) w := by
  obtain ⟨D, h1, h2⟩ := h
  obtain ⟨v, ps, hrun, hv⟩ := h1.look_ok lawI Try.underlying87 (zeroInt w) (plainElem_int Try.underlying3 (a := 0) (by decide)) (key_int hz)
  rw [(h2 z hz).2] at hv
  obtain ⟨c, rfl, hc, -⟩ := plainElem_int_inv Try.underlying3 hv
  have : c = ixZ S z := by
    have := congrArg Prod.fst hc
    simp at this
    exact this.symm
  rw [hrun, (h2 z hz).1, this]
theorem sub_asc {n : Int} {S : List Int} (h : subE n S = 0) : S.Pairwise (· < ·) := by
  have h1 : ∀ i, i + 1 < S.length → iAt S i < iAt S (i + 1) := fun i hi => by
    have := firstE_all h (i + 1) hi
    unfold sErr at this
    split at this
    · omega
    · split at this
      · omega
      · rename_i h2; simp at h2; omega
  rw [List.pairwise_iff_getElem]
  intro i j hi hj hij
  rw [iAt_get, iAt_get]
  obtain ⟨d, rfl⟩ : ∃ d, j = i + 1 + d := ⟨j - i - 1, by omega⟩
  clear hij
  induction d with
  | zero => exact h1 i hj
  | succ d ih => exact Int.lt_trans (ih (by omega)) (h1 (i + 1 + d) hj)
theorem asc_nodup {S : List Int} (h : S.Pairwise (· < ·)) : S.Nodup := h.imp fun h => by omega
theorem ixZ_at {S : List Int} (h : S.Pairwise (· < ·)) (i : Nat) (hi : i < S.length) : ixZ S (iAt S i) = i := by
  unfold ixZ
  rw [← iAt_get S i hi]
  have hm : S.contains S[i] = true := by simp
  rw [if_pos hm]
  have := (asc_nodup h).idxOf_getElem i hi
  rw [this]
theorem ixZ_mem {S : List Int} {z : Int} (h : S.contains z = true) : 0 ≤ ixZ S z ∧ ixZ S z < S.length ∧ iAt S (ixZ S z).toNat = z := by
  unfold ixZ
  rw [if_pos h]
  have h1 : S.idxOf z < S.length := List.idxOf_lt_length_of_mem (by simpa using h)
  refine ⟨by omega, by omega, ?_⟩
  rw [Int.toNat_natCast, ← iAt_get S _ h1]
  exact List.getElem_idxOf h1
theorem asc_lt {S : List Int} (h : S.Pairwise (· < ·)) {i j : Nat} (hi : i < S.length) (hj : j < S.length) (hij : i ≤ j) : iAt S i ≤ iAt S j := by
  rcases Nat.lt_or_ge i j with h1 | h1
  · have := List.pairwise_iff_getElem.1 h i j hi hj h1
    rw [iAt_get, iAt_get] at this
    omega
  · obtain rfl : i = j := by omega
    exact Int.le_refl _
theorem asc_inj {S : List Int} (h : S.Pairwise (· < ·)) {i j : Nat} (hi : i < S.length) (hj : j < S.length) (he : iAt S i = iAt S j) : i = j := by
  have h1 := ixZ_at h i hi
  have h2 := ixZ_at h j hj
  rw [he, h2] at h1
  omega
theorem take_not {S : List Int} (h : S.Pairwise (· < ·)) (i : Nat) (hi : i < S.length) : (S.take i).contains (iAt S i) = false := by
  cases hc : (S.take i).contains (iAt S i) with
  | false => rfl
  | true =>
    have h1 : iAt S i ∈ S.take i := by simpa using hc
    obtain ⟨j, hj, he⟩ := List.mem_iff_getElem.1 h1
    rw [List.length_take] at hj
    rw [List.getElem_take, iAt_get] at he
    have := asc_inj h (show j < S.length by omega) hi he
    omega
theorem take_iAt (S : List Int) (i : Nat) (hi : i < S.length) : S.take (i + 1) = S.take i ++ [iAt S i] := by
  rw [List.take_succ_eq_append_getElem hi, iAt_get]
/-- What an edge adds to an induced graph. -/
def indO (S : List Int) (e : E) : Option ((Int × Int) × Int) := if S.contains e.a = true ∧ S.contains e.b = true then some ((mnP (ixZ S e.a, ixZ S e.b), mxP (ixZ S e.a, ixZ S e.b)), e.m) else none
def indA (L : List E) (S : List Int) : List ((Int × Int) × Int) := L.filterMap (indO S)
theorem indA_succ (L : List E) (S : List Int) (i : Nat) (h : i < L.length) : indA (L.take (i + 1)) S = indA (L.take i) S ++ (indO S (eAt L i)).toList := by
  unfold indA
  rw [List.take_succ_eq_append_getElem h, List.filterMap_append, eAt_get]
  cases hq : indO S (eAt L i) <;> simp [hq]
theorem indA_rng {n : Int} {L : List E} (hr : ∀ e ∈ L, 0 ≤ e.a ∧ e.a ≤ e.b ∧ e.b < n ∧ 1 ≤ e.m ∧ e.m ≤ 50) (S : List Int) : ∀ x ∈ indA L S, 1 ≤ x.2 ∧ x.2 ≤ 50 ∧ 0 ≤ x.1.1 ∧ x.1.1 ≤ x.1.2 ∧ x.1.2 < (S.length : Int) := by
  intro x hx
  obtain ⟨e, he, h1⟩ := List.mem_filterMap.1 hx
  unfold indO at h1
  split at h1
  · rename_i h2
    injection h1 with h1
    subst h1
    have h3 := hr e he
    have h4 := ixZ_mem h2.1
    have h5 := ixZ_mem h2.2
    refine ⟨h3.2.2.2.1, h3.2.2.2.2, ?_⟩
    unfold mnP mxP
    simp only
    split <;> split <;> omega
  · cases h1
theorem indA_bound {n : Int} {L : List E} (hr : ∀ e ∈ L, 0 ≤ e.a ∧ e.a ≤ e.b ∧ e.b < n ∧ 1 ≤ e.m ∧ e.m ≤ 50) (S : List Int) (i : Nat) (p : Int × Int) : accF (indA (L.take i) S) p ≤ 50 * L.length := by
  have h1 := accF_le (indA (L.take i) S) 50 (by omega) (fun x hx => (indA_rng (fun e he => hr e (List.mem_of_mem_take he)) S x hx).2.1) p
  have h2 : (indA (L.take i) S).length ≤ L.length := by
    have := List.length_filterMap_le (indO S) (L.take i)
    unfold indA
    rw [List.length_take] at this
    omega
  have h3 : (50 : Int) * ((indA (L.take i) S).length : Int) ≤ 50 * (L.length : Int) := Int.mul_le_mul_of_nonneg_left (by omega) (by omega)
  omega
theorem indA_acc {n : Int} {L : List E} (hr : ∀ e ∈ L, 0 ≤ e.a ∧ e.a ≤ e.b ∧ e.b < n ∧ 1 ≤ e.m ∧ e.m ≤ 50) {S : List Int} (hS : S.Pairwise (· < ·)) (x y : Nat) (hx : x < S.length) (hy : y < S.length) (hxy : x ≤ y) : betw (iAt S x) (iAt S y) L = accF (indA L S) ((x : Int), (y : Int)) := by
  have h0 := asc_lt hS hx hy hxy
  unfold betw
  rw [Int.min_eq_left h0, Int.max_eq_right h0]
  induction L with
  | nil => rfl
  | cons e r ih =>
    have h1 := ih (fun z hz => hr z (List.mem_cons_of_mem _ hz))
    have h2 := hr e (by simp)
    rw [bet, h1]
    unfold indA
    rw [List.filterMap_cons]
    unfold indO
    by_cases hc : S.contains e.a = true ∧ S.contains e.b = true
    · rw [if_pos hc]
      simp only
      rw [accF]
      congr 1
      have h4 := ixZ_mem hc.1
      have h5 := ixZ_mem hc.2
      have hle : ixZ S e.a ≤ ixZ S e.b := by
        refine Int.not_lt.1 fun hlt => ?_
        have h6 := List.pairwise_iff_getElem.1 hS (ixZ S e.b).toNat (ixZ S e.a).toNat (by omega) (by omega) (by omega)
        rw [iAt_get, iAt_get, h4.2.2, h5.2.2] at h6
        omega
      have hmn : mnP (ixZ S e.a, ixZ S e.b) = ixZ S e.a := by unfold mnP; rw [if_neg (by simp only; omega)]
      have hmx : mxP (ixZ S e.a, ixZ S e.b) = ixZ S e.b := by
        unfold mxP
        simp only
        split
        · rfl
        · omega
      simp only [hmn, hmx, Prod.mk.injEq]
      by_cases hk : e.a = iAt S x ∧ e.b = iAt S y
      · rw [if_pos hk, if_pos]
        rw [hk.1, hk.2, ixZ_at hS x hx, ixZ_at hS y hy]
        exact ⟨rfl, rfl⟩
      · rw [if_neg hk, if_neg]
        rintro ⟨k1, k2⟩
        refine hk ⟨?_, ?_⟩
        · rw [← h4.2.2, k1, Int.toNat_natCast]
        · rw [← h5.2.2, k2, Int.toNat_natCast]
    · rw [if_neg hc]
      simp only
      have : ¬ (e.a = iAt S x ∧ e.b = iAt S y) := fun hk => hc (by
        rw [hk.1, hk.2, ← iAt_get S x hx, ← iAt_get S y hy]
        simp)
      rw [if_neg this]
      exact Int.zero_add _
end Go.Proofs.Ytjaafneoinidkaa
