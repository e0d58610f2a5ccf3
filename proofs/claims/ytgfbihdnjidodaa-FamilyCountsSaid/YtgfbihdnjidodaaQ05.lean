/- The iterator over the single edges. And: Ends of the program. And: Cut of the program. And: The number of components, the genus. -/
import Derived.RangeFuncNested
import Derived.RangeFuncBound
import Derived.RangeFuncCalls
import Derived.RangeFuncLeaves
import Derived.RangeFuncBox
import Derived.Shelf.Abstract
import Derived.OwnWalkIn
import Derived.TacticsInMore
import Derived.LoopNIn
import Derived.LoopIn
import Derived.Maps.AppendAt
import Derived.Test.YtgfbihdnjidodaaQ04
import Derived.BigQuiet
import Derived.Deep.QuietTactic
namespace Go.Proofs.Ytgfbihdnjidodaa
open Go.RowKit Go.Shelf Go.Proofs.Gr
attribute [local go_sem] Oper.semAt_some

/-- Ends that may be vertices. -/
def InR (x : Nat × (Int × Int)) : Prop := 0 ≤ x.2.1 ∧ x.2.1 < 12 ∧ 0 ≤ x.2.2 ∧ x.2.2 < 12
/-- The first single edges with their numbers. -/
def sg (P : List (Int × Int)) (k : Nat) : List (Nat × (Int × Int)) := (List.range k).map fun j => (j, pAt P j)
theorem sg_succ (P : List (Int × Int)) (k : Nat) : sg P (k + 1) = sg P k ++ [(k, pAt P k)] := by simp [sg, List.range_succ]
theorem sg_len (P : List (Int × Int)) (k : Nat) : (sg P k).length = k := by simp [sg]
/-- What the body of a loop over the single edges must keep: what lay below, and the boxes of edges. -/
def KpE (n₀ : Nat) (A B : World) : Prop := Below n₀ A B ∧ ∀ g cs, Blk A g 66 cs → Blk B g 66 cs
theorem KpE.t {n₀ : Nat} {A B C : World} (h : KpE n₀ A B) (k : KpE n₀ B C) : KpE n₀ A C := ⟨h.1.trans k.1, fun g cs hA => k.2 g cs (h.2 g cs hA)⟩
theorem KpE.b {n₀ : Nat} {w : World} (hn : n₀ ≤ w.heap.size) (W : World) (l : Nat) (o o' : Obj) (hl : w.heap.size ≤ l) (h : W.heap[l]? = some o) (hc : o.isCells = false) (hw : o.isWalk = false) : KpE n₀ W (W.putObj l o') :=
  ⟨belowK_b hn W l o o' hl h hc hw, fun g cs hA => by
    unfold Blk at *
    have hne : g ≠ l := by rintro rfl; rw [h] at hA; cases hA; cases hc
    rw [World.putObj_heap_other hne]; exact hA⟩
/-- The ends behind the first edges. -/
theorem ends_split (L : List E) (i : Nat) (h : i < L.length) (k : Nat) (hk : (k : Int) < (eAt L i).m) : pAt (endsG L) ((endsG (L.take i)).length + k) = ((eAt L i).a, (eAt L i).b) ∧ (endsG (L.take i)).length + k < (endsG L).length := by
  have h1 : endsG L = endsG (L.take (i + 1)) ++ endsG (L.drop (i + 1)) := by
    unfold endsG; rw [← List.flatMap_append, List.take_append_drop]
  rw [h1, endsG_take L i h]
  have h2 : k < (List.replicate (eAt L i).m.toNat ((eAt L i).a, (eAt L i).b)).length := by rw [List.length_replicate]; omega
  constructor
  · unfold pAt
    rw [List.getD_eq_getElem?_getD, List.append_assoc, List.getElem?_append_right (by omega), List.getElem?_append_left (by rw [Nat.add_sub_cancel_left]; exact h2), Nat.add_sub_cancel_left, List.getElem?_eq_getElem h2]
    simp
  · rw [List.length_append, List.length_append]; omega
theorem ends_next (L : List E) (i : Nat) (h : i < L.length) (hm : 0 ≤ (eAt L i).m) : ((endsG (L.take (i + 1))).length : Int) = (endsG (L.take i)).length + (eAt L i).m := by
  rw [endsG_take L i h, List.length_append, List.length_replicate]; omega

/-- Single edges whose ends may be vertices. -/
abbrev SE := { x : Nat × (Int × Int) // InR x }
abbrev encS (x : SE) : Array Value := #[.int .i64 (x.1.1 : Nat), .agg #[.int .i64 x.1.2.1, .int .i64 x.1.2.2]]
end Go.Proofs.Ytgfbihdnjidodaa

namespace Go.Proofs.Ytgfbihdnjidodaa
open Go.RowKit Go.Shelf Go.Proofs.Gr
attribute [local go_sem] Oper.semAt_some

theorem KpE.alloc {n₀ : Nat} {W : World} (h : n₀ ≤ W.heap.size) (o : Obj) : KpE n₀ W (W.alloc o) := ⟨(Below.refl _ W).alloc h _, fun _ _ hA => hA.alloc _⟩
theorem own_succ {w : World} {base : Nat} {e : TypeId} {size : Nat} {v : Value} {n : Nat} {xs : List Value} (h : w.ownsRow base e size v (n + 1) xs) : ∃ g c, v = .slice (some ⟨g, 0, none⟩) (n + 1) c := by
  rcases h.2 with ⟨_, h0⟩ | ⟨g, c, cur, hv, _⟩
  · omega
  · exact ⟨g, c, hv⟩
theorem ke_push {W w2 : World} {o : Obj} {v : Value} {base n k : Nat} {xs : List Value} {e : TypeId} (hrow : W.ownsRow base e k v n xs) (he : e ≠ 66) (hg : (W.alloc o).grownBy w2 v.ownBlock) (g : Nat) (cs : Array Value) (hA : Blk W g 66 cs) : Blk w2 g 66 cs :=
  (hA.alloc o).grown hg (own_blk_ne (hrow.alloc o) (hA.alloc o) he)
theorem ke_ne {w2 : World} {B g : Nat} {t : TypeId} {v : Value} {cs : Array Value} (h9 : Boxed w2 B t v) (ht : t ≠ 66) (h8 : Blk w2 g 66 cs) : g ≠ B := by
  rintro rfl
  unfold Blk at h8
  have h9' : w2.heap[g]? = some (.cells #[v] t (0, 0)) := h9
  rw [h9'] at h8
  injection h8 with h8
  injection h8 with _ h8
  exact ht h8
theorem RowAt.putObj {α : Type} {k : Nat} {enc : α → List Value} (hk : ∀ x, (enc x).length = k) {W : World} {a : Option Addr} {L : List α} (h : RowAt k enc W a L) {D : Nat} {o o' : Obj} (hD : W.heap[D]? = some o) (hc : o.isCells = false) : RowAt k enc (W.putObj D o') a L := by
  intro j hj
  obtain ⟨b, off, h1, h2, h3⟩ := h j hj
  refine ⟨b, off, h1, by simpa [World.putObj] using h2, fun i hi => ?_⟩
  have h4 := h3 i hi
  have h5 : i < (enc L[j]).length := by rw [hk]; exact hi
  rw [List.getElem?_eq_getElem h5] at h4 ⊢
  exact cell_kept h4 (grownBy_putObj' W D o') (fun r e => by cases e; exact ⟨_, hD, hc⟩)
/-- Hands back pairs and an error's number. -/
def GivesPE (w : World) (l : List (Int × Int)) (k : Nat) (e : Ending) (w' : World) : Prop := ∃ a c, e = .returned (.tuple #[.slice a l.length c, .int .i64 (k : Nat)]) ∧ PsAt w' a l ∧ Below w.heap.size w w'

end Go.Proofs.Ytgfbihdnjidodaa

namespace Go.Proofs.Ytgfbihdnjidodaa
open Go.RowKit Go.Shelf Go.Proofs.Gr
attribute [local go_sem] Oper.semAt_some

theorem Blk.set_ {w : World} {g : Nat} {t : TypeId} {cs : Array Value} (h : Blk w g t cs) (i : Nat) (u : Value) : Blk (w.setCell ⟨g, i, none⟩ u) g t (cs.setIfInBounds i u) := by
  unfold Blk at *
  obtain ⟨hlt, hk⟩ := Array.getElem?_eq_some_iff.1 h
  show (w.heap.modify g _)[g]? = _
  rw [Array.getElem?_eq_getElem (by rw [Array.size_modify]; exact hlt), Array.getElem_modify_self, hk]
  rfl
/-- The table of a set. -/
def inA (S : List Int) : Array Value := ((List.range 12).map fun v : Nat => Value.bool (S.contains (v : Int))).toArray
theorem inA_at (S : List Int) (v : Nat) (h : v < 12) : (inA S)[v]? = some (.bool (S.contains (v : Int))) := by
  unfold inA
  rw [List.getElem?_toArray, List.getElem?_map, List.getElem?_range h]; rfl
theorem inA_set (S : List Int) (m : Nat) : (inA S).setIfInBounds m (.bool true) = inA (S ++ [(m : Int)]) := by
  unfold inA
  rw [List.setIfInBounds_toArray]
  congr 1
  refine List.ext_getElem (by simp) fun j h1 h2 => ?_
  rw [List.getElem_set]
  simp only [List.getElem_map, List.getElem_range]
  by_cases e : m = j
  · subst e; simp
  · rw [if_neg e]
    congr 1
    have : ¬ ((j : Int) = (m : Int)) := by omega
    simp [this]
theorem inA_nil : inA [] = Array.replicate 12 (.bool false) := by kernel_rfl
/-- The numbers of the single edges that lead out of a set. -/
def cutS (S : List Int) (pre : List SE) : List Int := pre.filterMap fun x => if outB S x.1.2 then some (x.1.1 : Int) else none
theorem cutS_snoc (S : List Int) (pre : List SE) (x : SE) : cutS S (pre ++ [x]) = cutS S pre ++ (if outB S x.1.2 then [(x.1.1 : Int)] else []) := by
  unfold cutS
  rw [List.filterMap_append]
  congr 1
  cases h : outB S x.1.2 <;> simp [h]
theorem cutS_le (S : List Int) (pre : List SE) : (cutS S pre).length ≤ pre.length := List.length_filterMap_le _ _
theorem cutS_all (S : List Int) (P : List (Int × Int)) (ys : List SE) (h : ys.map Subtype.val = sg P P.length) : cutS S ys = cutI (fun e => outB S (pAt P e)) P.length := by
  have h1 : cutS S ys = (ys.map Subtype.val).filterMap fun x => if outB S x.2 then some (x.1 : Int) else none := by
    unfold cutS; rw [List.filterMap_map]; rfl
  rw [h1, h]
  generalize P.length = n
  induction n with
  | zero => rfl
  | succ n ih =>
    rw [sg_succ, List.filterMap_append, ih, cutI]
    congr 1
    cases h : outB S (pAt P n) <;> simp [h]

theorem subE_at {n : Int} {S : List Int} (h : subE n S = 0) (i : Nat) (hi : i < S.length) : 0 ≤ iAt S i ∧ iAt S i < n := by
  have h1 := firstE_all h i hi
  unfold sErr at h1
  by_cases h2 : isV n (iAt S i) = false
  · rw [if_pos h2] at h1; omega
  · simpa [isV] using h2
end Go.Proofs.Ytgfbihdnjidodaa

namespace Go.Proofs.Ytgfbihdnjidodaa
open Go.RowKit Go.Shelf Go.Proofs.Gr
attribute [local go_sem] Oper.semAt_some

/-- A table of twelve numbers. -/
def enT (t : Nat → Int) : Array Value := ((List.range 12).map fun v : Nat => Value.int .i64 (t v)).toArray
theorem enT_at (t : Nat → Int) (v : Nat) (h : v < 12) : (enT t)[v]? = some (.int .i64 (t v)) := by
  unfold enT
  rw [List.getElem?_toArray, List.getElem?_map, List.getElem?_range h]; rfl
theorem enT_set (t s : Nat → Int) (m : Nat) (z : Int) (h : ∀ v, s v = if v = m then z else t v) : (enT t).setIfInBounds m (.int .i64 z) = enT s := by
  unfold enT
  rw [List.setIfInBounds_toArray]
  congr 1
  refine List.ext_getElem (by simp) fun j h1 h2 => ?_
  rw [List.getElem_set]
  simp only [List.getElem_map, List.getElem_range]
  by_cases e : m = j
  · subst e; simp [h]
  · rw [if_neg e, h, if_neg (fun e' => e e'.symm)]
theorem enT_eq (t s : Nat → Int) (h : ∀ v, s v = t v) : enT t = enT s := by rw [show s = t from funext h]
/-- The first k have their own numbers. -/
def idT (k : Nat) : Nat → Int := fun v => if v < k then (v : Int) else 0
theorem idT_nil : enT (idT 0) = Array.replicate 12 (.int .i64 0) := by kernel_rfl
theorem idT_set (k : Nat) : (enT (idT k)).setIfInBounds k (.int .i64 (k : Int)) = enT (idT (k + 1)) := enT_set _ _ _ _ fun v => by
  unfold idT
  by_cases e : v = k
  · subst e; rw [if_pos (by omega), if_pos rfl]
  · rw [if_neg e]
    by_cases h : v < k
    · rw [if_pos h, if_pos (by omega)]
    · rw [if_neg h, if_neg (by omega)]
/-- Among the first k, those of one number get another. -/
def relT (t : Nat → Int) (p j : Int) (k : Nat) : Nat → Int := fun v => if v < k ∧ t v = j then p else t v
theorem relT_zero (t : Nat → Int) (p j : Int) : enT t = enT (relT t p j 0) := enT_eq _ _ fun v => by
  unfold relT; rw [if_neg (by omega)]
theorem relT_at (t : Nat → Int) (p j : Int) (k : Nat) : relT t p j k k = t k := by
  unfold relT; rw [if_neg (by omega)]
theorem relT_set (t : Nat → Int) (p j : Int) (k : Nat) (h : t k = j) : (enT (relT t p j k)).setIfInBounds k (.int .i64 p) = enT (relT t p j (k + 1)) := enT_set _ _ _ _ fun v => by
  unfold relT
  by_cases e : v = k
  · subst e; rw [if_pos ⟨by omega, h⟩, if_pos rfl]
  · rw [if_neg e]
    by_cases h1 : v < k ∧ t v = j
    · rw [if_pos h1, if_pos ⟨by omega, h1.2⟩]
    · rw [if_neg h1, if_neg (fun h2 => h1 ⟨by omega, h2.2⟩)]
theorem relT_skip (t : Nat → Int) (p j : Int) (k : Nat) (h : ¬ t k = j) : enT (relT t p j k) = enT (relT t p j (k + 1)) := enT_eq _ _ fun v => by
  unfold relT
  by_cases e : v = k
  · subst e; rw [if_neg (fun h2 => h h2.2), if_neg (fun h2 => h h2.2)]
  · by_cases h1 : v < k ∧ t v = j
    · rw [if_pos h1, if_pos ⟨by omega, h1.2⟩]
    · rw [if_neg h1, if_neg (fun h2 => h1 ⟨by omega, h2.2⟩)]
/-- One edge joins two components. -/
def uStep (st : (Nat → Int) × Int) (e : E) : (Nat → Int) × Int :=
  if st.1 e.a.toNat = st.1 e.b.toNat then st else (relT st.1 (st.1 e.a.toNat) (st.1 e.b.toNat) 12, st.2 - 1)
def uni (n : Int) (L : List E) : (Nat → Int) × Int := L.foldl uStep (idT 12, n)
/-- The number of components. -/
def compsU (n : Int) (L : List E) : Int := (uni n L).2
theorem uni_succ (n : Int) (L : List E) (i : Nat) (h : i < L.length) : uni n (L.take (i + 1)) = uStep (uni n (L.take i)) (eAt L i) := by
  unfold uni
  rw [List.take_succ_eq_append_getElem h, List.foldl_append, eAt_get]; rfl
theorem uni_bound (n : Int) (L : List E) (i : Nat) (h : i ≤ L.length) : n - i ≤ (uni n (L.take i)).2 ∧ (uni n (L.take i)).2 ≤ n := by
  induction i with
  | zero => simp [uni]
  | succ i ih =>
    rw [uni_succ n L i (by omega)]
    have := ih (by omega)
    unfold uStep
    split
    · omega
    · show n - ((i + 1 : Nat) : Int) ≤ (uni n (L.take i)).2 - 1 ∧ (uni n (L.take i)).2 - 1 ≤ n
      omega

set_option maxHeartbeats 12800000 in
set_option maxRecDepth 100000 in
theorem pcomponents_any (n : Int) (a : Option Addr) (cap : Nat) (L : List E) (hL : L.length ≤ 100000) (hM : Right n L) (w : World) (h : EsAt w a L) :
    Calls Try.prog 50 #[gv n a L.length cap] w (GivesN w (compsU n L)) := by
  unfold GivesN gv
  have HR : Hid (∀ i, i < L.length → 0 ≤ (eAt L i).a ∧ (eAt L i).a < 12 ∧ 0 ≤ (eAt L i).b ∧ (eAt L i).b < 12) := Lib.hid fun i hi => by
    have h1 := hM.rng (eAt L i) (by rw [← eAt_get L i hi]; exact List.getElem_mem hi)
    have h2 := hM.hi
    omega
  have HCB := Lib.hid (fun i h => uni_bound n L i h)
  have HST := Lib.hid (fun i h => uni_succ n L i h)
  have hlo := hM.lo
  have hhi := hM.hi
  have HCR : Hid (compsU n L = (uni n (L.take L.length)).2) := Lib.hid (by rw [List.take_length]; rfl)
  have HU0 : Hid (uni n (L.take 0) = (idT 12, n)) := Lib.hid rfl
  generalize compsU n L = R at *
  obtain ⟨W, hW⟩ : ∃ W, W = w.alloc (Obj.cells #[.int .i64 n, .slice a L.length cap] 31) := ⟨_, rfl⟩
  have hB0 : Below w.heap.size w W := by rw [hW]; exact (Below.refl _ w).alloc (Nat.le_refl _) _
  have hG : Blk W w.heap.size 31 #[.int .i64 n, .slice a L.length cap] := by rw [hW]; exact Blk.new _ _ _
  have hWs : W.heap.size = w.heap.size + 1 := by rw [hW]; simp
  have HWS := Lib.hid hWs
  have HW := Lib.hid hW
  have HB0 := Lib.hid hB0
  have HG := Lib.hid hG
  have HE := Lib.hid (h.keep hB0)
  have g0 : W.cell? ⟨w.heap.size, 0, none⟩ = some (.int .i64 n) := hG.cell 0
  have g1 : W.cell? ⟨w.heap.size, 1, none⟩ = some (.slice a L.length cap) := hG.cell 1
  clear hB0 hG hW hWs
  have HT0 : Hid (Blk (W.alloc (Obj.cells (Array.replicate 12 (.int .i64 0)) 98)) (w.heap.size + 1) 98 (enT (idT 0))) := Lib.hid (by rw [idT_nil, ← HWS.out]; exact Blk.new _ _ _)
  clear h hM
  go_enter Try.func50, Try.ntmps50
  go_wp2
  rw [← HW.out]
  go_loopw [11] (fun v wr => ∃ i : Nat, i ≤ 12 ∧ v = .int .i64 i ∧ Blk wr (w.heap.size + 1) 98 (enT (idT i)) ∧ Below W.heap.size W wr) (fun v _ => 12 - (intOf v).toNat)
  case atStart => exact ⟨0, by omega, rfl, HT0.out, (Below.refl _ _).alloc (Nat.le_refl _) _⟩
  case round =>
    obtain ⟨i, hi, rfl, hT, hb⟩ := hrel
    by_cases hlt : i < 12
    · have y2 : wr.frozen? ⟨w.heap.size + 1, i, none⟩ = false := hT.frozen i
      have y1 : wr.cell? ⟨w.heap.size + 1, i, none⟩ = some (.int .i64 (idT i i)) := (hT.cell i).trans (enT_at _ i hlt)
      have i1 : (i : Int) < 12 := by omega
      have i2 : (0 : Int) ≤ (i : Int) := by omega
      have HN : Hid (Blk (wr.setCell ⟨w.heap.size + 1, i, none⟩ (.int .i64 i)) (w.heap.size + 1) 98 (enT (idT (i + 1)))) := Lib.hid (by rw [← idT_set]; exact hT.set_ i _)
      have HB2 : Hid (Below W.heap.size W (wr.setCell ⟨w.heap.size + 1, i, none⟩ (.int .i64 i))) := Lib.hid (hb.setCell (p := ⟨w.heap.size + 1, i, none⟩) (Nat.le_of_eq HWS.out) _)
      clear hT hb
      go_wp2
      go_roundw
      case rel => exact ⟨i + 1, by omega, by go_num, HN.out, HB2.out⟩
      case measure => simp [intOf]; omega
    · obtain rfl : i = 12 := by omega
      have HT := Lib.hid hT
      have HBs := Lib.hid hb
      have g0' : wr.cell? ⟨w.heap.size, 0, none⟩ = some (.int .i64 n) := (HG.out.below hb HG.out.lt).cell 0
      have g1' : wr.cell? ⟨w.heap.size, 1, none⟩ = some (.slice a L.length cap) := (HG.out.below hb HG.out.lt).cell 1
      clear hT hb
      go_wp2
      rename_i ws
      clear g0' g1'
      go_loopw [5, 23] (fun u v wr => ∃ i : Nat, i ≤ L.length ∧ v = .int .i64 i ∧ u = .int .i64 (uni n (L.take i)).2 ∧ Blk wr (w.heap.size + 1) 98 (enT (uni n (L.take i)).1) ∧ Below W.heap.size W wr) (fun _ v _ => L.length - (intOf v).toNat)
      case atStart => exact ⟨0, by omega, rfl, by rw [HU0.out], by rw [HU0.out]; exact HT.out, HBs.out⟩
      case round =>
        obtain ⟨i, hi, rfl, rfl, hT, hb⟩ := hrel
        have hcb := HCB.out i hi
        by_cases hlt : i < L.length
        · have hrg := HR.out i hlt
          have hst := HST.out i hlt
          generalize uni n (L.take i) = st at *
          obtain ⟨t, c⟩ := st
          simp only at hT hcb
          obtain ⟨T, hTe⟩ : ∃ T, T = eAt L i := ⟨_, rfl⟩
          have HT := Lib.hid hTe
          have g0' : wr.cell? ⟨w.heap.size, 0, none⟩ = some (.int .i64 n) := (HG.out.below hb HG.out.lt).cell 0
          have g1' : wr.cell? ⟨w.heap.size, 1, none⟩ = some (.slice a L.length cap) := (HG.out.below hb HG.out.lt).cell 1
          obtain ⟨b1, o1, ha, q1, x1, x2, x3⟩ := (HE.out.keep hb).three i hlt
          subst ha
          rw [← hTe] at x1 x2 x3
          obtain ⟨ta, tb, tm⟩ := T
          simp only at x1 x2 x3
          have i1 : (i : Int) < ((L.length : Nat) : Int) := by omega
          have HBr := Lib.hid hb
          have HBV : Hid (Below W.heap.size W (wr.alloc (Obj.cells #[.int .i64 ta, .int .i64 tb, .int .i64 tm] 66))) := Lib.hid (hb.alloc hb.size _)
          have g2' : (wr.alloc (Obj.cells #[.int .i64 ta, .int .i64 tb, .int .i64 tm] 66)).cell? ⟨w.heap.size, 0, none⟩ = some (.int .i64 n) := (HG.out.below HBV.out HG.out.lt).cell 0
          have g3' : (wr.alloc (Obj.cells #[.int .i64 ta, .int .i64 tb, .int .i64 tm] 66)).cell? ⟨w.heap.size, 1, none⟩ = some (.slice (some ⟨b1, o1, none⟩) L.length cap) := (HG.out.below HBV.out HG.out.lt).cell 1
          clear hb hTe
          rw [← HT.out] at hrg hst
          simp only at hrg
          obtain ⟨p1, rfl⟩ : ∃ p1 : Nat, ta = p1 := ⟨ta.toNat, by omega⟩
          obtain ⟨p2, rfl⟩ : ∃ p2 : Nat, tb = p2 := ⟨tb.toNat, by omega⟩
          unfold uStep at hst
          simp only [Int.toNat_natCast] at hst
          have hTV : Blk (wr.alloc (Obj.cells #[.int .i64 (p1 : Nat), .int .i64 (p2 : Nat), .int .i64 tm] 66)) (w.heap.size + 1) 98 (enT t) := hT.alloc _
          have y1 : (wr.alloc (Obj.cells #[.int .i64 (p1 : Nat), .int .i64 (p2 : Nat), .int .i64 tm] 66)).cell? ⟨w.heap.size + 1, p1, none⟩ = some (.int .i64 (t p1)) := (hTV.cell p1).trans (enT_at t p1 (by omega))
          have y2 : (wr.alloc (Obj.cells #[.int .i64 (p1 : Nat), .int .i64 (p2 : Nat), .int .i64 tm] 66)).cell? ⟨w.heap.size + 1, p2, none⟩ = some (.int .i64 (t p2)) := (hTV.cell p2).trans (enT_at t p2 (by omega))
          have n1 : (p1 : Int) < 12 := by omega
          have n2 : (p2 : Int) < 12 := by omega
          have n3 : (0 : Int) ≤ (p1 : Int) := by omega
          have n4 : (0 : Int) ≤ (p2 : Int) := by omega
          have HTV := Lib.hid hTV
          generalize t p1 = kp at *
          generalize t p2 = jn at *
          clear hrg hT hTV
          by_cases hkj : kp = jn
          · subst hkj
            rw [if_pos rfl] at hst
            have HST2 := Lib.hid hst
            clear hst hcb
            go_wp2
            go_quiet (fail)
            go_wp2
            go_roundw
            case rel => exact ⟨i + 1, by omega, by go_num, by rw [HST2.out], by rw [HST2.out]; exact HTV.out, below_drewN HBV.out _⟩
            case measure => simp [intOf]; omega
          · rw [if_neg hkj] at hst
            have HST2 := Lib.hid hst
            have q0 : (kp == jn) = false := beq_eq_false_iff_ne.2 hkj
            have HC1 : Hid (IntKind.i64.wrap (c - 1) = c - 1) := Lib.hid (IntWalk.i64_in _ (by omega))
            clear hst hcb hkj
            go_wp2
            go_quiet (fail)
            obtain ⟨X, hX⟩ : ∃ X, (wr.alloc (Obj.cells #[.int .i64 (p1 : Nat), .int .i64 (p2 : Nat), .int .i64 tm] 66)).drewN nq = X := ⟨_, rfl⟩
            have HBX : Hid (Below W.heap.size W X) := Lib.hid (by rw [← hX]; exact below_drewN HBV.out _)
            have HTX : Hid (Blk X (w.heap.size + 1) 98 (enT t)) := Lib.hid (by rw [← hX]; exact HTV.out)
            rw [hX]
            clear hX y1 y2 n1 n2 n3 n4 x1 x2 x3 g0' g1' g2' g3'
            go_wp2
            go_loopw [38] (fun v wr => ∃ i : Nat, i ≤ 12 ∧ v = .int .i64 i ∧ Blk wr (w.heap.size + 1) 98 (enT (relT t kp jn i)) ∧ Below W.heap.size W wr) (fun v _ => 12 - (intOf v).toNat)
            case atStart => exact ⟨0, by omega, rfl, by rw [← relT_zero]; exact HTX.out, HBX.out⟩
            case round =>
              obtain ⟨k, hk, rfl, hT, hb⟩ := hrel
              by_cases hlk : k < 12
              · have y1 : wr.cell? ⟨w.heap.size + 1, k, none⟩ = some (.int .i64 (t k)) := (hT.cell k).trans ((enT_at _ k hlk).trans (by rw [relT_at]))
                have y2 : wr.frozen? ⟨w.heap.size + 1, k, none⟩ = false := hT.frozen k
                have k1 : (k : Int) < 12 := by omega
                have k2 : (0 : Int) ≤ (k : Int) := by omega
                by_cases e : t k = jn
                · have HN : Hid (Blk (wr.setCell ⟨w.heap.size + 1, k, none⟩ (.int .i64 kp)) (w.heap.size + 1) 98 (enT (relT t kp jn (k + 1)))) := Lib.hid (by rw [← relT_set t kp jn k e]; exact hT.set_ k _)
                  have HB2 : Hid (Below W.heap.size W (wr.setCell ⟨w.heap.size + 1, k, none⟩ (.int .i64 kp))) := Lib.hid (hb.setCell (p := ⟨w.heap.size + 1, k, none⟩) (Nat.le_of_eq HWS.out) _)
                  rw [e] at y1
                  clear hT hb e
                  go_wp2
                  go_roundw
                  case rel => exact ⟨k + 1, by omega, by go_num, HN.out, HB2.out⟩
                  case measure => simp [intOf]; omega
                · have HN : Hid (Blk wr (w.heap.size + 1) 98 (enT (relT t kp jn (k + 1)))) := Lib.hid (by rw [← relT_skip t kp jn k e]; exact hT)
                  have HB2 := Lib.hid hb
                  have q1 : (t k == jn) = false := beq_eq_false_iff_ne.2 e
                  generalize t k = tk at *
                  clear hT hb e
                  go_wp2
                  go_roundw
                  case rel => exact ⟨k + 1, by omega, by go_num, HN.out, HB2.out⟩
                  case measure => simp [intOf]; omega
              · obtain rfl : k = 12 := by omega
                have HN := Lib.hid hT
                have HB2 := Lib.hid hb
                have c1 := HC1.out
                clear hT hb
                go_wp2
                go_roundw
                case rel => exact ⟨i + 1, by omega, by go_num, by rw [HST2.out], by rw [HST2.out]; exact HN.out, HB2.out⟩
                case measure => simp [intOf]; omega
        · obtain rfl : i = L.length := by omega
          have HBr := Lib.hid hb
          rw [← HCR.out]
          clear hb hcb hT
          go_wp2
          go_ret
          exact ⟨rfl, HB0.out.trans (HBr.out.mono HB0.out.size)⟩
/-- The genus. -/
def genU (n : Int) (L : List E) : Int := sizeG L - n + compsU n L
set_option maxHeartbeats 12800000 in
set_option maxRecDepth 100000 in
theorem pGenus_any (n : Int) (a : Option Addr) (cap : Nat) (L : List E) (hL : L.length ≤ 100000) (w : World) (h : EsAt w a L) :
    Calls Try.prog 36 #[gv n a L.length cap] w (GivesNE w (if chkG n L = 0 then genU n L else 0) (chkG n L)) := by
  have HC := Lib.hid (fun w h => check_any n a cap L (by omega) w h)
  have HSZ : Hid (chkG n L = 0 → ∀ w, EsAt w a L → Calls Try.prog 49 #[gv n a L.length cap] w (GivesN w (sizeG L))) :=
    Lib.hid (fun h0 w h => psize_any n a cap L hL (fun e he => by have := (right_of h0).rng e he; omega) w h)
  have HCO : Hid (chkG n L = 0 → ∀ w, EsAt w a L → Calls Try.prog 50 #[gv n a L.length cap] w (GivesN w (compsU n L))) :=
    Lib.hid (fun h0 w h => pcomponents_any n a cap L hL (right_of h0) w h)
  have HGE : Hid (genU n L = sizeG L - n + compsU n L) := Lib.hid rfl
  have HBD : Hid (chkG n L = 0 → 1 ≤ n ∧ n ≤ 12 ∧ 0 ≤ sizeG L ∧ sizeG L ≤ 5000000 ∧ n - 100000 ≤ compsU n L ∧ compsU n L ≤ n) := Lib.hid fun h0 => by
    have h1 := right_of h0
    have h2 := uni_bound n L L.length (Nat.le_refl _)
    have h3 := sum_bound (f := fun e => e.m) (L := L) (fun e he => by have := h1.rng e he; omega) L.length
    rw [List.take_length] at h2
    rw [take_all] at h3
    have h4 : sizeG L = sumL (fun e => e.m) L := rfl
    have h5 : compsU n L = (uni n L).2 := rfl
    have := h1.lo
    have := h1.hi
    omega
  unfold GivesNE
  unfold GivesN gv at *
  obtain ⟨W, hW⟩ : ∃ W, W = w.alloc (Obj.cells #[.int .i64 n, .slice a L.length cap] 31) := ⟨_, rfl⟩
  have hB0 : Below w.heap.size w W := by rw [hW]; exact (Below.refl _ w).alloc (Nat.le_refl _) _
  have hG : Blk W w.heap.size 31 #[.int .i64 n, .slice a L.length cap] := by rw [hW]; exact Blk.new _ _ _
  have hWs : W.heap.size = w.heap.size + 1 := by rw [hW]; simp
  have HWS := Lib.hid hWs
  have HW := Lib.hid hW
  have HB0 := Lib.hid hB0
  have HG := Lib.hid hG
  have HE := Lib.hid (h.keep hB0)
  have g0 : W.cell? ⟨w.heap.size, 0, none⟩ = some (.int .i64 n) := hG.cell 0
  have g1 : W.cell? ⟨w.heap.size, 1, none⟩ = some (.slice a L.length cap) := hG.cell 1
  clear hB0 hG hW hWs
  generalize genU n L = GE at *
  generalize sizeG L = S at *
  generalize compsU n L = C at *
  generalize chkG n L = k at *
  clear h
  by_cases hk : k = 0
  · subst hk
    have HSZ2 := Lib.hid (HSZ.out rfl)
    have HCO2 := Lib.hid (HCO.out rfl)
    obtain ⟨b1, b2, b3, b4, b5, b6⟩ := HBD.out rfl
    have C1 : Hid (IntKind.i64.wrap (S - n) = S - n) := Lib.hid (IntWalk.i64_in _ (by omega))
    have C2 : Hid (IntKind.i64.wrap (S - n + C) = S - n + C) := Lib.hid (IntWalk.i64_in _ (by omega))
    clear b1 b2 b3 b4 b5 b6
    go_enter Try.func36, Try.ntmps36
    go_wp2_with fail
    rw [← HW.out]
    refine (HC.out _ HE.out).mono ?_
    rintro e w1 ⟨rfl, hb⟩
    have HB1 := Lib.hid (HB0.out.trans (hb.mono HB0.out.size))
    have HSW : Hid (∀ x, Below w1.heap.size w1 x → (Below w1.heap.size w1 x ∧ x.cell? ⟨w.heap.size, 0, none⟩ = some (.int .i64 n) ∧ x.cell? ⟨w.heap.size, 1, none⟩ = some (.slice a L.length cap))) := Lib.hid fun x hx => ⟨hx, (HG.out.below (hb.trans (hx.mono hb.size)) HG.out.lt).cell 0, (HG.out.below (hb.trans (hx.mono hb.size)) HG.out.lt).cell 1⟩
    have HEW := Lib.hid (HE.out.keep hb)
    clear hb
    go_wp2
    have hk2 : Below w1.heap.size w1 w1.drew := (Below.refl _ _).drew
    obtain ⟨_, f0, f1⟩ := HSW.out _ hk2
    have c1 := C1.out
    have c2 := C2.out
    go_region_held3 (fun x => Below w1.heap.size w1 x ∧ x.cell? ⟨w.heap.size, 0, none⟩ = some (.int .i64 n) ∧ x.cell? ⟨w.heap.size, 1, none⟩ = some (.slice a L.length cap))
      (first | exact HSW.out _ (by assumption) | exact HSW.out _ (Below.drew (by assumption)))
      (first | (go_at_call 49; refine (HSZ2.out _ (HEW.out.keep hk2)).mono ?_; rintro e wz ⟨rfl, hbz⟩; have hk3 := hk2.trans (hbz.mono hk2.size); clear hbz hk2; have hk2 := hk3; clear hk3) | (go_at_call 50; refine (HCO2.out _ (HEW.out.keep hk2)).mono ?_; rintro e wz ⟨rfl, hbz⟩; have hk3 := hk2.trans (hbz.mono hk2.size); clear hbz hk2; have hk2 := hk3; clear hk3))
    rename_i hHeldz
    clear hHeldz
    go_wp2
    go_ret2
    exact ⟨by rw [HGE.out]; rfl, HB1.out.trans (hk2.mono HB1.out.size)⟩
  · have q0 : (((k : Nat) : Int) != 0) = true := by rw [bne_iff_ne]; omega
    go_enter Try.func36, Try.ntmps36
    go_wp2_with fail
    rw [← HW.out]
    refine (HC.out _ HE.out).mono ?_
    rintro e w1 ⟨rfl, hb⟩
    have HB1 := Lib.hid (HB0.out.trans (hb.mono HB0.out.size))
    clear hb
    go_wp2
    go_ret2
    exact ⟨rfl, HB1.out⟩
end Go.Proofs.Ytgfbihdnjidodaa
