/- The iterator over the single edges. -/
import Derived.RangeFuncNested
import Derived.RangeFuncBound
import Derived.RangeFuncCalls
import Derived.RangeFuncLeaves
import Derived.RangeFuncBox
import Derived.Shelf.Abstract
import Derived.OwnWalkIn
import Derived.TacticsInMore
import Derived.LoopNIn
import Derived.LoopIn
import Derived.Maps.AppendAt
import Derived.Test.YtgejkgeojjgclaaGn
namespace Go.Proofs.Ytgejkgeojjgclaa
open Go.RowKit Go.Shelf Go.Proofs.Gr
attribute [local go_sem] Oper.semAt_some

/-- Ends that may be vertices. -/
def InR (x : Nat × (Int × Int)) : Prop := 0 ≤ x.2.1 ∧ x.2.1 < 12 ∧ 0 ≤ x.2.2 ∧ x.2.2 < 12
/-- The first single edges with their numbers. -/
def sg (P : List (Int × Int)) (k : Nat) : List (Nat × (Int × Int)) := (List.range k).map fun j => (j, pAt P j)
theorem sg_succ (P : List (Int × Int)) (k : Nat) : sg P (k + 1) = sg P k ++ [(k, pAt P k)] := by simp [sg, List.range_succ]
theorem sg_len (P : List (Int × Int)) (k : Nat) : (sg P k).length = k := by simp [sg]
/-- What the body of a loop over the single edges must keep: what lay below, and the boxes of edges. -/
def KpE (n₀ : Nat) (A B : World) : Prop := Below n₀ A B ∧ ∀ g cs, Blk A g 103 cs → Blk B g 103 cs
theorem KpE.t {n₀ : Nat} {A B C : World} (h : KpE n₀ A B) (k : KpE n₀ B C) : KpE n₀ A C := ⟨h.1.trans k.1, fun g cs hA => k.2 g cs (h.2 g cs hA)⟩
theorem KpE.b {n₀ : Nat} {w : World} (hn : n₀ ≤ w.heap.size) (W : World) (l : Nat) (o o' : Obj) (hl : w.heap.size ≤ l) (h : W.heap[l]? = some o) (hc : o.isCells = false) (hw : o.isWalk = false) : KpE n₀ W (W.putObj l o') :=
  ⟨belowK_b hn W l o o' hl h hc hw, fun g cs hA => by
    unfold Blk at *
    have hne : g ≠ l := by rintro rfl; rw [h] at hA; cases hA; cases hc
    rw [World.putObj_heap_other hne]; exact hA⟩
/-- The ends behind the first edges. -/
theorem ends_split (L : List E) (i : Nat) (h : i < L.length) (k : Nat) (hk : (k : Int) < (eAt L i).m) : pAt (endsG L) ((endsG (L.take i)).length + k) = ((eAt L i).a, (eAt L i).b) ∧ (endsG (L.take i)).length + k < (endsG L).length := by
  have h1 : endsG L = endsG (L.take (i + 1)) ++ endsG (L.drop (i + 1)) := by
    unfold endsG; rw [← List.flatMap_append, List.take_append_drop]
  rw [h1, endsG_take L i h]
  have h2 : k < (List.replicate (eAt L i).m.toNat ((eAt L i).a, (eAt L i).b)).length := by rw [List.length_replicate]; omega
  constructor
  · unfold pAt
    rw [List.getD_eq_getElem?_getD, List.append_assoc, List.getElem?_append_right (by omega), List.getElem?_append_left (by rw [Nat.add_sub_cancel_left]; exact h2), Nat.add_sub_cancel_left, List.getElem?_eq_getElem h2]
    simp
  · rw [List.length_append, List.length_append]; omega
theorem ends_next (L : List E) (i : Nat) (h : i < L.length) (hm : 0 ≤ (eAt L i).m) : ((endsG (L.take (i + 1))).length : Int) = (endsG (L.take i)).length + (eAt L i).m := by
  rw [endsG_take L i h, List.length_append, List.length_replicate]; omega

/-- Single edges whose ends may be vertices. -/
abbrev SE := { x : Nat × (Int × Int) // InR x }
abbrev encS (x : SE) : Array Value := #[.int .i64 (x.1.1 : Nat), .agg #[.int .i64 x.1.2.1, .int .i64 x.1.2.2]]
end Go.Proofs.Ytgejkgeojjgclaa
