/- Cut of the program. -/
import Derived.Test.YtgejkgeojjgclaaGp
namespace Go.Proofs.Ytgejkgeojjgclaa
open Go.RowKit Go.Shelf Go.Proofs.Gr
attribute [local go_sem] Oper.semAt_some

theorem Blk.set_ {w : World} {g : Nat} {t : TypeId} {cs : Array Value} (h : Blk w g t cs) (i : Nat) (u : Value) : Blk (w.setCell ⟨g, i, none⟩ u) g t (cs.setIfInBounds i u) := by
  unfold Blk at *
  obtain ⟨hlt, hk⟩ := Array.getElem?_eq_some_iff.1 h
  show (w.heap.modify g _)[g]? = _
  rw [Array.getElem?_eq_getElem (by rw [Array.size_modify]; exact hlt), Array.getElem_modify_self, hk]
  rfl
/-- The table of a set. -/
def inA (S : List Int) : Array Value := ((List.range 12).map fun v : Nat => Value.bool (S.contains (v : Int))).toArray
theorem inA_at (S : List Int) (v : Nat) (h : v < 12) : (inA S)[v]? = some (.bool (S.contains (v : Int))) := by
  unfold inA
  rw [List.getElem?_toArray, List.getElem?_map, List.getElem?_range h]; rfl
theorem inA_set (S : List Int) (m : Nat) : (inA S).setIfInBounds m (.bool true) = inA (S ++ [(m : Int)]) := by
  unfold inA
  rw [List.setIfInBounds_toArray]
  congr 1
  refine List.ext_getElem (by simp) fun j h1 h2 => ?_
  rw [List.getElem_set]
  simp only [List.getElem_map, List.getElem_range]
  by_cases e : m = j
  · subst e; simp
  · rw [if_neg e]
    congr 1
    have : ¬ ((j : Int) = (m : Int)) := by omega
    simp [this]
theorem inA_nil : inA [] = Array.replicate 12 (.bool false) := by kernel_rfl
/-- The numbers of the single edges that lead out of a set. -/
def cutS (S : List Int) (pre : List SE) : List Int := pre.filterMap fun x => if outB S x.1.2 then some (x.1.1 : Int) else none
theorem cutS_snoc (S : List Int) (pre : List SE) (x : SE) : cutS S (pre ++ [x]) = cutS S pre ++ (if outB S x.1.2 then [(x.1.1 : Int)] else []) := by
  unfold cutS
  rw [List.filterMap_append]
  congr 1
  cases h : outB S x.1.2 <;> simp [h]
theorem cutS_le (S : List Int) (pre : List SE) : (cutS S pre).length ≤ pre.length := List.length_filterMap_le _ _
theorem cutS_all (S : List Int) (P : List (Int × Int)) (ys : List SE) (h : ys.map Subtype.val = sg P P.length) : cutS S ys = cutI (fun e => outB S (pAt P e)) P.length := by
  have h1 : cutS S ys = (ys.map Subtype.val).filterMap fun x => if outB S x.2 then some (x.1 : Int) else none := by
    unfold cutS; rw [List.filterMap_map]; rfl
  rw [h1, h]
  generalize P.length = n
  induction n with
  | zero => rfl
  | succ n ih =>
    rw [sg_succ, List.filterMap_append, ih, cutI]
    congr 1
    cases h : outB S (pAt P n) <;> simp [h]

theorem subE_at {n : Int} {S : List Int} (h : subE n S = 0) (i : Nat) (hi : i < S.length) : 0 ≤ iAt S i ∧ iAt S i < n := by
  have h1 := firstE_all h i hi
  unfold sErr at h1
  by_cases h2 : isV n (iAt S i) = false
  · rw [if_pos h2] at h1; omega
  · simpa [isV] using h2
end Go.Proofs.Ytgejkgeojjgclaa
