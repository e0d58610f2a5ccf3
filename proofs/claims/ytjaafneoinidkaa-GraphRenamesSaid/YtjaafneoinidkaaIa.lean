/- The way back of a renaming, in numbers. -/
import Derived.Test.YtjaafneoinidkaaHw
namespace Go.Proofs.Ytjaafneoinidkaa
open Go.Proofs.Gr

/-- The way back, written one by one. -/
def bkT (S : List Int) : Nat → Nat → Int
  | 0, _ => 0
  | i + 1, x => if x = (iAt S i).toNat then (i : Int) else bkT S i x
theorem bk_at {S : List Int} (hz : ∀ j, j < S.length → nErr S.length S j = 0) (i : Nat) (hi : i ≤ S.length) (x : Nat) (hx : x < S.length) : bkT S i x = if ixZ S x < i then ixZ S x else 0 := by
  have h1 := ix_rng hz x hx
  induction i with
  | zero => rw [bkT, if_neg (by omega)]
  | succ i ih =>
    have h2 := at_rng hz i (by omega)
    rw [bkT, ih (by omega)]
    by_cases e : x = (iAt S i).toNat
    · rw [if_pos e]
      have e2 : (x : Int) = iAt S i := by omega
      rw [e2, h2.2.2, if_pos (by omega)]
    · rw [if_neg e]
      have h3 : ixZ S x ≠ i := by
        intro h
        apply e
        have := h1.2.2
        rw [h] at this
        rw [show ((i : Int)).toNat = i by omega] at this
        omega
      by_cases h4 : ixZ S x < i
      · rw [if_pos h4, if_pos (by omega)]
      · rw [if_neg h4, if_neg (by omega)]
theorem back_eq {S : List Int} (hz : ∀ j, j < S.length → nErr S.length S j = 0) : ((List.range S.length).map fun x => bkT S S.length x) = backS S := by
  unfold backS
  apply List.map_congr_left
  intro x hx
  have hx' := List.mem_range.1 hx
  have h1 := ix_rng hz x hx'
  rw [bk_at hz S.length (Nat.le_refl _) x hx', if_pos h1.2.1]
theorem flatI_map {α : Type} (f : α → Int) (l : List α) : flat encI (l.map f) = l.map fun k => Value.int .i64 (f k) := by
  induction l with
  | nil => rfl
  | cons x r ih => rw [List.map_cons, List.map_cons, flat_cons, ih]; rfl
theorem back_cells {S : List Int} (hz : ∀ j, j < S.length → nErr S.length S j = 0) : (enR S.length (bkT S S.length)).toList = flat encI (backS S) := by
  rw [← back_eq hz, flatI_map]
  rfl
end Go.Proofs.Ytjaafneoinidkaa
