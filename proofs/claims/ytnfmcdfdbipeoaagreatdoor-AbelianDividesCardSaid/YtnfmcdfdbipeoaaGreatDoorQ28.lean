/- Walks of the laws: a number is the quotient, times the divisor, and the remainder. -/
import Derived.Test.YtnfmcdfdbipeoaaGreatDoorQ25
import Derived.Test.YtnfmcdfdbipeoaaGreatDoorQ26
import Derived.Test.YtnfmcdfdbipeoaaGreatDoorQ22
namespace Go.Proofs.YtnfmcdfdbipeoaaGreatDoor
open Go.RowKit Go.Proofs.Num

theorem T0_list : (T 0).toList = [48] := by rw [Lib.toList_data, T_data]; kernel_rfl
theorem T_zero (x : Int) : ((T x).toList == [48]) = decide (x = 0) := by rw [← T0_list]; exact eq_T x 0

theorem rests_facts (x y : Int) (hy : y ≠ 0) : qz x y * y + rz x y = x ∧ (sgn (rz x y) = 0 ∨ (sgn (rz x y) = sgn y)) ∧ cmpZ (((rz x y).natAbs : Nat) : Int) ((y.natAbs : Nat) : Int) = -1 := by
  obtain ⟨h1, h2, h3⟩ := qz_spec x y hy
  have h4 := rz_le x y hy
  refine ⟨by rw [Int.mul_comm]; omega, ?_, by unfold cmpZ; rw [if_pos (by omega)]⟩
  by_cases h0 : rz x y = 0
  · left; rw [h0]; rfl
  · right
    rcases (show 0 < y ∨ y < 0 by omega) with h | h
    · have := h2 h; rw [sgn_pos h, sgn_pos (by omega)]
    · have := h3 h; rw [sgn_neg h, sgn_neg (by omega)]

end Go.Proofs.YtnfmcdfdbipeoaaGreatDoor
