/- Walks of the numbers' functions: quotients, rounded down. -/
import Derived.Test.YtbmonfbbkmpdhaaDoorNd
namespace Go.Proofs.YtbmonfbbkmpdhaaDoor
open Go.RowKit Go.Proofs.Num

/-- The quotient, rounded down. -/
def qz (x y : Int) : Int := if y < 0 then (-x) / (-y) else x / y
def rz (x y : Int) : Int := x - y * qz x y

theorem qz_spec (x y : Int) (hy : y ≠ 0) : x = y * qz x y + rz x y ∧ (0 < y → 0 ≤ rz x y ∧ rz x y < y) ∧ (y < 0 → y < rz x y ∧ rz x y ≤ 0) := by
  unfold rz
  refine ⟨by omega, fun h => ?_, fun h => ?_⟩
  · unfold qz
    rw [if_neg (by omega)]
    have h1 := Int.emod_nonneg x hy
    have h2 := Int.emod_lt_of_pos x h
    have h3 := Int.mul_ediv_add_emod x y
    omega
  · unfold qz
    rw [if_pos h]
    have h1 := Int.emod_nonneg (-x) (show -y ≠ 0 by omega)
    have h2 := Int.emod_lt_of_pos (-x) (show 0 < -y by omega)
    have h3 := Int.mul_ediv_add_emod (-x) (-y)
    rw [Int.neg_mul] at h3
    omega

theorem mul_sep {y d : Int} (hd : d ≠ 0) (hy : 0 < y) : y ≤ y * d ∨ y * d ≤ -y := by
  rcases (show 1 ≤ d ∨ d ≤ -1 by omega) with h | h
  · left; have := Int.mul_le_mul_of_nonneg_left h (show 0 ≤ y by omega); omega
  · right; have := Int.mul_le_mul_of_nonneg_left h (show 0 ≤ y by omega); omega

theorem qz_uniq {x y q r : Int} (hy : y ≠ 0) (he : x = y * q + r) (hr : (0 < y → 0 ≤ r ∧ r < y) ∧ (y < 0 → y < r ∧ r ≤ 0)) : qz x y = q ∧ rz x y = r := by
  obtain ⟨h1, h2, h3⟩ := qz_spec x y hy
  have h4 : y * (qz x y - q) = r - rz x y := by rw [Int.mul_sub]; omega
  have h5 : qz x y - q = 0 := by
    apply Classical.byContradiction
    intro hd
    rcases (show 0 < y ∨ y < 0 by omega) with h | h
    · have := mul_sep hd h
      have := h2 h; have := hr.1 h
      omega
    · have := mul_sep (y := -y) hd (by omega)
      rw [Int.neg_mul] at this
      have := h3 h; have := hr.2 h
      omega
  refine ⟨by omega, ?_⟩
  rw [h5] at h4
  omega

/-- How the words' quotient and rest make the one that is rounded down. -/
theorem qz_same {x y : Int} (hy : y ≠ 0) (h : (x < 0 ↔ y < 0) ∨ x.natAbs % y.natAbs = 0) :
    qz x y = (if decide (x < 0) = decide (y < 0) then ((x.natAbs / y.natAbs : Nat) : Int) else -((x.natAbs / y.natAbs : Nat) : Int)) ∧ rz x y = (if x < 0 then -((x.natAbs % y.natAbs : Nat) : Int) else ((x.natAbs % y.natAbs : Nat) : Int)) := by
  have e := Nat.mod_add_div x.natAbs y.natAbs
  have hlt := Nat.mod_lt x.natAbs (show 0 < y.natAbs by omega)
  generalize x.natAbs / y.natAbs = q at *
  generalize x.natAbs % y.natAbs = r at *
  have e' : ((r : Int) + (y.natAbs : Int) * (q : Int)) = (x.natAbs : Int) := by rw [← Int.natCast_mul]; omega
  refine qz_uniq hy ?_ ?_
  · rcases (show x < 0 ∨ 0 ≤ x by omega) with hx | hx <;> rcases (show y < 0 ∨ 0 ≤ y by omega) with hy' | hy'
    · rw [if_pos (by simp [hx, hy']), if_pos hx, show (y.natAbs : Int) = -y by omega, Int.neg_mul] at *; omega
    · rw [if_neg (by simp [hx]; omega), if_pos hx, show (y.natAbs : Int) = y by omega] at *; rw [Int.mul_neg]; omega
    · rw [if_neg (by simp [hy']; omega), if_neg (by omega), show (y.natAbs : Int) = -y by omega, Int.neg_mul] at *; rw [Int.mul_neg]; omega
    · rw [if_pos (by simp; omega), if_neg (by omega), show (y.natAbs : Int) = y by omega] at *; omega
  · refine ⟨fun h0 => ?_, fun h0 => ?_⟩ <;> split <;> omega

theorem qz_diff {x y : Int} (hy : y ≠ 0) (h : ¬ (x < 0 ↔ y < 0)) (hr : x.natAbs % y.natAbs ≠ 0) :
    qz x y = -((x.natAbs / y.natAbs : Nat) : Int) - 1 ∧ rz x y = (if x < 0 then -((x.natAbs % y.natAbs : Nat) : Int) else ((x.natAbs % y.natAbs : Nat) : Int)) + y := by
  have e := Nat.mod_add_div x.natAbs y.natAbs
  have hlt := Nat.mod_lt x.natAbs (show 0 < y.natAbs by omega)
  generalize x.natAbs / y.natAbs = q at *
  generalize x.natAbs % y.natAbs = r at *
  have e' : ((r : Int) + (y.natAbs : Int) * (q : Int)) = (x.natAbs : Int) := by rw [← Int.natCast_mul]; omega
  refine qz_uniq hy ?_ ?_
  · rw [Int.mul_sub, Int.mul_neg]
    rcases (show (x < 0 ∧ 0 ≤ y) ∨ (0 ≤ x ∧ y < 0) by omega) with ⟨hx, hy'⟩ | ⟨hx, hy'⟩
    · rw [if_pos hx, show (y.natAbs : Int) = y by omega] at *; omega
    · rw [if_neg (by omega), show (y.natAbs : Int) = -y by omega, Int.neg_mul] at *; omega
  · refine ⟨fun h0 => ?_, fun h0 => ?_⟩ <;> split <;> omega
end Go.Proofs.YtbmonfbbkmpdhaaDoor
