/- Powers by squares: the steps, and what too many digits say. -/
import Derived.Test.YtbmonfbbkmpdhaaDoorRc
namespace Go.Proofs.YtbmonfbbkmpdhaaDoor
open Go.RowKit Go.Proofs.Num

theorem half_step (e k : Nat) : e / 2 ^ k = 2 * (e / 2 ^ (k + 1)) + e / 2 ^ k % 2 := by
  rw [Nat.pow_succ, ← Nat.div_div_eq_div_mul]; omega

theorem pow_step (a : Int) (e k : Nat) : a ^ (e / 2 ^ k) = if e / 2 ^ k % 2 = 1 then a ^ (e / 2 ^ (k + 1)) * a ^ (e / 2 ^ (k + 1)) * a else a ^ (e / 2 ^ (k + 1)) * a ^ (e / 2 ^ (k + 1)) := by
  have h := half_step e k
  split
  · rename_i h1
    rw [h1] at h
    rw [h, Int.pow_succ, Nat.two_mul, Int.pow_add]
  · have h0 : e / 2 ^ k % 2 = 0 := by omega
    rw [h0] at h
    rw [h, Nat.add_zero, Nat.two_mul, Int.pow_add]

theorem natAbs_pow (a : Int) : ∀ k : Nat, (a ^ k).natAbs = a.natAbs ^ k
  | 0 => by simp
  | k + 1 => by rw [Int.pow_succ, Nat.pow_succ, Int.natAbs_mul, natAbs_pow a k]

theorem nD_mono {u v : Nat} (h : u ≤ v) : Lib.nDigits u ≤ Lib.nDigits v :=
  nD_le _ u (Lib.nDigits_pos v) (Nat.lt_of_le_of_lt h (Lib.lt_pow_nDigits v))

/-- A power that is too long: so are those with greater exponents. -/
theorem long_power {a : Int} {k e : Nat} (hk : k ≤ e) (h : 1024 < Lib.nDigits (a ^ k).natAbs) : 1024 < Lib.nDigits (a ^ e).natAbs := by
  rw [natAbs_pow] at h ⊢
  rcases Nat.eq_zero_or_pos a.natAbs with h0 | h0
  · rw [h0] at h
    have h1 : 0 ^ k ≤ 1 := by cases k <;> simp
    have := nD_mono h1
    rw [Lib.nDigits_small (u := 1) (by omega)] at this
    omega
  · exact Nat.lt_of_lt_of_le h (nD_mono (Nat.pow_le_pow_right h0 hk))

end Go.Proofs.YtbmonfbbkmpdhaaDoor
