/- Powers by squares: the steps, and what too many digits say; and: Walks of the numbers' functions: power. And: Walks of the exported functions: Pow. And: Walks of the reference: Pow; and the error ways of Pow. And: Walks of the laws: powers. -/
import Derived.Test.YtnfmcdfdbipeoaaGreatDoorQ22
import Derived.Test.YtnfmcdfdbipeoaaGreatDoorQ13
import Derived.Lib.RabinKarpLaws
import Derived.Test.YtnfmcdfdbipeoaaGreatDoorQ18
import Derived.Test.YtnfmcdfdbipeoaaGreatDoorQ23
namespace Go.Proofs.YtnfmcdfdbipeoaaGreatDoor
open Go.RowKit Go.Proofs.Num

theorem half_step (e k : Nat) : e / 2 ^ k = 2 * (e / 2 ^ (k + 1)) + e / 2 ^ k % 2 := by
  rw [Nat.pow_succ, ← Nat.div_div_eq_div_mul]; omega

theorem pow_step (a : Int) (e k : Nat) : a ^ (e / 2 ^ k) = if e / 2 ^ k % 2 = 1 then a ^ (e / 2 ^ (k + 1)) * a ^ (e / 2 ^ (k + 1)) * a else a ^ (e / 2 ^ (k + 1)) * a ^ (e / 2 ^ (k + 1)) := by
  have h := half_step e k
  split
  · rename_i h1
    rw [h1] at h
    rw [h, Int.pow_succ, Nat.two_mul, Int.pow_add]
  · have h0 : e / 2 ^ k % 2 = 0 := by omega
    rw [h0] at h
    rw [h, Nat.add_zero, Nat.two_mul, Int.pow_add]

theorem natAbs_pow (a : Int) : ∀ k : Nat, (a ^ k).natAbs = a.natAbs ^ k
  | 0 => by simp
  | k + 1 => by rw [Int.pow_succ, Nat.pow_succ, Int.natAbs_mul, natAbs_pow a k]

theorem nD_mono {u v : Nat} (h : u ≤ v) : Lib.nDigits u ≤ Lib.nDigits v :=
  nD_le _ u (Lib.nDigits_pos v) (Nat.lt_of_le_of_lt h (Lib.lt_pow_nDigits v))

/-- A power that is too long: so are those with greater exponents. -/
theorem long_power {a : Int} {k e : Nat} (hk : k ≤ e) (h : 1024 < Lib.nDigits (a ^ k).natAbs) : 1024 < Lib.nDigits (a ^ e).natAbs := by
  rw [natAbs_pow] at h ⊢
  rcases Nat.eq_zero_or_pos a.natAbs with h0 | h0
  · rw [h0] at h
    have h1 : 0 ^ k ≤ 1 := by cases k <;> simp
    have := nD_mono h1
    rw [Lib.nDigits_small (u := 1) (by omega)] at this
    omega
  · exact Nat.lt_of_lt_of_le h (nD_mono (Nat.pow_le_pow_right h0 hk))

end Go.Proofs.YtnfmcdfdbipeoaaGreatDoor

namespace Go.Proofs.YtnfmcdfdbipeoaaGreatDoor
open Go.RowKit Go.Proofs.Num

end Go.Proofs.YtnfmcdfdbipeoaaGreatDoor

namespace Go.Proofs.YtnfmcdfdbipeoaaGreatDoor
open Go.RowKit Go.Proofs.Num

theorem te_ways (z : Int) : te z = 0 ∨ te z = 11 := by unfold te; split <;> simp

end Go.Proofs.YtnfmcdfdbipeoaaGreatDoor

namespace Go.Proofs.YtnfmcdfdbipeoaaGreatDoor
open Go.RowKit Go.Proofs.Num

theorem pow_le_pow_abs (z : Int) (i n : Nat) (hz : z ≠ 0) (h : i ≤ n) : (z ^ i).natAbs ≤ (z ^ n).natAbs := by
  rw [Int.natAbs_pow, Int.natAbs_pow]
  exact Nat.pow_le_pow_right (by omega) h

theorem few_of_len {d n : Nat} (h : (dig 10 n).length ≤ d) : n < 10 ^ d :=
  Nat.lt_of_lt_of_le (lt_pow_dig (b := 10) (by omega) n) (Nat.pow_le_pow_right (by omega) h)

/-- A power with too many digits on the way has too many at the end. -/
theorem pow_long_way (z : Int) (i n : Nat) (hi : i < n) (h : 1024 < (dig 10 (z ^ (i + 1)).natAbs).length) : tx (z ^ n) = [] ∧ te (z ^ n) = 11 := by
  have hz : z ≠ 0 := by
    rintro rfl
    rw [Int.zero_pow (show i + 1 ≠ 0 by omega)] at h
    rw [Int.natAbs_zero, dig_zero] at h
    simp at h
  have h1 := pow_le_pow_abs z (i + 1) n hz hi
  have h2 : (dig 10 (z ^ (i + 1)).natAbs).length ≤ (dig 10 (z ^ n).natAbs).length := dig_length_mono (by omega) h1
  have h3 : (z ^ n).natAbs ≠ 0 := by
    intro h0
    rw [h0, dig_zero, List.length_nil] at h2
    omega
  have h4 : 1024 < Lib.nDigits (z ^ n).natAbs := by rw [nDigits_dig h3]; omega
  unfold tx te
  exact ⟨if_pos h4, if_pos h4⟩

theorem T_one : T 1 = ⟨#[49]⟩ := by
  unfold T Lib.itoa
  rw [if_neg (by omega), Lib.decDigits]; rfl

/-- The power of a text, or the error. -/
def powS (l : List UInt8) (n : Int) : List UInt8 × Nat :=
  if chk l ≠ 0 then ([], chk l) else if n < 0 ∨ 4096 < n then ([], 2) else (tx (parse l ^ n.toNat), te (parse l ^ n.toNat))

end Go.Proofs.YtnfmcdfdbipeoaaGreatDoor

namespace Go.Proofs.YtnfmcdfdbipeoaaGreatDoor
open Go.RowKit Go.Proofs.Num

theorem Few.pow {d : Nat} {x : Int} (h : Few d x) (n : Nat) : Few (d * n + 1) (x ^ n) := by
  unfold Few at *
  rw [natAbs_pow, Nat.pow_succ, Nat.pow_mul]
  have h1 : x.natAbs ^ n ≤ (10 ^ d) ^ n := Nat.pow_le_pow_left (Nat.le_of_lt h) n
  have h2 : 0 < (10 ^ d) ^ n := Nat.pow_pos (Nat.pow_pos (by omega))
  omega

theorem small_Td (N : Nat) (s : ByteArray) (h : smallB s = true) (hs : s.size ≤ N) : ∃ x, s = T x ∧ Few N x := by
  unfold smallB at h
  simp only [Bool.and_eq_true, decide_eq_true_eq, beq_iff_eq] at h
  refine ⟨_, of_chk s h.2, ?_⟩
  have h1 := (chk_cases _ h.2).1
  have h3 := body_length (Lib.itoa (parse s.data.toList))
  rw [itoa_body, Lib.decDigits_length, h1, size_toList] at h3
  exact Nat.lt_of_lt_of_le (Lib.lt_pow_nDigits _) (Nat.pow_le_pow_right (by omega) (by omega))

theorem cells2 (w : World) (s1 s2 : ByteArray) (k : Nat) (h : k < [s1, s2].length) : (w.alloc (.cells #[.string s1, .string s2] 31)).cell? ⟨w.heap.size, k, none⟩ = some (.string [s1, s2][k]) := by
  rw [cell_of_row _ w.heap.size k _ 31 (0, 0) (heap_alloc_new w _)]
  match k, h with
  | 0, _ => rfl
  | 1, _ => rfl

end Go.Proofs.YtnfmcdfdbipeoaaGreatDoor
