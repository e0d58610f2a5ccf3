/- Texts of numbers that are not too long; sums and products of them. -/
import Derived.Test.YtbmonfbbkmpdhaaDoorRb
import Derived.Test.YtbmonfbbkmpdhaaDoorUd
namespace Go.Proofs.YtbmonfbbkmpdhaaDoor
open Go.RowKit Go.Proofs.Num

/-- The text of a number. -/
def T (z : Int) : ByteArray := ⟨(Lib.itoa z).toArray⟩
theorem T_data (z : Int) : (T z).data.toList = Lib.itoa z := rfl
theorem T_str (z : Int) : str (Lib.itoa z) = .string (T z) := rfl

theorem of_chk (s : ByteArray) (h : chk s.data.toList = 0) : s = T (parse s.data.toList) := by
  unfold T
  rw [(chk_cases _ h).1]

theorem nD_le : ∀ (d u : Nat), 1 ≤ d → u < 10 ^ d → Lib.nDigits u ≤ d
  | 0, _, h, _ => absurd h (by omega)
  | d + 1, u, _, h => by
    by_cases h10 : u < 10
    · rw [Lib.nDigits_small h10]; omega
    · rw [Lib.nDigits_big h10]
      have hd : 1 ≤ d := by
        rcases Nat.eq_zero_or_pos d with e | e
        · subst e; simp at h; omega
        · exact e
      have := nD_le d (u / 10) hd (by rw [Nat.pow_succ] at h; omega)
      omega

/-- A number of few digits. -/
def Few (d : Nat) (z : Int) : Prop := z.natAbs < 10 ^ d

theorem Few.le {d e : Nat} {z : Int} (h : Few d z) (he : d ≤ e) : Few e z := Nat.lt_of_lt_of_le h (Nat.pow_le_pow_right (by omega) he)
theorem Few.dig {d : Nat} {z : Int} (h : Few d z) (h1 : 1 ≤ d) (hd : d ≤ 1024) : ¬ 1024 < Lib.nDigits z.natAbs := by
  have := nD_le d z.natAbs h1 h; omega
theorem Few.chk {d : Nat} {z : Int} (h : Few d z) (h1 : 1 ≤ d) (hd : d ≤ 1024) : chk (T z).data.toList = 0 := by
  rw [T_data, chk_itoa, if_neg (h.dig h1 hd)]
theorem Few.tx {d : Nat} {z : Int} (h : Few d z) (h1 : 1 ≤ d) (hd : d ≤ 1024) : tx z = Lib.itoa z := by
  unfold YtbmonfbbkmpdhaaDoor.tx; rw [if_neg (h.dig h1 hd)]
theorem Few.te {d : Nat} {z : Int} (h : Few d z) (h1 : 1 ≤ d) (hd : d ≤ 1024) : te z = 0 := by
  unfold YtbmonfbbkmpdhaaDoor.te; rw [if_neg (h.dig h1 hd)]

theorem body_ge (l : List UInt8) : l.length ≤ (body l).length + 1 := by
  unfold body Lib.trimPrefix; split
  · rw [List.length_drop]; simp; omega
  · omega

theorem Few.size {d : Nat} {z : Int} (h : Few d z) (h1 : 1 ≤ d) (hd : d ≤ 1024) : (T z).size ≤ 9223372036854775807 := by
  have h2 := body_ge (T z).data.toList
  rw [T_data] at h2
  rw [itoa_body, Lib.decDigits_length, ← T_data, size_toList] at h2
  have := h.dig h1 hd
  omega

theorem Few.add {d : Nat} {x y : Int} (hx : Few d x) (hy : Few d y) : Few (d + 1) (x + y) := lt_add hx hy
theorem Few.sub {d : Nat} {x y : Int} (hx : Few d x) (hy : Few d y) : Few (d + 1) (x - y) := lt_sub hx hy
theorem Few.mul {d e : Nat} {x y : Int} (hx : Few d x) (hy : Few e y) : Few (d + e) (x * y) := lt_mul hx hy
theorem Few.neg {d : Nat} {x : Int} (hx : Few d x) : Few d (-x) := by unfold Few at *; rwa [Int.natAbs_neg]

theorem op2_T (f : Int → Int → Int) {d e : Nat} {x y : Int} (hx : Few d x) (hy : Few d y) (h1 : 1 ≤ d) (hd : d ≤ 1024) (hz : Few e (f x y)) (he1 : 1 ≤ e) (he : e ≤ 1024) :
    op2 f (T x).data.toList (T y).data.toList = (Lib.itoa (f x y), 0) := by
  unfold op2
  rw [if_neg (by rw [hx.chk h1 hd]; simp), if_neg (by rw [hy.chk h1 hd]; simp), T_data, T_data, parse_itoa, parse_itoa, hz.tx he1 he, hz.te he1 he]

theorem addT {d : Nat} (x y : Int) (w : World) (hx : Few d x) (hy : Few d y) (h1 : 1 ≤ d) (hd : d + 1 ≤ 1024) (hT : Tab w) :
    Calls Tryd.prog 23 #[.string (T x), .string (T y)] w fun e w' => e = .returned (.tuple #[.string (T (x + y)), .int .i64 0]) ∧ Below w.heap.size w w' := by
  have h := add_any (T x) (T y) (hx.size h1 (by omega)) (hy.size h1 (by omega)) w hT
  rw [op2_T (· + ·) hx hy h1 (by omega) (hx.add hy) (by omega) hd] at h
  exact h

theorem subT {d : Nat} (x y : Int) (w : World) (hx : Few d x) (hy : Few d y) (h1 : 1 ≤ d) (hd : d + 1 ≤ 1024) (hT : Tab w) :
    Calls Tryd.prog 25 #[.string (T x), .string (T y)] w fun e w' => e = .returned (.tuple #[.string (T (x - y)), .int .i64 0]) ∧ Below w.heap.size w w' := by
  have h := sub_any (T x) (T y) (hx.size h1 (by omega)) (hy.size h1 (by omega)) w hT
  rw [op2_T (· - ·) hx hy h1 (by omega) (hx.sub hy) (by omega) hd] at h
  exact h

theorem mulT {d : Nat} (x y : Int) (w : World) (hx : Few d x) (hy : Few d y) (h1 : 1 ≤ d) (hd : d + d ≤ 1024) (hT : Tab w) :
    Calls Tryd.prog 36 #[.string (T x), .string (T y)] w fun e w' => e = .returned (.tuple #[.string (T (x * y)), .int .i64 0]) ∧ Below w.heap.size w w' := by
  have h := mul_any (T x) (T y) (hx.size h1 (by omega)) (hy.size h1 (by omega)) w hT
  rw [op2_T (· * ·) hx hy h1 (by omega) (hx.mul hy) (by omega) hd] at h
  exact h

theorem negT {d : Nat} (x : Int) (w : World) (hx : Few d x) (h1 : 1 ≤ d) (hd : d ≤ 1024) (hT : Tab w) :
    Calls Tryd.prog 28 #[.string (T x)] w fun e w' => e = .returned (.tuple #[.string (T (-x)), .int .i64 0]) ∧ Below w.heap.size w w' := by
  have h := neg_ok (T x) (hx.size h1 hd) (hx.chk h1 hd) w hT
  rw [T_data, parse_itoa, hx.neg.tx h1 hd, hx.neg.te h1 hd] at h
  exact h

/-- What short texts are. -/
theorem small_T (s : ByteArray) (h : smallB s = true) : ∃ x d, s = T x ∧ d = 60 ∧ Few d x := by
  unfold smallB at h
  simp only [Bool.and_eq_true, decide_eq_true_eq, beq_iff_eq] at h
  obtain ⟨d, hd⟩ : ∃ d : Nat, d = 60 := ⟨_, rfl⟩
  refine ⟨_, d, of_chk s h.2, hd, ?_⟩
  have h1 := (chk_cases _ h.2).1
  have h3 := body_length (Lib.itoa (parse s.data.toList))
  rw [itoa_body, Lib.decDigits_length, h1, size_toList] at h3
  exact Nat.lt_of_lt_of_le (Lib.lt_pow_nDigits _) (Nat.pow_le_pow_right (by omega) (by omega))

end Go.Proofs.YtbmonfbbkmpdhaaDoor
