/- Quotients, remainders and coefficients of texts of numbers. -/
import Derived.Test.YtbmonfbbkmpdhaaDoorRc
import Derived.Test.YtbmonfbbkmpdhaaDoorCc
import Derived.Test.YtbmonfbbkmpdhaaDoorUf
namespace Go.Proofs.YtbmonfbbkmpdhaaDoor
open Go.RowKit Go.Proofs.Num

theorem rz_le (x y : Int) (hy : y ≠ 0) : (rz x y).natAbs < y.natAbs := by
  obtain ⟨h1, h2, h3⟩ := qz_spec x y hy
  rcases (show 0 < y ∨ y < 0 by omega) with h | h
  · have := h2 h; omega
  · have := h3 h; omega

theorem Few.of_le {d : Nat} {x y : Int} (h : Few d y) (hx : x.natAbs ≤ y.natAbs) : Few d x := Nat.lt_of_le_of_lt hx h

theorem chkD_T {d : Nat} {x y : Int} (hx : Few d x) (hy : Few d y) (h1 : 1 ≤ d) (hd : d ≤ 1024) (hy0 : y ≠ 0) : chkD (T x).data.toList (T y).data.toList = 0 := by
  have e1 := hx.chk h1 hd
  have e2 := hy.chk h1 hd
  unfold chkD chk2
  rw [e1, e2, T_data y, parse_itoa]
  simp [hy0]

theorem quoT {d : Nat} (x y : Int) (w : World) (hx : Few d x) (hy : Few d y) (h1 : 1 ≤ d) (hd : d ≤ 1024) (hy0 : y ≠ 0) (hT : Tab w) :
    Calls Tryd.prog 40 #[.string (T x), .string (T y)] w fun e w' => e = .returned (.tuple #[.string (T (qz x y)), .int .i64 0]) ∧ Below w.heap.size w w' := by
  have hq : Few d (qz x y) := hx.of_le (qz_le x y hy0)
  have hs := chk_sm _ (hx.chk h1 hd)
  have h := quo_ok y.natAbs (divTo_all _) (T x) (T y) (hx.size h1 hd) (hy.size h1 hd) (chkD_T hx hy h1 hd hy0) (by rw [T_data, parse_itoa]; exact Nat.le_refl _)
  rw [T_data x, T_data y, parse_itoa, parse_itoa, hq.tx h1 hd, hq.te h1 hd] at h
  rw [T_data, parse_itoa] at hs
  exact h (Sm.up (Sm.mono hs (qz_le x y hy0)) (by omega)) w hT

theorem remT {d : Nat} (x y : Int) (w : World) (hx : Few d x) (hy : Few d y) (h1 : 1 ≤ d) (hd : d ≤ 1024) (hy0 : y ≠ 0) (hT : Tab w) :
    Calls Tryd.prog 41 #[.string (T x), .string (T y)] w fun e w' => e = .returned (.tuple #[.string (T (rz x y)), .int .i64 0]) ∧ Below w.heap.size w w' := by
  have hq : Few d (rz x y) := hy.of_le (Nat.le_of_lt (rz_le x y hy0))
  have hs := chk_sm _ (hy.chk h1 hd)
  have h := rem_ok y.natAbs (divTo_all _) (T x) (T y) (hx.size h1 hd) (hy.size h1 hd) (chkD_T hx hy h1 hd hy0) (by rw [T_data, parse_itoa]; exact Nat.le_refl _)
  rw [T_data x, T_data y, parse_itoa, parse_itoa, hq.tx h1 hd, hq.te h1 hd] at h
  rw [T_data, parse_itoa] at hs
  exact h (Sm.up (Sm.mono hs (Nat.le_of_lt (rz_le x y hy0))) (by omega)) w hT

theorem bez_few {d : Nat} {n m : Int} (hn : Few d n) (hm : Few d m) (h1 : 1 ≤ d) : Few d (bez n m).1 ∧ Few d (bez n m).2.1 ∧ Few (d + d + 1) (bez n m).2.2 := by
  have hs : Few d (sgn n) := by
    have h2 : (sgn n).natAbs ≤ 1 := by
      unfold sgn
      by_cases h : n < 0
      · rw [if_pos h]; decide
      · rw [if_neg h]
        by_cases h' : 0 < n
        · rw [if_pos h']; decide
        · rw [if_neg h']; decide
    have h3 : 10 ^ 1 ≤ 10 ^ d := Nat.pow_le_pow_right (by omega) h1
    unfold Few; omega
  unfold bez
  by_cases h0 : m = 0
  · rw [if_pos h0]
    refine ⟨hn.of_le (by omega), hs, ?_⟩
    show (0 : Int).natAbs < _
    exact Nat.pow_pos (by omega)
  · rw [if_neg h0]
    have h := coefB (n := n) h0
    generalize (inv ((m.natAbs : Nat) : Int) (rz n ((m.natAbs : Nat) : Int)) 0 1).1 = g at *
    generalize (inv ((m.natAbs : Nat) : Int) (rz n ((m.natAbs : Nat) : Int)) 0 1).2 = x at *
    generalize qz ((m.natAbs : Nat) : Int) g = q at *
    generalize rz x q = z at *
    have sg : Few d g := hm.of_le (by have := h.d0; have := h.dm; omega)
    have sz : Few d z := hm.of_le (by have := h.z0; have := h.zm; omega)
    have sp : Few (d + d + 1) (g - n * z) := (sg.le (show d ≤ d + d by omega)).sub (hn.mul sz)
    exact ⟨sg, sz, sp.of_le (qz_le _ _ h0)⟩

theorem bezT {d : Nat} (x y : Int) (w : World) (hx : Few d x) (hy : Few d y) (h1 : 1 ≤ d) (hd : d + d + 1 ≤ 1024) (hT : Tab w) :
    Calls Tryd.prog 44 #[.string (T x), .string (T y)] w fun e w' => e = .returned (.tuple #[.string (T (bez x y).1), .string (T (bez x y).2.1), .string (T (bez x y).2.2), .int .i64 0]) ∧ Below w.heap.size w w' := by
  obtain ⟨f1, f2, f3⟩ := bez_few hx hy h1
  have hc : chk2 (T x).data.toList (T y).data.toList = 0 := by
    unfold chk2
    rw [hx.chk h1 (by omega), hy.chk h1 (by omega)]; rfl
  have h := bezout_ok (T x) (T y) (hx.size h1 (by omega)) (hy.size h1 (by omega)) hc w hT
  rw [T_data x, T_data y, parse_itoa, parse_itoa, f1.tx h1 (by omega), f2.tx h1 (by omega), f3.tx (by omega) hd] at h
  exact h
end Go.Proofs.YtbmonfbbkmpdhaaDoor
