/- Walks of the exported functions: Bezout. -/
import Derived.Test.YtnfmcdfdbipeoaaGreatDoorQ19
import Derived.Test.YtnfmcdfdbipeoaaGreatDoorQ14
import Derived.Test.YtnfmcdfdbipeoaaGreatDoorQ18
namespace Go.Proofs.YtnfmcdfdbipeoaaGreatDoor
open Go.RowKit Go.Proofs.Num

theorem qz_le (x y : Int) (hy : y ≠ 0) : (qz x y).natAbs ≤ x.natAbs := by
  obtain ⟨h1, h2, h3⟩ := qz_spec x y hy
  generalize qz x y = q at *
  generalize rz x y = r at *
  have h4 : y.natAbs * q.natAbs = (y * q).natAbs := (Int.natAbs_mul _ _).symm
  have h5 : y * q = x - r := by omega
  rw [h5] at h4
  have h6 : r.natAbs < y.natAbs := by
    rcases (show 0 < y ∨ y < 0 by omega) with h | h
    · have := h2 h; omega
    · have := h3 h; omega
  apply Classical.byContradiction
  intro hn
  obtain ⟨k, hk⟩ : ∃ k, q.natAbs = k + 1 := ⟨q.natAbs - 1, by omega⟩
  rw [hk, Nat.mul_add, Nat.mul_one] at h4
  have h7 : 1 * k ≤ y.natAbs * k := Nat.mul_le_mul_right _ (by omega)
  omega

theorem bez_sm {n m : Int} (hn : Sm n 200) (hm : Sm m 200) : Sm (bez n m).1 4294967295 ∧ Sm (bez n m).2.1 4294967295 ∧ Sm (bez n m).2.2 4294967295 := by
  unfold bez
  by_cases h0 : m = 0
  · rw [if_pos h0]
    refine ⟨Sm.up (Sm.mono hn (by omega)) (by omega), ?_, ?_⟩
    · have h1 : (sgn n).natAbs ≤ 1 := by
        unfold sgn
        by_cases h : n < 0
        · rw [if_pos h]; decide
        · rw [if_neg h]
          by_cases h' : 0 < n
          · rw [if_pos h']; decide
          · rw [if_neg h']; decide
      have : Sm (sgn n) 1 := Sm.of (by rw [Nat.pow_one]; omega)
      exact Sm.up this (by omega)
    · have : Sm 0 0 := Sm.of (by simp)
      exact Sm.up this (by omega)
  · rw [if_neg h0]
    have h := coefB (n := n) h0
    generalize (inv ((m.natAbs : Nat) : Int) (rz n ((m.natAbs : Nat) : Int)) 0 1).1 = d at *
    generalize (inv ((m.natAbs : Nat) : Int) (rz n ((m.natAbs : Nat) : Int)) 0 1).2 = x at *
    generalize qz ((m.natAbs : Nat) : Int) d = q at *
    generalize rz x q = z at *
    have sd : Sm d 200 := Sm.mono hm (by have := h.d0; have := h.dm; omega)
    have sz : Sm z 200 := Sm.mono hm (by have := h.z0; have := h.zm; omega)
    have sp : Sm (d - n * z) 401 := Sm.sub (Sm.up sd (by omega)) (Sm.mul hn sz)
    exact ⟨Sm.up sd (by omega), Sm.up sz (by omega), Sm.up (Sm.mono sp (qz_le _ _ h0)) (by omega)⟩

/-- Hands back three texts and an error. -/
def BezOut (w : World) (a b c : List UInt8) (n : Nat) (e : Ending) (w' : World) : Prop := e = .returned (.tuple #[str a, str b, str c, .int .i64 ((n : Nat) : Int)]) ∧ Below w.heap.size w w'

theorem boxes3' (w : World) (x1 y1 x2 y2 x3 y3 : Value) : ∃ W, W = ((w.alloc (.cells #[x1, y1] 104)).alloc (.cells #[x2, y2] 104)).alloc (.cells #[x3, y3] 104) ∧
    Box 104 W w.heap.size x1 y1 ∧ Box 104 W (w.heap.size + 1) x2 y2 ∧ Box 104 W (w.heap.size + 1 + 1) x3 y3 ∧ Below w.heap.size w W := by
  obtain ⟨W, hW, h1, h2, h3, hb, hz⟩ := boxes3 w x1 y1 x2 y2 x3 y3
  exact ⟨W, hW, h1, h2, h3, hb⟩

end Go.Proofs.YtnfmcdfdbipeoaaGreatDoor
