/- Numbers: what the loop of inverse computes, and that its factors stay small. -/
import Derived.Test.YtbmonfbbkmpdhaaDoorNf
namespace Go.Proofs.YtbmonfbbkmpdhaaDoor
open Go.RowKit Go.Proofs.Num

theorem rz_pos {r x : Int} (hx : 0 < x) : 0 ≤ rz r x ∧ rz r x < x ∧ r = qz r x * x + rz r x := by
  obtain ⟨h1, h2, -⟩ := qz_spec r x (by omega)
  exact ⟨(h2 hx).1, (h2 hx).2, by rw [Int.mul_comm]; exact h1⟩

/-- The loop of inverse: rest, next, factor, next factor. -/
def inv (r x f g : Int) : Int × Int := if _h : x ≤ 0 then (r, f) else inv x (rz r x) g (f - qz r x * g)
termination_by x.toNat
decreasing_by
  have := rz_pos (r := r) (x := x) (by omega)
  omega

/-- What holds in each round. -/
structure InvB (m r x f g : Int) : Prop where
  r0 : 0 < r
  rm : r ≤ m
  x0 : 0 ≤ x
  xr : x < r
  sum : ((f.natAbs : Nat) : Int) * x + ((g.natAbs : Nat) : Int) * r = m
  sign : (0 ≤ f ∧ g ≤ 0) ∨ (f ≤ 0 ∧ 0 ≤ g)
  fm : ((f.natAbs : Nat) : Int) ≤ m
  gm : ((g.natAbs : Nat) : Int) ≤ m

theorem InvB.start {m x : Int} (hm : 0 < m) (h0 : 0 ≤ x) (hx : x < m) : InvB m m x 0 1 :=
  ⟨hm, Int.le_refl _, h0, hx, by simp, .inr ⟨Int.le_refl _, by omega⟩, by simp; omega, by simp; omega⟩

theorem InvB.next {m r x f g : Int} (h : InvB m r x f g) (hx : 0 < x) : InvB m x (rz r x) g (f - qz r x * g) := by
  obtain ⟨h1, h2, h3⟩ := rz_pos (r := r) hx
  have hr0 := h.r0
  have hrm := h.rm
  have hxr := h.xr
  have hq : 0 ≤ qz r x := by
    apply Int.not_lt.1
    intro hn
    have : qz r x * x ≤ -1 * x := Int.mul_le_mul_of_nonneg_right (by omega) (by omega)
    omega
  have habs : (((f - qz r x * g).natAbs : Nat) : Int) = ((f.natAbs : Nat) : Int) + qz r x * ((g.natAbs : Nat) : Int) := by
    rcases h.sign with ⟨s1, s2⟩ | ⟨s1, s2⟩
    · have e : qz r x * ((g.natAbs : Nat) : Int) = - (qz r x * g) := by
        rw [show ((g.natAbs : Nat) : Int) = -g by omega, Int.mul_neg]
      have : qz r x * g ≤ 0 := Int.mul_nonpos_of_nonneg_of_nonpos hq s2
      rw [e]; omega
    · have e : qz r x * ((g.natAbs : Nat) : Int) = qz r x * g := by
        rw [show ((g.natAbs : Nat) : Int) = g by omega]
      have : 0 ≤ qz r x * g := Int.mul_nonneg hq s2
      rw [e]; omega
  have hsum : ((g.natAbs : Nat) : Int) * rz r x + (((f - qz r x * g).natAbs : Nat) : Int) * x = m := by
    rw [habs, Int.add_mul]
    have e1 : ((g.natAbs : Nat) : Int) * r = ((g.natAbs : Nat) : Int) * (qz r x * x) + ((g.natAbs : Nat) : Int) * rz r x := by rw [← Int.mul_add, ← h3]
    have e2 : qz r x * ((g.natAbs : Nat) : Int) * x = ((g.natAbs : Nat) : Int) * (qz r x * x) := by
      rw [Int.mul_comm (qz r x), Int.mul_assoc]
    have := h.sum
    rw [e2]; omega
  refine ⟨hx, by omega, h1, h2, hsum, ?_, h.gm, ?_⟩
  · rcases h.sign with ⟨s1, s2⟩ | ⟨s1, s2⟩
    · have : qz r x * g ≤ 0 := Int.mul_nonpos_of_nonneg_of_nonpos hq s2
      exact .inr ⟨s2, by omega⟩
    · have : 0 ≤ qz r x * g := Int.mul_nonneg hq s2
      exact .inl ⟨s2, by omega⟩
  · have p1 : 0 ≤ ((g.natAbs : Nat) : Int) * rz r x := Int.mul_nonneg (by omega) h1
    have p2 : (((f - qz r x * g).natAbs : Nat) : Int) * 1 ≤ (((f - qz r x * g).natAbs : Nat) : Int) * x := Int.mul_le_mul_of_nonneg_left (by omega) (by omega)
    omega

end Go.Proofs.YtbmonfbbkmpdhaaDoor
