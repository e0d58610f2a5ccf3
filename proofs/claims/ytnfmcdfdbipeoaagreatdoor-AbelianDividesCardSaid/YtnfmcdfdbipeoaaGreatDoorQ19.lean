/- Numbers: what the loop of inverse computes, and that its factors stay small; and: Walks of the numbers' functions: inverse. And: Numbers: the coefficients of Bezout as the program computes them, and that they stay small. And: Walks of the numbers' functions: the coefficients of Bezout. -/
import Derived.Test.YtnfmcdfdbipeoaaGreatDoorQ13
import Derived.Test.YtnfmcdfdbipeoaaGreatDoorQ12
import Derived.Deep.LoopGhost
import Derived.Test.YtnfmcdfdbipeoaaGreatDoorQ01
namespace Go.Proofs.YtnfmcdfdbipeoaaGreatDoor
open Go.RowKit Go.Proofs.Num

theorem rz_pos {r x : Int} (hx : 0 < x) : 0 ≤ rz r x ∧ rz r x < x ∧ r = qz r x * x + rz r x := by
  obtain ⟨h1, h2, -⟩ := qz_spec r x (by omega)
  exact ⟨(h2 hx).1, (h2 hx).2, by rw [Int.mul_comm]; exact h1⟩

/-- The loop of inverse: rest, next, factor, next factor. -/
def inv (r x f g : Int) : Int × Int := if _h : x ≤ 0 then (r, f) else inv x (rz r x) g (f - qz r x * g)
termination_by x.toNat
decreasing_by
  have := rz_pos (r := r) (x := x) (by omega)
  omega

/-- What holds in each round. -/
structure InvB (m r x f g : Int) : Prop where
  r0 : 0 < r
  rm : r ≤ m
  x0 : 0 ≤ x
  xr : x < r
  sum : ((f.natAbs : Nat) : Int) * x + ((g.natAbs : Nat) : Int) * r = m
  sign : (0 ≤ f ∧ g ≤ 0) ∨ (f ≤ 0 ∧ 0 ≤ g)
  fm : ((f.natAbs : Nat) : Int) ≤ m
  gm : ((g.natAbs : Nat) : Int) ≤ m

theorem InvB.start {m x : Int} (hm : 0 < m) (h0 : 0 ≤ x) (hx : x < m) : InvB m m x 0 1 :=
  ⟨hm, Int.le_refl _, h0, hx, by simp, .inr ⟨Int.le_refl _, by omega⟩, by simp; omega, by simp; omega⟩

theorem InvB.next {m r x f g : Int} (h : InvB m r x f g) (hx : 0 < x) : InvB m x (rz r x) g (f - qz r x * g) := by
  obtain ⟨h1, h2, h3⟩ := rz_pos (r := r) hx
  have hr0 := h.r0
  have hrm := h.rm
  have hxr := h.xr
  have hq : 0 ≤ qz r x := by
    apply Int.not_lt.1
    intro hn
    have : qz r x * x ≤ -1 * x := Int.mul_le_mul_of_nonneg_right (by omega) (by omega)
    omega
  have habs : (((f - qz r x * g).natAbs : Nat) : Int) = ((f.natAbs : Nat) : Int) + qz r x * ((g.natAbs : Nat) : Int) := by
    rcases h.sign with ⟨s1, s2⟩ | ⟨s1, s2⟩
    · have e : qz r x * ((g.natAbs : Nat) : Int) = - (qz r x * g) := by
        rw [show ((g.natAbs : Nat) : Int) = -g by omega, Int.mul_neg]
      have : qz r x * g ≤ 0 := Int.mul_nonpos_of_nonneg_of_nonpos hq s2
      rw [e]; omega
    · have e : qz r x * ((g.natAbs : Nat) : Int) = qz r x * g := by
        rw [show ((g.natAbs : Nat) : Int) = g by omega]
      have : 0 ≤ qz r x * g := Int.mul_nonneg hq s2
      rw [e]; omega
  have hsum : ((g.natAbs : Nat) : Int) * rz r x + (((f - qz r x * g).natAbs : Nat) : Int) * x = m := by
    rw [habs, Int.add_mul]
    have e1 : ((g.natAbs : Nat) : Int) * r = ((g.natAbs : Nat) : Int) * (qz r x * x) + ((g.natAbs : Nat) : Int) * rz r x := by rw [← Int.mul_add, ← h3]
    have e2 : qz r x * ((g.natAbs : Nat) : Int) * x = ((g.natAbs : Nat) : Int) * (qz r x * x) := by
      rw [Int.mul_comm (qz r x), Int.mul_assoc]
    have := h.sum
    rw [e2]; omega
  refine ⟨hx, by omega, h1, h2, hsum, ?_, h.gm, ?_⟩
  · rcases h.sign with ⟨s1, s2⟩ | ⟨s1, s2⟩
    · have : qz r x * g ≤ 0 := Int.mul_nonpos_of_nonneg_of_nonpos hq s2
      exact .inr ⟨s2, by omega⟩
    · have : 0 ≤ qz r x * g := Int.mul_nonneg hq s2
      exact .inl ⟨s2, by omega⟩
  · have p1 : 0 ≤ ((g.natAbs : Nat) : Int) * rz r x := Int.mul_nonneg (by omega) h1
    have p2 : (((f - qz r x * g).natAbs : Nat) : Int) * 1 ≤ (((f - qz r x * g).natAbs : Nat) : Int) * x := Int.mul_le_mul_of_nonneg_left (by omega) (by omega)
    omega

end Go.Proofs.YtnfmcdfdbipeoaaGreatDoor

namespace Go.Proofs.YtnfmcdfdbipeoaaGreatDoor
open Go.RowKit Go.Proofs.Num

theorem Sm.mono {x m : Int} {k : Nat} (h : Sm m k) (hx : x.natAbs ≤ m.natAbs) : Sm x k := Nat.le_trans (dig_length_mono (by omega) hx) h

theorem InvB.qs {m r x f g : Int} (h : InvB m r x f g) (hx : 0 < x) : (qz r x).natAbs ≤ m.natAbs ∧ (qz r x * g).natAbs ≤ m.natAbs := by
  obtain ⟨h1, h2, h3⟩ := rz_pos (r := r) hx
  have hrm := h.rm
  have hr0 := h.r0
  have hq : 0 ≤ qz r x := by
    apply Int.not_lt.1
    intro hn
    have : qz r x * x ≤ -1 * x := Int.mul_le_mul_of_nonneg_right (by omega) (by omega)
    have := h.xr
    omega
  have h4 : qz r x * 1 ≤ qz r x * x := Int.mul_le_mul_of_nonneg_left (by omega) hq
  have h5 : qz r x * ((g.natAbs : Nat) : Int) ≤ r * ((g.natAbs : Nat) : Int) := Int.mul_le_mul_of_nonneg_right (by omega) (by omega)
  have h6 : 0 ≤ ((f.natAbs : Nat) : Int) * x := Int.mul_nonneg (by omega) (by omega)
  have h7 := h.sum
  rw [Int.mul_comm _ r] at h7
  refine ⟨by omega, ?_⟩
  have h8 : (((qz r x * g).natAbs : Nat) : Int) = qz r x * ((g.natAbs : Nat) : Int) := by
    rw [Int.natAbs_mul, Int.natCast_mul, Int.natAbs_of_nonneg hq]
  omega

/-- The four boxes of the loop of inverse: rest, factor, next, next factor. -/
def InvW (r6 r7 r9 r10 : Nat) (W : World) (m x0 : Int) (gk : Nat) (wr : World) : Prop :=
  ∃ (r x f g : Int) (b6 : Bool) (a6 : Option Addr) (k6 p6 : Nat) (b7 : Bool) (a7 : Option Addr) (k7 p7 : Nat) (b9 : Bool) (a9 : Option Addr) (k9 p9 : Nat) (b10 : Bool) (a10 : Option Addr) (k10 p10 : Nat),
    x.toNat ≤ gk ∧ InvB m r x f g ∧ inv r x f g = inv m x0 0 1 ∧ Box 104 wr r6 (.bool b6) (.slice a6 k6 p6) ∧ Box 104 wr r7 (.bool b7) (.slice a7 k7 p7) ∧ Box 104 wr r9 (.bool b9) (.slice a9 k9 p9) ∧ Box 104 wr r10 (.bool b10) (.slice a10 k10 p10) ∧
    Nm wr (.agg #[.bool b6, .slice a6 k6 p6]) r ∧ Nm wr (.agg #[.bool b7, .slice a7 k7 p7]) f ∧ Nm wr (.agg #[.bool b9, .slice a9 k9 p9]) x ∧ Nm wr (.agg #[.bool b10, .slice a10 k10 p10]) g ∧ Kept [r6, r7, r9, r10] W wr

end Go.Proofs.YtnfmcdfdbipeoaaGreatDoor

namespace Go.Proofs.YtnfmcdfdbipeoaaGreatDoor
open Go.RowKit Go.Proofs.Num

theorem inv_stop {r f g : Int} : inv r 0 f g = (r, f) := by rw [inv, dif_pos (by omega)]
theorem inv_go {r x f g : Int} (h : 0 < x) : inv r x f g = inv x (rz r x) g (f - qz r x * g) := by rw [inv, dif_neg (by omega)]

theorem inv_facts (m : Int) : ∀ (k : Nat) (r x f g : Int), x.toNat ≤ k → InvB m r x f g → 0 < (inv r x f g).1 ∧ (inv r x f g).1 ≤ m ∧ (inv r x f g).2.natAbs ≤ m.natAbs := by
  intro k
  induction k with
  | zero =>
    intro r x f g hk h
    obtain rfl : x = 0 := by have := h.x0; omega
    rw [inv_stop]
    exact ⟨h.r0, h.rm, by have := h.fm; have := h.r0; have := h.rm; omega⟩
  | succ k ih =>
    intro r x f g hk h
    by_cases hx : 0 < x
    · rw [inv_go hx]
      exact ih _ _ _ _ (by have := rz_pos (r := r) hx; omega) (h.next hx)
    · obtain rfl : x = 0 := by have := h.x0; omega
      rw [inv_stop]
      exact ⟨h.r0, h.rm, by have := h.fm; have := h.r0; have := h.rm; omega⟩

/-- The greatest common divisor and the coefficients. -/
def bez (n m : Int) : Int × Int × Int :=
  if m = 0 then (((n.natAbs : Nat) : Int), sgn n, 0)
  else
    ((inv ((m.natAbs : Nat) : Int) (rz n ((m.natAbs : Nat) : Int)) 0 1).1,
     rz (inv ((m.natAbs : Nat) : Int) (rz n ((m.natAbs : Nat) : Int)) 0 1).2 (qz ((m.natAbs : Nat) : Int) (inv ((m.natAbs : Nat) : Int) (rz n ((m.natAbs : Nat) : Int)) 0 1).1),
     qz ((inv ((m.natAbs : Nat) : Int) (rz n ((m.natAbs : Nat) : Int)) 0 1).1 - n * rz (inv ((m.natAbs : Nat) : Int) (rz n ((m.natAbs : Nat) : Int)) 0 1).2 (qz ((m.natAbs : Nat) : Int) (inv ((m.natAbs : Nat) : Int) (rz n ((m.natAbs : Nat) : Int)) 0 1).1)) m)

theorem Sm.lt {x : Int} {k : Nat} (h : Sm x k) : x.natAbs < 1000000000 ^ k :=
  Nat.lt_of_lt_of_le (lt_pow_dig (by omega) _) (Nat.pow_le_pow_right (by omega) h)
theorem Sm.of {x : Int} {k : Nat} (h : x.natAbs < 1000000000 ^ k) : Sm x k := dig_length_le (by omega) k _ h
theorem Sm.mul {x y : Int} {j k : Nat} (h1 : Sm x j) (h2 : Sm y k) : Sm (x * y) (j + k) := by
  apply Sm.of
  rw [Int.natAbs_mul, Nat.pow_add]
  exact Nat.mul_lt_mul_of_lt_of_le h1.lt (Nat.le_of_lt h2.lt) (Nat.pow_pos (by omega))
theorem Sm.sub {x y : Int} {k : Nat} (h1 : Sm x k) (h2 : Sm y k) : Sm (x - y) (k + 1) := by
  apply Sm.of
  have a := h1.lt
  have b := h2.lt
  rw [Nat.pow_succ]
  obtain ⟨C, hC⟩ : ∃ C, C = 1000000000 ^ k := ⟨_, rfl⟩
  rw [← hC] at a b ⊢
  omega
theorem Sm.up {x : Int} {j k : Nat} (h : Sm x j) (hk : j ≤ k) : Sm x k := Nat.le_trans h hk

/-- What the steps of the coefficients lean on. -/
structure CoefB (n m d x q z : Int) : Prop where
  d0 : 0 < d
  dm : d ≤ ((m.natAbs : Nat) : Int)
  xm : x.natAbs ≤ m.natAbs
  q0 : 0 < q
  qm : q ≤ ((m.natAbs : Nat) : Int)
  z0 : 0 ≤ z
  zm : z < ((m.natAbs : Nat) : Int)

theorem coefB {n m : Int} (hm : m ≠ 0) :
    CoefB n m (inv ((m.natAbs : Nat) : Int) (rz n ((m.natAbs : Nat) : Int)) 0 1).1 (inv ((m.natAbs : Nat) : Int) (rz n ((m.natAbs : Nat) : Int)) 0 1).2
      (qz ((m.natAbs : Nat) : Int) (inv ((m.natAbs : Nat) : Int) (rz n ((m.natAbs : Nat) : Int)) 0 1).1)
      (rz (inv ((m.natAbs : Nat) : Int) (rz n ((m.natAbs : Nat) : Int)) 0 1).2 (qz ((m.natAbs : Nat) : Int) (inv ((m.natAbs : Nat) : Int) (rz n ((m.natAbs : Nat) : Int)) 0 1).1)) := by
  have hmm : 0 < ((m.natAbs : Nat) : Int) := by omega
  have hr := rz_pos (r := n) hmm
  obtain ⟨h1, h2, h3⟩ := inv_facts _ _ _ _ _ _ (Nat.le_refl _) (InvB.start hmm hr.1 hr.2.1)
  generalize (inv ((m.natAbs : Nat) : Int) (rz n ((m.natAbs : Nat) : Int)) 0 1).1 = d at *
  generalize (inv ((m.natAbs : Nat) : Int) (rz n ((m.natAbs : Nat) : Int)) 0 1).2 = x at *
  obtain ⟨e1, e2, e3⟩ := rz_pos (r := ((m.natAbs : Nat) : Int)) h1
  have hq : 0 < qz ((m.natAbs : Nat) : Int) d := by
    apply Int.not_le.1
    intro hn
    have : qz ((m.natAbs : Nat) : Int) d * d ≤ 0 * d := Int.mul_le_mul_of_nonneg_right hn (by omega)
    omega
  have hq2 : qz ((m.natAbs : Nat) : Int) d ≤ ((m.natAbs : Nat) : Int) := by
    have : qz ((m.natAbs : Nat) : Int) d * 1 ≤ qz ((m.natAbs : Nat) : Int) d * d := Int.mul_le_mul_of_nonneg_left (by omega) (by omega)
    omega
  obtain ⟨f1, f2, f3⟩ := rz_pos (r := x) hq
  exact ⟨h1, h2, by omega, hq, hq2, f1, by omega⟩

theorem boxes5 (w : World) (x1 y1 x2 y2 x3 y3 x4 y4 x5 y5 : Value) : ∃ W, W = ((((w.alloc (.cells #[x1, y1] 104)).alloc (.cells #[x2, y2] 104)).alloc (.cells #[x3, y3] 104)).alloc (.cells #[x4, y4] 104)).alloc (.cells #[x5, y5] 104) ∧
    Box 104 W w.heap.size x1 y1 ∧ Box 104 W (w.heap.size + 1) x2 y2 ∧ Box 104 W (w.heap.size + 1 + 1) x3 y3 ∧ Box 104 W (w.heap.size + 1 + 1 + 1) x4 y4 ∧ Box 104 W (w.heap.size + 1 + 1 + 1 + 1) x5 y5 ∧ Below w.heap.size w W ∧ W.heap.size = w.heap.size + 1 + 1 + 1 + 1 + 1 := by
  obtain ⟨W, hW, h1, h2, h3, h4, hb, hz⟩ := boxes4 w x1 y1 x2 y2 x3 y3 x4 y4
  refine ⟨_, by rw [← hW], h1.alloc _, h2.alloc _, h3.alloc _, h4.alloc _, ?_, hb.alloc (by omega) _, by rw [World.size_alloc, hz]⟩
  have := Box.new 104 W x5 y5
  rwa [hz] at this

def Gives3N (w : World) (a b c : Int) (e : Ending) (w' : World) : Prop := ∃ v1 v2 v3, e = .returned (.tuple #[v1, v2, v3]) ∧ Nm w' v1 a ∧ Nm w' v2 b ∧ Nm w' v3 c ∧ Below w.heap.size w w'

theorem nm_abs {w : World} {b : Bool} {a : Option Addr} {k p : Nat} {z : Int} (h : Nm w (.agg #[.bool b, .slice a k p]) z) : Nm w (.agg #[.bool false, .slice a k p]) ((z.natAbs : Nat) : Int) := by
  obtain ⟨-, g, -, -⟩ := h.parts
  exact Nm.mk' (by simp) (by rw [Int.natAbs_natCast]; exact g)

/-- What stores into three boxes of two cells leave of a number. -/
theorem Nm.stores3 {w : World} {v : Value} {z : Int} {r1 r2 r3 : Nat} {x1 y1 x2 y2 x3 y3 : Value} (h : Nm w v z) (h1 : Box 104 w r1 x1 y1) (h2 : Box 104 w r2 x2 y2) (h3 : Box 104 w r3 x3 y3) (h12 : r2 ≠ r1) (h13 : r3 ≠ r1) (h23 : r3 ≠ r2) (u1 v1 u2 v2 u3 v3 : Value) :
    Nm ((((((w.setCell ⟨r1, 0, none⟩ u1).setCell ⟨r1, 1, none⟩ v1).setCell ⟨r2, 0, none⟩ u2).setCell ⟨r2, 1, none⟩ v2).setCell ⟨r3, 0, none⟩ u3).setCell ⟨r3, 1, none⟩ v3) v z := by
  have g2 := (h2.other ⟨r1, 0, none⟩ u1 h12).other ⟨r1, 1, none⟩ v1 h12
  have g3 := ((((h3.other ⟨r1, 0, none⟩ u1 h13).other ⟨r1, 1, none⟩ v1 h13).other ⟨r2, 0, none⟩ u2 h23).other ⟨r2, 1, none⟩ v2 h23)
  exact Nm.stores (Nm.stores (Nm.stores h h1 _ _) g2 _ _) g3 _ _

end Go.Proofs.YtnfmcdfdbipeoaaGreatDoor

namespace Go.Proofs.YtnfmcdfdbipeoaaGreatDoor
open Go.RowKit Go.Proofs.Num

theorem Box.new_at {w : World} {b : Nat} {x y : Value} (h : b = w.heap.size) : Box 104 (w.alloc (.cells #[x, y] 104)) b x y := by
  subst h; exact Box.new 104 w x y

/-- What the region of the second coefficient leaves. -/
def LeftY (V : World) (base : Nat) (y : Int) (s11 : Value) (wx : World) : Prop :=
  ∃ p b a k q, s11 = .pointer (some ⟨p, 0, none⟩) ∧ base ≤ p ∧ Box 104 wx p (.bool b) (.slice a k q) ∧ Nm wx (.agg #[.bool b, .slice a k q]) y ∧ Below V.heap.size V wx

theorem leftY {V wZ : World} {base p1 p2 : Nat} {y : Int} {b : Bool} {a : Option Addr} {k q : Nat} {z1 z2 z3 z4 u v : Value} (h1 : Box 104 wZ p1 z1 z2) (h2 : Box 104 wZ p2 z3 z4) (hn : Nm wZ (.agg #[.bool b, .slice a k q]) y)
    (hB : Below V.heap.size V wZ) (hb : base ≤ V.heap.size) (hp1 : V.heap.size ≤ p1) (hp2 : V.heap.size ≤ p2) (hne : p1 ≠ p2) :
    LeftY V base y (.pointer (some ⟨p1, 0, none⟩)) ((((wZ.setCell ⟨p1, 0, none⟩ (.bool b)).setCell ⟨p1, 1, none⟩ (.slice a k q)).setCell ⟨p2, 0, none⟩ u).setCell ⟨p2, 1, none⟩ v) := by
  have g2 := (h2.other ⟨p1, 0, none⟩ (.bool b) (Ne.symm hne)).other ⟨p1, 1, none⟩ (.slice a k q) (Ne.symm hne)
  exact ⟨p1, b, a, k, q, rfl, Nat.le_trans hb hp1, (((h1.set0 _).set1 _).other _ _ hne).other _ _ hne, Nm.stores (Nm.stores hn h1 _ _) g2 _ _,
    (((hB.setCell hp1 _).setCell hp1 _).setCell hp2 _).setCell hp2 _⟩

theorem zero_c0 {w : World} {p : Nat} (h : Zero w p) : w.cell? ⟨p, 0, none⟩ = some (.bool false) ∧ w.cell? ⟨p, 1, none⟩ = some (.slice none 0 0) ∧ w.frozen? ⟨p, 0, none⟩ = false ∧ w.frozen? ⟨p, 1, none⟩ = false :=
  ⟨Box.c0 h, Box.c1 h, Box.f0 h 0, Box.f0 h 1⟩

def lF (k : Nat) (b1 b2 : Bool) : Array Bool := #[true, true, true, decide (1 ≤ k), decide (2 ≤ k), true, decide (3 ≤ k), decide (3 ≤ k), decide (3 ≤ k), decide (3 ≤ k), b1, b2, false, false]
def tupAt (v : Value) (i : Nat) : Value := match v with | .tuple a => a.getD i undef | _ => undef
def tY (a : Act) (v : Value) : Act := ((a.put (some 44) v).put (some 52) (tupAt v 0)).put (some 53) (tupAt v 1)
def rN (z : Int) (v : Value) (u : World) : Prop := ∃ b a k c, v = .agg #[.bool b, .slice a k c] ∧ Nm u (.agg #[.bool b, .slice a k c]) z
def rT (z : Int) (v : Value) (u : World) : Prop := ∃ b a k c b' a' k' c', v = .tuple #[.agg #[.bool b, .slice a k c], .agg #[.bool b', .slice a' k' c']] ∧ Nm u (.agg #[.bool b, .slice a k c]) z
theorem tY_comm (a : Act) (e : Nat) (b : Bool) (p : Nat) (v : Value) (h : e = 11 ∨ e = 12) : putB (tY a v) e b p = tY (putB a e b p) v := by
  unfold tY
  rw [putB_put _ _ _ _ _ _ (by omega), putB_put _ _ _ _ _ _ (by omega), putB_put _ _ _ _ _ _ (by omega)]
theorem rN.keep (z : Int) (v : Value) (u u' : World) (h : rN z v u) (hb : Below u.heap.size u u') : rN z v u' := by
  obtain ⟨b, a, k, c, rfl, hn⟩ := h; exact ⟨b, a, k, c, rfl, hn.keep hb⟩
theorem rT.keep (z : Int) (v : Value) (u u' : World) (h : rT z v u) (hb : Below u.heap.size u u') : rT z v u' := by
  obtain ⟨b, a, k, c, b', a', k', c', rfl, hn⟩ := h; exact ⟨b, a, k, c, b', a', k', c', rfl, hn.keep hb⟩

end Go.Proofs.YtnfmcdfdbipeoaaGreatDoor
