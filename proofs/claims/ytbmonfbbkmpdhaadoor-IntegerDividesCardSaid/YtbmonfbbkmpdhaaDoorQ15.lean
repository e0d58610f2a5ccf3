/- Numbers: what the loop of inverse computes, and that its factors stay small; and: Walks of the numbers' functions: inverse. And: Numbers: the coefficients of Bezout as the program computes them, and that they stay small. -/
import Derived.Test.YtbmonfbbkmpdhaaDoorQ14
import Derived.Test.YtbmonfbbkmpdhaaDoorQ13
import Derived.Deep.LoopGhost
import Derived.Test.YtbmonfbbkmpdhaaDoorQ02
namespace Go.Proofs.YtbmonfbbkmpdhaaDoor
open Go.RowKit Go.Proofs.Num

theorem rz_pos {r x : Int} (hx : 0 < x) : 0 ≤ rz r x ∧ rz r x < x ∧ r = qz r x * x + rz r x := by
  obtain ⟨h1, h2, -⟩ := qz_spec r x (by omega)
  exact ⟨(h2 hx).1, (h2 hx).2, by rw [Int.mul_comm]; exact h1⟩

/-- The loop of inverse: rest, next, factor, next factor. -/
def inv (r x f g : Int) : Int × Int := if _h : x ≤ 0 then (r, f) else inv x (rz r x) g (f - qz r x * g)
termination_by x.toNat
decreasing_by
  have := rz_pos (r := r) (x := x) (by omega)
  omega

/-- What holds in each round. -/
structure InvB (m r x f g : Int) : Prop where
  r0 : 0 < r
  rm : r ≤ m
  x0 : 0 ≤ x
  xr : x < r
  sum : ((f.natAbs : Nat) : Int) * x + ((g.natAbs : Nat) : Int) * r = m
  sign : (0 ≤ f ∧ g ≤ 0) ∨ (f ≤ 0 ∧ 0 ≤ g)
  fm : ((f.natAbs : Nat) : Int) ≤ m
  gm : ((g.natAbs : Nat) : Int) ≤ m

theorem InvB.start {m x : Int} (hm : 0 < m) (h0 : 0 ≤ x) (hx : x < m) : InvB m m x 0 1 :=
  ⟨hm, Int.le_refl _, h0, hx, by simp, .inr ⟨Int.le_refl _, by omega⟩, by simp; omega, by simp; omega⟩

theorem InvB.next {m r x f g : Int} (h : InvB m r x f g) (hx : 0 < x) : InvB m x (rz r x) g (f - qz r x * g) := by
  obtain ⟨h1, h2, h3⟩ := rz_pos (r := r) hx
  have hr0 := h.r0
  have hrm := h.rm
  have hxr := h.xr
  have hq : 0 ≤ qz r x := by
    apply Int.not_lt.1
    intro hn
    have : qz r x * x ≤ -1 * x := Int.mul_le_mul_of_nonneg_right (by omega) (by omega)
    omega
  have habs : (((f - qz r x * g).natAbs : Nat) : Int) = ((f.natAbs : Nat) : Int) + qz r x * ((g.natAbs : Nat) : Int) := by
    rcases h.sign with ⟨s1, s2⟩ | ⟨s1, s2⟩
    · have e : qz r x * ((g.natAbs : Nat) : Int) = - (qz r x * g) := by
        rw [show ((g.natAbs : Nat) : Int) = -g by omega, Int.mul_neg]
      have : qz r x * g ≤ 0 := Int.mul_nonpos_of_nonneg_of_nonpos hq s2
      rw [e]; omega
    · have e : qz r x * ((g.natAbs : Nat) : Int) = qz r x * g := by
        rw [show ((g.natAbs : Nat) : Int) = g by omega]
      have : 0 ≤ qz r x * g := Int.mul_nonneg hq s2
      rw [e]; omega
  have hsum : ((g.natAbs : Nat) : Int) * rz r x + (((f - qz r x * g).natAbs : Nat) : Int) * x = m := by
    rw [habs, Int.add_mul]
    have e1 : ((g.natAbs : Nat) : Int) * r = ((g.natAbs : Nat) : Int) * (qz r x * x) + ((g.natAbs : Nat) : Int) * rz r x := by rw [← Int.mul_add, ← h3]
    have e2 : qz r x * ((g.natAbs : Nat) : Int) * x = ((g.natAbs : Nat) : Int) * (qz r x * x) := by
      rw [Int.mul_comm (qz r x), Int.mul_assoc]
    have := h.sum
    rw [e2]; omega
  refine ⟨hx, by omega, h1, h2, hsum, ?_, h.gm, ?_⟩
  · rcases h.sign with ⟨s1, s2⟩ | ⟨s1, s2⟩
    · have : qz r x * g ≤ 0 := Int.mul_nonpos_of_nonneg_of_nonpos hq s2
      exact .inr ⟨s2, by omega⟩
    · have : 0 ≤ qz r x * g := Int.mul_nonneg hq s2
      exact .inl ⟨s2, by omega⟩
  · have p1 : 0 ≤ ((g.natAbs : Nat) : Int) * rz r x := Int.mul_nonneg (by omega) h1
    have p2 : (((f - qz r x * g).natAbs : Nat) : Int) * 1 ≤ (((f - qz r x * g).natAbs : Nat) : Int) * x := Int.mul_le_mul_of_nonneg_left (by omega) (by omega)
    omega

end Go.Proofs.YtbmonfbbkmpdhaaDoor

namespace Go.Proofs.YtbmonfbbkmpdhaaDoor
open Go.RowKit Go.Proofs.Num

theorem Sm.mono {x m : Int} {k : Nat} (h : Sm m k) (hx : x.natAbs ≤ m.natAbs) : Sm x k := Nat.le_trans (dig_length_mono (by omega) hx) h

theorem InvB.qs {m r x f g : Int} (h : InvB m r x f g) (hx : 0 < x) : (qz r x).natAbs ≤ m.natAbs ∧ (qz r x * g).natAbs ≤ m.natAbs := by
  obtain ⟨h1, h2, h3⟩ := rz_pos (r := r) hx
  have hrm := h.rm
  have hr0 := h.r0
  have hq : 0 ≤ qz r x := by
    apply Int.not_lt.1
    intro hn
    have : qz r x * x ≤ -1 * x := Int.mul_le_mul_of_nonneg_right (by omega) (by omega)
    have := h.xr
    omega
  have h4 : qz r x * 1 ≤ qz r x * x := Int.mul_le_mul_of_nonneg_left (by omega) hq
  have h5 : qz r x * ((g.natAbs : Nat) : Int) ≤ r * ((g.natAbs : Nat) : Int) := Int.mul_le_mul_of_nonneg_right (by omega) (by omega)
  have h6 : 0 ≤ ((f.natAbs : Nat) : Int) * x := Int.mul_nonneg (by omega) (by omega)
  have h7 := h.sum
  rw [Int.mul_comm _ r] at h7
  refine ⟨by omega, ?_⟩
  have h8 : (((qz r x * g).natAbs : Nat) : Int) = qz r x * ((g.natAbs : Nat) : Int) := by
    rw [Int.natAbs_mul, Int.natCast_mul, Int.natAbs_of_nonneg hq]
  omega

/-- The four boxes of the loop of inverse: rest, factor, next, next factor. -/
def InvW (r6 r7 r9 r10 : Nat) (W : World) (m x0 : Int) (gk : Nat) (wr : World) : Prop :=
  ∃ (r x f g : Int) (b6 : Bool) (a6 : Option Addr) (k6 p6 : Nat) (b7 : Bool) (a7 : Option Addr) (k7 p7 : Nat) (b9 : Bool) (a9 : Option Addr) (k9 p9 : Nat) (b10 : Bool) (a10 : Option Addr) (k10 p10 : Nat),
    x.toNat ≤ gk ∧ InvB m r x f g ∧ inv r x f g = inv m x0 0 1 ∧ Box 73 wr r6 (.bool b6) (.slice a6 k6 p6) ∧ Box 73 wr r7 (.bool b7) (.slice a7 k7 p7) ∧ Box 73 wr r9 (.bool b9) (.slice a9 k9 p9) ∧ Box 73 wr r10 (.bool b10) (.slice a10 k10 p10) ∧
    Nm wr (.agg #[.bool b6, .slice a6 k6 p6]) r ∧ Nm wr (.agg #[.bool b7, .slice a7 k7 p7]) f ∧ Nm wr (.agg #[.bool b9, .slice a9 k9 p9]) x ∧ Nm wr (.agg #[.bool b10, .slice a10 k10 p10]) g ∧ Kept [r6, r7, r9, r10] W wr

set_option maxRecDepth 100000 in
set_option maxHeartbeats 6400000 in
theorem inverse_any (M : Nat) (hD : DivTo M) (v1 v2 : Value) (n m : Int) (w : World) (h1 : Nm w v1 n) (h2 : Nm w v2 m) (hm : 0 < m) (hmM : m.natAbs ≤ M) (hn : Sm n 1073741823) (hs : Sm m 1073741823) :
    Calls Tryd.prog 105 #[v1, v2] w (Gives2N w (inv m (rz n m) 0 1).1 (inv m (rz n m) 0 1).2) := by
  obtain ⟨b1, a1, k1, p1, rfl⟩ := h1.sh
  obtain ⟨b2, a2, k2, p2, rfl⟩ := h2.sh
  obtain ⟨W0, hW0, hA, hB, hR, hR2, hBl0, hsz0⟩ := boxes4 w (.bool b1) (.slice a1 k1 p1) (.bool b2) (.slice a2 k2 p2) (.bool false) (.slice none 0 0) (.bool false) (.slice none 0 0)
  obtain ⟨W, hW, hC, hE, hBl1, hsz1⟩ := boxes2 W0 (.bool b2) (.slice a2 k2 p2) (.bool false) (.slice none 0 0)
  rw [hsz0] at hC hE hsz1
  have HL : Hid (m.natAbs ≤ M ∧ Sm n 1073741823 ∧ Sm m 1073741823 ∧ 0 < m) := ⟨hmM, hn, hs, hm⟩
  have HG : Hid (Nm W (.agg #[.bool b1, .slice a1 k1 p1]) n ∧ Nm W (.agg #[.bool b2, .slice a2 k2 p2]) m) := ⟨(h1.keep hBl0).keep hBl1, (h2.keep hBl0).keep hBl1⟩
  have e1 := hB.c0; have e2 := hB.c1
  have f1 := (hA.keep hBl1).c0; have f2 := (hA.keep hBl1).c1; have f3 := (hB.keep hBl1).c0; have f4 := (hB.keep hBl1).c1
  have HR := Lib.hid (hR.keep hBl1)
  have HR2 := Lib.hid (hR2.keep hBl1)
  have HC := Lib.hid hC
  have HE := Lib.hid hE
  have HBl : Hid (Below w.heap.size w W) := hBl0.trans (hBl1.mono hBl0.size)
  have HZ := Lib.hid hsz1
  rw [hW0] at hW e1 e2
  have HW := Lib.hid hW
  rw [hW] at f1 f2 f3 f4
  have HD := Lib.hid hD
  clear h1 h2 hm hmM hn hs hW0 hA hB hR hR2 hBl0 hsz0 hW hC hE hBl1 hsz1 hD
  go_enter Tryd.func105, Tryd.ntmps105
  go_wp2_with fail
  rw [← HW.out]
  refine (ndivide_any M HD.out _ _ n m _ HG.out.1 HG.out.2 (by have := HL.out.2.2.2; omega) HL.out.1 HL.out.2.1 HL.out.2.2.1).mono ?_
  rintro e w1 ⟨vq, vx, rfl, hq, hx, hb1⟩
  obtain ⟨b3, a3, k3, p3, rfl⟩ := hq.sh
  obtain ⟨b4, a4, k4, p4, rfl⟩ := hx.sh
  clear e1 e2 f1 f2 f3 f4
  obtain ⟨W2, hW2, hQ, hX, hBl2, hsz2⟩ := boxes2 w1 (.bool b3) (.slice a3 k3 p3) (.bool b4) (.slice a4 k4 p4)
  obtain ⟨W3, hW3⟩ : ∃ W3, W3 = (W2.alloc (.cells #[.int .u64 1] 102)).alloc (.cells #[.bool false, .slice (some ⟨w1.heap.size + 1 + 1, 0, none⟩) 1 1] 73) := ⟨_, rfl⟩
  have hb23 : Below W2.heap.size W2 W3 := by rw [hW3]; exact (below1 W2 _).alloc (by simp) _
  have hF : Box 73 W3 (w1.heap.size + 1 + 1 + 1) (.bool false) (.slice (some ⟨w1.heap.size + 1 + 1, 0, none⟩) 1 1) := by
    have := Box.new 73 (W2.alloc (.cells #[.int .u64 1] 102)) (.bool false) (.slice (some ⟨w1.heap.size + 1 + 1, 0, none⟩) 1 1)
    rw [World.size_alloc, hsz2] at this
    rw [hW3]; exact this
  have hone : Nm W3 (.agg #[.bool false, .slice (some ⟨w1.heap.size + 1 + 1, 0, none⟩) 1 1]) 1 := by
    have := nm_one W2
    rw [hsz2] at this
    rw [hW3]; exact this.keep (below1 _ _)
  have hb13 : Below W.heap.size W W3 := hb1.trans ((hBl2.trans (hb23.mono hBl2.size)).mono hb1.size)
  have hC3 := HC.out.keep hb13
  have hE3 := HE.out.keep hb13
  have hX3 := hX.keep hb23
  have hn9 : Nm W3 (.agg #[.bool b4, .slice a4 k4 p4]) (rz n m) := (hx.keep hBl2).keep hb23
  have hn6 : Nm W3 (.agg #[.bool b2, .slice a2 k2 p2]) m := HG.out.2.keep hb13
  have hn7 : Nm W3 (.agg #[.bool false, .slice none 0 0]) 0 := nm_zero W3 none 0
  have hr3 := HR.out.keep hb13
  have hr4 := HR2.out.keep hb13
  have hK : Kept [w.heap.size + 1 + 1 + 1 + 1, w.heap.size + 1 + 1 + 1 + 1 + 1, w1.heap.size + 1, w1.heap.size + 1 + 1 + 1] W3 W3 :=
    Kept.start (by intro r hr; simp at hr; rcases hr with rfl | rfl | rfl | rfl; exact ⟨_, _, hC3⟩; exact ⟨_, _, hE3⟩; exact ⟨_, _, hX3⟩; exact ⟨_, _, hF⟩)
  have hstart : InvW (w.heap.size + 1 + 1 + 1 + 1) (w.heap.size + 1 + 1 + 1 + 1 + 1) (w1.heap.size + 1) (w1.heap.size + 1 + 1 + 1) W3 m (rz n m) (rz n m).toNat W3 :=
    ⟨m, rz n m, 0, 1, _, _, _, _, _, _, _, _, _, _, _, _, _, _, _, _, Nat.le_refl _, InvB.start HL.out.2.2.2 (rz_pos HL.out.2.2.2).1 (rz_pos HL.out.2.2.2).2.1, rfl, hC3, hE3, hX3, hF, hn6, hn7, hn9, hone, hK⟩
  have HST := Lib.hid hstart
  have HRR : Hid (Box 73 W3 (w.heap.size + 1 + 1) (.bool false) (.slice none 0 0) ∧ Box 73 W3 (w.heap.size + 1 + 1 + 1) (.bool false) (.slice none 0 0)) := ⟨hr3, hr4⟩
  have HB3 : Hid (Below w.heap.size w W3) := HBl.out.trans (hb13.mono HBl.out.size)
  have hs1 : w.heap.size + 1 + 1 + 1 + 1 + 1 + 1 ≤ w1.heap.size := by rw [← HZ.out]; exact hb1.size
  rw [hW2] at hW3
  have HW3 := Lib.hid hW3
  obtain ⟨x0, hx0⟩ : ∃ x0, x0 = rz n m := ⟨_, rfl⟩
  rw [← hx0] at HST ⊢
  have HX0 := Lib.hid hx0
  clear hW2 hQ hX hBl2 hsz2 hW3 hb23 hF hone hb13 hC3 hE3 hX3 hn9 hn6 hn7 hr3 hr4 hK hstart hq hx hb1 hx0
  go_wp2
  rw [← HW3.out]
  go_loopg [11] x0.toNat (fun gk p11 wr => InvW (w.heap.size + 1 + 1 + 1 + 1) (w.heap.size + 1 + 1 + 1 + 1 + 1) (w1.heap.size + 1) (w1.heap.size + 1 + 1 + 1) W3 m x0 gk wr)
  case atStart => exact HST.out
  case round =>
    obtain ⟨r, x, f, g, b6, a6, k6, p6, b7, a7, k7, p7, b9, a9, k9, p9, b10, a10, k10, p10, hgk, hI, hinv, h6, h7, h9, h10, n6, n7, n9, n10, hK⟩ := hrel
    have c0 := h6.c0; have c1 := h6.c1; have d0 := h7.c0; have d1 := h7.c1; have i0 := h9.c0; have i1 := h9.c1
    have HN6 := Lib.hid n6
    have HN7 := Lib.hid n7
    have HN9 := Lib.hid n9
    have HN10 := Lib.hid n10
    have H6 := Lib.hid h6
    have H7 := Lib.hid h7
    have H9 := Lib.hid h9
    have H10 := Lib.hid h10
    have HI := Lib.hid hI
    have HV := Lib.hid hinv
    have HK := Lib.hid hK
    by_cases hx : 0 < x
    · have hsg : sgn x = 1 := sgn_pos hx
      have HXP := Lib.hid hx
      have hnx := hI.next hx
      have HNX := Lib.hid hnx
      clear n6 n7 n9 n10 h6 h7 h9 h10 hI hinv hK hx hnx d0 d1
      go_wp2_with fail
      refine (nsign_any _ x _ HN9.out).mono ?_
      rintro e w2 ⟨he, hb2⟩
      rw [hsg] at he
      subst he
      clear c0 c1 i0 i1 hsg
      have c0 := (H6.out.keep hb2).c0; have c1 := (H6.out.keep hb2).c1; have i0 := (H9.out.keep hb2).c0; have i1 := (H9.out.keep hb2).c1
      go_wp2_with fail
      refine (ndivide_any M HD.out _ _ r x _ (HN6.out.keep hb2) (HN9.out.keep hb2) (by have := HXP.out; omega) (by have := HI.out.xr; have := HI.out.rm; have := HI.out.x0; have := HL.out.1; omega)
        (Sm.mono HL.out.2.2.1 (by have := HI.out.r0; have := HI.out.rm; omega)) (Sm.mono HL.out.2.2.1 (by have := HI.out.x0; have := HI.out.xr; have := HI.out.rm; omega))).mono ?_
      rintro e w3 ⟨vq, vr, rfl, hq, hr, hb3⟩
      obtain ⟨bq, aq, kq, pq, rfl⟩ := hq.sh
      obtain ⟨br, ar, kr, pr, rfl⟩ := hr.sh
      obtain ⟨W5, hW5, hQ5, hR5, hBl5, hsz5⟩ := boxes2 w3 (.bool bq) (.slice aq kq pq) (.bool br) (.slice ar kr pr)
      have hb25 : Below wr.heap.size wr W5 := by
        have h5 := hb2.trans (hb3.mono hb2.size)
        exact h5.trans (hBl5.mono h5.size)
      have hw13 : w1.heap.size + 1 + 1 + 1 + 1 ≤ w3.heap.size := by
        have h1 := HK.out.size
        have h2 := HB3.out.size
        have h3 := hb2.size
        have h4 := hb3.size
        have h5 : W3.heap.size = w1.heap.size + 1 + 1 + 1 + 1 := by rw [HW3.out]; simp
        omega
      have h65 := H6.out.keep hb25
      have h75 := H7.out.keep hb25
      have h95 := H9.out.keep hb25
      have h105 := H10.out.keep hb25
      have H65 := Lib.hid h65
      have H75 := Lib.hid h75
      have H95 := Lib.hid h95
      have H105 := Lib.hid h105
      have HQ5 := Lib.hid hQ5
      have HR5 := Lib.hid hR5
      have HNS : Hid (Nm W5 (.agg #[.bool b7, .slice a7 k7 p7]) f ∧ Nm W5 (.agg #[.bool b9, .slice a9 k9 p9]) x ∧ Nm W5 (.agg #[.bool b10, .slice a10 k10 p10]) g ∧ Nm W5 (.agg #[.bool bq, .slice aq kq pq]) (qz r x) ∧ Nm W5 (.agg #[.bool br, .slice ar kr pr]) (rz r x)) :=
        ⟨HN7.out.keep hb25, HN9.out.keep hb25, HN10.out.keep hb25, hq.keep hBl5, hr.keep hBl5⟩
      have HK5 := Lib.hid (HK.out.step hb25)
      have HW5 := Lib.hid hW5
      clear c0 c1 i0 i1
      have c0 := h65.c0; have c1 := h65.c1; have c2 := h65.f0 0; have c3 := h65.f0 1
      have i0 := h95.c0; have i1 := h95.c1; have i2 := h95.f0 0; have i3 := h95.f0 1
      have l0 := hR5.c0; have l1 := hR5.c1
      clear h65 h75 h95 h105 hQ5 hR5 hW5 hb25 hBl5 hsz5 hq hr hb2 hb3
      go_wp2
      rw [← HW5.out]
      have q1 : ¬ (w.heap.size + 1 + 1 + 1 + 1 = w1.heap.size + 1) := by omega
      have q2 : ¬ (w.heap.size + 1 + 1 + 1 + 1 = w3.heap.size + 1) := by omega
      have q3 : ¬ (w1.heap.size + 1 = w3.heap.size + 1) := by omega
      have q4 : ¬ (w1.heap.size + 1 = w.heap.size + 1 + 1 + 1 + 1) := by omega
      have q5 : ¬ (w3.heap.size + 1 = w.heap.size + 1 + 1 + 1 + 1) := by omega
      have q6 : ¬ (w3.heap.size + 1 = w1.heap.size + 1) := by omega
      have q7 : ¬ (w1.heap.size = w.heap.size + 1 + 1 + 1) := by omega
      have q8 : ¬ (w3.heap.size = w.heap.size + 1 + 1 + 1) := by omega
      have q9 : ¬ (w3.heap.size = w1.heap.size) := by omega
      have q10 : ¬ (w.heap.size + 1 + 1 + 1 = w1.heap.size) := by omega
      have q11 : ¬ (w.heap.size + 1 + 1 + 1 = w3.heap.size) := by omega
      have q12 : ¬ (w1.heap.size = w3.heap.size) := by omega
      go_region
      obtain ⟨V, hV⟩ : ∃ V, V = ((((W5.setCell ⟨w.heap.size + 1 + 1 + 1 + 1, 0, none⟩ (.bool b9)).setCell ⟨w.heap.size + 1 + 1 + 1 + 1, 1, none⟩ (.slice a9 k9 p9)).setCell ⟨w1.heap.size + 1, 0, none⟩ (.bool br)).setCell ⟨w1.heap.size + 1, 1, none⟩ (.slice ar kr pr)).drew := ⟨_, rfl⟩
      rw [← hV]
      have hr9' := (H95.out.other ⟨w.heap.size + 1 + 1 + 1 + 1, 0, none⟩ (.bool b9) (by simp; omega)).other ⟨w.heap.size + 1 + 1 + 1 + 1, 1, none⟩ (.slice a9 k9 p9) (by simp; omega)
      have kp : ∀ v z, Nm W5 v z → Nm V v z := fun v z h => by rw [hV]; exact (Nm.stores (Nm.stores h H65.out _ _) hr9' _ _).keep (Below.refl _ _).drew
      have bx : ∀ t v1 v2, Box 73 W5 t v1 v2 → t ≠ w.heap.size + 1 + 1 + 1 + 1 → t ≠ w1.heap.size + 1 → Box 73 V t v1 v2 := fun t v1 v2 h h1 h2 => by
        rw [hV]; exact ((((h.other _ _ (by simpa using h1)).other _ _ (by simpa using h1)).other _ _ (by simpa using h2)).other _ _ (by simpa using h2)).drew
      have V7 := Lib.hid (bx _ _ _ H75.out (by omega) (by omega))
      have V10 := Lib.hid (bx _ _ _ H105.out (by omega) (by omega))
      have VQ := Lib.hid (bx _ _ _ HQ5.out (by omega) (by omega))
      have V6 : Hid (Box 73 V (w.heap.size + 1 + 1 + 1 + 1) (.bool b9) (.slice a9 k9 p9)) := by
        unfold Hid; rw [hV]
        exact ((((H65.out.set0 _).set1 _).other _ _ (by simp; omega)).other _ _ (by simp; omega)).drew
      have V9 : Hid (Box 73 V (w1.heap.size + 1) (.bool br) (.slice ar kr pr)) := by
        unfold Hid; rw [hV]
        exact ((hr9'.set0 _).set1 _).drew
      have NV : Hid (Nm V (.agg #[.bool b7, .slice a7 k7 p7]) f ∧ Nm V (.agg #[.bool b9, .slice a9 k9 p9]) x ∧ Nm V (.agg #[.bool b10, .slice a10 k10 p10]) g ∧ Nm V (.agg #[.bool bq, .slice aq kq pq]) (qz r x) ∧ Nm V (.agg #[.bool br, .slice ar kr pr]) (rz r x)) :=
        ⟨kp _ _ HNS.out.1, kp _ _ HNS.out.2.1, kp _ _ HNS.out.2.2.1, kp _ _ HNS.out.2.2.2.1, kp _ _ HNS.out.2.2.2.2⟩
      have KV : Hid (Kept [w.heap.size + 1 + 1 + 1 + 1, w.heap.size + 1 + 1 + 1 + 1 + 1, w1.heap.size + 1, w1.heap.size + 1 + 1 + 1] W3 V) := by
        unfold Hid; rw [hV]; exact (Kept.store (Kept.store HK5.out _ _ _ (by simp)) _ _ _ (by simp)).drew
      have SM : Hid (Sm (qz r x) 2147483647 ∧ Sm g 2147483647 ∧ Sm f 4294967295 ∧ Sm (qz r x * g) 4294967295) := by
        obtain ⟨q1, q2⟩ := HI.out.qs HXP.out
        have hm1 := HL.out.2.2.1
        exact ⟨Nat.le_trans (Sm.mono hm1 q1) (by omega), Nat.le_trans (Sm.mono hm1 (by have := HI.out.gm; omega)) (by omega), Nat.le_trans (Sm.mono hm1 (by have := HI.out.fm; omega)) (by omega), Nat.le_trans (Sm.mono hm1 q2) (by omega)⟩
      clear hV kp bx c0 c1 c2 c3 i0 i1 i2 i3 l0 l1 hr9'
      go_wp2
      refine wp_region_late (S := fun u => Below V.heap.size V u) (X := [6, 7]) (by kernel_rfl) ?_
      refine wpAnyL_take (i := 0) (v := .agg #[.bool b10, .slice a10 k10 p10]) rfl (by kernel_rfl) (by kernel_rfl) (by kernel_rfl) (by kernel_rfl) (by kernel_rfl) (fun _ _ _ h => h) (Below.refl _ _).drew (Or.inl ⟨by rfl, fun u hu => ?_⟩) ?_
      · have t0 := (V10.out.keep hu).c0; have t1 := (V10.out.keep hu).c1
        go_simp
      simp only [Act.put, List.setIfInBounds_toArray]
      refine wpAnyL_take (i := 1) (v := .agg #[.bool b7, .slice a7 k7 p7]) rfl (by kernel_rfl) (by kernel_rfl) (by kernel_rfl) (by kernel_rfl) (by kernel_rfl) (fun _ _ _ h => h) (Below.refl _ _).drew (Or.inl ⟨by rfl, fun u hu => ?_⟩) ?_
      · have t0 := (V7.out.keep hu).c0; have t1 := (V7.out.keep hu).c1
        go_simp
      simp only [Act.put]
      refine wpAnyL_take (i := 2) (v := .agg #[.bool bq, .slice aq kq pq]) rfl (by kernel_rfl) (by kernel_rfl) (by kernel_rfl) (by kernel_rfl) (by kernel_rfl) (fun _ _ _ h => h) (Below.refl _ _).drew (Or.inl ⟨by rfl, fun u hu => ?_⟩) ?_
      · have t0 := (VQ.out.keep hu).c0; have t1 := (VQ.out.keep hu).c1
        go_simp
      simp only [Act.put]
      refine wpAnyL_take (i := 3) (v := .agg #[.bool b10, .slice a10 k10 p10]) rfl (by kernel_rfl) (by kernel_rfl) (by kernel_rfl) (by kernel_rfl) (by kernel_rfl) (fun _ _ _ h => h) (Below.refl _ _).drew (Or.inl ⟨by rfl, fun u hu => ?_⟩) ?_
      · have t0 := (V10.out.keep hu).c0; have t1 := (V10.out.keep hu).c1
        go_simp
      simp only [Act.put]
      refine wpAnyL_one (i := 4) (by kernel_rfl) rfl (fun K hK => ?_)
      go_simp
      go_at_call 70
      refine (ntimes_any _ _ (qz r x) g _ (NV.out.2.2.2.1.keep (Below.refl _ _).drew) (NV.out.2.2.1.keep (Below.refl _ _).drew) SM.out.1 SM.out.2.1).mono ?_
      rintro e w7 ⟨v7, rfl, hn7, hb7⟩
      obtain ⟨b77, a77, k77, p77, rfl⟩ := hn7.sh
      have hb77 : Below V.heap.size V w7 := (Below.refl _ _).drew.trans hb7
      show K _ _
      refine hK.out _ _ (fun _ _ => hb77) ?_
      clear hK K
      try simp only [Act.put]
      refine wpAnyL_one (i := 5) (by kernel_rfl) rfl (fun K hK => ?_)
      go_simp
      go_at_call 62
      refine (nminus_any _ _ f (qz r x * g) _ (NV.out.1.keep hb77) hn7 SM.out.2.2.1 SM.out.2.2.2).mono ?_
      rintro e w8 ⟨v8, rfl, hn8, hb8⟩
      obtain ⟨b88, a88, k88, p88, rfl⟩ := hn8.sh
      have hb88 : Below V.heap.size V w8 := hb77.trans (hb8.mono hb77.size)
      show K _ _
      refine hK.out _ _ (fun _ _ => hb88) ?_
      clear hK K
      try simp only [Act.put]
      have V77 := V7.out.keep hb88
      have V107 := V10.out.keep hb88
      have d0 := V77.c0; have d1 := V77.c1; have d2 := V77.f0 0; have d3 := V77.f0 1
      have j0 := V107.c0; have j1 := V107.c1; have j2 := V107.f0 0; have j3 := V107.f0 1
      have V78 := Lib.hid V77
      have V108 := Lib.hid V107
      clear V77 V107
      refine wpAnyL_one (i := 6) (by kernel_rfl) rfl (fun K hK => ?_)
      go_simp
      refine hK.out _ _ (fun h _ => absurd (by simp) h) ?_
      clear hK K
      refine wpAnyL_one (i := 7) (by kernel_rfl) rfl (fun K hK => ?_)
      go_simp
      refine hK.out _ _ (fun h _ => absurd (by simp) h) ?_
      clear hK K
      refine wpAnyL_done (by kernel_rfl) ?_ _
      obtain ⟨WF, hWF⟩ : ∃ WF, WF = (((w8.setCell ⟨w.heap.size + 1 + 1 + 1 + 1 + 1, 0, none⟩ (.bool b10)).setCell ⟨w.heap.size + 1 + 1 + 1 + 1 + 1, 1, none⟩ (.slice a10 k10 p10)).setCell ⟨w1.heap.size + 1 + 1 + 1, 0, none⟩ (.bool b88)).setCell ⟨w1.heap.size + 1 + 1 + 1, 1, none⟩ (.slice a88 k88 p88) := ⟨_, rfl⟩
      rw [← hWF]
      have g10' := (V108.out.other ⟨w.heap.size + 1 + 1 + 1 + 1 + 1, 0, none⟩ (.bool b10) (by simp; omega)).other ⟨w.heap.size + 1 + 1 + 1 + 1 + 1, 1, none⟩ (.slice a10 k10 p10) (by simp; omega)
      have kp : ∀ v z, Nm w8 v z → Nm WF v z := fun v z h => by rw [hWF]; exact Nm.stores (Nm.stores h V78.out _ _) g10' _ _
      have bx : ∀ t v1 v2, Box 73 w8 t v1 v2 → t ≠ w.heap.size + 1 + 1 + 1 + 1 + 1 → t ≠ w1.heap.size + 1 + 1 + 1 → Box 73 WF t v1 v2 := fun t v1 v2 h h1 h2 => by
        rw [hWF]; exact (((h.other _ _ (by simpa using h1)).other _ _ (by simpa using h1)).other _ _ (by simpa using h2)).other _ _ (by simpa using h2)
      have F6 := bx _ _ _ (V6.out.keep hb88) (by omega) (by omega)
      have F9 := bx _ _ _ (V9.out.keep hb88) (by omega) (by omega)
      have F7 : Box 73 WF (w.heap.size + 1 + 1 + 1 + 1 + 1) (.bool b10) (.slice a10 k10 p10) := by
        rw [hWF]
        exact (((V78.out.set0 _).set1 _).other _ _ (by simp; omega)).other _ _ (by simp; omega)
      have F10 : Box 73 WF (w1.heap.size + 1 + 1 + 1) (.bool b88) (.slice a88 k88 p88) := by
        rw [hWF]
        exact (g10'.set0 _).set1 _
      have KF : Kept [w.heap.size + 1 + 1 + 1 + 1, w.heap.size + 1 + 1 + 1 + 1 + 1, w1.heap.size + 1, w1.heap.size + 1 + 1 + 1] W3 WF := by
        rw [hWF]; exact Kept.store (Kept.store (KV.out.step hb88) _ _ _ (by simp)) _ _ _ (by simp)
      have hlt : (rz r x).toNat < x.toNat := by
        have := rz_pos (r := r) HXP.out
        have := HXP.out
        omega
      have hgk' : (rz r x).toNat < gk := by omega
      have hend : inv x (rz r x) g (f - qz r x * g) = inv m x0 0 1 := by
        rw [← HV.out]
        conv => rhs; rw [inv]
        rw [dif_neg (by have := HXP.out; omega)]
      have HF : Hid (InvW (w.heap.size + 1 + 1 + 1 + 1) (w.heap.size + 1 + 1 + 1 + 1 + 1) (w1.heap.size + 1) (w1.heap.size + 1 + 1 + 1) W3 m x0 (rz r x).toNat WF) :=
        ⟨x, rz r x, g, f - qz r x * g, _, _, _, _, _, _, _, _, _, _, _, _, _, _, _, _, Nat.le_refl _, HNX.out, hend, F6, F7, F9, F10, kp _ _ (NV.out.2.1.keep hb88), kp _ _ (NV.out.2.2.1.keep hb88), kp _ _ (NV.out.2.2.2.2.keep hb88), kp _ _ hn8, KF⟩
      clear hWF g10' kp bx F6 F9 F7 F10 KF hlt hend d0 d1 d2 d3 j0 j1 j2 j3
      go_wp2
      go_roundg (rz r x).toNat
      case measure => exact hgk'
      case rel => exact HF.out
    · have hx0 : x = 0 := by have := hI.x0; omega
      have hsg : sgn x = 0 := by rw [hx0]; rfl
      have hend : inv m x0 0 1 = (r, f) := by rw [← hinv, inv, dif_pos (by omega)]
      have HEND := Lib.hid hend
      have hr4 := hK.box HRR.out.1 (by simp; omega)
      have hr5 := hK.box HRR.out.2 (by simp; omega)
      have y0 := hr4.c0; have y1 := hr4.c1; have y2 := hr4.f0 0; have y3 := hr4.f0 1
      have z0 := hr5.c0; have z1 := hr5.c1; have z2 := hr5.f0 0; have z3 := hr5.f0 1
      have HR4 := Lib.hid hr4
      have HR5 := Lib.hid hr5
      clear n6 n7 n9 n10 h6 h7 h9 h10 hI hinv hK hx hend hr4 hr5 hx0
      go_wp2_with fail
      refine (nsign_any _ x _ HN9.out).mono ?_
      rintro e w2 ⟨he, hb2⟩
      rw [hsg] at he
      subst he
      have c0' := (H6.out.keep hb2).c0; have c1' := (H6.out.keep hb2).c1; have d0' := (H7.out.keep hb2).c0; have d1' := (H7.out.keep hb2).c1
      have R4 := Lib.hid (HR4.out.keep hb2)
      have R5 := Lib.hid (HR5.out.keep hb2)
      have N6 := Lib.hid (HN6.out.keep hb2)
      have N7 := Lib.hid (HN7.out.keep hb2)
      have BW : Hid (Below w.heap.size w w2) := by
        have h5 := HB3.out.trans (HK.out.below HB3.out.size (by simp; omega))
        exact h5.trans (hb2.mono h5.size)
      clear y0 y1 y2 y3 z0 z1 z2 z3 c0 c1 d0 d1 i0 i1 hsg hb2
      have y0 := R4.out.c0; have y1 := R4.out.c1; have y2 := R4.out.f0 0; have y3 := R4.out.f0 1
      have z0 := R5.out.c0; have z1 := R5.out.c1; have z2 := R5.out.f0 0; have z3 := R5.out.f0 1
      go_wp2
      go_region
      go_wp2
      have hB2 := (R5.out.other ⟨w.heap.size + 1 + 1, 0, none⟩ (.bool b6) (by simp)).other ⟨w.heap.size + 1 + 1, 1, none⟩ (.slice a6 k6 p6) (by simp)
      refine bodyPost_ret (v := .tuple #[.agg #[.bool b6, .slice a6 k6 p6], .agg #[.bool b7, .slice a7 k7 p7]]) (by simp [results, Tryd.results105, go_sem, y0, y1, z0, z1]) rfl
        ⟨_, _, rfl, ?_, ?_, ?_⟩
      · rw [← HX0.out, HEND.out]; exact (Nm.stores (Nm.stores N6.out R4.out _ _) hB2 _ _).keep (Below.refl _ _).drew
      · rw [← HX0.out, HEND.out]; exact (Nm.stores (Nm.stores N7.out R4.out _ _) hB2 _ _).keep (Below.refl _ _).drew
      · exact ((((BW.out.setCell (by simp; omega) _).setCell (by simp; omega) _).setCell (by simp; omega) _).setCell (by simp; omega) _).drew

end Go.Proofs.YtbmonfbbkmpdhaaDoor

namespace Go.Proofs.YtbmonfbbkmpdhaaDoor
open Go.RowKit Go.Proofs.Num

theorem inv_stop {r f g : Int} : inv r 0 f g = (r, f) := by rw [inv, dif_pos (by omega)]
theorem inv_go {r x f g : Int} (h : 0 < x) : inv r x f g = inv x (rz r x) g (f - qz r x * g) := by rw [inv, dif_neg (by omega)]

theorem inv_facts (m : Int) : ∀ (k : Nat) (r x f g : Int), x.toNat ≤ k → InvB m r x f g → 0 < (inv r x f g).1 ∧ (inv r x f g).1 ≤ m ∧ (inv r x f g).2.natAbs ≤ m.natAbs := by
  intro k
  induction k with
  | zero =>
    intro r x f g hk h
    obtain rfl : x = 0 := by have := h.x0; omega
    rw [inv_stop]
    exact ⟨h.r0, h.rm, by have := h.fm; have := h.r0; have := h.rm; omega⟩
  | succ k ih =>
    intro r x f g hk h
    by_cases hx : 0 < x
    · rw [inv_go hx]
      exact ih _ _ _ _ (by have := rz_pos (r := r) hx; omega) (h.next hx)
    · obtain rfl : x = 0 := by have := h.x0; omega
      rw [inv_stop]
      exact ⟨h.r0, h.rm, by have := h.fm; have := h.r0; have := h.rm; omega⟩

/-- The greatest common divisor and the coefficients. -/
def bez (n m : Int) : Int × Int × Int :=
  if m = 0 then (((n.natAbs : Nat) : Int), sgn n, 0)
  else
    ((inv ((m.natAbs : Nat) : Int) (rz n ((m.natAbs : Nat) : Int)) 0 1).1,
     rz (inv ((m.natAbs : Nat) : Int) (rz n ((m.natAbs : Nat) : Int)) 0 1).2 (qz ((m.natAbs : Nat) : Int) (inv ((m.natAbs : Nat) : Int) (rz n ((m.natAbs : Nat) : Int)) 0 1).1),
     qz ((inv ((m.natAbs : Nat) : Int) (rz n ((m.natAbs : Nat) : Int)) 0 1).1 - n * rz (inv ((m.natAbs : Nat) : Int) (rz n ((m.natAbs : Nat) : Int)) 0 1).2 (qz ((m.natAbs : Nat) : Int) (inv ((m.natAbs : Nat) : Int) (rz n ((m.natAbs : Nat) : Int)) 0 1).1)) m)

theorem Sm.lt {x : Int} {k : Nat} (h : Sm x k) : x.natAbs < 1000000000 ^ k :=
  Nat.lt_of_lt_of_le (lt_pow_dig (by omega) _) (Nat.pow_le_pow_right (by omega) h)
theorem Sm.of {x : Int} {k : Nat} (h : x.natAbs < 1000000000 ^ k) : Sm x k := dig_length_le (by omega) k _ h
theorem Sm.mul {x y : Int} {j k : Nat} (h1 : Sm x j) (h2 : Sm y k) : Sm (x * y) (j + k) := by
  apply Sm.of
  rw [Int.natAbs_mul, Nat.pow_add]
  exact Nat.mul_lt_mul_of_lt_of_le h1.lt (Nat.le_of_lt h2.lt) (Nat.pow_pos (by omega))
theorem Sm.sub {x y : Int} {k : Nat} (h1 : Sm x k) (h2 : Sm y k) : Sm (x - y) (k + 1) := by
  apply Sm.of
  have a := h1.lt
  have b := h2.lt
  rw [Nat.pow_succ]
  obtain ⟨C, hC⟩ : ∃ C, C = 1000000000 ^ k := ⟨_, rfl⟩
  rw [← hC] at a b ⊢
  omega
theorem Sm.up {x : Int} {j k : Nat} (h : Sm x j) (hk : j ≤ k) : Sm x k := Nat.le_trans h hk

/-- What the steps of the coefficients lean on. -/
structure CoefB (n m d x q z : Int) : Prop where
  d0 : 0 < d
  dm : d ≤ ((m.natAbs : Nat) : Int)
  xm : x.natAbs ≤ m.natAbs
  q0 : 0 < q
  qm : q ≤ ((m.natAbs : Nat) : Int)
  z0 : 0 ≤ z
  zm : z < ((m.natAbs : Nat) : Int)

theorem coefB {n m : Int} (hm : m ≠ 0) :
    CoefB n m (inv ((m.natAbs : Nat) : Int) (rz n ((m.natAbs : Nat) : Int)) 0 1).1 (inv ((m.natAbs : Nat) : Int) (rz n ((m.natAbs : Nat) : Int)) 0 1).2
      (qz ((m.natAbs : Nat) : Int) (inv ((m.natAbs : Nat) : Int) (rz n ((m.natAbs : Nat) : Int)) 0 1).1)
      (rz (inv ((m.natAbs : Nat) : Int) (rz n ((m.natAbs : Nat) : Int)) 0 1).2 (qz ((m.natAbs : Nat) : Int) (inv ((m.natAbs : Nat) : Int) (rz n ((m.natAbs : Nat) : Int)) 0 1).1)) := by
  have hmm : 0 < ((m.natAbs : Nat) : Int) := by omega
  have hr := rz_pos (r := n) hmm
  obtain ⟨h1, h2, h3⟩ := inv_facts _ _ _ _ _ _ (Nat.le_refl _) (InvB.start hmm hr.1 hr.2.1)
  generalize (inv ((m.natAbs : Nat) : Int) (rz n ((m.natAbs : Nat) : Int)) 0 1).1 = d at *
  generalize (inv ((m.natAbs : Nat) : Int) (rz n ((m.natAbs : Nat) : Int)) 0 1).2 = x at *
  obtain ⟨e1, e2, e3⟩ := rz_pos (r := ((m.natAbs : Nat) : Int)) h1
  have hq : 0 < qz ((m.natAbs : Nat) : Int) d := by
    apply Int.not_le.1
    intro hn
    have : qz ((m.natAbs : Nat) : Int) d * d ≤ 0 * d := Int.mul_le_mul_of_nonneg_right hn (by omega)
    omega
  have hq2 : qz ((m.natAbs : Nat) : Int) d ≤ ((m.natAbs : Nat) : Int) := by
    have : qz ((m.natAbs : Nat) : Int) d * 1 ≤ qz ((m.natAbs : Nat) : Int) d * d := Int.mul_le_mul_of_nonneg_left (by omega) (by omega)
    omega
  obtain ⟨f1, f2, f3⟩ := rz_pos (r := x) hq
  exact ⟨h1, h2, by omega, hq, hq2, f1, by omega⟩

theorem boxes5 (w : World) (x1 y1 x2 y2 x3 y3 x4 y4 x5 y5 : Value) : ∃ W, W = ((((w.alloc (.cells #[x1, y1] 73)).alloc (.cells #[x2, y2] 73)).alloc (.cells #[x3, y3] 73)).alloc (.cells #[x4, y4] 73)).alloc (.cells #[x5, y5] 73) ∧
    Box 73 W w.heap.size x1 y1 ∧ Box 73 W (w.heap.size + 1) x2 y2 ∧ Box 73 W (w.heap.size + 1 + 1) x3 y3 ∧ Box 73 W (w.heap.size + 1 + 1 + 1) x4 y4 ∧ Box 73 W (w.heap.size + 1 + 1 + 1 + 1) x5 y5 ∧ Below w.heap.size w W ∧ W.heap.size = w.heap.size + 1 + 1 + 1 + 1 + 1 := by
  obtain ⟨W, hW, h1, h2, h3, h4, hb, hz⟩ := boxes4 w x1 y1 x2 y2 x3 y3 x4 y4
  refine ⟨_, by rw [← hW], h1.alloc _, h2.alloc _, h3.alloc _, h4.alloc _, ?_, hb.alloc (by omega) _, by rw [World.size_alloc, hz]⟩
  have := Box.new 73 W x5 y5
  rwa [hz] at this

def Gives3N (w : World) (a b c : Int) (e : Ending) (w' : World) : Prop := ∃ v1 v2 v3, e = .returned (.tuple #[v1, v2, v3]) ∧ Nm w' v1 a ∧ Nm w' v2 b ∧ Nm w' v3 c ∧ Below w.heap.size w w'

theorem nm_abs {w : World} {b : Bool} {a : Option Addr} {k p : Nat} {z : Int} (h : Nm w (.agg #[.bool b, .slice a k p]) z) : Nm w (.agg #[.bool false, .slice a k p]) ((z.natAbs : Nat) : Int) := by
  obtain ⟨-, g, -, -⟩ := h.parts
  exact Nm.mk' (by simp) (by rw [Int.natAbs_natCast]; exact g)

/-- What stores into three boxes of two cells leave of a number. -/
theorem Nm.stores3 {w : World} {v : Value} {z : Int} {r1 r2 r3 : Nat} {x1 y1 x2 y2 x3 y3 : Value} (h : Nm w v z) (h1 : Box 73 w r1 x1 y1) (h2 : Box 73 w r2 x2 y2) (h3 : Box 73 w r3 x3 y3) (h12 : r2 ≠ r1) (h13 : r3 ≠ r1) (h23 : r3 ≠ r2) (u1 v1 u2 v2 u3 v3 : Value) :
    Nm ((((((w.setCell ⟨r1, 0, none⟩ u1).setCell ⟨r1, 1, none⟩ v1).setCell ⟨r2, 0, none⟩ u2).setCell ⟨r2, 1, none⟩ v2).setCell ⟨r3, 0, none⟩ u3).setCell ⟨r3, 1, none⟩ v3) v z := by
  have g2 := (h2.other ⟨r1, 0, none⟩ u1 h12).other ⟨r1, 1, none⟩ v1 h12
  have g3 := ((((h3.other ⟨r1, 0, none⟩ u1 h13).other ⟨r1, 1, none⟩ v1 h13).other ⟨r2, 0, none⟩ u2 h23).other ⟨r2, 1, none⟩ v2 h23)
  exact Nm.stores (Nm.stores (Nm.stores h h1 _ _) g2 _ _) g3 _ _

set_option maxRecDepth 100000 in
set_option maxHeartbeats 6400000 in
theorem coef_zero (v1 v2 : Value) (n : Int) (w : World) (h1 : Nm w v1 n) (h2 : Nm w v2 0) :
    Calls Tryd.prog 77 #[v1, v2] w (Gives3N w ((n.natAbs : Nat) : Int) (sgn n) 0) := by
  obtain ⟨b1, a1, k1, p1, rfl⟩ := h1.sh
  obtain ⟨b2, a2, k2, p2, rfl⟩ := h2.sh
  obtain ⟨W, hW, hA, hB, hR1, hR2, hR3, hBl, hsz⟩ := boxes5 w (.bool b1) (.slice a1 k1 p1) (.bool b2) (.slice a2 k2 p2) (.bool false) (.slice none 0 0) (.bool false) (.slice none 0 0) (.bool false) (.slice none 0 0)
  have HG : Hid (Nm W (.agg #[.bool b1, .slice a1 k1 p1]) n ∧ Nm W (.agg #[.bool b2, .slice a2 k2 p2]) 0) := ⟨h1.keep hBl, h2.keep hBl⟩
  have HW := Lib.hid hW
  have HA := Lib.hid hA
  have HR : Hid (Box 73 W (w.heap.size + 1 + 1) (.bool false) (.slice none 0 0) ∧ Box 73 W (w.heap.size + 1 + 1 + 1) (.bool false) (.slice none 0 0) ∧ Box 73 W (w.heap.size + 1 + 1 + 1 + 1) (.bool false) (.slice none 0 0)) := ⟨hR1, hR2, hR3⟩
  have HBl := Lib.hid hBl
  have HZ := Lib.hid hsz
  have e1 := hB.c0; have e2 := hB.c1
  clear h1 h2 hA hB hR1 hR2 hR3 hBl hsz hW
  go_enter Tryd.func77, Tryd.ntmps77
  go_wp2_with fail
  rw [← HW.out]
  go_wp2_with fail
  refine (nsign_any _ 0 _ HG.out.2).mono ?_
  rintro e w1 ⟨he, hb1⟩
  rw [sgn_zero] at he
  subst he
  clear e1 e2
  have A1 := Lib.hid (HA.out.keep hb1)
  go_wp2
  refine wp_region_late (S := fun u => Below w1.heap.size w1 u) (X := [6, 7, 8]) (by kernel_rfl) ?_
  refine wpAnyL_pure (i := 0) (v := .pointer (some ⟨w.heap.size, 1, none⟩)) rfl (by kernel_rfl) (by kernel_rfl) (by kernel_rfl) (fun _ _ _ h => h) (Or.inl ⟨by rfl, fun u _ => ?_⟩) ?_
  · go_simp
  try simp only [Act.put, List.setIfInBounds_toArray]
  refine wpAnyL_take (i := 1) (v := .slice a1 k1 p1) rfl (by kernel_rfl) (by kernel_rfl) (by kernel_rfl) (by kernel_rfl) (by kernel_rfl) (fun _ _ _ h => h) (Below.refl _ _).drew (Or.inl ⟨by rfl, fun u hu => ?_⟩) ?_
  · have t0 := (A1.out.keep hu).c0; have t1 := (A1.out.keep hu).c1
    go_simp
  try simp only [Act.put]
  refine wpAnyL_pure (i := 2) (v := .agg #[.bool false, .slice a1 k1 p1]) rfl (by kernel_rfl) (by kernel_rfl) (by kernel_rfl) (fun _ _ _ h => h) (Or.inl ⟨by rfl, fun u _ => ?_⟩) ?_
  · go_simp
  try simp only [Act.put]
  refine wpAnyL_take (i := 3) (v := .agg #[.bool b1, .slice a1 k1 p1]) rfl (by kernel_rfl) (by kernel_rfl) (by kernel_rfl) (by kernel_rfl) (by kernel_rfl) (fun _ _ _ h => h) (Below.refl _ _).drew (Or.inl ⟨by rfl, fun u hu => ?_⟩) ?_
  · have t0 := (A1.out.keep hu).c0; have t1 := (A1.out.keep hu).c1
    go_simp
  try simp only [Act.put]
  refine wpAnyL_pure (i := 5) (v := .agg #[.bool false, .slice none 0 0]) rfl (by kernel_rfl) (by kernel_rfl) (by kernel_rfl) (fun _ _ _ h => h) (Or.inl ⟨by rfl, fun u _ => ?_⟩) ?_
  · go_simp
  try simp only [Act.put]
  refine wpAnyL_one (i := 4) (by kernel_rfl) rfl (fun K hK => ?_)
  go_simp
  go_at_call 104
  refine (nsignum_any _ n _ ((HG.out.1.keep hb1).keep (Below.refl _ _).drew)).mono ?_
  rintro e w2 ⟨vs, rfl, hs, hb2⟩
  obtain ⟨b3, a3, k3, p3, rfl⟩ := hs.sh
  have hb12 : Below w1.heap.size w1 w2 := (Below.refl _ _).drew.trans hb2
  show K _ _
  refine hK.out _ _ (fun _ _ => hb12) ?_
  clear hK K
  have hbW : Below W.heap.size W w2 := hb1.trans (hb12.mono hb1.size)
  have R1 := HR.out.1.keep hbW; have R2 := HR.out.2.1.keep hbW; have R3 := HR.out.2.2.keep hbW
  have c0 := R1.c0; have c1 := R1.c1; have c2 := R1.f0 0; have c3 := R1.f0 1
  have d0 := R2.c0; have d1 := R2.c1; have d2 := R2.f0 0; have d3 := R2.f0 1
  have f0 := R3.c0; have f1 := R3.c1; have f2 := R3.f0 0; have f3 := R3.f0 1
  have HR2 : Hid (Box 73 w2 (w.heap.size + 1 + 1) (.bool false) (.slice none 0 0) ∧ Box 73 w2 (w.heap.size + 1 + 1 + 1) (.bool false) (.slice none 0 0) ∧ Box 73 w2 (w.heap.size + 1 + 1 + 1 + 1) (.bool false) (.slice none 0 0)) := ⟨R1, R2, R3⟩
  have HBW : Hid (Below w.heap.size w w2) := HBl.out.trans (hbW.mono HBl.out.size)
  have HNA : Hid (Nm w2 (.agg #[.bool false, .slice a1 k1 p1]) ((n.natAbs : Nat) : Int)) := (nm_abs HG.out.1).keep hbW
  clear R1 R2 R3
  refine wpAnyL_one (i := 6) (by kernel_rfl) rfl (fun K hK => ?_)
  go_simp
  refine hK.out _ _ (fun h _ => absurd (by simp) h) ?_
  clear hK K
  refine wpAnyL_one (i := 7) (by kernel_rfl) rfl (fun K hK => ?_)
  go_simp
  refine hK.out _ _ (fun h _ => absurd (by simp) h) ?_
  clear hK K
  refine wpAnyL_one (i := 8) (by kernel_rfl) rfl (fun K hK => ?_)
  go_simp
  refine hK.out _ _ (fun h _ => absurd (by simp) h) ?_
  clear hK K
  refine wpAnyL_done (by kernel_rfl) ?_ _
  go_wp2
  refine bodyPost_ret (v := .tuple #[.agg #[.bool false, .slice a1 k1 p1], .agg #[.bool b3, .slice a3 k3 p3], .agg #[.bool false, .slice none 0 0]]) (by simp [results, Tryd.results77, go_sem, c0, c1, d0, d1, f0, f1]) rfl ⟨_, _, _, rfl, ?_, ?_, ?_, ?_⟩
  · exact Nm.stores3 HNA.out HR2.out.1 HR2.out.2.1 HR2.out.2.2 (by omega) (by omega) (by omega) _ _ _ _ _ _
  · exact Nm.stores3 hs HR2.out.1 HR2.out.2.1 HR2.out.2.2 (by omega) (by omega) (by omega) _ _ _ _ _ _
  · exact nm_zero _ _ _
  · exact (((((HBW.out.setCell (by simp; omega) _).setCell (by simp; omega) _).setCell (by simp; omega) _).setCell (by simp; omega) _).setCell (by simp; omega) _).setCell (by simp; omega) _
end Go.Proofs.YtbmonfbbkmpdhaaDoor
