/- Numbers: the coefficients of Bezout as the program computes them, and that they stay small. -/
import Derived.Test.YtbmonfbbkmpdhaaDoorIb
namespace Go.Proofs.YtbmonfbbkmpdhaaDoor
open Go.RowKit Go.Proofs.Num

theorem inv_stop {r f g : Int} : inv r 0 f g = (r, f) := by rw [inv, dif_pos (by omega)]
theorem inv_go {r x f g : Int} (h : 0 < x) : inv r x f g = inv x (rz r x) g (f - qz r x * g) := by rw [inv, dif_neg (by omega)]

theorem inv_facts (m : Int) : ∀ (k : Nat) (r x f g : Int), x.toNat ≤ k → InvB m r x f g → 0 < (inv r x f g).1 ∧ (inv r x f g).1 ≤ m ∧ (inv r x f g).2.natAbs ≤ m.natAbs := by
  intro k
  induction k with
  | zero =>
    intro r x f g hk h
    obtain rfl : x = 0 := by have := h.x0; omega
    rw [inv_stop]
    exact ⟨h.r0, h.rm, by have := h.fm; have := h.r0; have := h.rm; omega⟩
  | succ k ih =>
    intro r x f g hk h
    by_cases hx : 0 < x
    · rw [inv_go hx]
      exact ih _ _ _ _ (by have := rz_pos (r := r) hx; omega) (h.next hx)
    · obtain rfl : x = 0 := by have := h.x0; omega
      rw [inv_stop]
      exact ⟨h.r0, h.rm, by have := h.fm; have := h.r0; have := h.rm; omega⟩

/-- The greatest common divisor and the coefficients. -/
def bez (n m : Int) : Int × Int × Int :=
  if m = 0 then (((n.natAbs : Nat) : Int), sgn n, 0)
  else
    ((inv ((m.natAbs : Nat) : Int) (rz n ((m.natAbs : Nat) : Int)) 0 1).1,
     rz (inv ((m.natAbs : Nat) : Int) (rz n ((m.natAbs : Nat) : Int)) 0 1).2 (qz ((m.natAbs : Nat) : Int) (inv ((m.natAbs : Nat) : Int) (rz n ((m.natAbs : Nat) : Int)) 0 1).1),
     qz ((inv ((m.natAbs : Nat) : Int) (rz n ((m.natAbs : Nat) : Int)) 0 1).1 - n * rz (inv ((m.natAbs : Nat) : Int) (rz n ((m.natAbs : Nat) : Int)) 0 1).2 (qz ((m.natAbs : Nat) : Int) (inv ((m.natAbs : Nat) : Int) (rz n ((m.natAbs : Nat) : Int)) 0 1).1)) m)

theorem Sm.lt {x : Int} {k : Nat} (h : Sm x k) : x.natAbs < 1000000000 ^ k :=
  Nat.lt_of_lt_of_le (lt_pow_dig (by omega) _) (Nat.pow_le_pow_right (by omega) h)
theorem Sm.of {x : Int} {k : Nat} (h : x.natAbs < 1000000000 ^ k) : Sm x k := dig_length_le (by omega) k _ h
theorem Sm.mul {x y : Int} {j k : Nat} (h1 : Sm x j) (h2 : Sm y k) : Sm (x * y) (j + k) := by
  apply Sm.of
  rw [Int.natAbs_mul, Nat.pow_add]
  exact Nat.mul_lt_mul_of_lt_of_le h1.lt (Nat.le_of_lt h2.lt) (Nat.pow_pos (by omega))
theorem Sm.sub {x y : Int} {k : Nat} (h1 : Sm x k) (h2 : Sm y k) : Sm (x - y) (k + 1) := by
  apply Sm.of
  have a := h1.lt
  have b := h2.lt
  rw [Nat.pow_succ]
  obtain ⟨C, hC⟩ : ∃ C, C = 1000000000 ^ k := ⟨_, rfl⟩
  rw [← hC] at a b ⊢
  omega
theorem Sm.up {x : Int} {j k : Nat} (h : Sm x j) (hk : j ≤ k) : Sm x k := Nat.le_trans h hk

/-- What the steps of the coefficients lean on. -/
structure CoefB (n m d x q z : Int) : Prop where
  d0 : 0 < d
  dm : d ≤ ((m.natAbs : Nat) : Int)
  xm : x.natAbs ≤ m.natAbs
  q0 : 0 < q
  qm : q ≤ ((m.natAbs : Nat) : Int)
  z0 : 0 ≤ z
  zm : z < ((m.natAbs : Nat) : Int)

theorem coefB {n m : Int} (hm : m ≠ 0) :
    CoefB n m (inv ((m.natAbs : Nat) : Int) (rz n ((m.natAbs : Nat) : Int)) 0 1).1 (inv ((m.natAbs : Nat) : Int) (rz n ((m.natAbs : Nat) : Int)) 0 1).2
      (qz ((m.natAbs : Nat) : Int) (inv ((m.natAbs : Nat) : Int) (rz n ((m.natAbs : Nat) : Int)) 0 1).1)
      (rz (inv ((m.natAbs : Nat) : Int) (rz n ((m.natAbs : Nat) : Int)) 0 1).2 (qz ((m.natAbs : Nat) : Int) (inv ((m.natAbs : Nat) : Int) (rz n ((m.natAbs : Nat) : Int)) 0 1).1)) := by
  have hmm : 0 < ((m.natAbs : Nat) : Int) := by omega
  have hr := rz_pos (r := n) hmm
  obtain ⟨h1, h2, h3⟩ := inv_facts _ _ _ _ _ _ (Nat.le_refl _) (InvB.start hmm hr.1 hr.2.1)
  generalize (inv ((m.natAbs : Nat) : Int) (rz n ((m.natAbs : Nat) : Int)) 0 1).1 = d at *
  generalize (inv ((m.natAbs : Nat) : Int) (rz n ((m.natAbs : Nat) : Int)) 0 1).2 = x at *
  obtain ⟨e1, e2, e3⟩ := rz_pos (r := ((m.natAbs : Nat) : Int)) h1
  have hq : 0 < qz ((m.natAbs : Nat) : Int) d := by
    apply Int.not_le.1
    intro hn
    have : qz ((m.natAbs : Nat) : Int) d * d ≤ 0 * d := Int.mul_le_mul_of_nonneg_right hn (by omega)
    omega
  have hq2 : qz ((m.natAbs : Nat) : Int) d ≤ ((m.natAbs : Nat) : Int) := by
    have : qz ((m.natAbs : Nat) : Int) d * 1 ≤ qz ((m.natAbs : Nat) : Int) d * d := Int.mul_le_mul_of_nonneg_left (by omega) (by omega)
    omega
  obtain ⟨f1, f2, f3⟩ := rz_pos (r := x) hq
  exact ⟨h1, h2, by omega, hq, hq2, f1, by omega⟩

theorem boxes5 (w : World) (x1 y1 x2 y2 x3 y3 x4 y4 x5 y5 : Value) : ∃ W, W = ((((w.alloc (.cells #[x1, y1] 73)).alloc (.cells #[x2, y2] 73)).alloc (.cells #[x3, y3] 73)).alloc (.cells #[x4, y4] 73)).alloc (.cells #[x5, y5] 73) ∧
    Box 73 W w.heap.size x1 y1 ∧ Box 73 W (w.heap.size + 1) x2 y2 ∧ Box 73 W (w.heap.size + 1 + 1) x3 y3 ∧ Box 73 W (w.heap.size + 1 + 1 + 1) x4 y4 ∧ Box 73 W (w.heap.size + 1 + 1 + 1 + 1) x5 y5 ∧ Below w.heap.size w W ∧ W.heap.size = w.heap.size + 1 + 1 + 1 + 1 + 1 := by
  obtain ⟨W, hW, h1, h2, h3, h4, hb, hz⟩ := boxes4 w x1 y1 x2 y2 x3 y3 x4 y4
  refine ⟨_, by rw [← hW], h1.alloc _, h2.alloc _, h3.alloc _, h4.alloc _, ?_, hb.alloc (by omega) _, by rw [World.size_alloc, hz]⟩
  have := Box.new 73 W x5 y5
  rwa [hz] at this

def Gives3N (w : World) (a b c : Int) (e : Ending) (w' : World) : Prop := ∃ v1 v2 v3, e = .returned (.tuple #[v1, v2, v3]) ∧ Nm w' v1 a ∧ Nm w' v2 b ∧ Nm w' v3 c ∧ Below w.heap.size w w'

theorem nm_abs {w : World} {b : Bool} {a : Option Addr} {k p : Nat} {z : Int} (h : Nm w (.agg #[.bool b, .slice a k p]) z) : Nm w (.agg #[.bool false, .slice a k p]) ((z.natAbs : Nat) : Int) := by
  obtain ⟨-, g, -, -⟩ := h.parts
  exact Nm.mk' (by simp) (by rw [Int.natAbs_natCast]; exact g)

/-- What stores into three boxes of two cells leave of a number. -/
theorem Nm.stores3 {w : World} {v : Value} {z : Int} {r1 r2 r3 : Nat} {x1 y1 x2 y2 x3 y3 : Value} (h : Nm w v z) (h1 : Box 73 w r1 x1 y1) (h2 : Box 73 w r2 x2 y2) (h3 : Box 73 w r3 x3 y3) (h12 : r2 ≠ r1) (h13 : r3 ≠ r1) (h23 : r3 ≠ r2) (u1 v1 u2 v2 u3 v3 : Value) :
    Nm ((((((w.setCell ⟨r1, 0, none⟩ u1).setCell ⟨r1, 1, none⟩ v1).setCell ⟨r2, 0, none⟩ u2).setCell ⟨r2, 1, none⟩ v2).setCell ⟨r3, 0, none⟩ u3).setCell ⟨r3, 1, none⟩ v3) v z := by
  have g2 := (h2.other ⟨r1, 0, none⟩ u1 h12).other ⟨r1, 1, none⟩ v1 h12
  have g3 := ((((h3.other ⟨r1, 0, none⟩ u1 h13).other ⟨r1, 1, none⟩ v1 h13).other ⟨r2, 0, none⟩ u2 h23).other ⟨r2, 1, none⟩ v2 h23)
  exact Nm.stores (Nm.stores (Nm.stores h h1 _ _) g2 _ _) g3 _ _

set_option maxRecDepth 100000 in
set_option maxHeartbeats 6400000 in
theorem coef_zero (v1 v2 : Value) (n : Int) (w : World) (h1 : Nm w v1 n) (h2 : Nm w v2 0) :
    Calls Tryd.prog 77 #[v1, v2] w (Gives3N w ((n.natAbs : Nat) : Int) (sgn n) 0) := by
  obtain ⟨b1, a1, k1, p1, rfl⟩ := h1.sh
  obtain ⟨b2, a2, k2, p2, rfl⟩ := h2.sh
  obtain ⟨W, hW, hA, hB, hR1, hR2, hR3, hBl, hsz⟩ := boxes5 w (.bool b1) (.slice a1 k1 p1) (.bool b2) (.slice a2 k2 p2) (.bool false) (.slice none 0 0) (.bool false) (.slice none 0 0) (.bool false) (.slice none 0 0)
  have HG : Hid (Nm W (.agg #[.bool b1, .slice a1 k1 p1]) n ∧ Nm W (.agg #[.bool b2, .slice a2 k2 p2]) 0) := ⟨h1.keep hBl, h2.keep hBl⟩
  have HW := Lib.hid hW
  have HA := Lib.hid hA
  have HR : Hid (Box 73 W (w.heap.size + 1 + 1) (.bool false) (.slice none 0 0) ∧ Box 73 W (w.heap.size + 1 + 1 + 1) (.bool false) (.slice none 0 0) ∧ Box 73 W (w.heap.size + 1 + 1 + 1 + 1) (.bool false) (.slice none 0 0)) := ⟨hR1, hR2, hR3⟩
  have HBl := Lib.hid hBl
  have HZ := Lib.hid hsz
  have e1 := hB.c0; have e2 := hB.c1
  clear h1 h2 hA hB hR1 hR2 hR3 hBl hsz hW
  go_enter Tryd.func77, Tryd.ntmps77
  go_wp2_with fail
  rw [← HW.out]
  go_wp2_with fail
  refine (nsign_any _ 0 _ HG.out.2).mono ?_
  rintro e w1 ⟨he, hb1⟩
  rw [sgn_zero] at he
  subst he
  clear e1 e2
  have A1 := Lib.hid (HA.out.keep hb1)
  go_wp2
  refine wp_region_late (S := fun u => Below w1.heap.size w1 u) (X := [6, 7, 8]) (by kernel_rfl) ?_
  refine wpAnyL_pure (i := 0) (v := .pointer (some ⟨w.heap.size, 1, none⟩)) rfl (by kernel_rfl) (by kernel_rfl) (by kernel_rfl) (fun _ _ _ h => h) (Or.inl ⟨by rfl, fun u _ => ?_⟩) ?_
  · go_simp
  try simp only [Act.put, List.setIfInBounds_toArray]
  refine wpAnyL_take (i := 1) (v := .slice a1 k1 p1) rfl (by kernel_rfl) (by kernel_rfl) (by kernel_rfl) (by kernel_rfl) (by kernel_rfl) (fun _ _ _ h => h) (Below.refl _ _).drew (Or.inl ⟨by rfl, fun u hu => ?_⟩) ?_
  · have t0 := (A1.out.keep hu).c0; have t1 := (A1.out.keep hu).c1
    go_simp
  try simp only [Act.put]
  refine wpAnyL_pure (i := 2) (v := .agg #[.bool false, .slice a1 k1 p1]) rfl (by kernel_rfl) (by kernel_rfl) (by kernel_rfl) (fun _ _ _ h => h) (Or.inl ⟨by rfl, fun u _ => ?_⟩) ?_
  · go_simp
  try simp only [Act.put]
  refine wpAnyL_take (i := 3) (v := .agg #[.bool b1, .slice a1 k1 p1]) rfl (by kernel_rfl) (by kernel_rfl) (by kernel_rfl) (by kernel_rfl) (by kernel_rfl) (fun _ _ _ h => h) (Below.refl _ _).drew (Or.inl ⟨by rfl, fun u hu => ?_⟩) ?_
  · have t0 := (A1.out.keep hu).c0; have t1 := (A1.out.keep hu).c1
    go_simp
  try simp only [Act.put]
  refine wpAnyL_pure (i := 5) (v := .agg #[.bool false, .slice none 0 0]) rfl (by kernel_rfl) (by kernel_rfl) (by kernel_rfl) (fun _ _ _ h => h) (Or.inl ⟨by rfl, fun u _ => ?_⟩) ?_
  · go_simp
  try simp only [Act.put]
  refine wpAnyL_one (i := 4) (by kernel_rfl) rfl (fun K hK => ?_)
  go_simp
  go_at_call 104
  refine (nsignum_any _ n _ ((HG.out.1.keep hb1).keep (Below.refl _ _).drew)).mono ?_
  rintro e w2 ⟨vs, rfl, hs, hb2⟩
  obtain ⟨b3, a3, k3, p3, rfl⟩ := hs.sh
  have hb12 : Below w1.heap.size w1 w2 := (Below.refl _ _).drew.trans hb2
  show K _ _
  refine hK.out _ _ (fun _ _ => hb12) ?_
  clear hK K
  have hbW : Below W.heap.size W w2 := hb1.trans (hb12.mono hb1.size)
  have R1 := HR.out.1.keep hbW; have R2 := HR.out.2.1.keep hbW; have R3 := HR.out.2.2.keep hbW
  have c0 := R1.c0; have c1 := R1.c1; have c2 := R1.f0 0; have c3 := R1.f0 1
  have d0 := R2.c0; have d1 := R2.c1; have d2 := R2.f0 0; have d3 := R2.f0 1
  have f0 := R3.c0; have f1 := R3.c1; have f2 := R3.f0 0; have f3 := R3.f0 1
  have HR2 : Hid (Box 73 w2 (w.heap.size + 1 + 1) (.bool false) (.slice none 0 0) ∧ Box 73 w2 (w.heap.size + 1 + 1 + 1) (.bool false) (.slice none 0 0) ∧ Box 73 w2 (w.heap.size + 1 + 1 + 1 + 1) (.bool false) (.slice none 0 0)) := ⟨R1, R2, R3⟩
  have HBW : Hid (Below w.heap.size w w2) := HBl.out.trans (hbW.mono HBl.out.size)
  have HNA : Hid (Nm w2 (.agg #[.bool false, .slice a1 k1 p1]) ((n.natAbs : Nat) : Int)) := (nm_abs HG.out.1).keep hbW
  clear R1 R2 R3
  refine wpAnyL_one (i := 6) (by kernel_rfl) rfl (fun K hK => ?_)
  go_simp
  refine hK.out _ _ (fun h _ => absurd (by simp) h) ?_
  clear hK K
  refine wpAnyL_one (i := 7) (by kernel_rfl) rfl (fun K hK => ?_)
  go_simp
  refine hK.out _ _ (fun h _ => absurd (by simp) h) ?_
  clear hK K
  refine wpAnyL_one (i := 8) (by kernel_rfl) rfl (fun K hK => ?_)
  go_simp
  refine hK.out _ _ (fun h _ => absurd (by simp) h) ?_
  clear hK K
  refine wpAnyL_done (by kernel_rfl) ?_ _
  go_wp2
  refine bodyPost_ret (v := .tuple #[.agg #[.bool false, .slice a1 k1 p1], .agg #[.bool b3, .slice a3 k3 p3], .agg #[.bool false, .slice none 0 0]]) (by simp [results, Tryd.results77, go_sem, c0, c1, d0, d1, f0, f1]) rfl ⟨_, _, _, rfl, ?_, ?_, ?_, ?_⟩
  · exact Nm.stores3 HNA.out HR2.out.1 HR2.out.2.1 HR2.out.2.2 (by omega) (by omega) (by omega) _ _ _ _ _ _
  · exact Nm.stores3 hs HR2.out.1 HR2.out.2.1 HR2.out.2.2 (by omega) (by omega) (by omega) _ _ _ _ _ _
  · exact nm_zero _ _ _
  · exact (((((HBW.out.setCell (by simp; omega) _).setCell (by simp; omega) _).setCell (by simp; omega) _).setCell (by simp; omega) _).setCell (by simp; omega) _).setCell (by simp; omega) _
end Go.Proofs.YtbmonfbbkmpdhaaDoor
