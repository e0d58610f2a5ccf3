/- Walks of the numbers' functions: the coefficients of Bezout. -/
import Derived.Test.YtbmonfbbkmpdhaaDoorQ15
import Derived.Test.YtbmonfbbkmpdhaaDoorQ14
namespace Go.Proofs.YtbmonfbbkmpdhaaDoor
open Go.RowKit Go.Proofs.Num

theorem Box.new_at {w : World} {b : Nat} {x y : Value} (h : b = w.heap.size) : Box 73 (w.alloc (.cells #[x, y] 73)) b x y := by
  subst h; exact Box.new 73 w x y

/-- What the region of the second coefficient leaves. -/
def LeftY (V : World) (base : Nat) (y : Int) (s11 : Value) (wx : World) : Prop :=
  ∃ p b a k q, s11 = .pointer (some ⟨p, 0, none⟩) ∧ base ≤ p ∧ Box 73 wx p (.bool b) (.slice a k q) ∧ Nm wx (.agg #[.bool b, .slice a k q]) y ∧ Below V.heap.size V wx

theorem leftY {V wZ : World} {base p1 p2 : Nat} {y : Int} {b : Bool} {a : Option Addr} {k q : Nat} {z1 z2 z3 z4 u v : Value} (h1 : Box 73 wZ p1 z1 z2) (h2 : Box 73 wZ p2 z3 z4) (hn : Nm wZ (.agg #[.bool b, .slice a k q]) y)
    (hB : Below V.heap.size V wZ) (hb : base ≤ V.heap.size) (hp1 : V.heap.size ≤ p1) (hp2 : V.heap.size ≤ p2) (hne : p1 ≠ p2) :
    LeftY V base y (.pointer (some ⟨p1, 0, none⟩)) ((((wZ.setCell ⟨p1, 0, none⟩ (.bool b)).setCell ⟨p1, 1, none⟩ (.slice a k q)).setCell ⟨p2, 0, none⟩ u).setCell ⟨p2, 1, none⟩ v) := by
  have g2 := (h2.other ⟨p1, 0, none⟩ (.bool b) (Ne.symm hne)).other ⟨p1, 1, none⟩ (.slice a k q) (Ne.symm hne)
  exact ⟨p1, b, a, k, q, rfl, Nat.le_trans hb hp1, (((h1.set0 _).set1 _).other _ _ hne).other _ _ hne, Nm.stores (Nm.stores hn h1 _ _) g2 _ _,
    (((hB.setCell hp1 _).setCell hp1 _).setCell hp2 _).setCell hp2 _⟩

theorem zero_c0 {w : World} {p : Nat} (h : Zero w p) : w.cell? ⟨p, 0, none⟩ = some (.bool false) ∧ w.cell? ⟨p, 1, none⟩ = some (.slice none 0 0) ∧ w.frozen? ⟨p, 0, none⟩ = false ∧ w.frozen? ⟨p, 1, none⟩ = false :=
  ⟨Box.c0 h, Box.c1 h, Box.f0 h 0, Box.f0 h 1⟩

def lF (k : Nat) (b1 b2 : Bool) : Array Bool := #[true, true, true, decide (1 ≤ k), decide (2 ≤ k), true, decide (3 ≤ k), decide (3 ≤ k), decide (3 ≤ k), decide (3 ≤ k), b1, b2, false, false]
def tupAt (v : Value) (i : Nat) : Value := match v with | .tuple a => a.getD i undef | _ => undef
def tY (a : Act) (v : Value) : Act := ((a.put (some 44) v).put (some 52) (tupAt v 0)).put (some 53) (tupAt v 1)
def rN (z : Int) (v : Value) (u : World) : Prop := ∃ b a k c, v = .agg #[.bool b, .slice a k c] ∧ Nm u (.agg #[.bool b, .slice a k c]) z
def rT (z : Int) (v : Value) (u : World) : Prop := ∃ b a k c b' a' k' c', v = .tuple #[.agg #[.bool b, .slice a k c], .agg #[.bool b', .slice a' k' c']] ∧ Nm u (.agg #[.bool b, .slice a k c]) z
theorem tY_comm (a : Act) (e : Nat) (b : Bool) (p : Nat) (v : Value) (h : e = 11 ∨ e = 12) : putB (tY a v) e b p = tY (putB a e b p) v := by
  unfold tY
  rw [putB_put _ _ _ _ _ _ (by omega), putB_put _ _ _ _ _ _ (by omega), putB_put _ _ _ _ _ _ (by omega)]
theorem rN.keep (z : Int) (v : Value) (u u' : World) (h : rN z v u) (hb : Below u.heap.size u u') : rN z v u' := by
  obtain ⟨b, a, k, c, rfl, hn⟩ := h; exact ⟨b, a, k, c, rfl, hn.keep hb⟩
theorem rT.keep (z : Int) (v : Value) (u u' : World) (h : rT z v u) (hb : Below u.heap.size u u') : rT z v u' := by
  obtain ⟨b, a, k, c, b', a', k', c', rfl, hn⟩ := h; exact ⟨b, a, k, c, b', a', k', c', rfl, hn.keep hb⟩

set_option maxRecDepth 100000 in
set_option maxHeartbeats 6400000 in
theorem coef_pos (M : Nat) (hD : DivTo M) (v1 v2 : Value) (n m : Int) (w : World) (h1 : Nm w v1 n) (h2 : Nm w v2 m) (hm : m ≠ 0) (hmM : m.natAbs ≤ M) (hn : Sm n 500000000) (hs : Sm m 500000000) :
    Calls Tryd.prog 77 #[v1, v2] w (Gives3N w (bez n m).1 (bez n m).2.1 (bez n m).2.2) := by
  obtain ⟨b1, a1, k1, p1, rfl⟩ := h1.sh
  obtain ⟨b2, a2, k2, p2, rfl⟩ := h2.sh
  obtain ⟨W, hW, hA, hB, hR1, hR2, hR3, hBl, hsz⟩ := boxes5 w (.bool b1) (.slice a1 k1 p1) (.bool b2) (.slice a2 k2 p2) (.bool false) (.slice none 0 0) (.bool false) (.slice none 0 0) (.bool false) (.slice none 0 0)
  have hcb := coefB (n := n) hm
  unfold bez
  rw [if_neg hm]
  obtain ⟨mm, hmm⟩ : ∃ z : Int, z = ((m.natAbs : Nat) : Int) := ⟨_, rfl⟩
  rw [← hmm] at hcb ⊢
  obtain ⟨d, hd⟩ : ∃ z, z = (inv mm (rz n mm) 0 1).1 := ⟨_, rfl⟩
  obtain ⟨x, hx⟩ : ∃ z, z = (inv mm (rz n mm) 0 1).2 := ⟨_, rfl⟩
  rw [← hd, ← hx] at hcb
  rw [← hd, ← hx]
  obtain ⟨q, hq⟩ : ∃ z, z = qz mm d := ⟨_, rfl⟩
  rw [← hq] at hcb ⊢
  obtain ⟨x', hx'⟩ : ∃ z, z = rz x q := ⟨_, rfl⟩
  rw [← hx'] at hcb ⊢
  obtain ⟨y, hy⟩ : ∃ z, z = qz (d - n * x') m := ⟨_, rfl⟩
  rw [← hy]
  have hsg : (sgn m == 0) = false := by
    unfold sgn
    by_cases h1 : m < 0
    · rw [if_pos h1]; decide
    · rw [if_neg h1, if_pos (by omega)]; decide
  obtain ⟨sg, hsg'⟩ : ∃ s, s = sgn m := ⟨_, rfl⟩
  rw [← hsg'] at hsg
  have HSG := Lib.hid hsg'
  have HMM := Lib.hid hmm
  have HE : Hid (d = (inv mm (rz n mm) 0 1).1 ∧ x = (inv mm (rz n mm) 0 1).2 ∧ q = qz mm d ∧ x' = rz x q ∧ y = qz (d - n * x') m) := ⟨hd, hx, hq, hx', hy⟩
  have HCB := Lib.hid hcb
  have HM := Lib.hid hm
  have HL : Hid (m.natAbs ≤ M ∧ Sm n 500000000 ∧ Sm m 500000000) := ⟨hmM, hn, hs⟩
  have smd : Sm d 500000000 := Sm.mono hs (by have := hcb.d0; have := hcb.dm; omega)
  have smx : Sm x 500000000 := Sm.mono hs hcb.xm
  have smq : Sm q 500000000 := Sm.mono hs (by have := hcb.q0; have := hcb.qm; omega)
  have smz : Sm x' 500000000 := Sm.mono hs (by have := hcb.z0; have := hcb.zm; omega)
  have smm : Sm mm 500000000 := Sm.mono hs (by omega)
  have HSM : Hid (Sm d 500000000 ∧ Sm x 500000000 ∧ Sm q 500000000 ∧ Sm x' 500000000 ∧ Sm mm 500000000) := ⟨smd, smx, smq, smz, smm⟩
  have HD := Lib.hid hD
  have HG : Hid (Nm W (.agg #[.bool b1, .slice a1 k1 p1]) n ∧ Nm W (.agg #[.bool b2, .slice a2 k2 p2]) m) := ⟨h1.keep hBl, h2.keep hBl⟩
  have HW := Lib.hid hW
  have HA := Lib.hid hA
  have HB := Lib.hid hB
  have HR : Hid (Box 73 W (w.heap.size + 1 + 1) (.bool false) (.slice none 0 0) ∧ Box 73 W (w.heap.size + 1 + 1 + 1) (.bool false) (.slice none 0 0) ∧ Box 73 W (w.heap.size + 1 + 1 + 1 + 1) (.bool false) (.slice none 0 0)) := ⟨hR1, hR2, hR3⟩
  have HBl := Lib.hid hBl
  have HZ := Lib.hid hsz
  have e1 := hB.c0; have e2 := hB.c1
  clear h1 h2 hA hB hR1 hR2 hR3 hBl hsz hW hcb hmm hd hx hq hx' hy hsg' hm hmM hn hs smd smx smq smz smm hD
  go_enter Tryd.func77, Tryd.ntmps77
  go_wp2_with fail
  rw [← HW.out]
  go_wp2_with fail
  refine (nsign_any _ m _ HG.out.2).mono ?_
  rintro e w0 ⟨he, hb0⟩
  rw [← HSG.out] at he
  subst he
  clear e1 e2
  have A0 := Lib.hid (HA.out.keep hb0)
  have B0 := Lib.hid (HB.out.keep hb0)
  have e1 := A0.out.c0; have e2 := A0.out.c1; have e3 := B0.out.c0; have e4 := B0.out.c1
  have hmm0 : 0 < mm := by have := HM.out; have := HMM.out; omega
  have hMM : mm.natAbs ≤ M := by have := HL.out.1; have := HMM.out; omega
  have hnm2 : Nm w0 (.agg #[.bool false, .slice a2 k2 p2]) mm := by
    rw [HMM.out]; exact nm_abs (HG.out.2.keep hb0)
  have HN2 := Lib.hid hnm2
  have HP : Hid (0 < mm ∧ mm.natAbs ≤ M) := ⟨hmm0, hMM⟩
  clear hmm0 hMM hnm2
  go_wp2_with fail
  refine (inverse_any M HD.out _ _ n mm _ (HG.out.1.keep hb0) HN2.out HP.out.1 HP.out.2 (Sm.up HL.out.2.1 (by omega)) (Sm.up HSM.out.2.2.2.2 (by omega))).mono ?_
  rintro e w1 ⟨vd, vx, rfl, nd, nx, hb1⟩
  rw [← HE.out.1] at nd
  rw [← HE.out.2.1] at nx
  obtain ⟨bd, ad, kd, pd, rfl⟩ := nd.sh
  obtain ⟨bx, ax, kx, px, rfl⟩ := nx.sh
  clear e1 e2 e3 e4
  obtain ⟨W2, hW2, hDb, hXb, hBl2, hsz2⟩ := boxes2 w1 (.bool bd) (.slice ad kd pd) (.bool bx) (.slice ax kx px)
  have hbW2 : Below W.heap.size W W2 := by
    have h5 := hb0.trans (hb1.mono hb0.size)
    exact h5.trans (hBl2.mono h5.size)
  have e3 := (HB.out.keep hbW2).c0; have e4 := (HB.out.keep hbW2).c1; have d1 := hDb.c0; have d2 := hDb.c1
  rw [hW2] at e3 e4 d1 d2
  have HW2 := Lib.hid hW2
  have HBW2 := Lib.hid hbW2
  have HDX : Hid (Box 73 W2 w1.heap.size (.bool bd) (.slice ad kd pd) ∧ Box 73 W2 (w1.heap.size + 1) (.bool bx) (.slice ax kx px)) := ⟨hDb, hXb⟩
  have HN : Hid (Nm W2 (.agg #[.bool bd, .slice ad kd pd]) d ∧ Nm W2 (.agg #[.bool bx, .slice ax kx px]) x ∧ Nm W2 (.agg #[.bool false, .slice a2 k2 p2]) mm) := ⟨nd.keep hBl2, nx.keep hBl2, (HN2.out.keep hb1).keep hBl2⟩
  have hs1 : w.heap.size + 1 + 1 + 1 + 1 + 1 ≤ w1.heap.size := by rw [← HZ.out]; exact Nat.le_trans hb0.size hb1.size
  have HZ2 := Lib.hid hsz2
  clear hW2 hbW2 hDb hXb hBl2 hsz2 nd nx hb0 hb1
  go_wp2_with fail
  rw [← HW2.out]
  refine (ndivide_any M HD.out _ _ mm d _ HN.out.2.2 HN.out.1 (by have := HCB.out.d0; omega) (by have := HCB.out.d0; have := HCB.out.dm; have := HL.out.1; omega) (Sm.up HSM.out.2.2.2.2 (by omega)) (Sm.up HSM.out.1 (by omega))).mono ?_
  rintro e w3 ⟨vq, vr, rfl, nq, nr, hb3⟩
  rw [← HE.out.2.2.1] at nq
  obtain ⟨bq, aq, kq, pq, rfl⟩ := nq.sh
  obtain ⟨br, ar, kr, pr, rfl⟩ := nr.sh
  clear e3 e4 d1 d2
  obtain ⟨W4, hW4, hQb, hRb, hBl4, hsz4⟩ := boxes2 w3 (.bool bq) (.slice aq kq pq) (.bool br) (.slice ar kr pr)
  have hb24 : Below W2.heap.size W2 W4 := hb3.trans (hBl4.mono hb3.size)
  have x1 := (HDX.out.2.keep hb24).c0; have x2 := (HDX.out.2.keep hb24).c1; have q1 := hQb.c0; have q2 := hQb.c1
  rw [hW4] at x1 x2 q1 q2
  have HW4 := Lib.hid hW4
  have HB24 := Lib.hid hb24
  have HN4 : Hid (Nm W4 (.agg #[.bool bx, .slice ax kx px]) x ∧ Nm W4 (.agg #[.bool bq, .slice aq kq pq]) q) := ⟨HN.out.2.1.keep hb24, nq.keep hBl4⟩
  have hs3 : w1.heap.size + 1 + 1 ≤ w3.heap.size := by rw [← HZ2.out]; exact hb3.size
  clear hW4 hb24 hQb hRb hBl4 hsz4 nq nr hb3
  go_wp2_with fail
  rw [← HW4.out]
  refine (ndivide_any M HD.out _ _ x q _ HN4.out.1 HN4.out.2 (by have := HCB.out.q0; omega) (by have := HCB.out.q0; have := HCB.out.qm; have := HL.out.1; omega) (Sm.up HSM.out.2.1 (by omega)) (Sm.up HSM.out.2.2.1 (by omega))).mono ?_
  rintro e w5 ⟨vq, vr, rfl, nq, nr, hb5⟩
  rw [← HE.out.2.2.2.1] at nr
  obtain ⟨bq', aq', kq', pq', rfl⟩ := nq.sh
  obtain ⟨br', ar', kr', pr', rfl⟩ := nr.sh
  clear x1 x2 q1 q2 nq
  have hbx := (HDX.out.2.keep HB24.out).keep hb5
  have x1 := hbx.c0; have x2 := hbx.c1; have x3 := hbx.f0 0; have x4 := hbx.f0 1
  have HBX := Lib.hid hbx
  have hbd := Lib.hid ((HDX.out.1.keep HB24.out).keep hb5)
  have hb25 := Lib.hid (HB24.out.trans (hb5.mono HB24.out.size))
  have NR := Lib.hid nr
  clear hbx nr hb5
  go_wp2
  obtain ⟨V, hV⟩ : ∃ V, V = (w5.setCell ⟨w1.heap.size + 1, 0, none⟩ (.bool br')).setCell ⟨w1.heap.size + 1, 1, none⟩ (.slice ar' kr' pr') := ⟨_, rfl⟩
  rw [← hV]
  have hW5 : Below W.heap.size W w5 := HBW2.out.trans (hb25.out.mono HBW2.out.size)
  have kp : ∀ v z, Nm w5 v z → Nm V v z := fun v z h => by rw [hV]; exact Nm.stores h HBX.out _ _
  have bx : ∀ t v1 v2, Box 73 w5 t v1 v2 → t ≠ w1.heap.size + 1 → Box 73 V t v1 v2 := fun t v1 v2 h h1 => by
    rw [hV]; exact (h.other _ _ (by simpa using h1)).other _ _ (by simpa using h1)
  have VB2 := bx _ _ _ (HA.out.keep hW5) (by omega)
  have VB3 := bx _ _ _ (HB.out.keep hW5) (by omega)
  have VB4 := bx _ _ _ (HR.out.1.keep hW5) (by omega)
  have VB5 := bx _ _ _ (HR.out.2.1.keep hW5) (by omega)
  have VB6 := bx _ _ _ (HR.out.2.2.keep hW5) (by omega)
  have VB7 := bx _ _ _ hbd.out (by omega)
  have VB8 : Box 73 V (w1.heap.size + 1) (.bool br') (.slice ar' kr' pr') := by rw [hV]; exact (HBX.out.set0 _).set1 _
  have NV : Hid (Nm V (.agg #[.bool bd, .slice ad kd pd]) d ∧ Nm V (.agg #[.bool b1, .slice a1 k1 p1]) n ∧ Nm V (.agg #[.bool br', .slice ar' kr' pr']) x' ∧ Nm V (.agg #[.bool b2, .slice a2 k2 p2]) m) :=
    ⟨kp _ _ (HN.out.1.keep hb25.out), kp _ _ (HG.out.1.keep hW5), kp _ _ NR.out, kp _ _ (HG.out.2.keep hW5)⟩
  have BV : Hid (Below w.heap.size w V) := by
    unfold Hid; rw [hV]
    have h5 := HBl.out.trans (hW5.mono HBl.out.size)
    exact (h5.setCell (by show w.heap.size ≤ w1.heap.size + 1; omega) _).setCell (by show w.heap.size ≤ w1.heap.size + 1; omega) _
  have hsV : w1.heap.size + 1 < V.heap.size := VB8.lt
  have HVL : Hid (Box 73 V w.heap.size (.bool b1) (.slice a1 k1 p1) ∧ Box 73 V (w.heap.size + 1) (.bool b2) (.slice a2 k2 p2)) := ⟨VB2, VB3⟩
  have HVR : Hid (Box 73 V (w.heap.size + 1 + 1) (.bool false) (.slice none 0 0) ∧ Box 73 V (w.heap.size + 1 + 1 + 1) (.bool false) (.slice none 0 0) ∧ Box 73 V (w.heap.size + 1 + 1 + 1 + 1) (.bool false) (.slice none 0 0) ∧
      Box 73 V w1.heap.size (.bool bd) (.slice ad kd pd) ∧ Box 73 V (w1.heap.size + 1) (.bool br') (.slice ar' kr' pr')) := ⟨VB4, VB5, VB6, VB7, VB8⟩
  have SP : Sm (n * x') 1000000000 := Sm.up (Sm.mul HL.out.2.1 HSM.out.2.2.2.1) (by omega)
  have HSP : Hid (Sm (n * x') 4294967295 ∧ Sm (d - n * x') 1073741823) := ⟨Sm.up SP (by omega), Sm.up (Sm.sub (Sm.up HSM.out.1 (by omega)) SP) (by omega)⟩
  clear hV hW5 kp bx VB2 VB3 VB4 VB5 VB6 VB7 VB8 SP x1 x2 x3 x4
  refine wp_region_late (S := fun u => Below V.heap.size V u) (X := [12, 13]) (by kernel_rfl) ?_
  refine wpAnyL_takeD (i := 0) 45 (.agg #[.bool bd, .slice ad kd pd]) rfl rfl (by kernel_rfl) (by kernel_rfl) (by kernel_rfl) (by kernel_rfl) (by kernel_rfl) (fun _ _ _ h => h) (Below.refl _ _).drew (Or.inl ⟨by rfl, fun u hu => ?_⟩) ?_
  · have t0 := (HVR.out.2.2.2.1.keep hu).c0; have t1 := (HVR.out.2.2.2.1.keep hu).c1
    go_simp
  try simp only [Act.put, List.setIfInBounds_toArray, List.set_cons_zero, List.set_cons_succ]
  refine wpAnyL_takeD (i := 1) 46 (.agg #[.bool b1, .slice a1 k1 p1]) rfl rfl (by kernel_rfl) (by kernel_rfl) (by kernel_rfl) (by kernel_rfl) (by kernel_rfl) (fun _ _ _ h => h) (Below.refl _ _).drew (Or.inl ⟨by rfl, fun u hu => ?_⟩) ?_
  · have t0 := (HVL.out.1.keep hu).c0; have t1 := (HVL.out.1.keep hu).c1
    go_simp
  try simp only [Act.put, List.setIfInBounds_toArray, List.set_cons_zero, List.set_cons_succ]
  refine wpAnyL_takeD (i := 2) 47 (.agg #[.bool br', .slice ar' kr' pr']) rfl rfl (by kernel_rfl) (by kernel_rfl) (by kernel_rfl) (by kernel_rfl) (by kernel_rfl) (fun _ _ _ h => h) (Below.refl _ _).drew (Or.inl ⟨by rfl, fun u hu => ?_⟩) ?_
  · have t0 := (HVR.out.2.2.2.2.keep hu).c0; have t1 := (HVR.out.2.2.2.2.keep hu).c1
    go_simp
  try simp only [Act.put, List.setIfInBounds_toArray, List.set_cons_zero, List.set_cons_succ]
  refine wpAnyL_takeD (i := 5) 50 (.agg #[.bool b2, .slice a2 k2 p2]) rfl rfl (by kernel_rfl) (by kernel_rfl) (by kernel_rfl) (by kernel_rfl) (by kernel_rfl) (fun _ _ _ h => h) (Below.refl _ _).drew (Or.inl ⟨by rfl, fun u hu => ?_⟩) ?_
  · have t0 := (HVL.out.2.keep hu).c0; have t1 := (HVL.out.2.keep hu).c1
    go_simp
  try simp only [Act.put, List.setIfInBounds_toArray, List.set_cons_zero, List.set_cons_succ]
  refine FloatH.all' (i1 := 3) (i2 := 4) (i3 := 6) (f1 := 10) (f2 := 11) (d1 := 48) (d2 := 49) (d3 := 51) (e1 := 11) (e2 := 12) (T := tY) (L := lF) (R1 := rN (n * x')) (R2 := rN (d - n * x')) (R3 := rT y) (F := 2)
    { n11 := by decide, n12 := by decide, n21 := by decide, n22 := by decide, n31 := by decide, n32 := by decide, n := by decide
      at1 := rfl, at2 := rfl, at3 := rfl, at4 := rfl, at5 := rfl
      r0 := fun b1 b2 => by cases b1 <;> cases b2 <;> kernel_rfl
      r1 := fun b1 b2 => by cases b1 <;> cases b2 <;> kernel_rfl
      r2 := fun b1 b2 => by cases b1 <;> cases b2 <;> kernel_rfl
      r3 := by kernel_rfl
      r4 := by kernel_rfl
      r5 := by kernel_rfl
      l1 := fun b1 b2 => rfl
      l2 := fun b1 b2 => rfl
      l4 := fun k b2 _ => rfl
      l5 := fun k b1 _ => rfl
      m1 := rN.keep _
      m2 := rN.keep _
      m3 := rT.keep _
      a1 := fun a u K hK => ?a1
      a2 := fun a u K hK => ?a2
      s1 := by show 48 < 57; decide
      s2 := by show 49 < 57; decide
      s3 := by show 51 < 57; decide
      hT := tY_comm
      c1 := fun a u K hsame hu hK => ?c1
      c2 := fun a v1 u K hsame ha hu h7 hK => ?c2
      c3 := fun a v2 u K hsame ha hu h8 hK => ?c3
      t3 := fun f1 f2 a v u fuel ha hR hK => ?t3 } _ _ (by kernel_rfl) (Below.refl _ _).drew ?_
  case a1 =>
    go_simp
    exact hK
  case a2 =>
    go_simp
    exact hK
  case c1 =>
    have h46 : a.tmps[46]? = some (.agg #[.bool b1, .slice a1 k1 p1]) := hsame 46 (by decide) (by decide)
    have h47 : a.tmps[47]? = some (.agg #[.bool br', .slice ar' kr' pr']) := hsame 47 (by decide) (by decide)
    have HK := Lib.hid hK
    clear hsame hK
    go_simp
    go_at_call 70
    refine (ntimes_any _ _ n x' _ (NV.out.2.1.keep hu) (NV.out.2.2.1.keep hu) (Sm.up HL.out.2.1 (by omega)) (Sm.up HSM.out.2.2.2.1 (by omega))).mono ?_
    rintro e w7 ⟨v7, rfl, hn7, hb7⟩
    obtain ⟨b77, a77, k77, p77, rfl⟩ := hn7.sh
    exact HK.out.out _ _ ⟨_, _, _, _, rfl, hn7⟩ hb7
  case c2 =>
    obtain ⟨b77, a77, k77, p77, rfl, hn7⟩ := h7
    have h45 : a.tmps[45]? = some (.agg #[.bool bd, .slice ad kd pd]) := hsame 45 (by decide) (by decide) (by decide)
    have HN7 := Lib.hid hn7
    have HK := Lib.hid hK
    clear hn7 hsame hK
    go_simp
    go_at_call 62
    refine (nminus_any _ _ d (n * x') _ (NV.out.1.keep hu) HN7.out (Sm.up HSM.out.1 (by omega)) HSP.out.1).mono ?_
    rintro e w7 ⟨v7, rfl, hn8, hb8⟩
    obtain ⟨b88, a88, k88, p88, rfl⟩ := hn8.sh
    exact HK.out.out _ _ ⟨_, _, _, _, rfl, hn8⟩ hb8
  case c3 =>
    obtain ⟨b88, a88, k88, p88, rfl, hn8⟩ := h8
    have h50 : a.tmps[50]? = some (.agg #[.bool b2, .slice a2 k2 p2]) := hsame 50 (by decide) (by decide) (by decide) (by decide)
    have HN8 := Lib.hid hn8
    have HK := Lib.hid hK
    clear hn8 hsame hK
    go_simp
    go_at_call 101
    refine (ndivide_any M HD.out _ _ (d - n * x') m _ HN8.out (NV.out.2.2.2.keep hu) HM.out HL.out.1 HSP.out.2 (Sm.up HL.out.2.2 (by omega))).mono ?_
    rintro e w9 ⟨v9, v10, rfl, hn9, hn10, hb9⟩
    rw [← HE.out.2.2.2.2] at hn9
    obtain ⟨b99, a99, k99, p99, rfl⟩ := hn9.sh
    obtain ⟨b98, a98, k98, p98, rfl⟩ := hn10.sh
    exact HK.out.out _ _ ⟨_, _, _, _, _, _, _, _, rfl, hn9⟩ hb9
  case t3 =>
    obtain ⟨b99, a99, k99, p99, b98, a98, k98, p98, rfl, -⟩ := hR
    have hK' : wpAnyL Tryd.prog .any _ _ (fun u => Below V.heap.size V u) [12, 13] fuel (lF 3 f1 f2) (((a.put (some 44) (.tuple #[.agg #[.bool b99, .slice a99 k99 p99], .agg #[.bool b98, .slice a98 k98 p98]])).put (some 52) (.agg #[.bool b99, .slice a99 k99 p99])).put (some 53) (.agg #[.bool b98, .slice a98 k98 p98])) u := hK
    clear hK
    have e1 : (a.put (some 44) (.tuple #[.agg #[.bool b99, .slice a99 k99 p99], .agg #[.bool b98, .slice a98 k98 p98]])).tmps[44]? = some (.tuple #[.agg #[.bool b99, .slice a99 k99 p99], .agg #[.bool b98, .slice a98 k98 p98]]) := put_same _ _ _ (by have := (Array.getElem?_eq_some_iff.1 ha).1; omega)
    have e2 : ((a.put (some 44) (.tuple #[.agg #[.bool b99, .slice a99 k99 p99], .agg #[.bool b98, .slice a98 k98 p98]])).put (some 52) (.agg #[.bool b99, .slice a99 k99 p99])).tmps[44]? = some (.tuple #[.agg #[.bool b99, .slice a99 k99 p99], .agg #[.bool b98, .slice a98 k98 p98]]) := by
      rw [put_other _ _ _ _ (by omega)]; exact e1
    cases f1 <;> cases f2
    all_goals
      refine wpAnyL_pureD (i := 7) 44 (.tuple #[.agg #[.bool b99, .slice a99 k99 p99], .agg #[.bool b98, .slice a98 k98 p98]]) rfl rfl (by kernel_rfl) (by kernel_rfl) (by kernel_rfl) (fun _ _ _ h => h) (Or.inl ⟨by rfl, fun u _ => by go_simp⟩) ?_
      generalize a.put (some 44) (.tuple #[.agg #[.bool b99, .slice a99 k99 p99], .agg #[.bool b98, .slice a98 k98 p98]]) = a' at e1 e2 hK' ⊢
      refine wpAnyL_pureD (i := 8) 52 (.agg #[.bool b99, .slice a99 k99 p99]) rfl rfl (by kernel_rfl) (by kernel_rfl) (by kernel_rfl) (fun _ _ _ h => h) (Or.inl ⟨by rfl, fun u _ => by go_simp⟩) ?_
      generalize a'.put (some 52) (.agg #[.bool b99, .slice a99 k99 p99]) = a'' at e2 hK' ⊢
      refine wpAnyL_pureD (i := 9) 53 (.agg #[.bool b98, .slice a98 k98 p98]) rfl rfl (by kernel_rfl) (by kernel_rfl) (by kernel_rfl) (fun _ _ _ h => h) (Or.inl ⟨by rfl, fun u _ => by go_simp⟩) ?_
      exact hK'
  rintro v1 v2 v3 p q u hu ⟨b99, a99, k99, p99, b98, a98, k98, p98, rfl, hny⟩ hzp hzq hpq hp hq
  have HNY := Lib.hid hny
  have HZP := Lib.hid hzp
  have HZQ := Lib.hid hzq
  have HU := Lib.hid hu
  obtain ⟨g0, g1, g2, g3⟩ := zero_c0 hzp
  obtain ⟨h0, h1, h2, h3⟩ := zero_c0 hzq
  have hqp : ¬ q = p := fun e => hpq e.symm
  have hpq' : ¬ p = q := hpq
  clear hny hzp hzq hu hpq
  simp only [stF, putB, stK, tY, tupAt, ptr, Act.put, List.setIfInBounds_toArray, List.set_cons_zero, List.set_cons_succ]
  refine wpAnyL_one (i := 12) (by kernel_rfl) rfl (fun K hK => ?_)
  go_simp
  refine hK.out _ _ (fun h _ => absurd (by simp) h) ?_
  clear hK K
  refine wpAnyL_one (i := 13) (by kernel_rfl) rfl (fun K hK => ?_)
  go_simp
  refine hK.out _ _ (fun h _ => absurd (by simp) h) ?_
  clear hK K
  refine wpAnyL_done (by kernel_rfl) ?_ _
  obtain ⟨WX, hWX⟩ : ∃ WX, WX = ((((u.setCell ⟨p, 0, none⟩ (.bool b99)).setCell ⟨p, 1, none⟩ (.slice a99 k99 p99)).setCell ⟨q, 0, none⟩ (.bool b98)).setCell ⟨q, 1, none⟩ (.slice a98 k98 p98)) := ⟨_, rfl⟩
  rw [← hWX]
  have zp : Box 73 u p (.bool false) (.slice none 0 0) := HZP.out
  have zq : Box 73 u q (.bool false) (.slice none 0 0) := HZQ.out
  have zq2 := (zq.other ⟨p, 0, none⟩ (.bool b99) hqp).other ⟨p, 1, none⟩ (.slice a99 k99 p99) hqp
  have PX : Box 73 WX p (.bool b99) (.slice a99 k99 p99) := by
    rw [hWX]; exact (((zp.set0 _).set1 _).other _ _ hpq').other _ _ hpq'
  have NX : Nm WX (.agg #[.bool b99, .slice a99 k99 p99]) y := by
    rw [hWX]; exact Nm.stores (Nm.stores HNY.out zp _ _) zq2 _ _
  have BX : Below V.heap.size V WX := by
    rw [hWX]; exact (((HU.out.setCell hp _).setCell hp _).setCell hq _).setCell hq _
  have X4 := HVR.out.1.keep BX
  have X5 := HVR.out.2.1.keep BX
  have X6 := HVR.out.2.2.1.keep BX
  have X7 := HVR.out.2.2.2.1.keep BX
  have X8 := HVR.out.2.2.2.2.keep BX
  have HNX : Hid (Nm WX (.agg #[.bool bd, .slice ad kd pd]) d ∧ Nm WX (.agg #[.bool br', .slice ar' kr' pr']) x' ∧ Nm WX (.agg #[.bool b99, .slice a99 k99 p99]) y) := ⟨NV.out.1.keep BX, NV.out.2.2.1.keep BX, NX⟩
  have HXB : Hid (Box 73 WX (w.heap.size + 1 + 1) (.bool false) (.slice none 0 0) ∧ Box 73 WX (w.heap.size + 1 + 1 + 1) (.bool false) (.slice none 0 0) ∧ Box 73 WX (w.heap.size + 1 + 1 + 1 + 1) (.bool false) (.slice none 0 0)) := ⟨X4, X5, X6⟩
  have HBX : Hid (Below w.heap.size w WX) := BV.out.trans (BX.mono BV.out.size)
  clear g0 g1 g2 g3 h0 h1 h2 h3
  have r0 := X4.c0; have r1 := X4.c1; have r2 := X4.f0 0; have r3 := X4.f0 1
  have s0 := X5.c0; have s1 := X5.c1; have s2 := X5.f0 0; have s3 := X5.f0 1
  have t0 := X6.c0; have t1 := X6.c1; have t2 := X6.f0 0; have t3 := X6.f0 1
  have x0 := X7.c0; have x1 := X7.c1; have x2 := X8.c0; have x3 := X8.c1; have x4 := PX.c0; have x5 := PX.c1
  have n1 : ¬ (w.heap.size + 1 + 1 = w1.heap.size) := by omega
  have n2 : ¬ (w1.heap.size = w.heap.size + 1 + 1) := by omega
  have n3 : ¬ (w.heap.size + 1 + 1 = w1.heap.size + 1) := by omega
  have n4 : ¬ (w1.heap.size + 1 = w.heap.size + 1 + 1) := by omega
  have n5 : ¬ (w.heap.size + 1 + 1 = p) := by omega
  have n6 : ¬ (p = w.heap.size + 1 + 1) := by omega
  have n7 : ¬ (w.heap.size + 1 + 1 + 1 = w1.heap.size) := by omega
  have n8 : ¬ (w1.heap.size = w.heap.size + 1 + 1 + 1) := by omega
  have n9 : ¬ (w.heap.size + 1 + 1 + 1 = w1.heap.size + 1) := by omega
  have n10 : ¬ (w1.heap.size + 1 = w.heap.size + 1 + 1 + 1) := by omega
  have n11 : ¬ (w.heap.size + 1 + 1 + 1 = p) := by omega
  have n12 : ¬ (p = w.heap.size + 1 + 1 + 1) := by omega
  have n13 : ¬ (w.heap.size + 1 + 1 = w1.heap.size) := by omega
  have n14 : ¬ (w.heap.size + 1 = w1.heap.size) := by omega
  have n15 : ¬ (w1.heap.size = w.heap.size + 1) := by omega
  have n16 : ¬ (w.heap.size + 1 + 1 + 1 + 1 = w1.heap.size) := by omega
  have n17 : ¬ (w1.heap.size = w.heap.size + 1 + 1 + 1 + 1) := by omega
  have n18 : ¬ (w.heap.size + 1 + 1 + 1 + 1 = w1.heap.size + 1) := by omega
  have n19 : ¬ (w1.heap.size + 1 = w.heap.size + 1 + 1 + 1 + 1) := by omega
  have n20 : ¬ (w.heap.size + 1 + 1 + 1 + 1 = p) := by omega
  have n21 : ¬ (p = w.heap.size + 1 + 1 + 1 + 1) := by omega
  clear hWX zp zq zq2 PX NX BX X4 X5 X6 X7 X8 hqp hpq'
  go_wp2
  go_region
  go_wp2
  refine bodyPost_ret (v := .tuple #[.agg #[.bool bd, .slice ad kd pd], .agg #[.bool br', .slice ar' kr' pr'], .agg #[.bool b99, .slice a99 k99 p99]]) (by simp [results, Tryd.results77, go_sem, r0, r1, s0, s1, t0, t1]) rfl ⟨_, _, _, rfl, ?_, ?_, ?_, ?_⟩
  · exact (Nm.stores3 HNX.out.1 HXB.out.1 HXB.out.2.1 HXB.out.2.2 (by omega) (by omega) (by omega) _ _ _ _ _ _).keep (Below.refl _ _).drew
  · exact (Nm.stores3 HNX.out.2.1 HXB.out.1 HXB.out.2.1 HXB.out.2.2 (by omega) (by omega) (by omega) _ _ _ _ _ _).keep (Below.refl _ _).drew
  · exact (Nm.stores3 HNX.out.2.2 HXB.out.1 HXB.out.2.1 HXB.out.2.2 (by omega) (by omega) (by omega) _ _ _ _ _ _).keep (Below.refl _ _).drew
  · exact ((((((HBX.out.setCell (by simp; omega) _).setCell (by simp; omega) _).setCell (by simp; omega) _).setCell (by simp; omega) _).setCell (by simp; omega) _).setCell (by simp; omega) _).drew
end Go.Proofs.YtbmonfbbkmpdhaaDoor
