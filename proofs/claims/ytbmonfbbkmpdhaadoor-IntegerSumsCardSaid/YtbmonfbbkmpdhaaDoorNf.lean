/- Walks of the numbers' functions: quotients, rounded down. -/
import Derived.Test.YtbmonfbbkmpdhaaDoorNe
namespace Go.Proofs.YtbmonfbbkmpdhaaDoor
open Go.RowKit Go.Proofs.Num

theorem boxes4 (w : World) (x1 y1 x2 y2 x3 y3 x4 y4 : Value) : ∃ W, W = (((w.alloc (.cells #[x1, y1] 73)).alloc (.cells #[x2, y2] 73)).alloc (.cells #[x3, y3] 73)).alloc (.cells #[x4, y4] 73) ∧
    Box 73 W w.heap.size x1 y1 ∧ Box 73 W (w.heap.size + 1) x2 y2 ∧ Box 73 W (w.heap.size + 1 + 1) x3 y3 ∧ Box 73 W (w.heap.size + 1 + 1 + 1) x4 y4 ∧ Below w.heap.size w W ∧ W.heap.size = w.heap.size + 1 + 1 + 1 + 1 := by
  obtain ⟨W, hW, h1, h2, h3, hb, hz⟩ := boxes3 w x1 y1 x2 y2 x3 y3
  refine ⟨_, by rw [← hW], h1.alloc _, h2.alloc _, h3.alloc _, ?_, hb.alloc (by omega) _, by rw [World.size_alloc, hz]⟩
  have := Box.new 73 W x4 y4
  rwa [hz] at this

def Gives2N (w : World) (q r : Int) (e : Ending) (w' : World) : Prop := ∃ v1 v2, e = .returned (.tuple #[v1, v2]) ∧ Nm w' v1 q ∧ Nm w' v2 r ∧ Below w.heap.size w w'

theorem nm_one (w : World) : Nm (w.alloc (.cells #[.int .u64 1] 102)) (.agg #[.bool false, .slice (some ⟨w.heap.size, 0, none⟩) 1 1]) 1 := by
  refine ⟨_, rfl, ?_⟩
  unfold Wd
  rw [show (1 : Int).natAbs = 1 from rfl, dig_one (by omega) (by omega)]
  exact rd_one w 1

theorem signed_nm {z : Int} {w : World} {b b' : Bool} {a : Option Addr} {k cap : Nat} (h : Wd w (.slice a k cap) z.natAbs) (hb : z ≠ 0 → b = decide (z < 0)) (hb' : b' = (b && decide (0 < k))) : Nm w (.agg #[.bool b', .slice a k cap]) z := by
  refine Nm.mk' ?_ h
  have hk := (Wd.len h).2
  rw [hb']
  by_cases hz : z = 0
  · have : k = 0 := by rw [hk]; omega
    subst this; subst hz; simp
  · rw [hb hz, Bool.eq_iff_iff]; simp; omega

theorem zq_abs (c : Prop) [Decidable c] (q : Nat) : (if c then (q : Int) else -(q : Int)).natAbs = q := by split <;> omega
theorem zr_abs (c : Prop) [Decidable c] (q : Nat) : (if c then -(q : Int) else (q : Int)).natAbs = q := by split <;> omega
theorem sgq (b1 b2 : Bool) (q : Nat) (h0 : (if b1 = b2 then (q : Int) else -(q : Int)) ≠ 0) : (!(b1 == b2)) = decide ((if b1 = b2 then (q : Int) else -(q : Int)) < 0) := by
  by_cases h : b1 = b2
  · rw [if_pos h]; subst h; simp
  · rw [if_neg h] at h0 ⊢
    have : (b1 == b2) = false := by simpa using h
    rw [this]; simp; omega
theorem sgr (x : Int) (r : Nat) (h0 : (if x < 0 then -(r : Int) else (r : Int)) ≠ 0) : decide (x < 0) = decide ((if x < 0 then -(r : Int) else (r : Int)) < 0) := by
  by_cases h : x < 0
  · rw [if_pos h] at h0 ⊢; simp [h]; omega
  · rw [if_neg h]; simp [h]

set_option maxHeartbeats 6400000 in
set_option maxRecDepth 100000 in
/-- number.divide -/
theorem ndivide_any (M : Nat) (hD : DivTo M) (v1 v2 : Value) (x y : Int) (w : World) (h1 : Nm w v1 x) (h2 : Nm w v2 y) (hy : y ≠ 0) (hyM : y.natAbs ≤ M) (hm : Sm x 1073741823) (hn : Sm y 1073741823) :
    Calls Tryd.prog 101 #[v1, v2] w (Gives2N w (qz x y) (rz x y)) := by
  obtain ⟨b1, a1, k1, p1, rfl⟩ := h1.sh
  obtain ⟨b2, a2, k2, p2, rfl⟩ := h2.sh
  obtain ⟨hb1, g1, -, hz1⟩ := h1.parts
  obtain ⟨hb2, g2, -, hz2⟩ := h2.parts
  obtain ⟨W, hW, hA, hB, hR, hR2, hBl, hsz⟩ := boxes4 w (.bool b1) (.slice a1 k1 p1) (.bool b2) (.slice a2 k2 p2) (.bool false) (.slice none 0 0) (.bool false) (.slice none 0 0)
  have HL : Hid (y.natAbs ≤ M ∧ Sm x 1073741823 ∧ Sm y 1073741823 ∧ 0 < y.natAbs) := ⟨hyM, hm, hn, by omega⟩
  have HX : Hid (b1 = decide (x < 0) ∧ b2 = decide (y < 0) ∧ y ≠ 0) := ⟨hb1, hb2, hy⟩
  have HG : Hid (Wd W (.slice a1 k1 p1) x.natAbs ∧ Wd W (.slice a2 k2 p2) y.natAbs ∧ Nm W (.agg #[.bool b2, .slice a2 k2 p2]) y) := ⟨g1.keep hBl, g2.keep hBl, h2.keep hBl⟩
  have HW := Lib.hid hW
  have HA := Lib.hid hA
  have HB := Lib.hid hB
  have HR := Lib.hid hR
  have HR2 := Lib.hid hR2
  have HZ := Lib.hid hsz
  have e1 := hA.c0; have e2 := hA.c1; have e3 := hB.c0; have e4 := hB.c1
  have HD := Lib.hid hD
  clear hA hB hR hR2 hW hsz hm hn h1 h2 hb1 hb2 g1 g2 hz1 hz2 hy hyM hD
  go_enter Tryd.func101, Tryd.ntmps101
  go_wp2_with fail
  rw [← HW.out]
  go_wp2_with fail
  refine (HD.out _ _ _ _ _ HG.out.1 HG.out.2.1 HL.out.2.2.2 HL.out.1 HL.out.2.1 HL.out.2.2.1).mono ?_
  rintro e w1 ⟨q1, r1, rfl, hq, hr, hb⟩
  obtain ⟨a3, k3, p3, rfl⟩ := Rd.sh hq
  obtain ⟨a4, k4, p4, rfl⟩ := Rd.sh hr
  have c1 := (HA.out.keep hb).c0
  have c3 := (HB.out.keep hb).c0
  go_wp2_with fail
  refine (signed_any _ _ _ _ _).mono ?_
  rintro e w2 ⟨he, hb2⟩
  generalize hbq : (!(b1 == b2) && decide (0 < k3)) = bq at he
  have HBQ := Lib.hid hbq
  clear hbq
  subst he
  obtain ⟨W8, hW8⟩ : ∃ W8, W8 = w2.alloc (.cells #[.bool bq, .slice a3 k3 p3] 73) := ⟨_, rfl⟩
  have hBlW : Below W.heap.size W W8 := by rw [hW8]; exact (hb.trans (hb2.mono hb.size)).alloc (Nat.le_trans hb.size hb2.size) _
  have hQ : Box 73 W8 w2.heap.size (.bool bq) (.slice a3 k3 p3) := by rw [hW8]; exact Box.new 73 w2 _ _
  have hW12 : Below w1.heap.size w1 W8 := by rw [hW8]; exact hb2.alloc hb2.size _
  have c1' := (HA.out.keep hBlW).c0
  rw [hW8] at c1'
  have HW8 := Lib.hid hW8
  have HQ := Lib.hid hQ
  clear hW8 hQ c1 c3
  go_wp2_with fail
  rw [← HW8.out]
  refine (signed_any _ _ _ _ _).mono ?_
  rintro e w3 ⟨he, hb3⟩
  generalize hbr : (b1 && decide (0 < k4)) = br at he
  have HBR := Lib.hid hbr
  clear hbr
  subst he
  obtain ⟨W9, hW9⟩ : ∃ W9, W9 = w3.alloc (.cells #[.bool br, .slice a4 k4 p4] 73) := ⟨_, rfl⟩
  have hB9 : Below W8.heap.size W8 W9 := by rw [hW9]; exact hb3.alloc hb3.size _
  have hBlW9 : Below W.heap.size W W9 := hBlW.trans (hB9.mono hBlW.size)
  have hW19 : Below w1.heap.size w1 W9 := hW12.trans (hB9.mono hW12.size)
  have hRm : Box 73 W9 w3.heap.size (.bool br) (.slice a4 k4 p4) := by rw [hW9]; exact Box.new 73 w3 _ _
  have hQ9 := HQ.out.keep hB9
  have hA9 := HA.out.keep hBlW9
  have hB9b := HB.out.keep hBlW9
  have hR9 := HR.out.keep hBlW9
  have hR29 := HR2.out.keep hBlW9
  have hB09 : Below w.heap.size w W9 := hBl.trans (hBlW9.mono hBl.size)
  have hz8 : W.heap.size ≤ w2.heap.size := Nat.le_trans hb.size hb2.size
  have hz9 : W8.heap.size ≤ w3.heap.size := hb3.size
  have hz8' : w2.heap.size < W8.heap.size := by rw [HW8.out, World.size_alloc]; omega
  have HZ' := HZ.out
  have hK0 : Kept [w.heap.size + 1 + 1, w.heap.size + 1 + 1 + 1] W9 W9 := Kept.start (by intro r hr; simp at hr; rcases hr with rfl | rfl; exact ⟨_, _, hR9⟩; exact ⟨_, _, hR29⟩)
  have HS : Hid (∀ u, Kept [w.heap.size + 1 + 1, w.heap.size + 1 + 1 + 1] W9 u → (Kept [w.heap.size + 1 + 1, w.heap.size + 1 + 1 + 1] W9 u ∧ u.cell? ⟨w2.heap.size, 0, none⟩ = some (.bool bq) ∧ u.cell? ⟨w2.heap.size, 1, none⟩ = some (.slice a3 k3 p3) ∧ u.cell? ⟨w3.heap.size, 0, none⟩ = some (.bool br) ∧ u.cell? ⟨w3.heap.size, 1, none⟩ = some (.slice a4 k4 p4) ∧ u.cell? ⟨w.heap.size + 1, 0, none⟩ = some (.bool b2) ∧ u.cell? ⟨w.heap.size + 1, 1, none⟩ = some (.slice a2 k2 p2))) :=
    fun u hu => ⟨hu, (hu.box hQ9 (by simp; omega)).c0, (hu.box hQ9 (by simp; omega)).c1, (hu.box hRm (by simp; omega)).c0, (hu.box hRm (by simp; omega)).c1, (hu.box hB9b (by simp)).c0, (hu.box hB9b (by simp)).c1⟩
  obtain ⟨hb1e, hb2e, hy⟩ := HX.out
  have hk4 := (Wd.len hr).2
  obtain ⟨zq, hzq⟩ : ∃ z : Int, z = if decide (x < 0) = decide (y < 0) then ((x.natAbs / y.natAbs : Nat) : Int) else -((x.natAbs / y.natAbs : Nat) : Int) := ⟨_, rfl⟩
  obtain ⟨zr, hzr⟩ : ∃ z : Int, z = if x < 0 then -((x.natAbs % y.natAbs : Nat) : Int) else ((x.natAbs % y.natAbs : Nat) : Int) := ⟨_, rfl⟩
  have hzqa : zq.natAbs = x.natAbs / y.natAbs := by rw [hzq]; exact zq_abs _ _
  have hzra : zr.natAbs = x.natAbs % y.natAbs := by rw [hzr]; exact zr_abs _ _
  have nQ : Nm W9 (.agg #[.bool bq, .slice a3 k3 p3]) zq := by
    refine signed_nm (b := !(b1 == b2)) (by rw [hzqa]; exact hq.keep hW19) (fun h0 => ?_) HBQ.out.symm
    rw [hb1e, hb2e]
    rw [hzq] at h0 ⊢
    exact sgq _ _ _ h0
  have nR : Nm W9 (.agg #[.bool br, .slice a4 k4 p4]) zr := by
    refine signed_nm (b := b1) (by rw [hzra]; exact hr.keep hW19) (fun h0 => ?_) HBR.out.symm
    rw [hb1e]
    rw [hzr] at h0 ⊢
    exact sgr _ _ h0
  have nB : Nm W9 (.agg #[.bool b2, .slice a2 k2 p2]) y := HG.out.2.2.keep hBlW9
  have HW9 := Lib.hid hW9
  clear hW9
  have HN : Hid (Nm W9 (.agg #[.bool bq, .slice a3 k3 p3]) zq ∧ Nm W9 (.agg #[.bool br, .slice a4 k4 p4]) zr ∧ Nm W9 (.agg #[.bool b2, .slice a2 k2 p2]) y) := ⟨nQ, nR, nB⟩
  have g1 := hA9.c0; have g3 := hB9b.c0
  by_cases hcase : 0 < k4 ∧ b1 ≠ b2
  · obtain ⟨hc1, hc2⟩ := hcase
    have hfin := qz_diff hy (by rw [hb1e, hb2e] at hc2; simpa using hc2) (by omega)
    have hne : (b1 == b2) = false := by simpa using hc2
    have hk40 : decide (0 < k4) = true := by simpa using hc1
    rw [HW9.out] at g1 g3
    have hzqa' := hzqa
    have hzra' := hzra
    have hzqe : zq = -((x.natAbs / y.natAbs : Nat) : Int) := by rw [hzq, if_neg (by rw [← hb1e, ← hb2e]; exact hc2)]
    have hzre : zr = (if x < 0 then -((x.natAbs % y.natAbs : Nat) : Int) else ((x.natAbs % y.natAbs : Nat) : Int)) := hzr
    have HK0 := Lib.hid hK0
    clear hb1e hb2e nQ nR nB hzqa hzra hzq hzr hk4 hB9 hBlW hQ9 hA9 hB9b hR9 hR29 hRm hK0 c1'
    have hS1 : Sm zq 1073741823 := by
      unfold Sm; rw [hzqa']; exact Nat.le_trans (dig_length_mono (by omega) (Nat.div_le_self _ _)) HL.out.2.1
    have hS2 : Sm zr 1073741823 := by
      unfold Sm; rw [hzra']; exact Nat.le_trans (dig_length_mono (by omega) (Nat.mod_le _ _)) HL.out.2.1
    rw [← hzqe] at hfin
    rw [← hzre] at hfin
    have HFIN := Lib.hid hfin
    have HSM : Hid (Sm zq 4294967295 ∧ Sm 1 4294967295 ∧ Sm zr 4294967295 ∧ Sm y 4294967295) := ⟨Nat.le_trans hS1 (by omega), by unfold Sm; rw [show (1 : Int).natAbs = 1 from rfl, dig_one (by omega) (by omega)]; simp, Nat.le_trans hS2 (by omega), Nat.le_trans HL.out.2.2.1 (by omega)⟩
    clear hfin hS1 hS2 hzqa' hzra' hzqe hzre hc2 hc1
    go_wp2_with fail
    rw [← HW9.out]
    have hK1 := HK0.out.drew
    obtain ⟨_, d1, d2, d3, d4, d5, d6⟩ := HS.out _ hK1
    go_region_held3 (fun u => Kept [w.heap.size + 1 + 1, w.heap.size + 1 + 1 + 1] W9 u ∧ u.cell? ⟨w2.heap.size, 0, none⟩ = some (.bool bq) ∧ u.cell? ⟨w2.heap.size, 1, none⟩ = some (.slice a3 k3 p3) ∧ u.cell? ⟨w3.heap.size, 0, none⟩ = some (.bool br) ∧ u.cell? ⟨w3.heap.size, 1, none⟩ = some (.slice a4 k4 p4) ∧ u.cell? ⟨w.heap.size + 1, 0, none⟩ = some (.bool b2) ∧ u.cell? ⟨w.heap.size + 1, 1, none⟩ = some (.slice a2 k2 p2))
      (first | exact HS.out _ (Kept.store (by assumption) _ _ _ (by simp)) | exact HS.out _ (Kept.store (Kept.store (by assumption) _ _ _ (by simp)) _ _ _ (by simp)) | exact HS.out _ (by assumption) | exact HS.out _ (Kept.drew (by assumption)) | exact HS.out _ (Kept.alloc (by assumption) _) | exact HS.out _ (Kept.drew (Kept.alloc (by assumption) _)))
      (first
        | (go_at_call 62; refine (nminus_any _ _ zq 1 _ (HN.out.1.keep (below1 W9 _).drew) ((nm_one W9).keep (Below.refl _ _).drew) HSM.out.1 HSM.out.2.1).mono ?_; rintro e w4 ⟨v', rfl, hn1, hb4⟩; obtain ⟨b5, a5, k5, p5, rfl⟩ := hn1.sh; have hb94 : Below W9.heap.size W9 w4 := ((below1 W9 _).drew).trans (hb4.mono (by simp)); have hk2 := HK0.out.step hb94; obtain ⟨_, f1, f2, f3, f4, f5, f6⟩ := HS.out _ hk2)
        | (go_at_call 59; refine (nplus_any _ _ zr y _ (HN.out.2.1.keep hb94) (HN.out.2.2.keep hb94) HSM.out.2.2.1 HSM.out.2.2.2).mono ?_; rintro e w5 ⟨v', rfl, hn2, hb5⟩; obtain ⟨b6, a6, k6, p6, rfl⟩ := hn2.sh; have hk3 := hk2.step hb5; obtain ⟨_, j1, j2, j3, j4, j5, j6⟩ := HS.out _ hk3; obtain ⟨x5, y5, q5⟩ := hk3.wr (w.heap.size + 1 + 1) (by simp); obtain ⟨x6, y6, q6⟩ := hk3.wr (w.heap.size + 1 + 1 + 1) (by simp); have q51 := q5.c0; have q52 := q5.c1; have q53 := q5.f0 0; have q54 := q5.f0 1; have q61 := q6.c0; have q62 := q6.c1; have q63 := q6.f0 0; have q64 := q6.f0 1; have q5l := q5.lt; have q6l := q6.lt))
    go_wp2
    refine bodyPost_ret (v := .tuple #[.agg #[.bool b5, .slice a5 k5 p5], .agg #[.bool b6, .slice a6 k6 p6]]) (by simp [results, Tryd.results101, go_sem, q51, q52, q61, q62]) rfl ⟨_, _, rfl, ?_, ?_, ?_⟩
    · rw [HFIN.out.1]
      exact Nm.stores (Nm.stores (hn1.keep hb5) q5 _ _) ((q6.other _ _ (by simp)).other _ _ (by simp)) _ _
    · rw [HFIN.out.2]
      exact Nm.stores (Nm.stores hn2 q5 _ _) ((q6.other _ _ (by simp)).other _ _ (by simp)) _ _
    · exact (Kept.store (Kept.store hk3 _ _ _ (by simp)) _ _ _ (by simp)).from hB09 (by simp; omega)
  · have hfin := qz_same (x := x) hy (by
      by_cases h0 : 0 < k4
      · left
        have : b1 = b2 := by
          apply Classical.byContradiction; intro hh; exact hcase ⟨h0, hh⟩
        rw [hb1e, hb2e] at this; simpa using this
      · right; omega)
    rw [← hzq, ← hzr] at hfin
    have HFIN := Lib.hid hfin
    have HK0 := Lib.hid hK0
    have hne : (decide (0 < k4) && !(b1 == b2)) = false := by
      cases h1 : decide (0 < k4) with
      | false => rfl
      | true =>
        have h2 : 0 < k4 := by simpa using h1
        have h3 : b1 = b2 := by apply Classical.byContradiction; intro hh; exact hcase ⟨h2, hh⟩
        simp [h3]
    rw [HW9.out] at g1 g3
    clear hb1e hb2e nQ nR nB hzqa hzra hzq hzr hk4 hB9 hBlW hQ9 hA9 hB9b hRm hK0 c1' hfin hcase
    have HR9 := Lib.hid hR9
    have HR29 := Lib.hid hR29
    clear hR9 hR29
    rcases (show k4 = 0 ∨ 0 < k4 by omega) with h0 | h0
    · subst h0
      go_wp2_with fail
      rw [← HW9.out]
      have hK1 := HK0.out.drew
      obtain ⟨_, d1, d2, d3, d4, d5, d6⟩ := HS.out _ hK1
      have q5 := HR9.out
      have q6 := HR29.out
      have q51 := q5.c0; have q52 := q5.c1; have q53 := q5.f0 0; have q54 := q5.f0 1; have q61 := q6.c0; have q62 := q6.c1; have q63 := q6.f0 0; have q64 := q6.f0 1; have q5l := q5.lt; have q6l := q6.lt
      have Q5 := Lib.hid q5
      have Q6 := Lib.hid q6
      clear q5 q6
      go_region_held3 (fun u => Kept [w.heap.size + 1 + 1, w.heap.size + 1 + 1 + 1] W9 u ∧ u.cell? ⟨w2.heap.size, 0, none⟩ = some (.bool bq) ∧ u.cell? ⟨w2.heap.size, 1, none⟩ = some (.slice a3 k3 p3) ∧ u.cell? ⟨w3.heap.size, 0, none⟩ = some (.bool br) ∧ u.cell? ⟨w3.heap.size, 1, none⟩ = some (.slice a4 0 p4) ∧ u.cell? ⟨w.heap.size + 1, 0, none⟩ = some (.bool b2) ∧ u.cell? ⟨w.heap.size + 1, 1, none⟩ = some (.slice a2 k2 p2))
        (first | exact HS.out _ (Kept.drew (Kept.store HK0.out _ _ _ (by simp))) | exact HS.out _ (Kept.drew (Kept.store (Kept.store HK0.out _ _ _ (by simp)) _ _ _ (by simp))) | exact HS.out _ (Kept.store hK1 _ _ _ (by simp)) | exact HS.out _ (Kept.store (Kept.store hK1 _ _ _ (by simp)) _ _ _ (by simp)) | exact HS.out _ hK1 | exact HS.out _ HK0.out)
        (fail)
      go_wp2
      refine bodyPost_ret (v := .tuple #[.agg #[.bool bq, .slice a3 k3 p3], .agg #[.bool br, .slice a4 0 p4]]) (by simp [results, Tryd.results101, go_sem, q51, q52, q61, q62]) rfl ⟨_, _, rfl, ?_, ?_, ?_⟩
      · rw [HFIN.out.1]
        exact (Nm.stores (Nm.stores HN.out.1 Q5.out _ _) ((Q6.out.other _ _ (by simp)).other _ _ (by simp)) _ _).keep (Below.refl _ _).drew
      · rw [HFIN.out.2]
        exact (Nm.stores (Nm.stores HN.out.2.1 Q5.out _ _) ((Q6.out.other _ _ (by simp)).other _ _ (by simp)) _ _).keep (Below.refl _ _).drew
      · exact (Kept.drew (Kept.store (Kept.store HK0.out _ _ _ (by simp)) _ _ _ (by simp))).from hB09 (by simp; omega)
    · have hk40 : decide (0 < k4) = true := by simpa using h0
      have hbe : (b1 == b2) = true := by rw [hk40] at hne; simpa using hne
      clear hne h0
      go_wp2_with fail
      rw [← HW9.out]
      have hK1 := HK0.out.drew
      obtain ⟨_, d1, d2, d3, d4, d5, d6⟩ := HS.out _ hK1
      have q5 := HR9.out
      have q6 := HR29.out
      have q51 := q5.c0; have q52 := q5.c1; have q53 := q5.f0 0; have q54 := q5.f0 1; have q61 := q6.c0; have q62 := q6.c1; have q63 := q6.f0 0; have q64 := q6.f0 1; have q5l := q5.lt; have q6l := q6.lt
      have Q5 := Lib.hid q5
      have Q6 := Lib.hid q6
      clear q5 q6
      go_region_held3 (fun u => Kept [w.heap.size + 1 + 1, w.heap.size + 1 + 1 + 1] W9 u ∧ u.cell? ⟨w2.heap.size, 0, none⟩ = some (.bool bq) ∧ u.cell? ⟨w2.heap.size, 1, none⟩ = some (.slice a3 k3 p3) ∧ u.cell? ⟨w3.heap.size, 0, none⟩ = some (.bool br) ∧ u.cell? ⟨w3.heap.size, 1, none⟩ = some (.slice a4 k4 p4) ∧ u.cell? ⟨w.heap.size + 1, 0, none⟩ = some (.bool b2) ∧ u.cell? ⟨w.heap.size + 1, 1, none⟩ = some (.slice a2 k2 p2))
        (first | exact HS.out _ (Kept.drew (Kept.store HK0.out _ _ _ (by simp))) | exact HS.out _ (Kept.drew (Kept.store (Kept.store HK0.out _ _ _ (by simp)) _ _ _ (by simp))) | exact HS.out _ (Kept.store hK1 _ _ _ (by simp)) | exact HS.out _ (Kept.store (Kept.store hK1 _ _ _ (by simp)) _ _ _ (by simp)) | exact HS.out _ hK1 | exact HS.out _ HK0.out)
        (fail)
      go_wp2
      refine bodyPost_ret (v := .tuple #[.agg #[.bool bq, .slice a3 k3 p3], .agg #[.bool br, .slice a4 k4 p4]]) (by simp [results, Tryd.results101, go_sem, q51, q52, q61, q62]) rfl ⟨_, _, rfl, ?_, ?_, ?_⟩
      · rw [HFIN.out.1]
        exact (Nm.stores (Nm.stores HN.out.1 Q5.out _ _) ((Q6.out.other _ _ (by simp)).other _ _ (by simp)) _ _).keep (Below.refl _ _).drew
      · rw [HFIN.out.2]
        exact (Nm.stores (Nm.stores HN.out.2.1 Q5.out _ _) ((Q6.out.other _ _ (by simp)).other _ _ (by simp)) _ _).keep (Below.refl _ _).drew
      · exact (Kept.drew (Kept.store (Kept.store HK0.out _ _ _ (by simp)) _ _ _ (by simp))).from hB09 (by simp; omega)
end Go.Proofs.YtbmonfbbkmpdhaaDoor
