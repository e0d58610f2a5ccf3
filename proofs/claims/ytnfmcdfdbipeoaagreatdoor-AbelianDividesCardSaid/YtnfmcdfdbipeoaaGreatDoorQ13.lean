/- Walks of the numbers' functions: quotients, rounded down. And: A region that draws its order and holds three calls in a row, and two boxes that are made at any time. -/
import Derived.Test.YtnfmcdfdbipeoaaGreatDoorQ12
import Derived.Test.YtnfmcdfdbipeoaaGreatDoorQ01
namespace Go.Proofs.YtnfmcdfdbipeoaaGreatDoor
open Go.RowKit Go.Proofs.Num

theorem boxes4 (w : World) (x1 y1 x2 y2 x3 y3 x4 y4 : Value) : ∃ W, W = (((w.alloc (.cells #[x1, y1] 104)).alloc (.cells #[x2, y2] 104)).alloc (.cells #[x3, y3] 104)).alloc (.cells #[x4, y4] 104) ∧
    Box 104 W w.heap.size x1 y1 ∧ Box 104 W (w.heap.size + 1) x2 y2 ∧ Box 104 W (w.heap.size + 1 + 1) x3 y3 ∧ Box 104 W (w.heap.size + 1 + 1 + 1) x4 y4 ∧ Below w.heap.size w W ∧ W.heap.size = w.heap.size + 1 + 1 + 1 + 1 := by
  obtain ⟨W, hW, h1, h2, h3, hb, hz⟩ := boxes3 w x1 y1 x2 y2 x3 y3
  refine ⟨_, by rw [← hW], h1.alloc _, h2.alloc _, h3.alloc _, ?_, hb.alloc (by omega) _, by rw [World.size_alloc, hz]⟩
  have := Box.new 104 W x4 y4
  rwa [hz] at this

def Gives2N (w : World) (q r : Int) (e : Ending) (w' : World) : Prop := ∃ v1 v2, e = .returned (.tuple #[v1, v2]) ∧ Nm w' v1 q ∧ Nm w' v2 r ∧ Below w.heap.size w w'

theorem nm_one (w : World) : Nm (w.alloc (.cells #[.int .u64 1] 135)) (.agg #[.bool false, .slice (some ⟨w.heap.size, 0, none⟩) 1 1]) 1 := by
  refine ⟨_, rfl, ?_⟩
  unfold Wd
  rw [show (1 : Int).natAbs = 1 from rfl, dig_one (by omega) (by omega)]
  exact rd_one w 1

theorem signed_nm {z : Int} {w : World} {b b' : Bool} {a : Option Addr} {k cap : Nat} (h : Wd w (.slice a k cap) z.natAbs) (hb : z ≠ 0 → b = decide (z < 0)) (hb' : b' = (b && decide (0 < k))) : Nm w (.agg #[.bool b', .slice a k cap]) z := by
  refine Nm.mk' ?_ h
  have hk := (Wd.len h).2
  rw [hb']
  by_cases hz : z = 0
  · have : k = 0 := by rw [hk]; omega
    subst this; subst hz; simp
  · rw [hb hz, Bool.eq_iff_iff]; simp; omega

theorem zq_abs (c : Prop) [Decidable c] (q : Nat) : (if c then (q : Int) else -(q : Int)).natAbs = q := by split <;> omega
theorem zr_abs (c : Prop) [Decidable c] (q : Nat) : (if c then -(q : Int) else (q : Int)).natAbs = q := by split <;> omega
theorem sgq (b1 b2 : Bool) (q : Nat) (h0 : (if b1 = b2 then (q : Int) else -(q : Int)) ≠ 0) : (!(b1 == b2)) = decide ((if b1 = b2 then (q : Int) else -(q : Int)) < 0) := by
  by_cases h : b1 = b2
  · rw [if_pos h]; subst h; simp
  · rw [if_neg h] at h0 ⊢
    have : (b1 == b2) = false := by simpa using h
    rw [this]; simp; omega
theorem sgr (x : Int) (r : Nat) (h0 : (if x < 0 then -(r : Int) else (r : Int)) ≠ 0) : decide (x < 0) = decide ((if x < 0 then -(r : Int) else (r : Int)) < 0) := by
  by_cases h : x < 0
  · rw [if_pos h] at h0 ⊢; simp [h]; omega
  · rw [if_neg h]; simp [h]

set_option maxHeartbeats 6400000 in
set_option maxRecDepth 100000 in
/-- number.divide -/
theorem ndivide_any (M : Nat) (hD : DivTo M) (v1 v2 : Value) (x y : Int) (w : World) (h1 : Nm w v1 x) (h2 : Nm w v2 y) (hy : y ≠ 0) (hyM : y.natAbs ≤ M) (hm : Sm x 1073741823) (hn : Sm y 1073741823) :
    Calls Tryz.prog 127 #[v1, v2] w (Gives2N w (qz x y) (rz x y)) := by
  obtain ⟨b1, a1, k1, p1, rfl⟩ := h1.sh
  obtain ⟨b2, a2, k2, p2, rfl⟩ := h2.sh
  obtain ⟨hb1, g1, -, hz1⟩ := h1.parts
  obtain ⟨hb2, g2, -, hz2⟩ := h2.parts
  obtain ⟨W, hW, hA, hB, hR, hR2, hBl, hsz⟩ := boxes4 w (.bool b1) (.slice a1 k1 p1) (.bool b2) (.slice a2 k2 p2) (.bool false) (.slice none 0 0) (.bool false) (.slice none 0 0)
  have HL : Hid (y.natAbs ≤ M ∧ Sm x 1073741823 ∧ Sm y 1073741823 ∧ 0 < y.natAbs) := ⟨hyM, hm, hn, by omega⟩
  have HX : Hid (b1 = decide (x < 0) ∧ b2 = decide (y < 0) ∧ y ≠ 0) := ⟨hb1, hb2, hy⟩
  have HG : Hid (Wd W (.slice a1 k1 p1) x.natAbs ∧ Wd W (.slice a2 k2 p2) y.natAbs ∧ Nm W (.agg #[.bool b2, .slice a2 k2 p2]) y) := ⟨g1.keep hBl, g2.keep hBl, h2.keep hBl⟩
  have HW := Lib.hid hW
  have HA := Lib.hid hA
  have HB := Lib.hid hB
  have HR := Lib.hid hR
  have HR2 := Lib.hid hR2
  have HZ := Lib.hid hsz
  have e1 := hA.c0; have e2 := hA.c1; have e3 := hB.c0; have e4 := hB.c1
  have HD := Lib.hid hD
  clear hA hB hR hR2 hW hsz hm hn h1 h2 hb1 hb2 g1 g2 hz1 hz2 hy hyM hD
  go_enter Tryz.func127, Tryz.ntmps127
  go_wp2_with fail
  rw [← HW.out]
  go_wp2_with fail
  refine (HD.out _ _ _ _ _ HG.out.1 HG.out.2.1 HL.out.2.2.2 HL.out.1 HL.out.2.1 HL.out.2.2.1).mono ?_
  rintro e w1 ⟨q1, r1, rfl, hq, hr, hb⟩
  obtain ⟨a3, k3, p3, rfl⟩ := Rd.sh hq
  obtain ⟨a4, k4, p4, rfl⟩ := Rd.sh hr
  have c1 := (HA.out.keep hb).c0
  have c3 := (HB.out.keep hb).c0
  go_wp2_with fail
  refine (signed_any _ _ _ _ _).mono ?_
  rintro e w2 ⟨he, hb2⟩
  generalize hbq : (!(b1 == b2) && decide (0 < k3)) = bq at he
  have HBQ := Lib.hid hbq
  clear hbq
  subst he
  obtain ⟨W8, hW8⟩ : ∃ W8, W8 = w2.alloc (.cells #[.bool bq, .slice a3 k3 p3] 104) := ⟨_, rfl⟩
  have hBlW : Below W.heap.size W W8 := by rw [hW8]; exact (hb.trans (hb2.mono hb.size)).alloc (Nat.le_trans hb.size hb2.size) _
  have hQ : Box 104 W8 w2.heap.size (.bool bq) (.slice a3 k3 p3) := by rw [hW8]; exact Box.new 104 w2 _ _
  have hW12 : Below w1.heap.size w1 W8 := by rw [hW8]; exact hb2.alloc hb2.size _
  have c1' := (HA.out.keep hBlW).c0
  rw [hW8] at c1'
  have HW8 := Lib.hid hW8
  have HQ := Lib.hid hQ
  clear hW8 hQ c1 c3
  go_wp2_with fail
  rw [← HW8.out]
  refine (signed_any _ _ _ _ _).mono ?_
  rintro e w3 ⟨he, hb3⟩
  generalize hbr : (b1 && decide (0 < k4)) = br at he
  have HBR := Lib.hid hbr
  clear hbr
  subst he
  obtain ⟨W9, hW9⟩ : ∃ W9, W9 = w3.alloc (.cells #[.bool br, .slice a4 k4 p4] 104) := ⟨_, rfl⟩
  have hB9 : Below W8.heap.size W8 W9 := by rw [hW9]; exact hb3.alloc hb3.size _
  have hBlW9 : Below W.heap.size W W9 := hBlW.trans (hB9.mono hBlW.size)
  have hW19 : Below w1.heap.size w1 W9 := hW12.trans (hB9.mono hW12.size)
  have hRm : Box 104 W9 w3.heap.size (.bool br) (.slice a4 k4 p4) := by rw [hW9]; exact Box.new 104 w3 _ _
  have hQ9 := HQ.out.keep hB9
  have hA9 := HA.out.keep hBlW9
  have hB9b := HB.out.keep hBlW9
  have hR9 := HR.out.keep hBlW9
  have hR29 := HR2.out.keep hBlW9
  have hB09 : Below w.heap.size w W9 := hBl.trans (hBlW9.mono hBl.size)
  have hz8 : W.heap.size ≤ w2.heap.size := Nat.le_trans hb.size hb2.size
  have hz9 : W8.heap.size ≤ w3.heap.size := hb3.size
  have hz8' : w2.heap.size < W8.heap.size := by rw [HW8.out, World.size_alloc]; omega
  have HZ' := HZ.out
  have hK0 : Kept [w.heap.size + 1 + 1, w.heap.size + 1 + 1 + 1] W9 W9 := Kept.start (by intro r hr; simp at hr; rcases hr with rfl | rfl; exact ⟨_, _, hR9⟩; exact ⟨_, _, hR29⟩)
  have HS : Hid (∀ u, Kept [w.heap.size + 1 + 1, w.heap.size + 1 + 1 + 1] W9 u → (Kept [w.heap.size + 1 + 1, w.heap.size + 1 + 1 + 1] W9 u ∧ u.cell? ⟨w2.heap.size, 0, none⟩ = some (.bool bq) ∧ u.cell? ⟨w2.heap.size, 1, none⟩ = some (.slice a3 k3 p3) ∧ u.cell? ⟨w3.heap.size, 0, none⟩ = some (.bool br) ∧ u.cell? ⟨w3.heap.size, 1, none⟩ = some (.slice a4 k4 p4) ∧ u.cell? ⟨w.heap.size + 1, 0, none⟩ = some (.bool b2) ∧ u.cell? ⟨w.heap.size + 1, 1, none⟩ = some (.slice a2 k2 p2))) :=
    fun u hu => ⟨hu, (hu.box hQ9 (by simp; omega)).c0, (hu.box hQ9 (by simp; omega)).c1, (hu.box hRm (by simp; omega)).c0, (hu.box hRm (by simp; omega)).c1, (hu.box hB9b (by simp)).c0, (hu.box hB9b (by simp)).c1⟩
  obtain ⟨hb1e, hb2e, hy⟩ := HX.out
  have hk4 := (Wd.len hr).2
  obtain ⟨zq, hzq⟩ : ∃ z : Int, z = if decide (x < 0) = decide (y < 0) then ((x.natAbs / y.natAbs : Nat) : Int) else -((x.natAbs / y.natAbs : Nat) : Int) := ⟨_, rfl⟩
  obtain ⟨zr, hzr⟩ : ∃ z : Int, z = if x < 0 then -((x.natAbs % y.natAbs : Nat) : Int) else ((x.natAbs % y.natAbs : Nat) : Int) := ⟨_, rfl⟩
  have hzqa : zq.natAbs = x.natAbs / y.natAbs := by rw [hzq]; exact zq_abs _ _
  have hzra : zr.natAbs = x.natAbs % y.natAbs := by rw [hzr]; exact zr_abs _ _
  have nQ : Nm W9 (.agg #[.bool bq, .slice a3 k3 p3]) zq := by
    refine signed_nm (b := !(b1 == b2)) (by rw [hzqa]; exact hq.keep hW19) (fun h0 => ?_) HBQ.out.symm
    rw [hb1e, hb2e]
    rw [hzq] at h0 ⊢
    exact sgq _ _ _ h0
  have nR : Nm W9 (.agg #[.bool br, .slice a4 k4 p4]) zr := by
    refine signed_nm (b := b1) (by rw [hzra]; exact hr.keep hW19) (fun h0 => ?_) HBR.out.symm
    rw [hb1e]
    rw [hzr] at h0 ⊢
    exact sgr _ _ h0
  have nB : Nm W9 (.agg #[.bool b2, .slice a2 k2 p2]) y := HG.out.2.2.keep hBlW9
  have HW9 := Lib.hid hW9
  clear hW9
  have HN : Hid (Nm W9 (.agg #[.bool bq, .slice a3 k3 p3]) zq ∧ Nm W9 (.agg #[.bool br, .slice a4 k4 p4]) zr ∧ Nm W9 (.agg #[.bool b2, .slice a2 k2 p2]) y) := ⟨nQ, nR, nB⟩
  have g1 := hA9.c0; have g3 := hB9b.c0
  by_cases hcase : 0 < k4 ∧ b1 ≠ b2
  · obtain ⟨hc1, hc2⟩ := hcase
    have hfin := qz_diff hy (by rw [hb1e, hb2e] at hc2; simpa using hc2) (by omega)
    have hne : (b1 == b2) = false := by simpa using hc2
    have hk40 : decide (0 < k4) = true := by simpa using hc1
    rw [HW9.out] at g1 g3
    have hzqa' := hzqa
    have hzra' := hzra
    have hzqe : zq = -((x.natAbs / y.natAbs : Nat) : Int) := by rw [hzq, if_neg (by rw [← hb1e, ← hb2e]; exact hc2)]
    have hzre : zr = (if x < 0 then -((x.natAbs % y.natAbs : Nat) : Int) else ((x.natAbs % y.natAbs : Nat) : Int)) := hzr
    have HK0 := Lib.hid hK0
    clear hb1e hb2e nQ nR nB hzqa hzra hzq hzr hk4 hB9 hBlW hQ9 hA9 hB9b hR9 hR29 hRm hK0 c1'
    have hS1 : Sm zq 1073741823 := by
      unfold Sm; rw [hzqa']; exact Nat.le_trans (dig_length_mono (by omega) (Nat.div_le_self _ _)) HL.out.2.1
    have hS2 : Sm zr 1073741823 := by
      unfold Sm; rw [hzra']; exact Nat.le_trans (dig_length_mono (by omega) (Nat.mod_le _ _)) HL.out.2.1
    rw [← hzqe] at hfin
    rw [← hzre] at hfin
    have HFIN := Lib.hid hfin
    have HSM : Hid (Sm zq 4294967295 ∧ Sm 1 4294967295 ∧ Sm zr 4294967295 ∧ Sm y 4294967295) := ⟨Nat.le_trans hS1 (by omega), by unfold Sm; rw [show (1 : Int).natAbs = 1 from rfl, dig_one (by omega) (by omega)]; simp, Nat.le_trans hS2 (by omega), Nat.le_trans HL.out.2.2.1 (by omega)⟩
    clear hfin hS1 hS2 hzqa' hzra' hzqe hzre hc2 hc1
    go_wp2_with fail
    rw [← HW9.out]
    have hK1 := HK0.out.drew
    obtain ⟨_, d1, d2, d3, d4, d5, d6⟩ := HS.out _ hK1
    go_region_held3 (fun u => Kept [w.heap.size + 1 + 1, w.heap.size + 1 + 1 + 1] W9 u ∧ u.cell? ⟨w2.heap.size, 0, none⟩ = some (.bool bq) ∧ u.cell? ⟨w2.heap.size, 1, none⟩ = some (.slice a3 k3 p3) ∧ u.cell? ⟨w3.heap.size, 0, none⟩ = some (.bool br) ∧ u.cell? ⟨w3.heap.size, 1, none⟩ = some (.slice a4 k4 p4) ∧ u.cell? ⟨w.heap.size + 1, 0, none⟩ = some (.bool b2) ∧ u.cell? ⟨w.heap.size + 1, 1, none⟩ = some (.slice a2 k2 p2))
      (first | exact HS.out _ (Kept.store (by assumption) _ _ _ (by simp)) | exact HS.out _ (Kept.store (Kept.store (by assumption) _ _ _ (by simp)) _ _ _ (by simp)) | exact HS.out _ (by assumption) | exact HS.out _ (Kept.drew (by assumption)) | exact HS.out _ (Kept.alloc (by assumption) _) | exact HS.out _ (Kept.drew (Kept.alloc (by assumption) _)))
      (first
        | (go_at_call 143; refine (nminus_any _ _ zq 1 _ (HN.out.1.keep (below1 W9 _).drew) ((nm_one W9).keep (Below.refl _ _).drew) HSM.out.1 HSM.out.2.1).mono ?_; rintro e w4 ⟨v', rfl, hn1, hb4⟩; obtain ⟨b5, a5, k5, p5, rfl⟩ := hn1.sh; have hb94 : Below W9.heap.size W9 w4 := ((below1 W9 _).drew).trans (hb4.mono (by simp)); have hk2 := HK0.out.step hb94; obtain ⟨_, f1, f2, f3, f4, f5, f6⟩ := HS.out _ hk2)
        | (go_at_call 144; refine (nplus_any _ _ zr y _ (HN.out.2.1.keep hb94) (HN.out.2.2.keep hb94) HSM.out.2.2.1 HSM.out.2.2.2).mono ?_; rintro e w5 ⟨v', rfl, hn2, hb5⟩; obtain ⟨b6, a6, k6, p6, rfl⟩ := hn2.sh; have hk3 := hk2.step hb5; obtain ⟨_, j1, j2, j3, j4, j5, j6⟩ := HS.out _ hk3; obtain ⟨x5, y5, q5⟩ := hk3.wr (w.heap.size + 1 + 1) (by simp); obtain ⟨x6, y6, q6⟩ := hk3.wr (w.heap.size + 1 + 1 + 1) (by simp); have q51 := q5.c0; have q52 := q5.c1; have q53 := q5.f0 0; have q54 := q5.f0 1; have q61 := q6.c0; have q62 := q6.c1; have q63 := q6.f0 0; have q64 := q6.f0 1; have q5l := q5.lt; have q6l := q6.lt))
    go_wp2
    refine bodyPost_ret (v := .tuple #[.agg #[.bool b5, .slice a5 k5 p5], .agg #[.bool b6, .slice a6 k6 p6]]) (by simp [results, Tryz.results127, go_sem, q51, q52, q61, q62]) rfl ⟨_, _, rfl, ?_, ?_, ?_⟩
    · rw [HFIN.out.1]
      exact Nm.stores (Nm.stores (hn1.keep hb5) q5 _ _) ((q6.other _ _ (by simp)).other _ _ (by simp)) _ _
    · rw [HFIN.out.2]
      exact Nm.stores (Nm.stores hn2 q5 _ _) ((q6.other _ _ (by simp)).other _ _ (by simp)) _ _
    · exact (Kept.store (Kept.store hk3 _ _ _ (by simp)) _ _ _ (by simp)).from hB09 (by simp; omega)
  · have hfin := qz_same (x := x) hy (by
      by_cases h0 : 0 < k4
      · left
        have : b1 = b2 := by
          apply Classical.byContradiction; intro hh; exact hcase ⟨h0, hh⟩
        rw [hb1e, hb2e] at this; simpa using this
      · right; omega)
    rw [← hzq, ← hzr] at hfin
    have HFIN := Lib.hid hfin
    have HK0 := Lib.hid hK0
    have hne : (decide (0 < k4) && !(b1 == b2)) = false := by
      cases h1 : decide (0 < k4) with
      | false => rfl
      | true =>
        have h2 : 0 < k4 := by simpa using h1
        have h3 : b1 = b2 := by apply Classical.byContradiction; intro hh; exact hcase ⟨h2, hh⟩
        simp [h3]
    rw [HW9.out] at g1 g3
    clear hb1e hb2e nQ nR nB hzqa hzra hzq hzr hk4 hB9 hBlW hQ9 hA9 hB9b hRm hK0 c1' hfin hcase
    have HR9 := Lib.hid hR9
    have HR29 := Lib.hid hR29
    clear hR9 hR29
    rcases (show k4 = 0 ∨ 0 < k4 by omega) with h0 | h0
    · subst h0
      go_wp2_with fail
      rw [← HW9.out]
      have hK1 := HK0.out.drew
      obtain ⟨_, d1, d2, d3, d4, d5, d6⟩ := HS.out _ hK1
      have q5 := HR9.out
      have q6 := HR29.out
      have q51 := q5.c0; have q52 := q5.c1; have q53 := q5.f0 0; have q54 := q5.f0 1; have q61 := q6.c0; have q62 := q6.c1; have q63 := q6.f0 0; have q64 := q6.f0 1; have q5l := q5.lt; have q6l := q6.lt
      have Q5 := Lib.hid q5
      have Q6 := Lib.hid q6
      clear q5 q6
      go_region_held3 (fun u => Kept [w.heap.size + 1 + 1, w.heap.size + 1 + 1 + 1] W9 u ∧ u.cell? ⟨w2.heap.size, 0, none⟩ = some (.bool bq) ∧ u.cell? ⟨w2.heap.size, 1, none⟩ = some (.slice a3 k3 p3) ∧ u.cell? ⟨w3.heap.size, 0, none⟩ = some (.bool br) ∧ u.cell? ⟨w3.heap.size, 1, none⟩ = some (.slice a4 0 p4) ∧ u.cell? ⟨w.heap.size + 1, 0, none⟩ = some (.bool b2) ∧ u.cell? ⟨w.heap.size + 1, 1, none⟩ = some (.slice a2 k2 p2))
        (first | exact HS.out _ (Kept.drew (Kept.store HK0.out _ _ _ (by simp))) | exact HS.out _ (Kept.drew (Kept.store (Kept.store HK0.out _ _ _ (by simp)) _ _ _ (by simp))) | exact HS.out _ (Kept.store hK1 _ _ _ (by simp)) | exact HS.out _ (Kept.store (Kept.store hK1 _ _ _ (by simp)) _ _ _ (by simp)) | exact HS.out _ hK1 | exact HS.out _ HK0.out)
        (fail)
      go_wp2
      refine bodyPost_ret (v := .tuple #[.agg #[.bool bq, .slice a3 k3 p3], .agg #[.bool br, .slice a4 0 p4]]) (by simp [results, Tryz.results127, go_sem, q51, q52, q61, q62]) rfl ⟨_, _, rfl, ?_, ?_, ?_⟩
      · rw [HFIN.out.1]
        exact (Nm.stores (Nm.stores HN.out.1 Q5.out _ _) ((Q6.out.other _ _ (by simp)).other _ _ (by simp)) _ _).keep (Below.refl _ _).drew
      · rw [HFIN.out.2]
        exact (Nm.stores (Nm.stores HN.out.2.1 Q5.out _ _) ((Q6.out.other _ _ (by simp)).other _ _ (by simp)) _ _).keep (Below.refl _ _).drew
      · exact (Kept.drew (Kept.store (Kept.store HK0.out _ _ _ (by simp)) _ _ _ (by simp))).from hB09 (by simp; omega)
    · have hk40 : decide (0 < k4) = true := by simpa using h0
      have hbe : (b1 == b2) = true := by rw [hk40] at hne; simpa using hne
      clear hne h0
      go_wp2_with fail
      rw [← HW9.out]
      have hK1 := HK0.out.drew
      obtain ⟨_, d1, d2, d3, d4, d5, d6⟩ := HS.out _ hK1
      have q5 := HR9.out
      have q6 := HR29.out
      have q51 := q5.c0; have q52 := q5.c1; have q53 := q5.f0 0; have q54 := q5.f0 1; have q61 := q6.c0; have q62 := q6.c1; have q63 := q6.f0 0; have q64 := q6.f0 1; have q5l := q5.lt; have q6l := q6.lt
      have Q5 := Lib.hid q5
      have Q6 := Lib.hid q6
      clear q5 q6
      go_region_held3 (fun u => Kept [w.heap.size + 1 + 1, w.heap.size + 1 + 1 + 1] W9 u ∧ u.cell? ⟨w2.heap.size, 0, none⟩ = some (.bool bq) ∧ u.cell? ⟨w2.heap.size, 1, none⟩ = some (.slice a3 k3 p3) ∧ u.cell? ⟨w3.heap.size, 0, none⟩ = some (.bool br) ∧ u.cell? ⟨w3.heap.size, 1, none⟩ = some (.slice a4 k4 p4) ∧ u.cell? ⟨w.heap.size + 1, 0, none⟩ = some (.bool b2) ∧ u.cell? ⟨w.heap.size + 1, 1, none⟩ = some (.slice a2 k2 p2))
        (first | exact HS.out _ (Kept.drew (Kept.store HK0.out _ _ _ (by simp))) | exact HS.out _ (Kept.drew (Kept.store (Kept.store HK0.out _ _ _ (by simp)) _ _ _ (by simp))) | exact HS.out _ (Kept.store hK1 _ _ _ (by simp)) | exact HS.out _ (Kept.store (Kept.store hK1 _ _ _ (by simp)) _ _ _ (by simp)) | exact HS.out _ hK1 | exact HS.out _ HK0.out)
        (fail)
      go_wp2
      refine bodyPost_ret (v := .tuple #[.agg #[.bool bq, .slice a3 k3 p3], .agg #[.bool br, .slice a4 k4 p4]]) (by simp [results, Tryz.results127, go_sem, q51, q52, q61, q62]) rfl ⟨_, _, rfl, ?_, ?_, ?_⟩
      · rw [HFIN.out.1]
        exact (Nm.stores (Nm.stores HN.out.1 Q5.out _ _) ((Q6.out.other _ _ (by simp)).other _ _ (by simp)) _ _).keep (Below.refl _ _).drew
      · rw [HFIN.out.2]
        exact (Nm.stores (Nm.stores HN.out.2.1 Q5.out _ _) ((Q6.out.other _ _ (by simp)).other _ _ (by simp)) _ _).keep (Below.refl _ _).drew
      · exact (Kept.drew (Kept.store (Kept.store HK0.out _ _ _ (by simp)) _ _ _ (by simp))).from hB09 (by simp; omega)
end Go.Proofs.YtnfmcdfdbipeoaaGreatDoor

namespace Go.Proofs.YtnfmcdfdbipeoaaGreatDoor
open Go.RowKit Go.Proofs.Num

def ptr (p : Nat) : Value := .pointer (some ⟨p, 0, none⟩)
def stK (T : Act → Value → Act) (X0 : Act) (d1 d2 d3 : Nat) (v1 v2 v3 : Value) : Nat → Act
  | 0 => X0
  | 1 => X0.put (some d1) v1
  | 2 => (X0.put (some d1) v1).put (some d2) v2
  | _ => T (((X0.put (some d1) v1).put (some d2) v2).put (some d3) v3) v3
def putB (a : Act) (e : Nat) (b : Bool) (p : Nat) : Act := match b with | true => a.put (some e) (ptr p) | false => a
/-- The state with k calls done, and the boxes p and q made or not. -/
def stF (T : Act → Value → Act) (X0 : Act) (d1 d2 d3 e1 e2 : Nat) (k : Nat) (b1 b2 : Bool) (v1 v2 v3 : Value) (p q : Nat) : Act := putB (putB (stK T X0 d1 d2 d3 v1 v2 v3 k) e1 b1 p) e2 b2 q

theorem putB_put (a : Act) (e d : Nat) (b : Bool) (p : Nat) (v : Value) (h : d ≠ e) : (putB a e b p).put (some d) v = putB (a.put (some d) v) e b p := by
  cases b
  · rfl
  · exact Act.put_comm (x := some e) (y := some d) a (ptr p) v (fun x hx hy => h (by cases hx; cases hy; rfl))

theorem stF_call0 (T : Act → Value → Act) (X0 : Act) (d1 d2 d3 e1 e2 : Nat) (b1 b2 : Bool) (v1 v2 v3 v : Value) (p q : Nat) (h11 : d1 ≠ e1) (h12 : d1 ≠ e2) :
    (stF T X0 d1 d2 d3 e1 e2 0 b1 b2 v1 v2 v3 p q).put (some d1) v = stF T X0 d1 d2 d3 e1 e2 1 b1 b2 v v2 v3 p q := by
  show (putB (putB _ e1 b1 p) e2 b2 q).put (some d1) v = _
  rw [putB_put _ _ _ _ _ _ h12, putB_put _ _ _ _ _ _ h11]; rfl
theorem stF_call1 (T : Act → Value → Act) (X0 : Act) (d1 d2 d3 e1 e2 : Nat) (b1 b2 : Bool) (v1 v2 v3 v : Value) (p q : Nat) (h21 : d2 ≠ e1) (h22 : d2 ≠ e2) :
    (stF T X0 d1 d2 d3 e1 e2 1 b1 b2 v1 v2 v3 p q).put (some d2) v = stF T X0 d1 d2 d3 e1 e2 2 b1 b2 v1 v v3 p q := by
  show (putB (putB _ e1 b1 p) e2 b2 q).put (some d2) v = _
  rw [putB_put _ _ _ _ _ _ h22, putB_put _ _ _ _ _ _ h21]; rfl

theorem stF_one (T : Act → Value → Act) (X0 : Act) (d1 d2 d3 e1 e2 k : Nat) (b2 : Bool) (v1 v2 v3 : Value) (p0 p q : Nat) (h : e1 ≠ e2) :
    (stF T X0 d1 d2 d3 e1 e2 k false b2 v1 v2 v3 p0 q).put (some e1) (ptr p) = stF T X0 d1 d2 d3 e1 e2 k true b2 v1 v2 v3 p q := by
  unfold stF
  rw [putB_put _ _ _ _ _ _ h]; rfl
theorem stF_two (T : Act → Value → Act) (X0 : Act) (d1 d2 d3 e1 e2 k : Nat) (b1 : Bool) (v1 v2 v3 : Value) (p q0 q : Nat) :
    (stF T X0 d1 d2 d3 e1 e2 k b1 false v1 v2 v3 p q0).put (some e2) (ptr q) = stF T X0 d1 d2 d3 e1 e2 k b1 true v1 v2 v3 p q := rfl

theorem put_other (a : Act) (d j : Nat) (v : Value) (h : j ≠ d) : (a.put (some d) v).tmps[j]? = a.tmps[j]? := by
  show (a.tmps.setIfInBounds d v)[j]? = _
  rw [Array.getElem?_setIfInBounds_ne (Ne.symm h)]
theorem put_same (a : Act) (d : Nat) (v : Value) (h : d < a.tmps.size) : (a.put (some d) v).tmps[d]? = some v := by
  show (a.tmps.setIfInBounds d v)[d]? = _
  simp [h]
theorem putB_other (a : Act) (e j : Nat) (b : Bool) (p : Nat) (h : j ≠ e) : (putB a e b p).tmps[j]? = a.tmps[j]? := by
  cases b
  · rfl
  · exact put_other a e j _ h
theorem put_size (a : Act) (d : Nat) (v : Value) : (a.put (some d) v).tmps.size = a.tmps.size := by
  show (a.tmps.setIfInBounds d v).size = _
  simp

/-- A box without a sign and without words. -/
def ZBox : Obj := .cells #[.bool false, .slice none 0 0] 104
def Zero (w : World) (p : Nat) : Prop := Box 104 w p (.bool false) (.slice none 0 0)
theorem zero_new (w : World) : Zero (w.alloc ZBox) w.heap.size := Box.new 104 w _ _

def nB (b : Bool) : Nat := match b with | true => 0 | false => 1
def fz : Nat → Nat
  | 0 => 6
  | 1 => 5
  | 2 => 4
  | _ => 0
def rB (b : Bool) (f : Nat) : List Nat := match b with | true => [] | false => [f]

section
variable {P : Program} {ops : Array Oper} {Q : Exit → Act → World → Prop} {md : Region.Mode} {X : List Nat} {V : World}

/-- One of several comes up. -/
theorem wpAnyL_some {S : World → Prop} {rs : List Nat} {fuel : Nat} {listed : Array Bool} {a : Act} {w : World} (hr : Region.ready md ops listed = rs) (hne : rs ≠ [])
    (h : ∀ i ∈ rs, ∃ o, ops[i]? = some o ∧ ∀ K' : Act → World → Prop, Shut (∀ a w', (S w → S w') → wpAnyL P md ops Q S X fuel (listed.setIfInBounds i true) a w' → K' a w') → if Region.wanted o (yielded ops a.tmps) = true then Oper.wp P o a w K' Q else K' (a.put o.dst undef) w) :
    wpAnyL P md ops Q S X (fuel + 1) listed a w := by
  refine ⟨fun h0 => absurd (hr ▸ h0) hne, fun j hj => ?_⟩
  rw [hr] at hj
  obtain ⟨o, ho, hh⟩ := h j hj
  exact wpOp_step ho (fun K' hK => hh K' (fun a w hS hW => hK a w ⟨fun _ => hS, hW⟩))

variable {T : Act → Value → Act} {X0 : Act} {d1 d2 d3 e1 e2 i1 i2 i3 f1 f2 : Nat} {o1 o2 o3 g1 g2 : Oper} {L : Nat → Bool → Bool → Array Bool} {R1 R2 R3 : Value → World → Prop} {F : Nat}

/-- What holds in a state. -/
def GoodF (V : World) (R1 R2 R3 : Value → World → Prop) (k : Nat) (b1 b2 : Bool) (v1 v2 v3 : Value) (p q : Nat) (u : World) : Prop :=
  Below V.heap.size V u ∧ (k = 1 → R1 v1 u) ∧ (k = 2 → R2 v2 u) ∧ (k = 3 → R3 v3 u) ∧ (b1 = true → Zero u p ∧ V.heap.size ≤ p) ∧ (b2 = true → Zero u q ∧ V.heap.size ≤ q) ∧ (b1 = true → b2 = true → p ≠ q)

def OkF (P : Program) (ops : Array Oper) (Q : Exit → Act → World → Prop) (md : Region.Mode) (X : List Nat) (V : World) (T : Act → Value → Act) (X0 : Act) (d1 d2 d3 e1 e2 : Nat) (L : Nat → Bool → Bool → Array Bool) (R1 R2 R3 : Value → World → Prop) (F : Nat) (k : Nat) (b1 b2 : Bool) : Prop :=
  ∀ (v1 v2 v3 : Value) (p q : Nat) (u : World), GoodF V R1 R2 R3 k b1 b2 v1 v2 v3 p q u →
    wpAnyL P md ops Q (fun u => Below V.heap.size V u) X (F + fz k + nB b1 + nB b2) (L k b1 b2) (stF T X0 d1 d2 d3 e1 e2 k b1 b2 v1 v2 v3 p q) u

theorem GoodF.below {V u u' : World} {R1 R2 R3 : Value → World → Prop} {k : Nat} {b1 b2 : Bool} {v1 v2 v3 : Value} {p q : Nat} (h : GoodF V R1 R2 R3 k b1 b2 v1 v2 v3 p q u) (hb : Below u.heap.size u u') : Below V.heap.size V u' := h.1.trans (hb.mono h.1.size)

/-- Number i is taken first; its place is named. -/
theorem wpAnyL_takeD {S : World → Prop} {i : Nat} (d : Nat) (v : Value) {oi : Oper} {fuel : Nat} {listed : Array Bool} {a : Act} {w : World} (hi : ops[i]? = some oi) (hd : oi.dst = some d)
    (hs : Region.noSelect ops = true) (hsh : shutBelowB md ops listed = true) (hX : X.all (fun j => waitsB md ops ops.size j i) = true) (hf : Region.free md ops listed i = true) (hr : (Region.ready md ops listed).contains i = true)
    (hQ : ∀ c a w, Q (.panic c) (a.put oi.dst v) w → Q (.panic c) a w) (hS : S w) (hy : YieldsIf P ops S oi v a)
    (h : wpAnyL P md ops Q S X fuel (listed.setIfInBounds i true) (a.put (some d) v) w) : wpAnyL P md ops Q S X (fuel + 1) listed a w :=
  wpAnyL_take hi hs hsh hX hf hr hQ hS hy (by rw [hd]; exact h)
theorem wpAnyL_pureD {S : World → Prop} {i : Nat} (d : Nat) (v : Value) {oi : Oper} {fuel : Nat} {listed : Array Bool} {a : Act} {w : World} (hi : ops[i]? = some oi) (hd : oi.dst = some d)
    (hs : Region.noSelect ops = true) (hf : Region.free md ops listed i = true) (hr : (Region.ready md ops listed).contains i = true)
    (hQ : ∀ c a w, Q (.panic c) (a.put oi.dst v) w → Q (.panic c) a w) (hy : YieldsIf P ops (fun _ => True) oi v a)
    (h : wpAnyL P md ops Q S X fuel (listed.setIfInBounds i true) (a.put (some d) v) w) : wpAnyL P md ops Q S X (fuel + 1) listed a w :=
  wpAnyL_pure hi hs hf hr hQ hy (by rw [hd]; exact h)

/-- What the calls and the boxes do, and in which order they may come up. -/
structure FloatH (P : Program) (ops : Array Oper) (Q : Exit → Act → World → Prop) (md : Region.Mode) (X : List Nat) (V : World) (T : Act → Value → Act) (X0 : Act) (d1 d2 d3 e1 e2 i1 i2 i3 f1 f2 : Nat) (o1 o2 o3 g1 g2 : Oper) (L : Nat → Bool → Bool → Array Bool) (R1 R2 R3 : Value → World → Prop) : Prop where
  n11 : d1 ≠ e1
  n12 : d1 ≠ e2
  n21 : d2 ≠ e1
  n22 : d2 ≠ e2
  n31 : d3 ≠ e1
  n32 : d3 ≠ e2
  n : e1 ≠ e2
  at1 : ops[i1]? = some o1
  at2 : ops[i2]? = some o2
  at3 : ops[i3]? = some o3
  at4 : ops[f1]? = some g1
  at5 : ops[f2]? = some g2
  r0 : ∀ b1 b2, Region.ready md ops (L 0 b1 b2) = i1 :: (rB b1 f1 ++ rB b2 f2)
  r1 : ∀ b1 b2, Region.ready md ops (L 1 b1 b2) = i2 :: (rB b1 f1 ++ rB b2 f2)
  r2 : ∀ b1 b2, Region.ready md ops (L 2 b1 b2) = i3 :: (rB b1 f1 ++ rB b2 f2)
  r3 : Region.ready md ops (L 3 false true) = [f1]
  r4 : Region.ready md ops (L 3 true false) = [f2]
  r5 : Region.ready md ops (L 3 false false) = [f1, f2]
  l1 : ∀ b1 b2, (L 0 b1 b2).setIfInBounds i1 true = L 1 b1 b2
  l2 : ∀ b1 b2, (L 1 b1 b2).setIfInBounds i2 true = L 2 b1 b2
  l4 : ∀ k b2, k ≤ 3 → (L k false b2).setIfInBounds f1 true = L k true b2
  l5 : ∀ k b1, k ≤ 3 → (L k b1 false).setIfInBounds f2 true = L k b1 true
  m1 : ∀ v u u', R1 v u → Below u.heap.size u u' → R1 v u'
  m2 : ∀ v u u', R2 v u → Below u.heap.size u u' → R2 v u'
  m3 : ∀ v u u', R3 v u → Below u.heap.size u u' → R3 v u'
  a1 : ∀ (a : Act) (u : World) (K : Act → World → Prop), K (a.put (some e1) (ptr u.heap.size)) (u.alloc ZBox) → if Region.wanted g1 (yielded ops a.tmps) = true then Oper.wp P g1 a u K Q else K (a.put g1.dst undef) u
  a2 : ∀ (a : Act) (u : World) (K : Act → World → Prop), K (a.put (some e2) (ptr u.heap.size)) (u.alloc ZBox) → if Region.wanted g2 (yielded ops a.tmps) = true then Oper.wp P g2 a u K Q else K (a.put g2.dst undef) u
  s1 : d1 < X0.tmps.size
  s2 : d2 < X0.tmps.size
  s3 : d3 < X0.tmps.size
  hT : ∀ (a : Act) (e : Nat) (b : Bool) (p : Nat) (v : Value), e = e1 ∨ e = e2 → putB (T a v) e b p = T (putB a e b p) v
  c1 : ∀ (a : Act) u (K : Act → World → Prop), (∀ j, j ≠ e1 → j ≠ e2 → a.tmps[j]? = X0.tmps[j]?) → Below V.heap.size V u → Shut (∀ v u', R1 v u' → Below u.heap.size u u' → K (a.put (some d1) v) u') →
    if Region.wanted o1 (yielded ops a.tmps) = true then Oper.wp P o1 a u K Q else K (a.put o1.dst undef) u
  c2 : ∀ (a : Act) v1 u (K : Act → World → Prop), (∀ j, j ≠ e1 → j ≠ e2 → j ≠ d1 → a.tmps[j]? = X0.tmps[j]?) → a.tmps[d1]? = some v1 → Below V.heap.size V u → R1 v1 u → Shut (∀ v u', R2 v u' → Below u.heap.size u u' → K (a.put (some d2) v) u') →
    if Region.wanted o2 (yielded ops a.tmps) = true then Oper.wp P o2 a u K Q else K (a.put o2.dst undef) u
  c3 : ∀ (a : Act) v2 u (K : Act → World → Prop), (∀ j, j ≠ e1 → j ≠ e2 → j ≠ d1 → j ≠ d2 → a.tmps[j]? = X0.tmps[j]?) → a.tmps[d2]? = some v2 → Below V.heap.size V u → R2 v2 u → Shut (∀ v u', R3 v u' → Below u.heap.size u u' → K (a.put (some d3) v) u') →
    if Region.wanted o3 (yielded ops a.tmps) = true then Oper.wp P o3 a u K Q else K (a.put o3.dst undef) u
  t3 : ∀ b1 b2 (a : Act) v u fuel, a.tmps[d3]? = some v → R3 v u → wpAnyL P md ops Q (fun u => Below V.heap.size V u) X fuel (L 3 b1 b2) (T a v) u →
    wpAnyL P md ops Q (fun u => Below V.heap.size V u) X (fuel + 3) ((L 2 b1 b2).setIfInBounds i3 true) a u

theorem mem_rB {b : Bool} {f i : Nat} (h : i ∈ rB b f) : b = false ∧ i = f := by
  cases b
  · exact ⟨rfl, by simpa [rB] using h⟩
  · simp [rB] at h

theorem Zero.keep {w w' : World} {p : Nat} (h : Zero w p) (hb : Below w.heap.size w w') : Zero w' p := Box.keep h hb

theorem GoodF.keep {V u u' : World} {R1 R2 R3 : Value → World → Prop} {k : Nat} {b1 b2 : Bool} {v1 v2 v3 : Value} {p q : Nat} (m1 : ∀ v u u', R1 v u → Below u.heap.size u u' → R1 v u') (m2 : ∀ v u u', R2 v u → Below u.heap.size u u' → R2 v u') (m3 : ∀ v u u', R3 v u → Below u.heap.size u u' → R3 v u')
    (h : GoodF V R1 R2 R3 k b1 b2 v1 v2 v3 p q u) (hb : Below u.heap.size u u') : GoodF V R1 R2 R3 k b1 b2 v1 v2 v3 p q u' :=
  ⟨h.below hb, fun e => m1 _ _ _ (h.2.1 e) hb, fun e => m2 _ _ _ (h.2.2.1 e) hb, fun e => m3 _ _ _ (h.2.2.2.1 e) hb, fun e => ⟨(h.2.2.2.2.1 e).1.keep hb, (h.2.2.2.2.1 e).2⟩, fun e => ⟨(h.2.2.2.2.2.1 e).1.keep hb, (h.2.2.2.2.2.1 e).2⟩, h.2.2.2.2.2.2⟩

/-- Box one is made. -/
theorem FloatH.one (H : FloatH P ops Q md X V T X0 d1 d2 d3 e1 e2 i1 i2 i3 f1 f2 o1 o2 o3 g1 g2 L R1 R2 R3) {k : Nat} {b2 : Bool} (hk : k ≤ 3) (hn : OkF P ops Q md X V T X0 d1 d2 d3 e1 e2 L R1 R2 R3 F k true b2)
    {v1 v2 v3 : Value} {p q : Nat} {u : World} (hg : GoodF V R1 R2 R3 k false b2 v1 v2 v3 p q u) (K : Act → World → Prop)
    (hK : Shut (∀ a w', (Below V.heap.size V u → Below V.heap.size V w') → wpAnyL P md ops Q (fun u => Below V.heap.size V u) X (F + fz k + nB true + nB b2) ((L k false b2).setIfInBounds f1 true) a w' → K a w')) :
    if Region.wanted g1 (yielded ops (stF T X0 d1 d2 d3 e1 e2 k false b2 v1 v2 v3 p q).tmps) = true then Oper.wp P g1 (stF T X0 d1 d2 d3 e1 e2 k false b2 v1 v2 v3 p q) u K Q else K ((stF T X0 d1 d2 d3 e1 e2 k false b2 v1 v2 v3 p q).put g1.dst undef) u := by
  refine H.a1 _ _ _ (hK.out _ _ (fun h => h.alloc h.size _) ?_)
  rw [H.l4 k b2 hk, stF_one _ _ _ _ _ _ _ _ _ _ _ _ _ _ _ H.n]
  have hg' := hg.keep H.m1 H.m2 H.m3 (below1 u ZBox)
  refine hn v1 v2 v3 _ q _ ⟨hg'.1, hg'.2.1, hg'.2.2.1, hg'.2.2.2.1, fun _ => ⟨zero_new u, hg.1.size⟩, hg'.2.2.2.2.2.1, fun _ e hpq => ?_⟩
  have := Box.lt (hg.2.2.2.2.2.1 e).1
  omega

theorem FloatH.two (H : FloatH P ops Q md X V T X0 d1 d2 d3 e1 e2 i1 i2 i3 f1 f2 o1 o2 o3 g1 g2 L R1 R2 R3) {k : Nat} {b1 : Bool} (hk : k ≤ 3) (hn : OkF P ops Q md X V T X0 d1 d2 d3 e1 e2 L R1 R2 R3 F k b1 true)
    {v1 v2 v3 : Value} {p q : Nat} {u : World} (hg : GoodF V R1 R2 R3 k b1 false v1 v2 v3 p q u) (K : Act → World → Prop)
    (hK : Shut (∀ a w', (Below V.heap.size V u → Below V.heap.size V w') → wpAnyL P md ops Q (fun u => Below V.heap.size V u) X (F + fz k + nB b1 + nB true) ((L k b1 false).setIfInBounds f2 true) a w' → K a w')) :
    if Region.wanted g2 (yielded ops (stF T X0 d1 d2 d3 e1 e2 k b1 false v1 v2 v3 p q).tmps) = true then Oper.wp P g2 (stF T X0 d1 d2 d3 e1 e2 k b1 false v1 v2 v3 p q) u K Q else K ((stF T X0 d1 d2 d3 e1 e2 k b1 false v1 v2 v3 p q).put g2.dst undef) u := by
  refine H.a2 _ _ _ (hK.out _ _ (fun h => h.alloc h.size _) ?_)
  rw [H.l5 k b1 hk, stF_two]
  have hg' := hg.keep H.m1 H.m2 H.m3 (below1 u ZBox)
  refine hn v1 v2 v3 p _ _ ⟨hg'.1, hg'.2.1, hg'.2.2.1, hg'.2.2.2.1, hg'.2.2.2.2.1, fun _ => ⟨zero_new u, hg.1.size⟩, fun e _ hpq => ?_⟩
  have := Box.lt (hg.2.2.2.2.1 e).1
  omega

/-- A call of the row is done. -/
theorem GoodF.next1 {u u' : World} {b1 b2 : Bool} {v1 v2 v3 v : Value} {p q : Nat} (h : GoodF V R1 R2 R3 0 b1 b2 v1 v2 v3 p q u) (hb : Below u.heap.size u u') (hv : R1 v u') : GoodF V R1 R2 R3 1 b1 b2 v v2 v3 p q u' :=
  ⟨h.below hb, fun _ => hv, (fun e => (by cases e)), (fun e => (by cases e)), fun e => ⟨(h.2.2.2.2.1 e).1.keep hb, (h.2.2.2.2.1 e).2⟩, fun e => ⟨(h.2.2.2.2.2.1 e).1.keep hb, (h.2.2.2.2.2.1 e).2⟩, h.2.2.2.2.2.2⟩
theorem GoodF.next2 {u u' : World} {b1 b2 : Bool} {v1 v2 v3 v : Value} {p q : Nat} (h : GoodF V R1 R2 R3 1 b1 b2 v1 v2 v3 p q u) (hb : Below u.heap.size u u') (hv : R2 v u') : GoodF V R1 R2 R3 2 b1 b2 v1 v v3 p q u' :=
  ⟨h.below hb, (fun e => (by cases e)), fun _ => hv, (fun e => (by cases e)), fun e => ⟨(h.2.2.2.2.1 e).1.keep hb, (h.2.2.2.2.1 e).2⟩, fun e => ⟨(h.2.2.2.2.2.1 e).1.keep hb, (h.2.2.2.2.2.1 e).2⟩, h.2.2.2.2.2.2⟩
theorem GoodF.next3 {u u' : World} {b1 b2 : Bool} {v1 v2 v3 v : Value} {p q : Nat} (h : GoodF V R1 R2 R3 2 b1 b2 v1 v2 v3 p q u) (hb : Below u.heap.size u u') (hv : R3 v u') : GoodF V R1 R2 R3 3 b1 b2 v1 v2 v p q u' :=
  ⟨h.below hb, (fun e => (by cases e)), (fun e => (by cases e)), fun _ => hv, fun e => ⟨(h.2.2.2.2.1 e).1.keep hb, (h.2.2.2.2.1 e).2⟩, fun e => ⟨(h.2.2.2.2.2.1 e).1.keep hb, (h.2.2.2.2.2.1 e).2⟩, h.2.2.2.2.2.2⟩

/-- A state of the row's end. -/
theorem FloatH.ok3 (H : FloatH P ops Q md X V T X0 d1 d2 d3 e1 e2 i1 i2 i3 f1 f2 o1 o2 o3 g1 g2 L R1 R2 R3) (hend : OkF P ops Q md X V T X0 d1 d2 d3 e1 e2 L R1 R2 R3 F 3 true true) (b1 b2 : Bool) : OkF P ops Q md X V T X0 d1 d2 d3 e1 e2 L R1 R2 R3 F 3 b1 b2 := by
  have hft : OkF P ops Q md X V T X0 d1 d2 d3 e1 e2 L R1 R2 R3 F 3 false true := fun v1 v2 v3 p q u hg =>
    wpAnyL_some H.r3 (by simp) fun i hi => by
      obtain rfl : i = f1 := by simpa using hi
      exact ⟨g1, H.at4, fun K hK => H.one (Nat.le_refl _) hend hg K hK⟩
  have htf : OkF P ops Q md X V T X0 d1 d2 d3 e1 e2 L R1 R2 R3 F 3 true false := fun v1 v2 v3 p q u hg =>
    wpAnyL_some H.r4 (by simp) fun i hi => by
      obtain rfl : i = f2 := by simpa using hi
      exact ⟨g2, H.at5, fun K hK => H.two (Nat.le_refl _) hend hg K hK⟩
  cases b1 <;> cases b2
  · intro v1 v2 v3 p q u hg
    refine wpAnyL_some H.r5 (by simp) fun i hi => ?_
    rcases (show i = f1 ∨ i = f2 by simpa using hi) with rfl | rfl
    · exact ⟨g1, H.at4, fun K hK => H.one (Nat.le_refl _) htf hg K hK⟩
    · exact ⟨g2, H.at5, fun K hK => H.two (Nat.le_refl _) hft hg K hK⟩
  · exact hft
  · exact htf
  · exact hend

/-- A state before a call, if the states behind it and behind the boxes are fine. -/
theorem ok_step {k : Nat} {i : Nat} {o : Oper} (H : FloatH P ops Q md X V T X0 d1 d2 d3 e1 e2 i1 i2 i3 f1 f2 o1 o2 o3 g1 g2 L R1 R2 R3) (hk : k ≤ 2) (hfz : 1 ≤ fz k) (hi : ops[i]? = some o) (hr : ∀ b1 b2, Region.ready md ops (L k b1 b2) = i :: (rB b1 f1 ++ rB b2 f2))
    (hc : ∀ b1 b2 v1 v2 v3 p q u, GoodF V R1 R2 R3 k b1 b2 v1 v2 v3 p q u → ∀ K : Act → World → Prop, Shut (∀ a w', (Below V.heap.size V u → Below V.heap.size V w') → wpAnyL P md ops Q (fun u => Below V.heap.size V u) X (F + (fz k - 1) + nB b1 + nB b2) ((L k b1 b2).setIfInBounds i true) a w' → K a w') →
      if Region.wanted o (yielded ops (stF T X0 d1 d2 d3 e1 e2 k b1 b2 v1 v2 v3 p q).tmps) = true then Oper.wp P o (stF T X0 d1 d2 d3 e1 e2 k b1 b2 v1 v2 v3 p q) u K Q else K ((stF T X0 d1 d2 d3 e1 e2 k b1 b2 v1 v2 v3 p q).put o.dst undef) u)
    (b1 b2 : Bool) : OkF P ops Q md X V T X0 d1 d2 d3 e1 e2 L R1 R2 R3 F k b1 b2 := by
  have key : ∀ b1 b2, (b1 = false → OkF P ops Q md X V T X0 d1 d2 d3 e1 e2 L R1 R2 R3 F k true b2) → (b2 = false → OkF P ops Q md X V T X0 d1 d2 d3 e1 e2 L R1 R2 R3 F k b1 true) → OkF P ops Q md X V T X0 d1 d2 d3 e1 e2 L R1 R2 R3 F k b1 b2 := by
    intro b1 b2 h1 h2 v1 v2 v3 p q u hg
    have e : F + fz k + nB b1 + nB b2 = F + (fz k - 1) + nB b1 + nB b2 + 1 := by omega
    rw [e]
    refine wpAnyL_some (hr b1 b2) (by simp) fun j hj => ?_
    rcases List.mem_cons.1 hj with rfl | hj
    · exact ⟨o, hi, fun K hK => hc b1 b2 v1 v2 v3 p q u hg K hK⟩
    · rcases List.mem_append.1 hj with hj | hj
      · obtain ⟨rfl, rfl⟩ := mem_rB hj
        refine ⟨g1, H.at4, fun K hK => H.one (by omega) (h1 rfl) hg K ?_⟩
        rw [show F + fz k + nB true + nB b2 = F + (fz k - 1) + nB false + nB b2 by simp only [nB]; omega]
        exact hK
      · obtain ⟨rfl, rfl⟩ := mem_rB hj
        refine ⟨g2, H.at5, fun K hK => H.two (by omega) (h2 rfl) hg K ?_⟩
        rw [show F + fz k + nB b1 + nB true = F + (fz k - 1) + nB b1 + nB false by simp only [nB]; omega]
        exact hK
  have tt := key true true (fun h => by cases h) (fun h => by cases h)
  have ft := key false true (fun _ => tt) (fun h => by cases h)
  have tf := key true false (fun h => by cases h) (fun _ => tt)
  have ff := key false false (fun _ => tf) (fun _ => ft)
  cases b1 <;> cases b2 <;> assumption

/-- The whole. -/
theorem FloatH.all (H : FloatH P ops Q md X V T X0 d1 d2 d3 e1 e2 i1 i2 i3 f1 f2 o1 o2 o3 g1 g2 L R1 R2 R3) (W0 : World) (h0 : Below V.heap.size V W0)
    (hend : ∀ (v1 v2 v3 : Value) (p q : Nat) (u : World), Below V.heap.size V u → R3 v3 u → Zero u p → Zero u q → p ≠ q → V.heap.size ≤ p → V.heap.size ≤ q →
      wpAnyL P md ops Q (fun u => Below V.heap.size V u) X F (L 3 true true) (stF T X0 d1 d2 d3 e1 e2 3 true true v1 v2 v3 p q) u) :
    wpAnyL P md ops Q (fun u => Below V.heap.size V u) X (F + 8) (L 0 false false) X0 W0 := by
  have k3 := H.ok3 (X := X) (F := F) (fun v1 v2 v3 p q u hg => hend v1 v2 v3 p q u hg.1 (hg.2.2.2.1 rfl) (hg.2.2.2.2.1 rfl).1 (hg.2.2.2.2.2.1 rfl).1 (hg.2.2.2.2.2.2 rfl rfl) (hg.2.2.2.2.1 rfl).2 (hg.2.2.2.2.2.1 rfl).2)
  have k2 := ok_step (X := X) (F := F) H (k := 2) (by omega) (by decide) H.at3 H.r2 (fun b1 b2 v1 v2 v3 p q u hg K hK => H.c3 _ v2 u K (fun j h1 h2 h3 h4 => by unfold stF; rw [putB_other _ _ _ _ _ h2, putB_other _ _ _ _ _ h1]; show ((X0.put (some d1) v1).put (some d2) v2).tmps[j]? = _; rw [put_other _ _ _ _ h4, put_other _ _ _ _ h3]) (by unfold stF; rw [putB_other _ _ _ _ _ H.n22, putB_other _ _ _ _ _ H.n21]; exact put_same _ _ _ (by rw [put_size]; exact H.s2)) hg.1 (hg.2.2.1 rfl) (fun v u' hv hb => hK.out _ _ (fun _ => hg.below hb) (by
    have hk := k3 b1 b2 v1 v2 v p q u' (hg.next3 hb hv)
    have hst : stF T X0 d1 d2 d3 e1 e2 3 b1 b2 v1 v2 v p q = T ((stF T X0 d1 d2 d3 e1 e2 2 b1 b2 v1 v2 v3 p q).put (some d3) v) v := by
      unfold stF
      rw [putB_put _ _ _ _ _ _ H.n32, putB_put _ _ _ _ _ _ H.n31, ← H.hT _ _ _ _ _ (.inr rfl), ← H.hT _ _ _ _ _ (.inl rfl)]; rfl
    rw [hst] at hk
    have h3 := H.t3 b1 b2 _ v u' _ (by
      unfold stF
      rw [putB_put _ _ _ _ _ _ H.n32, putB_put _ _ _ _ _ _ H.n31, putB_other _ _ _ _ _ H.n32, putB_other _ _ _ _ _ H.n31]
      exact put_same _ _ _ (by show d3 < ((X0.put (some d1) v1).put (some d2) v2).tmps.size; rw [put_size, put_size]; exact H.s3)) hv hk
    rw [show F + fz 3 + nB b1 + nB b2 + 3 = F + (fz 2 - 1) + nB b1 + nB b2 by simp only [fz]; omega] at h3
    exact h3)))
  have k1 := ok_step (X := X) (F := F) H (k := 1) (by omega) (by decide) H.at2 H.r1 (fun b1 b2 v1 v2 v3 p q u hg K hK => H.c2 _ v1 u K (fun j h1 h2 h3 => by unfold stF; rw [putB_other _ _ _ _ _ h2, putB_other _ _ _ _ _ h1]; exact put_other _ _ _ _ h3) (by unfold stF; rw [putB_other _ _ _ _ _ H.n12, putB_other _ _ _ _ _ H.n11]; exact put_same _ _ _ H.s1) hg.1 (hg.2.1 rfl) (fun v u' hv hb => hK.out _ _ (fun _ => hg.below hb) (by
    rw [stF_call1 _ _ _ _ _ _ _ _ _ _ _ _ _ _ _ H.n21 H.n22, H.l2]
    exact k2 b1 b2 v1 v v3 p q u' (hg.next2 hb hv))))
  have k0 := ok_step (X := X) (F := F) H (k := 0) (by omega) (by decide) H.at1 H.r0 (fun b1 b2 v1 v2 v3 p q u hg K hK => H.c1 _ u K (fun j h1 h2 => by unfold stF; rw [putB_other _ _ _ _ _ h2, putB_other _ _ _ _ _ h1]; rfl) hg.1 (fun v u' hv hb => hK.out _ _ (fun _ => hg.below hb) (by
    rw [stF_call0 _ _ _ _ _ _ _ _ _ _ _ _ _ _ _ H.n11 H.n12, H.l1]
    exact k1 b1 b2 v v2 v3 p q u' (hg.next1 hb hv))))
  exact k0 false false undef undef undef 0 0 W0 ⟨h0, (fun e => (by cases e)), (fun e => (by cases e)), (fun e => (by cases e)), (fun e => (by cases e)), (fun e => (by cases e)), (fun e => (by cases e))⟩

theorem FloatH.all' (H : FloatH P ops Q md X V T X0 d1 d2 d3 e1 e2 i1 i2 i3 f1 f2 o1 o2 o3 g1 g2 L R1 R2 R3) (W0 : World) (listed : Array Bool) (hl : listed = L 0 false false) (h0 : Below V.heap.size V W0)
    (hend : ∀ (v1 v2 v3 : Value) (p q : Nat) (u : World), Below V.heap.size V u → R3 v3 u → Zero u p → Zero u q → p ≠ q → V.heap.size ≤ p → V.heap.size ≤ q →
      wpAnyL P md ops Q (fun u => Below V.heap.size V u) X F (L 3 true true) (stF T X0 d1 d2 d3 e1 e2 3 true true v1 v2 v3 p q) u) :
    wpAnyL P md ops Q (fun u => Below V.heap.size V u) X (F + 8) listed X0 W0 := by
  subst hl
  exact H.all W0 h0 hend
end
end Go.Proofs.YtnfmcdfdbipeoaaGreatDoor
