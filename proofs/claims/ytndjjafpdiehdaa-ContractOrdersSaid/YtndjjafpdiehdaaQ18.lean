/- The chapter's examples. And: Graphs that are subdivided, in numbers: parts and degrees. And: The laws of counts and of degrees, in numbers. And: Divisors that are spread, by the program. -/
import Derived.Test.YtndjjafpdiehdaaQ17
import Derived.Test.YtndjjafpdiehdaaQ16
namespace Go.Proofs.Ytndjjafpdiehdaa
open Go.RowKit Go.Shelf Go.Proofs.Gr
attribute [local go_sem] Oper.semAt_some

def triE : List E := [⟨0, 1, 1⟩, ⟨0, 2, 1⟩, ⟨1, 2, 1⟩]
def twoE : List E := [⟨0, 1, 2⟩]
def lopE : List E := [⟨0, 0, 1⟩]
def fineE : List E := [⟨0, 3, 1⟩, ⟨0, 4, 1⟩, ⟨1, 3, 1⟩, ⟨1, 5, 1⟩, ⟨2, 4, 1⟩, ⟨2, 5, 1⟩]
def fineP : List (Int × Int) := [(0, 3), (0, 4), (1, 3), (1, 5), (2, 4), (2, 5)]
theorem tri_right : Right 3 triE := right_of (by decide)
theorem tri_sg : sgE 3 triE 0 = 0 := by decide
theorem fine_ends : endsG fineE = fineP := by decide
theorem makes_c (N : Nat) (h0 : 1 ≤ N) (h1 : N ≤ 12) (Q : List (Int × Int)) (hl : Q.length ≤ 50) (hr : ∀ p ∈ Q, (0 ≤ p.1 ∧ p.1 < (N : Int)) ∧ 0 ≤ p.2 ∧ p.2 < (N : Int)) (J : List E) (hJ : joinT (cntT Q Q.length) N N = J) : Makes N Q N J 0 := by
  rw [← hJ]
  exact makes_right N h0 h1 Q (by omega) hr fun x y => by have := (cntT_le Q Q.length x y).2; omega
theorem tri_con : Makes (mgF (pAt (endsG triE) 0) 3) (mvP (mgF (pAt (endsG triE) 0)) (dropP (endsG triE) 0)) 2 twoE 0 := by
  have h := makes_c 2 (by decide) (by decide) [(0, 1), (0, 1)] (by decide) (by decide) twoE (by decide)
  exact h
theorem two_con : Makes (mgF (pAt (endsG twoE) 0) 2) (mvP (mgF (pAt (endsG twoE) 0)) (dropP (endsG twoE) 0)) 1 lopE 0 := by
  have h := makes_c 1 (by decide) (by decide) [(0, 0)] (by decide) (by decide) lopE (by decide)
  exact h
theorem tri_sub : Makes (3 + ((1 : Nat) : Int) * (endsG triE).length) (subP 3 1 (endsG triE) (endsG triE).length) 6 fineE 0 := by
  have h := makes_c 6 (by decide) (by decide) [(0, 3), (3, 1), (0, 4), (4, 2), (1, 5), (5, 2)] (by decide) (by decide) fineE (by decide)
  exact h
theorem ex_con (a : Option Addr) (c : Nat) (w : World) (h : EsAt w a triE) : Calls Try.prog 15 #[.agg #[.int .i64 3, .slice a 3 c], .int .i64 0] w (fun e w' => ∃ a2 c2, e = .returned (.tuple #[.agg #[.int .i64 2, .slice a2 1 c2], .int .i64 0]) ∧ EsAt w' a2 twoE ∧ Below w.heap.size w w') := pContract_ok 3 a c triE (by decide) 0 tri_sg 2 twoE 0 tri_con w h
theorem ex_one (a : Option Addr) (c : Nat) (w : World) (h : EsAt w a twoE) : Calls Try.prog 15 #[.agg #[.int .i64 2, .slice a 1 c], .int .i64 0] w (fun e w' => ∃ a2 c2, e = .returned (.tuple #[.agg #[.int .i64 1, .slice a2 1 c2], .int .i64 0]) ∧ EsAt w' a2 lopE ∧ Below w.heap.size w w') := pContract_ok 2 a c twoE (by decide) 0 (by decide) 1 lopE 0 two_con w h
theorem ex_ver (a : Option Addr) (c : Nat) (w : World) (h : EsAt w a triE) : Calls Try.prog 17 #[.agg #[.int .i64 3, .slice a 3 c], .int .i64 0] w (fun e w' => ∃ a2 c2, e = .returned (.tuple #[.slice a2 3 c2, .int .i64 0]) ∧ IsAt w' a2 [0, 0, 1] ∧ Below w.heap.size w w') := pVertices_ok 3 a c triE (by decide) 0 tri_sg w h
theorem ex_plc : plc (endsG triE) 0 = [-1, 0, 1] := by decide
theorem ex_plc2 : plc (mvP (mgF (pAt (endsG triE) 0)) (endsG triE)) 0 = [-1, 0, 1] := by decide
theorem ex_col : colR (mgF (pAt (endsG triE) 0)) [1, 2, 3] (mgF (pAt (endsG triE) 0) ((3 : Nat) : Int)).toNat = [3, 3] := by decide
theorem ex_colk : colK (mgF (pAt (endsG triE) 0)) [1, 2, 3] (mgF (pAt (endsG triE) 0) ((3 : Nat) : Int)).toNat = 0 := by decide
theorem ex_sin (a : Option Addr) (c : Nat) (w : World) (h : EsAt w a triE) : Calls Try.prog 23 #[.agg #[.int .i64 3, .slice a 3 c], .int .i64 0] w (fun e w' => ∃ a2 c2 a3 c3, e = .returned (.tuple #[.slice a2 3 c2, .slice a3 3 c3, .int .i64 0]) ∧ IsAt w' a2 [-1, 0, 1] ∧ IsAt w' a3 [-1, 0, 1] ∧ Below w.heap.size w w') := by
  have := pSingles_ok 3 a c triE (by decide) 0 tri_sg (by decide) w h
  unfold GivesII at this
  rw [ex_plc, ex_plc2] at this
  exact this
theorem ex_sub (a : Option Addr) (c : Nat) (w : World) (h : EsAt w a triE) : Calls Try.prog 25 #[.agg #[.int .i64 3, .slice a 3 c], .int .i64 2] w (fun e w' => ∃ a2 c2, e = .returned (.tuple #[.agg #[.int .i64 6, .slice a2 6 c2], .int .i64 0]) ∧ EsAt w' a2 fineE ∧ Below w.heap.size w w') := pSub_ok 3 a c triE (by decide) 1 (by decide) (by decide) (by decide) 6 fineE 0 tri_sub w h
theorem ex_coll (b : Option Addr) (d : Nat) (a : Option Addr) (c : Nat) (w : World) (h : EsAt w a triE) (hd : IsAt w b [1, 2, 3]) : Calls Try.prog 30 #[.agg #[.int .i64 3, .slice a 3 c], .int .i64 0, .slice b 3 d] w (fun e w' => ∃ a2 c2, e = .returned (.tuple #[.slice a2 2 c2, .int .i64 0]) ∧ IsAt w' a2 [3, 3] ∧ Below w.heap.size w w') := by
  have := pCol_ok 3 a c triE (by decide) 0 b d [1, 2, 3] (by decide) tri_sg (by decide) w h hd
  unfold GivesIK at this
  rw [ex_col, ex_colk] at this
  exact this
theorem ex_ends (a : Option Addr) (c : Nat) (w : World) (h : EsAt w a fineE) : Calls Try.prog 52 #[.agg #[.int .i64 6, .slice a 6 c]] w (fun e w' => ∃ a2 c2, e = .returned (.tuple #[.slice a2 6 c2, .int .i64 0]) ∧ PsAt w' a2 fineP ∧ Below w.heap.size w w') := by
  have := pends_any 6 a c fineE (by decide) w h
  unfold GivesPE at this
  rw [show chkG 6 fineE = 0 by decide, if_pos rfl, fine_ends] at this
  exact this
set_option maxHeartbeats 12800000 in
set_option maxRecDepth 100000 in
theorem triangle_any (w : World) : Calls Try.prog 51 #[] w (fun e w' => ∃ a c, e = .returned (.agg #[.int .i64 3, .slice a 3 c]) ∧ EsAt w' a triE ∧ Below w.heap.size w w') := by
  go_enter Try.func51, Try.ntmps51
  go_wp2
  obtain ⟨V, hV⟩ : ∃ V, V = (w.alloc (Obj.cells #[.int .i64 3, .slice (some ⟨w.heap.size + 1, 0, none⟩) 3 3] 24)).alloc (Obj.cells #[.int .i64 0, .int .i64 1, .int .i64 1, .int .i64 0, .int .i64 2, .int .i64 1, .int .i64 1, .int .i64 2, .int .i64 1] 75) := ⟨_, rfl⟩
  rw [← hV]
  have hb : Below w.heap.size w V := by rw [hV]; exact ((Below.refl _ w).alloc (Nat.le_refl _) _).alloc (by simp) _
  have h1 : Blk V w.heap.size 24 #[.int .i64 3, .slice (some ⟨w.heap.size + 1, 0, none⟩) 3 3] := by rw [hV]; exact (Blk.new _ _ _).alloc _
  have h2 : Blk V (w.heap.size + 1) 75 #[.int .i64 0, .int .i64 1, .int .i64 1, .int .i64 0, .int .i64 2, .int .i64 1, .int .i64 1, .int .i64 2, .int .i64 1] := by
    rw [hV]
    have h9 := Blk.new (w.alloc (Obj.cells #[.int .i64 3, .slice (some ⟨w.heap.size + 1, 0, none⟩) 3 3] 24)) 75 #[.int .i64 0, .int .i64 1, .int .i64 1, .int .i64 0, .int .i64 2, .int .i64 1, .int .i64 1, .int .i64 2, .int .i64 1]
    rwa [World.size_alloc] at h9
  have r5 : V.cell? ⟨w.heap.size, 0, none⟩ = some (.int .i64 3) := h1.cell 0
  have r6 : V.cell? ⟨w.heap.size, 1, none⟩ = some (.slice (some ⟨w.heap.size + 1, 0, none⟩) 3 3) := h1.cell 1
  refine bodyPost_ret (v := .agg #[.int .i64 3, .slice (some ⟨w.heap.size + 1, 0, none⟩) 3 3]) (by simp [results, Try.results51, go_sem, r5, r6]) rfl ?_
  exact ⟨_, _, rfl, RowAt.of_blk encE_len3 h2 rfl, hb⟩
/-- The examples hold. -/
def AwakeC : Prop := ∀ w, Calls Try.prog 12 #[] w (fun e w' => e = .returned (.bool true) ∧ Below w.heap.size w w')
set_option maxHeartbeats 12800000 in
set_option maxRecDepth 100000 in
theorem awakeC_any : AwakeC := by
  intro w
  have HB0 : Hid (Below w.heap.size w w) := Lib.hid (Below.refl _ _)
  have HF : Hid (∀ x, Below w.heap.size w x → True) := Lib.hid fun _ _ => True.intro
  have hk0 : Below w.heap.size w w := Below.refl _ _
  have HTR := Lib.hid triangle_any
  go_enter Try.func12, Try.ntmps12
  go_wp2_with fail
  refine (HTR.out _).mono ?_
  rintro e x1 ⟨a1, c1, rfl, hT1_1, hb1⟩
  have hk1 : Below w.heap.size w x1 := hk0.trans (hb1.mono hk0.size)
  clear hb1 hk0 
  go_wp2_with fail
  refine (ex_con a1 c1 _ hT1_1).mono ?_
  rintro e x2 ⟨p1, q1, rfl, hO_2, hb2⟩
  have hk2 : Below w.heap.size w x2 := hk1.trans (hb2.mono hk1.size)
  have hT1_2 := hT1_1.keep hb2
  clear hb2 hk1  hT1_1
  obtain ⟨Y1, hY1⟩ : ∃ Y, Y = x2.alloc (Obj.cells #[.int .i64 2, .slice p1 1 q1] 24) := ⟨_, rfl⟩
  have hy : Below x2.heap.size x2 Y1 := by rw [hY1]; exact (Below.refl _ _).alloc (Nat.le_refl _) _
  have hz : Below w.heap.size w Y1 := hk2.trans (hy.mono hk2.size)
  have hQ : Blk Y1 x2.heap.size 24 #[.int .i64 2, .slice p1 1 q1] := by rw [hY1]; exact Blk.new _ _ _
  have HBY1 : Hid (Below w.heap.size w Y1) := Lib.hid (HB0.out.trans (hz.mono HB0.out.size))
  have HFY1 : Hid (∀ x, Below Y1.heap.size Y1 x → x.cell? ⟨x2.heap.size, 0, none⟩ = some (.int .i64 2) ∧ x.cell? ⟨x2.heap.size, 1, none⟩ = some (.slice p1 1 q1) ∧ True ∧ EsAt x a1 triE ∧ EsAt x p1 twoE) := Lib.hid fun x hx => ⟨(hQ.below hx hQ.lt).cell 0, (hQ.below hx hQ.lt).cell 1, (HF.out x (hz.trans (hx.mono hz.size))), (hT1_2.keep hy).keep hx, (hO_2.keep hy).keep hx⟩
  clear  hk2 hz hQ hy hT1_2 hO_2
  have hk3 : Below Y1.heap.size Y1 Y1 := Below.refl _ _
  have g0 : (x2.alloc (Obj.cells #[.int .i64 2, .slice p1 1 q1] 24)).cell? ⟨x2.heap.size, 0, none⟩ = some (.int .i64 2) := by rw [← hY1]; exact (HFY1.out _ hk3).1
  have g1 : (x2.alloc (Obj.cells #[.int .i64 2, .slice p1 1 q1] 24)).cell? ⟨x2.heap.size, 1, none⟩ = some (.slice p1 1 q1) := by rw [← hY1]; exact (HFY1.out _ hk3).2.1
  have HY1 := Lib.hid hY1
  clear hY1
  go_wp2_with fail
  rw [← HY1.out]
  refine (HTR.out _).mono ?_
  rintro e x4 ⟨a2, c2, rfl, hT2_4, hb4⟩
  have hk4 : Below Y1.heap.size Y1 x4 := hk3.trans (hb4.mono hk3.size)
  clear hb4 hk3 g0 g1
  obtain ⟨g0, g1, -⟩ := HFY1.out x4 hk4
  go_wp2_with fail
  refine (ex_ver a2 c2 _ hT2_4).mono ?_
  rintro e x5 ⟨p2, q2, rfl, hV_5, hb5⟩
  have hk5 : Below Y1.heap.size Y1 x5 := hk4.trans (hb5.mono hk4.size)
  have hT2_5 := hT2_4.keep hb5
  clear hb5 hk4 g0 g1 hT2_4
  obtain ⟨g0, g1, -⟩ := HFY1.out x5 hk5
  go_wp2_with fail
  refine (HTR.out _).mono ?_
  rintro e x6 ⟨a3, c3, rfl, hT3_6, hb6⟩
  have hk6 : Below Y1.heap.size Y1 x6 := hk5.trans (hb6.mono hk5.size)
  have hT2_6 := hT2_5.keep hb6
  have hV_6 := hV_5.keep hb6
  clear hb6 hk5 g0 g1 hT2_5 hV_5
  obtain ⟨g0, g1, -⟩ := HFY1.out x6 hk6
  go_wp2_with fail
  refine (ex_sin a3 c3 _ hT3_6).mono ?_
  rintro e x7 ⟨p3, q3, p4, q4, rfl, hS_7, hU_7, hb7⟩
  have hk7 : Below Y1.heap.size Y1 x7 := hk6.trans (hb7.mono hk6.size)
  have hT2_7 := hT2_6.keep hb7
  have hV_7 := hV_6.keep hb7
  have hT3_7 := hT3_6.keep hb7
  clear hb7 hk6 g0 g1 hT2_6 hV_6 hT3_6
  obtain ⟨g0, g1, -⟩ := HFY1.out x7 hk7
  go_wp2_with fail
  refine (ex_one p1 q1 _ (HFY1.out x7 hk7).2.2.2.2).mono ?_
  rintro e x8 ⟨p5, q5, rfl, hL_8, hb8⟩
  have hk8 : Below Y1.heap.size Y1 x8 := hk7.trans (hb8.mono hk7.size)
  have hT2_8 := hT2_7.keep hb8
  have hV_8 := hV_7.keep hb8
  have hT3_8 := hT3_7.keep hb8
  have hS_8 := hS_7.keep hb8
  have hU_8 := hU_7.keep hb8
  clear hb8 hk7 g0 g1 hT2_7 hV_7 hT3_7 hS_7 hU_7
  obtain ⟨g0, g1, -⟩ := HFY1.out x8 hk8
  obtain ⟨Y2, hY2⟩ : ∃ Y, Y = x8.alloc (Obj.cells #[.int .i64 1, .slice p5 1 q5] 24) := ⟨_, rfl⟩
  have hy : Below x8.heap.size x8 Y2 := by rw [hY2]; exact (Below.refl _ _).alloc (Nat.le_refl _) _
  have hz : Below Y1.heap.size Y1 Y2 := hk8.trans (hy.mono hk8.size)
  have hQ : Blk Y2 x8.heap.size 24 #[.int .i64 1, .slice p5 1 q5] := by rw [hY2]; exact Blk.new _ _ _
  have HBY2 : Hid (Below w.heap.size w Y2) := Lib.hid (HBY1.out.trans (hz.mono HBY1.out.size))
  have HFY2 : Hid (∀ x, Below Y2.heap.size Y2 x → x.cell? ⟨x2.heap.size, 0, none⟩ = some (.int .i64 2) ∧ x.cell? ⟨x2.heap.size, 1, none⟩ = some (.slice p1 1 q1) ∧ x.cell? ⟨x8.heap.size, 0, none⟩ = some (.int .i64 1) ∧ x.cell? ⟨x8.heap.size, 1, none⟩ = some (.slice p5 1 q5) ∧ True ∧ EsAt x a1 triE ∧ EsAt x p1 twoE ∧ EsAt x a2 triE ∧ IsAt x p2 [0, 0, 1] ∧ EsAt x a3 triE ∧ IsAt x p3 [-1, 0, 1] ∧ IsAt x p4 [-1, 0, 1] ∧ EsAt x p5 lopE) := Lib.hid fun x hx => ⟨(HFY1.out x (hz.trans (hx.mono hz.size))).1, (HFY1.out x (hz.trans (hx.mono hz.size))).2.1, (hQ.below hx hQ.lt).cell 0, (hQ.below hx hQ.lt).cell 1, (HFY1.out x (hz.trans (hx.mono hz.size))).2.2.1, (HFY1.out x (hz.trans (hx.mono hz.size))).2.2.2.1, (HFY1.out x (hz.trans (hx.mono hz.size))).2.2.2.2, (hT2_8.keep hy).keep hx, (hV_8.keep hy).keep hx, (hT3_8.keep hy).keep hx, (hS_8.keep hy).keep hx, (hU_8.keep hy).keep hx, (hL_8.keep hy).keep hx⟩
  clear g0 g1 hk8 hz hQ hy hT2_8 hV_8 hT3_8 hS_8 hU_8 hL_8
  have hk9 : Below Y2.heap.size Y2 Y2 := Below.refl _ _
  have g0 : (x8.alloc (Obj.cells #[.int .i64 1, .slice p5 1 q5] 24)).cell? ⟨x2.heap.size, 0, none⟩ = some (.int .i64 2) := by rw [← hY2]; exact (HFY2.out _ hk9).1
  have g1 : (x8.alloc (Obj.cells #[.int .i64 1, .slice p5 1 q5] 24)).cell? ⟨x2.heap.size, 1, none⟩ = some (.slice p1 1 q1) := by rw [← hY2]; exact (HFY2.out _ hk9).2.1
  have g2 : (x8.alloc (Obj.cells #[.int .i64 1, .slice p5 1 q5] 24)).cell? ⟨x8.heap.size, 0, none⟩ = some (.int .i64 1) := by rw [← hY2]; exact (HFY2.out _ hk9).2.2.1
  have g3 : (x8.alloc (Obj.cells #[.int .i64 1, .slice p5 1 q5] 24)).cell? ⟨x8.heap.size, 1, none⟩ = some (.slice p5 1 q5) := by rw [← hY2]; exact (HFY2.out _ hk9).2.2.2.1
  have HY2 := Lib.hid hY2
  clear hY2
  go_wp2_with fail
  rw [← HY2.out]
  refine (HTR.out _).mono ?_
  rintro e x10 ⟨a4, c4, rfl, hT4_10, hb10⟩
  have hk10 : Below Y2.heap.size Y2 x10 := hk9.trans (hb10.mono hk9.size)
  clear hb10 hk9 g0 g1 g2 g3
  obtain ⟨g0, g1, g2, g3, -⟩ := HFY2.out x10 hk10
  go_wp2_with fail
  refine (ex_sub a4 c4 _ hT4_10).mono ?_
  rintro e x11 ⟨p6, q6, rfl, hF_11, hb11⟩
  have hk11 : Below Y2.heap.size Y2 x11 := hk10.trans (hb11.mono hk10.size)
  have hT4_11 := hT4_10.keep hb11
  clear hb11 hk10 g0 g1 g2 g3 hT4_10
  obtain ⟨g0, g1, g2, g3, -⟩ := HFY2.out x11 hk11
  obtain ⟨Y3, hY3⟩ : ∃ Y, Y = x11.alloc (Obj.cells #[.int .i64 6, .slice p6 6 q6] 24) := ⟨_, rfl⟩
  have hy : Below x11.heap.size x11 Y3 := by rw [hY3]; exact (Below.refl _ _).alloc (Nat.le_refl _) _
  have hz : Below Y2.heap.size Y2 Y3 := hk11.trans (hy.mono hk11.size)
  have hQ : Blk Y3 x11.heap.size 24 #[.int .i64 6, .slice p6 6 q6] := by rw [hY3]; exact Blk.new _ _ _
  have HBY3 : Hid (Below w.heap.size w Y3) := Lib.hid (HBY2.out.trans (hz.mono HBY2.out.size))
  have HFY3 : Hid (∀ x, Below Y3.heap.size Y3 x → x.cell? ⟨x2.heap.size, 0, none⟩ = some (.int .i64 2) ∧ x.cell? ⟨x2.heap.size, 1, none⟩ = some (.slice p1 1 q1) ∧ x.cell? ⟨x8.heap.size, 0, none⟩ = some (.int .i64 1) ∧ x.cell? ⟨x8.heap.size, 1, none⟩ = some (.slice p5 1 q5) ∧ x.cell? ⟨x11.heap.size, 0, none⟩ = some (.int .i64 6) ∧ x.cell? ⟨x11.heap.size, 1, none⟩ = some (.slice p6 6 q6) ∧ True ∧ EsAt x a1 triE ∧ EsAt x p1 twoE ∧ EsAt x a2 triE ∧ IsAt x p2 [0, 0, 1] ∧ EsAt x a3 triE ∧ IsAt x p3 [-1, 0, 1] ∧ IsAt x p4 [-1, 0, 1] ∧ EsAt x p5 lopE ∧ EsAt x a4 triE ∧ EsAt x p6 fineE) := Lib.hid fun x hx => ⟨(HFY2.out x (hz.trans (hx.mono hz.size))).1, (HFY2.out x (hz.trans (hx.mono hz.size))).2.1, (HFY2.out x (hz.trans (hx.mono hz.size))).2.2.1, (HFY2.out x (hz.trans (hx.mono hz.size))).2.2.2.1, (hQ.below hx hQ.lt).cell 0, (hQ.below hx hQ.lt).cell 1, (HFY2.out x (hz.trans (hx.mono hz.size))).2.2.2.2.1, (HFY2.out x (hz.trans (hx.mono hz.size))).2.2.2.2.2.1, (HFY2.out x (hz.trans (hx.mono hz.size))).2.2.2.2.2.2.1, (HFY2.out x (hz.trans (hx.mono hz.size))).2.2.2.2.2.2.2.1, (HFY2.out x (hz.trans (hx.mono hz.size))).2.2.2.2.2.2.2.2.1, (HFY2.out x (hz.trans (hx.mono hz.size))).2.2.2.2.2.2.2.2.2.1, (HFY2.out x (hz.trans (hx.mono hz.size))).2.2.2.2.2.2.2.2.2.2.1, (HFY2.out x (hz.trans (hx.mono hz.size))).2.2.2.2.2.2.2.2.2.2.2.1, (HFY2.out x (hz.trans (hx.mono hz.size))).2.2.2.2.2.2.2.2.2.2.2.2, (hT4_11.keep hy).keep hx, (hF_11.keep hy).keep hx⟩
  clear g0 g1 g2 g3 hk11 hz hQ hy hT4_11 hF_11
  have hk12 : Below Y3.heap.size Y3 Y3 := Below.refl _ _
  have g0 : (x11.alloc (Obj.cells #[.int .i64 6, .slice p6 6 q6] 24)).cell? ⟨x2.heap.size, 0, none⟩ = some (.int .i64 2) := by rw [← hY3]; exact (HFY3.out _ hk12).1
  have g1 : (x11.alloc (Obj.cells #[.int .i64 6, .slice p6 6 q6] 24)).cell? ⟨x2.heap.size, 1, none⟩ = some (.slice p1 1 q1) := by rw [← hY3]; exact (HFY3.out _ hk12).2.1
  have g2 : (x11.alloc (Obj.cells #[.int .i64 6, .slice p6 6 q6] 24)).cell? ⟨x8.heap.size, 0, none⟩ = some (.int .i64 1) := by rw [← hY3]; exact (HFY3.out _ hk12).2.2.1
  have g3 : (x11.alloc (Obj.cells #[.int .i64 6, .slice p6 6 q6] 24)).cell? ⟨x8.heap.size, 1, none⟩ = some (.slice p5 1 q5) := by rw [← hY3]; exact (HFY3.out _ hk12).2.2.2.1
  have g4 : (x11.alloc (Obj.cells #[.int .i64 6, .slice p6 6 q6] 24)).cell? ⟨x11.heap.size, 0, none⟩ = some (.int .i64 6) := by rw [← hY3]; exact (HFY3.out _ hk12).2.2.2.2.1
  have g5 : (x11.alloc (Obj.cells #[.int .i64 6, .slice p6 6 q6] 24)).cell? ⟨x11.heap.size, 1, none⟩ = some (.slice p6 6 q6) := by rw [← hY3]; exact (HFY3.out _ hk12).2.2.2.2.2.1
  have HY3 := Lib.hid hY3
  clear hY3
  go_wp2_with fail
  rw [← HY3.out]
  refine (HTR.out _).mono ?_
  rintro e x13 ⟨a5, c5, rfl, hT5_13, hb13⟩
  have hk13 : Below Y3.heap.size Y3 x13 := hk12.trans (hb13.mono hk12.size)
  clear hb13 hk12 g0 g1 g2 g3 g4 g5
  obtain ⟨g0, g1, g2, g3, g4, g5, -⟩ := HFY3.out x13 hk13
  go_wp2_with fail
  have hk14 : Below Y3.heap.size Y3 (x13.alloc (Obj.cells #[.int .i64 1, .int .i64 2, .int .i64 3] 3)) := hk13.alloc hk13.size _
  have hT5_14 := hT5_13.keep ((Below.refl _ x13).alloc (Nat.le_refl _) (Obj.cells #[.int .i64 1, .int .i64 2, .int .i64 3] 3))
  have hD_14 : IsAt (x13.alloc (Obj.cells #[.int .i64 1, .int .i64 2, .int .i64 3] 3)) (some ⟨x13.heap.size, 0, none⟩) [1, 2, 3] := RowAt.of_blk (k := 1) (enc := encI) (fun _ => rfl) (Blk.new _ _ _) rfl
  clear hk13 hT5_13
  refine (ex_coll _ _ a5 c5 _ hT5_14 hD_14).mono ?_
  rintro e x15 ⟨p7, q7, rfl, hC_15, hb15⟩
  have hk15 : Below Y3.heap.size Y3 x15 := hk14.trans (hb15.mono hk14.size)
  have hT5_15 := hT5_14.keep hb15
  have hD_15 := hD_14.keep hb15
  clear hb15 hk14 g0 g1 g2 g3 g4 g5 hT5_14 hD_14
  obtain ⟨g0, g1, g2, g3, g4, g5, -⟩ := HFY3.out x15 hk15
  go_wp2_with fail
  refine (ex_ends p6 q6 _ (HFY3.out x15 hk15).2.2.2.2.2.2.2.2.2.2.2.2.2.2.2.2).mono ?_
  rintro e x16 ⟨p8, q8, rfl, hP_16, hb16⟩
  have hk16 : Below Y3.heap.size Y3 x16 := hk15.trans (hb16.mono hk15.size)
  have hT5_16 := hT5_15.keep hb16
  have hD_16 := hD_15.keep hb16
  have hC_16 := hC_15.keep hb16
  clear hb16 hk15 g0 g1 g2 g3 g4 g5 hT5_15 hD_15 hC_15
  obtain ⟨g0, g1, g2, g3, g4, g5, -⟩ := HFY3.out x16 hk16
  go_wp2_with fail
  have hk17 : Below Y3.heap.size Y3 (x16.alloc (Obj.cells #[.int .i64 0, .int .i64 1, .int .i64 2] 75)) := hk16.alloc hk16.size _
  have hT5_17 := hT5_16.keep ((Below.refl _ x16).alloc (Nat.le_refl _) (Obj.cells #[.int .i64 0, .int .i64 1, .int .i64 2] 75))
  have hD_17 := hD_16.keep ((Below.refl _ x16).alloc (Nat.le_refl _) (Obj.cells #[.int .i64 0, .int .i64 1, .int .i64 2] 75))
  have hC_17 := hC_16.keep ((Below.refl _ x16).alloc (Nat.le_refl _) (Obj.cells #[.int .i64 0, .int .i64 1, .int .i64 2] 75))
  have hP_17 := hP_16.keep ((Below.refl _ x16).alloc (Nat.le_refl _) (Obj.cells #[.int .i64 0, .int .i64 1, .int .i64 2] 75))
  have hE1_17 : EsAt (x16.alloc (Obj.cells #[.int .i64 0, .int .i64 1, .int .i64 2] 75)) (some ⟨x16.heap.size, 0, none⟩) twoE := RowAt.of_blk (k := 3) (enc := encE) (fun _ => rfl) (Blk.new _ _ _) rfl
  clear hk16 hT5_16 hD_16 hC_16 hP_16
  refine (same_any 2 p1 _ q1 1 twoE _ (by decide) (HFY3.out (x16.alloc (Obj.cells #[.int .i64 0, .int .i64 1, .int .i64 2] 75)) hk17).2.2.2.2.2.2.2.2.1 hE1_17).mono ?_
  rintro e x18 ⟨rfl, hb18⟩
  have hk18 : Below Y3.heap.size Y3 x18 := hk17.trans (hb18.mono hk17.size)
  have hT5_18 := hT5_17.keep hb18
  have hD_18 := hD_17.keep hb18
  have hC_18 := hC_17.keep hb18
  have hP_18 := hP_17.keep hb18
  have hE1_18 := hE1_17.keep hb18
  clear hb18 hk17 g0 g1 g2 g3 g4 g5 hT5_17 hD_17 hC_17 hP_17 hE1_17
  obtain ⟨g0, g1, g2, g3, g4, g5, -⟩ := HFY3.out x18 hk18
  go_wp2_with fail
  have hk19 : Below Y3.heap.size Y3 (x18.alloc (Obj.cells #[.int .i64 0, .int .i64 0, .int .i64 1] 3)) := hk18.alloc hk18.size _
  have hT5_19 := hT5_18.keep ((Below.refl _ x18).alloc (Nat.le_refl _) (Obj.cells #[.int .i64 0, .int .i64 0, .int .i64 1] 3))
  have hD_19 := hD_18.keep ((Below.refl _ x18).alloc (Nat.le_refl _) (Obj.cells #[.int .i64 0, .int .i64 0, .int .i64 1] 3))
  have hC_19 := hC_18.keep ((Below.refl _ x18).alloc (Nat.le_refl _) (Obj.cells #[.int .i64 0, .int .i64 0, .int .i64 1] 3))
  have hP_19 := hP_18.keep ((Below.refl _ x18).alloc (Nat.le_refl _) (Obj.cells #[.int .i64 0, .int .i64 0, .int .i64 1] 3))
  have hE1_19 := hE1_18.keep ((Below.refl _ x18).alloc (Nat.le_refl _) (Obj.cells #[.int .i64 0, .int .i64 0, .int .i64 1] 3))
  have hE2_19 : IsAt (x18.alloc (Obj.cells #[.int .i64 0, .int .i64 0, .int .i64 1] 3)) (some ⟨x18.heap.size, 0, none⟩) [0, 0, 1] := RowAt.of_blk (k := 1) (enc := encI) (fun _ => rfl) (Blk.new _ _ _) rfl
  clear hk18 hT5_18 hD_18 hC_18 hP_18 hE1_18
  refine (equalI_same [0, 0, 1] (by decide) p2 q2 _ 3 _ (HFY3.out (x18.alloc (Obj.cells #[.int .i64 0, .int .i64 0, .int .i64 1] 3)) hk19).2.2.2.2.2.2.2.2.2.2.1 hE2_19).mono ?_
  rintro e x20 ⟨rfl, hb20⟩
  have hk20 : Below Y3.heap.size Y3 x20 := hk19.trans (hb20.mono hk19.size)
  have hT5_20 := hT5_19.keep hb20
  have hD_20 := hD_19.keep hb20
  have hC_20 := hC_19.keep hb20
  have hP_20 := hP_19.keep hb20
  have hE1_20 := hE1_19.keep hb20
  have hE2_20 := hE2_19.keep hb20
  clear hb20 hk19 g0 g1 g2 g3 g4 g5 hT5_19 hD_19 hC_19 hP_19 hE1_19 hE2_19
  obtain ⟨g0, g1, g2, g3, g4, g5, -⟩ := HFY3.out x20 hk20
  go_wp2_with fail
  have hk21 : Below Y3.heap.size Y3 (x20.alloc (Obj.cells #[.int .i64 (-1), .int .i64 0, .int .i64 1] 3)) := hk20.alloc hk20.size _
  have hT5_21 := hT5_20.keep ((Below.refl _ x20).alloc (Nat.le_refl _) (Obj.cells #[.int .i64 (-1), .int .i64 0, .int .i64 1] 3))
  have hD_21 := hD_20.keep ((Below.refl _ x20).alloc (Nat.le_refl _) (Obj.cells #[.int .i64 (-1), .int .i64 0, .int .i64 1] 3))
  have hC_21 := hC_20.keep ((Below.refl _ x20).alloc (Nat.le_refl _) (Obj.cells #[.int .i64 (-1), .int .i64 0, .int .i64 1] 3))
  have hP_21 := hP_20.keep ((Below.refl _ x20).alloc (Nat.le_refl _) (Obj.cells #[.int .i64 (-1), .int .i64 0, .int .i64 1] 3))
  have hE1_21 := hE1_20.keep ((Below.refl _ x20).alloc (Nat.le_refl _) (Obj.cells #[.int .i64 (-1), .int .i64 0, .int .i64 1] 3))
  have hE2_21 := hE2_20.keep ((Below.refl _ x20).alloc (Nat.le_refl _) (Obj.cells #[.int .i64 (-1), .int .i64 0, .int .i64 1] 3))
  have hE3_21 : IsAt (x20.alloc (Obj.cells #[.int .i64 (-1), .int .i64 0, .int .i64 1] 3)) (some ⟨x20.heap.size, 0, none⟩) [-1, 0, 1] := RowAt.of_blk (k := 1) (enc := encI) (fun _ => rfl) (Blk.new _ _ _) rfl
  clear hk20 hT5_20 hD_20 hC_20 hP_20 hE1_20 hE2_20
  refine (equalI_same [-1, 0, 1] (by decide) p4 q4 _ 3 _ (HFY3.out (x20.alloc (Obj.cells #[.int .i64 (-1), .int .i64 0, .int .i64 1] 3)) hk21).2.2.2.2.2.2.2.2.2.2.2.2.2.1 hE3_21).mono ?_
  rintro e x22 ⟨rfl, hb22⟩
  have hk22 : Below Y3.heap.size Y3 x22 := hk21.trans (hb22.mono hk21.size)
  have hT5_22 := hT5_21.keep hb22
  have hD_22 := hD_21.keep hb22
  have hC_22 := hC_21.keep hb22
  have hP_22 := hP_21.keep hb22
  have hE1_22 := hE1_21.keep hb22
  have hE2_22 := hE2_21.keep hb22
  have hE3_22 := hE3_21.keep hb22
  clear hb22 hk21 g0 g1 g2 g3 g4 g5 hT5_21 hD_21 hC_21 hP_21 hE1_21 hE2_21 hE3_21
  obtain ⟨g0, g1, g2, g3, g4, g5, -⟩ := HFY3.out x22 hk22
  go_wp2_with fail
  have hk23 : Below Y3.heap.size Y3 (x22.alloc (Obj.cells #[.int .i64 0, .int .i64 0, .int .i64 1] 75)) := hk22.alloc hk22.size _
  have hT5_23 := hT5_22.keep ((Below.refl _ x22).alloc (Nat.le_refl _) (Obj.cells #[.int .i64 0, .int .i64 0, .int .i64 1] 75))
  have hD_23 := hD_22.keep ((Below.refl _ x22).alloc (Nat.le_refl _) (Obj.cells #[.int .i64 0, .int .i64 0, .int .i64 1] 75))
  have hC_23 := hC_22.keep ((Below.refl _ x22).alloc (Nat.le_refl _) (Obj.cells #[.int .i64 0, .int .i64 0, .int .i64 1] 75))
  have hP_23 := hP_22.keep ((Below.refl _ x22).alloc (Nat.le_refl _) (Obj.cells #[.int .i64 0, .int .i64 0, .int .i64 1] 75))
  have hE1_23 := hE1_22.keep ((Below.refl _ x22).alloc (Nat.le_refl _) (Obj.cells #[.int .i64 0, .int .i64 0, .int .i64 1] 75))
  have hE2_23 := hE2_22.keep ((Below.refl _ x22).alloc (Nat.le_refl _) (Obj.cells #[.int .i64 0, .int .i64 0, .int .i64 1] 75))
  have hE3_23 := hE3_22.keep ((Below.refl _ x22).alloc (Nat.le_refl _) (Obj.cells #[.int .i64 0, .int .i64 0, .int .i64 1] 75))
  have hE4_23 : EsAt (x22.alloc (Obj.cells #[.int .i64 0, .int .i64 0, .int .i64 1] 75)) (some ⟨x22.heap.size, 0, none⟩) lopE := RowAt.of_blk (k := 3) (enc := encE) (fun _ => rfl) (Blk.new _ _ _) rfl
  clear hk22 hT5_22 hD_22 hC_22 hP_22 hE1_22 hE2_22 hE3_22
  refine (same_any 1 p5 _ q5 1 lopE _ (by decide) (HFY3.out (x22.alloc (Obj.cells #[.int .i64 0, .int .i64 0, .int .i64 1] 75)) hk23).2.2.2.2.2.2.2.2.2.2.2.2.2.2.1 hE4_23).mono ?_
  rintro e x24 ⟨rfl, hb24⟩
  have hk24 : Below Y3.heap.size Y3 x24 := hk23.trans (hb24.mono hk23.size)
  have hT5_24 := hT5_23.keep hb24
  have hD_24 := hD_23.keep hb24
  have hC_24 := hC_23.keep hb24
  have hP_24 := hP_23.keep hb24
  have hE1_24 := hE1_23.keep hb24
  have hE2_24 := hE2_23.keep hb24
  have hE3_24 := hE3_23.keep hb24
  have hE4_24 := hE4_23.keep hb24
  clear hb24 hk23 g0 g1 g2 g3 g4 g5 hT5_23 hD_23 hC_23 hP_23 hE1_23 hE2_23 hE3_23 hE4_23
  obtain ⟨g0, g1, g2, g3, g4, g5, -⟩ := HFY3.out x24 hk24
  go_wp2_with fail
  have hk25 : Below Y3.heap.size Y3 (x24.alloc (Obj.cells #[.int .i64 0, .int .i64 3, .int .i64 0, .int .i64 4, .int .i64 1, .int .i64 3, .int .i64 1, .int .i64 5, .int .i64 2, .int .i64 4, .int .i64 2, .int .i64 5] 25)) := hk24.alloc hk24.size _
  have hT5_25 := hT5_24.keep ((Below.refl _ x24).alloc (Nat.le_refl _) (Obj.cells #[.int .i64 0, .int .i64 3, .int .i64 0, .int .i64 4, .int .i64 1, .int .i64 3, .int .i64 1, .int .i64 5, .int .i64 2, .int .i64 4, .int .i64 2, .int .i64 5] 25))
  have hD_25 := hD_24.keep ((Below.refl _ x24).alloc (Nat.le_refl _) (Obj.cells #[.int .i64 0, .int .i64 3, .int .i64 0, .int .i64 4, .int .i64 1, .int .i64 3, .int .i64 1, .int .i64 5, .int .i64 2, .int .i64 4, .int .i64 2, .int .i64 5] 25))
  have hC_25 := hC_24.keep ((Below.refl _ x24).alloc (Nat.le_refl _) (Obj.cells #[.int .i64 0, .int .i64 3, .int .i64 0, .int .i64 4, .int .i64 1, .int .i64 3, .int .i64 1, .int .i64 5, .int .i64 2, .int .i64 4, .int .i64 2, .int .i64 5] 25))
  have hP_25 := hP_24.keep ((Below.refl _ x24).alloc (Nat.le_refl _) (Obj.cells #[.int .i64 0, .int .i64 3, .int .i64 0, .int .i64 4, .int .i64 1, .int .i64 3, .int .i64 1, .int .i64 5, .int .i64 2, .int .i64 4, .int .i64 2, .int .i64 5] 25))
  have hE1_25 := hE1_24.keep ((Below.refl _ x24).alloc (Nat.le_refl _) (Obj.cells #[.int .i64 0, .int .i64 3, .int .i64 0, .int .i64 4, .int .i64 1, .int .i64 3, .int .i64 1, .int .i64 5, .int .i64 2, .int .i64 4, .int .i64 2, .int .i64 5] 25))
  have hE2_25 := hE2_24.keep ((Below.refl _ x24).alloc (Nat.le_refl _) (Obj.cells #[.int .i64 0, .int .i64 3, .int .i64 0, .int .i64 4, .int .i64 1, .int .i64 3, .int .i64 1, .int .i64 5, .int .i64 2, .int .i64 4, .int .i64 2, .int .i64 5] 25))
  have hE3_25 := hE3_24.keep ((Below.refl _ x24).alloc (Nat.le_refl _) (Obj.cells #[.int .i64 0, .int .i64 3, .int .i64 0, .int .i64 4, .int .i64 1, .int .i64 3, .int .i64 1, .int .i64 5, .int .i64 2, .int .i64 4, .int .i64 2, .int .i64 5] 25))
  have hE4_25 := hE4_24.keep ((Below.refl _ x24).alloc (Nat.le_refl _) (Obj.cells #[.int .i64 0, .int .i64 3, .int .i64 0, .int .i64 4, .int .i64 1, .int .i64 3, .int .i64 1, .int .i64 5, .int .i64 2, .int .i64 4, .int .i64 2, .int .i64 5] 25))
  have hE5_25 : PsAt (x24.alloc (Obj.cells #[.int .i64 0, .int .i64 3, .int .i64 0, .int .i64 4, .int .i64 1, .int .i64 3, .int .i64 1, .int .i64 5, .int .i64 2, .int .i64 4, .int .i64 2, .int .i64 5] 25)) (some ⟨x24.heap.size, 0, none⟩) fineP := RowAt.of_blk (k := 2) (enc := encP) (fun _ => rfl) (Blk.new _ _ _) rfl
  clear hk24 hT5_24 hD_24 hC_24 hP_24 hE1_24 hE2_24 hE3_24 hE4_24
  refine (sameEnds_true p8 _ q8 6 fineP (by decide) _ hP_25 hE5_25).mono ?_
  rintro e x26 ⟨rfl, hb26⟩
  have hk26 : Below Y3.heap.size Y3 x26 := hk25.trans (hb26.mono hk25.size)
  have hT5_26 := hT5_25.keep hb26
  have hD_26 := hD_25.keep hb26
  have hC_26 := hC_25.keep hb26
  have hP_26 := hP_25.keep hb26
  have hE1_26 := hE1_25.keep hb26
  have hE2_26 := hE2_25.keep hb26
  have hE3_26 := hE3_25.keep hb26
  have hE4_26 := hE4_25.keep hb26
  have hE5_26 := hE5_25.keep hb26
  clear hb26 hk25 g0 g1 g2 g3 g4 g5 hT5_25 hD_25 hC_25 hP_25 hE1_25 hE2_25 hE3_25 hE4_25 hE5_25
  obtain ⟨g0, g1, g2, g3, g4, g5, -⟩ := HFY3.out x26 hk26
  go_wp2_with fail
  have hk27 : Below Y3.heap.size Y3 (x26.alloc (Obj.cells #[.int .i64 3, .int .i64 3] 3)) := hk26.alloc hk26.size _
  have hT5_27 := hT5_26.keep ((Below.refl _ x26).alloc (Nat.le_refl _) (Obj.cells #[.int .i64 3, .int .i64 3] 3))
  have hD_27 := hD_26.keep ((Below.refl _ x26).alloc (Nat.le_refl _) (Obj.cells #[.int .i64 3, .int .i64 3] 3))
  have hC_27 := hC_26.keep ((Below.refl _ x26).alloc (Nat.le_refl _) (Obj.cells #[.int .i64 3, .int .i64 3] 3))
  have hP_27 := hP_26.keep ((Below.refl _ x26).alloc (Nat.le_refl _) (Obj.cells #[.int .i64 3, .int .i64 3] 3))
  have hE1_27 := hE1_26.keep ((Below.refl _ x26).alloc (Nat.le_refl _) (Obj.cells #[.int .i64 3, .int .i64 3] 3))
  have hE2_27 := hE2_26.keep ((Below.refl _ x26).alloc (Nat.le_refl _) (Obj.cells #[.int .i64 3, .int .i64 3] 3))
  have hE3_27 := hE3_26.keep ((Below.refl _ x26).alloc (Nat.le_refl _) (Obj.cells #[.int .i64 3, .int .i64 3] 3))
  have hE4_27 := hE4_26.keep ((Below.refl _ x26).alloc (Nat.le_refl _) (Obj.cells #[.int .i64 3, .int .i64 3] 3))
  have hE5_27 := hE5_26.keep ((Below.refl _ x26).alloc (Nat.le_refl _) (Obj.cells #[.int .i64 3, .int .i64 3] 3))
  have hE6_27 : IsAt (x26.alloc (Obj.cells #[.int .i64 3, .int .i64 3] 3)) (some ⟨x26.heap.size, 0, none⟩) [3, 3] := RowAt.of_blk (k := 1) (enc := encI) (fun _ => rfl) (Blk.new _ _ _) rfl
  clear hk26 hT5_26 hD_26 hC_26 hP_26 hE1_26 hE2_26 hE3_26 hE4_26 hE5_26
  refine (pequalD_true p7 _ q7 2 [3, 3] (by decide) _ hC_27 hE6_27).mono ?_
  rintro e x28 ⟨rfl, hb28⟩
  have hk28 : Below Y3.heap.size Y3 x28 := hk27.trans (hb28.mono hk27.size)
  have hT5_28 := hT5_27.keep hb28
  have hD_28 := hD_27.keep hb28
  have hC_28 := hC_27.keep hb28
  have hP_28 := hP_27.keep hb28
  have hE1_28 := hE1_27.keep hb28
  have hE2_28 := hE2_27.keep hb28
  have hE3_28 := hE3_27.keep hb28
  have hE4_28 := hE4_27.keep hb28
  have hE5_28 := hE5_27.keep hb28
  have hE6_28 := hE6_27.keep hb28
  clear hb28 hk27 g0 g1 g2 g3 g4 g5 hT5_27 hD_27 hC_27 hP_27 hE1_27 hE2_27 hE3_27 hE4_27 hE5_27 hE6_27
  obtain ⟨g0, g1, g2, g3, g4, g5, -⟩ := HFY3.out x28 hk28
  have HEND := Lib.hid (HBY3.out.trans (hk28.mono HBY3.out.size))
  clear hk28 g0 g1 g2 g3 g4 g5
  go_wp2
  go_ret
  exact ⟨rfl, HEND.out⟩
end Go.Proofs.Ytndjjafpdiehdaa

namespace Go.Proofs.Ytndjjafpdiehdaa
open Go.Proofs.Gr

/-- How many ends at a vertex. -/
def degP : List (Int × Int) → Int → Int
  | [], _ => 0
  | p :: r, v => (if p.1 = v then 1 else 0) + (if p.2 = v then 1 else 0) + degP r v
theorem degP_append (A B : List (Int × Int)) (v : Int) : degP (A ++ B) v = degP A v + degP B v := by
  induction A with
  | nil => simp [degP]
  | cons p r ih => rw [List.cons_append, degP, degP, ih]; omega
theorem degP_perm {A B : List (Int × Int)} (h : A.Perm B) (v : Int) : degP A v = degP B v := by
  induction h with
  | nil => rfl
  | cons x _ ih => rw [degP, degP, ih]
  | swap x y l => simp only [degP]; omega
  | trans _ _ h1 h2 => rw [h1, h2]
theorem degP_nrm (A : List (Int × Int)) (v : Int) : degP (A.map nrm) v = degP A v := by
  induction A with
  | nil => rfl
  | cons p r ih =>
    rw [List.map_cons, degP, degP, ih]
    have h := mn_mx p
    have e : ∀ x y : Int, (x = p.1 ∧ y = p.2 ∨ x = p.2 ∧ y = p.1) → (if x = v then (1 : Int) else 0) + (if y = v then 1 else 0) = (if p.1 = v then 1 else 0) + (if p.2 = v then 1 else 0) := by
      rintro x y (⟨rfl, rfl⟩ | ⟨rfl, rfl⟩)
      · rfl
      · omega
    have e2 : (if (nrm p).1 = v then (1 : Int) else 0) + (if (nrm p).2 = v then 1 else 0) = (if p.1 = v then 1 else 0) + (if p.2 = v then 1 else 0) := e _ _ h.2
    rw [e2]
theorem degP_ends {n : Int} {L : List E} (h : ∀ e ∈ L, 0 ≤ e.a ∧ e.a ≤ e.b ∧ e.b < n ∧ 1 ≤ e.m ∧ e.m ≤ 50) (v : Int) : degP (endsG L) v = sumL (othE v) L + 2 * sumL (loopE v) L := by
  induction L with
  | nil => rfl
  | cons e r ih =>
    have h1 := ih (fun x hx => h x (by simp [hx]))
    have h2 := h e (by simp)
    have e1 : endsG (e :: r) = List.replicate e.m.toNat (e.a, e.b) ++ endsG r := by unfold endsG; rw [List.flatMap_cons]
    have e2 : ∀ k : Nat, degP (List.replicate k (e.a, e.b)) v = ((if e.a = v then 1 else 0) + (if e.b = v then 1 else 0)) * (k : Int) := by
      intro k
      induction k with
      | zero => simp [degP]
      | succ k ik => rw [List.replicate_succ, degP, ik, Int.natCast_succ, Int.mul_add]; simp only; omega
    rw [e1, degP_append, h1, e2, sumL, sumL, Int.toNat_of_nonneg (by omega)]
    unfold othE loopE
    by_cases ha : e.a = v <;> by_cases hb : e.b = v <;> simp [ha, hb] <;> omega
theorem degP_mk {n : Nat} {Q : List (Int × Int)} (h : Fine n Q) (v : Int) : sumL (othE v) (mkG n Q) + 2 * sumL (loopE v) (mkG n Q) = degP Q v := by
  rw [← degP_ends (mk_right h).rng, degP_perm (ends_mk h), degP_nrm]
theorem way_deg {n x nx v : Int} (hx : x < n) (hv : n ≤ v) (j : Nat) : degP (wayP x nx j) v + (if lastP x nx j = v then 1 else 0) = if nx ≤ v ∧ v < nx + j then 2 else 0 := by
  induction j with
  | zero =>
    rw [wayP, degP, lastP, if_pos rfl, if_neg (by omega), if_neg (by omega)]
    rfl
  | succ j ih =>
    rw [wayP, degP_append, degP, degP, lastP_succ]
    have e1 : (if nx ≤ v ∧ v < nx + ((j + 1 : Nat) : Int) then (2 : Int) else 0) = (if nx ≤ v ∧ v < nx + (j : Int) then 2 else 0) + (if nx + (j : Int) = v then 1 else 0) + (if nx + (j : Int) = v then 1 else 0) := by
      split <;> split <;> split <;> omega
    rw [e1, ← ih]
    generalize (if nx + (j : Int) = v then (1 : Int) else 0) = A
    show degP (wayP x nx j) v + ((if lastP x nx j = v then (1 : Int) else 0) + A + 0) + A = _
    omega
/-- New vertices have two single edges. -/
theorem sub_deg {n : Int} (q : Nat) (P : List (Int × Int)) (h : ∀ p ∈ P, p.1 < n ∧ p.2 < n) (v : Int) (hv : n ≤ v) (k : Nat) (hk : k ≤ P.length) : degP (subP n q P k) v = if v < nxP n q k then 2 else 0 := by
  induction k with
  | zero => rw [subP, degP, nxP, if_neg (by omega)]
  | succ k ih =>
    have hp := h (pAt P k) (by rw [← pAt_get P k (by omega)]; exact List.getElem_mem _)
    have hw := way_deg (x := (pAt P k).1) (nx := nxP n q k) hp.1 hv q
    have hl := nxP_low n q k
    have e1 : (if v < nxP n q k + (q : Int) then (2 : Int) else 0) = (if v < nxP n q k then 2 else 0) + (if nxP n q k ≤ v ∧ v < nxP n q k + q then 2 else 0) := by
      split <;> split <;> split <;> omega
    rw [subP, degP_append, degP_append, degP, degP, ih (by omega), nxP, e1, ← hw, if_neg (show ¬ (pAt P k).2 = v by omega)]
    omega
theorem way_mem {x nx : Int} {j : Nat} {p : Int × Int} : p ∈ wayP x nx j ↔ ∃ i, i < j ∧ p = (lastP x nx i, nx + i) := by
  induction j with
  | zero => simp [wayP]
  | succ j ih =>
    rw [wayP, List.mem_append, ih, List.mem_singleton]
    constructor
    · rintro (⟨i, hi, h⟩ | h)
      · exact ⟨i, by omega, h⟩
      · exact ⟨j, by omega, h⟩
    · rintro ⟨i, hi, h⟩
      by_cases e : i = j
      · subst e; exact .inr h
      · exact .inl ⟨i, by omega, h⟩
theorem sub_mem {n : Int} {q : Nat} {P : List (Int × Int)} {k : Nat} {p : Int × Int} : p ∈ subP n q P k ↔ ∃ i, i < k ∧ ((∃ j, j < q ∧ p = (lastP (pAt P i).1 (nxP n q i) j, nxP n q i + j)) ∨ p = (lastP (pAt P i).1 (nxP n q i) q, (pAt P i).2)) := by
  induction k with
  | zero => simp [subP]
  | succ k ih =>
    rw [subP, List.mem_append, List.mem_append, ih, way_mem, List.mem_singleton]
    constructor
    · rintro ((⟨i, hi, h⟩ | h) | h)
      · exact ⟨i, by omega, h⟩
      · exact ⟨k, by omega, .inl h⟩
      · exact ⟨k, by omega, .inr h⟩
    · rintro ⟨i, hi, h⟩
      by_cases e : i = k
      · subst e
        rcases h with h | h
        · exact .inl (.inr h)
        · exact .inr h
      · exact .inl (.inl ⟨i, by omega, h⟩)
/-- Subdividing keeps the number of components. -/
theorem parts_sub {N : Nat} {L : List E} (hR : Right N L) (q M : Nat) (hM : M = N + q * (endsG L).length) (hF : Fine M (subP N q (endsG L) (endsG L).length)) : partsR (mkG M (subP N q (endsG L) (endsG L).length)) M = partsR L N := by
  have hin := ends_in hR
  have hadj := eG_adj hR
  have hadj2 := eG_mk hF
  have hsm := fun p => sub_mem (n := (N : Int)) (q := q) (P := endsG L) (k := (endsG L).length) (p := p)
  generalize endsG L = P at *
  generalize subP N q P P.length = S at *
  have hx : ∀ i, i < P.length → ∃ x y : Nat, x < N ∧ y < N ∧ pAt P i = ((x : Int), (y : Int)) ∧ pAt P i ∈ P := by
    intro i hi
    have hm : pAt P i ∈ P := by rw [← pAt_get P i hi]; exact List.getElem_mem _
    have h1 := hin _ hm
    obtain ⟨x, hx⟩ := Int.eq_ofNat_of_zero_le h1.1.1
    obtain ⟨y, hy⟩ := Int.eq_ofNat_of_zero_le h1.2.1
    exact ⟨x, y, by omega, by omega, Prod.ext hx hy, hm⟩
  have hmul : ∀ i, i < P.length → q * i + q ≤ q * P.length := fun i hi => by rw [← Nat.mul_succ]; exact Nat.mul_le_mul_left _ hi
  -- along the way of a single edge
  have hway : ∀ i, i < P.length → ∀ x y : Nat, x < N → pAt P i = ((x : Int), (y : Int)) → ∀ j, j ≤ q → ∃ z : Nat, (z : Int) = lastP x (nxP N q i) j ∧ z < M ∧ Cn (eG (mkG M S)) M x z := by
    intro i hi x y hxN hp j
    induction j with
    | zero => intro _; exact ⟨x, by rw [lastP, if_pos rfl], by omega, .refl⟩
    | succ j ih =>
      intro hj
      obtain ⟨z, hz, hzM, hc⟩ := ih (by omega)
      have := hmul i hi
      refine ⟨N + q * i + j, by rw [lastP_succ, nxP_eq]; push_cast; omega, by omega, .step hc hzM (by omega) ((hadj2 _ _).2 ⟨(lastP x (nxP N q i) j, nxP N q i + j), (hsm _).2 ⟨i, hi, .inl ⟨j, by omega, by rw [hp]⟩⟩, .inl ⟨hz.symm, by rw [nxP_eq]; push_cast; omega⟩⟩)⟩
  have hone : ∀ u v, u < N → Cn (eG L) N u v → Cn (eG (mkG M S)) M u v := by
    intro u v hu h
    induction h with
    | refl => exact .refl
    | @step a b _ h1 h2 h3 ih =>
      refine ih.trans ?_
      obtain ⟨p, hp, hk⟩ := (hadj a b).1 h3
      obtain ⟨i, hi, rfl⟩ := List.mem_iff_getElem.1 hp
      rw [pAt_get] at hk
      obtain ⟨x, y, hxN, hyN, he, -⟩ := hx i hi
      obtain ⟨z, hz, hzM, hc⟩ := hway i hi x y hxN he q (Nat.le_refl _)
      have hxy : Cn (eG (mkG M S)) M x y := .step hc hzM (by omega) ((hadj2 _ _).2 ⟨(lastP x (nxP N q i) q, (y : Int)), (hsm _).2 ⟨i, hi, .inr (by rw [he])⟩, .inl ⟨hz.symm, rfl⟩⟩)
      rw [he] at hk
      simp only at hk
      rcases hk with ⟨k1, k2⟩ | ⟨k1, k2⟩
      · obtain rfl : x = a := by omega
        obtain rfl : y = b := by omega
        exact hxy
      · obtain rfl : x = b := by omega
        obtain rfl : y = a := by omega
        exact hxy.symm (eG_symm _)
  obtain ⟨τ, hτ⟩ : ∃ τ : Nat → Nat, τ = fun w => if w < N then w else (pAt P ((w - N) / q)).1.toNat := ⟨_, rfl⟩
  have ht0 : ∀ w, w < N → τ w = w := fun w hw => by rw [hτ]; simp only; rw [if_pos hw]
  have ht1 : ∀ i x y j : Nat, pAt P i = ((x : Int), (y : Int)) → j < q → τ (N + q * i + j) = x := fun i x y j he hj => by
    rw [hτ]; simp only
    rw [if_neg (by omega), show N + q * i + j - N = j + q * i by omega, Nat.add_mul_div_left _ _ (by omega), Nat.div_eq_of_lt hj, Nat.zero_add, he]
    simp
  have hlast : ∀ i x y j z : Nat, x < N → pAt P i = ((x : Int), (y : Int)) → j ≤ q → (z : Int) = lastP x (nxP N q i) j → τ z = x := by
    intro i x y j z hxN he hj hz
    cases j with
    | zero =>
      rw [lastP, if_pos rfl] at hz
      obtain rfl : z = x := by omega
      exact ht0 _ hxN
    | succ j =>
      rw [lastP_succ, nxP_eq] at hz
      obtain rfl : z = N + q * i + j := by apply Int.ofNat.inj; simp only [Int.ofNat_eq_natCast]; push_cast; omega
      exact ht1 i x y j he (by omega)
  have htw : ∀ u v, Cn (eG (mkG M S)) M u v → Cn (eG L) N (τ u) (τ v) := by
    intro u v h
    induction h with
    | refl => exact .refl
    | @step a b _ h1 h2 h3 ih =>
      refine ih.trans ?_
      obtain ⟨p, hp, hk⟩ := (hadj2 a b).1 h3
      obtain ⟨i, hi, hc⟩ := (hsm p).1 hp
      obtain ⟨x, y, hxN, hyN, he, hm⟩ := hx i hi
      rw [he] at hc
      simp only at hc
      rcases hc with ⟨j, hj, rfl⟩ | rfl
      · simp only at hk
        rcases hk with ⟨k1, k2⟩ | ⟨k1, k2⟩
        · rw [hlast i x y j a hxN he (by omega) k1.symm, hlast i x y (j + 1) b hxN he (by omega) (by rw [lastP_succ]; exact k2.symm)]
          exact .refl
        · rw [hlast i x y j b hxN he (by omega) k1.symm, hlast i x y (j + 1) a hxN he (by omega) (by rw [lastP_succ]; exact k2.symm)]
          exact .refl
      · have hxy : Cn (eG L) N x y := .step .refl hxN hyN ((hadj x y).2 ⟨_, hm, by rw [he]; exact .inl ⟨rfl, rfl⟩⟩)
        simp only at hk
        rcases hk with ⟨k1, k2⟩ | ⟨k1, k2⟩
        · obtain rfl : y = b := by omega
          rw [hlast i x y q a hxN he (Nat.le_refl _) k1.symm, ht0 y hyN]; exact hxy
        · obtain rfl : y = a := by omega
          rw [hlast i x y q b hxN he (Nat.le_refl _) k1.symm, ht0 y hyN]; exact hxy.symm (eG_symm _)
  have hcase : ∀ u, u < M → u < N ∨ ∃ i j, i < P.length ∧ j < q ∧ u = N + q * i + j := by
    intro u hu
    by_cases h : u < N
    · exact .inl h
    · have hq : 0 < q := by
        rcases Nat.eq_zero_or_pos q with h0 | h0
        · subst h0; simp at hM; omega
        · exact h0
      have hdm := Nat.div_add_mod (u - N) q
      have hml := Nat.mod_lt (u - N) hq
      refine .inr ⟨(u - N) / q, (u - N) % q, ?_, hml, by omega⟩
      exact (Nat.div_lt_iff_lt_mul hq).2 (by rw [Nat.mul_comm]; omega)
  have hown : ∀ u, u < M → Cn (eG (mkG M S)) M u (τ u) := by
    intro u hu
    rcases hcase u hu with h | ⟨i, j, hi, hj, rfl⟩
    · rw [ht0 u h]; exact .refl
    · obtain ⟨x, y, hxN, hyN, he, hm⟩ := hx i hi
      obtain ⟨z, hz, hzM, hc⟩ := hway i hi x y hxN he (j + 1) (by omega)
      rw [lastP_succ, nxP_eq] at hz
      obtain rfl : z = N + q * i + j := by apply Int.ofNat.inj; simp only [Int.ofNat_eq_natCast]; push_cast; omega
      rw [ht1 i x y j he hj]
      exact hc.symm (eG_symm _)
  have htr : ∀ u, u < M → τ u < N := by
    intro u hu
    rcases hcase u hu with h | ⟨i, j, hi, hj, rfl⟩
    · rw [ht0 u h]; exact h
    · obtain ⟨x, y, hxN, hyN, he, hm⟩ := hx i hi
      rw [ht1 i x y j he hj]; exact hxN
  refine Nat.le_antisymm ?_ ?_
  · refine parts_le2 τ htr fun u v hu hv h => ?_
    exact ((hown u hu).trans (hone _ _ (htr u hu) h)).trans ((hown v hv).symm (eG_symm _))
  · refine parts_le2 id (fun u hu => by show u < M; omega) fun u v hu hv h => ?_
    have := htw _ _ h
    simp only [id] at this
    rwa [ht0 u hu, ht0 v hv] at this
end Go.Proofs.Ytndjjafpdiehdaa

namespace Go.Proofs.Ytndjjafpdiehdaa
open Go.Proofs.Gr

theorem one_of {n : Int} {L : List E} {e : Int} (h : oneG n L e = true) : fewG n L = true ∧ chkG n L = 0 ∧ 0 ≤ e ∧ e < sizeG L := by
  unfold oneG at h
  simp only [Bool.and_eq_true, decide_eq_true_eq] at h
  exact ⟨h.1.1.1, h.1.1.2, h.1.2, h.2⟩
/-- The sum of a list. -/
def sumD : List Int → Int
  | [] => 0
  | x :: r => x + sumD r
theorem sumD_append (A B : List Int) : sumD (A ++ B) = sumD A + sumD B := by
  induction A with
  | nil => simp [sumD]
  | cons x r ih => rw [List.cons_append, sumD, sumD, ih]; omega
theorem sumD_take (D : List Int) (i : Nat) (h : i < D.length) : sumD (D.take (i + 1)) = sumD (D.take i) + iAt D i := by
  rw [take_iAt D i h, sumD_append, sumD, sumD]; omega
theorem sumD_rep (k : Nat) : sumD (List.replicate k 0) = 0 := by
  induction k with
  | zero => rfl
  | succ k ih => rw [List.replicate_succ, sumD, ih]; rfl
theorem sumD_set (l : List Int) (t : Nat) (z : Int) (h : t < l.length) : sumD (l.set t (iAt l t + z)) = sumD l + z := by
  induction l generalizing t with
  | nil => simp at h
  | cons x r ih =>
    cases t with
    | zero =>
      show sumD ((iAt (x :: r) 0 + z) :: r) = _
      rw [sumD, sumD]
      show x + z + sumD r = _
      omega
    | succ t =>
      have h2 := ih t (by simpa using h)
      show sumD (x :: r.set t (iAt r t + z)) = _
      rw [sumD, sumD, h2]; omega
theorem col_sum (f : Int → Int) (D : List Int) (m : Nat) (hf : ∀ i : Nat, i < D.length → 0 ≤ f i ∧ f i < m) (i : Nat) (hi : i ≤ D.length) : sumD (colL f D m i) = sumD (D.take i) := by
  induction i with
  | zero => rw [colL, sumD_rep, List.take_zero]; rfl
  | succ i ih =>
    have := hf i (by omega)
    rw [colL, sumD_set _ _ _ (by rw [colL_len]; omega), ih (by omega), sumD_take D i (by omega)]
theorem col_bound (f : Int → Int) (D : List Int) (B : Int) (hB : 0 ≤ B) (hD : ∀ i, i < D.length → -B ≤ iAt D i ∧ iAt D i ≤ B) (m i : Nat) (hi : i ≤ D.length) (j : Nat) : -(B * (i : Int)) ≤ iAt (colL f D m i) j ∧ iAt (colL f D m i) j ≤ B * (i : Int) := by
  induction i generalizing j with
  | zero =>
    have : iAt (List.replicate m 0) j = 0 := by
      unfold iAt
      rw [List.getD_eq_getElem?_getD, List.getElem?_replicate]; split <;> rfl
    simp [colL, this]
  | succ i ih =>
    have h1 := ih (by omega) j
    have h2 := ih (by omega) (f i).toNat
    have h3 := hD i (by omega)
    have e1 : B * ((i + 1 : Nat) : Int) = B * (i : Int) + B := by rw [Int.natCast_succ, Int.mul_add, Int.mul_one]
    rw [colL, e1]
    by_cases hl : (f i).toNat < (colL f D m i).length
    · rw [iAt_set _ _ _ _ hl]
      split <;> omega
    · rw [List.set_eq_of_length_le (by omega)]; omega
theorem sumD_bound (D : List Int) (B : Int) (hD : ∀ i, i < D.length → -B ≤ iAt D i ∧ iAt D i ≤ B) (i : Nat) (hi : i ≤ D.length) : -(B * (i : Int)) ≤ sumD (D.take i) ∧ sumD (D.take i) ≤ B * (i : Int) := by
  induction i with
  | zero => simp [sumD]
  | succ i ih =>
    have h1 := ih (by omega)
    have h3 := hD i (by omega)
    have e1 : B * ((i + 1 : Nat) : Int) = B * (i : Int) + B := by rw [Int.natCast_succ, Int.mul_add, Int.mul_one]
    rw [sumD_take D i (by omega), e1]; omega
def smD (v : Int) : Bool := decide (-1000 ≤ v) && decide (v ≤ 1000)
theorem sm_at {D : List Int} (h : D.all smD = true) (i : Nat) (hi : i < D.length) : -1000 ≤ iAt D i ∧ iAt D i ≤ 1000 := by
  have h1 := List.all_eq_true.1 h D[i] (List.getElem_mem _)
  rw [iAt_get D i hi] at h1
  unfold smD at h1
  simpa using h1
theorem sm_rng {D : List Int} (h : D.all smD = true) : D.all rngD = true := by
  rw [List.all_eq_true] at h ⊢
  intro x hx
  have h1 := h x hx
  unfold smD at h1
  unfold rngD
  simp only [Bool.and_eq_true, decide_eq_true_eq] at h1 ⊢
  omega
theorem all_of_at {D : List Int} {p : Int → Bool} (h : ∀ i, i < D.length → p (iAt D i) = true) : D.all p = true := by
  rw [List.all_eq_true]
  intro x hx
  obtain ⟨i, hi, rfl⟩ := List.mem_iff_getElem.1 hx
  rw [iAt_get D i hi]; exact h i hi
/-- What is collected of a small divisor. -/
theorem col_small (f : Int → Int) (D : List Int) (m : Nat) (hD : D.all smD = true) (hl : D.length ≤ 12) : colK f D m = 0 ∧ colR f D m = colL f D m D.length := by
  have h1 : (colL f D m D.length).all rngD = true := all_of_at fun i hi => by
    have := col_bound f D 1000 (by decide) (sm_at hD) m D.length (Nat.le_refl _) i
    unfold rngD
    simp only [Bool.and_eq_true, decide_eq_true_eq]
    omega
  unfold colK colR
  rw [if_pos h1, if_pos h1]
  exact ⟨rfl, rfl⟩
/-- The graph behind deleting, and behind contracting, with few single edges. -/
theorem fine_del {N : Nat} {L : List E} (hR : Right N L) (h9 : (endsG L).length ≤ 9) (e : Nat) : Fine N (dropP (endsG L) e) := by
  have h0 := hR.lo
  have h1 := hR.hi
  refine fine_few (by omega) (by omega) (fun p hp => ends_in hR p (dropP_mem hp)) ?_
  unfold dropP
  rw [List.length_append, List.length_take, List.length_drop]; omega
theorem mv_in {N M : Nat} {p : Int × Int} (hp : (0 ≤ p.1 ∧ p.1 < (N : Int)) ∧ 0 ≤ p.2 ∧ p.2 < (N : Int)) (hM : mgF p N = M) {Q : List (Int × Int)} (hQ : InN N Q) : InN M (mvP (mgF p) Q) := by
  intro q hq
  obtain ⟨r, hr, rfl⟩ := List.mem_map.1 hq
  have h1 := hQ r hr
  have h2 := mgF_rng hp.1 hp.2 r.1 h1.1
  have h3 := mgF_rng hp.1 hp.2 r.2 h1.2
  have h4 := mn_mx (mgF p r.1, mgF p r.2)
  rw [hM] at h2 h3
  unfold mvF
  simp only at h4 ⊢
  omega
theorem fine_con {N : Nat} {L : List E} (hR : Right N L) (h9 : (endsG L).length ≤ 9) (e : Nat) (he : e < (endsG L).length) (M : Nat) (hM : mgF (pAt (endsG L) e) N = M) : Fine M (mvP (mgF (pAt (endsG L) e)) (dropP (endsG L) e)) := by
  have hp := ends_in hR (pAt (endsG L) e) (by rw [← pAt_get _ e he]; exact List.getElem_mem _)
  have h0 := hR.lo
  have h1 := hR.hi
  have hn := mgF_n hp.1 hp.2
  rw [hM] at hn
  have hM1 : 1 ≤ M ∧ M ≤ 12 := by
    by_cases hx : (pAt (endsG L) e).1 = (pAt (endsG L) e).2
    · rw [if_pos hx] at hn; omega
    · rw [if_neg hx] at hn; omega
  refine fine_few hM1.1 hM1.2 (mv_in hp hM fun p hp => ends_in hR p (dropP_mem hp)) ?_
  rw [mvP_len]
  have := dropP_len (endsG L) e he
  omega
theorem makes_con {N : Nat} {L : List E} (hR : Right N L) (h9 : (endsG L).length ≤ 9) (e : Nat) (he : e < (endsG L).length) (M : Nat) (hM : mgF (pAt (endsG L) e) N = M) : Makes (mgF (pAt (endsG L) e) N) (mvP (mgF (pAt (endsG L) e)) (dropP (endsG L) e)) M (mkG M (mvP (mgF (pAt (endsG L) e)) (dropP (endsG L) e))) 0 := by
  have hF := fine_con hR h9 e he M hM
  rw [hM]
  have hl := dropP_len (endsG L) e he
  exact makes_right M hF.lo hF.hi _ (by rw [mvP_len]; omega) hF.rng hF.few
theorem fine_sub {N : Nat} {L : List E} (hR : Right N L) (h9 : (endsG L).length ≤ 9) (q M : Nat) (hM : M = N + q * (endsG L).length) (h12 : M ≤ 12) : Fine M (subP N q (endsG L) (endsG L).length) := by
  have h0 := hR.lo
  have hr := sub_rng h0 (fun p hp => ends_rng hR.rng p hp) q (endsG L).length (Nat.le_refl _)
  rw [nxP_eq] at hr
  have e1 : (N : Int) + (q : Int) * ((endsG L).length : Int) = M := by rw [hM]; push_cast; rfl
  rw [e1] at hr
  refine fine_few (by omega) h12 hr ?_
  rw [subP_len]
  by_cases hq : q = 0
  · subst hq; omega
  · have h1 : (endsG L).length * 1 ≤ (endsG L).length * q := Nat.mul_le_mul_left _ (by omega)
    have h2 : q * (endsG L).length = (endsG L).length * q := Nat.mul_comm _ _
    rw [Nat.mul_add]; omega
end Go.Proofs.Ytndjjafpdiehdaa

namespace Go.Proofs.Ytndjjafpdiehdaa
open Go.RowKit Go.Shelf Go.Proofs.Gr
attribute [local go_sem] Oper.semAt_some

theorem infoD : (Try.prog.info? 3).map (·.size) = some 1 := by kernel_rfl
theorem RowB.copied {w : World} {g m : Nat} {D : List Int} (h : RowB encI 3 w g (List.replicate m 0)) (hm : D.length ≤ m) : RowAt 1 encI (w.setCells g 0 (D.map fun z => Value.int .i64 z)) (some ⟨g, 0, none⟩) (D ++ List.replicate (m - D.length) 0) := by
  have hs : ∀ j, j < (D.map fun z => Value.int .i64 z).length → (w.cell? ⟨g, 0 + j, none⟩).isSome = true := fun j hj => by
    rw [List.length_map] at hj
    rw [Nat.zero_add, h.cell j (by simp; omega)]; rfl
  have hlt : g < w.heap.size := Blk.lt h
  intro j hj
  rw [List.length_append, List.length_replicate] at hj
  refine ⟨g, 0, rfl, Nat.lt_of_lt_of_le hlt (grown_setCells g _ 0 w).size, fun i hi => ?_⟩
  obtain rfl : i = 0 := by omega
  rw [Nat.mul_one, Nat.add_zero]
  by_cases h1 : j < D.length
  · have := World.cell?_setCells_in g (D.map fun z => Value.int .i64 z) 0 w hs j (by simpa using h1)
    rw [this, List.getElem_append_left h1, List.getElem_map]; rfl
  · rw [World.cell?_setCells_out g _ 0 w ⟨g, 0 + j, none⟩ (fun _ _ => by rw [List.length_map]; show 0 + j < 0 ∨ 0 + D.length ≤ 0 + j; omega)]
    have := h.cell j (by simp; omega)
    rw [Nat.zero_add, this, List.getElem_append_right (by omega), List.getElem_replicate]
    have : iAt (List.replicate m 0) j = 0 := by
      rw [← iAt_get _ j (by simp; omega), List.getElem_replicate]
    rw [this]; rfl
set_option maxHeartbeats 12800000 in
set_option maxRecDepth 100000 in
theorem pSpr_sub (n : Int) (a : Option Addr) (cap : Nat) (L : List E) (hL : L.length ≤ 100000) (k : Int) (b : Option Addr) (c : Nat) (D : List Int) (hk : subKE n L k ≠ 0) (w : World) (h : EsAt w a L) :
    Calls Try.prog 27 #[gv n a L.length cap, .int .i64 k, .slice b D.length c] w (GivesIK w [] (subKE n L k)) := by
  have HC := Lib.hid (fun w h => pSub_err n a cap L hL k hk w h)
  generalize subKE n L k = kk at *
  have q0 : (((kk : Nat) : Int) != 0) = true := by rw [bne_iff_ne]; omega
  unfold GivesIK gv at *
  unfold GivesGW at HC
  obtain ⟨W, hW⟩ : ∃ W, W = w.alloc (Obj.cells #[.int .i64 n, .slice a L.length cap] 24) := ⟨_, rfl⟩
  have hB0 : Below w.heap.size w W := by rw [hW]; exact (Below.refl _ w).alloc (Nat.le_refl _) _
  have hG : Blk W w.heap.size 24 #[.int .i64 n, .slice a L.length cap] := by rw [hW]; exact Blk.new _ _ _
  have hWs : W.heap.size = w.heap.size + 1 := by rw [hW]; simp
  have HW := Lib.hid hW
  have HWS := Lib.hid hWs
  have HB0 := Lib.hid hB0
  have HE := Lib.hid (h.keep hB0)
  have HF : Hid (∀ u, Below W.heap.size W u → u.cell? ⟨w.heap.size, 0, none⟩ = some (.int .i64 n) ∧ u.cell? ⟨w.heap.size, 1, none⟩ = some (.slice a L.length cap)) := Lib.hid fun u hu => ⟨(hG.below hu hG.lt).cell 0, (hG.below hu hG.lt).cell 1⟩
  obtain ⟨g0, g1⟩ := HF.out W (Below.refl _ _)
  clear hB0 hG hW hWs h
  go_enter Try.func27, Try.ntmps27
  go_wp2_with fail
  rw [← HW.out]
  refine (HC.out _ HE.out).mono ?_
  rintro r w1 ⟨a1, c1, rfl, -, hb⟩
  have HEND := Lib.hid (HB0.out.trans ((hb.alloc hb.size (Obj.cells #[.int .i64 0, .slice a1 0 c1] 24)).mono HB0.out.size))
  clear g0 g1 hb
  go_wp2
  go_ret2
  exact ⟨none, 0, rfl, RowAt.nil _ _ _ _, HEND.out⟩
set_option maxHeartbeats 12800000 in
set_option maxRecDepth 100000 in
theorem pSpr_dv (n : Int) (a : Option Addr) (cap : Nat) (L : List E) (hL : L.length ≤ 100000) (k : Int) (b : Option Addr) (c : Nat) (D : List Int) (hD : D.length ≤ 100000) (hl : (endsG L).length ≤ 4096) (hs : subKE n L k = 0) (hk : dvE n D ≠ 0) (w : World) (h : EsAt w a L) (hd : IsAt w b D) :
    Calls Try.prog 27 #[gv n a L.length cap, .int .i64 k, .slice b D.length c] w (GivesIK w [] (dvE n D)) := by
  obtain ⟨h0, q, hq, rfl, hx⟩ := subKE_zero hs
  have hln : (endsG L).length ≤ 50 * 100000 := by have := ends_all (right_of h0); omega
  have hp0 : 0 ≤ (q : Int) * ((endsG L).length : Int) := Int.mul_nonneg (by omega) (by omega)
  have hnr := chkG_n h0
  obtain ⟨N, hN⟩ : ∃ N : Nat, n + (q : Int) * (endsG L).length = N := ⟨(n + (q : Int) * (endsG L).length).toNat, by omega⟩
  have hM := makes_sub (right_of h0) hl q N hN (by omega)
  generalize joinT (cntT (subP n q (endsG L) (endsG L).length) (subP n q (endsG L) (endsG L).length).length) N N = J at *
  have HC := Lib.hid (fun w h => pSub_ok n a cap L hL q hq h0 hx N J 0 hM w h)
  have HDV := Lib.hid (fun w h hd => pcheckD_any n a cap L b c D hD w h hd)
  generalize dvE n D = kk at *
  have q0 : (((kk : Nat) : Int) != 0) = true := by rw [bne_iff_ne]; omega
  unfold GivesIK gv at *
  unfold GivesGW at HC
  clear hM hN hp0 hln hs h0 hx
  obtain ⟨W, hW⟩ : ∃ W, W = w.alloc (Obj.cells #[.int .i64 n, .slice a L.length cap] 24) := ⟨_, rfl⟩
  have hB0 : Below w.heap.size w W := by rw [hW]; exact (Below.refl _ w).alloc (Nat.le_refl _) _
  have hG : Blk W w.heap.size 24 #[.int .i64 n, .slice a L.length cap] := by rw [hW]; exact Blk.new _ _ _
  have hWs : W.heap.size = w.heap.size + 1 := by rw [hW]; simp
  have HW := Lib.hid hW
  have HWS := Lib.hid hWs
  have HB0 := Lib.hid hB0
  have HE := Lib.hid (h.keep hB0)
  have HF : Hid (∀ u, Below W.heap.size W u → u.cell? ⟨w.heap.size, 0, none⟩ = some (.int .i64 n) ∧ u.cell? ⟨w.heap.size, 1, none⟩ = some (.slice a L.length cap)) := Lib.hid fun u hu => ⟨(hG.below hu hG.lt).cell 0, (hG.below hu hG.lt).cell 1⟩
  obtain ⟨g0, g1⟩ := HF.out W (Below.refl _ _)
  have HD := Lib.hid (hd.keep hB0)
  clear hd hB0 hG hW hWs h
  go_enter Try.func27, Try.ntmps27
  go_wp2_with fail
  rw [← HW.out]
  refine (HC.out _ HE.out).mono ?_
  rintro r w1 ⟨a1, c1, rfl, -, hb⟩
  clear g0 g1
  obtain ⟨V, hV⟩ : ∃ V, V = w1.alloc (Obj.cells #[.int .i64 (N : Int), .slice a1 J.length c1] 24) := ⟨_, rfl⟩
  have hbV : Below W.heap.size W V := by rw [hV]; exact hb.alloc hb.size _
  have hvb : Blk V w1.heap.size 24 #[.int .i64 (N : Int), .slice a1 J.length c1] := by rw [hV]; exact Blk.new _ _ _
  obtain ⟨g0, g1⟩ := HF.out V hbV
  rw [hV] at g0 g1
  have HV := Lib.hid hV
  clear hV hb
  go_wp2_with fail
  rw [← HV.out]
  refine (HDV.out _ (HE.out.keep hbV) (HD.out.keep hbV)).mono ?_
  rintro r w2 ⟨rfl, hb2⟩
  have hk2 : Below W.heap.size W w2 := hbV.trans (hb2.mono hbV.size)
  have HEND := Lib.hid (HB0.out.trans (hk2.mono HB0.out.size))
  clear g0 g1 hb2 hk2 hbV hvb
  go_wp2
  go_ret2
  exact ⟨none, 0, rfl, RowAt.nil _ _ _ _, HEND.out⟩
set_option maxHeartbeats 12800000 in
set_option maxRecDepth 100000 in
theorem pSpr_ok (n : Int) (a : Option Addr) (cap : Nat) (L : List E) (hL : L.length ≤ 100000) (q : Nat) (b : Option Addr) (c : Nat) (D : List Int) (hD : D.length ≤ 100000) (hl : (endsG L).length ≤ 4096) (hs : subKE n L ((q : Int) + 1) = 0) (hk : dvE n D = 0) (w : World) (h : EsAt w a L) (hd : IsAt w b D) :
    Calls Try.prog 27 #[gv n a L.length cap, .int .i64 ((q : Int) + 1), .slice b D.length c] w (GivesIK w (D ++ List.replicate (q * (endsG L).length) 0) 0) := by
  obtain ⟨h0, q', hq, hqq, hx⟩ := subKE_zero hs
  obtain rfl : q = q' := by omega
  clear hqq
  have hln : (endsG L).length ≤ 50 * 100000 := by have := ends_all (right_of h0); omega
  have hp0 : 0 ≤ (q : Int) * ((endsG L).length : Int) := Int.mul_nonneg (by omega) (by omega)
  have hnr := chkG_n h0
  obtain ⟨N, hN⟩ : ∃ N : Nat, n + (q : Int) * (endsG L).length = N := ⟨(n + (q : Int) * (endsG L).length).toNat, by omega⟩
  have hM := makes_sub (right_of h0) hl q N hN (by omega)
  generalize joinT (cntT (subP n q (endsG L) (endsG L).length) (subP n q (endsG L) (endsG L).length).length) N N = J at *
  have HC := Lib.hid (fun w h => pSub_ok n a cap L hL q hq h0 hx N J 0 hM w h)
  have HDV := Lib.hid (fun w h hd => pcheckD_any n a cap L b c D hD w h hd)
  rw [hk] at HDV
  have hDn : (D.length : Int) = n := by
    unfold dvE at hk
    split at hk
    · omega
    · omega
  have hNq : (N : Int) = D.length + (q * (endsG L).length : Nat) := by rw [Int.natCast_mul]; omega
  have hrl : (D ++ List.replicate (q * (endsG L).length) 0).length = N := by rw [List.length_append, List.length_replicate]; omega
  have HRL := Lib.hid hrl
  have hrr : D ++ List.replicate (q * (endsG L).length) 0 = D ++ List.replicate (N - D.length) 0 := by rw [show N - D.length = q * (endsG L).length by omega]
  rw [hrr] at HRL ⊢
  clear hrl hrr
  have HCP := Lib.hid (fun (w : World) (g : Nat) (h : RowB encI 3 w g (List.replicate N 0)) => RowB.copied (D := D) h (by omega))
  generalize D ++ List.replicate (N - D.length) 0 = RR at *
  have hDl : D.length ≤ N := by omega
  have hN12 : N ≤ 12 := by omega
  have hD0 : 0 < D.length := by omega
  unfold GivesIK gv at *
  unfold GivesGW at HC
  clear hM hN hp0 hln hs h0 hx hNq hk
  obtain ⟨W, hW⟩ : ∃ W, W = w.alloc (Obj.cells #[.int .i64 n, .slice a L.length cap] 24) := ⟨_, rfl⟩
  have hB0 : Below w.heap.size w W := by rw [hW]; exact (Below.refl _ w).alloc (Nat.le_refl _) _
  have hG : Blk W w.heap.size 24 #[.int .i64 n, .slice a L.length cap] := by rw [hW]; exact Blk.new _ _ _
  have hWs : W.heap.size = w.heap.size + 1 := by rw [hW]; simp
  have HW := Lib.hid hW
  have HWS := Lib.hid hWs
  have HB0 := Lib.hid hB0
  have HE := Lib.hid (h.keep hB0)
  have HF : Hid (∀ u, Below W.heap.size W u → u.cell? ⟨w.heap.size, 0, none⟩ = some (.int .i64 n) ∧ u.cell? ⟨w.heap.size, 1, none⟩ = some (.slice a L.length cap)) := Lib.hid fun u hu => ⟨(hG.below hu hG.lt).cell 0, (hG.below hu hG.lt).cell 1⟩
  obtain ⟨g0, g1⟩ := HF.out W (Below.refl _ _)
  have HD := Lib.hid (hd.keep hB0)
  clear hd hB0 hG hW hWs h
  go_enter Try.func27, Try.ntmps27
  go_wp2_with fail
  rw [← HW.out]
  refine (HC.out _ HE.out).mono ?_
  rintro r w1 ⟨a1, c1, rfl, -, hb⟩
  clear g0 g1
  obtain ⟨V, hV⟩ : ∃ V, V = w1.alloc (Obj.cells #[.int .i64 (N : Int), .slice a1 J.length c1] 24) := ⟨_, rfl⟩
  have hbV : Below W.heap.size W V := by rw [hV]; exact hb.alloc hb.size _
  have hvb : Blk V w1.heap.size 24 #[.int .i64 (N : Int), .slice a1 J.length c1] := by rw [hV]; exact Blk.new _ _ _
  obtain ⟨g0, g1⟩ := HF.out V hbV
  rw [hV] at g0 g1
  have HV := Lib.hid hV
  clear hV hb
  go_wp2_with fail
  rw [← HV.out]
  refine (HDV.out _ (HE.out.keep hbV) (HD.out.keep hbV)).mono ?_
  rintro r w2 ⟨rfl, hb2⟩
  have hk2 : Below W.heap.size W w2 := hbV.trans (hb2.mono hbV.size)
  have hvz : w2.cell? ⟨w1.heap.size, 0, none⟩ = some (.int .i64 (N : Int)) := (hvb.below hb2 hvb.lt).cell 0
  have hmk : (Instr.makeSlice 48 (.int .i64 (N : Int)) (.int .i64 (N : Int))).run Try.prog w2 = .ok (.slice (some ⟨w2.heap.size, 0, none⟩) N N) (w2.alloc (.cells (flat encI (List.replicate N 0)).toArray 3)) := make_divs N (by omega) _
  obtain ⟨x3, hx3⟩ : ∃ x3, x3 = w2.alloc (.cells (flat encI (List.replicate N 0)).toArray 3) := ⟨_, rfl⟩
  obtain ⟨gp, hgp⟩ : ∃ gp, gp = w2.heap.size := ⟨_, rfl⟩
  have hrb : RowB encI 3 x3 gp (List.replicate N 0) := by rw [hx3, hgp]; exact RowB.new _ _ _ _
  have hk3 : Below W.heap.size W x3 := by rw [hx3]; exact hk2.alloc hk2.size _
  have hD3 := HD.out.keep hk3
  rw [← hx3, ← hgp] at hmk
  obtain ⟨b2, o2, hbb, -, -⟩ := hD3.one 0 hD0
  subst hbb
  have hcp : ∀ ty, (Builtin.copy_ #[48, 48] ty #[.slice (some ⟨gp, 0, none⟩) N N, .slice (some ⟨b2, o2, none⟩) D.length c]).run Try.prog x3 = .ok (goInt (D.map fun z => Value.int .i64 z).length) (x3.setCells gp 0 (D.map fun z => Value.int .i64 z)) := fun ty =>
    run_copy_cells (P := Try.prog) x3 _ _ ty 3 gp 0 N N ⟨b2, o2, none⟩ D.length c (D.map fun z => Value.int .i64 z) Try.underlying48 infoD (by rw [List.length_map]; exact (Nat.min_eq_left hDl).symm)
      (fun j v hj => by
        have hjl : j < D.length := by have := (List.getElem?_eq_some_iff.1 hj).1; simpa using this
        obtain ⟨b3, o3, hb3, -, x1⟩ := hD3.one j hjl
        injection hb3 with hb3
        injection hb3 with e1 e2
        subst e1 e2
        rw [List.getElem?_map, List.getElem?_eq_getElem hjl, iAt_get D j hjl] at hj
        rw [Addr.add_lit, x1]; exact hj)
      (fun j hj => by
        rw [List.length_map] at hj
        rw [Nat.zero_add, hrb.cell j (by simp; omega)]; rfl)
      (fun j _ => Blk.frozen hrb _)
      (fun v hv => by
        obtain ⟨z, -, rfl⟩ := List.mem_map.1 hv
        rfl)
  have HEND : Hid (Below w.heap.size w (x3.setCells gp 0 (D.map fun z => Value.int .i64 z))) := Lib.hid (by
    have hg := grown_setCells gp (D.map fun z => Value.int .i64 z) 0 x3
    exact HB0.out.trans ((hk3.grown hg hk3.size (fun k hk => by injection hk with hk; rw [← hk, hgp]; exact hk2.size)).mono HB0.out.size))
  have HRW := Lib.hid (HCP.out x3 gp hrb)
  clear hrb hk3 hD3 hx3 hgp hk2 hb2 hbV hvb
  go_wp2
  go_ret2
  exact ⟨some ⟨gp, 0, none⟩, N, by rw [HRL.out]; rfl, HRW.out, HEND.out⟩
end Go.Proofs.Ytndjjafpdiehdaa
