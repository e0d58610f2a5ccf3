/- The law of counts. -/
import Derived.Test.YtndjjafpdiehdaaQ18
namespace Go.Proofs.Ytndjjafpdiehdaa
open Go.RowKit Go.Shelf Go.Proofs.Gr
attribute [local go_sem] Oper.semAt_some

set_option maxHeartbeats 12800000 in
set_option maxRecDepth 100000 in
theorem counts_dark (n : Int) (a : Option Addr) (cap : Nat) (L : List E) (e : Int) (k0 : Int)  (HRT : Hid (∀ w, EsAt w a L → Calls Try.prog 32 #[.agg #[.int .i64 n, .slice a L.length cap], .int .i64 (e : Int)] w (fun e w' => e = .returned (.bool false) ∧ Below w.heap.size w w'))) (HA : AwakeC) (w : World) (h : EsAt w a L) :
    Calls Try.prog 7 #[gv n a L.length cap, .int .i64 (e : Int), .int .u8 k0] w (GivesB w true) := by
  unfold GivesB gv
  obtain ⟨W, hW⟩ : ∃ W, W = w.alloc (Obj.cells #[.int .i64 n, .slice a L.length cap] 24) := ⟨_, rfl⟩
  have hB0 : Below w.heap.size w W := by rw [hW]; exact (Below.refl _ w).alloc (Nat.le_refl _) _
  have hG : Blk W w.heap.size 24 #[.int .i64 n, .slice a L.length cap] := by rw [hW]; exact Blk.new _ _ _
  have HW := Lib.hid hW
  have HB0 := Lib.hid hB0
  have hEz : EsAt W a L := h.keep hB0
  have HF : Hid (∀ x, Below W.heap.size W x → x.cell? ⟨w.heap.size, 0, none⟩ = some (.int .i64 n) ∧ x.cell? ⟨w.heap.size, 1, none⟩ = some (.slice a L.length cap) ∧ EsAt x a L) := Lib.hid fun x hx => ⟨(hG.below hx hG.lt).cell 0, (hG.below hx hG.lt).cell 1, hEz.keep hx⟩
  have hk0 : Below W.heap.size W W := Below.refl _ _
  obtain ⟨g0, g1, -⟩ := HF.out W hk0
  clear hB0 hG hW hEz h
  go_enter Try.func7, Try.ntmps7
  go_wp2_with fail
  rw [← HW.out]
  refine (HRT.out _ (HF.out W hk0).2.2).mono ?_
  rintro e x1 ⟨rfl, hb1⟩
  have hk1 : Below W.heap.size W x1 := hk0.trans (hb1.mono hk0.size)
  clear hb1 hk0 g0 g1
  obtain ⟨g0, g1, -⟩ := HF.out x1 hk1
  go_wp2_with fail
  refine (HA _).mono ?_
  rintro e x2 ⟨rfl, hb2⟩
  have hk2 : Below W.heap.size W x2 := hk1.trans (hb2.mono hk1.size)
  clear hb2 hk1 g0 g1
  obtain ⟨g0, g1, -⟩ := HF.out x2 hk2
  have HEND := Lib.hid (HB0.out.trans (hk2.mono HB0.out.size))
  clear hk2 g0 g1
  go_wp2
  go_ret
  exact ⟨rfl, HEND.out⟩
set_option maxHeartbeats 12800000 in
set_option maxRecDepth 100000 in
theorem counts_loop_ok (n : Int) (a : Option Addr) (cap : Nat) (L : List E) (e : Nat) (k0 : Int) (JA JB : List E) (P : List (Int × Int)) (he : e < P.length) (xa xb S Gm : Int) (hS : 1 ≤ S ∧ S ≤ 10) (hG : -1000 ≤ Gm ∧ Gm ≤ 1000) (hn : 1 ≤ n ∧ n ≤ 12) (HRT : Hid (∀ w, EsAt w a L → Calls Try.prog 32 #[.agg #[.int .i64 n, .slice a L.length cap], .int .i64 (e : Int)] w (fun e w' => e = .returned (.bool true) ∧ Below w.heap.size w w'))) (HA : AwakeC) (HD : Hid (∀ w, EsAt w a L → Calls Try.prog 13 #[.agg #[.int .i64 n, .slice a L.length cap], .int .i64 (e : Int)] w (fun e w' => ∃ a1 c1, e = .returned (.tuple #[.agg #[.int .i64 n, .slice a1 JA.length c1], .int .i64 ((0 : Nat) : Int)]) ∧ EsAt w' a1 JA ∧ Below w.heap.size w w'))) (HC : Hid (∀ w, EsAt w a L → Calls Try.prog 15 #[.agg #[.int .i64 n, .slice a L.length cap], .int .i64 (e : Int)] w (fun e w' => ∃ a1 c1, e = .returned (.tuple #[.agg #[.int .i64 n, .slice a1 JB.length c1], .int .i64 ((0 : Nat) : Int)]) ∧ EsAt w' a1 JB ∧ Below w.heap.size w w'))) (HKA : Hid (∀ a c w, EsAt w a JA → Calls Try.prog 33 #[.agg #[.int .i64 n, .slice a JA.length c]] w (fun e w' => e = .returned (.int .i64 0) ∧ Below w.heap.size w w'))) (HKB : Hid (∀ a c w, EsAt w a JB → Calls Try.prog 33 #[.agg #[.int .i64 n, .slice a JB.length c]] w (fun e w' => e = .returned (.int .i64 0) ∧ Below w.heap.size w w'))) (HEN : Hid (∀ w, EsAt w a L → Calls Try.prog 34 #[.agg #[.int .i64 n, .slice a L.length cap]] w (fun e w' => ∃ b d, e = .returned (.slice b P.length d) ∧ PsAt w' b P ∧ Below w.heap.size w w'))) (HPE : Hid (pAt P e = (xa, xb))) (HSZ : Hid (∀ a c w, EsAt w a L → Calls Try.prog 35 #[.agg #[.int .i64 n, .slice a L.length c]] w (fun e w' => e = .returned (.int .i64 S) ∧ Below w.heap.size w w'))) (HGN : Hid (∀ a c w, EsAt w a L → Calls Try.prog 36 #[.agg #[.int .i64 n, .slice a L.length c]] w (fun e w' => e = .returned (.int .i64 Gm) ∧ Below w.heap.size w w'))) (HRA : Hid (∀ a c w, EsAt w a JA → Calls Try.prog 37 #[.agg #[.int .i64 n, .slice a JA.length c]] w (fun e w' => e = .returned (.int .i64 0) ∧ Below w.heap.size w w'))) (HRB : Hid (∀ a c w, EsAt w a JB → Calls Try.prog 37 #[.agg #[.int .i64 n, .slice a JB.length c]] w (fun e w' => e = .returned (.int .i64 0) ∧ Below w.heap.size w w'))) (HSA : Hid (∀ a c w, EsAt w a JA → Calls Try.prog 35 #[.agg #[.int .i64 n, .slice a JA.length c]] w (fun e w' => e = .returned (.int .i64 (S - 1)) ∧ Below w.heap.size w w'))) (HSB : Hid (∀ a c w, EsAt w a JB → Calls Try.prog 35 #[.agg #[.int .i64 n, .slice a JB.length c]] w (fun e w' => e = .returned (.int .i64 (S - 1)) ∧ Below w.heap.size w w'))) (HGB : Hid (∀ a c w, EsAt w a JB → Calls Try.prog 36 #[.agg #[.int .i64 n, .slice a JB.length c]] w (fun e w' => e = .returned (.int .i64 (Gm - 1)) ∧ Below w.heap.size w w'))) (hx : xa = xb) (q : Nat) (hq : q ≤ 2) (hk1 : IntKind.i64.wrap (k0.tmod 3) = (q : Int)) (hk0 : IntKind.i64.wrap (1 + (q : Int)) = (q : Int) + 1) (JC : List E) (MC : Int) (hMC : n ≤ MC ∧ MC ≤ 12) (HSU : Hid (∀ w, EsAt w a L → Calls Try.prog 25 #[.agg #[.int .i64 n, .slice a L.length cap], .int .i64 ((q : Int) + 1)] w (fun e w' => ∃ a1 c1, e = .returned (.tuple #[.agg #[.int .i64 MC, .slice a1 JC.length c1], .int .i64 ((0 : Nat) : Int)]) ∧ EsAt w' a1 JC ∧ Below w.heap.size w w'))) (HRC : Hid (∀ a c w, EsAt w a JC → Calls Try.prog 37 #[.agg #[.int .i64 MC, .slice a JC.length c]] w (fun e w' => e = .returned (.int .i64 0) ∧ Below w.heap.size w w'))) (HSC : Hid (∀ a c w, EsAt w a JC → Calls Try.prog 35 #[.agg #[.int .i64 MC, .slice a JC.length c]] w (fun e w' => e = .returned (.int .i64 (((q : Int) + 1) * S)) ∧ Below w.heap.size w w'))) (HGC : Hid (∀ a c w, EsAt w a JC → Calls Try.prog 36 #[.agg #[.int .i64 MC, .slice a JC.length c]] w (fun e w' => e = .returned (.int .i64 Gm) ∧ Below w.heap.size w w'))) (HDG : Hid (∀ v : Int, n ≤ v → v < MC → ∀ a c w, EsAt w a JC → Calls Try.prog 38 #[.agg #[.int .i64 MC, .slice a JC.length c], .int .i64 v] w (fun e w' => e = .returned (.int .i64 2) ∧ Below w.heap.size w w'))) (w : World) (h : EsAt w a L) :
    Calls Try.prog 7 #[gv n a L.length cap, .int .i64 (e : Int), .int .u8 k0] w (GivesB w true) := by
  unfold GivesB gv
  obtain ⟨W, hW⟩ : ∃ W, W = w.alloc (Obj.cells #[.int .i64 n, .slice a L.length cap] 24) := ⟨_, rfl⟩
  have hB0 : Below w.heap.size w W := by rw [hW]; exact (Below.refl _ w).alloc (Nat.le_refl _) _
  have hG : Blk W w.heap.size 24 #[.int .i64 n, .slice a L.length cap] := by rw [hW]; exact Blk.new _ _ _
  have HW := Lib.hid hW
  have HB0 := Lib.hid hB0
  have hEz : EsAt W a L := h.keep hB0
  have HF : Hid (∀ x, Below W.heap.size W x → x.cell? ⟨w.heap.size, 0, none⟩ = some (.int .i64 n) ∧ x.cell? ⟨w.heap.size, 1, none⟩ = some (.slice a L.length cap) ∧ EsAt x a L) := Lib.hid fun x hx => ⟨(hG.below hx hG.lt).cell 0, (hG.below hx hG.lt).cell 1, hEz.keep hx⟩
  have hk0 : Below W.heap.size W W := Below.refl _ _
  obtain ⟨g0, g1, -⟩ := HF.out W hk0
  clear hB0 hG hW hEz h
  have i1 : (e : Int) < (P.length : Int) := by omega
  have i2 : (0 : Int) ≤ (e : Int) := by omega
  have c1 : IntKind.i64.wrap (S - 1) = S - 1 := IntWalk.i64_in _ (by omega)
  have c2 : IntKind.i64.wrap (Gm - 1) = Gm - 1 := IntWalk.i64_in _ (by omega)
  have c3 : IntKind.i64.wrap (n - 1) = n - 1 := IntWalk.i64_in _ (by omega)
  have q1 : (n != n) = false := by simp
  have q2 : (S - 1 != S - 1) = false := by simp
  have q3 : (Gm != Gm) = false := by simp
  have q4 : (Gm - 1 != Gm - 1) = false := by simp
  have q5 : (n - 1 != n - 1) = false := by simp
  have hqs : 0 ≤ ((q : Int) + 1) * S ∧ ((q : Int) + 1) * S ≤ 1000 := by
    have : q = 0 ∨ q = 1 ∨ q = 2 := by omega
    rcases this with rfl | rfl | rfl <;> omega
  have c5 : IntKind.i64.wrap (((q : Int) + 1) * S) = ((q : Int) + 1) * S := IntWalk.i64_in _ (by omega)
  have q6 : (((q : Int) + 1) * S != ((q : Int) + 1) * S) = false := by simp
  have d5 : decide (MC < n) = false := decide_eq_false (by omega)
  subst hx
  have d1 : (xa == xa) = true := by simp
  have d2 : (xa != xa) = false := by simp
  go_enter Try.func7, Try.ntmps7
  go_wp2_with fail
  rw [← HW.out]
  refine (HRT.out _ (HF.out W hk0).2.2).mono ?_
  rintro e x1 ⟨rfl, hb1⟩
  have hk1 : Below W.heap.size W x1 := hk0.trans (hb1.mono hk0.size)
  clear hb1 hk0 g0 g1
  obtain ⟨g0, g1, -⟩ := HF.out x1 hk1
  go_wp2_with fail
  refine (HD.out _ (HF.out x1 hk1).2.2).mono ?_
  rintro e x2 ⟨a1, c1, rfl, hA_2, hb2⟩
  have hk2 : Below W.heap.size W x2 := hk1.trans (hb2.mono hk1.size)
  clear hb2 hk1 g0 g1
  obtain ⟨g0, g1, -⟩ := HF.out x2 hk2
  obtain ⟨Y1, hY1⟩ : ∃ Y, Y = x2.alloc (Obj.cells #[.int .i64 n, .slice a1 JA.length c1] 24) := ⟨_, rfl⟩
  have hy : Below x2.heap.size x2 Y1 := by rw [hY1]; exact (Below.refl _ _).alloc (Nat.le_refl _) _
  have hz : Below W.heap.size W Y1 := hk2.trans (hy.mono hk2.size)
  have hQ : Blk Y1 x2.heap.size 24 #[.int .i64 n, .slice a1 JA.length c1] := by rw [hY1]; exact Blk.new _ _ _
  have HBY1 : Hid (Below w.heap.size w Y1) := Lib.hid (HB0.out.trans (hz.mono HB0.out.size))
  have HFY1 : Hid (∀ x, Below Y1.heap.size Y1 x → x.cell? ⟨w.heap.size, 0, none⟩ = some (.int .i64 n) ∧ x.cell? ⟨w.heap.size, 1, none⟩ = some (.slice a L.length cap) ∧ x.cell? ⟨x2.heap.size, 0, none⟩ = some (.int .i64 n) ∧ x.cell? ⟨x2.heap.size, 1, none⟩ = some (.slice a1 JA.length c1) ∧ EsAt x a L ∧ EsAt x a1 JA) := Lib.hid fun x hx => ⟨(HF.out x (hz.trans (hx.mono hz.size))).1, (HF.out x (hz.trans (hx.mono hz.size))).2.1, (hQ.below hx hQ.lt).cell 0, (hQ.below hx hQ.lt).cell 1, (HF.out x (hz.trans (hx.mono hz.size))).2.2, (hA_2.keep hy).keep hx⟩
  clear g0 g1 hk2 hz hQ hy hA_2
  have hk3 : Below Y1.heap.size Y1 Y1 := Below.refl _ _
  have g0 : (x2.alloc (Obj.cells #[.int .i64 n, .slice a1 JA.length c1] 24)).cell? ⟨w.heap.size, 0, none⟩ = some (.int .i64 n) := by rw [← hY1]; exact (HFY1.out _ hk3).1
  have g1 : (x2.alloc (Obj.cells #[.int .i64 n, .slice a1 JA.length c1] 24)).cell? ⟨w.heap.size, 1, none⟩ = some (.slice a L.length cap) := by rw [← hY1]; exact (HFY1.out _ hk3).2.1
  have g2 : (x2.alloc (Obj.cells #[.int .i64 n, .slice a1 JA.length c1] 24)).cell? ⟨x2.heap.size, 0, none⟩ = some (.int .i64 n) := by rw [← hY1]; exact (HFY1.out _ hk3).2.2.1
  have g3 : (x2.alloc (Obj.cells #[.int .i64 n, .slice a1 JA.length c1] 24)).cell? ⟨x2.heap.size, 1, none⟩ = some (.slice a1 JA.length c1) := by rw [← hY1]; exact (HFY1.out _ hk3).2.2.2.1
  have HY1 := Lib.hid hY1
  clear hY1
  go_wp2_with fail
  rw [← HY1.out]
  refine (HC.out _ (HFY1.out Y1 hk3).2.2.2.2.1).mono ?_
  rintro e x4 ⟨a2, c2, rfl, hB_4, hb4⟩
  have hk4 : Below Y1.heap.size Y1 x4 := hk3.trans (hb4.mono hk3.size)
  clear hb4 hk3 g0 g1 g2 g3
  obtain ⟨g0, g1, g2, g3, -⟩ := HFY1.out x4 hk4
  obtain ⟨Y2, hY2⟩ : ∃ Y, Y = x4.alloc (Obj.cells #[.int .i64 n, .slice a2 JB.length c2] 24) := ⟨_, rfl⟩
  have hy : Below x4.heap.size x4 Y2 := by rw [hY2]; exact (Below.refl _ _).alloc (Nat.le_refl _) _
  have hz : Below Y1.heap.size Y1 Y2 := hk4.trans (hy.mono hk4.size)
  have hQ : Blk Y2 x4.heap.size 24 #[.int .i64 n, .slice a2 JB.length c2] := by rw [hY2]; exact Blk.new _ _ _
  have HBY2 : Hid (Below w.heap.size w Y2) := Lib.hid (HBY1.out.trans (hz.mono HBY1.out.size))
  have HFY2 : Hid (∀ x, Below Y2.heap.size Y2 x → x.cell? ⟨w.heap.size, 0, none⟩ = some (.int .i64 n) ∧ x.cell? ⟨w.heap.size, 1, none⟩ = some (.slice a L.length cap) ∧ x.cell? ⟨x2.heap.size, 0, none⟩ = some (.int .i64 n) ∧ x.cell? ⟨x2.heap.size, 1, none⟩ = some (.slice a1 JA.length c1) ∧ x.cell? ⟨x4.heap.size, 0, none⟩ = some (.int .i64 n) ∧ x.cell? ⟨x4.heap.size, 1, none⟩ = some (.slice a2 JB.length c2) ∧ EsAt x a L ∧ EsAt x a1 JA ∧ EsAt x a2 JB) := Lib.hid fun x hx => ⟨(HFY1.out x (hz.trans (hx.mono hz.size))).1, (HFY1.out x (hz.trans (hx.mono hz.size))).2.1, (HFY1.out x (hz.trans (hx.mono hz.size))).2.2.1, (HFY1.out x (hz.trans (hx.mono hz.size))).2.2.2.1, (hQ.below hx hQ.lt).cell 0, (hQ.below hx hQ.lt).cell 1, (HFY1.out x (hz.trans (hx.mono hz.size))).2.2.2.2.1, (HFY1.out x (hz.trans (hx.mono hz.size))).2.2.2.2.2, (hB_4.keep hy).keep hx⟩
  clear g0 g1 g2 g3 hk4 hz hQ hy hB_4
  have hk5 : Below Y2.heap.size Y2 Y2 := Below.refl _ _
  have g0 : (x4.alloc (Obj.cells #[.int .i64 n, .slice a2 JB.length c2] 24)).cell? ⟨w.heap.size, 0, none⟩ = some (.int .i64 n) := by rw [← hY2]; exact (HFY2.out _ hk5).1
  have g1 : (x4.alloc (Obj.cells #[.int .i64 n, .slice a2 JB.length c2] 24)).cell? ⟨w.heap.size, 1, none⟩ = some (.slice a L.length cap) := by rw [← hY2]; exact (HFY2.out _ hk5).2.1
  have g2 : (x4.alloc (Obj.cells #[.int .i64 n, .slice a2 JB.length c2] 24)).cell? ⟨x2.heap.size, 0, none⟩ = some (.int .i64 n) := by rw [← hY2]; exact (HFY2.out _ hk5).2.2.1
  have g3 : (x4.alloc (Obj.cells #[.int .i64 n, .slice a2 JB.length c2] 24)).cell? ⟨x2.heap.size, 1, none⟩ = some (.slice a1 JA.length c1) := by rw [← hY2]; exact (HFY2.out _ hk5).2.2.2.1
  have g4 : (x4.alloc (Obj.cells #[.int .i64 n, .slice a2 JB.length c2] 24)).cell? ⟨x4.heap.size, 0, none⟩ = some (.int .i64 n) := by rw [← hY2]; exact (HFY2.out _ hk5).2.2.2.2.1
  have g5 : (x4.alloc (Obj.cells #[.int .i64 n, .slice a2 JB.length c2] 24)).cell? ⟨x4.heap.size, 1, none⟩ = some (.slice a2 JB.length c2) := by rw [← hY2]; exact (HFY2.out _ hk5).2.2.2.2.2.1
  have HY2 := Lib.hid hY2
  clear hY2
  go_wp2_with fail
  rw [← HY2.out]
  refine (HKA.out a1 c1 _ (HFY2.out Y2 hk5).2.2.2.2.2.2.2.1).mono ?_
  rintro e x6 ⟨rfl, hb6⟩
  have hk6 : Below Y2.heap.size Y2 x6 := hk5.trans (hb6.mono hk5.size)
  clear hb6 hk5 g0 g1 g2 g3 g4 g5
  obtain ⟨g0, g1, g2, g3, g4, g5, -⟩ := HFY2.out x6 hk6
  go_wp2_with fail
  refine (HKB.out a2 c2 _ (HFY2.out x6 hk6).2.2.2.2.2.2.2.2).mono ?_
  rintro e x7 ⟨rfl, hb7⟩
  have hk7 : Below Y2.heap.size Y2 x7 := hk6.trans (hb7.mono hk6.size)
  clear hb7 hk6 g0 g1 g2 g3 g4 g5
  obtain ⟨g0, g1, g2, g3, g4, g5, -⟩ := HFY2.out x7 hk7
  go_wp2_with fail
  refine (HEN.out _ (HFY2.out x7 hk7).2.2.2.2.2.2.1).mono ?_
  rintro e x8 ⟨b3, d3, rfl, hP_8, hb8⟩
  have hk8 : Below Y2.heap.size Y2 x8 := hk7.trans (hb8.mono hk7.size)
  clear hb8 hk7 g0 g1 g2 g3 g4 g5
  obtain ⟨g0, g1, g2, g3, g4, g5, -⟩ := HFY2.out x8 hk8
  obtain ⟨b4, o4, hbb, q9, px, py⟩ := hP_8.two e he
  subst hbb
  rw [HPE.out] at px py
  simp only at px py
  clear hP_8
  obtain ⟨Y3, hY3⟩ : ∃ Y, Y = x8.alloc (Obj.cells #[.int .i64 xa, .int .i64 xa] 25) := ⟨_, rfl⟩
  have hy : Below x8.heap.size x8 Y3 := by rw [hY3]; exact (Below.refl _ _).alloc (Nat.le_refl _) _
  have hz : Below Y2.heap.size Y2 Y3 := hk8.trans (hy.mono hk8.size)
  have hQ : Blk Y3 x8.heap.size 25 #[.int .i64 xa, .int .i64 xa] := by rw [hY3]; exact Blk.new _ _ _
  have HBY3 : Hid (Below w.heap.size w Y3) := Lib.hid (HBY2.out.trans (hz.mono HBY2.out.size))
  have HFY3 : Hid (∀ x, Below Y3.heap.size Y3 x → x.cell? ⟨w.heap.size, 0, none⟩ = some (.int .i64 n) ∧ x.cell? ⟨w.heap.size, 1, none⟩ = some (.slice a L.length cap) ∧ x.cell? ⟨x2.heap.size, 0, none⟩ = some (.int .i64 n) ∧ x.cell? ⟨x2.heap.size, 1, none⟩ = some (.slice a1 JA.length c1) ∧ x.cell? ⟨x4.heap.size, 0, none⟩ = some (.int .i64 n) ∧ x.cell? ⟨x4.heap.size, 1, none⟩ = some (.slice a2 JB.length c2) ∧ x.cell? ⟨x8.heap.size, 0, none⟩ = some (.int .i64 xa) ∧ x.cell? ⟨x8.heap.size, 1, none⟩ = some (.int .i64 xa) ∧ EsAt x a L ∧ EsAt x a1 JA ∧ EsAt x a2 JB) := Lib.hid fun x hx => ⟨(HFY2.out x (hz.trans (hx.mono hz.size))).1, (HFY2.out x (hz.trans (hx.mono hz.size))).2.1, (HFY2.out x (hz.trans (hx.mono hz.size))).2.2.1, (HFY2.out x (hz.trans (hx.mono hz.size))).2.2.2.1, (HFY2.out x (hz.trans (hx.mono hz.size))).2.2.2.2.1, (HFY2.out x (hz.trans (hx.mono hz.size))).2.2.2.2.2.1, (hQ.below hx hQ.lt).cell 0, (hQ.below hx hQ.lt).cell 1, (HFY2.out x (hz.trans (hx.mono hz.size))).2.2.2.2.2.2.1, (HFY2.out x (hz.trans (hx.mono hz.size))).2.2.2.2.2.2.2.1, (HFY2.out x (hz.trans (hx.mono hz.size))).2.2.2.2.2.2.2.2⟩
  clear g0 g1 g2 g3 g4 g5 hk8 hz hQ hy
  have hk9 : Below Y3.heap.size Y3 Y3 := Below.refl _ _
  have g0 : (x8.alloc (Obj.cells #[.int .i64 xa, .int .i64 xa] 25)).cell? ⟨w.heap.size, 0, none⟩ = some (.int .i64 n) := by rw [← hY3]; exact (HFY3.out _ hk9).1
  have g1 : (x8.alloc (Obj.cells #[.int .i64 xa, .int .i64 xa] 25)).cell? ⟨w.heap.size, 1, none⟩ = some (.slice a L.length cap) := by rw [← hY3]; exact (HFY3.out _ hk9).2.1
  have g2 : (x8.alloc (Obj.cells #[.int .i64 xa, .int .i64 xa] 25)).cell? ⟨x2.heap.size, 0, none⟩ = some (.int .i64 n) := by rw [← hY3]; exact (HFY3.out _ hk9).2.2.1
  have g3 : (x8.alloc (Obj.cells #[.int .i64 xa, .int .i64 xa] 25)).cell? ⟨x2.heap.size, 1, none⟩ = some (.slice a1 JA.length c1) := by rw [← hY3]; exact (HFY3.out _ hk9).2.2.2.1
  have g4 : (x8.alloc (Obj.cells #[.int .i64 xa, .int .i64 xa] 25)).cell? ⟨x4.heap.size, 0, none⟩ = some (.int .i64 n) := by rw [← hY3]; exact (HFY3.out _ hk9).2.2.2.2.1
  have g5 : (x8.alloc (Obj.cells #[.int .i64 xa, .int .i64 xa] 25)).cell? ⟨x4.heap.size, 1, none⟩ = some (.slice a2 JB.length c2) := by rw [← hY3]; exact (HFY3.out _ hk9).2.2.2.2.2.1
  have g6 : (x8.alloc (Obj.cells #[.int .i64 xa, .int .i64 xa] 25)).cell? ⟨x8.heap.size, 0, none⟩ = some (.int .i64 xa) := by rw [← hY3]; exact (HFY3.out _ hk9).2.2.2.2.2.2.1
  have g7 : (x8.alloc (Obj.cells #[.int .i64 xa, .int .i64 xa] 25)).cell? ⟨x8.heap.size, 1, none⟩ = some (.int .i64 xa) := by rw [← hY3]; exact (HFY3.out _ hk9).2.2.2.2.2.2.2.1
  have HY3 := Lib.hid hY3
  clear hY3
  have q10 := True.intro
  go_wp2_with fail
  rw [← HY3.out]
  try clear px py q9
  have hj0 : Below Y3.heap.size Y3 Y3.drew := hk9.drew
  refine wp_region_late (S := fun u => Below Y3.heap.size Y3 u) (X := []) (by kernel_rfl) ?_
  refine wpAnyL_takeD (i := 0) 56 (.agg #[.int .i64 n, .slice a L.length cap]) rfl rfl (by kernel_rfl) (by kernel_rfl) (by kernel_rfl) (by kernel_rfl) (by kernel_rfl) (fun _ _ _ h => h) hj0 (Or.inl ⟨by rfl, fun u hu => ?_⟩) ?_
  · obtain ⟨t0, t1, t2, t3, t4, t5, t6, t7, -⟩ := HFY3.out u hu
    go_simp
  try simp only [Act.put, List.setIfInBounds_toArray, List.set_cons_zero, List.set_cons_succ]
  refine wpAnyL_takeD (i := 2) 58 (.agg #[.int .i64 n, .slice a L.length cap]) rfl rfl (by kernel_rfl) (by kernel_rfl) (by kernel_rfl) (by kernel_rfl) (by kernel_rfl) (fun _ _ _ h => h) hj0 (Or.inl ⟨by rfl, fun u hu => ?_⟩) ?_
  · obtain ⟨t0, t1, t2, t3, t4, t5, t6, t7, -⟩ := HFY3.out u hu
    go_simp
  try simp only [Act.put, List.setIfInBounds_toArray, List.set_cons_zero, List.set_cons_succ]
  refine wpAnyL_one (i := 1) (by kernel_rfl) rfl (fun K hK => ?_)
  go_simp
  go_at_call 35
  refine (HSZ.out a cap _ (HFY3.out Y3.drew hj0).2.2.2.2.2.2.2.2.1).mono ?_
  rintro e y1 ⟨rfl, hb1⟩
  have hj1 := hj0.trans (hb1.mono hj0.size)
  show K _ _
  refine hK.out _ _ (fun _ _ => hj1) ?_
  clear hK K hb1
  try simp only [Act.put, List.setIfInBounds_toArray, List.set_cons_zero, List.set_cons_succ]
  refine wpAnyL_one (i := 3) (by kernel_rfl) rfl (fun K hK => ?_)
  go_simp
  go_at_call 36
  refine (HGN.out a cap _ (HFY3.out y1 hj1).2.2.2.2.2.2.2.2.1).mono ?_
  rintro e y2 ⟨rfl, hb2⟩
  have hj2 := hj1.trans (hb2.mono hj1.size)
  show K _ _
  refine hK.out _ _ (fun _ _ => hj2) ?_
  clear hK K hb2
  try simp only [Act.put, List.setIfInBounds_toArray, List.set_cons_zero, List.set_cons_succ]
  refine wpAnyL_pureD (i := 4) 12 (.int .i64 S) rfl rfl (by kernel_rfl) (by kernel_rfl) (by kernel_rfl) (fun _ _ _ h => h) (Or.inl ⟨by rfl, fun u _ => ?_⟩) ?_
  · go_simp
  try simp only [Act.put, List.setIfInBounds_toArray, List.set_cons_zero, List.set_cons_succ]
  refine wpAnyL_pureD (i := 5) 13 (.int .i64 Gm) rfl rfl (by kernel_rfl) (by kernel_rfl) (by kernel_rfl) (fun _ _ _ h => h) (Or.inl ⟨by rfl, fun u _ => ?_⟩) ?_
  · go_simp
  try simp only [Act.put, List.setIfInBounds_toArray, List.set_cons_zero, List.set_cons_succ]
  refine wpAnyL_done (by kernel_rfl) ?_ _
  try simp only [Act.put, List.setIfInBounds_toArray, List.set_cons_zero, List.set_cons_succ]
  have hend := hj2
  have hkL : Below Y3.heap.size Y3 y2 := hend
  clear hend hj0 g0 g1 g2 g3 g4 g5 g6 g7
  obtain ⟨x93, hx93⟩ : ∃ x, x = y2 := ⟨_, rfl⟩
  have hk93 := hkL
  rw [← hx93] at hk93 ⊢
  clear hx93 hkL
  obtain ⟨g0, g1, g2, g3, g4, g5, g6, g7, -⟩ := HFY3.out x93 hk93
  go_wp2_with fail
  refine (HRA.out a1 c1 _ (HFY3.out x93 hk93).2.2.2.2.2.2.2.2.2.1).mono ?_
  rintro e x94 ⟨rfl, hb94⟩
  have hk94 : Below Y3.heap.size Y3 x94 := hk93.trans (hb94.mono hk93.size)
  clear hb94 hk93 g0 g1 g2 g3 g4 g5 g6 g7
  obtain ⟨g0, g1, g2, g3, g4, g5, g6, g7, -⟩ := HFY3.out x94 hk94
  go_wp2_with fail
  refine (HRB.out a2 c2 _ (HFY3.out x94 hk94).2.2.2.2.2.2.2.2.2.2).mono ?_
  rintro e x95 ⟨rfl, hb95⟩
  have hk95 : Below Y3.heap.size Y3 x95 := hk94.trans (hb95.mono hk94.size)
  clear hb95 hk94 g0 g1 g2 g3 g4 g5 g6 g7
  obtain ⟨g0, g1, g2, g3, g4, g5, g6, g7, -⟩ := HFY3.out x95 hk95
  go_wp2_with fail
  refine (HSA.out a1 c1 _ (HFY3.out x95 hk95).2.2.2.2.2.2.2.2.2.1).mono ?_
  rintro e x96 ⟨rfl, hb96⟩
  have hk96 : Below Y3.heap.size Y3 x96 := hk95.trans (hb96.mono hk95.size)
  clear hb96 hk95 g0 g1 g2 g3 g4 g5 g6 g7
  obtain ⟨g0, g1, g2, g3, g4, g5, g6, g7, -⟩ := HFY3.out x96 hk96
  go_wp2_with fail
  refine (HSB.out a2 c2 _ (HFY3.out x96 hk96).2.2.2.2.2.2.2.2.2.2).mono ?_
  rintro e x97 ⟨rfl, hb97⟩
  have hk97 : Below Y3.heap.size Y3 x97 := hk96.trans (hb97.mono hk96.size)
  clear hb97 hk96 g0 g1 g2 g3 g4 g5 g6 g7
  obtain ⟨g0, g1, g2, g3, g4, g5, g6, g7, -⟩ := HFY3.out x97 hk97
  go_wp2_with fail
  refine (HGB.out a2 c2 _ (HFY3.out x97 hk97).2.2.2.2.2.2.2.2.2.2).mono ?_
  rintro e x98 ⟨rfl, hb98⟩
  have hk98 : Below Y3.heap.size Y3 x98 := hk97.trans (hb98.mono hk97.size)
  clear hb98 hk97 g0 g1 g2 g3 g4 g5 g6 g7
  obtain ⟨g0, g1, g2, g3, g4, g5, g6, g7, -⟩ := HFY3.out x98 hk98
  go_wp2_with fail
  refine (HSU.out _ (HFY3.out x98 hk98).2.2.2.2.2.2.2.2.1).mono ?_
  rintro e x99 ⟨a5, c5, rfl, hC_99, hb99⟩
  have hk99 : Below Y3.heap.size Y3 x99 := hk98.trans (hb99.mono hk98.size)
  clear hb99 hk98 g0 g1 g2 g3 g4 g5 g6 g7
  obtain ⟨g0, g1, g2, g3, g4, g5, g6, g7, -⟩ := HFY3.out x99 hk99
  obtain ⟨Y4, hY4⟩ : ∃ Y, Y = x99.alloc (Obj.cells #[.int .i64 MC, .slice a5 JC.length c5] 24) := ⟨_, rfl⟩
  have hy : Below x99.heap.size x99 Y4 := by rw [hY4]; exact (Below.refl _ _).alloc (Nat.le_refl _) _
  have hz : Below Y3.heap.size Y3 Y4 := hk99.trans (hy.mono hk99.size)
  have hQ : Blk Y4 x99.heap.size 24 #[.int .i64 MC, .slice a5 JC.length c5] := by rw [hY4]; exact Blk.new _ _ _
  have HBY4 : Hid (Below w.heap.size w Y4) := Lib.hid (HBY3.out.trans (hz.mono HBY3.out.size))
  have HFY4 : Hid (∀ x, Below Y4.heap.size Y4 x → x.cell? ⟨w.heap.size, 0, none⟩ = some (.int .i64 n) ∧ x.cell? ⟨w.heap.size, 1, none⟩ = some (.slice a L.length cap) ∧ x.cell? ⟨x2.heap.size, 0, none⟩ = some (.int .i64 n) ∧ x.cell? ⟨x2.heap.size, 1, none⟩ = some (.slice a1 JA.length c1) ∧ x.cell? ⟨x4.heap.size, 0, none⟩ = some (.int .i64 n) ∧ x.cell? ⟨x4.heap.size, 1, none⟩ = some (.slice a2 JB.length c2) ∧ x.cell? ⟨x8.heap.size, 0, none⟩ = some (.int .i64 xa) ∧ x.cell? ⟨x8.heap.size, 1, none⟩ = some (.int .i64 xa) ∧ x.cell? ⟨x99.heap.size, 0, none⟩ = some (.int .i64 MC) ∧ x.cell? ⟨x99.heap.size, 1, none⟩ = some (.slice a5 JC.length c5) ∧ EsAt x a L ∧ EsAt x a1 JA ∧ EsAt x a2 JB ∧ EsAt x a5 JC) := Lib.hid fun x hx => ⟨(HFY3.out x (hz.trans (hx.mono hz.size))).1, (HFY3.out x (hz.trans (hx.mono hz.size))).2.1, (HFY3.out x (hz.trans (hx.mono hz.size))).2.2.1, (HFY3.out x (hz.trans (hx.mono hz.size))).2.2.2.1, (HFY3.out x (hz.trans (hx.mono hz.size))).2.2.2.2.1, (HFY3.out x (hz.trans (hx.mono hz.size))).2.2.2.2.2.1, (HFY3.out x (hz.trans (hx.mono hz.size))).2.2.2.2.2.2.1, (HFY3.out x (hz.trans (hx.mono hz.size))).2.2.2.2.2.2.2.1, (hQ.below hx hQ.lt).cell 0, (hQ.below hx hQ.lt).cell 1, (HFY3.out x (hz.trans (hx.mono hz.size))).2.2.2.2.2.2.2.2.1, (HFY3.out x (hz.trans (hx.mono hz.size))).2.2.2.2.2.2.2.2.2.1, (HFY3.out x (hz.trans (hx.mono hz.size))).2.2.2.2.2.2.2.2.2.2, (hC_99.keep hy).keep hx⟩
  clear g0 g1 g2 g3 g4 g5 g6 g7 hk99 hz hQ hy hC_99
  have hk100 : Below Y4.heap.size Y4 Y4 := Below.refl _ _
  have g0 : (x99.alloc (Obj.cells #[.int .i64 MC, .slice a5 JC.length c5] 24)).cell? ⟨w.heap.size, 0, none⟩ = some (.int .i64 n) := by rw [← hY4]; exact (HFY4.out _ hk100).1
  have g1 : (x99.alloc (Obj.cells #[.int .i64 MC, .slice a5 JC.length c5] 24)).cell? ⟨w.heap.size, 1, none⟩ = some (.slice a L.length cap) := by rw [← hY4]; exact (HFY4.out _ hk100).2.1
  have g2 : (x99.alloc (Obj.cells #[.int .i64 MC, .slice a5 JC.length c5] 24)).cell? ⟨x2.heap.size, 0, none⟩ = some (.int .i64 n) := by rw [← hY4]; exact (HFY4.out _ hk100).2.2.1
  have g3 : (x99.alloc (Obj.cells #[.int .i64 MC, .slice a5 JC.length c5] 24)).cell? ⟨x2.heap.size, 1, none⟩ = some (.slice a1 JA.length c1) := by rw [← hY4]; exact (HFY4.out _ hk100).2.2.2.1
  have g4 : (x99.alloc (Obj.cells #[.int .i64 MC, .slice a5 JC.length c5] 24)).cell? ⟨x4.heap.size, 0, none⟩ = some (.int .i64 n) := by rw [← hY4]; exact (HFY4.out _ hk100).2.2.2.2.1
  have g5 : (x99.alloc (Obj.cells #[.int .i64 MC, .slice a5 JC.length c5] 24)).cell? ⟨x4.heap.size, 1, none⟩ = some (.slice a2 JB.length c2) := by rw [← hY4]; exact (HFY4.out _ hk100).2.2.2.2.2.1
  have g6 : (x99.alloc (Obj.cells #[.int .i64 MC, .slice a5 JC.length c5] 24)).cell? ⟨x8.heap.size, 0, none⟩ = some (.int .i64 xa) := by rw [← hY4]; exact (HFY4.out _ hk100).2.2.2.2.2.2.1
  have g7 : (x99.alloc (Obj.cells #[.int .i64 MC, .slice a5 JC.length c5] 24)).cell? ⟨x8.heap.size, 1, none⟩ = some (.int .i64 xa) := by rw [← hY4]; exact (HFY4.out _ hk100).2.2.2.2.2.2.2.1
  have g8 : (x99.alloc (Obj.cells #[.int .i64 MC, .slice a5 JC.length c5] 24)).cell? ⟨x99.heap.size, 0, none⟩ = some (.int .i64 MC) := by rw [← hY4]; exact (HFY4.out _ hk100).2.2.2.2.2.2.2.2.1
  have g9 : (x99.alloc (Obj.cells #[.int .i64 MC, .slice a5 JC.length c5] 24)).cell? ⟨x99.heap.size, 1, none⟩ = some (.slice a5 JC.length c5) := by rw [← hY4]; exact (HFY4.out _ hk100).2.2.2.2.2.2.2.2.2.1
  have HY4 := Lib.hid hY4
  clear hY4
  go_wp2_with fail
  rw [← HY4.out]
  refine (HRC.out a5 c5 _ (HFY4.out Y4 hk100).2.2.2.2.2.2.2.2.2.2.2.2.2).mono ?_
  rintro e x101 ⟨rfl, hb101⟩
  have hk101 : Below Y4.heap.size Y4 x101 := hk100.trans (hb101.mono hk100.size)
  clear hb101 hk100 g0 g1 g2 g3 g4 g5 g6 g7 g8 g9
  obtain ⟨g0, g1, g2, g3, g4, g5, g6, g7, g8, g9, -⟩ := HFY4.out x101 hk101
  go_wp2_with fail
  refine (HSC.out a5 c5 _ (HFY4.out x101 hk101).2.2.2.2.2.2.2.2.2.2.2.2.2).mono ?_
  rintro e x102 ⟨rfl, hb102⟩
  have hk102 : Below Y4.heap.size Y4 x102 := hk101.trans (hb102.mono hk101.size)
  clear hb102 hk101 g0 g1 g2 g3 g4 g5 g6 g7 g8 g9
  obtain ⟨g0, g1, g2, g3, g4, g5, g6, g7, g8, g9, -⟩ := HFY4.out x102 hk102
  go_wp2_with fail
  refine (HGC.out a5 c5 _ (HFY4.out x102 hk102).2.2.2.2.2.2.2.2.2.2.2.2.2).mono ?_
  rintro e x103 ⟨rfl, hb103⟩
  have hk103 : Below Y4.heap.size Y4 x103 := hk102.trans (hb103.mono hk102.size)
  clear hb103 hk102 g0 g1 g2 g3 g4 g5 g6 g7 g8 g9
  obtain ⟨g0, g1, g2, g3, g4, g5, g6, g7, g8, g9, -⟩ := HFY4.out x103 hk103
  have HBk := Lib.hid hk103
  clear hk103
  go_wp2
  clear g0 g1 g2 g3 g4 g5 g6 g7 g8 g9
  go_loopw [17] (fun x wr => ∃ v : Nat, n ≤ (v : Int) ∧ (v : Int) ≤ MC ∧ x = .int .i64 v ∧ Below Y4.heap.size Y4 wr) (fun x _ => 13 - (intOf x).toNat)
  case atStart => exact ⟨n.toNat, by omega, by omega, by rw [Int.toNat_of_nonneg (by omega)], HBk.out⟩
  case round =>
    obtain ⟨v, hv1, hv2, rfl, hb⟩ := hrel
    by_cases hlt : (v : Int) < MC
    · have HBr := Lib.hid hb
      have hk300 := hb
      clear hb
      obtain ⟨g0, g1, g2, g3, g4, g5, g6, g7, g8, g9, -⟩ := HFY4.out wr hk300
      have HDv := Lib.hid (HDG.out v (by omega) hlt)
      go_wp2_with fail
      refine (HDv.out a5 c5 _ (HFY4.out wr hk300).2.2.2.2.2.2.2.2.2.2.2.2.2).mono ?_
      rintro e x301 ⟨rfl, hb301⟩
      have hk301 : Below Y4.heap.size Y4 x301 := hk300.trans (hb301.mono hk300.size)
      clear hb301 hk300 g0 g1 g2 g3 g4 g5 g6 g7 g8 g9
      obtain ⟨g0, g1, g2, g3, g4, g5, g6, g7, g8, g9, -⟩ := HFY4.out x301 hk301
      have HBN := Lib.hid hk301
      clear hk301
      go_wp2
      go_roundw
      case rel => exact ⟨v + 1, by omega, by omega, by go_num, HBN.out⟩
      case measure => simp [intOf]; omega
    · have HBr := Lib.hid hb
      have hk400 := hb
      clear hb
      obtain ⟨g0, g1, g2, g3, g4, g5, g6, g7, g8, g9, -⟩ := HFY4.out wr hk400
      go_wp2_with fail
      refine (HA _).mono ?_
      rintro e x401 ⟨rfl, hb401⟩
      have hk401 : Below Y4.heap.size Y4 x401 := hk400.trans (hb401.mono hk400.size)
      clear hb401 hk400 g0 g1 g2 g3 g4 g5 g6 g7 g8 g9
      obtain ⟨g0, g1, g2, g3, g4, g5, g6, g7, g8, g9, -⟩ := HFY4.out x401 hk401
      have HEND := Lib.hid (HBY4.out.trans (hk401.mono HBY4.out.size))
      clear hk401 g0 g1 g2 g3 g4 g5 g6 g7 g8 g9
      go_wp2
      go_ret
      exact ⟨rfl, HEND.out⟩
set_option maxHeartbeats 12800000 in
set_option maxRecDepth 100000 in
theorem counts_loop_many (n : Int) (a : Option Addr) (cap : Nat) (L : List E) (e : Nat) (k0 : Int) (JA JB : List E) (P : List (Int × Int)) (he : e < P.length) (xa xb S Gm : Int) (hS : 1 ≤ S ∧ S ≤ 10) (hG : -1000 ≤ Gm ∧ Gm ≤ 1000) (hn : 1 ≤ n ∧ n ≤ 12) (HRT : Hid (∀ w, EsAt w a L → Calls Try.prog 32 #[.agg #[.int .i64 n, .slice a L.length cap], .int .i64 (e : Int)] w (fun e w' => e = .returned (.bool true) ∧ Below w.heap.size w w'))) (HA : AwakeC) (HD : Hid (∀ w, EsAt w a L → Calls Try.prog 13 #[.agg #[.int .i64 n, .slice a L.length cap], .int .i64 (e : Int)] w (fun e w' => ∃ a1 c1, e = .returned (.tuple #[.agg #[.int .i64 n, .slice a1 JA.length c1], .int .i64 ((0 : Nat) : Int)]) ∧ EsAt w' a1 JA ∧ Below w.heap.size w w'))) (HC : Hid (∀ w, EsAt w a L → Calls Try.prog 15 #[.agg #[.int .i64 n, .slice a L.length cap], .int .i64 (e : Int)] w (fun e w' => ∃ a1 c1, e = .returned (.tuple #[.agg #[.int .i64 n, .slice a1 JB.length c1], .int .i64 ((0 : Nat) : Int)]) ∧ EsAt w' a1 JB ∧ Below w.heap.size w w'))) (HKA : Hid (∀ a c w, EsAt w a JA → Calls Try.prog 33 #[.agg #[.int .i64 n, .slice a JA.length c]] w (fun e w' => e = .returned (.int .i64 0) ∧ Below w.heap.size w w'))) (HKB : Hid (∀ a c w, EsAt w a JB → Calls Try.prog 33 #[.agg #[.int .i64 n, .slice a JB.length c]] w (fun e w' => e = .returned (.int .i64 0) ∧ Below w.heap.size w w'))) (HEN : Hid (∀ w, EsAt w a L → Calls Try.prog 34 #[.agg #[.int .i64 n, .slice a L.length cap]] w (fun e w' => ∃ b d, e = .returned (.slice b P.length d) ∧ PsAt w' b P ∧ Below w.heap.size w w'))) (HPE : Hid (pAt P e = (xa, xb))) (HSZ : Hid (∀ a c w, EsAt w a L → Calls Try.prog 35 #[.agg #[.int .i64 n, .slice a L.length c]] w (fun e w' => e = .returned (.int .i64 S) ∧ Below w.heap.size w w'))) (HGN : Hid (∀ a c w, EsAt w a L → Calls Try.prog 36 #[.agg #[.int .i64 n, .slice a L.length c]] w (fun e w' => e = .returned (.int .i64 Gm) ∧ Below w.heap.size w w'))) (HRA : Hid (∀ a c w, EsAt w a JA → Calls Try.prog 37 #[.agg #[.int .i64 n, .slice a JA.length c]] w (fun e w' => e = .returned (.int .i64 0) ∧ Below w.heap.size w w'))) (HRB : Hid (∀ a c w, EsAt w a JB → Calls Try.prog 37 #[.agg #[.int .i64 n, .slice a JB.length c]] w (fun e w' => e = .returned (.int .i64 0) ∧ Below w.heap.size w w'))) (HSA : Hid (∀ a c w, EsAt w a JA → Calls Try.prog 35 #[.agg #[.int .i64 n, .slice a JA.length c]] w (fun e w' => e = .returned (.int .i64 (S - 1)) ∧ Below w.heap.size w w'))) (HSB : Hid (∀ a c w, EsAt w a JB → Calls Try.prog 35 #[.agg #[.int .i64 n, .slice a JB.length c]] w (fun e w' => e = .returned (.int .i64 (S - 1)) ∧ Below w.heap.size w w'))) (HGB : Hid (∀ a c w, EsAt w a JB → Calls Try.prog 36 #[.agg #[.int .i64 n, .slice a JB.length c]] w (fun e w' => e = .returned (.int .i64 (Gm - 1)) ∧ Below w.heap.size w w'))) (hx : xa = xb) (q : Nat) (hk1 : IntKind.i64.wrap (k0.tmod 3) = (q : Int)) (hk0 : IntKind.i64.wrap (1 + (q : Int)) = (q : Int) + 1) (HSU : Hid (∀ w, EsAt w a L → Calls Try.prog 25 #[.agg #[.int .i64 n, .slice a L.length cap], .int .i64 ((q : Int) + 1)] w (fun e w' => ∃ a1 c1, e = .returned (.tuple #[.agg #[.int .i64 0, .slice a1 0 c1], .int .i64 5]) ∧ Below w.heap.size w w'))) (w : World) (h : EsAt w a L) :
    Calls Try.prog 7 #[gv n a L.length cap, .int .i64 (e : Int), .int .u8 k0] w (GivesB w true) := by
  unfold GivesB gv
  obtain ⟨W, hW⟩ : ∃ W, W = w.alloc (Obj.cells #[.int .i64 n, .slice a L.length cap] 24) := ⟨_, rfl⟩
  have hB0 : Below w.heap.size w W := by rw [hW]; exact (Below.refl _ w).alloc (Nat.le_refl _) _
  have hG : Blk W w.heap.size 24 #[.int .i64 n, .slice a L.length cap] := by rw [hW]; exact Blk.new _ _ _
  have HW := Lib.hid hW
  have HB0 := Lib.hid hB0
  have hEz : EsAt W a L := h.keep hB0
  have HF : Hid (∀ x, Below W.heap.size W x → x.cell? ⟨w.heap.size, 0, none⟩ = some (.int .i64 n) ∧ x.cell? ⟨w.heap.size, 1, none⟩ = some (.slice a L.length cap) ∧ EsAt x a L) := Lib.hid fun x hx => ⟨(hG.below hx hG.lt).cell 0, (hG.below hx hG.lt).cell 1, hEz.keep hx⟩
  have hk0 : Below W.heap.size W W := Below.refl _ _
  obtain ⟨g0, g1, -⟩ := HF.out W hk0
  clear hB0 hG hW hEz h
  have i1 : (e : Int) < (P.length : Int) := by omega
  have i2 : (0 : Int) ≤ (e : Int) := by omega
  have c1 : IntKind.i64.wrap (S - 1) = S - 1 := IntWalk.i64_in _ (by omega)
  have c2 : IntKind.i64.wrap (Gm - 1) = Gm - 1 := IntWalk.i64_in _ (by omega)
  have c3 : IntKind.i64.wrap (n - 1) = n - 1 := IntWalk.i64_in _ (by omega)
  have q1 : (n != n) = false := by simp
  have q2 : (S - 1 != S - 1) = false := by simp
  have q3 : (Gm != Gm) = false := by simp
  have q4 : (Gm - 1 != Gm - 1) = false := by simp
  have q5 : (n - 1 != n - 1) = false := by simp
  subst hx
  have d1 : (xa == xa) = true := by simp
  have d2 : (xa != xa) = false := by simp
  go_enter Try.func7, Try.ntmps7
  go_wp2_with fail
  rw [← HW.out]
  refine (HRT.out _ (HF.out W hk0).2.2).mono ?_
  rintro e x1 ⟨rfl, hb1⟩
  have hk1 : Below W.heap.size W x1 := hk0.trans (hb1.mono hk0.size)
  clear hb1 hk0 g0 g1
  obtain ⟨g0, g1, -⟩ := HF.out x1 hk1
  go_wp2_with fail
  refine (HD.out _ (HF.out x1 hk1).2.2).mono ?_
  rintro e x2 ⟨a1, c1, rfl, hA_2, hb2⟩
  have hk2 : Below W.heap.size W x2 := hk1.trans (hb2.mono hk1.size)
  clear hb2 hk1 g0 g1
  obtain ⟨g0, g1, -⟩ := HF.out x2 hk2
  obtain ⟨Y1, hY1⟩ : ∃ Y, Y = x2.alloc (Obj.cells #[.int .i64 n, .slice a1 JA.length c1] 24) := ⟨_, rfl⟩
  have hy : Below x2.heap.size x2 Y1 := by rw [hY1]; exact (Below.refl _ _).alloc (Nat.le_refl _) _
  have hz : Below W.heap.size W Y1 := hk2.trans (hy.mono hk2.size)
  have hQ : Blk Y1 x2.heap.size 24 #[.int .i64 n, .slice a1 JA.length c1] := by rw [hY1]; exact Blk.new _ _ _
  have HBY1 : Hid (Below w.heap.size w Y1) := Lib.hid (HB0.out.trans (hz.mono HB0.out.size))
  have HFY1 : Hid (∀ x, Below Y1.heap.size Y1 x → x.cell? ⟨w.heap.size, 0, none⟩ = some (.int .i64 n) ∧ x.cell? ⟨w.heap.size, 1, none⟩ = some (.slice a L.length cap) ∧ x.cell? ⟨x2.heap.size, 0, none⟩ = some (.int .i64 n) ∧ x.cell? ⟨x2.heap.size, 1, none⟩ = some (.slice a1 JA.length c1) ∧ EsAt x a L ∧ EsAt x a1 JA) := Lib.hid fun x hx => ⟨(HF.out x (hz.trans (hx.mono hz.size))).1, (HF.out x (hz.trans (hx.mono hz.size))).2.1, (hQ.below hx hQ.lt).cell 0, (hQ.below hx hQ.lt).cell 1, (HF.out x (hz.trans (hx.mono hz.size))).2.2, (hA_2.keep hy).keep hx⟩
  clear g0 g1 hk2 hz hQ hy hA_2
  have hk3 : Below Y1.heap.size Y1 Y1 := Below.refl _ _
  have g0 : (x2.alloc (Obj.cells #[.int .i64 n, .slice a1 JA.length c1] 24)).cell? ⟨w.heap.size, 0, none⟩ = some (.int .i64 n) := by rw [← hY1]; exact (HFY1.out _ hk3).1
  have g1 : (x2.alloc (Obj.cells #[.int .i64 n, .slice a1 JA.length c1] 24)).cell? ⟨w.heap.size, 1, none⟩ = some (.slice a L.length cap) := by rw [← hY1]; exact (HFY1.out _ hk3).2.1
  have g2 : (x2.alloc (Obj.cells #[.int .i64 n, .slice a1 JA.length c1] 24)).cell? ⟨x2.heap.size, 0, none⟩ = some (.int .i64 n) := by rw [← hY1]; exact (HFY1.out _ hk3).2.2.1
  have g3 : (x2.alloc (Obj.cells #[.int .i64 n, .slice a1 JA.length c1] 24)).cell? ⟨x2.heap.size, 1, none⟩ = some (.slice a1 JA.length c1) := by rw [← hY1]; exact (HFY1.out _ hk3).2.2.2.1
  have HY1 := Lib.hid hY1
  clear hY1
  go_wp2_with fail
  rw [← HY1.out]
  refine (HC.out _ (HFY1.out Y1 hk3).2.2.2.2.1).mono ?_
  rintro e x4 ⟨a2, c2, rfl, hB_4, hb4⟩
  have hk4 : Below Y1.heap.size Y1 x4 := hk3.trans (hb4.mono hk3.size)
  clear hb4 hk3 g0 g1 g2 g3
  obtain ⟨g0, g1, g2, g3, -⟩ := HFY1.out x4 hk4
  obtain ⟨Y2, hY2⟩ : ∃ Y, Y = x4.alloc (Obj.cells #[.int .i64 n, .slice a2 JB.length c2] 24) := ⟨_, rfl⟩
  have hy : Below x4.heap.size x4 Y2 := by rw [hY2]; exact (Below.refl _ _).alloc (Nat.le_refl _) _
  have hz : Below Y1.heap.size Y1 Y2 := hk4.trans (hy.mono hk4.size)
  have hQ : Blk Y2 x4.heap.size 24 #[.int .i64 n, .slice a2 JB.length c2] := by rw [hY2]; exact Blk.new _ _ _
  have HBY2 : Hid (Below w.heap.size w Y2) := Lib.hid (HBY1.out.trans (hz.mono HBY1.out.size))
  have HFY2 : Hid (∀ x, Below Y2.heap.size Y2 x → x.cell? ⟨w.heap.size, 0, none⟩ = some (.int .i64 n) ∧ x.cell? ⟨w.heap.size, 1, none⟩ = some (.slice a L.length cap) ∧ x.cell? ⟨x2.heap.size, 0, none⟩ = some (.int .i64 n) ∧ x.cell? ⟨x2.heap.size, 1, none⟩ = some (.slice a1 JA.length c1) ∧ x.cell? ⟨x4.heap.size, 0, none⟩ = some (.int .i64 n) ∧ x.cell? ⟨x4.heap.size, 1, none⟩ = some (.slice a2 JB.length c2) ∧ EsAt x a L ∧ EsAt x a1 JA ∧ EsAt x a2 JB) := Lib.hid fun x hx => ⟨(HFY1.out x (hz.trans (hx.mono hz.size))).1, (HFY1.out x (hz.trans (hx.mono hz.size))).2.1, (HFY1.out x (hz.trans (hx.mono hz.size))).2.2.1, (HFY1.out x (hz.trans (hx.mono hz.size))).2.2.2.1, (hQ.below hx hQ.lt).cell 0, (hQ.below hx hQ.lt).cell 1, (HFY1.out x (hz.trans (hx.mono hz.size))).2.2.2.2.1, (HFY1.out x (hz.trans (hx.mono hz.size))).2.2.2.2.2, (hB_4.keep hy).keep hx⟩
  clear g0 g1 g2 g3 hk4 hz hQ hy hB_4
  have hk5 : Below Y2.heap.size Y2 Y2 := Below.refl _ _
  have g0 : (x4.alloc (Obj.cells #[.int .i64 n, .slice a2 JB.length c2] 24)).cell? ⟨w.heap.size, 0, none⟩ = some (.int .i64 n) := by rw [← hY2]; exact (HFY2.out _ hk5).1
  have g1 : (x4.alloc (Obj.cells #[.int .i64 n, .slice a2 JB.length c2] 24)).cell? ⟨w.heap.size, 1, none⟩ = some (.slice a L.length cap) := by rw [← hY2]; exact (HFY2.out _ hk5).2.1
  have g2 : (x4.alloc (Obj.cells #[.int .i64 n, .slice a2 JB.length c2] 24)).cell? ⟨x2.heap.size, 0, none⟩ = some (.int .i64 n) := by rw [← hY2]; exact (HFY2.out _ hk5).2.2.1
  have g3 : (x4.alloc (Obj.cells #[.int .i64 n, .slice a2 JB.length c2] 24)).cell? ⟨x2.heap.size, 1, none⟩ = some (.slice a1 JA.length c1) := by rw [← hY2]; exact (HFY2.out _ hk5).2.2.2.1
  have g4 : (x4.alloc (Obj.cells #[.int .i64 n, .slice a2 JB.length c2] 24)).cell? ⟨x4.heap.size, 0, none⟩ = some (.int .i64 n) := by rw [← hY2]; exact (HFY2.out _ hk5).2.2.2.2.1
  have g5 : (x4.alloc (Obj.cells #[.int .i64 n, .slice a2 JB.length c2] 24)).cell? ⟨x4.heap.size, 1, none⟩ = some (.slice a2 JB.length c2) := by rw [← hY2]; exact (HFY2.out _ hk5).2.2.2.2.2.1
  have HY2 := Lib.hid hY2
  clear hY2
  go_wp2_with fail
  rw [← HY2.out]
  refine (HKA.out a1 c1 _ (HFY2.out Y2 hk5).2.2.2.2.2.2.2.1).mono ?_
  rintro e x6 ⟨rfl, hb6⟩
  have hk6 : Below Y2.heap.size Y2 x6 := hk5.trans (hb6.mono hk5.size)
  clear hb6 hk5 g0 g1 g2 g3 g4 g5
  obtain ⟨g0, g1, g2, g3, g4, g5, -⟩ := HFY2.out x6 hk6
  go_wp2_with fail
  refine (HKB.out a2 c2 _ (HFY2.out x6 hk6).2.2.2.2.2.2.2.2).mono ?_
  rintro e x7 ⟨rfl, hb7⟩
  have hk7 : Below Y2.heap.size Y2 x7 := hk6.trans (hb7.mono hk6.size)
  clear hb7 hk6 g0 g1 g2 g3 g4 g5
  obtain ⟨g0, g1, g2, g3, g4, g5, -⟩ := HFY2.out x7 hk7
  go_wp2_with fail
  refine (HEN.out _ (HFY2.out x7 hk7).2.2.2.2.2.2.1).mono ?_
  rintro e x8 ⟨b3, d3, rfl, hP_8, hb8⟩
  have hk8 : Below Y2.heap.size Y2 x8 := hk7.trans (hb8.mono hk7.size)
  clear hb8 hk7 g0 g1 g2 g3 g4 g5
  obtain ⟨g0, g1, g2, g3, g4, g5, -⟩ := HFY2.out x8 hk8
  obtain ⟨b4, o4, hbb, q9, px, py⟩ := hP_8.two e he
  subst hbb
  rw [HPE.out] at px py
  simp only at px py
  clear hP_8
  obtain ⟨Y3, hY3⟩ : ∃ Y, Y = x8.alloc (Obj.cells #[.int .i64 xa, .int .i64 xa] 25) := ⟨_, rfl⟩
  have hy : Below x8.heap.size x8 Y3 := by rw [hY3]; exact (Below.refl _ _).alloc (Nat.le_refl _) _
  have hz : Below Y2.heap.size Y2 Y3 := hk8.trans (hy.mono hk8.size)
  have hQ : Blk Y3 x8.heap.size 25 #[.int .i64 xa, .int .i64 xa] := by rw [hY3]; exact Blk.new _ _ _
  have HBY3 : Hid (Below w.heap.size w Y3) := Lib.hid (HBY2.out.trans (hz.mono HBY2.out.size))
  have HFY3 : Hid (∀ x, Below Y3.heap.size Y3 x → x.cell? ⟨w.heap.size, 0, none⟩ = some (.int .i64 n) ∧ x.cell? ⟨w.heap.size, 1, none⟩ = some (.slice a L.length cap) ∧ x.cell? ⟨x2.heap.size, 0, none⟩ = some (.int .i64 n) ∧ x.cell? ⟨x2.heap.size, 1, none⟩ = some (.slice a1 JA.length c1) ∧ x.cell? ⟨x4.heap.size, 0, none⟩ = some (.int .i64 n) ∧ x.cell? ⟨x4.heap.size, 1, none⟩ = some (.slice a2 JB.length c2) ∧ x.cell? ⟨x8.heap.size, 0, none⟩ = some (.int .i64 xa) ∧ x.cell? ⟨x8.heap.size, 1, none⟩ = some (.int .i64 xa) ∧ EsAt x a L ∧ EsAt x a1 JA ∧ EsAt x a2 JB) := Lib.hid fun x hx => ⟨(HFY2.out x (hz.trans (hx.mono hz.size))).1, (HFY2.out x (hz.trans (hx.mono hz.size))).2.1, (HFY2.out x (hz.trans (hx.mono hz.size))).2.2.1, (HFY2.out x (hz.trans (hx.mono hz.size))).2.2.2.1, (HFY2.out x (hz.trans (hx.mono hz.size))).2.2.2.2.1, (HFY2.out x (hz.trans (hx.mono hz.size))).2.2.2.2.2.1, (hQ.below hx hQ.lt).cell 0, (hQ.below hx hQ.lt).cell 1, (HFY2.out x (hz.trans (hx.mono hz.size))).2.2.2.2.2.2.1, (HFY2.out x (hz.trans (hx.mono hz.size))).2.2.2.2.2.2.2.1, (HFY2.out x (hz.trans (hx.mono hz.size))).2.2.2.2.2.2.2.2⟩
  clear g0 g1 g2 g3 g4 g5 hk8 hz hQ hy
  have hk9 : Below Y3.heap.size Y3 Y3 := Below.refl _ _
  have g0 : (x8.alloc (Obj.cells #[.int .i64 xa, .int .i64 xa] 25)).cell? ⟨w.heap.size, 0, none⟩ = some (.int .i64 n) := by rw [← hY3]; exact (HFY3.out _ hk9).1
  have g1 : (x8.alloc (Obj.cells #[.int .i64 xa, .int .i64 xa] 25)).cell? ⟨w.heap.size, 1, none⟩ = some (.slice a L.length cap) := by rw [← hY3]; exact (HFY3.out _ hk9).2.1
  have g2 : (x8.alloc (Obj.cells #[.int .i64 xa, .int .i64 xa] 25)).cell? ⟨x2.heap.size, 0, none⟩ = some (.int .i64 n) := by rw [← hY3]; exact (HFY3.out _ hk9).2.2.1
  have g3 : (x8.alloc (Obj.cells #[.int .i64 xa, .int .i64 xa] 25)).cell? ⟨x2.heap.size, 1, none⟩ = some (.slice a1 JA.length c1) := by rw [← hY3]; exact (HFY3.out _ hk9).2.2.2.1
  have g4 : (x8.alloc (Obj.cells #[.int .i64 xa, .int .i64 xa] 25)).cell? ⟨x4.heap.size, 0, none⟩ = some (.int .i64 n) := by rw [← hY3]; exact (HFY3.out _ hk9).2.2.2.2.1
  have g5 : (x8.alloc (Obj.cells #[.int .i64 xa, .int .i64 xa] 25)).cell? ⟨x4.heap.size, 1, none⟩ = some (.slice a2 JB.length c2) := by rw [← hY3]; exact (HFY3.out _ hk9).2.2.2.2.2.1
  have g6 : (x8.alloc (Obj.cells #[.int .i64 xa, .int .i64 xa] 25)).cell? ⟨x8.heap.size, 0, none⟩ = some (.int .i64 xa) := by rw [← hY3]; exact (HFY3.out _ hk9).2.2.2.2.2.2.1
  have g7 : (x8.alloc (Obj.cells #[.int .i64 xa, .int .i64 xa] 25)).cell? ⟨x8.heap.size, 1, none⟩ = some (.int .i64 xa) := by rw [← hY3]; exact (HFY3.out _ hk9).2.2.2.2.2.2.2.1
  have HY3 := Lib.hid hY3
  clear hY3
  have q10 := True.intro
  go_wp2_with fail
  rw [← HY3.out]
  try clear px py q9
  have hj0 : Below Y3.heap.size Y3 Y3.drew := hk9.drew
  refine wp_region_late (S := fun u => Below Y3.heap.size Y3 u) (X := []) (by kernel_rfl) ?_
  refine wpAnyL_takeD (i := 0) 56 (.agg #[.int .i64 n, .slice a L.length cap]) rfl rfl (by kernel_rfl) (by kernel_rfl) (by kernel_rfl) (by kernel_rfl) (by kernel_rfl) (fun _ _ _ h => h) hj0 (Or.inl ⟨by rfl, fun u hu => ?_⟩) ?_
  · obtain ⟨t0, t1, t2, t3, t4, t5, t6, t7, -⟩ := HFY3.out u hu
    go_simp
  try simp only [Act.put, List.setIfInBounds_toArray, List.set_cons_zero, List.set_cons_succ]
  refine wpAnyL_takeD (i := 2) 58 (.agg #[.int .i64 n, .slice a L.length cap]) rfl rfl (by kernel_rfl) (by kernel_rfl) (by kernel_rfl) (by kernel_rfl) (by kernel_rfl) (fun _ _ _ h => h) hj0 (Or.inl ⟨by rfl, fun u hu => ?_⟩) ?_
  · obtain ⟨t0, t1, t2, t3, t4, t5, t6, t7, -⟩ := HFY3.out u hu
    go_simp
  try simp only [Act.put, List.setIfInBounds_toArray, List.set_cons_zero, List.set_cons_succ]
  refine wpAnyL_one (i := 1) (by kernel_rfl) rfl (fun K hK => ?_)
  go_simp
  go_at_call 35
  refine (HSZ.out a cap _ (HFY3.out Y3.drew hj0).2.2.2.2.2.2.2.2.1).mono ?_
  rintro e y1 ⟨rfl, hb1⟩
  have hj1 := hj0.trans (hb1.mono hj0.size)
  show K _ _
  refine hK.out _ _ (fun _ _ => hj1) ?_
  clear hK K hb1
  try simp only [Act.put, List.setIfInBounds_toArray, List.set_cons_zero, List.set_cons_succ]
  refine wpAnyL_one (i := 3) (by kernel_rfl) rfl (fun K hK => ?_)
  go_simp
  go_at_call 36
  refine (HGN.out a cap _ (HFY3.out y1 hj1).2.2.2.2.2.2.2.2.1).mono ?_
  rintro e y2 ⟨rfl, hb2⟩
  have hj2 := hj1.trans (hb2.mono hj1.size)
  show K _ _
  refine hK.out _ _ (fun _ _ => hj2) ?_
  clear hK K hb2
  try simp only [Act.put, List.setIfInBounds_toArray, List.set_cons_zero, List.set_cons_succ]
  refine wpAnyL_pureD (i := 4) 12 (.int .i64 S) rfl rfl (by kernel_rfl) (by kernel_rfl) (by kernel_rfl) (fun _ _ _ h => h) (Or.inl ⟨by rfl, fun u _ => ?_⟩) ?_
  · go_simp
  try simp only [Act.put, List.setIfInBounds_toArray, List.set_cons_zero, List.set_cons_succ]
  refine wpAnyL_pureD (i := 5) 13 (.int .i64 Gm) rfl rfl (by kernel_rfl) (by kernel_rfl) (by kernel_rfl) (fun _ _ _ h => h) (Or.inl ⟨by rfl, fun u _ => ?_⟩) ?_
  · go_simp
  try simp only [Act.put, List.setIfInBounds_toArray, List.set_cons_zero, List.set_cons_succ]
  refine wpAnyL_done (by kernel_rfl) ?_ _
  try simp only [Act.put, List.setIfInBounds_toArray, List.set_cons_zero, List.set_cons_succ]
  have hend := hj2
  have hkL : Below Y3.heap.size Y3 y2 := hend
  clear hend hj0 g0 g1 g2 g3 g4 g5 g6 g7
  obtain ⟨x93, hx93⟩ : ∃ x, x = y2 := ⟨_, rfl⟩
  have hk93 := hkL
  rw [← hx93] at hk93 ⊢
  clear hx93 hkL
  obtain ⟨g0, g1, g2, g3, g4, g5, g6, g7, -⟩ := HFY3.out x93 hk93
  go_wp2_with fail
  refine (HRA.out a1 c1 _ (HFY3.out x93 hk93).2.2.2.2.2.2.2.2.2.1).mono ?_
  rintro e x94 ⟨rfl, hb94⟩
  have hk94 : Below Y3.heap.size Y3 x94 := hk93.trans (hb94.mono hk93.size)
  clear hb94 hk93 g0 g1 g2 g3 g4 g5 g6 g7
  obtain ⟨g0, g1, g2, g3, g4, g5, g6, g7, -⟩ := HFY3.out x94 hk94
  go_wp2_with fail
  refine (HRB.out a2 c2 _ (HFY3.out x94 hk94).2.2.2.2.2.2.2.2.2.2).mono ?_
  rintro e x95 ⟨rfl, hb95⟩
  have hk95 : Below Y3.heap.size Y3 x95 := hk94.trans (hb95.mono hk94.size)
  clear hb95 hk94 g0 g1 g2 g3 g4 g5 g6 g7
  obtain ⟨g0, g1, g2, g3, g4, g5, g6, g7, -⟩ := HFY3.out x95 hk95
  go_wp2_with fail
  refine (HSA.out a1 c1 _ (HFY3.out x95 hk95).2.2.2.2.2.2.2.2.2.1).mono ?_
  rintro e x96 ⟨rfl, hb96⟩
  have hk96 : Below Y3.heap.size Y3 x96 := hk95.trans (hb96.mono hk95.size)
  clear hb96 hk95 g0 g1 g2 g3 g4 g5 g6 g7
  obtain ⟨g0, g1, g2, g3, g4, g5, g6, g7, -⟩ := HFY3.out x96 hk96
  go_wp2_with fail
  refine (HSB.out a2 c2 _ (HFY3.out x96 hk96).2.2.2.2.2.2.2.2.2.2).mono ?_
  rintro e x97 ⟨rfl, hb97⟩
  have hk97 : Below Y3.heap.size Y3 x97 := hk96.trans (hb97.mono hk96.size)
  clear hb97 hk96 g0 g1 g2 g3 g4 g5 g6 g7
  obtain ⟨g0, g1, g2, g3, g4, g5, g6, g7, -⟩ := HFY3.out x97 hk97
  go_wp2_with fail
  refine (HGB.out a2 c2 _ (HFY3.out x97 hk97).2.2.2.2.2.2.2.2.2.2).mono ?_
  rintro e x98 ⟨rfl, hb98⟩
  have hk98 : Below Y3.heap.size Y3 x98 := hk97.trans (hb98.mono hk97.size)
  clear hb98 hk97 g0 g1 g2 g3 g4 g5 g6 g7
  obtain ⟨g0, g1, g2, g3, g4, g5, g6, g7, -⟩ := HFY3.out x98 hk98
  go_wp2_with fail
  refine (HSU.out _ (HFY3.out x98 hk98).2.2.2.2.2.2.2.2.1).mono ?_
  rintro e x99 ⟨a5, c5, rfl, hb99⟩
  have hk99 : Below Y3.heap.size Y3 x99 := hk98.trans (hb99.mono hk98.size)
  clear hb99 hk98 g0 g1 g2 g3 g4 g5 g6 g7
  obtain ⟨g0, g1, g2, g3, g4, g5, g6, g7, -⟩ := HFY3.out x99 hk99
  obtain ⟨Y4, hY4⟩ : ∃ Y, Y = x99.alloc (Obj.cells #[.int .i64 0, .slice a5 0 c5] 24) := ⟨_, rfl⟩
  have hy : Below x99.heap.size x99 Y4 := by rw [hY4]; exact (Below.refl _ _).alloc (Nat.le_refl _) _
  have hz : Below Y3.heap.size Y3 Y4 := hk99.trans (hy.mono hk99.size)
  have hQ : Blk Y4 x99.heap.size 24 #[.int .i64 0, .slice a5 0 c5] := by rw [hY4]; exact Blk.new _ _ _
  have HBY4 : Hid (Below w.heap.size w Y4) := Lib.hid (HBY3.out.trans (hz.mono HBY3.out.size))
  have HFY4 : Hid (∀ x, Below Y4.heap.size Y4 x → x.cell? ⟨w.heap.size, 0, none⟩ = some (.int .i64 n) ∧ x.cell? ⟨w.heap.size, 1, none⟩ = some (.slice a L.length cap) ∧ x.cell? ⟨x2.heap.size, 0, none⟩ = some (.int .i64 n) ∧ x.cell? ⟨x2.heap.size, 1, none⟩ = some (.slice a1 JA.length c1) ∧ x.cell? ⟨x4.heap.size, 0, none⟩ = some (.int .i64 n) ∧ x.cell? ⟨x4.heap.size, 1, none⟩ = some (.slice a2 JB.length c2) ∧ x.cell? ⟨x8.heap.size, 0, none⟩ = some (.int .i64 xa) ∧ x.cell? ⟨x8.heap.size, 1, none⟩ = some (.int .i64 xa) ∧ x.cell? ⟨x99.heap.size, 0, none⟩ = some (.int .i64 0) ∧ x.cell? ⟨x99.heap.size, 1, none⟩ = some (.slice a5 0 c5) ∧ EsAt x a L ∧ EsAt x a1 JA ∧ EsAt x a2 JB) := Lib.hid fun x hx => ⟨(HFY3.out x (hz.trans (hx.mono hz.size))).1, (HFY3.out x (hz.trans (hx.mono hz.size))).2.1, (HFY3.out x (hz.trans (hx.mono hz.size))).2.2.1, (HFY3.out x (hz.trans (hx.mono hz.size))).2.2.2.1, (HFY3.out x (hz.trans (hx.mono hz.size))).2.2.2.2.1, (HFY3.out x (hz.trans (hx.mono hz.size))).2.2.2.2.2.1, (HFY3.out x (hz.trans (hx.mono hz.size))).2.2.2.2.2.2.1, (HFY3.out x (hz.trans (hx.mono hz.size))).2.2.2.2.2.2.2.1, (hQ.below hx hQ.lt).cell 0, (hQ.below hx hQ.lt).cell 1, (HFY3.out x (hz.trans (hx.mono hz.size))).2.2.2.2.2.2.2.2.1, (HFY3.out x (hz.trans (hx.mono hz.size))).2.2.2.2.2.2.2.2.2.1, (HFY3.out x (hz.trans (hx.mono hz.size))).2.2.2.2.2.2.2.2.2.2⟩
  clear g0 g1 g2 g3 g4 g5 g6 g7 hk99 hz hQ hy
  have hk100 : Below Y4.heap.size Y4 Y4 := Below.refl _ _
  have g0 : (x99.alloc (Obj.cells #[.int .i64 0, .slice a5 0 c5] 24)).cell? ⟨w.heap.size, 0, none⟩ = some (.int .i64 n) := by rw [← hY4]; exact (HFY4.out _ hk100).1
  have g1 : (x99.alloc (Obj.cells #[.int .i64 0, .slice a5 0 c5] 24)).cell? ⟨w.heap.size, 1, none⟩ = some (.slice a L.length cap) := by rw [← hY4]; exact (HFY4.out _ hk100).2.1
  have g2 : (x99.alloc (Obj.cells #[.int .i64 0, .slice a5 0 c5] 24)).cell? ⟨x2.heap.size, 0, none⟩ = some (.int .i64 n) := by rw [← hY4]; exact (HFY4.out _ hk100).2.2.1
  have g3 : (x99.alloc (Obj.cells #[.int .i64 0, .slice a5 0 c5] 24)).cell? ⟨x2.heap.size, 1, none⟩ = some (.slice a1 JA.length c1) := by rw [← hY4]; exact (HFY4.out _ hk100).2.2.2.1
  have g4 : (x99.alloc (Obj.cells #[.int .i64 0, .slice a5 0 c5] 24)).cell? ⟨x4.heap.size, 0, none⟩ = some (.int .i64 n) := by rw [← hY4]; exact (HFY4.out _ hk100).2.2.2.2.1
  have g5 : (x99.alloc (Obj.cells #[.int .i64 0, .slice a5 0 c5] 24)).cell? ⟨x4.heap.size, 1, none⟩ = some (.slice a2 JB.length c2) := by rw [← hY4]; exact (HFY4.out _ hk100).2.2.2.2.2.1
  have g6 : (x99.alloc (Obj.cells #[.int .i64 0, .slice a5 0 c5] 24)).cell? ⟨x8.heap.size, 0, none⟩ = some (.int .i64 xa) := by rw [← hY4]; exact (HFY4.out _ hk100).2.2.2.2.2.2.1
  have g7 : (x99.alloc (Obj.cells #[.int .i64 0, .slice a5 0 c5] 24)).cell? ⟨x8.heap.size, 1, none⟩ = some (.int .i64 xa) := by rw [← hY4]; exact (HFY4.out _ hk100).2.2.2.2.2.2.2.1
  have g8 : (x99.alloc (Obj.cells #[.int .i64 0, .slice a5 0 c5] 24)).cell? ⟨x99.heap.size, 0, none⟩ = some (.int .i64 0) := by rw [← hY4]; exact (HFY4.out _ hk100).2.2.2.2.2.2.2.2.1
  have g9 : (x99.alloc (Obj.cells #[.int .i64 0, .slice a5 0 c5] 24)).cell? ⟨x99.heap.size, 1, none⟩ = some (.slice a5 0 c5) := by rw [← hY4]; exact (HFY4.out _ hk100).2.2.2.2.2.2.2.2.2.1
  have HY4 := Lib.hid hY4
  clear hY4
  go_wp2_with fail
  rw [← HY4.out]
  refine (HA _).mono ?_
  rintro e x101 ⟨rfl, hb101⟩
  have hk101 : Below Y4.heap.size Y4 x101 := hk100.trans (hb101.mono hk100.size)
  clear hb101 hk100 g0 g1 g2 g3 g4 g5 g6 g7 g8 g9
  obtain ⟨g0, g1, g2, g3, g4, g5, g6, g7, g8, g9, -⟩ := HFY4.out x101 hk101
  have HEND := Lib.hid (HBY4.out.trans (hk101.mono HBY4.out.size))
  clear hk101 g0 g1 g2 g3 g4 g5 g6 g7 g8 g9
  go_wp2
  go_ret
  exact ⟨rfl, HEND.out⟩
set_option maxHeartbeats 12800000 in
set_option maxRecDepth 100000 in
theorem counts_edge_ok (n : Int) (a : Option Addr) (cap : Nat) (L : List E) (e : Nat) (k0 : Int) (JA JB : List E) (P : List (Int × Int)) (he : e < P.length) (xa xb S Gm : Int) (hS : 1 ≤ S ∧ S ≤ 10) (hG : -1000 ≤ Gm ∧ Gm ≤ 1000) (hn : 1 ≤ n ∧ n ≤ 12) (HRT : Hid (∀ w, EsAt w a L → Calls Try.prog 32 #[.agg #[.int .i64 n, .slice a L.length cap], .int .i64 (e : Int)] w (fun e w' => e = .returned (.bool true) ∧ Below w.heap.size w w'))) (HA : AwakeC) (HD : Hid (∀ w, EsAt w a L → Calls Try.prog 13 #[.agg #[.int .i64 n, .slice a L.length cap], .int .i64 (e : Int)] w (fun e w' => ∃ a1 c1, e = .returned (.tuple #[.agg #[.int .i64 n, .slice a1 JA.length c1], .int .i64 ((0 : Nat) : Int)]) ∧ EsAt w' a1 JA ∧ Below w.heap.size w w'))) (HC : Hid (∀ w, EsAt w a L → Calls Try.prog 15 #[.agg #[.int .i64 n, .slice a L.length cap], .int .i64 (e : Int)] w (fun e w' => ∃ a1 c1, e = .returned (.tuple #[.agg #[.int .i64 (n - 1), .slice a1 JB.length c1], .int .i64 ((0 : Nat) : Int)]) ∧ EsAt w' a1 JB ∧ Below w.heap.size w w'))) (HKA : Hid (∀ a c w, EsAt w a JA → Calls Try.prog 33 #[.agg #[.int .i64 n, .slice a JA.length c]] w (fun e w' => e = .returned (.int .i64 0) ∧ Below w.heap.size w w'))) (HKB : Hid (∀ a c w, EsAt w a JB → Calls Try.prog 33 #[.agg #[.int .i64 (n - 1), .slice a JB.length c]] w (fun e w' => e = .returned (.int .i64 0) ∧ Below w.heap.size w w'))) (HEN : Hid (∀ w, EsAt w a L → Calls Try.prog 34 #[.agg #[.int .i64 n, .slice a L.length cap]] w (fun e w' => ∃ b d, e = .returned (.slice b P.length d) ∧ PsAt w' b P ∧ Below w.heap.size w w'))) (HPE : Hid (pAt P e = (xa, xb))) (HSZ : Hid (∀ a c w, EsAt w a L → Calls Try.prog 35 #[.agg #[.int .i64 n, .slice a L.length c]] w (fun e w' => e = .returned (.int .i64 S) ∧ Below w.heap.size w w'))) (HGN : Hid (∀ a c w, EsAt w a L → Calls Try.prog 36 #[.agg #[.int .i64 n, .slice a L.length c]] w (fun e w' => e = .returned (.int .i64 Gm) ∧ Below w.heap.size w w'))) (HRA : Hid (∀ a c w, EsAt w a JA → Calls Try.prog 37 #[.agg #[.int .i64 n, .slice a JA.length c]] w (fun e w' => e = .returned (.int .i64 0) ∧ Below w.heap.size w w'))) (HRB : Hid (∀ a c w, EsAt w a JB → Calls Try.prog 37 #[.agg #[.int .i64 (n - 1), .slice a JB.length c]] w (fun e w' => e = .returned (.int .i64 0) ∧ Below w.heap.size w w'))) (HSA : Hid (∀ a c w, EsAt w a JA → Calls Try.prog 35 #[.agg #[.int .i64 n, .slice a JA.length c]] w (fun e w' => e = .returned (.int .i64 (S - 1)) ∧ Below w.heap.size w w'))) (HSB : Hid (∀ a c w, EsAt w a JB → Calls Try.prog 35 #[.agg #[.int .i64 (n - 1), .slice a JB.length c]] w (fun e w' => e = .returned (.int .i64 (S - 1)) ∧ Below w.heap.size w w'))) (HGB : Hid (∀ a c w, EsAt w a JB → Calls Try.prog 36 #[.agg #[.int .i64 (n - 1), .slice a JB.length c]] w (fun e w' => e = .returned (.int .i64 Gm) ∧ Below w.heap.size w w'))) (hx : ¬ xa = xb) (q : Nat) (hq : q ≤ 2) (hk1 : IntKind.i64.wrap (k0.tmod 3) = (q : Int)) (hk0 : IntKind.i64.wrap (1 + (q : Int)) = (q : Int) + 1) (JC : List E) (MC : Int) (hMC : n ≤ MC ∧ MC ≤ 12) (HSU : Hid (∀ w, EsAt w a L → Calls Try.prog 25 #[.agg #[.int .i64 n, .slice a L.length cap], .int .i64 ((q : Int) + 1)] w (fun e w' => ∃ a1 c1, e = .returned (.tuple #[.agg #[.int .i64 MC, .slice a1 JC.length c1], .int .i64 ((0 : Nat) : Int)]) ∧ EsAt w' a1 JC ∧ Below w.heap.size w w'))) (HRC : Hid (∀ a c w, EsAt w a JC → Calls Try.prog 37 #[.agg #[.int .i64 MC, .slice a JC.length c]] w (fun e w' => e = .returned (.int .i64 0) ∧ Below w.heap.size w w'))) (HSC : Hid (∀ a c w, EsAt w a JC → Calls Try.prog 35 #[.agg #[.int .i64 MC, .slice a JC.length c]] w (fun e w' => e = .returned (.int .i64 (((q : Int) + 1) * S)) ∧ Below w.heap.size w w'))) (HGC : Hid (∀ a c w, EsAt w a JC → Calls Try.prog 36 #[.agg #[.int .i64 MC, .slice a JC.length c]] w (fun e w' => e = .returned (.int .i64 Gm) ∧ Below w.heap.size w w'))) (HDG : Hid (∀ v : Int, n ≤ v → v < MC → ∀ a c w, EsAt w a JC → Calls Try.prog 38 #[.agg #[.int .i64 MC, .slice a JC.length c], .int .i64 v] w (fun e w' => e = .returned (.int .i64 2) ∧ Below w.heap.size w w'))) (w : World) (h : EsAt w a L) :
    Calls Try.prog 7 #[gv n a L.length cap, .int .i64 (e : Int), .int .u8 k0] w (GivesB w true) := by
  unfold GivesB gv
  obtain ⟨W, hW⟩ : ∃ W, W = w.alloc (Obj.cells #[.int .i64 n, .slice a L.length cap] 24) := ⟨_, rfl⟩
  have hB0 : Below w.heap.size w W := by rw [hW]; exact (Below.refl _ w).alloc (Nat.le_refl _) _
  have hG : Blk W w.heap.size 24 #[.int .i64 n, .slice a L.length cap] := by rw [hW]; exact Blk.new _ _ _
  have HW := Lib.hid hW
  have HB0 := Lib.hid hB0
  have hEz : EsAt W a L := h.keep hB0
  have HF : Hid (∀ x, Below W.heap.size W x → x.cell? ⟨w.heap.size, 0, none⟩ = some (.int .i64 n) ∧ x.cell? ⟨w.heap.size, 1, none⟩ = some (.slice a L.length cap) ∧ EsAt x a L) := Lib.hid fun x hx => ⟨(hG.below hx hG.lt).cell 0, (hG.below hx hG.lt).cell 1, hEz.keep hx⟩
  have hk0 : Below W.heap.size W W := Below.refl _ _
  obtain ⟨g0, g1, -⟩ := HF.out W hk0
  clear hB0 hG hW hEz h
  have i1 : (e : Int) < (P.length : Int) := by omega
  have i2 : (0 : Int) ≤ (e : Int) := by omega
  have c1 : IntKind.i64.wrap (S - 1) = S - 1 := IntWalk.i64_in _ (by omega)
  have c2 : IntKind.i64.wrap (Gm - 1) = Gm - 1 := IntWalk.i64_in _ (by omega)
  have c3 : IntKind.i64.wrap (n - 1) = n - 1 := IntWalk.i64_in _ (by omega)
  have q1 : (n != n) = false := by simp
  have q2 : (S - 1 != S - 1) = false := by simp
  have q3 : (Gm != Gm) = false := by simp
  have q4 : (Gm - 1 != Gm - 1) = false := by simp
  have q5 : (n - 1 != n - 1) = false := by simp
  have hqs : 0 ≤ ((q : Int) + 1) * S ∧ ((q : Int) + 1) * S ≤ 1000 := by
    have : q = 0 ∨ q = 1 ∨ q = 2 := by omega
    rcases this with rfl | rfl | rfl <;> omega
  have c5 : IntKind.i64.wrap (((q : Int) + 1) * S) = ((q : Int) + 1) * S := IntWalk.i64_in _ (by omega)
  have q6 : (((q : Int) + 1) * S != ((q : Int) + 1) * S) = false := by simp
  have d5 : decide (MC < n) = false := decide_eq_false (by omega)
  have d1 : (xa == xb) = false := by simpa using hx
  have d2 : (xa != xb) = true := by rw [bne_iff_ne]; exact hx
  go_enter Try.func7, Try.ntmps7
  go_wp2_with fail
  rw [← HW.out]
  refine (HRT.out _ (HF.out W hk0).2.2).mono ?_
  rintro e x1 ⟨rfl, hb1⟩
  have hk1 : Below W.heap.size W x1 := hk0.trans (hb1.mono hk0.size)
  clear hb1 hk0 g0 g1
  obtain ⟨g0, g1, -⟩ := HF.out x1 hk1
  go_wp2_with fail
  refine (HD.out _ (HF.out x1 hk1).2.2).mono ?_
  rintro e x2 ⟨a1, c1, rfl, hA_2, hb2⟩
  have hk2 : Below W.heap.size W x2 := hk1.trans (hb2.mono hk1.size)
  clear hb2 hk1 g0 g1
  obtain ⟨g0, g1, -⟩ := HF.out x2 hk2
  obtain ⟨Y1, hY1⟩ : ∃ Y, Y = x2.alloc (Obj.cells #[.int .i64 n, .slice a1 JA.length c1] 24) := ⟨_, rfl⟩
  have hy : Below x2.heap.size x2 Y1 := by rw [hY1]; exact (Below.refl _ _).alloc (Nat.le_refl _) _
  have hz : Below W.heap.size W Y1 := hk2.trans (hy.mono hk2.size)
  have hQ : Blk Y1 x2.heap.size 24 #[.int .i64 n, .slice a1 JA.length c1] := by rw [hY1]; exact Blk.new _ _ _
  have HBY1 : Hid (Below w.heap.size w Y1) := Lib.hid (HB0.out.trans (hz.mono HB0.out.size))
  have HFY1 : Hid (∀ x, Below Y1.heap.size Y1 x → x.cell? ⟨w.heap.size, 0, none⟩ = some (.int .i64 n) ∧ x.cell? ⟨w.heap.size, 1, none⟩ = some (.slice a L.length cap) ∧ x.cell? ⟨x2.heap.size, 0, none⟩ = some (.int .i64 n) ∧ x.cell? ⟨x2.heap.size, 1, none⟩ = some (.slice a1 JA.length c1) ∧ EsAt x a L ∧ EsAt x a1 JA) := Lib.hid fun x hx => ⟨(HF.out x (hz.trans (hx.mono hz.size))).1, (HF.out x (hz.trans (hx.mono hz.size))).2.1, (hQ.below hx hQ.lt).cell 0, (hQ.below hx hQ.lt).cell 1, (HF.out x (hz.trans (hx.mono hz.size))).2.2, (hA_2.keep hy).keep hx⟩
  clear g0 g1 hk2 hz hQ hy hA_2
  have hk3 : Below Y1.heap.size Y1 Y1 := Below.refl _ _
  have g0 : (x2.alloc (Obj.cells #[.int .i64 n, .slice a1 JA.length c1] 24)).cell? ⟨w.heap.size, 0, none⟩ = some (.int .i64 n) := by rw [← hY1]; exact (HFY1.out _ hk3).1
  have g1 : (x2.alloc (Obj.cells #[.int .i64 n, .slice a1 JA.length c1] 24)).cell? ⟨w.heap.size, 1, none⟩ = some (.slice a L.length cap) := by rw [← hY1]; exact (HFY1.out _ hk3).2.1
  have g2 : (x2.alloc (Obj.cells #[.int .i64 n, .slice a1 JA.length c1] 24)).cell? ⟨x2.heap.size, 0, none⟩ = some (.int .i64 n) := by rw [← hY1]; exact (HFY1.out _ hk3).2.2.1
  have g3 : (x2.alloc (Obj.cells #[.int .i64 n, .slice a1 JA.length c1] 24)).cell? ⟨x2.heap.size, 1, none⟩ = some (.slice a1 JA.length c1) := by rw [← hY1]; exact (HFY1.out _ hk3).2.2.2.1
  have HY1 := Lib.hid hY1
  clear hY1
  go_wp2_with fail
  rw [← HY1.out]
  refine (HC.out _ (HFY1.out Y1 hk3).2.2.2.2.1).mono ?_
  rintro e x4 ⟨a2, c2, rfl, hB_4, hb4⟩
  have hk4 : Below Y1.heap.size Y1 x4 := hk3.trans (hb4.mono hk3.size)
  clear hb4 hk3 g0 g1 g2 g3
  obtain ⟨g0, g1, g2, g3, -⟩ := HFY1.out x4 hk4
  obtain ⟨Y2, hY2⟩ : ∃ Y, Y = x4.alloc (Obj.cells #[.int .i64 (n - 1), .slice a2 JB.length c2] 24) := ⟨_, rfl⟩
  have hy : Below x4.heap.size x4 Y2 := by rw [hY2]; exact (Below.refl _ _).alloc (Nat.le_refl _) _
  have hz : Below Y1.heap.size Y1 Y2 := hk4.trans (hy.mono hk4.size)
  have hQ : Blk Y2 x4.heap.size 24 #[.int .i64 (n - 1), .slice a2 JB.length c2] := by rw [hY2]; exact Blk.new _ _ _
  have HBY2 : Hid (Below w.heap.size w Y2) := Lib.hid (HBY1.out.trans (hz.mono HBY1.out.size))
  have HFY2 : Hid (∀ x, Below Y2.heap.size Y2 x → x.cell? ⟨w.heap.size, 0, none⟩ = some (.int .i64 n) ∧ x.cell? ⟨w.heap.size, 1, none⟩ = some (.slice a L.length cap) ∧ x.cell? ⟨x2.heap.size, 0, none⟩ = some (.int .i64 n) ∧ x.cell? ⟨x2.heap.size, 1, none⟩ = some (.slice a1 JA.length c1) ∧ x.cell? ⟨x4.heap.size, 0, none⟩ = some (.int .i64 (n - 1)) ∧ x.cell? ⟨x4.heap.size, 1, none⟩ = some (.slice a2 JB.length c2) ∧ EsAt x a L ∧ EsAt x a1 JA ∧ EsAt x a2 JB) := Lib.hid fun x hx => ⟨(HFY1.out x (hz.trans (hx.mono hz.size))).1, (HFY1.out x (hz.trans (hx.mono hz.size))).2.1, (HFY1.out x (hz.trans (hx.mono hz.size))).2.2.1, (HFY1.out x (hz.trans (hx.mono hz.size))).2.2.2.1, (hQ.below hx hQ.lt).cell 0, (hQ.below hx hQ.lt).cell 1, (HFY1.out x (hz.trans (hx.mono hz.size))).2.2.2.2.1, (HFY1.out x (hz.trans (hx.mono hz.size))).2.2.2.2.2, (hB_4.keep hy).keep hx⟩
  clear g0 g1 g2 g3 hk4 hz hQ hy hB_4
  have hk5 : Below Y2.heap.size Y2 Y2 := Below.refl _ _
  have g0 : (x4.alloc (Obj.cells #[.int .i64 (n - 1), .slice a2 JB.length c2] 24)).cell? ⟨w.heap.size, 0, none⟩ = some (.int .i64 n) := by rw [← hY2]; exact (HFY2.out _ hk5).1
  have g1 : (x4.alloc (Obj.cells #[.int .i64 (n - 1), .slice a2 JB.length c2] 24)).cell? ⟨w.heap.size, 1, none⟩ = some (.slice a L.length cap) := by rw [← hY2]; exact (HFY2.out _ hk5).2.1
  have g2 : (x4.alloc (Obj.cells #[.int .i64 (n - 1), .slice a2 JB.length c2] 24)).cell? ⟨x2.heap.size, 0, none⟩ = some (.int .i64 n) := by rw [← hY2]; exact (HFY2.out _ hk5).2.2.1
  have g3 : (x4.alloc (Obj.cells #[.int .i64 (n - 1), .slice a2 JB.length c2] 24)).cell? ⟨x2.heap.size, 1, none⟩ = some (.slice a1 JA.length c1) := by rw [← hY2]; exact (HFY2.out _ hk5).2.2.2.1
  have g4 : (x4.alloc (Obj.cells #[.int .i64 (n - 1), .slice a2 JB.length c2] 24)).cell? ⟨x4.heap.size, 0, none⟩ = some (.int .i64 (n - 1)) := by rw [← hY2]; exact (HFY2.out _ hk5).2.2.2.2.1
  have g5 : (x4.alloc (Obj.cells #[.int .i64 (n - 1), .slice a2 JB.length c2] 24)).cell? ⟨x4.heap.size, 1, none⟩ = some (.slice a2 JB.length c2) := by rw [← hY2]; exact (HFY2.out _ hk5).2.2.2.2.2.1
  have HY2 := Lib.hid hY2
  clear hY2
  go_wp2_with fail
  rw [← HY2.out]
  refine (HKA.out a1 c1 _ (HFY2.out Y2 hk5).2.2.2.2.2.2.2.1).mono ?_
  rintro e x6 ⟨rfl, hb6⟩
  have hk6 : Below Y2.heap.size Y2 x6 := hk5.trans (hb6.mono hk5.size)
  clear hb6 hk5 g0 g1 g2 g3 g4 g5
  obtain ⟨g0, g1, g2, g3, g4, g5, -⟩ := HFY2.out x6 hk6
  go_wp2_with fail
  refine (HKB.out a2 c2 _ (HFY2.out x6 hk6).2.2.2.2.2.2.2.2).mono ?_
  rintro e x7 ⟨rfl, hb7⟩
  have hk7 : Below Y2.heap.size Y2 x7 := hk6.trans (hb7.mono hk6.size)
  clear hb7 hk6 g0 g1 g2 g3 g4 g5
  obtain ⟨g0, g1, g2, g3, g4, g5, -⟩ := HFY2.out x7 hk7
  go_wp2_with fail
  refine (HEN.out _ (HFY2.out x7 hk7).2.2.2.2.2.2.1).mono ?_
  rintro e x8 ⟨b3, d3, rfl, hP_8, hb8⟩
  have hk8 : Below Y2.heap.size Y2 x8 := hk7.trans (hb8.mono hk7.size)
  clear hb8 hk7 g0 g1 g2 g3 g4 g5
  obtain ⟨g0, g1, g2, g3, g4, g5, -⟩ := HFY2.out x8 hk8
  obtain ⟨b4, o4, hbb, q9, px, py⟩ := hP_8.two e he
  subst hbb
  rw [HPE.out] at px py
  simp only at px py
  clear hP_8
  obtain ⟨Y3, hY3⟩ : ∃ Y, Y = x8.alloc (Obj.cells #[.int .i64 xa, .int .i64 xb] 25) := ⟨_, rfl⟩
  have hy : Below x8.heap.size x8 Y3 := by rw [hY3]; exact (Below.refl _ _).alloc (Nat.le_refl _) _
  have hz : Below Y2.heap.size Y2 Y3 := hk8.trans (hy.mono hk8.size)
  have hQ : Blk Y3 x8.heap.size 25 #[.int .i64 xa, .int .i64 xb] := by rw [hY3]; exact Blk.new _ _ _
  have HBY3 : Hid (Below w.heap.size w Y3) := Lib.hid (HBY2.out.trans (hz.mono HBY2.out.size))
  have HFY3 : Hid (∀ x, Below Y3.heap.size Y3 x → x.cell? ⟨w.heap.size, 0, none⟩ = some (.int .i64 n) ∧ x.cell? ⟨w.heap.size, 1, none⟩ = some (.slice a L.length cap) ∧ x.cell? ⟨x2.heap.size, 0, none⟩ = some (.int .i64 n) ∧ x.cell? ⟨x2.heap.size, 1, none⟩ = some (.slice a1 JA.length c1) ∧ x.cell? ⟨x4.heap.size, 0, none⟩ = some (.int .i64 (n - 1)) ∧ x.cell? ⟨x4.heap.size, 1, none⟩ = some (.slice a2 JB.length c2) ∧ x.cell? ⟨x8.heap.size, 0, none⟩ = some (.int .i64 xa) ∧ x.cell? ⟨x8.heap.size, 1, none⟩ = some (.int .i64 xb) ∧ EsAt x a L ∧ EsAt x a1 JA ∧ EsAt x a2 JB) := Lib.hid fun x hx => ⟨(HFY2.out x (hz.trans (hx.mono hz.size))).1, (HFY2.out x (hz.trans (hx.mono hz.size))).2.1, (HFY2.out x (hz.trans (hx.mono hz.size))).2.2.1, (HFY2.out x (hz.trans (hx.mono hz.size))).2.2.2.1, (HFY2.out x (hz.trans (hx.mono hz.size))).2.2.2.2.1, (HFY2.out x (hz.trans (hx.mono hz.size))).2.2.2.2.2.1, (hQ.below hx hQ.lt).cell 0, (hQ.below hx hQ.lt).cell 1, (HFY2.out x (hz.trans (hx.mono hz.size))).2.2.2.2.2.2.1, (HFY2.out x (hz.trans (hx.mono hz.size))).2.2.2.2.2.2.2.1, (HFY2.out x (hz.trans (hx.mono hz.size))).2.2.2.2.2.2.2.2⟩
  clear g0 g1 g2 g3 g4 g5 hk8 hz hQ hy
  have hk9 : Below Y3.heap.size Y3 Y3 := Below.refl _ _
  have g0 : (x8.alloc (Obj.cells #[.int .i64 xa, .int .i64 xb] 25)).cell? ⟨w.heap.size, 0, none⟩ = some (.int .i64 n) := by rw [← hY3]; exact (HFY3.out _ hk9).1
  have g1 : (x8.alloc (Obj.cells #[.int .i64 xa, .int .i64 xb] 25)).cell? ⟨w.heap.size, 1, none⟩ = some (.slice a L.length cap) := by rw [← hY3]; exact (HFY3.out _ hk9).2.1
  have g2 : (x8.alloc (Obj.cells #[.int .i64 xa, .int .i64 xb] 25)).cell? ⟨x2.heap.size, 0, none⟩ = some (.int .i64 n) := by rw [← hY3]; exact (HFY3.out _ hk9).2.2.1
  have g3 : (x8.alloc (Obj.cells #[.int .i64 xa, .int .i64 xb] 25)).cell? ⟨x2.heap.size, 1, none⟩ = some (.slice a1 JA.length c1) := by rw [← hY3]; exact (HFY3.out _ hk9).2.2.2.1
  have g4 : (x8.alloc (Obj.cells #[.int .i64 xa, .int .i64 xb] 25)).cell? ⟨x4.heap.size, 0, none⟩ = some (.int .i64 (n - 1)) := by rw [← hY3]; exact (HFY3.out _ hk9).2.2.2.2.1
  have g5 : (x8.alloc (Obj.cells #[.int .i64 xa, .int .i64 xb] 25)).cell? ⟨x4.heap.size, 1, none⟩ = some (.slice a2 JB.length c2) := by rw [← hY3]; exact (HFY3.out _ hk9).2.2.2.2.2.1
  have g6 : (x8.alloc (Obj.cells #[.int .i64 xa, .int .i64 xb] 25)).cell? ⟨x8.heap.size, 0, none⟩ = some (.int .i64 xa) := by rw [← hY3]; exact (HFY3.out _ hk9).2.2.2.2.2.2.1
  have g7 : (x8.alloc (Obj.cells #[.int .i64 xa, .int .i64 xb] 25)).cell? ⟨x8.heap.size, 1, none⟩ = some (.int .i64 xb) := by rw [← hY3]; exact (HFY3.out _ hk9).2.2.2.2.2.2.2.1
  have HY3 := Lib.hid hY3
  clear hY3
  have q10 := True.intro
  go_wp2_with fail
  rw [← HY3.out]
  try clear px py q9
  have hj0 : Below Y3.heap.size Y3 Y3.drew := hk9.drew
  refine wp_region_late (S := fun u => Below Y3.heap.size Y3 u) (X := []) (by kernel_rfl) ?_
  refine wpAnyL_takeD (i := 0) 56 (.agg #[.int .i64 n, .slice a L.length cap]) rfl rfl (by kernel_rfl) (by kernel_rfl) (by kernel_rfl) (by kernel_rfl) (by kernel_rfl) (fun _ _ _ h => h) hj0 (Or.inl ⟨by rfl, fun u hu => ?_⟩) ?_
  · obtain ⟨t0, t1, t2, t3, t4, t5, t6, t7, -⟩ := HFY3.out u hu
    go_simp
  try simp only [Act.put, List.setIfInBounds_toArray, List.set_cons_zero, List.set_cons_succ]
  refine wpAnyL_takeD (i := 2) 58 (.agg #[.int .i64 n, .slice a L.length cap]) rfl rfl (by kernel_rfl) (by kernel_rfl) (by kernel_rfl) (by kernel_rfl) (by kernel_rfl) (fun _ _ _ h => h) hj0 (Or.inl ⟨by rfl, fun u hu => ?_⟩) ?_
  · obtain ⟨t0, t1, t2, t3, t4, t5, t6, t7, -⟩ := HFY3.out u hu
    go_simp
  try simp only [Act.put, List.setIfInBounds_toArray, List.set_cons_zero, List.set_cons_succ]
  refine wpAnyL_one (i := 1) (by kernel_rfl) rfl (fun K hK => ?_)
  go_simp
  go_at_call 35
  refine (HSZ.out a cap _ (HFY3.out Y3.drew hj0).2.2.2.2.2.2.2.2.1).mono ?_
  rintro e y1 ⟨rfl, hb1⟩
  have hj1 := hj0.trans (hb1.mono hj0.size)
  show K _ _
  refine hK.out _ _ (fun _ _ => hj1) ?_
  clear hK K hb1
  try simp only [Act.put, List.setIfInBounds_toArray, List.set_cons_zero, List.set_cons_succ]
  refine wpAnyL_one (i := 3) (by kernel_rfl) rfl (fun K hK => ?_)
  go_simp
  go_at_call 36
  refine (HGN.out a cap _ (HFY3.out y1 hj1).2.2.2.2.2.2.2.2.1).mono ?_
  rintro e y2 ⟨rfl, hb2⟩
  have hj2 := hj1.trans (hb2.mono hj1.size)
  show K _ _
  refine hK.out _ _ (fun _ _ => hj2) ?_
  clear hK K hb2
  try simp only [Act.put, List.setIfInBounds_toArray, List.set_cons_zero, List.set_cons_succ]
  refine wpAnyL_pureD (i := 4) 12 (.int .i64 S) rfl rfl (by kernel_rfl) (by kernel_rfl) (by kernel_rfl) (fun _ _ _ h => h) (Or.inl ⟨by rfl, fun u _ => ?_⟩) ?_
  · go_simp
  try simp only [Act.put, List.setIfInBounds_toArray, List.set_cons_zero, List.set_cons_succ]
  refine wpAnyL_pureD (i := 5) 13 (.int .i64 Gm) rfl rfl (by kernel_rfl) (by kernel_rfl) (by kernel_rfl) (fun _ _ _ h => h) (Or.inl ⟨by rfl, fun u _ => ?_⟩) ?_
  · go_simp
  try simp only [Act.put, List.setIfInBounds_toArray, List.set_cons_zero, List.set_cons_succ]
  refine wpAnyL_done (by kernel_rfl) ?_ _
  try simp only [Act.put, List.setIfInBounds_toArray, List.set_cons_zero, List.set_cons_succ]
  have hend := hj2
  have hkL : Below Y3.heap.size Y3 y2 := hend
  clear hend hj0 g0 g1 g2 g3 g4 g5 g6 g7
  obtain ⟨x93, hx93⟩ : ∃ x, x = y2 := ⟨_, rfl⟩
  have hk93 := hkL
  rw [← hx93] at hk93 ⊢
  clear hx93 hkL
  obtain ⟨g0, g1, g2, g3, g4, g5, g6, g7, -⟩ := HFY3.out x93 hk93
  go_wp2_with fail
  refine (HRA.out a1 c1 _ (HFY3.out x93 hk93).2.2.2.2.2.2.2.2.2.1).mono ?_
  rintro e x94 ⟨rfl, hb94⟩
  have hk94 : Below Y3.heap.size Y3 x94 := hk93.trans (hb94.mono hk93.size)
  clear hb94 hk93 g0 g1 g2 g3 g4 g5 g6 g7
  obtain ⟨g0, g1, g2, g3, g4, g5, g6, g7, -⟩ := HFY3.out x94 hk94
  go_wp2_with fail
  refine (HRB.out a2 c2 _ (HFY3.out x94 hk94).2.2.2.2.2.2.2.2.2.2).mono ?_
  rintro e x95 ⟨rfl, hb95⟩
  have hk95 : Below Y3.heap.size Y3 x95 := hk94.trans (hb95.mono hk94.size)
  clear hb95 hk94 g0 g1 g2 g3 g4 g5 g6 g7
  obtain ⟨g0, g1, g2, g3, g4, g5, g6, g7, -⟩ := HFY3.out x95 hk95
  go_wp2_with fail
  refine (HSA.out a1 c1 _ (HFY3.out x95 hk95).2.2.2.2.2.2.2.2.2.1).mono ?_
  rintro e x96 ⟨rfl, hb96⟩
  have hk96 : Below Y3.heap.size Y3 x96 := hk95.trans (hb96.mono hk95.size)
  clear hb96 hk95 g0 g1 g2 g3 g4 g5 g6 g7
  obtain ⟨g0, g1, g2, g3, g4, g5, g6, g7, -⟩ := HFY3.out x96 hk96
  go_wp2_with fail
  refine (HSB.out a2 c2 _ (HFY3.out x96 hk96).2.2.2.2.2.2.2.2.2.2).mono ?_
  rintro e x97 ⟨rfl, hb97⟩
  have hk97 : Below Y3.heap.size Y3 x97 := hk96.trans (hb97.mono hk96.size)
  clear hb97 hk96 g0 g1 g2 g3 g4 g5 g6 g7
  obtain ⟨g0, g1, g2, g3, g4, g5, g6, g7, -⟩ := HFY3.out x97 hk97
  go_wp2_with fail
  refine (HGB.out a2 c2 _ (HFY3.out x97 hk97).2.2.2.2.2.2.2.2.2.2).mono ?_
  rintro e x98 ⟨rfl, hb98⟩
  have hk98 : Below Y3.heap.size Y3 x98 := hk97.trans (hb98.mono hk97.size)
  clear hb98 hk97 g0 g1 g2 g3 g4 g5 g6 g7
  obtain ⟨g0, g1, g2, g3, g4, g5, g6, g7, -⟩ := HFY3.out x98 hk98
  go_wp2_with fail
  refine (HSU.out _ (HFY3.out x98 hk98).2.2.2.2.2.2.2.2.1).mono ?_
  rintro e x99 ⟨a5, c5, rfl, hC_99, hb99⟩
  have hk99 : Below Y3.heap.size Y3 x99 := hk98.trans (hb99.mono hk98.size)
  clear hb99 hk98 g0 g1 g2 g3 g4 g5 g6 g7
  obtain ⟨g0, g1, g2, g3, g4, g5, g6, g7, -⟩ := HFY3.out x99 hk99
  obtain ⟨Y4, hY4⟩ : ∃ Y, Y = x99.alloc (Obj.cells #[.int .i64 MC, .slice a5 JC.length c5] 24) := ⟨_, rfl⟩
  have hy : Below x99.heap.size x99 Y4 := by rw [hY4]; exact (Below.refl _ _).alloc (Nat.le_refl _) _
  have hz : Below Y3.heap.size Y3 Y4 := hk99.trans (hy.mono hk99.size)
  have hQ : Blk Y4 x99.heap.size 24 #[.int .i64 MC, .slice a5 JC.length c5] := by rw [hY4]; exact Blk.new _ _ _
  have HBY4 : Hid (Below w.heap.size w Y4) := Lib.hid (HBY3.out.trans (hz.mono HBY3.out.size))
  have HFY4 : Hid (∀ x, Below Y4.heap.size Y4 x → x.cell? ⟨w.heap.size, 0, none⟩ = some (.int .i64 n) ∧ x.cell? ⟨w.heap.size, 1, none⟩ = some (.slice a L.length cap) ∧ x.cell? ⟨x2.heap.size, 0, none⟩ = some (.int .i64 n) ∧ x.cell? ⟨x2.heap.size, 1, none⟩ = some (.slice a1 JA.length c1) ∧ x.cell? ⟨x4.heap.size, 0, none⟩ = some (.int .i64 (n - 1)) ∧ x.cell? ⟨x4.heap.size, 1, none⟩ = some (.slice a2 JB.length c2) ∧ x.cell? ⟨x8.heap.size, 0, none⟩ = some (.int .i64 xa) ∧ x.cell? ⟨x8.heap.size, 1, none⟩ = some (.int .i64 xb) ∧ x.cell? ⟨x99.heap.size, 0, none⟩ = some (.int .i64 MC) ∧ x.cell? ⟨x99.heap.size, 1, none⟩ = some (.slice a5 JC.length c5) ∧ EsAt x a L ∧ EsAt x a1 JA ∧ EsAt x a2 JB ∧ EsAt x a5 JC) := Lib.hid fun x hx => ⟨(HFY3.out x (hz.trans (hx.mono hz.size))).1, (HFY3.out x (hz.trans (hx.mono hz.size))).2.1, (HFY3.out x (hz.trans (hx.mono hz.size))).2.2.1, (HFY3.out x (hz.trans (hx.mono hz.size))).2.2.2.1, (HFY3.out x (hz.trans (hx.mono hz.size))).2.2.2.2.1, (HFY3.out x (hz.trans (hx.mono hz.size))).2.2.2.2.2.1, (HFY3.out x (hz.trans (hx.mono hz.size))).2.2.2.2.2.2.1, (HFY3.out x (hz.trans (hx.mono hz.size))).2.2.2.2.2.2.2.1, (hQ.below hx hQ.lt).cell 0, (hQ.below hx hQ.lt).cell 1, (HFY3.out x (hz.trans (hx.mono hz.size))).2.2.2.2.2.2.2.2.1, (HFY3.out x (hz.trans (hx.mono hz.size))).2.2.2.2.2.2.2.2.2.1, (HFY3.out x (hz.trans (hx.mono hz.size))).2.2.2.2.2.2.2.2.2.2, (hC_99.keep hy).keep hx⟩
  clear g0 g1 g2 g3 g4 g5 g6 g7 hk99 hz hQ hy hC_99
  have hk100 : Below Y4.heap.size Y4 Y4 := Below.refl _ _
  have g0 : (x99.alloc (Obj.cells #[.int .i64 MC, .slice a5 JC.length c5] 24)).cell? ⟨w.heap.size, 0, none⟩ = some (.int .i64 n) := by rw [← hY4]; exact (HFY4.out _ hk100).1
  have g1 : (x99.alloc (Obj.cells #[.int .i64 MC, .slice a5 JC.length c5] 24)).cell? ⟨w.heap.size, 1, none⟩ = some (.slice a L.length cap) := by rw [← hY4]; exact (HFY4.out _ hk100).2.1
  have g2 : (x99.alloc (Obj.cells #[.int .i64 MC, .slice a5 JC.length c5] 24)).cell? ⟨x2.heap.size, 0, none⟩ = some (.int .i64 n) := by rw [← hY4]; exact (HFY4.out _ hk100).2.2.1
  have g3 : (x99.alloc (Obj.cells #[.int .i64 MC, .slice a5 JC.length c5] 24)).cell? ⟨x2.heap.size, 1, none⟩ = some (.slice a1 JA.length c1) := by rw [← hY4]; exact (HFY4.out _ hk100).2.2.2.1
  have g4 : (x99.alloc (Obj.cells #[.int .i64 MC, .slice a5 JC.length c5] 24)).cell? ⟨x4.heap.size, 0, none⟩ = some (.int .i64 (n - 1)) := by rw [← hY4]; exact (HFY4.out _ hk100).2.2.2.2.1
  have g5 : (x99.alloc (Obj.cells #[.int .i64 MC, .slice a5 JC.length c5] 24)).cell? ⟨x4.heap.size, 1, none⟩ = some (.slice a2 JB.length c2) := by rw [← hY4]; exact (HFY4.out _ hk100).2.2.2.2.2.1
  have g6 : (x99.alloc (Obj.cells #[.int .i64 MC, .slice a5 JC.length c5] 24)).cell? ⟨x8.heap.size, 0, none⟩ = some (.int .i64 xa) := by rw [← hY4]; exact (HFY4.out _ hk100).2.2.2.2.2.2.1
  have g7 : (x99.alloc (Obj.cells #[.int .i64 MC, .slice a5 JC.length c5] 24)).cell? ⟨x8.heap.size, 1, none⟩ = some (.int .i64 xb) := by rw [← hY4]; exact (HFY4.out _ hk100).2.2.2.2.2.2.2.1
  have g8 : (x99.alloc (Obj.cells #[.int .i64 MC, .slice a5 JC.length c5] 24)).cell? ⟨x99.heap.size, 0, none⟩ = some (.int .i64 MC) := by rw [← hY4]; exact (HFY4.out _ hk100).2.2.2.2.2.2.2.2.1
  have g9 : (x99.alloc (Obj.cells #[.int .i64 MC, .slice a5 JC.length c5] 24)).cell? ⟨x99.heap.size, 1, none⟩ = some (.slice a5 JC.length c5) := by rw [← hY4]; exact (HFY4.out _ hk100).2.2.2.2.2.2.2.2.2.1
  have HY4 := Lib.hid hY4
  clear hY4
  go_wp2_with fail
  rw [← HY4.out]
  refine (HRC.out a5 c5 _ (HFY4.out Y4 hk100).2.2.2.2.2.2.2.2.2.2.2.2.2).mono ?_
  rintro e x101 ⟨rfl, hb101⟩
  have hk101 : Below Y4.heap.size Y4 x101 := hk100.trans (hb101.mono hk100.size)
  clear hb101 hk100 g0 g1 g2 g3 g4 g5 g6 g7 g8 g9
  obtain ⟨g0, g1, g2, g3, g4, g5, g6, g7, g8, g9, -⟩ := HFY4.out x101 hk101
  go_wp2_with fail
  refine (HSC.out a5 c5 _ (HFY4.out x101 hk101).2.2.2.2.2.2.2.2.2.2.2.2.2).mono ?_
  rintro e x102 ⟨rfl, hb102⟩
  have hk102 : Below Y4.heap.size Y4 x102 := hk101.trans (hb102.mono hk101.size)
  clear hb102 hk101 g0 g1 g2 g3 g4 g5 g6 g7 g8 g9
  obtain ⟨g0, g1, g2, g3, g4, g5, g6, g7, g8, g9, -⟩ := HFY4.out x102 hk102
  go_wp2_with fail
  refine (HGC.out a5 c5 _ (HFY4.out x102 hk102).2.2.2.2.2.2.2.2.2.2.2.2.2).mono ?_
  rintro e x103 ⟨rfl, hb103⟩
  have hk103 : Below Y4.heap.size Y4 x103 := hk102.trans (hb103.mono hk102.size)
  clear hb103 hk102 g0 g1 g2 g3 g4 g5 g6 g7 g8 g9
  obtain ⟨g0, g1, g2, g3, g4, g5, g6, g7, g8, g9, -⟩ := HFY4.out x103 hk103
  have HBk := Lib.hid hk103
  clear hk103
  go_wp2
  clear g0 g1 g2 g3 g4 g5 g6 g7 g8 g9
  go_loopw [17] (fun x wr => ∃ v : Nat, n ≤ (v : Int) ∧ (v : Int) ≤ MC ∧ x = .int .i64 v ∧ Below Y4.heap.size Y4 wr) (fun x _ => 13 - (intOf x).toNat)
  case atStart => exact ⟨n.toNat, by omega, by omega, by rw [Int.toNat_of_nonneg (by omega)], HBk.out⟩
  case round =>
    obtain ⟨v, hv1, hv2, rfl, hb⟩ := hrel
    by_cases hlt : (v : Int) < MC
    · have HBr := Lib.hid hb
      have hk300 := hb
      clear hb
      obtain ⟨g0, g1, g2, g3, g4, g5, g6, g7, g8, g9, -⟩ := HFY4.out wr hk300
      have HDv := Lib.hid (HDG.out v (by omega) hlt)
      go_wp2_with fail
      refine (HDv.out a5 c5 _ (HFY4.out wr hk300).2.2.2.2.2.2.2.2.2.2.2.2.2).mono ?_
      rintro e x301 ⟨rfl, hb301⟩
      have hk301 : Below Y4.heap.size Y4 x301 := hk300.trans (hb301.mono hk300.size)
      clear hb301 hk300 g0 g1 g2 g3 g4 g5 g6 g7 g8 g9
      obtain ⟨g0, g1, g2, g3, g4, g5, g6, g7, g8, g9, -⟩ := HFY4.out x301 hk301
      have HBN := Lib.hid hk301
      clear hk301
      go_wp2
      go_roundw
      case rel => exact ⟨v + 1, by omega, by omega, by go_num, HBN.out⟩
      case measure => simp [intOf]; omega
    · have HBr := Lib.hid hb
      have hk400 := hb
      clear hb
      obtain ⟨g0, g1, g2, g3, g4, g5, g6, g7, g8, g9, -⟩ := HFY4.out wr hk400
      go_wp2_with fail
      refine (HA _).mono ?_
      rintro e x401 ⟨rfl, hb401⟩
      have hk401 : Below Y4.heap.size Y4 x401 := hk400.trans (hb401.mono hk400.size)
      clear hb401 hk400 g0 g1 g2 g3 g4 g5 g6 g7 g8 g9
      obtain ⟨g0, g1, g2, g3, g4, g5, g6, g7, g8, g9, -⟩ := HFY4.out x401 hk401
      have HEND := Lib.hid (HBY4.out.trans (hk401.mono HBY4.out.size))
      clear hk401 g0 g1 g2 g3 g4 g5 g6 g7 g8 g9
      go_wp2
      go_ret
      exact ⟨rfl, HEND.out⟩
set_option maxHeartbeats 12800000 in
set_option maxRecDepth 100000 in
theorem counts_edge_many (n : Int) (a : Option Addr) (cap : Nat) (L : List E) (e : Nat) (k0 : Int) (JA JB : List E) (P : List (Int × Int)) (he : e < P.length) (xa xb S Gm : Int) (hS : 1 ≤ S ∧ S ≤ 10) (hG : -1000 ≤ Gm ∧ Gm ≤ 1000) (hn : 1 ≤ n ∧ n ≤ 12) (HRT : Hid (∀ w, EsAt w a L → Calls Try.prog 32 #[.agg #[.int .i64 n, .slice a L.length cap], .int .i64 (e : Int)] w (fun e w' => e = .returned (.bool true) ∧ Below w.heap.size w w'))) (HA : AwakeC) (HD : Hid (∀ w, EsAt w a L → Calls Try.prog 13 #[.agg #[.int .i64 n, .slice a L.length cap], .int .i64 (e : Int)] w (fun e w' => ∃ a1 c1, e = .returned (.tuple #[.agg #[.int .i64 n, .slice a1 JA.length c1], .int .i64 ((0 : Nat) : Int)]) ∧ EsAt w' a1 JA ∧ Below w.heap.size w w'))) (HC : Hid (∀ w, EsAt w a L → Calls Try.prog 15 #[.agg #[.int .i64 n, .slice a L.length cap], .int .i64 (e : Int)] w (fun e w' => ∃ a1 c1, e = .returned (.tuple #[.agg #[.int .i64 (n - 1), .slice a1 JB.length c1], .int .i64 ((0 : Nat) : Int)]) ∧ EsAt w' a1 JB ∧ Below w.heap.size w w'))) (HKA : Hid (∀ a c w, EsAt w a JA → Calls Try.prog 33 #[.agg #[.int .i64 n, .slice a JA.length c]] w (fun e w' => e = .returned (.int .i64 0) ∧ Below w.heap.size w w'))) (HKB : Hid (∀ a c w, EsAt w a JB → Calls Try.prog 33 #[.agg #[.int .i64 (n - 1), .slice a JB.length c]] w (fun e w' => e = .returned (.int .i64 0) ∧ Below w.heap.size w w'))) (HEN : Hid (∀ w, EsAt w a L → Calls Try.prog 34 #[.agg #[.int .i64 n, .slice a L.length cap]] w (fun e w' => ∃ b d, e = .returned (.slice b P.length d) ∧ PsAt w' b P ∧ Below w.heap.size w w'))) (HPE : Hid (pAt P e = (xa, xb))) (HSZ : Hid (∀ a c w, EsAt w a L → Calls Try.prog 35 #[.agg #[.int .i64 n, .slice a L.length c]] w (fun e w' => e = .returned (.int .i64 S) ∧ Below w.heap.size w w'))) (HGN : Hid (∀ a c w, EsAt w a L → Calls Try.prog 36 #[.agg #[.int .i64 n, .slice a L.length c]] w (fun e w' => e = .returned (.int .i64 Gm) ∧ Below w.heap.size w w'))) (HRA : Hid (∀ a c w, EsAt w a JA → Calls Try.prog 37 #[.agg #[.int .i64 n, .slice a JA.length c]] w (fun e w' => e = .returned (.int .i64 0) ∧ Below w.heap.size w w'))) (HRB : Hid (∀ a c w, EsAt w a JB → Calls Try.prog 37 #[.agg #[.int .i64 (n - 1), .slice a JB.length c]] w (fun e w' => e = .returned (.int .i64 0) ∧ Below w.heap.size w w'))) (HSA : Hid (∀ a c w, EsAt w a JA → Calls Try.prog 35 #[.agg #[.int .i64 n, .slice a JA.length c]] w (fun e w' => e = .returned (.int .i64 (S - 1)) ∧ Below w.heap.size w w'))) (HSB : Hid (∀ a c w, EsAt w a JB → Calls Try.prog 35 #[.agg #[.int .i64 (n - 1), .slice a JB.length c]] w (fun e w' => e = .returned (.int .i64 (S - 1)) ∧ Below w.heap.size w w'))) (HGB : Hid (∀ a c w, EsAt w a JB → Calls Try.prog 36 #[.agg #[.int .i64 (n - 1), .slice a JB.length c]] w (fun e w' => e = .returned (.int .i64 Gm) ∧ Below w.heap.size w w'))) (hx : ¬ xa = xb) (q : Nat) (hk1 : IntKind.i64.wrap (k0.tmod 3) = (q : Int)) (hk0 : IntKind.i64.wrap (1 + (q : Int)) = (q : Int) + 1) (HSU : Hid (∀ w, EsAt w a L → Calls Try.prog 25 #[.agg #[.int .i64 n, .slice a L.length cap], .int .i64 ((q : Int) + 1)] w (fun e w' => ∃ a1 c1, e = .returned (.tuple #[.agg #[.int .i64 0, .slice a1 0 c1], .int .i64 5]) ∧ Below w.heap.size w w'))) (w : World) (h : EsAt w a L) :
    Calls Try.prog 7 #[gv n a L.length cap, .int .i64 (e : Int), .int .u8 k0] w (GivesB w true) := by
  unfold GivesB gv
  obtain ⟨W, hW⟩ : ∃ W, W = w.alloc (Obj.cells #[.int .i64 n, .slice a L.length cap] 24) := ⟨_, rfl⟩
  have hB0 : Below w.heap.size w W := by rw [hW]; exact (Below.refl _ w).alloc (Nat.le_refl _) _
  have hG : Blk W w.heap.size 24 #[.int .i64 n, .slice a L.length cap] := by rw [hW]; exact Blk.new _ _ _
  have HW := Lib.hid hW
  have HB0 := Lib.hid hB0
  have hEz : EsAt W a L := h.keep hB0
  have HF : Hid (∀ x, Below W.heap.size W x → x.cell? ⟨w.heap.size, 0, none⟩ = some (.int .i64 n) ∧ x.cell? ⟨w.heap.size, 1, none⟩ = some (.slice a L.length cap) ∧ EsAt x a L) := Lib.hid fun x hx => ⟨(hG.below hx hG.lt).cell 0, (hG.below hx hG.lt).cell 1, hEz.keep hx⟩
  have hk0 : Below W.heap.size W W := Below.refl _ _
  obtain ⟨g0, g1, -⟩ := HF.out W hk0
  clear hB0 hG hW hEz h
  have i1 : (e : Int) < (P.length : Int) := by omega
  have i2 : (0 : Int) ≤ (e : Int) := by omega
  have c1 : IntKind.i64.wrap (S - 1) = S - 1 := IntWalk.i64_in _ (by omega)
  have c2 : IntKind.i64.wrap (Gm - 1) = Gm - 1 := IntWalk.i64_in _ (by omega)
  have c3 : IntKind.i64.wrap (n - 1) = n - 1 := IntWalk.i64_in _ (by omega)
  have q1 : (n != n) = false := by simp
  have q2 : (S - 1 != S - 1) = false := by simp
  have q3 : (Gm != Gm) = false := by simp
  have q4 : (Gm - 1 != Gm - 1) = false := by simp
  have q5 : (n - 1 != n - 1) = false := by simp
  have d1 : (xa == xb) = false := by simpa using hx
  have d2 : (xa != xb) = true := by rw [bne_iff_ne]; exact hx
  go_enter Try.func7, Try.ntmps7
  go_wp2_with fail
  rw [← HW.out]
  refine (HRT.out _ (HF.out W hk0).2.2).mono ?_
  rintro e x1 ⟨rfl, hb1⟩
  have hk1 : Below W.heap.size W x1 := hk0.trans (hb1.mono hk0.size)
  clear hb1 hk0 g0 g1
  obtain ⟨g0, g1, -⟩ := HF.out x1 hk1
  go_wp2_with fail
  refine (HD.out _ (HF.out x1 hk1).2.2).mono ?_
  rintro e x2 ⟨a1, c1, rfl, hA_2, hb2⟩
  have hk2 : Below W.heap.size W x2 := hk1.trans (hb2.mono hk1.size)
  clear hb2 hk1 g0 g1
  obtain ⟨g0, g1, -⟩ := HF.out x2 hk2
  obtain ⟨Y1, hY1⟩ : ∃ Y, Y = x2.alloc (Obj.cells #[.int .i64 n, .slice a1 JA.length c1] 24) := ⟨_, rfl⟩
  have hy : Below x2.heap.size x2 Y1 := by rw [hY1]; exact (Below.refl _ _).alloc (Nat.le_refl _) _
  have hz : Below W.heap.size W Y1 := hk2.trans (hy.mono hk2.size)
  have hQ : Blk Y1 x2.heap.size 24 #[.int .i64 n, .slice a1 JA.length c1] := by rw [hY1]; exact Blk.new _ _ _
  have HBY1 : Hid (Below w.heap.size w Y1) := Lib.hid (HB0.out.trans (hz.mono HB0.out.size))
  have HFY1 : Hid (∀ x, Below Y1.heap.size Y1 x → x.cell? ⟨w.heap.size, 0, none⟩ = some (.int .i64 n) ∧ x.cell? ⟨w.heap.size, 1, none⟩ = some (.slice a L.length cap) ∧ x.cell? ⟨x2.heap.size, 0, none⟩ = some (.int .i64 n) ∧ x.cell? ⟨x2.heap.size, 1, none⟩ = some (.slice a1 JA.length c1) ∧ EsAt x a L ∧ EsAt x a1 JA) := Lib.hid fun x hx => ⟨(HF.out x (hz.trans (hx.mono hz.size))).1, (HF.out x (hz.trans (hx.mono hz.size))).2.1, (hQ.below hx hQ.lt).cell 0, (hQ.below hx hQ.lt).cell 1, (HF.out x (hz.trans (hx.mono hz.size))).2.2, (hA_2.keep hy).keep hx⟩
  clear g0 g1 hk2 hz hQ hy hA_2
  have hk3 : Below Y1.heap.size Y1 Y1 := Below.refl _ _
  have g0 : (x2.alloc (Obj.cells #[.int .i64 n, .slice a1 JA.length c1] 24)).cell? ⟨w.heap.size, 0, none⟩ = some (.int .i64 n) := by rw [← hY1]; exact (HFY1.out _ hk3).1
  have g1 : (x2.alloc (Obj.cells #[.int .i64 n, .slice a1 JA.length c1] 24)).cell? ⟨w.heap.size, 1, none⟩ = some (.slice a L.length cap) := by rw [← hY1]; exact (HFY1.out _ hk3).2.1
  have g2 : (x2.alloc (Obj.cells #[.int .i64 n, .slice a1 JA.length c1] 24)).cell? ⟨x2.heap.size, 0, none⟩ = some (.int .i64 n) := by rw [← hY1]; exact (HFY1.out _ hk3).2.2.1
  have g3 : (x2.alloc (Obj.cells #[.int .i64 n, .slice a1 JA.length c1] 24)).cell? ⟨x2.heap.size, 1, none⟩ = some (.slice a1 JA.length c1) := by rw [← hY1]; exact (HFY1.out _ hk3).2.2.2.1
  have HY1 := Lib.hid hY1
  clear hY1
  go_wp2_with fail
  rw [← HY1.out]
  refine (HC.out _ (HFY1.out Y1 hk3).2.2.2.2.1).mono ?_
  rintro e x4 ⟨a2, c2, rfl, hB_4, hb4⟩
  have hk4 : Below Y1.heap.size Y1 x4 := hk3.trans (hb4.mono hk3.size)
  clear hb4 hk3 g0 g1 g2 g3
  obtain ⟨g0, g1, g2, g3, -⟩ := HFY1.out x4 hk4
  obtain ⟨Y2, hY2⟩ : ∃ Y, Y = x4.alloc (Obj.cells #[.int .i64 (n - 1), .slice a2 JB.length c2] 24) := ⟨_, rfl⟩
  have hy : Below x4.heap.size x4 Y2 := by rw [hY2]; exact (Below.refl _ _).alloc (Nat.le_refl _) _
  have hz : Below Y1.heap.size Y1 Y2 := hk4.trans (hy.mono hk4.size)
  have hQ : Blk Y2 x4.heap.size 24 #[.int .i64 (n - 1), .slice a2 JB.length c2] := by rw [hY2]; exact Blk.new _ _ _
  have HBY2 : Hid (Below w.heap.size w Y2) := Lib.hid (HBY1.out.trans (hz.mono HBY1.out.size))
  have HFY2 : Hid (∀ x, Below Y2.heap.size Y2 x → x.cell? ⟨w.heap.size, 0, none⟩ = some (.int .i64 n) ∧ x.cell? ⟨w.heap.size, 1, none⟩ = some (.slice a L.length cap) ∧ x.cell? ⟨x2.heap.size, 0, none⟩ = some (.int .i64 n) ∧ x.cell? ⟨x2.heap.size, 1, none⟩ = some (.slice a1 JA.length c1) ∧ x.cell? ⟨x4.heap.size, 0, none⟩ = some (.int .i64 (n - 1)) ∧ x.cell? ⟨x4.heap.size, 1, none⟩ = some (.slice a2 JB.length c2) ∧ EsAt x a L ∧ EsAt x a1 JA ∧ EsAt x a2 JB) := Lib.hid fun x hx => ⟨(HFY1.out x (hz.trans (hx.mono hz.size))).1, (HFY1.out x (hz.trans (hx.mono hz.size))).2.1, (HFY1.out x (hz.trans (hx.mono hz.size))).2.2.1, (HFY1.out x (hz.trans (hx.mono hz.size))).2.2.2.1, (hQ.below hx hQ.lt).cell 0, (hQ.below hx hQ.lt).cell 1, (HFY1.out x (hz.trans (hx.mono hz.size))).2.2.2.2.1, (HFY1.out x (hz.trans (hx.mono hz.size))).2.2.2.2.2, (hB_4.keep hy).keep hx⟩
  clear g0 g1 g2 g3 hk4 hz hQ hy hB_4
  have hk5 : Below Y2.heap.size Y2 Y2 := Below.refl _ _
  have g0 : (x4.alloc (Obj.cells #[.int .i64 (n - 1), .slice a2 JB.length c2] 24)).cell? ⟨w.heap.size, 0, none⟩ = some (.int .i64 n) := by rw [← hY2]; exact (HFY2.out _ hk5).1
  have g1 : (x4.alloc (Obj.cells #[.int .i64 (n - 1), .slice a2 JB.length c2] 24)).cell? ⟨w.heap.size, 1, none⟩ = some (.slice a L.length cap) := by rw [← hY2]; exact (HFY2.out _ hk5).2.1
  have g2 : (x4.alloc (Obj.cells #[.int .i64 (n - 1), .slice a2 JB.length c2] 24)).cell? ⟨x2.heap.size, 0, none⟩ = some (.int .i64 n) := by rw [← hY2]; exact (HFY2.out _ hk5).2.2.1
  have g3 : (x4.alloc (Obj.cells #[.int .i64 (n - 1), .slice a2 JB.length c2] 24)).cell? ⟨x2.heap.size, 1, none⟩ = some (.slice a1 JA.length c1) := by rw [← hY2]; exact (HFY2.out _ hk5).2.2.2.1
  have g4 : (x4.alloc (Obj.cells #[.int .i64 (n - 1), .slice a2 JB.length c2] 24)).cell? ⟨x4.heap.size, 0, none⟩ = some (.int .i64 (n - 1)) := by rw [← hY2]; exact (HFY2.out _ hk5).2.2.2.2.1
  have g5 : (x4.alloc (Obj.cells #[.int .i64 (n - 1), .slice a2 JB.length c2] 24)).cell? ⟨x4.heap.size, 1, none⟩ = some (.slice a2 JB.length c2) := by rw [← hY2]; exact (HFY2.out _ hk5).2.2.2.2.2.1
  have HY2 := Lib.hid hY2
  clear hY2
  go_wp2_with fail
  rw [← HY2.out]
  refine (HKA.out a1 c1 _ (HFY2.out Y2 hk5).2.2.2.2.2.2.2.1).mono ?_
  rintro e x6 ⟨rfl, hb6⟩
  have hk6 : Below Y2.heap.size Y2 x6 := hk5.trans (hb6.mono hk5.size)
  clear hb6 hk5 g0 g1 g2 g3 g4 g5
  obtain ⟨g0, g1, g2, g3, g4, g5, -⟩ := HFY2.out x6 hk6
  go_wp2_with fail
  refine (HKB.out a2 c2 _ (HFY2.out x6 hk6).2.2.2.2.2.2.2.2).mono ?_
  rintro e x7 ⟨rfl, hb7⟩
  have hk7 : Below Y2.heap.size Y2 x7 := hk6.trans (hb7.mono hk6.size)
  clear hb7 hk6 g0 g1 g2 g3 g4 g5
  obtain ⟨g0, g1, g2, g3, g4, g5, -⟩ := HFY2.out x7 hk7
  go_wp2_with fail
  refine (HEN.out _ (HFY2.out x7 hk7).2.2.2.2.2.2.1).mono ?_
  rintro e x8 ⟨b3, d3, rfl, hP_8, hb8⟩
  have hk8 : Below Y2.heap.size Y2 x8 := hk7.trans (hb8.mono hk7.size)
  clear hb8 hk7 g0 g1 g2 g3 g4 g5
  obtain ⟨g0, g1, g2, g3, g4, g5, -⟩ := HFY2.out x8 hk8
  obtain ⟨b4, o4, hbb, q9, px, py⟩ := hP_8.two e he
  subst hbb
  rw [HPE.out] at px py
  simp only at px py
  clear hP_8
  obtain ⟨Y3, hY3⟩ : ∃ Y, Y = x8.alloc (Obj.cells #[.int .i64 xa, .int .i64 xb] 25) := ⟨_, rfl⟩
  have hy : Below x8.heap.size x8 Y3 := by rw [hY3]; exact (Below.refl _ _).alloc (Nat.le_refl _) _
  have hz : Below Y2.heap.size Y2 Y3 := hk8.trans (hy.mono hk8.size)
  have hQ : Blk Y3 x8.heap.size 25 #[.int .i64 xa, .int .i64 xb] := by rw [hY3]; exact Blk.new _ _ _
  have HBY3 : Hid (Below w.heap.size w Y3) := Lib.hid (HBY2.out.trans (hz.mono HBY2.out.size))
  have HFY3 : Hid (∀ x, Below Y3.heap.size Y3 x → x.cell? ⟨w.heap.size, 0, none⟩ = some (.int .i64 n) ∧ x.cell? ⟨w.heap.size, 1, none⟩ = some (.slice a L.length cap) ∧ x.cell? ⟨x2.heap.size, 0, none⟩ = some (.int .i64 n) ∧ x.cell? ⟨x2.heap.size, 1, none⟩ = some (.slice a1 JA.length c1) ∧ x.cell? ⟨x4.heap.size, 0, none⟩ = some (.int .i64 (n - 1)) ∧ x.cell? ⟨x4.heap.size, 1, none⟩ = some (.slice a2 JB.length c2) ∧ x.cell? ⟨x8.heap.size, 0, none⟩ = some (.int .i64 xa) ∧ x.cell? ⟨x8.heap.size, 1, none⟩ = some (.int .i64 xb) ∧ EsAt x a L ∧ EsAt x a1 JA ∧ EsAt x a2 JB) := Lib.hid fun x hx => ⟨(HFY2.out x (hz.trans (hx.mono hz.size))).1, (HFY2.out x (hz.trans (hx.mono hz.size))).2.1, (HFY2.out x (hz.trans (hx.mono hz.size))).2.2.1, (HFY2.out x (hz.trans (hx.mono hz.size))).2.2.2.1, (HFY2.out x (hz.trans (hx.mono hz.size))).2.2.2.2.1, (HFY2.out x (hz.trans (hx.mono hz.size))).2.2.2.2.2.1, (hQ.below hx hQ.lt).cell 0, (hQ.below hx hQ.lt).cell 1, (HFY2.out x (hz.trans (hx.mono hz.size))).2.2.2.2.2.2.1, (HFY2.out x (hz.trans (hx.mono hz.size))).2.2.2.2.2.2.2.1, (HFY2.out x (hz.trans (hx.mono hz.size))).2.2.2.2.2.2.2.2⟩
  clear g0 g1 g2 g3 g4 g5 hk8 hz hQ hy
  have hk9 : Below Y3.heap.size Y3 Y3 := Below.refl _ _
  have g0 : (x8.alloc (Obj.cells #[.int .i64 xa, .int .i64 xb] 25)).cell? ⟨w.heap.size, 0, none⟩ = some (.int .i64 n) := by rw [← hY3]; exact (HFY3.out _ hk9).1
  have g1 : (x8.alloc (Obj.cells #[.int .i64 xa, .int .i64 xb] 25)).cell? ⟨w.heap.size, 1, none⟩ = some (.slice a L.length cap) := by rw [← hY3]; exact (HFY3.out _ hk9).2.1
  have g2 : (x8.alloc (Obj.cells #[.int .i64 xa, .int .i64 xb] 25)).cell? ⟨x2.heap.size, 0, none⟩ = some (.int .i64 n) := by rw [← hY3]; exact (HFY3.out _ hk9).2.2.1
  have g3 : (x8.alloc (Obj.cells #[.int .i64 xa, .int .i64 xb] 25)).cell? ⟨x2.heap.size, 1, none⟩ = some (.slice a1 JA.length c1) := by rw [← hY3]; exact (HFY3.out _ hk9).2.2.2.1
  have g4 : (x8.alloc (Obj.cells #[.int .i64 xa, .int .i64 xb] 25)).cell? ⟨x4.heap.size, 0, none⟩ = some (.int .i64 (n - 1)) := by rw [← hY3]; exact (HFY3.out _ hk9).2.2.2.2.1
  have g5 : (x8.alloc (Obj.cells #[.int .i64 xa, .int .i64 xb] 25)).cell? ⟨x4.heap.size, 1, none⟩ = some (.slice a2 JB.length c2) := by rw [← hY3]; exact (HFY3.out _ hk9).2.2.2.2.2.1
  have g6 : (x8.alloc (Obj.cells #[.int .i64 xa, .int .i64 xb] 25)).cell? ⟨x8.heap.size, 0, none⟩ = some (.int .i64 xa) := by rw [← hY3]; exact (HFY3.out _ hk9).2.2.2.2.2.2.1
  have g7 : (x8.alloc (Obj.cells #[.int .i64 xa, .int .i64 xb] 25)).cell? ⟨x8.heap.size, 1, none⟩ = some (.int .i64 xb) := by rw [← hY3]; exact (HFY3.out _ hk9).2.2.2.2.2.2.2.1
  have HY3 := Lib.hid hY3
  clear hY3
  have q10 := True.intro
  go_wp2_with fail
  rw [← HY3.out]
  try clear px py q9
  have hj0 : Below Y3.heap.size Y3 Y3.drew := hk9.drew
  refine wp_region_late (S := fun u => Below Y3.heap.size Y3 u) (X := []) (by kernel_rfl) ?_
  refine wpAnyL_takeD (i := 0) 56 (.agg #[.int .i64 n, .slice a L.length cap]) rfl rfl (by kernel_rfl) (by kernel_rfl) (by kernel_rfl) (by kernel_rfl) (by kernel_rfl) (fun _ _ _ h => h) hj0 (Or.inl ⟨by rfl, fun u hu => ?_⟩) ?_
  · obtain ⟨t0, t1, t2, t3, t4, t5, t6, t7, -⟩ := HFY3.out u hu
    go_simp
  try simp only [Act.put, List.setIfInBounds_toArray, List.set_cons_zero, List.set_cons_succ]
  refine wpAnyL_takeD (i := 2) 58 (.agg #[.int .i64 n, .slice a L.length cap]) rfl rfl (by kernel_rfl) (by kernel_rfl) (by kernel_rfl) (by kernel_rfl) (by kernel_rfl) (fun _ _ _ h => h) hj0 (Or.inl ⟨by rfl, fun u hu => ?_⟩) ?_
  · obtain ⟨t0, t1, t2, t3, t4, t5, t6, t7, -⟩ := HFY3.out u hu
    go_simp
  try simp only [Act.put, List.setIfInBounds_toArray, List.set_cons_zero, List.set_cons_succ]
  refine wpAnyL_one (i := 1) (by kernel_rfl) rfl (fun K hK => ?_)
  go_simp
  go_at_call 35
  refine (HSZ.out a cap _ (HFY3.out Y3.drew hj0).2.2.2.2.2.2.2.2.1).mono ?_
  rintro e y1 ⟨rfl, hb1⟩
  have hj1 := hj0.trans (hb1.mono hj0.size)
  show K _ _
  refine hK.out _ _ (fun _ _ => hj1) ?_
  clear hK K hb1
  try simp only [Act.put, List.setIfInBounds_toArray, List.set_cons_zero, List.set_cons_succ]
  refine wpAnyL_one (i := 3) (by kernel_rfl) rfl (fun K hK => ?_)
  go_simp
  go_at_call 36
  refine (HGN.out a cap _ (HFY3.out y1 hj1).2.2.2.2.2.2.2.2.1).mono ?_
  rintro e y2 ⟨rfl, hb2⟩
  have hj2 := hj1.trans (hb2.mono hj1.size)
  show K _ _
  refine hK.out _ _ (fun _ _ => hj2) ?_
  clear hK K hb2
  try simp only [Act.put, List.setIfInBounds_toArray, List.set_cons_zero, List.set_cons_succ]
  refine wpAnyL_pureD (i := 4) 12 (.int .i64 S) rfl rfl (by kernel_rfl) (by kernel_rfl) (by kernel_rfl) (fun _ _ _ h => h) (Or.inl ⟨by rfl, fun u _ => ?_⟩) ?_
  · go_simp
  try simp only [Act.put, List.setIfInBounds_toArray, List.set_cons_zero, List.set_cons_succ]
  refine wpAnyL_pureD (i := 5) 13 (.int .i64 Gm) rfl rfl (by kernel_rfl) (by kernel_rfl) (by kernel_rfl) (fun _ _ _ h => h) (Or.inl ⟨by rfl, fun u _ => ?_⟩) ?_
  · go_simp
  try simp only [Act.put, List.setIfInBounds_toArray, List.set_cons_zero, List.set_cons_succ]
  refine wpAnyL_done (by kernel_rfl) ?_ _
  try simp only [Act.put, List.setIfInBounds_toArray, List.set_cons_zero, List.set_cons_succ]
  have hend := hj2
  have hkL : Below Y3.heap.size Y3 y2 := hend
  clear hend hj0 g0 g1 g2 g3 g4 g5 g6 g7
  obtain ⟨x93, hx93⟩ : ∃ x, x = y2 := ⟨_, rfl⟩
  have hk93 := hkL
  rw [← hx93] at hk93 ⊢
  clear hx93 hkL
  obtain ⟨g0, g1, g2, g3, g4, g5, g6, g7, -⟩ := HFY3.out x93 hk93
  go_wp2_with fail
  refine (HRA.out a1 c1 _ (HFY3.out x93 hk93).2.2.2.2.2.2.2.2.2.1).mono ?_
  rintro e x94 ⟨rfl, hb94⟩
  have hk94 : Below Y3.heap.size Y3 x94 := hk93.trans (hb94.mono hk93.size)
  clear hb94 hk93 g0 g1 g2 g3 g4 g5 g6 g7
  obtain ⟨g0, g1, g2, g3, g4, g5, g6, g7, -⟩ := HFY3.out x94 hk94
  go_wp2_with fail
  refine (HRB.out a2 c2 _ (HFY3.out x94 hk94).2.2.2.2.2.2.2.2.2.2).mono ?_
  rintro e x95 ⟨rfl, hb95⟩
  have hk95 : Below Y3.heap.size Y3 x95 := hk94.trans (hb95.mono hk94.size)
  clear hb95 hk94 g0 g1 g2 g3 g4 g5 g6 g7
  obtain ⟨g0, g1, g2, g3, g4, g5, g6, g7, -⟩ := HFY3.out x95 hk95
  go_wp2_with fail
  refine (HSA.out a1 c1 _ (HFY3.out x95 hk95).2.2.2.2.2.2.2.2.2.1).mono ?_
  rintro e x96 ⟨rfl, hb96⟩
  have hk96 : Below Y3.heap.size Y3 x96 := hk95.trans (hb96.mono hk95.size)
  clear hb96 hk95 g0 g1 g2 g3 g4 g5 g6 g7
  obtain ⟨g0, g1, g2, g3, g4, g5, g6, g7, -⟩ := HFY3.out x96 hk96
  go_wp2_with fail
  refine (HSB.out a2 c2 _ (HFY3.out x96 hk96).2.2.2.2.2.2.2.2.2.2).mono ?_
  rintro e x97 ⟨rfl, hb97⟩
  have hk97 : Below Y3.heap.size Y3 x97 := hk96.trans (hb97.mono hk96.size)
  clear hb97 hk96 g0 g1 g2 g3 g4 g5 g6 g7
  obtain ⟨g0, g1, g2, g3, g4, g5, g6, g7, -⟩ := HFY3.out x97 hk97
  go_wp2_with fail
  refine (HGB.out a2 c2 _ (HFY3.out x97 hk97).2.2.2.2.2.2.2.2.2.2).mono ?_
  rintro e x98 ⟨rfl, hb98⟩
  have hk98 : Below Y3.heap.size Y3 x98 := hk97.trans (hb98.mono hk97.size)
  clear hb98 hk97 g0 g1 g2 g3 g4 g5 g6 g7
  obtain ⟨g0, g1, g2, g3, g4, g5, g6, g7, -⟩ := HFY3.out x98 hk98
  go_wp2_with fail
  refine (HSU.out _ (HFY3.out x98 hk98).2.2.2.2.2.2.2.2.1).mono ?_
  rintro e x99 ⟨a5, c5, rfl, hb99⟩
  have hk99 : Below Y3.heap.size Y3 x99 := hk98.trans (hb99.mono hk98.size)
  clear hb99 hk98 g0 g1 g2 g3 g4 g5 g6 g7
  obtain ⟨g0, g1, g2, g3, g4, g5, g6, g7, -⟩ := HFY3.out x99 hk99
  obtain ⟨Y4, hY4⟩ : ∃ Y, Y = x99.alloc (Obj.cells #[.int .i64 0, .slice a5 0 c5] 24) := ⟨_, rfl⟩
  have hy : Below x99.heap.size x99 Y4 := by rw [hY4]; exact (Below.refl _ _).alloc (Nat.le_refl _) _
  have hz : Below Y3.heap.size Y3 Y4 := hk99.trans (hy.mono hk99.size)
  have hQ : Blk Y4 x99.heap.size 24 #[.int .i64 0, .slice a5 0 c5] := by rw [hY4]; exact Blk.new _ _ _
  have HBY4 : Hid (Below w.heap.size w Y4) := Lib.hid (HBY3.out.trans (hz.mono HBY3.out.size))
  have HFY4 : Hid (∀ x, Below Y4.heap.size Y4 x → x.cell? ⟨w.heap.size, 0, none⟩ = some (.int .i64 n) ∧ x.cell? ⟨w.heap.size, 1, none⟩ = some (.slice a L.length cap) ∧ x.cell? ⟨x2.heap.size, 0, none⟩ = some (.int .i64 n) ∧ x.cell? ⟨x2.heap.size, 1, none⟩ = some (.slice a1 JA.length c1) ∧ x.cell? ⟨x4.heap.size, 0, none⟩ = some (.int .i64 (n - 1)) ∧ x.cell? ⟨x4.heap.size, 1, none⟩ = some (.slice a2 JB.length c2) ∧ x.cell? ⟨x8.heap.size, 0, none⟩ = some (.int .i64 xa) ∧ x.cell? ⟨x8.heap.size, 1, none⟩ = some (.int .i64 xb) ∧ x.cell? ⟨x99.heap.size, 0, none⟩ = some (.int .i64 0) ∧ x.cell? ⟨x99.heap.size, 1, none⟩ = some (.slice a5 0 c5) ∧ EsAt x a L ∧ EsAt x a1 JA ∧ EsAt x a2 JB) := Lib.hid fun x hx => ⟨(HFY3.out x (hz.trans (hx.mono hz.size))).1, (HFY3.out x (hz.trans (hx.mono hz.size))).2.1, (HFY3.out x (hz.trans (hx.mono hz.size))).2.2.1, (HFY3.out x (hz.trans (hx.mono hz.size))).2.2.2.1, (HFY3.out x (hz.trans (hx.mono hz.size))).2.2.2.2.1, (HFY3.out x (hz.trans (hx.mono hz.size))).2.2.2.2.2.1, (HFY3.out x (hz.trans (hx.mono hz.size))).2.2.2.2.2.2.1, (HFY3.out x (hz.trans (hx.mono hz.size))).2.2.2.2.2.2.2.1, (hQ.below hx hQ.lt).cell 0, (hQ.below hx hQ.lt).cell 1, (HFY3.out x (hz.trans (hx.mono hz.size))).2.2.2.2.2.2.2.2.1, (HFY3.out x (hz.trans (hx.mono hz.size))).2.2.2.2.2.2.2.2.2.1, (HFY3.out x (hz.trans (hx.mono hz.size))).2.2.2.2.2.2.2.2.2.2⟩
  clear g0 g1 g2 g3 g4 g5 g6 g7 hk99 hz hQ hy
  have hk100 : Below Y4.heap.size Y4 Y4 := Below.refl _ _
  have g0 : (x99.alloc (Obj.cells #[.int .i64 0, .slice a5 0 c5] 24)).cell? ⟨w.heap.size, 0, none⟩ = some (.int .i64 n) := by rw [← hY4]; exact (HFY4.out _ hk100).1
  have g1 : (x99.alloc (Obj.cells #[.int .i64 0, .slice a5 0 c5] 24)).cell? ⟨w.heap.size, 1, none⟩ = some (.slice a L.length cap) := by rw [← hY4]; exact (HFY4.out _ hk100).2.1
  have g2 : (x99.alloc (Obj.cells #[.int .i64 0, .slice a5 0 c5] 24)).cell? ⟨x2.heap.size, 0, none⟩ = some (.int .i64 n) := by rw [← hY4]; exact (HFY4.out _ hk100).2.2.1
  have g3 : (x99.alloc (Obj.cells #[.int .i64 0, .slice a5 0 c5] 24)).cell? ⟨x2.heap.size, 1, none⟩ = some (.slice a1 JA.length c1) := by rw [← hY4]; exact (HFY4.out _ hk100).2.2.2.1
  have g4 : (x99.alloc (Obj.cells #[.int .i64 0, .slice a5 0 c5] 24)).cell? ⟨x4.heap.size, 0, none⟩ = some (.int .i64 (n - 1)) := by rw [← hY4]; exact (HFY4.out _ hk100).2.2.2.2.1
  have g5 : (x99.alloc (Obj.cells #[.int .i64 0, .slice a5 0 c5] 24)).cell? ⟨x4.heap.size, 1, none⟩ = some (.slice a2 JB.length c2) := by rw [← hY4]; exact (HFY4.out _ hk100).2.2.2.2.2.1
  have g6 : (x99.alloc (Obj.cells #[.int .i64 0, .slice a5 0 c5] 24)).cell? ⟨x8.heap.size, 0, none⟩ = some (.int .i64 xa) := by rw [← hY4]; exact (HFY4.out _ hk100).2.2.2.2.2.2.1
  have g7 : (x99.alloc (Obj.cells #[.int .i64 0, .slice a5 0 c5] 24)).cell? ⟨x8.heap.size, 1, none⟩ = some (.int .i64 xb) := by rw [← hY4]; exact (HFY4.out _ hk100).2.2.2.2.2.2.2.1
  have g8 : (x99.alloc (Obj.cells #[.int .i64 0, .slice a5 0 c5] 24)).cell? ⟨x99.heap.size, 0, none⟩ = some (.int .i64 0) := by rw [← hY4]; exact (HFY4.out _ hk100).2.2.2.2.2.2.2.2.1
  have g9 : (x99.alloc (Obj.cells #[.int .i64 0, .slice a5 0 c5] 24)).cell? ⟨x99.heap.size, 1, none⟩ = some (.slice a5 0 c5) := by rw [← hY4]; exact (HFY4.out _ hk100).2.2.2.2.2.2.2.2.2.1
  have HY4 := Lib.hid hY4
  clear hY4
  go_wp2_with fail
  rw [← HY4.out]
  refine (HA _).mono ?_
  rintro e x101 ⟨rfl, hb101⟩
  have hk101 : Below Y4.heap.size Y4 x101 := hk100.trans (hb101.mono hk100.size)
  clear hb101 hk100 g0 g1 g2 g3 g4 g5 g6 g7 g8 g9
  obtain ⟨g0, g1, g2, g3, g4, g5, g6, g7, g8, g9, -⟩ := HFY4.out x101 hk101
  have HEND := Lib.hid (HBY4.out.trans (hk101.mono HBY4.out.size))
  clear hk101 g0 g1 g2 g3 g4 g5 g6 g7 g8 g9
  go_wp2
  go_ret
  exact ⟨rfl, HEND.out⟩
end Go.Proofs.Ytndjjafpdiehdaa
