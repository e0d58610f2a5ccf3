/- FamilyCounts: its walk. -/
import Derived.Test.YtgfbihdnjidodaaZPl
namespace Go.Proofs.Ytgfbihdnjidodaa
open Go.RowKit Go.Shelf Go.Proofs.Gr
attribute [local go_sem] Oper.semAt_some

set_option maxHeartbeats 12800000 in
set_option maxRecDepth 100000 in
theorem counts_long (z : Int) (a : Option Addr) (cap : Nat) (L : List Int) (hl : 40 < L.length) (w : World) : Calls Try.prog 4 #[.int .i64 z, .slice a L.length cap] w (fun e x => e = .returned (.bool true) ∧ Below w.heap.size w x) := by
  have HA := Lib.hid (fun w => awakeF_any w)
  have hl1 : (40 : Int) < (L.length : Int) := by omega
  go_enter Try.func4, Try.ntmps4
  go_wp2_with fail
  refine (HA.out _).mono ?_
  rintro e x1 ⟨rfl, hb1⟩
  have HB1 := Lib.hid hb1
  clear hb1
  go_wp2
  go_ret
  exact ⟨rfl, HB1.out⟩
set_option maxHeartbeats 12800000 in
set_option maxRecDepth 100000 in
theorem counts_wrong (z : Int) (k : Nat) (hk : k ≠ 0) (a : Option Addr) (cap : Nat) (L : List Int) (hl : ¬ 40 < L.length) (hG : ∀ w, IsAt w a L → Calls Try.prog 15 #[.int .i64 z, .slice a L.length cap] w (fun e x => e = .returned (.int .i64 (k : Nat)) ∧ Below w.heap.size w x)) (w : World) (h : IsAt w a L) : Calls Try.prog 4 #[.int .i64 z, .slice a L.length cap] w (fun e x => e = .returned (.bool true) ∧ Below w.heap.size w x) := by
  have HA := Lib.hid (fun w => awakeF_any w)
  have hl1 : ¬ (40 : Int) < (L.length : Int) := by omega
  have q0 : (((k : Nat) : Int) != 0) = true := by rw [bne_iff_ne]; omega
  have HG := Lib.hid (hG w h)
  clear hG h hk
  go_enter Try.func4, Try.ntmps4
  go_wp2_with fail
  refine HG.out.mono ?_
  rintro e x1 ⟨rfl, hb1⟩
  have HB1 := Lib.hid hb1
  clear hb1
  go_wp2_with fail
  refine (HA.out _).mono ?_
  rintro e x2 ⟨rfl, hb2⟩
  have HB2 := Lib.hid (HB1.out.trans (hb2.mono HB1.out.size))
  clear hb2
  go_wp2
  go_ret
  exact ⟨rfl, HB2.out⟩
set_option maxHeartbeats 12800000 in
set_option maxRecDepth 100000 in
theorem counts_big (z : Int) (a : Option Addr) (cap : Nat) (L : List Int) (hl : ¬ 40 < L.length) (N : Nat) (J : List E) (S : Int) (hS : 10 < S) (HG : Hid (∀ w, IsAt w a L → Calls Try.prog 15 #[.int .i64 z, .slice a L.length cap] w (fun e x => e = .returned (.int .i64 0) ∧ Below w.heap.size w x))) (HM : Hid (∀ w, IsAt w a L → Calls Try.prog 12 #[.int .i64 z, .slice a L.length cap] w (fun e x => ∃ b c, e = .returned (.tuple #[.agg #[.int .i64 (N : Nat), .slice b J.length c], .int .i64 0]) ∧ EsAt x b J ∧ Below w.heap.size w x))) (HCK : Hid (∀ b c w, EsAt w b J → Calls Try.prog 16 #[.agg #[.int .i64 (N : Nat), .slice b J.length c]] w (fun e x => e = .returned (.int .i64 0) ∧ Below w.heap.size w x))) (HSZ : Hid (∀ b c w, EsAt w b J → Calls Try.prog 17 #[.agg #[.int .i64 (N : Nat), .slice b J.length c]] w (fun e x => e = .returned (.int .i64 S) ∧ Below w.heap.size w x))) (w : World) (h : IsAt w a L) : Calls Try.prog 4 #[.int .i64 z, .slice a L.length cap] w (fun e x => e = .returned (.bool true) ∧ Below w.heap.size w x) := by
  have HA := Lib.hid (fun w => awakeF_any w)
  have hl1 : ¬ (40 : Int) < (L.length : Int) := by omega
  have HI := Lib.hid h
  clear h
  go_enter Try.func4, Try.ntmps4
  go_wp2_with fail
  refine (HG.out _ HI.out).mono ?_
  rintro e x1 ⟨rfl, hb1⟩
  have HB1 := Lib.hid hb1
  have HI1 := Lib.hid (HI.out.keep hb1)
  clear hb1
  go_wp2_with fail
  refine (HM.out _ HI1.out).mono ?_
  rintro e x2 ⟨b2, c2', rfl, he2, hb2⟩
  obtain ⟨Y2, hY2⟩ : ∃ Y, Y = x2.alloc (Obj.cells #[.int .i64 (N : Nat), .slice b2 J.length c2'] 31) := ⟨_, rfl⟩
  have hy2 : Below x2.heap.size x2 Y2 := by rw [hY2]; exact (Below.refl _ _).alloc (Nat.le_refl _) _
  have hb22 : Below x1.heap.size x1 Y2 := hb2.trans (hy2.mono hb2.size)
  have HB2 := Lib.hid (HB1.out.trans (hb22.mono HB1.out.size))
  have HX2 : Hid (BoxAt Y2 x2.heap.size (N : Nat) b2 J.length c2') := Lib.hid (by rw [hY2]; exact Blk.new _ _ _)
  have HE2 := Lib.hid (he2.keep hy2)
  have HI2 := Lib.hid (HI1.out.keep hb22)
  have HY2 := Lib.hid hY2
  have g0 : Y2.cell? ⟨x2.heap.size, 0, none⟩ = some (.int .i64 (N : Nat)) := HX2.out.cell 0
  have g1 : Y2.cell? ⟨x2.heap.size, 1, none⟩ = some (.slice b2 J.length c2') := HX2.out.cell 1
  clear hY2 hy2 hb2 hb22 he2
  go_wp2_with fail
  rw [← HY2.out]
  go_wp2_with fail
  refine (HCK.out _ _ _ HE2.out).mono ?_
  rintro e x3 ⟨rfl, hb3⟩
  have HB3 := Lib.hid (HB2.out.trans (hb3.mono HB2.out.size))
  have HX3 := Lib.hid (HX2.out.keep hb3)
  have HE3 := Lib.hid (HE2.out.keep hb3)
  have HI3 := Lib.hid (HI2.out.keep hb3)
  clear hb3 g0 g1
  have g0 : x3.cell? ⟨x2.heap.size, 0, none⟩ = some (.int .i64 (N : Nat)) := HX3.out.cell 0
  have g1 : x3.cell? ⟨x2.heap.size, 1, none⟩ = some (.slice b2 J.length c2') := HX3.out.cell 1
  go_wp2_with fail
  refine (HSZ.out _ _ _ HE3.out).mono ?_
  rintro e x4 ⟨rfl, hb4⟩
  have HB4 := Lib.hid (HB3.out.trans (hb4.mono HB3.out.size))
  have HX4 := Lib.hid (HX3.out.keep hb4)
  have HE4 := Lib.hid (HE3.out.keep hb4)
  have HI4 := Lib.hid (HI3.out.keep hb4)
  clear hb4 g0 g1
  have g0 : x4.cell? ⟨x2.heap.size, 0, none⟩ = some (.int .i64 (N : Nat)) := HX4.out.cell 0
  have g1 : x4.cell? ⟨x2.heap.size, 1, none⟩ = some (.slice b2 J.length c2') := HX4.out.cell 1
  clear g0 g1
  go_wp2_with fail
  refine (HA.out _).mono ?_
  rintro e x9 ⟨rfl, hb9⟩
  have HB9 := Lib.hid (HB4.out.trans (hb9.mono HB4.out.size))
  clear hb9
  go_wp2
  go_ret
  exact ⟨rfl, HB9.out⟩
set_option maxHeartbeats 12800000 in
set_option maxRecDepth 100000 in
theorem counts_wide (z : Int) (a : Option Addr) (cap : Nat) (L : List Int) (hl : ¬ 40 < L.length) (N : Nat) (J : List E) (S : Int) (hS : ¬ 10 < S) (hN : 7 < N) (HG : Hid (∀ w, IsAt w a L → Calls Try.prog 15 #[.int .i64 z, .slice a L.length cap] w (fun e x => e = .returned (.int .i64 0) ∧ Below w.heap.size w x))) (HM : Hid (∀ w, IsAt w a L → Calls Try.prog 12 #[.int .i64 z, .slice a L.length cap] w (fun e x => ∃ b c, e = .returned (.tuple #[.agg #[.int .i64 (N : Nat), .slice b J.length c], .int .i64 0]) ∧ EsAt x b J ∧ Below w.heap.size w x))) (HCK : Hid (∀ b c w, EsAt w b J → Calls Try.prog 16 #[.agg #[.int .i64 (N : Nat), .slice b J.length c]] w (fun e x => e = .returned (.int .i64 0) ∧ Below w.heap.size w x))) (HSZ : Hid (∀ b c w, EsAt w b J → Calls Try.prog 17 #[.agg #[.int .i64 (N : Nat), .slice b J.length c]] w (fun e x => e = .returned (.int .i64 S) ∧ Below w.heap.size w x))) (w : World) (h : IsAt w a L) : Calls Try.prog 4 #[.int .i64 z, .slice a L.length cap] w (fun e x => e = .returned (.bool true) ∧ Below w.heap.size w x) := by
  have n1 : (7 : Int) < (N : Int) := by omega
  have HA := Lib.hid (fun w => awakeF_any w)
  have hl1 : ¬ (40 : Int) < (L.length : Int) := by omega
  have HI := Lib.hid h
  clear h
  go_enter Try.func4, Try.ntmps4
  go_wp2_with fail
  refine (HG.out _ HI.out).mono ?_
  rintro e x1 ⟨rfl, hb1⟩
  have HB1 := Lib.hid hb1
  have HI1 := Lib.hid (HI.out.keep hb1)
  clear hb1
  go_wp2_with fail
  refine (HM.out _ HI1.out).mono ?_
  rintro e x2 ⟨b2, c2', rfl, he2, hb2⟩
  obtain ⟨Y2, hY2⟩ : ∃ Y, Y = x2.alloc (Obj.cells #[.int .i64 (N : Nat), .slice b2 J.length c2'] 31) := ⟨_, rfl⟩
  have hy2 : Below x2.heap.size x2 Y2 := by rw [hY2]; exact (Below.refl _ _).alloc (Nat.le_refl _) _
  have hb22 : Below x1.heap.size x1 Y2 := hb2.trans (hy2.mono hb2.size)
  have HB2 := Lib.hid (HB1.out.trans (hb22.mono HB1.out.size))
  have HX2 : Hid (BoxAt Y2 x2.heap.size (N : Nat) b2 J.length c2') := Lib.hid (by rw [hY2]; exact Blk.new _ _ _)
  have HE2 := Lib.hid (he2.keep hy2)
  have HI2 := Lib.hid (HI1.out.keep hb22)
  have HY2 := Lib.hid hY2
  have g0 : Y2.cell? ⟨x2.heap.size, 0, none⟩ = some (.int .i64 (N : Nat)) := HX2.out.cell 0
  have g1 : Y2.cell? ⟨x2.heap.size, 1, none⟩ = some (.slice b2 J.length c2') := HX2.out.cell 1
  clear hY2 hy2 hb2 hb22 he2
  go_wp2_with fail
  rw [← HY2.out]
  go_wp2_with fail
  refine (HCK.out _ _ _ HE2.out).mono ?_
  rintro e x3 ⟨rfl, hb3⟩
  have HB3 := Lib.hid (HB2.out.trans (hb3.mono HB2.out.size))
  have HX3 := Lib.hid (HX2.out.keep hb3)
  have HE3 := Lib.hid (HE2.out.keep hb3)
  have HI3 := Lib.hid (HI2.out.keep hb3)
  clear hb3 g0 g1
  have g0 : x3.cell? ⟨x2.heap.size, 0, none⟩ = some (.int .i64 (N : Nat)) := HX3.out.cell 0
  have g1 : x3.cell? ⟨x2.heap.size, 1, none⟩ = some (.slice b2 J.length c2') := HX3.out.cell 1
  go_wp2_with fail
  refine (HSZ.out _ _ _ HE3.out).mono ?_
  rintro e x4 ⟨rfl, hb4⟩
  have HB4 := Lib.hid (HB3.out.trans (hb4.mono HB3.out.size))
  have HX4 := Lib.hid (HX3.out.keep hb4)
  have HE4 := Lib.hid (HE3.out.keep hb4)
  have HI4 := Lib.hid (HI3.out.keep hb4)
  clear hb4 g0 g1
  have g0 : x4.cell? ⟨x2.heap.size, 0, none⟩ = some (.int .i64 (N : Nat)) := HX4.out.cell 0
  have g1 : x4.cell? ⟨x2.heap.size, 1, none⟩ = some (.slice b2 J.length c2') := HX4.out.cell 1
  go_wp2_with fail
  refine (HA.out _).mono ?_
  rintro e x9 ⟨rfl, hb9⟩
  have HB9 := Lib.hid (HB4.out.trans (hb9.mono HB4.out.size))
  clear hb9
  go_wp2
  go_ret
  exact ⟨rfl, HB9.out⟩
set_option maxHeartbeats 12800000 in
set_option maxRecDepth 100000 in
theorem counts_grid (z : Int) (a : Option Addr) (cap : Nat) (L : List Int) (hl : ¬ 40 < L.length) (N : Nat) (J : List E) (S : Int) (p t : Int) (hS : ¬ 10 < S) (hN : ¬ 7 < N) (hz : z = 7) (ht : t = 15) (HG : Hid (∀ w, IsAt w a L → Calls Try.prog 15 #[.int .i64 z, .slice a L.length cap] w (fun e x => e = .returned (.int .i64 0) ∧ Below w.heap.size w x))) (HM : Hid (∀ w, IsAt w a L → Calls Try.prog 12 #[.int .i64 z, .slice a L.length cap] w (fun e x => ∃ b c, e = .returned (.tuple #[.agg #[.int .i64 (N : Nat), .slice b J.length c], .int .i64 0]) ∧ EsAt x b J ∧ Below w.heap.size w x))) (HCK : Hid (∀ b c w, EsAt w b J → Calls Try.prog 16 #[.agg #[.int .i64 (N : Nat), .slice b J.length c]] w (fun e x => e = .returned (.int .i64 0) ∧ Below w.heap.size w x))) (HSZ : Hid (∀ b c w, EsAt w b J → Calls Try.prog 17 #[.agg #[.int .i64 (N : Nat), .slice b J.length c]] w (fun e x => e = .returned (.int .i64 S) ∧ Below w.heap.size w x))) (HTR : Hid (∀ w, IsAt w a L → Calls Try.prog 18 #[.int .i64 z, .slice a L.length cap] w (fun e x => e = .returned (.tuple #[.int .i64 p, .int .i64 t]) ∧ Below w.heap.size w x))) (w : World) (h : IsAt w a L) : Calls Try.prog 4 #[.int .i64 z, .slice a L.length cap] w (fun e x => e = .returned (.bool true) ∧ Below w.heap.size w x) := by
  subst hz ht
  have n1 : ¬ (7 : Int) < (N : Int) := by omega
  have HA := Lib.hid (fun w => awakeF_any w)
  have hl1 : ¬ (40 : Int) < (L.length : Int) := by omega
  have HI := Lib.hid h
  clear h
  go_enter Try.func4, Try.ntmps4
  go_wp2_with fail
  refine (HG.out _ HI.out).mono ?_
  rintro e x1 ⟨rfl, hb1⟩
  have HB1 := Lib.hid hb1
  have HI1 := Lib.hid (HI.out.keep hb1)
  clear hb1
  go_wp2_with fail
  refine (HM.out _ HI1.out).mono ?_
  rintro e x2 ⟨b2, c2', rfl, he2, hb2⟩
  obtain ⟨Y2, hY2⟩ : ∃ Y, Y = x2.alloc (Obj.cells #[.int .i64 (N : Nat), .slice b2 J.length c2'] 31) := ⟨_, rfl⟩
  have hy2 : Below x2.heap.size x2 Y2 := by rw [hY2]; exact (Below.refl _ _).alloc (Nat.le_refl _) _
  have hb22 : Below x1.heap.size x1 Y2 := hb2.trans (hy2.mono hb2.size)
  have HB2 := Lib.hid (HB1.out.trans (hb22.mono HB1.out.size))
  have HX2 : Hid (BoxAt Y2 x2.heap.size (N : Nat) b2 J.length c2') := Lib.hid (by rw [hY2]; exact Blk.new _ _ _)
  have HE2 := Lib.hid (he2.keep hy2)
  have HI2 := Lib.hid (HI1.out.keep hb22)
  have HY2 := Lib.hid hY2
  have g0 : Y2.cell? ⟨x2.heap.size, 0, none⟩ = some (.int .i64 (N : Nat)) := HX2.out.cell 0
  have g1 : Y2.cell? ⟨x2.heap.size, 1, none⟩ = some (.slice b2 J.length c2') := HX2.out.cell 1
  clear hY2 hy2 hb2 hb22 he2
  go_wp2_with fail
  rw [← HY2.out]
  go_wp2_with fail
  refine (HCK.out _ _ _ HE2.out).mono ?_
  rintro e x3 ⟨rfl, hb3⟩
  have HB3 := Lib.hid (HB2.out.trans (hb3.mono HB2.out.size))
  have HX3 := Lib.hid (HX2.out.keep hb3)
  have HE3 := Lib.hid (HE2.out.keep hb3)
  have HI3 := Lib.hid (HI2.out.keep hb3)
  clear hb3 g0 g1
  have g0 : x3.cell? ⟨x2.heap.size, 0, none⟩ = some (.int .i64 (N : Nat)) := HX3.out.cell 0
  have g1 : x3.cell? ⟨x2.heap.size, 1, none⟩ = some (.slice b2 J.length c2') := HX3.out.cell 1
  go_wp2_with fail
  refine (HSZ.out _ _ _ HE3.out).mono ?_
  rintro e x4 ⟨rfl, hb4⟩
  have HB4 := Lib.hid (HB3.out.trans (hb4.mono HB3.out.size))
  have HX4 := Lib.hid (HX3.out.keep hb4)
  have HE4 := Lib.hid (HE3.out.keep hb4)
  have HI4 := Lib.hid (HI3.out.keep hb4)
  clear hb4 g0 g1
  have g0 : x4.cell? ⟨x2.heap.size, 0, none⟩ = some (.int .i64 (N : Nat)) := HX4.out.cell 0
  have g1 : x4.cell? ⟨x2.heap.size, 1, none⟩ = some (.slice b2 J.length c2') := HX4.out.cell 1
  go_wp2_with fail
  refine (HTR.out _ HI4.out).mono ?_
  rintro e x5 ⟨rfl, hb5⟩
  have HB5 := Lib.hid (HB4.out.trans (hb5.mono HB4.out.size))
  have HX5 := Lib.hid (HX4.out.keep hb5)
  have HE5 := Lib.hid (HE4.out.keep hb5)
  clear hb5 g0 g1
  go_wp2_with fail
  refine (HA.out _).mono ?_
  rintro e x9 ⟨rfl, hb9⟩
  have HB9 := Lib.hid (HB5.out.trans (hb9.mono HB5.out.size))
  clear hb9
  go_wp2
  go_ret
  exact ⟨rfl, HB9.out⟩
set_option maxHeartbeats 12800000 in
set_option maxRecDepth 100000 in
theorem counts_ok (z : Int) (a : Option Addr) (cap : Nat) (L : List Int) (hl : ¬ 40 < L.length) (N : Nat) (J : List E) (S : Int) (p t : Int) (hS : ¬ 10 < S) (hN : ¬ 7 < N) (hz : ¬ z = 7) (ht : t = 0) (HG : Hid (∀ w, IsAt w a L → Calls Try.prog 15 #[.int .i64 z, .slice a L.length cap] w (fun e x => e = .returned (.int .i64 0) ∧ Below w.heap.size w x))) (HM : Hid (∀ w, IsAt w a L → Calls Try.prog 12 #[.int .i64 z, .slice a L.length cap] w (fun e x => ∃ b c, e = .returned (.tuple #[.agg #[.int .i64 (N : Nat), .slice b J.length c], .int .i64 0]) ∧ EsAt x b J ∧ Below w.heap.size w x))) (HCK : Hid (∀ b c w, EsAt w b J → Calls Try.prog 16 #[.agg #[.int .i64 (N : Nat), .slice b J.length c]] w (fun e x => e = .returned (.int .i64 0) ∧ Below w.heap.size w x))) (HSZ : Hid (∀ b c w, EsAt w b J → Calls Try.prog 17 #[.agg #[.int .i64 (N : Nat), .slice b J.length c]] w (fun e x => e = .returned (.int .i64 S) ∧ Below w.heap.size w x))) (HTR : Hid (∀ w, IsAt w a L → Calls Try.prog 18 #[.int .i64 z, .slice a L.length cap] w (fun e x => e = .returned (.tuple #[.int .i64 p, .int .i64 t]) ∧ Below w.heap.size w x))) (HEN : Hid (∀ b c w, EsAt w b J → Calls Try.prog 19 #[.agg #[.int .i64 (N : Nat), .slice b J.length c]] w (fun e x => e = .returned (.int .i64 p) ∧ Below w.heap.size w x))) (w : World) (h : IsAt w a L) : Calls Try.prog 4 #[.int .i64 z, .slice a L.length cap] w (fun e x => e = .returned (.bool true) ∧ Below w.heap.size w x) := by
  subst ht
  have n1 : ¬ (7 : Int) < (N : Int) := by omega
  have HA := Lib.hid (fun w => awakeF_any w)
  have hl1 : ¬ (40 : Int) < (L.length : Int) := by omega
  have HI := Lib.hid h
  clear h
  go_enter Try.func4, Try.ntmps4
  go_wp2_with fail
  refine (HG.out _ HI.out).mono ?_
  rintro e x1 ⟨rfl, hb1⟩
  have HB1 := Lib.hid hb1
  have HI1 := Lib.hid (HI.out.keep hb1)
  clear hb1
  go_wp2_with fail
  refine (HM.out _ HI1.out).mono ?_
  rintro e x2 ⟨b2, c2', rfl, he2, hb2⟩
  obtain ⟨Y2, hY2⟩ : ∃ Y, Y = x2.alloc (Obj.cells #[.int .i64 (N : Nat), .slice b2 J.length c2'] 31) := ⟨_, rfl⟩
  have hy2 : Below x2.heap.size x2 Y2 := by rw [hY2]; exact (Below.refl _ _).alloc (Nat.le_refl _) _
  have hb22 : Below x1.heap.size x1 Y2 := hb2.trans (hy2.mono hb2.size)
  have HB2 := Lib.hid (HB1.out.trans (hb22.mono HB1.out.size))
  have HX2 : Hid (BoxAt Y2 x2.heap.size (N : Nat) b2 J.length c2') := Lib.hid (by rw [hY2]; exact Blk.new _ _ _)
  have HE2 := Lib.hid (he2.keep hy2)
  have HI2 := Lib.hid (HI1.out.keep hb22)
  have HY2 := Lib.hid hY2
  have g0 : Y2.cell? ⟨x2.heap.size, 0, none⟩ = some (.int .i64 (N : Nat)) := HX2.out.cell 0
  have g1 : Y2.cell? ⟨x2.heap.size, 1, none⟩ = some (.slice b2 J.length c2') := HX2.out.cell 1
  clear hY2 hy2 hb2 hb22 he2
  go_wp2_with fail
  rw [← HY2.out]
  go_wp2_with fail
  refine (HCK.out _ _ _ HE2.out).mono ?_
  rintro e x3 ⟨rfl, hb3⟩
  have HB3 := Lib.hid (HB2.out.trans (hb3.mono HB2.out.size))
  have HX3 := Lib.hid (HX2.out.keep hb3)
  have HE3 := Lib.hid (HE2.out.keep hb3)
  have HI3 := Lib.hid (HI2.out.keep hb3)
  clear hb3 g0 g1
  have g0 : x3.cell? ⟨x2.heap.size, 0, none⟩ = some (.int .i64 (N : Nat)) := HX3.out.cell 0
  have g1 : x3.cell? ⟨x2.heap.size, 1, none⟩ = some (.slice b2 J.length c2') := HX3.out.cell 1
  go_wp2_with fail
  refine (HSZ.out _ _ _ HE3.out).mono ?_
  rintro e x4 ⟨rfl, hb4⟩
  have HB4 := Lib.hid (HB3.out.trans (hb4.mono HB3.out.size))
  have HX4 := Lib.hid (HX3.out.keep hb4)
  have HE4 := Lib.hid (HE3.out.keep hb4)
  have HI4 := Lib.hid (HI3.out.keep hb4)
  clear hb4 g0 g1
  have g0 : x4.cell? ⟨x2.heap.size, 0, none⟩ = some (.int .i64 (N : Nat)) := HX4.out.cell 0
  have g1 : x4.cell? ⟨x2.heap.size, 1, none⟩ = some (.slice b2 J.length c2') := HX4.out.cell 1
  go_wp2_with fail
  refine (HTR.out _ HI4.out).mono ?_
  rintro e x5 ⟨rfl, hb5⟩
  have HB5 := Lib.hid (HB4.out.trans (hb5.mono HB4.out.size))
  have HX5 := Lib.hid (HX4.out.keep hb5)
  have HE5 := Lib.hid (HE4.out.keep hb5)
  clear hb5 g0 g1
  have g0 : x5.cell? ⟨x2.heap.size, 0, none⟩ = some (.int .i64 (N : Nat)) := HX5.out.cell 0
  have g1 : x5.cell? ⟨x2.heap.size, 1, none⟩ = some (.slice b2 J.length c2') := HX5.out.cell 1
  go_wp2_with fail
  refine (HEN.out _ _ _ HE5.out).mono ?_
  rintro e x6 ⟨rfl, hb6⟩
  have HB6 := Lib.hid (HB5.out.trans (hb6.mono HB5.out.size))
  clear hb6 g0 g1
  go_wp2_with fail
  refine (HA.out _).mono ?_
  rintro e x9 ⟨rfl, hb9⟩
  have HB9 := Lib.hid (HB6.out.trans (hb9.mono HB6.out.size))
  clear hb9
  go_wp2
  go_ret
  exact ⟨rfl, HB9.out⟩
end Go.Proofs.Ytgfbihdnjidodaa
