/- Graphs of every kind and every list of sizes, in two ways. -/
import Derived.Test.YtgfbihdnjidodaaZPf
namespace Go.Proofs.Ytgfbihdnjidodaa
open Go.RowKit Go.Shelf Go.Proofs.Gr
attribute [local go_sem] Oper.semAt_some
attribute [local go_sem] run_store_func run_store_nilFunc

theorem pof_bad (z : Int) (hz : z < 0 ∨ 8 < z) (w : World) : Calls Try.prog 28 #[.int .i64 z] w (fun e x => e = .returned (.tuple #[.agg #[.int .i64 0, Value.nilFunc, Value.nilFunc], .int .i64 1]) ∧ Below w.heap.size w x) := by
  rcases hz with h | h
  · exact pof_lo z h w
  · exact pof_hi z h w
set_option maxHeartbeats 12800000 in
set_option maxRecDepth 100000 in
theorem psizes_bad (z : Int) (hz : z < 0 ∨ 8 < z) (w : World) : Calls Try.prog 10 #[.int .i64 z] w (fun e x => e = .returned (.tuple #[.int .i64 0, .int .i64 1]) ∧ Below w.heap.size w x) := by
  have HO := Lib.hid (fun w => pof_bad z hz w)
  clear hz
  go_enter Try.func10, Try.ntmps10
  go_wp2_with fail
  refine (HO.out _).mono ?_
  rintro e x1 ⟨rfl, hb⟩
  have HB := Lib.hid (hb.alloc hb.size (Obj.cells #[.int .i64 0, Value.nilFunc, Value.nilFunc] 60))
  clear hb
  go_wp2
  go_ret2
  exact ⟨rfl, HB.out⟩
theorem psizes_all (kind : Nat) (hk : kind ≤ 8) (w : World) : Calls Try.prog 10 #[.int .i64 (kind : Nat)] w (fun e x => e = .returned (.tuple #[.int .i64 (sizK kind : Nat), .int .i64 0]) ∧ Below w.heap.size w x) := by
  have hcases : kind = 0 ∨ kind = 1 ∨ kind = 2 ∨ kind = 3 ∨ kind = 4 ∨ kind = 5 ∨ kind = 6 ∨ kind = 7 ∨ kind = 8 := by omega
  rcases hcases with rfl | rfl | rfl | rfl | rfl | rfl | rfl | rfl | rfl
  · exact psizes_0 w
  · exact psizes_1 w
  · exact psizes_2 w
  · exact psizes_3 w
  · exact psizes_4 w
  · exact psizes_5 w
  · exact psizes_6 w
  · exact psizes_7 w
  · exact psizes_8 w
set_option maxHeartbeats 12800000 in
set_option maxRecDepth 100000 in
theorem pMake_bad (z : Int) (hz : z < 0 ∨ 8 < z) (a : Option Addr) (cap : Nat) (L : List Int) (w : World) : Calls Try.prog 12 #[.int .i64 z, .slice a L.length cap] w (GivesGE w 0 [] 1) := by
  have HO := Lib.hid (fun w => pof_bad z hz w)
  unfold GivesGE gv at *
  obtain ⟨W, hW⟩ : ∃ W, W = w.alloc (Obj.cells #[.int .i64 0, .slice none 0 0] 31) := ⟨_, rfl⟩
  have HB0 : Hid (Below w.heap.size w W) := Lib.hid (by rw [hW]; exact (Below.refl _ w).alloc (Nat.le_refl _) _)
  have HR1 : Hid (Blk W w.heap.size 31 #[.int .i64 0, .slice none 0 0]) := Lib.hid (by rw [hW]; exact Blk.new _ _ _)
  have HWS : Hid (W.heap.size = w.heap.size + 1) := Lib.hid (by rw [hW]; simp)
  have HW := Lib.hid hW
  clear hW hz
  go_enter Try.func12, Try.ntmps12
  go_wp2_with fail
  rw [← HW.out]
  refine (HO.out _).mono ?_
  rintro e x1 ⟨rfl, hb⟩
  have hbY : Below W.heap.size W (x1.alloc (Obj.cells #[.int .i64 0, Value.nilFunc, Value.nilFunc] 60)) := hb.alloc hb.size _
  clear hb
  have hRr : Blk (x1.alloc (Obj.cells #[.int .i64 0, Value.nilFunc, Value.nilFunc] 60)) (w.heap.size) 31 #[.int .i64 0, .slice none 0 0] := HR1.out.below hbY HR1.out.lt
  have r1 : (x1.alloc (Obj.cells #[.int .i64 0, Value.nilFunc, Value.nilFunc] 60)).cell? ⟨w.heap.size, 0, none⟩ = some (.int .i64 0) := hRr.cell 0
  have r3 : (x1.alloc (Obj.cells #[.int .i64 0, Value.nilFunc, Value.nilFunc] 60)).frozen? ⟨w.heap.size, 0, none⟩ = false := hRr.frozen 0
  have r2 : (x1.alloc (Obj.cells #[.int .i64 0, Value.nilFunc, Value.nilFunc] 60)).cell? ⟨w.heap.size, 1, none⟩ = some (.slice none 0 0) := hRr.cell 1
  have r4 : (x1.alloc (Obj.cells #[.int .i64 0, Value.nilFunc, Value.nilFunc] 60)).frozen? ⟨w.heap.size, 1, none⟩ = false := hRr.frozen 1
  have r7 : ((x1.alloc (Obj.cells #[.int .i64 0, Value.nilFunc, Value.nilFunc] 60)).setCell ⟨w.heap.size, 0, none⟩ (.int .i64 0)).cell? ⟨w.heap.size, 1, none⟩ = some (.slice none 0 0) := (hRr.set_ 0 (.int .i64 0)).cell 1
  have r8 : ((x1.alloc (Obj.cells #[.int .i64 0, Value.nilFunc, Value.nilFunc] 60)).setCell ⟨w.heap.size, 0, none⟩ (.int .i64 0)).frozen? ⟨w.heap.size, 1, none⟩ = false := (hRr.set_ 0 (.int .i64 0)).frozen 1
  have HEND := Lib.hid (HB0.out.trans (hbY.mono HB0.out.size))
  have HEND2 := Lib.hid ((HEND.out.setCell (p := ⟨w.heap.size, 0, none⟩) (by show w.heap.size ≤ w.heap.size; omega) (.int .i64 0)).setCell (p := ⟨w.heap.size, 1, none⟩) (by show w.heap.size ≤ w.heap.size; omega) (.slice none 0 0))
  have r5 : (((x1.alloc (Obj.cells #[.int .i64 0, Value.nilFunc, Value.nilFunc] 60)).setCell ⟨w.heap.size, 0, none⟩ (.int .i64 0)).setCell ⟨w.heap.size, 1, none⟩ (.slice none 0 0)).cell? ⟨w.heap.size, 0, none⟩ = some (.int .i64 0) := ((hRr.set_ 0 (.int .i64 0)).set_ 1 (.slice none 0 0)).cell 0
  have r6 : (((x1.alloc (Obj.cells #[.int .i64 0, Value.nilFunc, Value.nilFunc] 60)).setCell ⟨w.heap.size, 0, none⟩ (.int .i64 0)).setCell ⟨w.heap.size, 1, none⟩ (.slice none 0 0)).cell? ⟨w.heap.size, 1, none⟩ = some (.slice none 0 0) := ((hRr.set_ 0 (.int .i64 0)).set_ 1 (.slice none 0 0)).cell 1
  clear hRr hbY
  go_wp2
  refine bodyPost_ret (v := .tuple #[.agg #[.int .i64 0, .slice none 0 0], .int .i64 1]) (by simp [results, Try.results12, go_sem, r5, r6]) rfl ?_
  exact ⟨none, 0, rfl, RowAt.nil _ _ _ _, World.ownsRow_nil _ _ _ _, by first | exact HEND2.out | exact HEND.out⟩
/-- Kinds and sizes, in two ways alike. -/
theorem both_any (z : Int) (a : Option Addr) (cap : Nat) (L : List Int) (hL : L.length ≤ 1000000) : ∃ (s e m : Int) (J : List E) (k : Nat), J.length ≤ 100000 ∧
    (∀ w, Calls Try.prog 10 #[.int .i64 z] w (fun r x => r = .returned (.tuple #[.int .i64 s, .int .i64 e]) ∧ Below w.heap.size w x)) ∧
    (∀ w, Calls Try.prog 11 #[.int .i64 z] w (fun r x => r = .returned (.tuple #[.int .i64 s, .int .i64 e]) ∧ Below w.heap.size w x)) ∧
    (∀ w, IsAt w a L → Calls Try.prog 12 #[.int .i64 z, .slice a L.length cap] w (GivesGE w m J k)) ∧
    (∀ w, IsAt w a L → Calls Try.prog 13 #[.int .i64 z, .slice a L.length cap] w (GivesGE w m J k)) := by
  by_cases hz : z < 0 ∨ 8 < z
  · exact ⟨0, 1, 0, [], 1, by simp, psizes_bad z hz, rsizes_bad z hz, fun w _ => pMake_bad z hz a cap L w, fun w h => rMake_bad z hz a cap L w h⟩
  · obtain ⟨kind, rfl⟩ : ∃ kind : Nat, z = (kind : Int) := ⟨z.toNat, by omega⟩
    have hk : kind ≤ 8 := by omega
    exact ⟨_, _, _, _, _, mkJ_len kind hk L, psizes_all kind hk, rsizes_ok kind hk, fun w h => pMake_all kind hk a cap L hL w h, fun w h => rMake_any kind hk a cap L hL w h⟩
set_option maxHeartbeats 12800000 in
set_option maxRecDepth 100000 in
theorem makesF_any (z : Int) (a : Option Addr) (cap : Nat) (L : List Int) (w : World) (h : IsAt w a L) : Calls Try.prog 3 #[.int .i64 z, .slice a L.length cap] w (fun e x => e = .returned (.bool true) ∧ Below w.heap.size w x) := by
  have HA := Lib.hid (fun w => awakeF_any w)
  by_cases hlen : 40 < L.length
  · have hl1 : (40 : Int) < (L.length : Int) := by omega
    clear h
    go_enter Try.func3, Try.ntmps3
    go_wp2_with fail
    refine (HA.out _).mono ?_
    rintro e x1 ⟨rfl, hb1⟩
    have HB1 := Lib.hid hb1
    clear hb1
    go_wp2
    go_ret
    exact ⟨rfl, HB1.out⟩
  · have hl1 : ¬ (40 : Int) < (L.length : Int) := by omega
    obtain ⟨s, t, m, J, k, hJ, hPS, hRS, hPM, hRM⟩ := both_any z a cap L (by omega)
    have HPS := Lib.hid hPS
    have HRS := Lib.hid hRS
    have HPM := Lib.hid hPM
    have HRM := Lib.hid hRM
    have HSM := Lib.hid (fun (a b : Option Addr) (c1 c2 : Nat) w h1 h2 => same_true m a b c1 c2 J hJ w h1 h2)
    have HI := Lib.hid h
    unfold GivesGE at HPM HRM
    unfold gv at *
    clear hPS hRS hPM hRM h hJ
    go_enter Try.func3, Try.ntmps3
    go_wp2_with fail
    refine (HPS.out _).mono ?_
    rintro e x1 ⟨rfl, hb1⟩
    have HB1 := Lib.hid hb1
    clear hb1
    go_wp2_with fail
    refine (HRS.out _).mono ?_
    rintro e x2 ⟨rfl, hb2⟩
    have HB2 := Lib.hid (HB1.out.trans (hb2.mono HB1.out.size))
    have HI2 := Lib.hid (HI.out.keep HB2.out)
    clear hb2
    go_wp2_with fail
    refine (HPM.out _ HI2.out).mono ?_
    rintro e x3 ⟨a3, c3, rfl, he3, -, hb3⟩
    obtain ⟨Y3, hY3⟩ : ∃ Y, Y = x3.alloc (Obj.cells #[.int .i64 m, .slice a3 J.length c3] 31) := ⟨_, rfl⟩
    have hy3 : Below x3.heap.size x3 Y3 := by rw [hY3]; exact (Below.refl _ _).alloc (Nat.le_refl _) _
    have hb33 : Below x2.heap.size x2 Y3 := hb3.trans (hy3.mono hb3.size)
    have HB3 := Lib.hid (HB2.out.trans (hb33.mono HB2.out.size))
    have HX3 : Hid (BoxAt Y3 x3.heap.size m a3 J.length c3) := Lib.hid (by rw [hY3]; exact Blk.new _ _ _)
    have HE3 := Lib.hid (he3.keep hy3)
    have HI3 := Lib.hid (HI2.out.keep hb33)
    have HY3 := Lib.hid hY3
    clear hY3 hy3 hb3 hb33 he3
    go_wp2_with fail
    rw [← HY3.out]
    refine (HRM.out _ HI3.out).mono ?_
    rintro e x4 ⟨a4, c4, rfl, he4, -, hb4⟩
    obtain ⟨Y4, hY4⟩ : ∃ Y, Y = x4.alloc (Obj.cells #[.int .i64 m, .slice a4 J.length c4] 31) := ⟨_, rfl⟩
    have hy4 : Below x4.heap.size x4 Y4 := by rw [hY4]; exact (Below.refl _ _).alloc (Nat.le_refl _) _
    have hb44 : Below Y3.heap.size Y3 Y4 := hb4.trans (hy4.mono hb4.size)
    have HB4 := Lib.hid (HB3.out.trans (hb44.mono HB3.out.size))
    have HX34 := Lib.hid (HX3.out.keep hb44)
    have HE34 := Lib.hid (HE3.out.keep hb44)
    have HX4 : Hid (BoxAt Y4 x4.heap.size m a4 J.length c4) := Lib.hid (by rw [hY4]; exact Blk.new _ _ _)
    have HE4 := Lib.hid (he4.keep hy4)
    have HY4 := Lib.hid hY4
    clear hY4 hy4 hb4 hb44 he4
    go_wp2_with fail
    rw [← HY4.out]
    refine (HA.out _).mono ?_
    rintro e x5 ⟨rfl, hb5⟩
    have HB5 := Lib.hid (HB4.out.trans (hb5.mono HB4.out.size))
    have hx3 := HX34.out.keep hb5
    have hx4 := HX4.out.keep hb5
    have g0 : x5.cell? ⟨x3.heap.size, 0, none⟩ = some (.int .i64 m) := hx3.cell 0
    have g1 : x5.cell? ⟨x3.heap.size, 1, none⟩ = some (.slice a3 J.length c3) := hx3.cell 1
    have g2 : x5.cell? ⟨x4.heap.size, 0, none⟩ = some (.int .i64 m) := hx4.cell 0
    have g3 : x5.cell? ⟨x4.heap.size, 1, none⟩ = some (.slice a4 J.length c4) := hx4.cell 1
    have HSA := Lib.hid (HSM.out a3 a4 c3 c4 x5 (HE34.out.keep hb5) (HE4.out.keep hb5))
    clear hx3 hx4 hb5
    go_wp2_with fail
    refine HSA.out.mono ?_
    rintro e x6 ⟨rfl, hb6⟩
    have HB6 := Lib.hid (HB5.out.trans (hb6.mono HB5.out.size))
    clear hb6 g0 g1 g2 g3
    go_wp2
    go_ret
    exact ⟨rfl, HB6.out⟩
end Go.Proofs.Ytgfbihdnjidodaa
