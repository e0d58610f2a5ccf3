/- The law of changes. -/
import Derived.Test.YtjaafneoinidkaaHr
namespace Go.Proofs.Ytjaafneoinidkaa
open Go.RowKit Go.Shelf Go.Proofs.Gr
attribute [local go_sem] Oper.semAt_some

set_option maxHeartbeats 12800000 in
set_option maxRecDepth 100000 in
theorem changes_dark (n : Int) (a : Option Addr) (cap : Nat) (L : List E) (b : Option Addr) (c : Nat) (S : List Int) (HLI : Hid (∀ w, EsAt w a L → Calls Try.prog 12 #[.agg #[.int .i64 n, .slice a L.length cap]] w (fun e w' => e = .returned (.bool false) ∧ Below w.heap.size w w'))) (HA : Awake) (w : World) (h : EsAt w a L) (hv : IsAt w b S) :
    Calls Try.prog 7 #[gv n a L.length cap, .slice b S.length c] w (GivesB w true) := by
  unfold GivesB gv
  obtain ⟨W, hW⟩ : ∃ W, W = w.alloc (Obj.cells #[.int .i64 n, .slice a L.length cap] 24) := ⟨_, rfl⟩
  have hB0 : Below w.heap.size w W := by rw [hW]; exact (Below.refl _ w).alloc (Nat.le_refl _) _
  have hG : Blk W w.heap.size 24 #[.int .i64 n, .slice a L.length cap] := by rw [hW]; exact Blk.new _ _ _
  have HW := Lib.hid hW
  have HB0 := Lib.hid hB0
  have hEz : EsAt W a L := h.keep hB0
  have hVz : IsAt W b S := hv.keep hB0
  have HF : Hid (∀ x, Below W.heap.size W x → x.cell? ⟨w.heap.size, 0, none⟩ = some (.int .i64 n) ∧ x.cell? ⟨w.heap.size, 1, none⟩ = some (.slice a L.length cap) ∧ EsAt x a L ∧ IsAt x b S) := Lib.hid fun x hx => ⟨(hG.below hx hG.lt).cell 0, (hG.below hx hG.lt).cell 1, hEz.keep hx, hVz.keep hx⟩
  have hk0 : Below W.heap.size W W := Below.refl _ _
  obtain ⟨g0, g1, -⟩ := HF.out W hk0
  clear hB0 hG hW hEz h hVz hv
  go_enter Try.func7, Try.ntmps7
  go_wp2_with fail
  rw [← HW.out]
  refine (HLI.out _ (HF.out W hk0).2.2.1).mono ?_
  rintro e x1 ⟨rfl, hb1⟩
  have hk1 : Below W.heap.size W x1 := hk0.trans (hb1.mono hk0.size)
  clear hb1 hk0 g0 g1
  obtain ⟨g0, g1, -⟩ := HF.out x1 hk1
  go_wp2_with fail
  refine (HA _).mono ?_
  rintro e x2 ⟨rfl, hb2⟩
  have hk2 : Below W.heap.size W x2 := hk1.trans (hb2.mono hk1.size)
  clear hb2 hk1 g0 g1
  obtain ⟨g0, g1, -⟩ := HF.out x2 hk2
  have HEND := Lib.hid (HB0.out.trans (hk2.mono HB0.out.size))
  clear hk2 g0 g1
  go_wp2
  go_ret
  exact ⟨rfl, HEND.out⟩
set_option maxHeartbeats 12800000 in
set_option maxRecDepth 100000 in
theorem changes_long (n : Int) (a : Option Addr) (cap : Nat) (L : List E) (b : Option Addr) (c : Nat) (S : List Int) (hS : 40 < S.length) (HLI : Hid (∀ w, EsAt w a L → Calls Try.prog 12 #[.agg #[.int .i64 n, .slice a L.length cap]] w (fun e w' => e = .returned (.bool true) ∧ Below w.heap.size w w'))) (HA : Awake) (w : World) (h : EsAt w a L) (hv : IsAt w b S) :
    Calls Try.prog 7 #[gv n a L.length cap, .slice b S.length c] w (GivesB w true) := by
  unfold GivesB gv
  obtain ⟨W, hW⟩ : ∃ W, W = w.alloc (Obj.cells #[.int .i64 n, .slice a L.length cap] 24) := ⟨_, rfl⟩
  have hB0 : Below w.heap.size w W := by rw [hW]; exact (Below.refl _ w).alloc (Nat.le_refl _) _
  have hG : Blk W w.heap.size 24 #[.int .i64 n, .slice a L.length cap] := by rw [hW]; exact Blk.new _ _ _
  have HW := Lib.hid hW
  have HB0 := Lib.hid hB0
  have hEz : EsAt W a L := h.keep hB0
  have hVz : IsAt W b S := hv.keep hB0
  have HF : Hid (∀ x, Below W.heap.size W x → x.cell? ⟨w.heap.size, 0, none⟩ = some (.int .i64 n) ∧ x.cell? ⟨w.heap.size, 1, none⟩ = some (.slice a L.length cap) ∧ EsAt x a L ∧ IsAt x b S) := Lib.hid fun x hx => ⟨(hG.below hx hG.lt).cell 0, (hG.below hx hG.lt).cell 1, hEz.keep hx, hVz.keep hx⟩
  have hk0 : Below W.heap.size W W := Below.refl _ _
  obtain ⟨g0, g1, -⟩ := HF.out W hk0
  clear hB0 hG hW hEz h hVz hv
  have l1 : decide (40 < ((S.length : Nat) : Int)) = true := decide_eq_true (by omega)
  go_enter Try.func7, Try.ntmps7
  go_wp2_with fail
  rw [← HW.out]
  refine (HLI.out _ (HF.out W hk0).2.2.1).mono ?_
  rintro e x1 ⟨rfl, hb1⟩
  have hk1 : Below W.heap.size W x1 := hk0.trans (hb1.mono hk0.size)
  clear hb1 hk0 g0 g1
  obtain ⟨g0, g1, -⟩ := HF.out x1 hk1
  go_wp2_with fail
  refine (HA _).mono ?_
  rintro e x2 ⟨rfl, hb2⟩
  have hk2 : Below W.heap.size W x2 := hk1.trans (hb2.mono hk1.size)
  clear hb2 hk1 g0 g1
  obtain ⟨g0, g1, -⟩ := HF.out x2 hk2
  have HEND := Lib.hid (HB0.out.trans (hk2.mono HB0.out.size))
  clear hk2 g0 g1
  go_wp2
  go_ret
  exact ⟨rfl, HEND.out⟩
set_option maxHeartbeats 12800000 in
set_option maxRecDepth 100000 in
theorem changes_err (n : Int) (a : Option Addr) (cap : Nat) (L : List E) (b : Option Addr) (c : Nat) (S : List Int) (k : Nat) (hk : k ≠ 0) (hS : S.length ≤ 40) (HLI : Hid (∀ w, EsAt w a L → Calls Try.prog 12 #[.agg #[.int .i64 n, .slice a L.length cap]] w (fun e w' => e = .returned (.bool true) ∧ Below w.heap.size w w'))) (HA : Awake) (HC : Hid (∀ w, EsAt w a L → Calls Try.prog 14 #[.agg #[.int .i64 n, .slice a L.length cap]] w (fun e w' => e = .returned (.int .i64 (k : Int)) ∧ Below w.heap.size w w'))) (HRL : Hid (∀ w, EsAt w a L → IsAt w b S → Calls Try.prog 43 #[.agg #[.int .i64 n, .slice a L.length cap], .slice b S.length c] w (fun e w' => ∃ a1 c1, e = .returned (.tuple #[.agg #[.int .i64 0, .slice a1 0 c1], .int .i64 (k : Int)]) ∧ Below w.heap.size w w'))) (HLO : Hid (∀ w, EsAt w a L → Calls Try.prog 44 #[.agg #[.int .i64 n, .slice a L.length cap]] w (fun e w' => ∃ a1 c1, e = .returned (.tuple #[.agg #[.int .i64 0, .slice a1 0 c1], .int .i64 (k : Int)]) ∧ Below w.heap.size w w'))) (HSI : Hid (∀ w, EsAt w a L → Calls Try.prog 45 #[.agg #[.int .i64 n, .slice a L.length cap]] w (fun e w' => ∃ a1 c1, e = .returned (.tuple #[.agg #[.int .i64 0, .slice a1 0 c1], .int .i64 (k : Int)]) ∧ Below w.heap.size w w'))) (HSM : ∀ m a1 a2 c1 c2 (M : List E) w, M.length ≤ 100000 → EsAt w a1 M → EsAt w a2 M → Calls Try.prog 25 #[.agg #[.int .i64 m, .slice a1 M.length c1], .agg #[.int .i64 m, .slice a2 M.length c2]] w (fun e w' => e = .returned (.bool true) ∧ Below w.heap.size w w')) (w : World) (h : EsAt w a L) (hv : IsAt w b S) :
    Calls Try.prog 7 #[gv n a L.length cap, .slice b S.length c] w (GivesB w true) := by
  unfold GivesB gv
  obtain ⟨W, hW⟩ : ∃ W, W = w.alloc (Obj.cells #[.int .i64 n, .slice a L.length cap] 24) := ⟨_, rfl⟩
  have hB0 : Below w.heap.size w W := by rw [hW]; exact (Below.refl _ w).alloc (Nat.le_refl _) _
  have hG : Blk W w.heap.size 24 #[.int .i64 n, .slice a L.length cap] := by rw [hW]; exact Blk.new _ _ _
  have HW := Lib.hid hW
  have HB0 := Lib.hid hB0
  have hEz : EsAt W a L := h.keep hB0
  have hVz : IsAt W b S := hv.keep hB0
  have HF : Hid (∀ x, Below W.heap.size W x → x.cell? ⟨w.heap.size, 0, none⟩ = some (.int .i64 n) ∧ x.cell? ⟨w.heap.size, 1, none⟩ = some (.slice a L.length cap) ∧ EsAt x a L ∧ IsAt x b S) := Lib.hid fun x hx => ⟨(hG.below hx hG.lt).cell 0, (hG.below hx hG.lt).cell 1, hEz.keep hx, hVz.keep hx⟩
  have hk0 : Below W.heap.size W W := Below.refl _ _
  obtain ⟨g0, g1, -⟩ := HF.out W hk0
  clear hB0 hG hW hEz h hVz hv
  have l1 : decide (40 < ((S.length : Nat) : Int)) = false := decide_eq_false (by omega)
  have q0 : (((k : Nat) : Int) != 0) = true := by rw [bne_iff_ne]; omega
  have q1 : (((k : Nat) : Int) == 0) = false := by rw [beq_eq_false_iff_ne]; omega
  go_enter Try.func7, Try.ntmps7
  go_wp2_with fail
  rw [← HW.out]
  refine (HLI.out _ (HF.out W hk0).2.2.1).mono ?_
  rintro e x1 ⟨rfl, hb1⟩
  have hk1 : Below W.heap.size W x1 := hk0.trans (hb1.mono hk0.size)
  clear hb1 hk0 g0 g1
  obtain ⟨g0, g1, -⟩ := HF.out x1 hk1
  go_wp2_with fail
  refine (HC.out _ (HF.out x1 hk1).2.2.1).mono ?_
  rintro e x2 ⟨rfl, hb2⟩
  have hk2 : Below W.heap.size W x2 := hk1.trans (hb2.mono hk1.size)
  clear hb2 hk1 g0 g1
  obtain ⟨g0, g1, -⟩ := HF.out x2 hk2
  go_wp2_with fail
  refine (HRL.out _ (HF.out x2 hk2).2.2.1 (HF.out x2 hk2).2.2.2).mono ?_
  rintro e x3 ⟨a7, c7, rfl, hb3⟩
  have hk3 : Below W.heap.size W x3 := hk2.trans (hb3.mono hk2.size)
  clear hb3 hk2 g0 g1
  obtain ⟨g0, g1, -⟩ := HF.out x3 hk3
  obtain ⟨Y1, hY1⟩ : ∃ Y, Y = x3.alloc (Obj.cells #[.int .i64 0, .slice a7 0 c7] 24) := ⟨_, rfl⟩
  have hy : Below x3.heap.size x3 Y1 := by rw [hY1]; exact (Below.refl _ _).alloc (Nat.le_refl _) _
  have hz : Below W.heap.size W Y1 := hk3.trans (hy.mono hk3.size)
  have hQ : Blk Y1 x3.heap.size 24 #[.int .i64 0, .slice a7 0 c7] := by rw [hY1]; exact Blk.new _ _ _
  have HBY1 : Hid (Below w.heap.size w Y1) := Lib.hid (HB0.out.trans (hz.mono HB0.out.size))
  have HFY1 : Hid (∀ x, Below Y1.heap.size Y1 x → x.cell? ⟨w.heap.size, 0, none⟩ = some (.int .i64 n) ∧ x.cell? ⟨w.heap.size, 1, none⟩ = some (.slice a L.length cap) ∧ x.cell? ⟨x3.heap.size, 0, none⟩ = some (.int .i64 0) ∧ x.cell? ⟨x3.heap.size, 1, none⟩ = some (.slice a7 0 c7) ∧ EsAt x a L ∧ IsAt x b S) := Lib.hid fun x hx => ⟨(HF.out x (hz.trans (hx.mono hz.size))).1, (HF.out x (hz.trans (hx.mono hz.size))).2.1, (hQ.below hx hQ.lt).cell 0, (hQ.below hx hQ.lt).cell 1, (HF.out x (hz.trans (hx.mono hz.size))).2.2.1, (HF.out x (hz.trans (hx.mono hz.size))).2.2.2⟩
  clear g0 g1 hk3 hz hQ hy
  have hk4 : Below Y1.heap.size Y1 Y1 := Below.refl _ _
  have g0 : (x3.alloc (Obj.cells #[.int .i64 0, .slice a7 0 c7] 24)).cell? ⟨w.heap.size, 0, none⟩ = some (.int .i64 n) := by rw [← hY1]; exact (HFY1.out _ hk4).1
  have g1 : (x3.alloc (Obj.cells #[.int .i64 0, .slice a7 0 c7] 24)).cell? ⟨w.heap.size, 1, none⟩ = some (.slice a L.length cap) := by rw [← hY1]; exact (HFY1.out _ hk4).2.1
  have g2 : (x3.alloc (Obj.cells #[.int .i64 0, .slice a7 0 c7] 24)).cell? ⟨x3.heap.size, 0, none⟩ = some (.int .i64 0) := by rw [← hY1]; exact (HFY1.out _ hk4).2.2.1
  have g3 : (x3.alloc (Obj.cells #[.int .i64 0, .slice a7 0 c7] 24)).cell? ⟨x3.heap.size, 1, none⟩ = some (.slice a7 0 c7) := by rw [← hY1]; exact (HFY1.out _ hk4).2.2.2.1
  have HY1 := Lib.hid hY1
  clear hY1
  go_wp2_with fail
  rw [← HY1.out]
  refine (HLO.out _ (HFY1.out Y1 hk4).2.2.2.2.1).mono ?_
  rintro e x5 ⟨a8, c8, rfl, hb5⟩
  have hk5 : Below Y1.heap.size Y1 x5 := hk4.trans (hb5.mono hk4.size)
  clear hb5 hk4 g0 g1 g2 g3
  obtain ⟨g0, g1, g2, g3, -⟩ := HFY1.out x5 hk5
  obtain ⟨Y2, hY2⟩ : ∃ Y, Y = x5.alloc (Obj.cells #[.int .i64 0, .slice a8 0 c8] 24) := ⟨_, rfl⟩
  have hy : Below x5.heap.size x5 Y2 := by rw [hY2]; exact (Below.refl _ _).alloc (Nat.le_refl _) _
  have hz : Below Y1.heap.size Y1 Y2 := hk5.trans (hy.mono hk5.size)
  have hQ : Blk Y2 x5.heap.size 24 #[.int .i64 0, .slice a8 0 c8] := by rw [hY2]; exact Blk.new _ _ _
  have HBY2 : Hid (Below w.heap.size w Y2) := Lib.hid (HBY1.out.trans (hz.mono HBY1.out.size))
  have HFY2 : Hid (∀ x, Below Y2.heap.size Y2 x → x.cell? ⟨w.heap.size, 0, none⟩ = some (.int .i64 n) ∧ x.cell? ⟨w.heap.size, 1, none⟩ = some (.slice a L.length cap) ∧ x.cell? ⟨x3.heap.size, 0, none⟩ = some (.int .i64 0) ∧ x.cell? ⟨x3.heap.size, 1, none⟩ = some (.slice a7 0 c7) ∧ x.cell? ⟨x5.heap.size, 0, none⟩ = some (.int .i64 0) ∧ x.cell? ⟨x5.heap.size, 1, none⟩ = some (.slice a8 0 c8) ∧ EsAt x a L ∧ IsAt x b S) := Lib.hid fun x hx => ⟨(HFY1.out x (hz.trans (hx.mono hz.size))).1, (HFY1.out x (hz.trans (hx.mono hz.size))).2.1, (HFY1.out x (hz.trans (hx.mono hz.size))).2.2.1, (HFY1.out x (hz.trans (hx.mono hz.size))).2.2.2.1, (hQ.below hx hQ.lt).cell 0, (hQ.below hx hQ.lt).cell 1, (HFY1.out x (hz.trans (hx.mono hz.size))).2.2.2.2.1, (HFY1.out x (hz.trans (hx.mono hz.size))).2.2.2.2.2⟩
  clear g0 g1 g2 g3 hk5 hz hQ hy
  have hk6 : Below Y2.heap.size Y2 Y2 := Below.refl _ _
  have g0 : (x5.alloc (Obj.cells #[.int .i64 0, .slice a8 0 c8] 24)).cell? ⟨w.heap.size, 0, none⟩ = some (.int .i64 n) := by rw [← hY2]; exact (HFY2.out _ hk6).1
  have g1 : (x5.alloc (Obj.cells #[.int .i64 0, .slice a8 0 c8] 24)).cell? ⟨w.heap.size, 1, none⟩ = some (.slice a L.length cap) := by rw [← hY2]; exact (HFY2.out _ hk6).2.1
  have g2 : (x5.alloc (Obj.cells #[.int .i64 0, .slice a8 0 c8] 24)).cell? ⟨x3.heap.size, 0, none⟩ = some (.int .i64 0) := by rw [← hY2]; exact (HFY2.out _ hk6).2.2.1
  have g3 : (x5.alloc (Obj.cells #[.int .i64 0, .slice a8 0 c8] 24)).cell? ⟨x3.heap.size, 1, none⟩ = some (.slice a7 0 c7) := by rw [← hY2]; exact (HFY2.out _ hk6).2.2.2.1
  have g4 : (x5.alloc (Obj.cells #[.int .i64 0, .slice a8 0 c8] 24)).cell? ⟨x5.heap.size, 0, none⟩ = some (.int .i64 0) := by rw [← hY2]; exact (HFY2.out _ hk6).2.2.2.2.1
  have g5 : (x5.alloc (Obj.cells #[.int .i64 0, .slice a8 0 c8] 24)).cell? ⟨x5.heap.size, 1, none⟩ = some (.slice a8 0 c8) := by rw [← hY2]; exact (HFY2.out _ hk6).2.2.2.2.2.1
  have HY2 := Lib.hid hY2
  clear hY2
  go_wp2_with fail
  rw [← HY2.out]
  refine (HSI.out _ (HFY2.out Y2 hk6).2.2.2.2.2.2.1).mono ?_
  rintro e x7 ⟨a9, c9, rfl, hb7⟩
  have hk7 : Below Y2.heap.size Y2 x7 := hk6.trans (hb7.mono hk6.size)
  clear hb7 hk6 g0 g1 g2 g3 g4 g5
  obtain ⟨g0, g1, g2, g3, g4, g5, -⟩ := HFY2.out x7 hk7
  obtain ⟨Y3, hY3⟩ : ∃ Y, Y = x7.alloc (Obj.cells #[.int .i64 0, .slice a9 0 c9] 24) := ⟨_, rfl⟩
  have hy : Below x7.heap.size x7 Y3 := by rw [hY3]; exact (Below.refl _ _).alloc (Nat.le_refl _) _
  have hz : Below Y2.heap.size Y2 Y3 := hk7.trans (hy.mono hk7.size)
  have hQ : Blk Y3 x7.heap.size 24 #[.int .i64 0, .slice a9 0 c9] := by rw [hY3]; exact Blk.new _ _ _
  have HBY3 : Hid (Below w.heap.size w Y3) := Lib.hid (HBY2.out.trans (hz.mono HBY2.out.size))
  have HFY3 : Hid (∀ x, Below Y3.heap.size Y3 x → x.cell? ⟨w.heap.size, 0, none⟩ = some (.int .i64 n) ∧ x.cell? ⟨w.heap.size, 1, none⟩ = some (.slice a L.length cap) ∧ x.cell? ⟨x3.heap.size, 0, none⟩ = some (.int .i64 0) ∧ x.cell? ⟨x3.heap.size, 1, none⟩ = some (.slice a7 0 c7) ∧ x.cell? ⟨x5.heap.size, 0, none⟩ = some (.int .i64 0) ∧ x.cell? ⟨x5.heap.size, 1, none⟩ = some (.slice a8 0 c8) ∧ x.cell? ⟨x7.heap.size, 0, none⟩ = some (.int .i64 0) ∧ x.cell? ⟨x7.heap.size, 1, none⟩ = some (.slice a9 0 c9) ∧ EsAt x a L ∧ IsAt x b S) := Lib.hid fun x hx => ⟨(HFY2.out x (hz.trans (hx.mono hz.size))).1, (HFY2.out x (hz.trans (hx.mono hz.size))).2.1, (HFY2.out x (hz.trans (hx.mono hz.size))).2.2.1, (HFY2.out x (hz.trans (hx.mono hz.size))).2.2.2.1, (HFY2.out x (hz.trans (hx.mono hz.size))).2.2.2.2.1, (HFY2.out x (hz.trans (hx.mono hz.size))).2.2.2.2.2.1, (hQ.below hx hQ.lt).cell 0, (hQ.below hx hQ.lt).cell 1, (HFY2.out x (hz.trans (hx.mono hz.size))).2.2.2.2.2.2.1, (HFY2.out x (hz.trans (hx.mono hz.size))).2.2.2.2.2.2.2⟩
  clear g0 g1 g2 g3 g4 g5 hk7 hz hQ hy
  have hk8 : Below Y3.heap.size Y3 Y3 := Below.refl _ _
  have g0 : (x7.alloc (Obj.cells #[.int .i64 0, .slice a9 0 c9] 24)).cell? ⟨w.heap.size, 0, none⟩ = some (.int .i64 n) := by rw [← hY3]; exact (HFY3.out _ hk8).1
  have g1 : (x7.alloc (Obj.cells #[.int .i64 0, .slice a9 0 c9] 24)).cell? ⟨w.heap.size, 1, none⟩ = some (.slice a L.length cap) := by rw [← hY3]; exact (HFY3.out _ hk8).2.1
  have g2 : (x7.alloc (Obj.cells #[.int .i64 0, .slice a9 0 c9] 24)).cell? ⟨x3.heap.size, 0, none⟩ = some (.int .i64 0) := by rw [← hY3]; exact (HFY3.out _ hk8).2.2.1
  have g3 : (x7.alloc (Obj.cells #[.int .i64 0, .slice a9 0 c9] 24)).cell? ⟨x3.heap.size, 1, none⟩ = some (.slice a7 0 c7) := by rw [← hY3]; exact (HFY3.out _ hk8).2.2.2.1
  have g4 : (x7.alloc (Obj.cells #[.int .i64 0, .slice a9 0 c9] 24)).cell? ⟨x5.heap.size, 0, none⟩ = some (.int .i64 0) := by rw [← hY3]; exact (HFY3.out _ hk8).2.2.2.2.1
  have g5 : (x7.alloc (Obj.cells #[.int .i64 0, .slice a9 0 c9] 24)).cell? ⟨x5.heap.size, 1, none⟩ = some (.slice a8 0 c8) := by rw [← hY3]; exact (HFY3.out _ hk8).2.2.2.2.2.1
  have g6 : (x7.alloc (Obj.cells #[.int .i64 0, .slice a9 0 c9] 24)).cell? ⟨x7.heap.size, 0, none⟩ = some (.int .i64 0) := by rw [← hY3]; exact (HFY3.out _ hk8).2.2.2.2.2.2.1
  have g7 : (x7.alloc (Obj.cells #[.int .i64 0, .slice a9 0 c9] 24)).cell? ⟨x7.heap.size, 1, none⟩ = some (.slice a9 0 c9) := by rw [← hY3]; exact (HFY3.out _ hk8).2.2.2.2.2.2.2.1
  have HY3 := Lib.hid hY3
  clear hY3
  go_wp2_with fail
  rw [← HY3.out]
  refine (HA _).mono ?_
  rintro e x9 ⟨rfl, hb9⟩
  have hk9 : Below Y3.heap.size Y3 x9 := hk8.trans (hb9.mono hk8.size)
  clear hb9 hk8 g0 g1 g2 g3 g4 g5 g6 g7
  obtain ⟨g0, g1, g2, g3, g4, g5, g6, g7, -⟩ := HFY3.out x9 hk9
  go_wp2_with fail
  have hj0 : Below Y3.heap.size Y3 x9.drew := hk9.drew
  refine wp_region_late (S := fun u => Below Y3.heap.size Y3 u) (X := [19]) (by kernel_rfl) ?_
  refine wpAnyL_pureD (i := 0) 64 (.int .i64 (k : Int)) rfl rfl (by kernel_rfl) (by kernel_rfl) (by kernel_rfl) (fun _ _ _ h => h) (Or.inl ⟨by rfl, fun u _ => ?_⟩) ?_
  · go_simp
  try simp only [Act.put, List.setIfInBounds_toArray, List.set_cons_zero, List.set_cons_succ]
  refine wpAnyL_pureD (i := 1) 65 (.bool true) rfl rfl (by kernel_rfl) (by kernel_rfl) (by kernel_rfl) (fun _ _ _ h => h) (Or.inl ⟨by rfl, fun u _ => ?_⟩) ?_
  · go_simp
  try simp only [Act.put, List.setIfInBounds_toArray, List.set_cons_zero, List.set_cons_succ]
  refine wpAnyL_pureD (i := 2) 66 (.bool true) rfl rfl (by kernel_rfl) (by kernel_rfl) (by kernel_rfl) (fun _ _ _ h => h) (Or.inl ⟨by rfl, fun u _ => ?_⟩) ?_
  · go_simp
  try simp only [Act.put, List.setIfInBounds_toArray, List.set_cons_zero, List.set_cons_succ]
  refine wpAnyL_takeD (i := 3) 67 (.agg #[.int .i64 0, .slice a7 0 c7]) rfl rfl (by kernel_rfl) (by kernel_rfl) (by kernel_rfl) (by kernel_rfl) (by kernel_rfl) (fun _ _ _ h => h) hj0 (Or.inl ⟨by rfl, fun u hu => ?_⟩) ?_
  · obtain ⟨t0, t1, t2, t3, t4, t5, t6, t7, -⟩ := HFY3.out u hu
    go_simp
  try simp only [Act.put, List.setIfInBounds_toArray, List.set_cons_zero, List.set_cons_succ]
  refine wpAnyL_pureD (i := 4) 68 (.agg #[.int .i64 0, .slice none 0 0]) rfl rfl (by kernel_rfl) (by kernel_rfl) (by kernel_rfl) (fun _ _ _ h => h) (Or.inl ⟨by rfl, fun u _ => ?_⟩) ?_
  · go_simp
  try simp only [Act.put, List.setIfInBounds_toArray, List.set_cons_zero, List.set_cons_succ]
  refine wpAnyL_one (i := 5) (by kernel_rfl) rfl (fun K hK => ?_)
  go_simp
  go_at_call 25
  refine (HSM 0 a7 none c7 0 [] _ (by simp) (RowAt.nil _ _ _ _) (RowAt.nil _ _ _ _)).mono ?_
  rintro e y1 ⟨rfl, hb1⟩
  have hj1 := hj0.trans (hb1.mono hj0.size)
  show K _ _
  refine hK.out _ _ (fun _ _ => hj1) ?_
  clear hK K hb1
  try simp only [Act.put, List.setIfInBounds_toArray, List.set_cons_zero, List.set_cons_succ]
  refine wpAnyL_pureD (i := 6) 70 (.bool false) rfl rfl (by kernel_rfl) (by kernel_rfl) (by kernel_rfl) (fun _ _ _ h => h) (Or.inl ⟨by rfl, fun u _ => ?_⟩) ?_
  · go_simp
  try simp only [Act.put, List.setIfInBounds_toArray, List.set_cons_zero, List.set_cons_succ]
  refine wpAnyL_pureD (i := 7) 71 (.bool false) rfl rfl (by kernel_rfl) (by kernel_rfl) (by kernel_rfl) (fun _ _ _ h => h) (Or.inl ⟨by rfl, fun u _ => ?_⟩) ?_
  · go_simp
  try simp only [Act.put, List.setIfInBounds_toArray, List.set_cons_zero, List.set_cons_succ]
  refine wpAnyL_pureD (i := 8) 72 (.bool false) rfl rfl (by kernel_rfl) (by kernel_rfl) (by kernel_rfl) (fun _ _ _ h => h) (Or.inl ⟨by rfl, fun u _ => ?_⟩) ?_
  · go_simp
  try simp only [Act.put, List.setIfInBounds_toArray, List.set_cons_zero, List.set_cons_succ]
  refine wpAnyL_pureD (i := 9) 73 (.int .i64 (k : Int)) rfl rfl (by kernel_rfl) (by kernel_rfl) (by kernel_rfl) (fun _ _ _ h => h) (Or.inl ⟨by rfl, fun u _ => ?_⟩) ?_
  · go_simp
  try simp only [Act.put, List.setIfInBounds_toArray, List.set_cons_zero, List.set_cons_succ]
  refine wpAnyL_pureD (i := 10) 74 (.bool false) rfl rfl (by kernel_rfl) (by kernel_rfl) (by kernel_rfl) (fun _ _ _ h => h) (Or.inl ⟨by rfl, fun u _ => ?_⟩) ?_
  · go_simp
  try simp only [Act.put, List.setIfInBounds_toArray, List.set_cons_zero, List.set_cons_succ]
  refine wpAnyL_pureD (i := 11) 75 (.bool false) rfl rfl (by kernel_rfl) (by kernel_rfl) (by kernel_rfl) (fun _ _ _ h => h) (Or.inl ⟨by rfl, fun u _ => ?_⟩) ?_
  · go_simp
  try simp only [Act.put, List.setIfInBounds_toArray, List.set_cons_zero, List.set_cons_succ]
  refine wpAnyL_pureD (i := 12) 76 undef rfl rfl (by kernel_rfl) (by kernel_rfl) (by kernel_rfl) (fun _ _ _ h => h) (Or.inr ⟨by kernel_rfl, rfl⟩) ?_
  try simp only [Act.put, List.setIfInBounds_toArray, List.set_cons_zero, List.set_cons_succ]
  refine wpAnyL_pureD (i := 13) 77 undef rfl rfl (by kernel_rfl) (by kernel_rfl) (by kernel_rfl) (fun _ _ _ h => h) (Or.inr ⟨by kernel_rfl, rfl⟩) ?_
  try simp only [Act.put, List.setIfInBounds_toArray, List.set_cons_zero, List.set_cons_succ]
  refine wpAnyL_pureD (i := 14) 78 undef rfl rfl (by kernel_rfl) (by kernel_rfl) (by kernel_rfl) (fun _ _ _ h => h) (Or.inr ⟨by kernel_rfl, rfl⟩) ?_
  try simp only [Act.put, List.setIfInBounds_toArray, List.set_cons_zero, List.set_cons_succ]
  refine wpAnyL_pureD (i := 15) 79 undef rfl rfl (by kernel_rfl) (by kernel_rfl) (by kernel_rfl) (fun _ _ _ h => h) (Or.inr ⟨by kernel_rfl, rfl⟩) ?_
  try simp only [Act.put, List.setIfInBounds_toArray, List.set_cons_zero, List.set_cons_succ]
  refine wpAnyL_pureD (i := 16) 80 undef rfl rfl (by kernel_rfl) (by kernel_rfl) (by kernel_rfl) (fun _ _ _ h => h) (Or.inr ⟨by kernel_rfl, rfl⟩) ?_
  try simp only [Act.put, List.setIfInBounds_toArray, List.set_cons_zero, List.set_cons_succ]
  refine wpAnyL_pureD (i := 17) 81 undef rfl rfl (by kernel_rfl) (by kernel_rfl) (by kernel_rfl) (fun _ _ _ h => h) (Or.inr ⟨by kernel_rfl, rfl⟩) ?_
  try simp only [Act.put, List.setIfInBounds_toArray, List.set_cons_zero, List.set_cons_succ]
  refine wpAnyL_pureD (i := 18) 82 (.bool false) rfl rfl (by kernel_rfl) (by kernel_rfl) (by kernel_rfl) (fun _ _ _ h => h) (Or.inl ⟨by rfl, fun u _ => ?_⟩) ?_
  · go_simp
  try simp only [Act.put, List.setIfInBounds_toArray, List.set_cons_zero, List.set_cons_succ]
  refine wpAnyL_one (i := 19) (by kernel_rfl) rfl (fun K hK => ?_)
  go_simp
  refine hK.out _ _ (fun h => absurd (by decide) h) ?_
  clear hK K
  refine wpAnyL_done (by kernel_rfl) ?_ _
  try simp only [Act.put, List.setIfInBounds_toArray, List.set_cons_zero, List.set_cons_succ]
  have hend := hj1
  have hkL : Below Y3.heap.size Y3 y1 := hend
  clear hend hj0 g0 g1 g2 g3 g4 g5 g6 g7
  obtain ⟨x90, hx90⟩ : ∃ x, x = y1 := ⟨_, rfl⟩
  have hk90 := hkL
  rw [← hx90] at hk90 ⊢
  clear hx90 hkL
  obtain ⟨g0, g1, g2, g3, g4, g5, g6, g7, -⟩ := HFY3.out x90 hk90
  go_wp2_with fail
  refine (HSM 0 a8 none c8 0 [] _ (by simp) (RowAt.nil _ _ _ _) (RowAt.nil _ _ _ _)).mono ?_
  rintro e x91 ⟨rfl, hb91⟩
  have hk91 : Below Y3.heap.size Y3 x91 := hk90.trans (hb91.mono hk90.size)
  clear hb91 hk90 g0 g1 g2 g3 g4 g5 g6 g7
  obtain ⟨g0, g1, g2, g3, g4, g5, g6, g7, -⟩ := HFY3.out x91 hk91
  go_wp2_with fail
  refine (HSM 0 a9 none c9 0 [] _ (by simp) (RowAt.nil _ _ _ _) (RowAt.nil _ _ _ _)).mono ?_
  rintro e x92 ⟨rfl, hb92⟩
  have hk92 : Below Y3.heap.size Y3 x92 := hk91.trans (hb92.mono hk91.size)
  clear hb92 hk91 g0 g1 g2 g3 g4 g5 g6 g7
  obtain ⟨g0, g1, g2, g3, g4, g5, g6, g7, -⟩ := HFY3.out x92 hk92
  have HEND := Lib.hid (HBY3.out.trans (hk92.mono HBY3.out.size))
  clear hk92 g0 g1 g2 g3 g4 g5 g6 g7
  go_wp2
  go_ret
  exact ⟨rfl, HEND.out⟩
set_option maxHeartbeats 12800000 in
set_option maxRecDepth 100000 in
theorem changes_ren (n : Int) (a : Option Addr) (cap : Nat) (L : List E) (b : Option Addr) (c : Nat) (S : List Int) (M Q : List E) (hMl : M.length ≤ 100000) (hQl : Q.length ≤ 100000) (k : Nat) (hk : k ≠ 0) (hS : S.length ≤ 40) (HLI : Hid (∀ w, EsAt w a L → Calls Try.prog 12 #[.agg #[.int .i64 n, .slice a L.length cap]] w (fun e w' => e = .returned (.bool true) ∧ Below w.heap.size w w'))) (HA : Awake) (HC : Hid (∀ w, EsAt w a L → Calls Try.prog 14 #[.agg #[.int .i64 n, .slice a L.length cap]] w (fun e w' => e = .returned (.int .i64 0) ∧ Below w.heap.size w w'))) (HRN : Hid (∀ w, IsAt w b S → Calls Try.prog 42 #[.int .i64 n, .slice b S.length c] w (fun e w' => e = .returned (.int .i64 (k : Int)) ∧ Below w.heap.size w w'))) (HRL : Hid (∀ w, EsAt w a L → IsAt w b S → Calls Try.prog 43 #[.agg #[.int .i64 n, .slice a L.length cap], .slice b S.length c] w (fun e w' => ∃ a1 c1, e = .returned (.tuple #[.agg #[.int .i64 0, .slice a1 0 c1], .int .i64 (k : Int)]) ∧ Below w.heap.size w w'))) (HLO : Hid (∀ w, EsAt w a L → Calls Try.prog 44 #[.agg #[.int .i64 n, .slice a L.length cap]] w (fun e w' => ∃ a1 c1, e = .returned (.tuple #[.agg #[.int .i64 n, .slice a1 M.length c1], .int .i64 0]) ∧ EsAt w' a1 M ∧ Below w.heap.size w w'))) (HSI : Hid (∀ w, EsAt w a L → Calls Try.prog 45 #[.agg #[.int .i64 n, .slice a L.length cap]] w (fun e w' => ∃ a1 c1, e = .returned (.tuple #[.agg #[.int .i64 n, .slice a1 Q.length c1], .int .i64 0]) ∧ EsAt w' a1 Q ∧ Below w.heap.size w w'))) (HL50 : Hid (∀ w, EsAt w a L → Calls Try.prog 47 #[.agg #[.int .i64 n, .slice a L.length cap], .int .i64 50] w (fun e w' => ∃ a1 c1, e = .returned (.agg #[.int .i64 n, .slice a1 M.length c1]) ∧ EsAt w' a1 M ∧ Below w.heap.size w w'))) (HL1 : Hid (∀ w, EsAt w a L → Calls Try.prog 47 #[.agg #[.int .i64 n, .slice a L.length cap], .int .i64 1] w (fun e w' => ∃ a1 c1, e = .returned (.agg #[.int .i64 n, .slice a1 Q.length c1]) ∧ EsAt w' a1 Q ∧ Below w.heap.size w w'))) (HSM : ∀ m a1 a2 c1 c2 (M : List E) w, M.length ≤ 100000 → EsAt w a1 M → EsAt w a2 M → Calls Try.prog 25 #[.agg #[.int .i64 m, .slice a1 M.length c1], .agg #[.int .i64 m, .slice a2 M.length c2]] w (fun e w' => e = .returned (.bool true) ∧ Below w.heap.size w w')) (w : World) (h : EsAt w a L) (hv : IsAt w b S) :
    Calls Try.prog 7 #[gv n a L.length cap, .slice b S.length c] w (GivesB w true) := by
  unfold GivesB gv
  obtain ⟨W, hW⟩ : ∃ W, W = w.alloc (Obj.cells #[.int .i64 n, .slice a L.length cap] 24) := ⟨_, rfl⟩
  have hB0 : Below w.heap.size w W := by rw [hW]; exact (Below.refl _ w).alloc (Nat.le_refl _) _
  have hG : Blk W w.heap.size 24 #[.int .i64 n, .slice a L.length cap] := by rw [hW]; exact Blk.new _ _ _
  have HW := Lib.hid hW
  have HB0 := Lib.hid hB0
  have hEz : EsAt W a L := h.keep hB0
  have hVz : IsAt W b S := hv.keep hB0
  have HF : Hid (∀ x, Below W.heap.size W x → x.cell? ⟨w.heap.size, 0, none⟩ = some (.int .i64 n) ∧ x.cell? ⟨w.heap.size, 1, none⟩ = some (.slice a L.length cap) ∧ EsAt x a L ∧ IsAt x b S) := Lib.hid fun x hx => ⟨(hG.below hx hG.lt).cell 0, (hG.below hx hG.lt).cell 1, hEz.keep hx, hVz.keep hx⟩
  have hk0 : Below W.heap.size W W := Below.refl _ _
  obtain ⟨g0, g1, -⟩ := HF.out W hk0
  clear hB0 hG hW hEz h hVz hv
  have l1 : decide (40 < ((S.length : Nat) : Int)) = false := decide_eq_false (by omega)
  have q0 : (((k : Nat) : Int) != 0) = true := by rw [bne_iff_ne]; omega
  have q1 : (((k : Nat) : Int) == 0) = false := by rw [beq_eq_false_iff_ne]; omega
  go_enter Try.func7, Try.ntmps7
  go_wp2_with fail
  rw [← HW.out]
  refine (HLI.out _ (HF.out W hk0).2.2.1).mono ?_
  rintro e x1 ⟨rfl, hb1⟩
  have hk1 : Below W.heap.size W x1 := hk0.trans (hb1.mono hk0.size)
  clear hb1 hk0 g0 g1
  obtain ⟨g0, g1, -⟩ := HF.out x1 hk1
  go_wp2_with fail
  refine (HC.out _ (HF.out x1 hk1).2.2.1).mono ?_
  rintro e x2 ⟨rfl, hb2⟩
  have hk2 : Below W.heap.size W x2 := hk1.trans (hb2.mono hk1.size)
  clear hb2 hk1 g0 g1
  obtain ⟨g0, g1, -⟩ := HF.out x2 hk2
  go_wp2_with fail
  refine (HRN.out _ (HF.out x2 hk2).2.2.2).mono ?_
  rintro e x3 ⟨rfl, hb3⟩
  have hk3 : Below W.heap.size W x3 := hk2.trans (hb3.mono hk2.size)
  clear hb3 hk2 g0 g1
  obtain ⟨g0, g1, -⟩ := HF.out x3 hk3
  go_wp2_with fail
  refine (HRL.out _ (HF.out x3 hk3).2.2.1 (HF.out x3 hk3).2.2.2).mono ?_
  rintro e x4 ⟨a7, c7, rfl, hb4⟩
  have hk4 : Below W.heap.size W x4 := hk3.trans (hb4.mono hk3.size)
  clear hb4 hk3 g0 g1
  obtain ⟨g0, g1, -⟩ := HF.out x4 hk4
  obtain ⟨Y1, hY1⟩ : ∃ Y, Y = x4.alloc (Obj.cells #[.int .i64 0, .slice a7 0 c7] 24) := ⟨_, rfl⟩
  have hy : Below x4.heap.size x4 Y1 := by rw [hY1]; exact (Below.refl _ _).alloc (Nat.le_refl _) _
  have hz : Below W.heap.size W Y1 := hk4.trans (hy.mono hk4.size)
  have hQ : Blk Y1 x4.heap.size 24 #[.int .i64 0, .slice a7 0 c7] := by rw [hY1]; exact Blk.new _ _ _
  have HBY1 : Hid (Below w.heap.size w Y1) := Lib.hid (HB0.out.trans (hz.mono HB0.out.size))
  have HFY1 : Hid (∀ x, Below Y1.heap.size Y1 x → x.cell? ⟨w.heap.size, 0, none⟩ = some (.int .i64 n) ∧ x.cell? ⟨w.heap.size, 1, none⟩ = some (.slice a L.length cap) ∧ x.cell? ⟨x4.heap.size, 0, none⟩ = some (.int .i64 0) ∧ x.cell? ⟨x4.heap.size, 1, none⟩ = some (.slice a7 0 c7) ∧ EsAt x a L ∧ IsAt x b S) := Lib.hid fun x hx => ⟨(HF.out x (hz.trans (hx.mono hz.size))).1, (HF.out x (hz.trans (hx.mono hz.size))).2.1, (hQ.below hx hQ.lt).cell 0, (hQ.below hx hQ.lt).cell 1, (HF.out x (hz.trans (hx.mono hz.size))).2.2.1, (HF.out x (hz.trans (hx.mono hz.size))).2.2.2⟩
  clear g0 g1 hk4 hz hQ hy
  have hk5 : Below Y1.heap.size Y1 Y1 := Below.refl _ _
  have g0 : (x4.alloc (Obj.cells #[.int .i64 0, .slice a7 0 c7] 24)).cell? ⟨w.heap.size, 0, none⟩ = some (.int .i64 n) := by rw [← hY1]; exact (HFY1.out _ hk5).1
  have g1 : (x4.alloc (Obj.cells #[.int .i64 0, .slice a7 0 c7] 24)).cell? ⟨w.heap.size, 1, none⟩ = some (.slice a L.length cap) := by rw [← hY1]; exact (HFY1.out _ hk5).2.1
  have g2 : (x4.alloc (Obj.cells #[.int .i64 0, .slice a7 0 c7] 24)).cell? ⟨x4.heap.size, 0, none⟩ = some (.int .i64 0) := by rw [← hY1]; exact (HFY1.out _ hk5).2.2.1
  have g3 : (x4.alloc (Obj.cells #[.int .i64 0, .slice a7 0 c7] 24)).cell? ⟨x4.heap.size, 1, none⟩ = some (.slice a7 0 c7) := by rw [← hY1]; exact (HFY1.out _ hk5).2.2.2.1
  have HY1 := Lib.hid hY1
  clear hY1
  go_wp2_with fail
  rw [← HY1.out]
  refine (HLO.out _ (HFY1.out Y1 hk5).2.2.2.2.1).mono ?_
  rintro e x6 ⟨a8, c8, rfl, hM_6, hb6⟩
  have hk6 : Below Y1.heap.size Y1 x6 := hk5.trans (hb6.mono hk5.size)
  clear hb6 hk5 g0 g1 g2 g3
  obtain ⟨g0, g1, g2, g3, -⟩ := HFY1.out x6 hk6
  obtain ⟨Y2, hY2⟩ : ∃ Y, Y = x6.alloc (Obj.cells #[.int .i64 n, .slice a8 M.length c8] 24) := ⟨_, rfl⟩
  have hy : Below x6.heap.size x6 Y2 := by rw [hY2]; exact (Below.refl _ _).alloc (Nat.le_refl _) _
  have hz : Below Y1.heap.size Y1 Y2 := hk6.trans (hy.mono hk6.size)
  have hQ : Blk Y2 x6.heap.size 24 #[.int .i64 n, .slice a8 M.length c8] := by rw [hY2]; exact Blk.new _ _ _
  have HBY2 : Hid (Below w.heap.size w Y2) := Lib.hid (HBY1.out.trans (hz.mono HBY1.out.size))
  have HFY2 : Hid (∀ x, Below Y2.heap.size Y2 x → x.cell? ⟨w.heap.size, 0, none⟩ = some (.int .i64 n) ∧ x.cell? ⟨w.heap.size, 1, none⟩ = some (.slice a L.length cap) ∧ x.cell? ⟨x4.heap.size, 0, none⟩ = some (.int .i64 0) ∧ x.cell? ⟨x4.heap.size, 1, none⟩ = some (.slice a7 0 c7) ∧ x.cell? ⟨x6.heap.size, 0, none⟩ = some (.int .i64 n) ∧ x.cell? ⟨x6.heap.size, 1, none⟩ = some (.slice a8 M.length c8) ∧ EsAt x a L ∧ IsAt x b S ∧ EsAt x a8 M) := Lib.hid fun x hx => ⟨(HFY1.out x (hz.trans (hx.mono hz.size))).1, (HFY1.out x (hz.trans (hx.mono hz.size))).2.1, (HFY1.out x (hz.trans (hx.mono hz.size))).2.2.1, (HFY1.out x (hz.trans (hx.mono hz.size))).2.2.2.1, (hQ.below hx hQ.lt).cell 0, (hQ.below hx hQ.lt).cell 1, (HFY1.out x (hz.trans (hx.mono hz.size))).2.2.2.2.1, (HFY1.out x (hz.trans (hx.mono hz.size))).2.2.2.2.2, (hM_6.keep hy).keep hx⟩
  clear g0 g1 g2 g3 hk6 hz hQ hy hM_6
  have hk7 : Below Y2.heap.size Y2 Y2 := Below.refl _ _
  have g0 : (x6.alloc (Obj.cells #[.int .i64 n, .slice a8 M.length c8] 24)).cell? ⟨w.heap.size, 0, none⟩ = some (.int .i64 n) := by rw [← hY2]; exact (HFY2.out _ hk7).1
  have g1 : (x6.alloc (Obj.cells #[.int .i64 n, .slice a8 M.length c8] 24)).cell? ⟨w.heap.size, 1, none⟩ = some (.slice a L.length cap) := by rw [← hY2]; exact (HFY2.out _ hk7).2.1
  have g2 : (x6.alloc (Obj.cells #[.int .i64 n, .slice a8 M.length c8] 24)).cell? ⟨x4.heap.size, 0, none⟩ = some (.int .i64 0) := by rw [← hY2]; exact (HFY2.out _ hk7).2.2.1
  have g3 : (x6.alloc (Obj.cells #[.int .i64 n, .slice a8 M.length c8] 24)).cell? ⟨x4.heap.size, 1, none⟩ = some (.slice a7 0 c7) := by rw [← hY2]; exact (HFY2.out _ hk7).2.2.2.1
  have g4 : (x6.alloc (Obj.cells #[.int .i64 n, .slice a8 M.length c8] 24)).cell? ⟨x6.heap.size, 0, none⟩ = some (.int .i64 n) := by rw [← hY2]; exact (HFY2.out _ hk7).2.2.2.2.1
  have g5 : (x6.alloc (Obj.cells #[.int .i64 n, .slice a8 M.length c8] 24)).cell? ⟨x6.heap.size, 1, none⟩ = some (.slice a8 M.length c8) := by rw [← hY2]; exact (HFY2.out _ hk7).2.2.2.2.2.1
  have HY2 := Lib.hid hY2
  clear hY2
  go_wp2_with fail
  rw [← HY2.out]
  refine (HSI.out _ (HFY2.out Y2 hk7).2.2.2.2.2.2.1).mono ?_
  rintro e x8 ⟨a9, c9, rfl, hQ_8, hb8⟩
  have hk8 : Below Y2.heap.size Y2 x8 := hk7.trans (hb8.mono hk7.size)
  clear hb8 hk7 g0 g1 g2 g3 g4 g5
  obtain ⟨g0, g1, g2, g3, g4, g5, -⟩ := HFY2.out x8 hk8
  obtain ⟨Y3, hY3⟩ : ∃ Y, Y = x8.alloc (Obj.cells #[.int .i64 n, .slice a9 Q.length c9] 24) := ⟨_, rfl⟩
  have hy : Below x8.heap.size x8 Y3 := by rw [hY3]; exact (Below.refl _ _).alloc (Nat.le_refl _) _
  have hz : Below Y2.heap.size Y2 Y3 := hk8.trans (hy.mono hk8.size)
  have hQ : Blk Y3 x8.heap.size 24 #[.int .i64 n, .slice a9 Q.length c9] := by rw [hY3]; exact Blk.new _ _ _
  have HBY3 : Hid (Below w.heap.size w Y3) := Lib.hid (HBY2.out.trans (hz.mono HBY2.out.size))
  have HFY3 : Hid (∀ x, Below Y3.heap.size Y3 x → x.cell? ⟨w.heap.size, 0, none⟩ = some (.int .i64 n) ∧ x.cell? ⟨w.heap.size, 1, none⟩ = some (.slice a L.length cap) ∧ x.cell? ⟨x4.heap.size, 0, none⟩ = some (.int .i64 0) ∧ x.cell? ⟨x4.heap.size, 1, none⟩ = some (.slice a7 0 c7) ∧ x.cell? ⟨x6.heap.size, 0, none⟩ = some (.int .i64 n) ∧ x.cell? ⟨x6.heap.size, 1, none⟩ = some (.slice a8 M.length c8) ∧ x.cell? ⟨x8.heap.size, 0, none⟩ = some (.int .i64 n) ∧ x.cell? ⟨x8.heap.size, 1, none⟩ = some (.slice a9 Q.length c9) ∧ EsAt x a L ∧ IsAt x b S ∧ EsAt x a8 M ∧ EsAt x a9 Q) := Lib.hid fun x hx => ⟨(HFY2.out x (hz.trans (hx.mono hz.size))).1, (HFY2.out x (hz.trans (hx.mono hz.size))).2.1, (HFY2.out x (hz.trans (hx.mono hz.size))).2.2.1, (HFY2.out x (hz.trans (hx.mono hz.size))).2.2.2.1, (HFY2.out x (hz.trans (hx.mono hz.size))).2.2.2.2.1, (HFY2.out x (hz.trans (hx.mono hz.size))).2.2.2.2.2.1, (hQ.below hx hQ.lt).cell 0, (hQ.below hx hQ.lt).cell 1, (HFY2.out x (hz.trans (hx.mono hz.size))).2.2.2.2.2.2.1, (HFY2.out x (hz.trans (hx.mono hz.size))).2.2.2.2.2.2.2.1, (HFY2.out x (hz.trans (hx.mono hz.size))).2.2.2.2.2.2.2.2, (hQ_8.keep hy).keep hx⟩
  clear g0 g1 g2 g3 g4 g5 hk8 hz hQ hy hQ_8
  have hk9 : Below Y3.heap.size Y3 Y3 := Below.refl _ _
  have g0 : (x8.alloc (Obj.cells #[.int .i64 n, .slice a9 Q.length c9] 24)).cell? ⟨w.heap.size, 0, none⟩ = some (.int .i64 n) := by rw [← hY3]; exact (HFY3.out _ hk9).1
  have g1 : (x8.alloc (Obj.cells #[.int .i64 n, .slice a9 Q.length c9] 24)).cell? ⟨w.heap.size, 1, none⟩ = some (.slice a L.length cap) := by rw [← hY3]; exact (HFY3.out _ hk9).2.1
  have g2 : (x8.alloc (Obj.cells #[.int .i64 n, .slice a9 Q.length c9] 24)).cell? ⟨x4.heap.size, 0, none⟩ = some (.int .i64 0) := by rw [← hY3]; exact (HFY3.out _ hk9).2.2.1
  have g3 : (x8.alloc (Obj.cells #[.int .i64 n, .slice a9 Q.length c9] 24)).cell? ⟨x4.heap.size, 1, none⟩ = some (.slice a7 0 c7) := by rw [← hY3]; exact (HFY3.out _ hk9).2.2.2.1
  have g4 : (x8.alloc (Obj.cells #[.int .i64 n, .slice a9 Q.length c9] 24)).cell? ⟨x6.heap.size, 0, none⟩ = some (.int .i64 n) := by rw [← hY3]; exact (HFY3.out _ hk9).2.2.2.2.1
  have g5 : (x8.alloc (Obj.cells #[.int .i64 n, .slice a9 Q.length c9] 24)).cell? ⟨x6.heap.size, 1, none⟩ = some (.slice a8 M.length c8) := by rw [← hY3]; exact (HFY3.out _ hk9).2.2.2.2.2.1
  have g6 : (x8.alloc (Obj.cells #[.int .i64 n, .slice a9 Q.length c9] 24)).cell? ⟨x8.heap.size, 0, none⟩ = some (.int .i64 n) := by rw [← hY3]; exact (HFY3.out _ hk9).2.2.2.2.2.2.1
  have g7 : (x8.alloc (Obj.cells #[.int .i64 n, .slice a9 Q.length c9] 24)).cell? ⟨x8.heap.size, 1, none⟩ = some (.slice a9 Q.length c9) := by rw [← hY3]; exact (HFY3.out _ hk9).2.2.2.2.2.2.2.1
  have HY3 := Lib.hid hY3
  clear hY3
  go_wp2_with fail
  rw [← HY3.out]
  refine (HA _).mono ?_
  rintro e x10 ⟨rfl, hb10⟩
  have hk10 : Below Y3.heap.size Y3 x10 := hk9.trans (hb10.mono hk9.size)
  clear hb10 hk9 g0 g1 g2 g3 g4 g5 g6 g7
  obtain ⟨g0, g1, g2, g3, g4, g5, g6, g7, -⟩ := HFY3.out x10 hk10
  go_wp2_with fail
  have hj0 : Below Y3.heap.size Y3 x10.drew := hk10.drew
  refine wp_region_late (S := fun u => Below Y3.heap.size Y3 u) (X := [19]) (by kernel_rfl) ?_
  refine wpAnyL_pureD (i := 0) 64 (.int .i64 (k : Int)) rfl rfl (by kernel_rfl) (by kernel_rfl) (by kernel_rfl) (fun _ _ _ h => h) (Or.inl ⟨by rfl, fun u _ => ?_⟩) ?_
  · go_simp
  try simp only [Act.put, List.setIfInBounds_toArray, List.set_cons_zero, List.set_cons_succ]
  refine wpAnyL_pureD (i := 1) 65 (.bool true) rfl rfl (by kernel_rfl) (by kernel_rfl) (by kernel_rfl) (fun _ _ _ h => h) (Or.inl ⟨by rfl, fun u _ => ?_⟩) ?_
  · go_simp
  try simp only [Act.put, List.setIfInBounds_toArray, List.set_cons_zero, List.set_cons_succ]
  refine wpAnyL_pureD (i := 2) 66 (.bool true) rfl rfl (by kernel_rfl) (by kernel_rfl) (by kernel_rfl) (fun _ _ _ h => h) (Or.inl ⟨by rfl, fun u _ => ?_⟩) ?_
  · go_simp
  try simp only [Act.put, List.setIfInBounds_toArray, List.set_cons_zero, List.set_cons_succ]
  refine wpAnyL_takeD (i := 3) 67 (.agg #[.int .i64 0, .slice a7 0 c7]) rfl rfl (by kernel_rfl) (by kernel_rfl) (by kernel_rfl) (by kernel_rfl) (by kernel_rfl) (fun _ _ _ h => h) hj0 (Or.inl ⟨by rfl, fun u hu => ?_⟩) ?_
  · obtain ⟨t0, t1, t2, t3, t4, t5, t6, t7, -⟩ := HFY3.out u hu
    go_simp
  try simp only [Act.put, List.setIfInBounds_toArray, List.set_cons_zero, List.set_cons_succ]
  refine wpAnyL_pureD (i := 4) 68 (.agg #[.int .i64 0, .slice none 0 0]) rfl rfl (by kernel_rfl) (by kernel_rfl) (by kernel_rfl) (fun _ _ _ h => h) (Or.inl ⟨by rfl, fun u _ => ?_⟩) ?_
  · go_simp
  try simp only [Act.put, List.setIfInBounds_toArray, List.set_cons_zero, List.set_cons_succ]
  refine wpAnyL_one (i := 5) (by kernel_rfl) rfl (fun K hK => ?_)
  go_simp
  go_at_call 25
  refine (HSM 0 a7 none c7 0 [] _ (by simp) (RowAt.nil _ _ _ _) (RowAt.nil _ _ _ _)).mono ?_
  rintro e y1 ⟨rfl, hb1⟩
  have hj1 := hj0.trans (hb1.mono hj0.size)
  show K _ _
  refine hK.out _ _ (fun _ _ => hj1) ?_
  clear hK K hb1
  try simp only [Act.put, List.setIfInBounds_toArray, List.set_cons_zero, List.set_cons_succ]
  refine wpAnyL_pureD (i := 6) 70 (.bool false) rfl rfl (by kernel_rfl) (by kernel_rfl) (by kernel_rfl) (fun _ _ _ h => h) (Or.inl ⟨by rfl, fun u _ => ?_⟩) ?_
  · go_simp
  try simp only [Act.put, List.setIfInBounds_toArray, List.set_cons_zero, List.set_cons_succ]
  refine wpAnyL_pureD (i := 7) 71 (.bool false) rfl rfl (by kernel_rfl) (by kernel_rfl) (by kernel_rfl) (fun _ _ _ h => h) (Or.inl ⟨by rfl, fun u _ => ?_⟩) ?_
  · go_simp
  try simp only [Act.put, List.setIfInBounds_toArray, List.set_cons_zero, List.set_cons_succ]
  refine wpAnyL_pureD (i := 8) 72 (.bool false) rfl rfl (by kernel_rfl) (by kernel_rfl) (by kernel_rfl) (fun _ _ _ h => h) (Or.inl ⟨by rfl, fun u _ => ?_⟩) ?_
  · go_simp
  try simp only [Act.put, List.setIfInBounds_toArray, List.set_cons_zero, List.set_cons_succ]
  refine wpAnyL_pureD (i := 9) 73 (.int .i64 (k : Int)) rfl rfl (by kernel_rfl) (by kernel_rfl) (by kernel_rfl) (fun _ _ _ h => h) (Or.inl ⟨by rfl, fun u _ => ?_⟩) ?_
  · go_simp
  try simp only [Act.put, List.setIfInBounds_toArray, List.set_cons_zero, List.set_cons_succ]
  refine wpAnyL_pureD (i := 10) 74 (.bool false) rfl rfl (by kernel_rfl) (by kernel_rfl) (by kernel_rfl) (fun _ _ _ h => h) (Or.inl ⟨by rfl, fun u _ => ?_⟩) ?_
  · go_simp
  try simp only [Act.put, List.setIfInBounds_toArray, List.set_cons_zero, List.set_cons_succ]
  refine wpAnyL_pureD (i := 11) 75 (.bool false) rfl rfl (by kernel_rfl) (by kernel_rfl) (by kernel_rfl) (fun _ _ _ h => h) (Or.inl ⟨by rfl, fun u _ => ?_⟩) ?_
  · go_simp
  try simp only [Act.put, List.setIfInBounds_toArray, List.set_cons_zero, List.set_cons_succ]
  refine wpAnyL_pureD (i := 12) 76 undef rfl rfl (by kernel_rfl) (by kernel_rfl) (by kernel_rfl) (fun _ _ _ h => h) (Or.inr ⟨by kernel_rfl, rfl⟩) ?_
  try simp only [Act.put, List.setIfInBounds_toArray, List.set_cons_zero, List.set_cons_succ]
  refine wpAnyL_pureD (i := 13) 77 undef rfl rfl (by kernel_rfl) (by kernel_rfl) (by kernel_rfl) (fun _ _ _ h => h) (Or.inr ⟨by kernel_rfl, rfl⟩) ?_
  try simp only [Act.put, List.setIfInBounds_toArray, List.set_cons_zero, List.set_cons_succ]
  refine wpAnyL_pureD (i := 14) 78 undef rfl rfl (by kernel_rfl) (by kernel_rfl) (by kernel_rfl) (fun _ _ _ h => h) (Or.inr ⟨by kernel_rfl, rfl⟩) ?_
  try simp only [Act.put, List.setIfInBounds_toArray, List.set_cons_zero, List.set_cons_succ]
  refine wpAnyL_pureD (i := 15) 79 undef rfl rfl (by kernel_rfl) (by kernel_rfl) (by kernel_rfl) (fun _ _ _ h => h) (Or.inr ⟨by kernel_rfl, rfl⟩) ?_
  try simp only [Act.put, List.setIfInBounds_toArray, List.set_cons_zero, List.set_cons_succ]
  refine wpAnyL_pureD (i := 16) 80 undef rfl rfl (by kernel_rfl) (by kernel_rfl) (by kernel_rfl) (fun _ _ _ h => h) (Or.inr ⟨by kernel_rfl, rfl⟩) ?_
  try simp only [Act.put, List.setIfInBounds_toArray, List.set_cons_zero, List.set_cons_succ]
  refine wpAnyL_pureD (i := 17) 81 undef rfl rfl (by kernel_rfl) (by kernel_rfl) (by kernel_rfl) (fun _ _ _ h => h) (Or.inr ⟨by kernel_rfl, rfl⟩) ?_
  try simp only [Act.put, List.setIfInBounds_toArray, List.set_cons_zero, List.set_cons_succ]
  refine wpAnyL_pureD (i := 18) 82 (.bool false) rfl rfl (by kernel_rfl) (by kernel_rfl) (by kernel_rfl) (fun _ _ _ h => h) (Or.inl ⟨by rfl, fun u _ => ?_⟩) ?_
  · go_simp
  try simp only [Act.put, List.setIfInBounds_toArray, List.set_cons_zero, List.set_cons_succ]
  refine wpAnyL_one (i := 19) (by kernel_rfl) rfl (fun K hK => ?_)
  go_simp
  refine hK.out _ _ (fun h => absurd (by decide) h) ?_
  clear hK K
  refine wpAnyL_done (by kernel_rfl) ?_ _
  try simp only [Act.put, List.setIfInBounds_toArray, List.set_cons_zero, List.set_cons_succ]
  have hend := hj1
  have hkL : Below Y3.heap.size Y3 y1 := hend
  clear hend hj0 g0 g1 g2 g3 g4 g5 g6 g7
  obtain ⟨x90, hx90⟩ : ∃ x, x = y1 := ⟨_, rfl⟩
  have hk90 := hkL
  rw [← hx90] at hk90 ⊢
  clear hx90 hkL
  obtain ⟨g0, g1, g2, g3, g4, g5, g6, g7, -⟩ := HFY3.out x90 hk90
  go_wp2_with fail
  have hj0 : Below Y3.heap.size Y3 x90.drew := hk90.drew
  refine wp_region_late (S := fun u => Below Y3.heap.size Y3 u) (X := [10]) (by kernel_rfl) ?_
  refine wpAnyL_takeD (i := 0) 94 (.agg #[.int .i64 n, .slice a8 M.length c8]) rfl rfl (by kernel_rfl) (by kernel_rfl) (by kernel_rfl) (by kernel_rfl) (by kernel_rfl) (fun _ _ _ h => h) hj0 (Or.inl ⟨by rfl, fun u hu => ?_⟩) ?_
  · obtain ⟨t0, t1, t2, t3, t4, t5, t6, t7, -⟩ := HFY3.out u hu
    go_simp
  try simp only [Act.put, List.setIfInBounds_toArray, List.set_cons_zero, List.set_cons_succ]
  refine wpAnyL_takeD (i := 1) 95 (.agg #[.int .i64 n, .slice a L.length cap]) rfl rfl (by kernel_rfl) (by kernel_rfl) (by kernel_rfl) (by kernel_rfl) (by kernel_rfl) (fun _ _ _ h => h) hj0 (Or.inl ⟨by rfl, fun u hu => ?_⟩) ?_
  · obtain ⟨t0, t1, t2, t3, t4, t5, t6, t7, -⟩ := HFY3.out u hu
    go_simp
  try simp only [Act.put, List.setIfInBounds_toArray, List.set_cons_zero, List.set_cons_succ]
  refine wpAnyL_one (i := 2) (by kernel_rfl) rfl (fun K hK => ?_)
  go_simp
  go_at_call 47
  refine (HL50.out _ (HFY3.out x90.drew hj0).2.2.2.2.2.2.2.2.1).mono ?_
  rintro e y1 ⟨a3, c3, rfl, hI_j1, hb1⟩
  have hj1 := hj0.trans (hb1.mono hj0.size)
  show K _ _
  refine hK.out _ _ (fun _ _ => hj1) ?_
  clear hK K hb1
  try simp only [Act.put, List.setIfInBounds_toArray, List.set_cons_zero, List.set_cons_succ]
  refine wpAnyL_one (i := 3) (by kernel_rfl) rfl (fun K hK => ?_)
  go_simp
  go_at_call 25
  refine (HSM n a8 a3 c8 c3 M _ hMl (HFY3.out y1 hj1).2.2.2.2.2.2.2.2.2.2.1 hI_j1).mono ?_
  rintro e y2 ⟨rfl, hb2⟩
  have hj2 := hj1.trans (hb2.mono hj1.size)
  have hI_j2 := hI_j1.keep hb2
  show K _ _
  refine hK.out _ _ (fun _ _ => hj2) ?_
  clear hK K hb2
  try simp only [Act.put, List.setIfInBounds_toArray, List.set_cons_zero, List.set_cons_succ]
  refine wpAnyL_pureD (i := 4) 98 (.bool true) rfl rfl (by kernel_rfl) (by kernel_rfl) (by kernel_rfl) (fun _ _ _ h => h) (Or.inl ⟨by rfl, fun u _ => ?_⟩) ?_
  · go_simp
  try simp only [Act.put, List.setIfInBounds_toArray, List.set_cons_zero, List.set_cons_succ]
  refine wpAnyL_takeD (i := 5) 99 (.agg #[.int .i64 n, .slice a9 Q.length c9]) rfl rfl (by kernel_rfl) (by kernel_rfl) (by kernel_rfl) (by kernel_rfl) (by kernel_rfl) (fun _ _ _ h => h) hj2 (Or.inl ⟨by rfl, fun u hu => ?_⟩) ?_
  · obtain ⟨t0, t1, t2, t3, t4, t5, t6, t7, -⟩ := HFY3.out u hu
    go_simp
  try simp only [Act.put, List.setIfInBounds_toArray, List.set_cons_zero, List.set_cons_succ]
  refine wpAnyL_takeD (i := 6) 100 (.agg #[.int .i64 n, .slice a L.length cap]) rfl rfl (by kernel_rfl) (by kernel_rfl) (by kernel_rfl) (by kernel_rfl) (by kernel_rfl) (fun _ _ _ h => h) hj2 (Or.inl ⟨by rfl, fun u hu => ?_⟩) ?_
  · obtain ⟨t0, t1, t2, t3, t4, t5, t6, t7, -⟩ := HFY3.out u hu
    go_simp
  try simp only [Act.put, List.setIfInBounds_toArray, List.set_cons_zero, List.set_cons_succ]
  refine wpAnyL_one (i := 7) (by kernel_rfl) rfl (fun K hK => ?_)
  go_simp
  go_at_call 47
  refine (HL1.out _ (HFY3.out y2 hj2).2.2.2.2.2.2.2.2.1).mono ?_
  rintro e y3 ⟨a4, c4, rfl, hT_j3, hb3⟩
  have hj3 := hj2.trans (hb3.mono hj2.size)
  have hI_j3 := hI_j2.keep hb3
  show K _ _
  refine hK.out _ _ (fun _ _ => hj3) ?_
  clear hK K hb3
  try simp only [Act.put, List.setIfInBounds_toArray, List.set_cons_zero, List.set_cons_succ]
  refine wpAnyL_one (i := 8) (by kernel_rfl) rfl (fun K hK => ?_)
  go_simp
  go_at_call 25
  refine (HSM n a9 a4 c9 c4 Q _ hQl (HFY3.out y3 hj3).2.2.2.2.2.2.2.2.2.2.2 hT_j3).mono ?_
  rintro e y4 ⟨rfl, hb4⟩
  have hj4 := hj3.trans (hb4.mono hj3.size)
  have hI_j4 := hI_j3.keep hb4
  have hT_j4 := hT_j3.keep hb4
  show K _ _
  refine hK.out _ _ (fun _ _ => hj4) ?_
  clear hK K hb4
  try simp only [Act.put, List.setIfInBounds_toArray, List.set_cons_zero, List.set_cons_succ]
  refine wpAnyL_pureD (i := 9) 103 (.bool true) rfl rfl (by kernel_rfl) (by kernel_rfl) (by kernel_rfl) (fun _ _ _ h => h) (Or.inl ⟨by rfl, fun u _ => ?_⟩) ?_
  · go_simp
  try simp only [Act.put, List.setIfInBounds_toArray, List.set_cons_zero, List.set_cons_succ]
  refine wpAnyL_one (i := 10) (by kernel_rfl) rfl (fun K hK => ?_)
  go_simp
  refine hK.out _ _ (fun h => absurd (by decide) h) ?_
  clear hK K
  refine wpAnyL_done (by kernel_rfl) ?_ _
  try simp only [Act.put, List.setIfInBounds_toArray, List.set_cons_zero, List.set_cons_succ]
  have hend := hj4
  have HEND := Lib.hid (HBY3.out.trans (hend.mono HBY3.out.size))
  clear hend hj0
  go_wp2
  go_ret
  exact ⟨rfl, HEND.out⟩
set_option maxHeartbeats 12800000 in
set_option maxRecDepth 100000 in
theorem changes_ok (n : Int) (a : Option Addr) (cap : Nat) (L : List E) (b : Option Addr) (c : Nat) (S : List Int) (M Q : List E) (hMl : M.length ≤ 100000) (hQl : Q.length ≤ 100000) (J : List E) (hJl : J.length ≤ 100000) (hS : S.length ≤ 40) (HLI : Hid (∀ w, EsAt w a L → Calls Try.prog 12 #[.agg #[.int .i64 n, .slice a L.length cap]] w (fun e w' => e = .returned (.bool true) ∧ Below w.heap.size w w'))) (HA : Awake) (HC : Hid (∀ w, EsAt w a L → Calls Try.prog 14 #[.agg #[.int .i64 n, .slice a L.length cap]] w (fun e w' => e = .returned (.int .i64 0) ∧ Below w.heap.size w w'))) (HRN : Hid (∀ w, IsAt w b S → Calls Try.prog 42 #[.int .i64 n, .slice b S.length c] w (fun e w' => e = .returned (.int .i64 0) ∧ Below w.heap.size w w'))) (HRL : Hid (∀ w, EsAt w a L → IsAt w b S → Calls Try.prog 43 #[.agg #[.int .i64 n, .slice a L.length cap], .slice b S.length c] w (fun e w' => ∃ a1 c1, e = .returned (.tuple #[.agg #[.int .i64 n, .slice a1 J.length c1], .int .i64 0]) ∧ EsAt w' a1 J ∧ Below w.heap.size w w'))) (HLO : Hid (∀ w, EsAt w a L → Calls Try.prog 44 #[.agg #[.int .i64 n, .slice a L.length cap]] w (fun e w' => ∃ a1 c1, e = .returned (.tuple #[.agg #[.int .i64 n, .slice a1 M.length c1], .int .i64 0]) ∧ EsAt w' a1 M ∧ Below w.heap.size w w'))) (HSI : Hid (∀ w, EsAt w a L → Calls Try.prog 45 #[.agg #[.int .i64 n, .slice a L.length cap]] w (fun e w' => ∃ a1 c1, e = .returned (.tuple #[.agg #[.int .i64 n, .slice a1 Q.length c1], .int .i64 0]) ∧ EsAt w' a1 Q ∧ Below w.heap.size w w'))) (HRR : Hid (∀ w, EsAt w a L → IsAt w b S → Calls Try.prog 46 #[.agg #[.int .i64 n, .slice a L.length cap], .slice b S.length c] w (fun e w' => ∃ a1 c1, e = .returned (.agg #[.int .i64 n, .slice a1 J.length c1]) ∧ EsAt w' a1 J ∧ Below w.heap.size w w'))) (HL50 : Hid (∀ w, EsAt w a L → Calls Try.prog 47 #[.agg #[.int .i64 n, .slice a L.length cap], .int .i64 50] w (fun e w' => ∃ a1 c1, e = .returned (.agg #[.int .i64 n, .slice a1 M.length c1]) ∧ EsAt w' a1 M ∧ Below w.heap.size w w'))) (HL1 : Hid (∀ w, EsAt w a L → Calls Try.prog 47 #[.agg #[.int .i64 n, .slice a L.length cap], .int .i64 1] w (fun e w' => ∃ a1 c1, e = .returned (.agg #[.int .i64 n, .slice a1 Q.length c1]) ∧ EsAt w' a1 Q ∧ Below w.heap.size w w'))) (HSM : ∀ m a1 a2 c1 c2 (M : List E) w, M.length ≤ 100000 → EsAt w a1 M → EsAt w a2 M → Calls Try.prog 25 #[.agg #[.int .i64 m, .slice a1 M.length c1], .agg #[.int .i64 m, .slice a2 M.length c2]] w (fun e w' => e = .returned (.bool true) ∧ Below w.heap.size w w')) (w : World) (h : EsAt w a L) (hv : IsAt w b S) :
    Calls Try.prog 7 #[gv n a L.length cap, .slice b S.length c] w (GivesB w true) := by
  unfold GivesB gv
  obtain ⟨W, hW⟩ : ∃ W, W = w.alloc (Obj.cells #[.int .i64 n, .slice a L.length cap] 24) := ⟨_, rfl⟩
  have hB0 : Below w.heap.size w W := by rw [hW]; exact (Below.refl _ w).alloc (Nat.le_refl _) _
  have hG : Blk W w.heap.size 24 #[.int .i64 n, .slice a L.length cap] := by rw [hW]; exact Blk.new _ _ _
  have HW := Lib.hid hW
  have HB0 := Lib.hid hB0
  have hEz : EsAt W a L := h.keep hB0
  have hVz : IsAt W b S := hv.keep hB0
  have HF : Hid (∀ x, Below W.heap.size W x → x.cell? ⟨w.heap.size, 0, none⟩ = some (.int .i64 n) ∧ x.cell? ⟨w.heap.size, 1, none⟩ = some (.slice a L.length cap) ∧ EsAt x a L ∧ IsAt x b S) := Lib.hid fun x hx => ⟨(hG.below hx hG.lt).cell 0, (hG.below hx hG.lt).cell 1, hEz.keep hx, hVz.keep hx⟩
  have hk0 : Below W.heap.size W W := Below.refl _ _
  obtain ⟨g0, g1, -⟩ := HF.out W hk0
  clear hB0 hG hW hEz h hVz hv
  have l1 : decide (40 < ((S.length : Nat) : Int)) = false := decide_eq_false (by omega)
  go_enter Try.func7, Try.ntmps7
  go_wp2_with fail
  rw [← HW.out]
  refine (HLI.out _ (HF.out W hk0).2.2.1).mono ?_
  rintro e x1 ⟨rfl, hb1⟩
  have hk1 : Below W.heap.size W x1 := hk0.trans (hb1.mono hk0.size)
  clear hb1 hk0 g0 g1
  obtain ⟨g0, g1, -⟩ := HF.out x1 hk1
  go_wp2_with fail
  refine (HC.out _ (HF.out x1 hk1).2.2.1).mono ?_
  rintro e x2 ⟨rfl, hb2⟩
  have hk2 : Below W.heap.size W x2 := hk1.trans (hb2.mono hk1.size)
  clear hb2 hk1 g0 g1
  obtain ⟨g0, g1, -⟩ := HF.out x2 hk2
  go_wp2_with fail
  refine (HRN.out _ (HF.out x2 hk2).2.2.2).mono ?_
  rintro e x3 ⟨rfl, hb3⟩
  have hk3 : Below W.heap.size W x3 := hk2.trans (hb3.mono hk2.size)
  clear hb3 hk2 g0 g1
  obtain ⟨g0, g1, -⟩ := HF.out x3 hk3
  go_wp2_with fail
  refine (HRL.out _ (HF.out x3 hk3).2.2.1 (HF.out x3 hk3).2.2.2).mono ?_
  rintro e x4 ⟨a7, c7, rfl, hJ_4, hb4⟩
  have hk4 : Below W.heap.size W x4 := hk3.trans (hb4.mono hk3.size)
  clear hb4 hk3 g0 g1
  obtain ⟨g0, g1, -⟩ := HF.out x4 hk4
  obtain ⟨Y1, hY1⟩ : ∃ Y, Y = x4.alloc (Obj.cells #[.int .i64 n, .slice a7 J.length c7] 24) := ⟨_, rfl⟩
  have hy : Below x4.heap.size x4 Y1 := by rw [hY1]; exact (Below.refl _ _).alloc (Nat.le_refl _) _
  have hz : Below W.heap.size W Y1 := hk4.trans (hy.mono hk4.size)
  have hQ : Blk Y1 x4.heap.size 24 #[.int .i64 n, .slice a7 J.length c7] := by rw [hY1]; exact Blk.new _ _ _
  have HBY1 : Hid (Below w.heap.size w Y1) := Lib.hid (HB0.out.trans (hz.mono HB0.out.size))
  have HFY1 : Hid (∀ x, Below Y1.heap.size Y1 x → x.cell? ⟨w.heap.size, 0, none⟩ = some (.int .i64 n) ∧ x.cell? ⟨w.heap.size, 1, none⟩ = some (.slice a L.length cap) ∧ x.cell? ⟨x4.heap.size, 0, none⟩ = some (.int .i64 n) ∧ x.cell? ⟨x4.heap.size, 1, none⟩ = some (.slice a7 J.length c7) ∧ EsAt x a L ∧ IsAt x b S ∧ EsAt x a7 J) := Lib.hid fun x hx => ⟨(HF.out x (hz.trans (hx.mono hz.size))).1, (HF.out x (hz.trans (hx.mono hz.size))).2.1, (hQ.below hx hQ.lt).cell 0, (hQ.below hx hQ.lt).cell 1, (HF.out x (hz.trans (hx.mono hz.size))).2.2.1, (HF.out x (hz.trans (hx.mono hz.size))).2.2.2, (hJ_4.keep hy).keep hx⟩
  clear g0 g1 hk4 hz hQ hy hJ_4
  have hk5 : Below Y1.heap.size Y1 Y1 := Below.refl _ _
  have g0 : (x4.alloc (Obj.cells #[.int .i64 n, .slice a7 J.length c7] 24)).cell? ⟨w.heap.size, 0, none⟩ = some (.int .i64 n) := by rw [← hY1]; exact (HFY1.out _ hk5).1
  have g1 : (x4.alloc (Obj.cells #[.int .i64 n, .slice a7 J.length c7] 24)).cell? ⟨w.heap.size, 1, none⟩ = some (.slice a L.length cap) := by rw [← hY1]; exact (HFY1.out _ hk5).2.1
  have g2 : (x4.alloc (Obj.cells #[.int .i64 n, .slice a7 J.length c7] 24)).cell? ⟨x4.heap.size, 0, none⟩ = some (.int .i64 n) := by rw [← hY1]; exact (HFY1.out _ hk5).2.2.1
  have g3 : (x4.alloc (Obj.cells #[.int .i64 n, .slice a7 J.length c7] 24)).cell? ⟨x4.heap.size, 1, none⟩ = some (.slice a7 J.length c7) := by rw [← hY1]; exact (HFY1.out _ hk5).2.2.2.1
  have HY1 := Lib.hid hY1
  clear hY1
  go_wp2_with fail
  rw [← HY1.out]
  refine (HLO.out _ (HFY1.out Y1 hk5).2.2.2.2.1).mono ?_
  rintro e x6 ⟨a8, c8, rfl, hM_6, hb6⟩
  have hk6 : Below Y1.heap.size Y1 x6 := hk5.trans (hb6.mono hk5.size)
  clear hb6 hk5 g0 g1 g2 g3
  obtain ⟨g0, g1, g2, g3, -⟩ := HFY1.out x6 hk6
  obtain ⟨Y2, hY2⟩ : ∃ Y, Y = x6.alloc (Obj.cells #[.int .i64 n, .slice a8 M.length c8] 24) := ⟨_, rfl⟩
  have hy : Below x6.heap.size x6 Y2 := by rw [hY2]; exact (Below.refl _ _).alloc (Nat.le_refl _) _
  have hz : Below Y1.heap.size Y1 Y2 := hk6.trans (hy.mono hk6.size)
  have hQ : Blk Y2 x6.heap.size 24 #[.int .i64 n, .slice a8 M.length c8] := by rw [hY2]; exact Blk.new _ _ _
  have HBY2 : Hid (Below w.heap.size w Y2) := Lib.hid (HBY1.out.trans (hz.mono HBY1.out.size))
  have HFY2 : Hid (∀ x, Below Y2.heap.size Y2 x → x.cell? ⟨w.heap.size, 0, none⟩ = some (.int .i64 n) ∧ x.cell? ⟨w.heap.size, 1, none⟩ = some (.slice a L.length cap) ∧ x.cell? ⟨x4.heap.size, 0, none⟩ = some (.int .i64 n) ∧ x.cell? ⟨x4.heap.size, 1, none⟩ = some (.slice a7 J.length c7) ∧ x.cell? ⟨x6.heap.size, 0, none⟩ = some (.int .i64 n) ∧ x.cell? ⟨x6.heap.size, 1, none⟩ = some (.slice a8 M.length c8) ∧ EsAt x a L ∧ IsAt x b S ∧ EsAt x a7 J ∧ EsAt x a8 M) := Lib.hid fun x hx => ⟨(HFY1.out x (hz.trans (hx.mono hz.size))).1, (HFY1.out x (hz.trans (hx.mono hz.size))).2.1, (HFY1.out x (hz.trans (hx.mono hz.size))).2.2.1, (HFY1.out x (hz.trans (hx.mono hz.size))).2.2.2.1, (hQ.below hx hQ.lt).cell 0, (hQ.below hx hQ.lt).cell 1, (HFY1.out x (hz.trans (hx.mono hz.size))).2.2.2.2.1, (HFY1.out x (hz.trans (hx.mono hz.size))).2.2.2.2.2.1, (HFY1.out x (hz.trans (hx.mono hz.size))).2.2.2.2.2.2, (hM_6.keep hy).keep hx⟩
  clear g0 g1 g2 g3 hk6 hz hQ hy hM_6
  have hk7 : Below Y2.heap.size Y2 Y2 := Below.refl _ _
  have g0 : (x6.alloc (Obj.cells #[.int .i64 n, .slice a8 M.length c8] 24)).cell? ⟨w.heap.size, 0, none⟩ = some (.int .i64 n) := by rw [← hY2]; exact (HFY2.out _ hk7).1
  have g1 : (x6.alloc (Obj.cells #[.int .i64 n, .slice a8 M.length c8] 24)).cell? ⟨w.heap.size, 1, none⟩ = some (.slice a L.length cap) := by rw [← hY2]; exact (HFY2.out _ hk7).2.1
  have g2 : (x6.alloc (Obj.cells #[.int .i64 n, .slice a8 M.length c8] 24)).cell? ⟨x4.heap.size, 0, none⟩ = some (.int .i64 n) := by rw [← hY2]; exact (HFY2.out _ hk7).2.2.1
  have g3 : (x6.alloc (Obj.cells #[.int .i64 n, .slice a8 M.length c8] 24)).cell? ⟨x4.heap.size, 1, none⟩ = some (.slice a7 J.length c7) := by rw [← hY2]; exact (HFY2.out _ hk7).2.2.2.1
  have g4 : (x6.alloc (Obj.cells #[.int .i64 n, .slice a8 M.length c8] 24)).cell? ⟨x6.heap.size, 0, none⟩ = some (.int .i64 n) := by rw [← hY2]; exact (HFY2.out _ hk7).2.2.2.2.1
  have g5 : (x6.alloc (Obj.cells #[.int .i64 n, .slice a8 M.length c8] 24)).cell? ⟨x6.heap.size, 1, none⟩ = some (.slice a8 M.length c8) := by rw [← hY2]; exact (HFY2.out _ hk7).2.2.2.2.2.1
  have HY2 := Lib.hid hY2
  clear hY2
  go_wp2_with fail
  rw [← HY2.out]
  refine (HSI.out _ (HFY2.out Y2 hk7).2.2.2.2.2.2.1).mono ?_
  rintro e x8 ⟨a9, c9, rfl, hQ_8, hb8⟩
  have hk8 : Below Y2.heap.size Y2 x8 := hk7.trans (hb8.mono hk7.size)
  clear hb8 hk7 g0 g1 g2 g3 g4 g5
  obtain ⟨g0, g1, g2, g3, g4, g5, -⟩ := HFY2.out x8 hk8
  obtain ⟨Y3, hY3⟩ : ∃ Y, Y = x8.alloc (Obj.cells #[.int .i64 n, .slice a9 Q.length c9] 24) := ⟨_, rfl⟩
  have hy : Below x8.heap.size x8 Y3 := by rw [hY3]; exact (Below.refl _ _).alloc (Nat.le_refl _) _
  have hz : Below Y2.heap.size Y2 Y3 := hk8.trans (hy.mono hk8.size)
  have hQ : Blk Y3 x8.heap.size 24 #[.int .i64 n, .slice a9 Q.length c9] := by rw [hY3]; exact Blk.new _ _ _
  have HBY3 : Hid (Below w.heap.size w Y3) := Lib.hid (HBY2.out.trans (hz.mono HBY2.out.size))
  have HFY3 : Hid (∀ x, Below Y3.heap.size Y3 x → x.cell? ⟨w.heap.size, 0, none⟩ = some (.int .i64 n) ∧ x.cell? ⟨w.heap.size, 1, none⟩ = some (.slice a L.length cap) ∧ x.cell? ⟨x4.heap.size, 0, none⟩ = some (.int .i64 n) ∧ x.cell? ⟨x4.heap.size, 1, none⟩ = some (.slice a7 J.length c7) ∧ x.cell? ⟨x6.heap.size, 0, none⟩ = some (.int .i64 n) ∧ x.cell? ⟨x6.heap.size, 1, none⟩ = some (.slice a8 M.length c8) ∧ x.cell? ⟨x8.heap.size, 0, none⟩ = some (.int .i64 n) ∧ x.cell? ⟨x8.heap.size, 1, none⟩ = some (.slice a9 Q.length c9) ∧ EsAt x a L ∧ IsAt x b S ∧ EsAt x a7 J ∧ EsAt x a8 M ∧ EsAt x a9 Q) := Lib.hid fun x hx => ⟨(HFY2.out x (hz.trans (hx.mono hz.size))).1, (HFY2.out x (hz.trans (hx.mono hz.size))).2.1, (HFY2.out x (hz.trans (hx.mono hz.size))).2.2.1, (HFY2.out x (hz.trans (hx.mono hz.size))).2.2.2.1, (HFY2.out x (hz.trans (hx.mono hz.size))).2.2.2.2.1, (HFY2.out x (hz.trans (hx.mono hz.size))).2.2.2.2.2.1, (hQ.below hx hQ.lt).cell 0, (hQ.below hx hQ.lt).cell 1, (HFY2.out x (hz.trans (hx.mono hz.size))).2.2.2.2.2.2.1, (HFY2.out x (hz.trans (hx.mono hz.size))).2.2.2.2.2.2.2.1, (HFY2.out x (hz.trans (hx.mono hz.size))).2.2.2.2.2.2.2.2.1, (HFY2.out x (hz.trans (hx.mono hz.size))).2.2.2.2.2.2.2.2.2, (hQ_8.keep hy).keep hx⟩
  clear g0 g1 g2 g3 g4 g5 hk8 hz hQ hy hQ_8
  have hk9 : Below Y3.heap.size Y3 Y3 := Below.refl _ _
  have g0 : (x8.alloc (Obj.cells #[.int .i64 n, .slice a9 Q.length c9] 24)).cell? ⟨w.heap.size, 0, none⟩ = some (.int .i64 n) := by rw [← hY3]; exact (HFY3.out _ hk9).1
  have g1 : (x8.alloc (Obj.cells #[.int .i64 n, .slice a9 Q.length c9] 24)).cell? ⟨w.heap.size, 1, none⟩ = some (.slice a L.length cap) := by rw [← hY3]; exact (HFY3.out _ hk9).2.1
  have g2 : (x8.alloc (Obj.cells #[.int .i64 n, .slice a9 Q.length c9] 24)).cell? ⟨x4.heap.size, 0, none⟩ = some (.int .i64 n) := by rw [← hY3]; exact (HFY3.out _ hk9).2.2.1
  have g3 : (x8.alloc (Obj.cells #[.int .i64 n, .slice a9 Q.length c9] 24)).cell? ⟨x4.heap.size, 1, none⟩ = some (.slice a7 J.length c7) := by rw [← hY3]; exact (HFY3.out _ hk9).2.2.2.1
  have g4 : (x8.alloc (Obj.cells #[.int .i64 n, .slice a9 Q.length c9] 24)).cell? ⟨x6.heap.size, 0, none⟩ = some (.int .i64 n) := by rw [← hY3]; exact (HFY3.out _ hk9).2.2.2.2.1
  have g5 : (x8.alloc (Obj.cells #[.int .i64 n, .slice a9 Q.length c9] 24)).cell? ⟨x6.heap.size, 1, none⟩ = some (.slice a8 M.length c8) := by rw [← hY3]; exact (HFY3.out _ hk9).2.2.2.2.2.1
  have g6 : (x8.alloc (Obj.cells #[.int .i64 n, .slice a9 Q.length c9] 24)).cell? ⟨x8.heap.size, 0, none⟩ = some (.int .i64 n) := by rw [← hY3]; exact (HFY3.out _ hk9).2.2.2.2.2.2.1
  have g7 : (x8.alloc (Obj.cells #[.int .i64 n, .slice a9 Q.length c9] 24)).cell? ⟨x8.heap.size, 1, none⟩ = some (.slice a9 Q.length c9) := by rw [← hY3]; exact (HFY3.out _ hk9).2.2.2.2.2.2.2.1
  have HY3 := Lib.hid hY3
  clear hY3
  go_wp2_with fail
  rw [← HY3.out]
  refine (HA _).mono ?_
  rintro e x10 ⟨rfl, hb10⟩
  have hk10 : Below Y3.heap.size Y3 x10 := hk9.trans (hb10.mono hk9.size)
  clear hb10 hk9 g0 g1 g2 g3 g4 g5 g6 g7
  obtain ⟨g0, g1, g2, g3, g4, g5, g6, g7, -⟩ := HFY3.out x10 hk10
  go_wp2_with fail
  have hj0 : Below Y3.heap.size Y3 x10.drew := hk10.drew
  refine wp_region_late (S := fun u => Below Y3.heap.size Y3 u) (X := [19]) (by kernel_rfl) ?_
  refine wpAnyL_pureD (i := 0) 64 (.int .i64 0) rfl rfl (by kernel_rfl) (by kernel_rfl) (by kernel_rfl) (fun _ _ _ h => h) (Or.inl ⟨by rfl, fun u _ => ?_⟩) ?_
  · go_simp
  try simp only [Act.put, List.setIfInBounds_toArray, List.set_cons_zero, List.set_cons_succ]
  refine wpAnyL_pureD (i := 1) 65 (.bool false) rfl rfl (by kernel_rfl) (by kernel_rfl) (by kernel_rfl) (fun _ _ _ h => h) (Or.inl ⟨by rfl, fun u _ => ?_⟩) ?_
  · go_simp
  try simp only [Act.put, List.setIfInBounds_toArray, List.set_cons_zero, List.set_cons_succ]
  refine wpAnyL_pureD (i := 2) 66 (.bool false) rfl rfl (by kernel_rfl) (by kernel_rfl) (by kernel_rfl) (fun _ _ _ h => h) (Or.inl ⟨by rfl, fun u _ => ?_⟩) ?_
  · go_simp
  try simp only [Act.put, List.setIfInBounds_toArray, List.set_cons_zero, List.set_cons_succ]
  refine wpAnyL_pureD (i := 3) 67 undef rfl rfl (by kernel_rfl) (by kernel_rfl) (by kernel_rfl) (fun _ _ _ h => h) (Or.inr ⟨by kernel_rfl, rfl⟩) ?_
  try simp only [Act.put, List.setIfInBounds_toArray, List.set_cons_zero, List.set_cons_succ]
  refine wpAnyL_pureD (i := 4) 68 undef rfl rfl (by kernel_rfl) (by kernel_rfl) (by kernel_rfl) (fun _ _ _ h => h) (Or.inr ⟨by kernel_rfl, rfl⟩) ?_
  try simp only [Act.put, List.setIfInBounds_toArray, List.set_cons_zero, List.set_cons_succ]
  refine wpAnyL_pureD (i := 5) 69 undef rfl rfl (by kernel_rfl) (by kernel_rfl) (by kernel_rfl) (fun _ _ _ h => h) (Or.inr ⟨by kernel_rfl, rfl⟩) ?_
  try simp only [Act.put, List.setIfInBounds_toArray, List.set_cons_zero, List.set_cons_succ]
  refine wpAnyL_pureD (i := 6) 70 undef rfl rfl (by kernel_rfl) (by kernel_rfl) (by kernel_rfl) (fun _ _ _ h => h) (Or.inr ⟨by kernel_rfl, rfl⟩) ?_
  try simp only [Act.put, List.setIfInBounds_toArray, List.set_cons_zero, List.set_cons_succ]
  refine wpAnyL_pureD (i := 7) 71 (.bool false) rfl rfl (by kernel_rfl) (by kernel_rfl) (by kernel_rfl) (fun _ _ _ h => h) (Or.inl ⟨by rfl, fun u _ => ?_⟩) ?_
  · go_simp
  try simp only [Act.put, List.setIfInBounds_toArray, List.set_cons_zero, List.set_cons_succ]
  refine wpAnyL_pureD (i := 8) 72 (.bool false) rfl rfl (by kernel_rfl) (by kernel_rfl) (by kernel_rfl) (fun _ _ _ h => h) (Or.inl ⟨by rfl, fun u _ => ?_⟩) ?_
  · go_simp
  try simp only [Act.put, List.setIfInBounds_toArray, List.set_cons_zero, List.set_cons_succ]
  refine wpAnyL_pureD (i := 9) 73 (.int .i64 0) rfl rfl (by kernel_rfl) (by kernel_rfl) (by kernel_rfl) (fun _ _ _ h => h) (Or.inl ⟨by rfl, fun u _ => ?_⟩) ?_
  · go_simp
  try simp only [Act.put, List.setIfInBounds_toArray, List.set_cons_zero, List.set_cons_succ]
  refine wpAnyL_pureD (i := 10) 74 (.bool true) rfl rfl (by kernel_rfl) (by kernel_rfl) (by kernel_rfl) (fun _ _ _ h => h) (Or.inl ⟨by rfl, fun u _ => ?_⟩) ?_
  · go_simp
  try simp only [Act.put, List.setIfInBounds_toArray, List.set_cons_zero, List.set_cons_succ]
  refine wpAnyL_pureD (i := 11) 75 (.bool true) rfl rfl (by kernel_rfl) (by kernel_rfl) (by kernel_rfl) (fun _ _ _ h => h) (Or.inl ⟨by rfl, fun u _ => ?_⟩) ?_
  · go_simp
  try simp only [Act.put, List.setIfInBounds_toArray, List.set_cons_zero, List.set_cons_succ]
  refine wpAnyL_takeD (i := 12) 76 (.agg #[.int .i64 n, .slice a7 J.length c7]) rfl rfl (by kernel_rfl) (by kernel_rfl) (by kernel_rfl) (by kernel_rfl) (by kernel_rfl) (fun _ _ _ h => h) hj0 (Or.inl ⟨by rfl, fun u hu => ?_⟩) ?_
  · obtain ⟨t0, t1, t2, t3, t4, t5, t6, t7, -⟩ := HFY3.out u hu
    go_simp
  try simp only [Act.put, List.setIfInBounds_toArray, List.set_cons_zero, List.set_cons_succ]
  refine wpAnyL_takeD (i := 13) 77 (.agg #[.int .i64 n, .slice a L.length cap]) rfl rfl (by kernel_rfl) (by kernel_rfl) (by kernel_rfl) (by kernel_rfl) (by kernel_rfl) (fun _ _ _ h => h) hj0 (Or.inl ⟨by rfl, fun u hu => ?_⟩) ?_
  · obtain ⟨t0, t1, t2, t3, t4, t5, t6, t7, -⟩ := HFY3.out u hu
    go_simp
  try simp only [Act.put, List.setIfInBounds_toArray, List.set_cons_zero, List.set_cons_succ]
  refine wpAnyL_pureD (i := 14) 78 (.slice b S.length c) rfl rfl (by kernel_rfl) (by kernel_rfl) (by kernel_rfl) (fun _ _ _ h => h) (Or.inl ⟨by rfl, fun u _ => ?_⟩) ?_
  · go_simp
  try simp only [Act.put, List.setIfInBounds_toArray, List.set_cons_zero, List.set_cons_succ]
  refine wpAnyL_one (i := 15) (by kernel_rfl) rfl (fun K hK => ?_)
  go_simp
  go_at_call 46
  refine (HRR.out _ (HFY3.out x10.drew hj0).2.2.2.2.2.2.2.2.1 (HFY3.out x10.drew hj0).2.2.2.2.2.2.2.2.2.1).mono ?_
  rintro e y1 ⟨a3, c3, rfl, hI_j1, hb1⟩
  have hj1 := hj0.trans (hb1.mono hj0.size)
  show K _ _
  refine hK.out _ _ (fun _ _ => hj1) ?_
  clear hK K hb1
  try simp only [Act.put, List.setIfInBounds_toArray, List.set_cons_zero, List.set_cons_succ]
  refine wpAnyL_one (i := 16) (by kernel_rfl) rfl (fun K hK => ?_)
  go_simp
  go_at_call 25
  refine (HSM n a7 a3 c7 c3 J _ hJl (HFY3.out y1 hj1).2.2.2.2.2.2.2.2.2.2.1 hI_j1).mono ?_
  rintro e y2 ⟨rfl, hb2⟩
  have hj2 := hj1.trans (hb2.mono hj1.size)
  have hI_j2 := hI_j1.keep hb2
  show K _ _
  refine hK.out _ _ (fun _ _ => hj2) ?_
  clear hK K hb2
  try simp only [Act.put, List.setIfInBounds_toArray, List.set_cons_zero, List.set_cons_succ]
  refine wpAnyL_pureD (i := 17) 81 (.bool false) rfl rfl (by kernel_rfl) (by kernel_rfl) (by kernel_rfl) (fun _ _ _ h => h) (Or.inl ⟨by rfl, fun u _ => ?_⟩) ?_
  · go_simp
  try simp only [Act.put, List.setIfInBounds_toArray, List.set_cons_zero, List.set_cons_succ]
  refine wpAnyL_pureD (i := 18) 82 (.bool false) rfl rfl (by kernel_rfl) (by kernel_rfl) (by kernel_rfl) (fun _ _ _ h => h) (Or.inl ⟨by rfl, fun u _ => ?_⟩) ?_
  · go_simp
  try simp only [Act.put, List.setIfInBounds_toArray, List.set_cons_zero, List.set_cons_succ]
  refine wpAnyL_one (i := 19) (by kernel_rfl) rfl (fun K hK => ?_)
  go_simp
  refine hK.out _ _ (fun h => absurd (by decide) h) ?_
  clear hK K
  refine wpAnyL_done (by kernel_rfl) ?_ _
  try simp only [Act.put, List.setIfInBounds_toArray, List.set_cons_zero, List.set_cons_succ]
  have hend := hj2
  have hkL : Below Y3.heap.size Y3 y2 := hend
  clear hend hj0 g0 g1 g2 g3 g4 g5 g6 g7
  obtain ⟨x90, hx90⟩ : ∃ x, x = y2 := ⟨_, rfl⟩
  have hk90 := hkL
  rw [← hx90] at hk90 ⊢
  clear hx90 hkL
  obtain ⟨g0, g1, g2, g3, g4, g5, g6, g7, -⟩ := HFY3.out x90 hk90
  go_wp2_with fail
  have hj0 : Below Y3.heap.size Y3 x90.drew := hk90.drew
  refine wp_region_late (S := fun u => Below Y3.heap.size Y3 u) (X := [10]) (by kernel_rfl) ?_
  refine wpAnyL_takeD (i := 0) 94 (.agg #[.int .i64 n, .slice a8 M.length c8]) rfl rfl (by kernel_rfl) (by kernel_rfl) (by kernel_rfl) (by kernel_rfl) (by kernel_rfl) (fun _ _ _ h => h) hj0 (Or.inl ⟨by rfl, fun u hu => ?_⟩) ?_
  · obtain ⟨t0, t1, t2, t3, t4, t5, t6, t7, -⟩ := HFY3.out u hu
    go_simp
  try simp only [Act.put, List.setIfInBounds_toArray, List.set_cons_zero, List.set_cons_succ]
  refine wpAnyL_takeD (i := 1) 95 (.agg #[.int .i64 n, .slice a L.length cap]) rfl rfl (by kernel_rfl) (by kernel_rfl) (by kernel_rfl) (by kernel_rfl) (by kernel_rfl) (fun _ _ _ h => h) hj0 (Or.inl ⟨by rfl, fun u hu => ?_⟩) ?_
  · obtain ⟨t0, t1, t2, t3, t4, t5, t6, t7, -⟩ := HFY3.out u hu
    go_simp
  try simp only [Act.put, List.setIfInBounds_toArray, List.set_cons_zero, List.set_cons_succ]
  refine wpAnyL_one (i := 2) (by kernel_rfl) rfl (fun K hK => ?_)
  go_simp
  go_at_call 47
  refine (HL50.out _ (HFY3.out x90.drew hj0).2.2.2.2.2.2.2.2.1).mono ?_
  rintro e y1 ⟨a3, c3, rfl, hI_j1, hb1⟩
  have hj1 := hj0.trans (hb1.mono hj0.size)
  show K _ _
  refine hK.out _ _ (fun _ _ => hj1) ?_
  clear hK K hb1
  try simp only [Act.put, List.setIfInBounds_toArray, List.set_cons_zero, List.set_cons_succ]
  refine wpAnyL_one (i := 3) (by kernel_rfl) rfl (fun K hK => ?_)
  go_simp
  go_at_call 25
  refine (HSM n a8 a3 c8 c3 M _ hMl (HFY3.out y1 hj1).2.2.2.2.2.2.2.2.2.2.2.1 hI_j1).mono ?_
  rintro e y2 ⟨rfl, hb2⟩
  have hj2 := hj1.trans (hb2.mono hj1.size)
  have hI_j2 := hI_j1.keep hb2
  show K _ _
  refine hK.out _ _ (fun _ _ => hj2) ?_
  clear hK K hb2
  try simp only [Act.put, List.setIfInBounds_toArray, List.set_cons_zero, List.set_cons_succ]
  refine wpAnyL_pureD (i := 4) 98 (.bool true) rfl rfl (by kernel_rfl) (by kernel_rfl) (by kernel_rfl) (fun _ _ _ h => h) (Or.inl ⟨by rfl, fun u _ => ?_⟩) ?_
  · go_simp
  try simp only [Act.put, List.setIfInBounds_toArray, List.set_cons_zero, List.set_cons_succ]
  refine wpAnyL_takeD (i := 5) 99 (.agg #[.int .i64 n, .slice a9 Q.length c9]) rfl rfl (by kernel_rfl) (by kernel_rfl) (by kernel_rfl) (by kernel_rfl) (by kernel_rfl) (fun _ _ _ h => h) hj2 (Or.inl ⟨by rfl, fun u hu => ?_⟩) ?_
  · obtain ⟨t0, t1, t2, t3, t4, t5, t6, t7, -⟩ := HFY3.out u hu
    go_simp
  try simp only [Act.put, List.setIfInBounds_toArray, List.set_cons_zero, List.set_cons_succ]
  refine wpAnyL_takeD (i := 6) 100 (.agg #[.int .i64 n, .slice a L.length cap]) rfl rfl (by kernel_rfl) (by kernel_rfl) (by kernel_rfl) (by kernel_rfl) (by kernel_rfl) (fun _ _ _ h => h) hj2 (Or.inl ⟨by rfl, fun u hu => ?_⟩) ?_
  · obtain ⟨t0, t1, t2, t3, t4, t5, t6, t7, -⟩ := HFY3.out u hu
    go_simp
  try simp only [Act.put, List.setIfInBounds_toArray, List.set_cons_zero, List.set_cons_succ]
  refine wpAnyL_one (i := 7) (by kernel_rfl) rfl (fun K hK => ?_)
  go_simp
  go_at_call 47
  refine (HL1.out _ (HFY3.out y2 hj2).2.2.2.2.2.2.2.2.1).mono ?_
  rintro e y3 ⟨a4, c4, rfl, hT_j3, hb3⟩
  have hj3 := hj2.trans (hb3.mono hj2.size)
  have hI_j3 := hI_j2.keep hb3
  show K _ _
  refine hK.out _ _ (fun _ _ => hj3) ?_
  clear hK K hb3
  try simp only [Act.put, List.setIfInBounds_toArray, List.set_cons_zero, List.set_cons_succ]
  refine wpAnyL_one (i := 8) (by kernel_rfl) rfl (fun K hK => ?_)
  go_simp
  go_at_call 25
  refine (HSM n a9 a4 c9 c4 Q _ hQl (HFY3.out y3 hj3).2.2.2.2.2.2.2.2.2.2.2.2 hT_j3).mono ?_
  rintro e y4 ⟨rfl, hb4⟩
  have hj4 := hj3.trans (hb4.mono hj3.size)
  have hI_j4 := hI_j3.keep hb4
  have hT_j4 := hT_j3.keep hb4
  show K _ _
  refine hK.out _ _ (fun _ _ => hj4) ?_
  clear hK K hb4
  try simp only [Act.put, List.setIfInBounds_toArray, List.set_cons_zero, List.set_cons_succ]
  refine wpAnyL_pureD (i := 9) 103 (.bool true) rfl rfl (by kernel_rfl) (by kernel_rfl) (by kernel_rfl) (fun _ _ _ h => h) (Or.inl ⟨by rfl, fun u _ => ?_⟩) ?_
  · go_simp
  try simp only [Act.put, List.setIfInBounds_toArray, List.set_cons_zero, List.set_cons_succ]
  refine wpAnyL_one (i := 10) (by kernel_rfl) rfl (fun K hK => ?_)
  go_simp
  refine hK.out _ _ (fun h => absurd (by decide) h) ?_
  clear hK K
  refine wpAnyL_done (by kernel_rfl) ?_ _
  try simp only [Act.put, List.setIfInBounds_toArray, List.set_cons_zero, List.set_cons_succ]
  have hend := hj4
  have HEND := Lib.hid (HBY3.out.trans (hend.mono HBY3.out.size))
  clear hend hj0
  go_wp2
  go_ret
  exact ⟨rfl, HEND.out⟩
theorem lim50 {n : Int} {L : List E} (h : ∀ e ∈ L, 0 ≤ e.a ∧ e.a ≤ e.b ∧ e.b < n ∧ 1 ≤ e.m ∧ e.m ≤ 50) : limL 50 L = noL L := by
  unfold limL
  refine (List.map_congr_left fun e he => ?_).trans (List.map_id _)
  have h1 := h e (List.mem_filter.1 he).1
  unfold limE
  rw [if_neg (by omega)]; rfl
theorem lim1 {n : Int} {L : List E} (h : ∀ e ∈ L, 0 ≤ e.a ∧ e.a ≤ e.b ∧ e.b < n ∧ 1 ≤ e.m ∧ e.m ≤ 50) : limL 1 L = (noL L).map fun e => ⟨e.a, e.b, 1⟩ := by
  unfold limL
  refine List.map_congr_left fun e he => ?_
  have h1 := h e (List.mem_filter.1 he).1
  unfold limE
  congr 1
  split <;> omega
theorem changes_any (n : Int) (a : Option Addr) (cap : Nat) (L : List E) (b : Option Addr) (c : Nat) (S : List Int) (hc : S.length ≤ c) (w : World) (h : EsAt w a L) (hv : IsAt w b S) :
    Calls Try.prog 7 #[gv n a L.length cap, .slice b S.length c] w (GivesB w true) := by
  cases hl : lightG n L with
  | false => exact changes_dark n a cap L b c S (Lib.hid fun w h => by have := light_any n a cap L w h; rw [hl] at this; exact this) awake_any w h hv
  | true =>
    have hlen := light_len hl
    have HLI : Hid (∀ w, EsAt w a L → Calls Try.prog 12 #[.agg #[.int .i64 n, .slice a L.length cap]] w (fun e w' => e = .returned (.bool true) ∧ Below w.heap.size w w')) := Lib.hid fun w h => by have := light_any n a cap L w h; rw [hl] at this; exact this
    by_cases hS : 40 < S.length
    · exact changes_long n a cap L b c S hS HLI awake_any w h hv
    have hSM := fun m a1 a2 c1 c2 M w hM h1 h2 => same_any m a1 a2 c1 c2 M w hM h1 h2
    by_cases hk : chkG n L = 0
    · have hR := right_of hk
      have hnl := noL_le L
      have e1 := lim50 hR.rng
      have e2 := lim1 hR.rng
      have HC : Hid (∀ w, EsAt w a L → Calls Try.prog 14 #[.agg #[.int .i64 n, .slice a L.length cap]] w (fun e w' => e = .returned (.int .i64 0) ∧ Below w.heap.size w w')) := Lib.hid fun w h => by have := rcheck_any n a cap L (by omega) w h; rw [hk] at this; exact this
      have HLO : Hid (∀ w, EsAt w a L → Calls Try.prog 44 #[.agg #[.int .i64 n, .slice a L.length cap]] w (fun e w' => ∃ a1 c1, e = .returned (.tuple #[.agg #[.int .i64 n, .slice a1 (noL L).length c1], .int .i64 0]) ∧ EsAt w' a1 (noL L) ∧ Below w.heap.size w w')) := by
        refine Lib.hid fun w h => (ploopless_any n a cap L (by omega) w h).mono ?_
        rintro e w' ⟨a', c', rfl, h1, -, hb⟩
        rw [hk, if_pos rfl] at h1
        exact ⟨a', c', by rw [hk, if_pos rfl, if_pos rfl]; rfl, h1, hb⟩
      have HSI : Hid (∀ w, EsAt w a L → Calls Try.prog 45 #[.agg #[.int .i64 n, .slice a L.length cap]] w (fun e w' => ∃ a1 c1, e = .returned (.tuple #[.agg #[.int .i64 n, .slice a1 ((noL L).map fun e => (⟨e.a, e.b, 1⟩ : E)).length c1], .int .i64 0]) ∧ EsAt w' a1 ((noL L).map fun e => (⟨e.a, e.b, 1⟩ : E)) ∧ Below w.heap.size w w')) := by
        refine Lib.hid fun w h => (psimple_any n a cap L (by omega) w h).mono ?_
        rintro e w' ⟨a', c', rfl, h1, -, hb⟩
        rw [hk, if_pos rfl] at h1
        exact ⟨a', c', by rw [hk, if_pos rfl, if_pos rfl]; rfl, h1, hb⟩
      have HL50 : Hid (∀ w, EsAt w a L → Calls Try.prog 47 #[.agg #[.int .i64 n, .slice a L.length cap], .int .i64 50] w (fun e w' => ∃ a1 c1, e = .returned (.agg #[.int .i64 n, .slice a1 (noL L).length c1]) ∧ EsAt w' a1 (noL L) ∧ Below w.heap.size w w')) := by
        refine Lib.hid fun w h => (rlimited_any n a cap L (by omega) 50 w h).mono ?_
        rintro e w' ⟨a', c', rfl, h1, -, hb⟩
        rw [e1] at h1
        exact ⟨a', c', by rw [e1]; rfl, h1, hb⟩
      have HL1 : Hid (∀ w, EsAt w a L → Calls Try.prog 47 #[.agg #[.int .i64 n, .slice a L.length cap], .int .i64 1] w (fun e w' => ∃ a1 c1, e = .returned (.agg #[.int .i64 n, .slice a1 ((noL L).map fun e => (⟨e.a, e.b, 1⟩ : E)).length c1]) ∧ EsAt w' a1 ((noL L).map fun e => (⟨e.a, e.b, 1⟩ : E)) ∧ Below w.heap.size w w')) := by
        refine Lib.hid fun w h => (rlimited_any n a cap L (by omega) 1 w h).mono ?_
        rintro e w' ⟨a', c', rfl, h1, -, hb⟩
        rw [e2] at h1
        exact ⟨a', c', by rw [e2]; rfl, h1, hb⟩
      have hQ : ((noL L).map fun e => (⟨e.a, e.b, 1⟩ : E)).length ≤ 100000 := by rw [List.length_map]; omega
      have HRN : Hid (∀ w, IsAt w b S → Calls Try.prog 42 #[.int .i64 n, .slice b S.length c] w (fun e w' => e = .returned (.int .i64 (renE n S : Nat)) ∧ Below w.heap.size w w')) := Lib.hid fun w h => rrenaming_any n b c S (by omega) hc w h
      by_cases hr : renE n S = 0
      · have hn : (S.length : Int) = n := by
          unfold renE at hr
          by_cases e : (S.length : Int) = n
          · exact e
          · rw [if_pos e] at hr; omega
        subst hn
        have hf : firstE (nErr S.length S) S.length = 0 := by
          unfold renE at hr
          rw [if_neg (by simp)] at hr
          exact hr
        rw [hr] at HRN
        refine changes_ok _ a cap L b c S (noL L) _ (by omega) hQ (relG L S) (joinT_small _ _ (by omega)) (by omega) HLI awake_any HC HRN ?_ HLO HSI ?_ HL50 HL1 hSM w h hv
        · refine Lib.hid fun w h hv => (prelabel_main a cap L (by omega) b c S hc hk w h hv).mono ?_
          rintro e w' ⟨a', c', rfl, h1, -, hb⟩
          rw [hf, if_pos rfl] at h1
          exact ⟨a', c', by rw [hf, if_pos rfl, if_pos rfl]; rfl, h1, hb⟩
        · refine Lib.hid fun w h hv => (rrelabelled_any a cap L (by omega) hR.srt b c S (by omega) (firstE_all hf) w h hv).mono ?_
          rintro e w' ⟨a', c', rfl, h1, -, hb⟩
          exact ⟨a', c', rfl, h1, hb⟩
      · refine changes_ren n a cap L b c S (noL L) _ (by omega) hQ (renE n S) hr (by omega) HLI awake_any HC HRN ?_ HLO HSI HL50 HL1 hSM w h hv
        by_cases hn : (S.length : Int) = n
        · subst hn
          have hf : renE S.length S = firstE (nErr S.length S) S.length := by unfold renE; rw [if_neg (by simp)]
          refine Lib.hid fun w h hv => (prelabel_main a cap L (by omega) b c S hc hk w h hv).mono ?_
          rintro e w' ⟨a', c', rfl, -, -, hb⟩
          rw [hf] at hr ⊢
          exact ⟨a', c', by rw [if_neg hr, if_neg hr]; rfl, hb⟩
        · have hf : renE n S = 8 := by unfold renE; rw [if_pos hn]
          refine Lib.hid fun w h hv => (prelabel_shape n a cap L (by omega) b c S hk hn w h hv).mono ?_
          rintro e w' ⟨a', c', rfl, -, -, hb⟩
          exact ⟨a', c', by rw [hf]; rfl, hb⟩
    · refine changes_err n a cap L b c S (chkG n L) hk (by omega) HLI awake_any ?_ ?_ ?_ ?_ hSM w h hv
      · exact Lib.hid fun w h => rcheck_any n a cap L (by omega) w h
      · refine Lib.hid fun w h hv => (prelabel_err n a cap L (by omega) b c S hk w h hv).mono ?_
        rintro e w' ⟨a', c', rfl, -, -, hb⟩
        exact ⟨a', c', rfl, hb⟩
      · refine Lib.hid fun w h => (ploopless_any n a cap L (by omega) w h).mono ?_
        rintro e w' ⟨a', c', rfl, -, -, hb⟩
        exact ⟨a', c', by rw [if_neg hk, if_neg hk]; rfl, hb⟩
      · refine Lib.hid fun w h => (psimple_any n a cap L (by omega) w h).mono ?_
        rintro e w' ⟨a', c', rfl, -, -, hb⟩
        exact ⟨a', c', by rw [if_neg hk, if_neg hk]; rfl, hb⟩
end Go.Proofs.Ytjaafneoinidkaa
