/- The law of counts. -/
import Derived.Test.YtjaafneoinidkaaHp
namespace Go.Proofs.Ytjaafneoinidkaa
open Go.RowKit Go.Shelf Go.Proofs.Gr
attribute [local go_sem] Oper.semAt_some

set_option maxHeartbeats 12800000 in
set_option maxRecDepth 100000 in
theorem counts_dark (n : Int) (a : Option Addr) (cap : Nat) (L : List E) (v u : Int) (HLI : Hid (∀ w, EsAt w a L → Calls Try.prog 12 #[.agg #[.int .i64 n, .slice a L.length cap]] w (fun e w' => e = .returned (.bool false) ∧ Below w.heap.size w w'))) (HA : Awake) (w : World) (h : EsAt w a L) :
    Calls Try.prog 5 #[gv n a L.length cap, .int .i64 v, .int .i64 u] w (GivesB w true) := by
  unfold GivesB gv
  obtain ⟨W, hW⟩ : ∃ W, W = w.alloc (Obj.cells #[.int .i64 n, .slice a L.length cap] 24) := ⟨_, rfl⟩
  have hB0 : Below w.heap.size w W := by rw [hW]; exact (Below.refl _ w).alloc (Nat.le_refl _) _
  have hG : Blk W w.heap.size 24 #[.int .i64 n, .slice a L.length cap] := by rw [hW]; exact Blk.new _ _ _
  have HW := Lib.hid hW
  have HB0 := Lib.hid hB0
  have hE0 : EsAt W a L := h.keep hB0
  have HF : Hid (∀ x, Below W.heap.size W x → x.cell? ⟨w.heap.size, 0, none⟩ = some (.int .i64 n) ∧ x.cell? ⟨w.heap.size, 1, none⟩ = some (.slice a L.length cap) ∧ EsAt x a L) := Lib.hid fun x hx => ⟨(hG.below hx hG.lt).cell 0, (hG.below hx hG.lt).cell 1, hE0.keep hx⟩
  have g0 : W.cell? ⟨w.heap.size, 0, none⟩ = some (.int .i64 n) := hG.cell 0
  have g1 : W.cell? ⟨w.heap.size, 1, none⟩ = some (.slice a L.length cap) := hG.cell 1
  have hk0 : Below W.heap.size W W := Below.refl _ _
  clear hB0 hG hW h hE0
  go_enter Try.func5, Try.ntmps5
  go_wp2_with fail
  rw [← HW.out]
  refine (HLI.out _ (HF.out _ hk0).2.2).mono ?_
  rintro e x1 ⟨rfl, hb1⟩
  have hk1 : Below W.heap.size W x1 := hk0.trans (hb1.mono hk0.size)
  clear hb1 hk0 g0 g1
  obtain ⟨g0, g1, -⟩ := HF.out _ hk1
  go_wp2_with fail
  refine (HA _).mono ?_
  rintro e x2 ⟨rfl, hb2⟩
  have hk2 : Below W.heap.size W x2 := hk1.trans (hb2.mono hk1.size)
  clear hb2 hk1 g0 g1
  obtain ⟨g0, g1, -⟩ := HF.out _ hk2
  have HEND := Lib.hid (HB0.out.trans (hk2.mono HB0.out.size))
  clear hk2 g0 g1
  go_wp2
  go_ret
  exact ⟨rfl, HEND.out⟩
set_option maxHeartbeats 12800000 in
set_option maxRecDepth 100000 in
theorem counts_err (n : Int) (a : Option Addr) (cap : Nat) (L : List E) (v u : Int) (k : Nat) (hk : k ≠ 0) (HLI : Hid (∀ w, EsAt w a L → Calls Try.prog 12 #[.agg #[.int .i64 n, .slice a L.length cap]] w (fun e w' => e = .returned (.bool true) ∧ Below w.heap.size w w'))) (HA : Awake) (HC : Hid (∀ w, EsAt w a L → Calls Try.prog 14 #[.agg #[.int .i64 n, .slice a L.length cap]] w (fun e w' => e = .returned (.int .i64 (k : Int)) ∧ Below w.heap.size w w'))) (HD : Hid (∀ w, EsAt w a L → Calls Try.prog 27 #[.agg #[.int .i64 n, .slice a L.length cap], .int .i64 v] w (fun e w' => e = .returned (.tuple #[.int .i64 0, .int .i64 (k : Int)]) ∧ Below w.heap.size w w'))) (HVa : Hid (∀ w, EsAt w a L → Calls Try.prog 28 #[.agg #[.int .i64 n, .slice a L.length cap], .int .i64 v] w (fun e w' => e = .returned (.tuple #[.int .i64 0, .int .i64 (k : Int)]) ∧ Below w.heap.size w w'))) (HN : Hid (∀ w, EsAt w a L → Calls Try.prog 29 #[.agg #[.int .i64 n, .slice a L.length cap], .int .i64 v] w (fun e w' => ∃ b d, e = .returned (.tuple #[.slice b 0 d, .int .i64 (k : Int)]) ∧ Below w.heap.size w w'))) (HB : Hid (∀ w, EsAt w a L → Calls Try.prog 30 #[.agg #[.int .i64 n, .slice a L.length cap], .int .i64 v, .int .i64 u] w (fun e w' => e = .returned (.tuple #[.int .i64 0, .int .i64 (k : Int)]) ∧ Below w.heap.size w w'))) (w : World) (h : EsAt w a L) :
    Calls Try.prog 5 #[gv n a L.length cap, .int .i64 v, .int .i64 u] w (GivesB w true) := by
  unfold GivesB gv
  obtain ⟨W, hW⟩ : ∃ W, W = w.alloc (Obj.cells #[.int .i64 n, .slice a L.length cap] 24) := ⟨_, rfl⟩
  have hB0 : Below w.heap.size w W := by rw [hW]; exact (Below.refl _ w).alloc (Nat.le_refl _) _
  have hG : Blk W w.heap.size 24 #[.int .i64 n, .slice a L.length cap] := by rw [hW]; exact Blk.new _ _ _
  have HW := Lib.hid hW
  have HB0 := Lib.hid hB0
  have hE0 : EsAt W a L := h.keep hB0
  have HF : Hid (∀ x, Below W.heap.size W x → x.cell? ⟨w.heap.size, 0, none⟩ = some (.int .i64 n) ∧ x.cell? ⟨w.heap.size, 1, none⟩ = some (.slice a L.length cap) ∧ EsAt x a L) := Lib.hid fun x hx => ⟨(hG.below hx hG.lt).cell 0, (hG.below hx hG.lt).cell 1, hE0.keep hx⟩
  have g0 : W.cell? ⟨w.heap.size, 0, none⟩ = some (.int .i64 n) := hG.cell 0
  have g1 : W.cell? ⟨w.heap.size, 1, none⟩ = some (.slice a L.length cap) := hG.cell 1
  have hk0 : Below W.heap.size W W := Below.refl _ _
  clear hB0 hG hW h hE0
  have q0 : (((k : Nat) : Int) != 0) = true := by rw [bne_iff_ne]; omega
  have q1 : (((k : Nat) : Int) == 0) = false := by rw [beq_eq_false_iff_ne]; omega
  go_enter Try.func5, Try.ntmps5
  go_wp2_with fail
  rw [← HW.out]
  refine (HLI.out _ (HF.out _ hk0).2.2).mono ?_
  rintro e x1 ⟨rfl, hb1⟩
  have hk1 : Below W.heap.size W x1 := hk0.trans (hb1.mono hk0.size)
  clear hb1 hk0 g0 g1
  obtain ⟨g0, g1, -⟩ := HF.out _ hk1
  go_wp2_with fail
  refine (HC.out _ (HF.out _ hk1).2.2).mono ?_
  rintro e x2 ⟨rfl, hb2⟩
  have hk2 : Below W.heap.size W x2 := hk1.trans (hb2.mono hk1.size)
  clear hb2 hk1 g0 g1
  obtain ⟨g0, g1, -⟩ := HF.out _ hk2
  go_wp2_with fail
  refine (HD.out _ (HF.out _ hk2).2.2).mono ?_
  rintro e x3 ⟨rfl, hb3⟩
  have hk3 : Below W.heap.size W x3 := hk2.trans (hb3.mono hk2.size)
  clear hb3 hk2 g0 g1
  obtain ⟨g0, g1, -⟩ := HF.out _ hk3
  go_wp2_with fail
  refine (HVa.out _ (HF.out _ hk3).2.2).mono ?_
  rintro e x4 ⟨rfl, hb4⟩
  have hk4 : Below W.heap.size W x4 := hk3.trans (hb4.mono hk3.size)
  clear hb4 hk3 g0 g1
  obtain ⟨g0, g1, -⟩ := HF.out _ hk4
  go_wp2_with fail
  refine (HN.out _ (HF.out _ hk4).2.2).mono ?_
  rintro e x5 ⟨b, d, rfl, hb5⟩
  have hk5 : Below W.heap.size W x5 := hk4.trans (hb5.mono hk4.size)
  clear hb5 hk4 g0 g1
  obtain ⟨g0, g1, -⟩ := HF.out _ hk5
  go_wp2_with fail
  refine (HB.out _ (HF.out _ hk5).2.2).mono ?_
  rintro e x6 ⟨rfl, hb6⟩
  have hk6 : Below W.heap.size W x6 := hk5.trans (hb6.mono hk5.size)
  clear hb6 hk5 g0 g1
  obtain ⟨g0, g1, -⟩ := HF.out _ hk6
  go_wp2_with fail
  refine (HA _).mono ?_
  rintro e x7 ⟨rfl, hb7⟩
  have hk7 : Below W.heap.size W x7 := hk6.trans (hb7.mono hk6.size)
  clear hb7 hk6 g0 g1
  obtain ⟨g0, g1, -⟩ := HF.out _ hk7
  have HEND := Lib.hid (HB0.out.trans (hk7.mono HB0.out.size))
  clear hk7 g0 g1
  go_wp2
  go_ret
  exact ⟨rfl, HEND.out⟩
set_option maxHeartbeats 12800000 in
set_option maxRecDepth 100000 in
theorem counts_badv (n : Int) (a : Option Addr) (cap : Nat) (L : List E) (v u : Int) (HLI : Hid (∀ w, EsAt w a L → Calls Try.prog 12 #[.agg #[.int .i64 n, .slice a L.length cap]] w (fun e w' => e = .returned (.bool true) ∧ Below w.heap.size w w'))) (HA : Awake) (HC : Hid (∀ w, EsAt w a L → Calls Try.prog 14 #[.agg #[.int .i64 n, .slice a L.length cap]] w (fun e w' => e = .returned (.int .i64 0) ∧ Below w.heap.size w w'))) (HX : ∀ w, Calls Try.prog 26 #[.agg #[.int .i64 n, .slice a L.length cap], .int .i64 v] w (fun e w' => e = .returned (.bool false) ∧ Below w.heap.size w w')) (HD : Hid (∀ w, EsAt w a L → Calls Try.prog 27 #[.agg #[.int .i64 n, .slice a L.length cap], .int .i64 v] w (fun e w' => e = .returned (.tuple #[.int .i64 0, .int .i64 2]) ∧ Below w.heap.size w w'))) (HVa : Hid (∀ w, EsAt w a L → Calls Try.prog 28 #[.agg #[.int .i64 n, .slice a L.length cap], .int .i64 v] w (fun e w' => e = .returned (.tuple #[.int .i64 0, .int .i64 2]) ∧ Below w.heap.size w w'))) (HN : Hid (∀ w, EsAt w a L → Calls Try.prog 29 #[.agg #[.int .i64 n, .slice a L.length cap], .int .i64 v] w (fun e w' => ∃ b d, e = .returned (.tuple #[.slice b 0 d, .int .i64 2]) ∧ Below w.heap.size w w'))) (HB : Hid (∀ w, EsAt w a L → Calls Try.prog 30 #[.agg #[.int .i64 n, .slice a L.length cap], .int .i64 v, .int .i64 u] w (fun e w' => e = .returned (.tuple #[.int .i64 0, .int .i64 2]) ∧ Below w.heap.size w w'))) (w : World) (h : EsAt w a L) :
    Calls Try.prog 5 #[gv n a L.length cap, .int .i64 v, .int .i64 u] w (GivesB w true) := by
  unfold GivesB gv
  obtain ⟨W, hW⟩ : ∃ W, W = w.alloc (Obj.cells #[.int .i64 n, .slice a L.length cap] 24) := ⟨_, rfl⟩
  have hB0 : Below w.heap.size w W := by rw [hW]; exact (Below.refl _ w).alloc (Nat.le_refl _) _
  have hG : Blk W w.heap.size 24 #[.int .i64 n, .slice a L.length cap] := by rw [hW]; exact Blk.new _ _ _
  have HW := Lib.hid hW
  have HB0 := Lib.hid hB0
  have hE0 : EsAt W a L := h.keep hB0
  have HF : Hid (∀ x, Below W.heap.size W x → x.cell? ⟨w.heap.size, 0, none⟩ = some (.int .i64 n) ∧ x.cell? ⟨w.heap.size, 1, none⟩ = some (.slice a L.length cap) ∧ EsAt x a L) := Lib.hid fun x hx => ⟨(hG.below hx hG.lt).cell 0, (hG.below hx hG.lt).cell 1, hE0.keep hx⟩
  have g0 : W.cell? ⟨w.heap.size, 0, none⟩ = some (.int .i64 n) := hG.cell 0
  have g1 : W.cell? ⟨w.heap.size, 1, none⟩ = some (.slice a L.length cap) := hG.cell 1
  have hk0 : Below W.heap.size W W := Below.refl _ _
  clear hB0 hG hW h hE0
  go_enter Try.func5, Try.ntmps5
  go_wp2_with fail
  rw [← HW.out]
  refine (HLI.out _ (HF.out _ hk0).2.2).mono ?_
  rintro e x1 ⟨rfl, hb1⟩
  have hk1 : Below W.heap.size W x1 := hk0.trans (hb1.mono hk0.size)
  clear hb1 hk0 g0 g1
  obtain ⟨g0, g1, -⟩ := HF.out _ hk1
  go_wp2_with fail
  refine (HC.out _ (HF.out _ hk1).2.2).mono ?_
  rintro e x2 ⟨rfl, hb2⟩
  have hk2 : Below W.heap.size W x2 := hk1.trans (hb2.mono hk1.size)
  clear hb2 hk1 g0 g1
  obtain ⟨g0, g1, -⟩ := HF.out _ hk2
  go_wp2_with fail
  refine (HX _).mono ?_
  rintro e x3 ⟨rfl, hb3⟩
  have hk3 : Below W.heap.size W x3 := hk2.trans (hb3.mono hk2.size)
  clear hb3 hk2 g0 g1
  obtain ⟨g0, g1, -⟩ := HF.out _ hk3
  go_wp2_with fail
  refine (HD.out _ (HF.out _ hk3).2.2).mono ?_
  rintro e x4 ⟨rfl, hb4⟩
  have hk4 : Below W.heap.size W x4 := hk3.trans (hb4.mono hk3.size)
  clear hb4 hk3 g0 g1
  obtain ⟨g0, g1, -⟩ := HF.out _ hk4
  go_wp2_with fail
  refine (HVa.out _ (HF.out _ hk4).2.2).mono ?_
  rintro e x5 ⟨rfl, hb5⟩
  have hk5 : Below W.heap.size W x5 := hk4.trans (hb5.mono hk4.size)
  clear hb5 hk4 g0 g1
  obtain ⟨g0, g1, -⟩ := HF.out _ hk5
  go_wp2_with fail
  refine (HN.out _ (HF.out _ hk5).2.2).mono ?_
  rintro e x6 ⟨b, d, rfl, hb6⟩
  have hk6 : Below W.heap.size W x6 := hk5.trans (hb6.mono hk5.size)
  clear hb6 hk5 g0 g1
  obtain ⟨g0, g1, -⟩ := HF.out _ hk6
  go_wp2_with fail
  refine (HB.out _ (HF.out _ hk6).2.2).mono ?_
  rintro e x7 ⟨rfl, hb7⟩
  have hk7 : Below W.heap.size W x7 := hk6.trans (hb7.mono hk6.size)
  clear hb7 hk6 g0 g1
  obtain ⟨g0, g1, -⟩ := HF.out _ hk7
  go_wp2_with fail
  refine (HA _).mono ?_
  rintro e x8 ⟨rfl, hb8⟩
  have hk8 : Below W.heap.size W x8 := hk7.trans (hb8.mono hk7.size)
  clear hb8 hk7 g0 g1
  obtain ⟨g0, g1, -⟩ := HF.out _ hk8
  have HEND := Lib.hid (HB0.out.trans (hk8.mono HB0.out.size))
  clear hk8 g0 g1
  go_wp2
  go_ret
  exact ⟨rfl, HEND.out⟩
set_option maxHeartbeats 12800000 in
set_option maxRecDepth 100000 in
theorem counts_badu (n : Int) (a : Option Addr) (cap : Nat) (L : List E) (v u : Int) (D VV : Int) (NR : List Int) (HLI : Hid (∀ w, EsAt w a L → Calls Try.prog 12 #[.agg #[.int .i64 n, .slice a L.length cap]] w (fun e w' => e = .returned (.bool true) ∧ Below w.heap.size w w'))) (HA : Awake) (HC : Hid (∀ w, EsAt w a L → Calls Try.prog 14 #[.agg #[.int .i64 n, .slice a L.length cap]] w (fun e w' => e = .returned (.int .i64 0) ∧ Below w.heap.size w w'))) (HX : ∀ w, Calls Try.prog 26 #[.agg #[.int .i64 n, .slice a L.length cap], .int .i64 v] w (fun e w' => e = .returned (.bool true) ∧ Below w.heap.size w w')) (HY : ∀ w, Calls Try.prog 26 #[.agg #[.int .i64 n, .slice a L.length cap], .int .i64 u] w (fun e w' => e = .returned (.bool false) ∧ Below w.heap.size w w')) (HD : Hid (∀ w, EsAt w a L → Calls Try.prog 27 #[.agg #[.int .i64 n, .slice a L.length cap], .int .i64 v] w (fun e w' => e = .returned (.tuple #[.int .i64 D, .int .i64 0]) ∧ Below w.heap.size w w'))) (HVa : Hid (∀ w, EsAt w a L → Calls Try.prog 28 #[.agg #[.int .i64 n, .slice a L.length cap], .int .i64 v] w (fun e w' => e = .returned (.tuple #[.int .i64 VV, .int .i64 0]) ∧ Below w.heap.size w w'))) (HN : Hid (∀ w, EsAt w a L → Calls Try.prog 29 #[.agg #[.int .i64 n, .slice a L.length cap], .int .i64 v] w (fun e w' => ∃ b d, e = .returned (.tuple #[.slice b NR.length d, .int .i64 0]) ∧ IsAt w' b NR ∧ Below w.heap.size w w'))) (HB : Hid (∀ w, EsAt w a L → Calls Try.prog 30 #[.agg #[.int .i64 n, .slice a L.length cap], .int .i64 v, .int .i64 u] w (fun e w' => e = .returned (.tuple #[.int .i64 0, .int .i64 2]) ∧ Below w.heap.size w w'))) (HRD : Hid (∀ w, EsAt w a L → Calls Try.prog 32 #[.agg #[.int .i64 n, .slice a L.length cap], .int .i64 v] w (fun e w' => e = .returned (.int .i64 D) ∧ Below w.heap.size w w'))) (HRV : Hid (∀ w, EsAt w a L → Calls Try.prog 33 #[.agg #[.int .i64 n, .slice a L.length cap], .int .i64 v] w (fun e w' => e = .returned (.int .i64 VV) ∧ Below w.heap.size w w'))) (HRN : Hid (∀ w, EsAt w a L → Calls Try.prog 35 #[.agg #[.int .i64 n, .slice a L.length cap], .int .i64 v] w (fun e w' => ∃ b d, e = .returned (.slice b NR.length d) ∧ IsAt w' b NR ∧ Below w.heap.size w w'))) (HEQ : ∀ b d b2 d2 w, IsAt w b NR → IsAt w b2 NR → Calls Try.prog 34 #[.slice b NR.length d, .slice b2 NR.length d2] w (fun e w' => e = .returned (.bool true) ∧ Below w.heap.size w w')) (w : World) (h : EsAt w a L) :
    Calls Try.prog 5 #[gv n a L.length cap, .int .i64 v, .int .i64 u] w (GivesB w true) := by
  unfold GivesB gv
  obtain ⟨W, hW⟩ : ∃ W, W = w.alloc (Obj.cells #[.int .i64 n, .slice a L.length cap] 24) := ⟨_, rfl⟩
  have hB0 : Below w.heap.size w W := by rw [hW]; exact (Below.refl _ w).alloc (Nat.le_refl _) _
  have hG : Blk W w.heap.size 24 #[.int .i64 n, .slice a L.length cap] := by rw [hW]; exact Blk.new _ _ _
  have HW := Lib.hid hW
  have HB0 := Lib.hid hB0
  have hE0 : EsAt W a L := h.keep hB0
  have HF : Hid (∀ x, Below W.heap.size W x → x.cell? ⟨w.heap.size, 0, none⟩ = some (.int .i64 n) ∧ x.cell? ⟨w.heap.size, 1, none⟩ = some (.slice a L.length cap) ∧ EsAt x a L) := Lib.hid fun x hx => ⟨(hG.below hx hG.lt).cell 0, (hG.below hx hG.lt).cell 1, hE0.keep hx⟩
  have g0 : W.cell? ⟨w.heap.size, 0, none⟩ = some (.int .i64 n) := hG.cell 0
  have g1 : W.cell? ⟨w.heap.size, 1, none⟩ = some (.slice a L.length cap) := hG.cell 1
  have hk0 : Below W.heap.size W W := Below.refl _ _
  clear hB0 hG hW h hE0
  go_enter Try.func5, Try.ntmps5
  go_wp2_with fail
  rw [← HW.out]
  refine (HLI.out _ (HF.out _ hk0).2.2).mono ?_
  rintro e x1 ⟨rfl, hb1⟩
  have hk1 : Below W.heap.size W x1 := hk0.trans (hb1.mono hk0.size)
  clear hb1 hk0 g0 g1
  obtain ⟨g0, g1, -⟩ := HF.out _ hk1
  go_wp2_with fail
  refine (HC.out _ (HF.out _ hk1).2.2).mono ?_
  rintro e x2 ⟨rfl, hb2⟩
  have hk2 : Below W.heap.size W x2 := hk1.trans (hb2.mono hk1.size)
  clear hb2 hk1 g0 g1
  obtain ⟨g0, g1, -⟩ := HF.out _ hk2
  go_wp2_with fail
  refine (HX _).mono ?_
  rintro e x3 ⟨rfl, hb3⟩
  have hk3 : Below W.heap.size W x3 := hk2.trans (hb3.mono hk2.size)
  clear hb3 hk2 g0 g1
  obtain ⟨g0, g1, -⟩ := HF.out _ hk3
  go_wp2_with fail
  refine (HY _).mono ?_
  rintro e x4 ⟨rfl, hb4⟩
  have hk4 : Below W.heap.size W x4 := hk3.trans (hb4.mono hk3.size)
  clear hb4 hk3 g0 g1
  obtain ⟨g0, g1, -⟩ := HF.out _ hk4
  go_wp2_with fail
  refine (HD.out _ (HF.out _ hk4).2.2).mono ?_
  rintro e x5 ⟨rfl, hb5⟩
  have hk5 : Below W.heap.size W x5 := hk4.trans (hb5.mono hk4.size)
  clear hb5 hk4 g0 g1
  obtain ⟨g0, g1, -⟩ := HF.out _ hk5
  go_wp2_with fail
  refine (HVa.out _ (HF.out _ hk5).2.2).mono ?_
  rintro e x6 ⟨rfl, hb6⟩
  have hk6 : Below W.heap.size W x6 := hk5.trans (hb6.mono hk5.size)
  clear hb6 hk5 g0 g1
  obtain ⟨g0, g1, -⟩ := HF.out _ hk6
  go_wp2_with fail
  refine (HN.out _ (HF.out _ hk6).2.2).mono ?_
  rintro e x7 ⟨b, d, rfl, hn7, hb7⟩
  have hk7 : Below W.heap.size W x7 := hk6.trans (hb7.mono hk6.size)
  clear hb7 hk6 g0 g1
  obtain ⟨g0, g1, -⟩ := HF.out _ hk7
  go_wp2_with fail
  refine (HB.out _ (HF.out _ hk7).2.2).mono ?_
  rintro e x8 ⟨rfl, hb8⟩
  have hk8 : Below W.heap.size W x8 := hk7.trans (hb8.mono hk7.size)
  have hn8 := hn7.keep hb8
  clear hb8 hk7 g0 g1 hn7
  obtain ⟨g0, g1, -⟩ := HF.out _ hk8
  go_wp2_with fail
  refine (HA _).mono ?_
  rintro e x9 ⟨rfl, hb9⟩
  have hk9 : Below W.heap.size W x9 := hk8.trans (hb9.mono hk8.size)
  have hn9 := hn8.keep hb9
  clear hb9 hk8 g0 g1 hn8
  obtain ⟨g0, g1, -⟩ := HF.out _ hk9
  go_wp2_with fail
  refine (HRD.out _ (HF.out _ hk9).2.2).mono ?_
  rintro e x10 ⟨rfl, hb10⟩
  have hk10 : Below W.heap.size W x10 := hk9.trans (hb10.mono hk9.size)
  have hn10 := hn9.keep hb10
  clear hb10 hk9 g0 g1 hn9
  obtain ⟨g0, g1, -⟩ := HF.out _ hk10
  go_wp2_with fail
  refine (HRV.out _ (HF.out _ hk10).2.2).mono ?_
  rintro e x11 ⟨rfl, hb11⟩
  have hk11 : Below W.heap.size W x11 := hk10.trans (hb11.mono hk10.size)
  have hn11 := hn10.keep hb11
  clear hb11 hk10 g0 g1 hn10
  obtain ⟨g0, g1, -⟩ := HF.out _ hk11
  go_wp2_with fail
  refine (HRN.out _ (HF.out _ hk11).2.2).mono ?_
  rintro e x12 ⟨b2, d2, rfl, hm12, hb12⟩
  have hk12 : Below W.heap.size W x12 := hk11.trans (hb12.mono hk11.size)
  have hn12 := hn11.keep hb12
  clear hb12 hk11 g0 g1 hn11
  obtain ⟨g0, g1, -⟩ := HF.out _ hk12
  go_wp2_with fail
  refine (HEQ _ _ _ _ _ hn12 hm12).mono ?_
  rintro e x13 ⟨rfl, hb13⟩
  have hk13 : Below W.heap.size W x13 := hk12.trans (hb13.mono hk12.size)
  have hn13 := hn12.keep hb13
  have hm13 := hm12.keep hb13
  clear hb13 hk12 g0 g1 hn12 hm12
  obtain ⟨g0, g1, -⟩ := HF.out _ hk13
  have HEND := Lib.hid (HB0.out.trans (hk13.mono HB0.out.size))
  clear hk13 g0 g1
  go_wp2
  go_ret
  exact ⟨rfl, HEND.out⟩
set_option maxHeartbeats 12800000 in
set_option maxRecDepth 100000 in
theorem counts_ok (n : Int) (a : Option Addr) (cap : Nat) (L : List E) (v u : Int) (D VV BB : Int) (NR : List Int) (HLI : Hid (∀ w, EsAt w a L → Calls Try.prog 12 #[.agg #[.int .i64 n, .slice a L.length cap]] w (fun e w' => e = .returned (.bool true) ∧ Below w.heap.size w w'))) (HA : Awake) (HC : Hid (∀ w, EsAt w a L → Calls Try.prog 14 #[.agg #[.int .i64 n, .slice a L.length cap]] w (fun e w' => e = .returned (.int .i64 0) ∧ Below w.heap.size w w'))) (HX : ∀ w, Calls Try.prog 26 #[.agg #[.int .i64 n, .slice a L.length cap], .int .i64 v] w (fun e w' => e = .returned (.bool true) ∧ Below w.heap.size w w')) (HY : ∀ w, Calls Try.prog 26 #[.agg #[.int .i64 n, .slice a L.length cap], .int .i64 u] w (fun e w' => e = .returned (.bool true) ∧ Below w.heap.size w w')) (HD : Hid (∀ w, EsAt w a L → Calls Try.prog 27 #[.agg #[.int .i64 n, .slice a L.length cap], .int .i64 v] w (fun e w' => e = .returned (.tuple #[.int .i64 D, .int .i64 0]) ∧ Below w.heap.size w w'))) (HVa : Hid (∀ w, EsAt w a L → Calls Try.prog 28 #[.agg #[.int .i64 n, .slice a L.length cap], .int .i64 v] w (fun e w' => e = .returned (.tuple #[.int .i64 VV, .int .i64 0]) ∧ Below w.heap.size w w'))) (HN : Hid (∀ w, EsAt w a L → Calls Try.prog 29 #[.agg #[.int .i64 n, .slice a L.length cap], .int .i64 v] w (fun e w' => ∃ b d, e = .returned (.tuple #[.slice b NR.length d, .int .i64 0]) ∧ IsAt w' b NR ∧ Below w.heap.size w w'))) (HB : Hid (∀ w, EsAt w a L → Calls Try.prog 30 #[.agg #[.int .i64 n, .slice a L.length cap], .int .i64 v, .int .i64 u] w (fun e w' => e = .returned (.tuple #[.int .i64 BB, .int .i64 0]) ∧ Below w.heap.size w w'))) (HRD : Hid (∀ w, EsAt w a L → Calls Try.prog 32 #[.agg #[.int .i64 n, .slice a L.length cap], .int .i64 v] w (fun e w' => e = .returned (.int .i64 D) ∧ Below w.heap.size w w'))) (HRV : Hid (∀ w, EsAt w a L → Calls Try.prog 33 #[.agg #[.int .i64 n, .slice a L.length cap], .int .i64 v] w (fun e w' => e = .returned (.int .i64 VV) ∧ Below w.heap.size w w'))) (HRN : Hid (∀ w, EsAt w a L → Calls Try.prog 35 #[.agg #[.int .i64 n, .slice a L.length cap], .int .i64 v] w (fun e w' => ∃ b d, e = .returned (.slice b NR.length d) ∧ IsAt w' b NR ∧ Below w.heap.size w w'))) (HEQ : ∀ b d b2 d2 w, IsAt w b NR → IsAt w b2 NR → Calls Try.prog 34 #[.slice b NR.length d, .slice b2 NR.length d2] w (fun e w' => e = .returned (.bool true) ∧ Below w.heap.size w w')) (HRB : Hid (∀ w, EsAt w a L → Calls Try.prog 31 #[.agg #[.int .i64 n, .slice a L.length cap], .int .i64 v, .int .i64 u] w (fun e w' => e = .returned (.int .i64 BB) ∧ Below w.heap.size w w'))) (w : World) (h : EsAt w a L) :
    Calls Try.prog 5 #[gv n a L.length cap, .int .i64 v, .int .i64 u] w (GivesB w true) := by
  unfold GivesB gv
  obtain ⟨W, hW⟩ : ∃ W, W = w.alloc (Obj.cells #[.int .i64 n, .slice a L.length cap] 24) := ⟨_, rfl⟩
  have hB0 : Below w.heap.size w W := by rw [hW]; exact (Below.refl _ w).alloc (Nat.le_refl _) _
  have hG : Blk W w.heap.size 24 #[.int .i64 n, .slice a L.length cap] := by rw [hW]; exact Blk.new _ _ _
  have HW := Lib.hid hW
  have HB0 := Lib.hid hB0
  have hE0 : EsAt W a L := h.keep hB0
  have HF : Hid (∀ x, Below W.heap.size W x → x.cell? ⟨w.heap.size, 0, none⟩ = some (.int .i64 n) ∧ x.cell? ⟨w.heap.size, 1, none⟩ = some (.slice a L.length cap) ∧ EsAt x a L) := Lib.hid fun x hx => ⟨(hG.below hx hG.lt).cell 0, (hG.below hx hG.lt).cell 1, hE0.keep hx⟩
  have g0 : W.cell? ⟨w.heap.size, 0, none⟩ = some (.int .i64 n) := hG.cell 0
  have g1 : W.cell? ⟨w.heap.size, 1, none⟩ = some (.slice a L.length cap) := hG.cell 1
  have hk0 : Below W.heap.size W W := Below.refl _ _
  clear hB0 hG hW h hE0
  go_enter Try.func5, Try.ntmps5
  go_wp2_with fail
  rw [← HW.out]
  refine (HLI.out _ (HF.out _ hk0).2.2).mono ?_
  rintro e x1 ⟨rfl, hb1⟩
  have hk1 : Below W.heap.size W x1 := hk0.trans (hb1.mono hk0.size)
  clear hb1 hk0 g0 g1
  obtain ⟨g0, g1, -⟩ := HF.out _ hk1
  go_wp2_with fail
  refine (HC.out _ (HF.out _ hk1).2.2).mono ?_
  rintro e x2 ⟨rfl, hb2⟩
  have hk2 : Below W.heap.size W x2 := hk1.trans (hb2.mono hk1.size)
  clear hb2 hk1 g0 g1
  obtain ⟨g0, g1, -⟩ := HF.out _ hk2
  go_wp2_with fail
  refine (HX _).mono ?_
  rintro e x3 ⟨rfl, hb3⟩
  have hk3 : Below W.heap.size W x3 := hk2.trans (hb3.mono hk2.size)
  clear hb3 hk2 g0 g1
  obtain ⟨g0, g1, -⟩ := HF.out _ hk3
  go_wp2_with fail
  refine (HY _).mono ?_
  rintro e x4 ⟨rfl, hb4⟩
  have hk4 : Below W.heap.size W x4 := hk3.trans (hb4.mono hk3.size)
  clear hb4 hk3 g0 g1
  obtain ⟨g0, g1, -⟩ := HF.out _ hk4
  go_wp2_with fail
  refine (HD.out _ (HF.out _ hk4).2.2).mono ?_
  rintro e x5 ⟨rfl, hb5⟩
  have hk5 : Below W.heap.size W x5 := hk4.trans (hb5.mono hk4.size)
  clear hb5 hk4 g0 g1
  obtain ⟨g0, g1, -⟩ := HF.out _ hk5
  go_wp2_with fail
  refine (HVa.out _ (HF.out _ hk5).2.2).mono ?_
  rintro e x6 ⟨rfl, hb6⟩
  have hk6 : Below W.heap.size W x6 := hk5.trans (hb6.mono hk5.size)
  clear hb6 hk5 g0 g1
  obtain ⟨g0, g1, -⟩ := HF.out _ hk6
  go_wp2_with fail
  refine (HN.out _ (HF.out _ hk6).2.2).mono ?_
  rintro e x7 ⟨b, d, rfl, hn7, hb7⟩
  have hk7 : Below W.heap.size W x7 := hk6.trans (hb7.mono hk6.size)
  clear hb7 hk6 g0 g1
  obtain ⟨g0, g1, -⟩ := HF.out _ hk7
  go_wp2_with fail
  refine (HB.out _ (HF.out _ hk7).2.2).mono ?_
  rintro e x8 ⟨rfl, hb8⟩
  have hk8 : Below W.heap.size W x8 := hk7.trans (hb8.mono hk7.size)
  have hn8 := hn7.keep hb8
  clear hb8 hk7 g0 g1 hn7
  obtain ⟨g0, g1, -⟩ := HF.out _ hk8
  go_wp2_with fail
  refine (HA _).mono ?_
  rintro e x9 ⟨rfl, hb9⟩
  have hk9 : Below W.heap.size W x9 := hk8.trans (hb9.mono hk8.size)
  have hn9 := hn8.keep hb9
  clear hb9 hk8 g0 g1 hn8
  obtain ⟨g0, g1, -⟩ := HF.out _ hk9
  go_wp2_with fail
  refine (HRB.out _ (HF.out _ hk9).2.2).mono ?_
  rintro e x10 ⟨rfl, hb10⟩
  have hk10 : Below W.heap.size W x10 := hk9.trans (hb10.mono hk9.size)
  have hn10 := hn9.keep hb10
  clear hb10 hk9 g0 g1 hn9
  obtain ⟨g0, g1, -⟩ := HF.out _ hk10
  go_wp2_with fail
  refine (HRD.out _ (HF.out _ hk10).2.2).mono ?_
  rintro e x11 ⟨rfl, hb11⟩
  have hk11 : Below W.heap.size W x11 := hk10.trans (hb11.mono hk10.size)
  have hn11 := hn10.keep hb11
  clear hb11 hk10 g0 g1 hn10
  obtain ⟨g0, g1, -⟩ := HF.out _ hk11
  go_wp2_with fail
  refine (HRV.out _ (HF.out _ hk11).2.2).mono ?_
  rintro e x12 ⟨rfl, hb12⟩
  have hk12 : Below W.heap.size W x12 := hk11.trans (hb12.mono hk11.size)
  have hn12 := hn11.keep hb12
  clear hb12 hk11 g0 g1 hn11
  obtain ⟨g0, g1, -⟩ := HF.out _ hk12
  go_wp2_with fail
  refine (HRN.out _ (HF.out _ hk12).2.2).mono ?_
  rintro e x13 ⟨b2, d2, rfl, hm13, hb13⟩
  have hk13 : Below W.heap.size W x13 := hk12.trans (hb13.mono hk12.size)
  have hn13 := hn12.keep hb13
  clear hb13 hk12 g0 g1 hn12
  obtain ⟨g0, g1, -⟩ := HF.out _ hk13
  go_wp2_with fail
  refine (HEQ _ _ _ _ _ hn13 hm13).mono ?_
  rintro e x14 ⟨rfl, hb14⟩
  have hk14 : Below W.heap.size W x14 := hk13.trans (hb14.mono hk13.size)
  have hn14 := hn13.keep hb14
  have hm14 := hm13.keep hb14
  clear hb14 hk13 g0 g1 hn13 hm13
  obtain ⟨g0, g1, -⟩ := HF.out _ hk14
  have HEND := Lib.hid (HB0.out.trans (hk14.mono HB0.out.size))
  clear hk14 g0 g1
  go_wp2
  go_ret
  exact ⟨rfl, HEND.out⟩
theorem chkV_one {n : Int} {L : List E} (h0 : chkG n L = 0) (v : Int) : chkV n L [v] = if isV n v = true then 0 else 2 := by
  unfold chkV; rw [if_neg (by omega)]; simp
theorem chkV_two {n : Int} {L : List E} (h0 : chkG n L = 0) (v u : Int) : chkV n L [v, u] = if isV n v = true ∧ isV n u = true then 0 else 2 := by
  unfold chkV; rw [if_neg (by omega)]; simp
theorem chkV_bad {n : Int} {L : List E} (h0 : chkG n L ≠ 0) (l : List Int) : chkV n L l = chkG n L := by
  unfold chkV; rw [if_pos h0]
theorem deg_eq {N : Nat} {L : List E} (hR : Right N L) (v : Int) : sumL (othE v) L + 2 * sumL (loopE v) L = valZ v L N + 2 * betw v v L := by
  rw [valZ_oth v L hR.rng]
  unfold betw
  rw [Int.min_self, Int.max_self, bet_loop]
theorem counts_any (n : Int) (a : Option Addr) (cap : Nat) (L : List E) (v u : Int) (w : World) (h : EsAt w a L) :
    Calls Try.prog 5 #[gv n a L.length cap, .int .i64 v, .int .i64 u] w (GivesB w true) := by
  cases hl : lightG n L with
  | false => exact counts_dark n a cap L v u (Lib.hid fun w h => by have := light_any n a cap L w h; rw [hl] at this; exact this) awake_any w h
  | true =>
    have hlen := light_len hl
    have HLI : Hid (∀ w, EsAt w a L → Calls Try.prog 12 #[.agg #[.int .i64 n, .slice a L.length cap]] w (fun e w' => e = .returned (.bool true) ∧ Below w.heap.size w w')) := Lib.hid fun w h => by have := light_any n a cap L w h; rw [hl] at this; exact this
    by_cases hk : chkG n L = 0
    · obtain ⟨N, rfl, h1, h2⟩ := nat_of_chk hk
      have hR := right_of hk
      have HC : Hid (∀ w, EsAt w a L → Calls Try.prog 14 #[.agg #[.int .i64 N, .slice a L.length cap]] w (fun e w' => e = .returned (.int .i64 0) ∧ Below w.heap.size w w')) := Lib.hid fun w h => by have := rcheck_any (N : Int) a cap L (by omega) w h; rw [hk] at this; exact this
      have HX := fun w => vertex_any (N : Int) a L.length cap v w
      have HY := fun w => vertex_any (N : Int) a L.length cap u w
      have e1 := chkV_one hk v
      have e2 := chkV_two hk v u
      cases hv : isV N v with
      | false =>
        rw [hv] at HX e1 e2
        rw [if_neg (by decide)] at e1
        rw [if_neg (by simp)] at e2
        refine counts_badv N a cap L v u HLI awake_any HC HX ?_ ?_ ?_ ?_ w h
        · exact Lib.hid fun w h => by have := pdegree_any (N : Int) a cap L (by omega) v w h; rw [e1] at this; exact this
        · exact Lib.hid fun w h => by have := pvalence_any (N : Int) a cap L (by omega) v w h; rw [e1] at this; exact this
        · refine Lib.hid fun w h => (pneighbours_any (N : Int) a cap L (by omega) v w h).mono ?_
          rintro e w' ⟨b, d, rfl, -, hb⟩
          exact ⟨b, d, by rw [e1]; rfl, hb⟩
        · exact Lib.hid fun w h => by have := pbetween_any (N : Int) a cap L (by omega) v u w h; rw [e2] at this; exact this
      | true =>
        rw [hv] at HX e1 e2
        rw [if_pos rfl] at e1
        have hvr : 0 ≤ v ∧ v < (N : Int) := by simpa [isV] using hv
        have enb : nbP v L = nbR v L N := nb_eq hR v hvr
        have HD : Hid (∀ w, EsAt w a L → Calls Try.prog 27 #[.agg #[.int .i64 N, .slice a L.length cap], .int .i64 v] w (fun e w' => e = .returned (.tuple #[.int .i64 (valZ v L N + 2 * betw v v L), .int .i64 0]) ∧ Below w.heap.size w w')) := Lib.hid fun w h => by have := pdegree_any (N : Int) a cap L (by omega) v w h; rw [e1, if_pos rfl, deg_eq hR] at this; exact this
        have HVa : Hid (∀ w, EsAt w a L → Calls Try.prog 28 #[.agg #[.int .i64 N, .slice a L.length cap], .int .i64 v] w (fun e w' => e = .returned (.tuple #[.int .i64 (valZ v L N), .int .i64 0]) ∧ Below w.heap.size w w')) := Lib.hid fun w h => by have := pvalence_any (N : Int) a cap L (by omega) v w h; rw [e1, if_pos rfl, ← valZ_oth v L hR.rng] at this; exact this
        have HN : Hid (∀ w, EsAt w a L → Calls Try.prog 29 #[.agg #[.int .i64 N, .slice a L.length cap], .int .i64 v] w (fun e w' => ∃ b d, e = .returned (.tuple #[.slice b (nbR v L N).length d, .int .i64 0]) ∧ IsAt w' b (nbR v L N) ∧ Below w.heap.size w w')) := Lib.hid fun w h => by have := pneighbours_any (N : Int) a cap L (by omega) v w h; rw [e1, if_pos rfl, enb] at this; exact this
        have hnl : (nbR v L N).length ≤ 1000000 := by
          rw [← enb]
          exact Nat.le_trans (List.length_filterMap_le _ _) (by omega)
        have HEQ : ∀ b d b2 d2 w, IsAt w b (nbR v L N) → IsAt w b2 (nbR v L N) → Calls Try.prog 34 #[.slice b (nbR v L N).length d, .slice b2 (nbR v L N).length d2] w (fun e w' => e = .returned (.bool true) ∧ Below w.heap.size w w') := fun b d b2 d2 w p q => by
          have := pequalI_any b b2 d d2 _ _ hnl hnl w p q
          rw [decide_eq_true rfl] at this
          exact this
        have HRD : Hid (∀ w, EsAt w a L → Calls Try.prog 32 #[.agg #[.int .i64 N, .slice a L.length cap], .int .i64 v] w (fun e w' => e = .returned (.int .i64 (valZ v L N + 2 * betw v v L)) ∧ Below w.heap.size w w')) := Lib.hid fun w h => rdegree_any N a cap L (by omega) hR v w h
        have HRV : Hid (∀ w, EsAt w a L → Calls Try.prog 33 #[.agg #[.int .i64 N, .slice a L.length cap], .int .i64 v] w (fun e w' => e = .returned (.int .i64 (valZ v L N)) ∧ Below w.heap.size w w')) := Lib.hid fun w h => rvalence_any N a cap L (by omega) hR v w h
        have HRN : Hid (∀ w, EsAt w a L → Calls Try.prog 35 #[.agg #[.int .i64 N, .slice a L.length cap], .int .i64 v] w (fun e w' => ∃ b d, e = .returned (.slice b (nbR v L N).length d) ∧ IsAt w' b (nbR v L N) ∧ Below w.heap.size w w')) := Lib.hid fun w h => rneighbours_any N a cap L (by omega) hR v w h
        cases hu : isV N u with
        | false =>
          rw [hu] at HY e2
          rw [if_neg (by simp)] at e2
          refine counts_badu N a cap L v u _ _ _ HLI awake_any HC HX HY HD HVa HN ?_ HRD HRV HRN HEQ w h
          exact Lib.hid fun w h => by have := pbetween_any (N : Int) a cap L (by omega) v u w h; rw [e2] at this; exact this
        | true =>
          rw [hu] at HY e2
          rw [if_pos ⟨rfl, rfl⟩] at e2
          refine counts_ok N a cap L v u _ _ (betw v u L) _ HLI awake_any HC HX HY HD HVa HN ?_ HRD HRV HRN HEQ ?_ w h
          · exact Lib.hid fun w h => by have := pbetween_any (N : Int) a cap L (by omega) v u w h; rw [e2, if_pos rfl] at this; exact this
          · exact Lib.hid fun w h => rbetween_any (N : Int) a cap L (by omega) hR.srt v u w h
    · refine counts_err n a cap L v u (chkG n L) hk HLI awake_any ?_ ?_ ?_ ?_ ?_ w h
      · exact Lib.hid fun w h => rcheck_any n a cap L (by omega) w h
      · exact Lib.hid fun w h => by have := pdegree_any n a cap L (by omega) v w h; rw [chkV_bad hk, if_neg hk] at this; exact this
      · exact Lib.hid fun w h => by have := pvalence_any n a cap L (by omega) v w h; rw [chkV_bad hk, if_neg hk] at this; exact this
      · refine Lib.hid fun w h => (pneighbours_any n a cap L (by omega) v w h).mono ?_
        rintro e w' ⟨b, d, rfl, -, hb⟩
        exact ⟨b, d, by rw [chkV_bad hk, if_neg hk]; rfl, hb⟩
      · exact Lib.hid fun w h => by have := pbetween_any n a cap L (by omega) v u w h; rw [chkV_bad hk, if_neg hk] at this; exact this
end Go.Proofs.Ytjaafneoinidkaa
