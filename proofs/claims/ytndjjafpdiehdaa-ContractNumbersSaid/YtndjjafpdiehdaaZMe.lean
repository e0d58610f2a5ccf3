/- The laws of numbers, of collecting, of refining and of changes. -/
import Derived.Test.YtndjjafpdiehdaaQ18
import Derived.Test.YtndjjafpdiehdaaZLi
import Derived.Test.YtndjjafpdiehdaaQ16
namespace Go.Proofs.Ytndjjafpdiehdaa
open Go.RowKit Go.Shelf Go.Proofs.Gr
attribute [local go_sem] Oper.semAt_some

set_option maxHeartbeats 12800000 in
set_option maxRecDepth 100000 in
theorem numbers_dark (n : Int) (a : Option Addr) (cap : Nat) (L : List E) (e : Int) (HFW : Hid (∀ w, EsAt w a L → Calls Try.prog 11 #[.agg #[.int .i64 n, .slice a L.length cap]] w (fun e w' => e = .returned (.bool false) ∧ Below w.heap.size w w'))) (HA : AwakeC) (w : World) (h : EsAt w a L) :
    Calls Try.prog 4 #[gv n a L.length cap, .int .i64 e] w (GivesB w true) := by
  unfold GivesB gv
  obtain ⟨W, hW⟩ : ∃ W, W = w.alloc (Obj.cells #[.int .i64 n, .slice a L.length cap] 24) := ⟨_, rfl⟩
  have hB0 : Below w.heap.size w W := by rw [hW]; exact (Below.refl _ w).alloc (Nat.le_refl _) _
  have hG : Blk W w.heap.size 24 #[.int .i64 n, .slice a L.length cap] := by rw [hW]; exact Blk.new _ _ _
  have HW := Lib.hid hW
  have HB0 := Lib.hid hB0
  have hEz : EsAt W a L := h.keep hB0
  have HF : Hid (∀ x, Below W.heap.size W x → x.cell? ⟨w.heap.size, 0, none⟩ = some (.int .i64 n) ∧ x.cell? ⟨w.heap.size, 1, none⟩ = some (.slice a L.length cap) ∧ EsAt x a L) := Lib.hid fun x hx => ⟨(hG.below hx hG.lt).cell 0, (hG.below hx hG.lt).cell 1, hEz.keep hx⟩
  have hk0 : Below W.heap.size W W := Below.refl _ _
  obtain ⟨g0, g1, -⟩ := HF.out W hk0
  clear hB0 hG hW hEz h
  go_enter Try.func4, Try.ntmps4
  go_wp2_with fail
  rw [← HW.out]
  refine (HFW.out _ (HF.out W hk0).2.2).mono ?_
  rintro e x1 ⟨rfl, hb1⟩
  have hk1 : Below W.heap.size W x1 := hk0.trans (hb1.mono hk0.size)
  clear hb1 hk0 g0 g1
  obtain ⟨g0, g1, -⟩ := HF.out x1 hk1
  go_wp2_with fail
  refine (HA _).mono ?_
  rintro e x2 ⟨rfl, hb2⟩
  have hk2 : Below W.heap.size W x2 := hk1.trans (hb2.mono hk1.size)
  clear hb2 hk1 g0 g1
  obtain ⟨g0, g1, -⟩ := HF.out x2 hk2
  have HEND := Lib.hid (HB0.out.trans (hk2.mono HB0.out.size))
  clear hk2 g0 g1
  go_wp2
  go_ret
  exact ⟨rfl, HEND.out⟩
set_option maxHeartbeats 12800000 in
set_option maxRecDepth 100000 in
theorem numbers_of (n : Int) (a : Option Addr) (cap : Nat) (L : List E) (e : Int) (A B : List Int) (hAl : A.length ≤ 100000) (hBl : B.length ≤ 100000) (k : Nat) (HFW : Hid (∀ w, EsAt w a L → Calls Try.prog 11 #[.agg #[.int .i64 n, .slice a L.length cap]] w (fun e w' => e = .returned (.bool true) ∧ Below w.heap.size w w'))) (HA : AwakeC) (HP : Hid (∀ w, EsAt w a L → Calls Try.prog 23 #[.agg #[.int .i64 n, .slice a L.length cap], .int .i64 e] w (fun e w' => ∃ b1 d1 b2 d2, e = .returned (.tuple #[.slice b1 A.length d1, .slice b2 B.length d2, .int .i64 ((k : Nat) : Int)]) ∧ IsAt w' b1 A ∧ IsAt w' b2 B ∧ Below w.heap.size w w'))) (HR : Hid (∀ w, EsAt w a L → Calls Try.prog 24 #[.agg #[.int .i64 n, .slice a L.length cap], .int .i64 e] w (fun e w' => ∃ b1 d1 b2 d2, e = .returned (.tuple #[.slice b1 A.length d1, .slice b2 B.length d2, .int .i64 ((k : Nat) : Int)]) ∧ IsAt w' b1 A ∧ IsAt w' b2 B ∧ Below w.heap.size w w'))) (w : World) (h : EsAt w a L) :
    Calls Try.prog 4 #[gv n a L.length cap, .int .i64 e] w (GivesB w true) := by
  unfold GivesB gv
  obtain ⟨W, hW⟩ : ∃ W, W = w.alloc (Obj.cells #[.int .i64 n, .slice a L.length cap] 24) := ⟨_, rfl⟩
  have hB0 : Below w.heap.size w W := by rw [hW]; exact (Below.refl _ w).alloc (Nat.le_refl _) _
  have hG : Blk W w.heap.size 24 #[.int .i64 n, .slice a L.length cap] := by rw [hW]; exact Blk.new _ _ _
  have HW := Lib.hid hW
  have HB0 := Lib.hid hB0
  have hEz : EsAt W a L := h.keep hB0
  have HF : Hid (∀ x, Below W.heap.size W x → x.cell? ⟨w.heap.size, 0, none⟩ = some (.int .i64 n) ∧ x.cell? ⟨w.heap.size, 1, none⟩ = some (.slice a L.length cap) ∧ EsAt x a L) := Lib.hid fun x hx => ⟨(hG.below hx hG.lt).cell 0, (hG.below hx hG.lt).cell 1, hEz.keep hx⟩
  have hk0 : Below W.heap.size W W := Below.refl _ _
  obtain ⟨g0, g1, -⟩ := HF.out W hk0
  clear hB0 hG hW hEz h
  have q1 : (((k : Nat) : Int) == ((k : Nat) : Int)) = true := by simp
  go_enter Try.func4, Try.ntmps4
  go_wp2_with fail
  rw [← HW.out]
  refine (HFW.out _ (HF.out W hk0).2.2).mono ?_
  rintro e x1 ⟨rfl, hb1⟩
  have hk1 : Below W.heap.size W x1 := hk0.trans (hb1.mono hk0.size)
  clear hb1 hk0 g0 g1
  obtain ⟨g0, g1, -⟩ := HF.out x1 hk1
  go_wp2_with fail
  refine (HP.out _ (HF.out x1 hk1).2.2).mono ?_
  rintro e x2 ⟨b1, d1, b2, d2, rfl, hA_2, hB_2, hb2⟩
  have hk2 : Below W.heap.size W x2 := hk1.trans (hb2.mono hk1.size)
  clear hb2 hk1 g0 g1
  obtain ⟨g0, g1, -⟩ := HF.out x2 hk2
  go_wp2_with fail
  refine (HR.out _ (HF.out x2 hk2).2.2).mono ?_
  rintro e x3 ⟨b3, d3, b4, d4, rfl, hC_3, hD_3, hb3⟩
  have hk3 : Below W.heap.size W x3 := hk2.trans (hb3.mono hk2.size)
  have hA_3 := hA_2.keep hb3
  have hB_3 := hB_2.keep hb3
  clear hb3 hk2 g0 g1 hA_2 hB_2
  obtain ⟨g0, g1, -⟩ := HF.out x3 hk3
  go_wp2_with fail
  refine (HA _).mono ?_
  rintro e x4 ⟨rfl, hb4⟩
  have hk4 : Below W.heap.size W x4 := hk3.trans (hb4.mono hk3.size)
  have hA_4 := hA_3.keep hb4
  have hB_4 := hB_3.keep hb4
  have hC_4 := hC_3.keep hb4
  have hD_4 := hD_3.keep hb4
  clear hb4 hk3 g0 g1 hA_3 hB_3 hC_3 hD_3
  obtain ⟨g0, g1, -⟩ := HF.out x4 hk4
  go_wp2_with fail
  refine (rsameI_true b1 b3 d1 d3 A hAl _ hA_4 hC_4).mono ?_
  rintro e x5 ⟨rfl, hb5⟩
  have hk5 : Below W.heap.size W x5 := hk4.trans (hb5.mono hk4.size)
  have hA_5 := hA_4.keep hb5
  have hB_5 := hB_4.keep hb5
  have hC_5 := hC_4.keep hb5
  have hD_5 := hD_4.keep hb5
  clear hb5 hk4 g0 g1 hA_4 hB_4 hC_4 hD_4
  obtain ⟨g0, g1, -⟩ := HF.out x5 hk5
  go_wp2_with fail
  refine (rsameI_true b2 b4 d2 d4 B hBl _ hB_5 hD_5).mono ?_
  rintro e x6 ⟨rfl, hb6⟩
  have hk6 : Below W.heap.size W x6 := hk5.trans (hb6.mono hk5.size)
  have hA_6 := hA_5.keep hb6
  have hB_6 := hB_5.keep hb6
  have hC_6 := hC_5.keep hb6
  have hD_6 := hD_5.keep hb6
  clear hb6 hk5 g0 g1 hA_5 hB_5 hC_5 hD_5
  obtain ⟨g0, g1, -⟩ := HF.out x6 hk6
  have HEND := Lib.hid (HB0.out.trans (hk6.mono HB0.out.size))
  clear hk6 g0 g1
  go_wp2
  go_ret
  exact ⟨rfl, HEND.out⟩
set_option maxHeartbeats 12800000 in
set_option maxRecDepth 100000 in
theorem collects_dark (n : Int) (a : Option Addr) (cap : Nat) (L : List E) (e : Int) (b : Option Addr) (c : Nat) (D : List Int) (HFW : Hid (∀ w, EsAt w a L → Calls Try.prog 11 #[.agg #[.int .i64 n, .slice a L.length cap]] w (fun e w' => e = .returned (.bool false) ∧ Below w.heap.size w w'))) (HA : AwakeC) (w : World) (h : EsAt w a L) (hd : IsAt w b D) :
    Calls Try.prog 6 #[gv n a L.length cap, .int .i64 e, .slice b D.length c] w (GivesB w true) := by
  unfold GivesB gv
  obtain ⟨W, hW⟩ : ∃ W, W = w.alloc (Obj.cells #[.int .i64 n, .slice a L.length cap] 24) := ⟨_, rfl⟩
  have hB0 : Below w.heap.size w W := by rw [hW]; exact (Below.refl _ w).alloc (Nat.le_refl _) _
  have hG : Blk W w.heap.size 24 #[.int .i64 n, .slice a L.length cap] := by rw [hW]; exact Blk.new _ _ _
  have HW := Lib.hid hW
  have HB0 := Lib.hid hB0
  have hEz : EsAt W a L := h.keep hB0
  have hVz : IsAt W b D := hd.keep hB0
  have HF : Hid (∀ x, Below W.heap.size W x → x.cell? ⟨w.heap.size, 0, none⟩ = some (.int .i64 n) ∧ x.cell? ⟨w.heap.size, 1, none⟩ = some (.slice a L.length cap) ∧ EsAt x a L ∧ IsAt x b D) := Lib.hid fun x hx => ⟨(hG.below hx hG.lt).cell 0, (hG.below hx hG.lt).cell 1, hEz.keep hx, hVz.keep hx⟩
  have hk0 : Below W.heap.size W W := Below.refl _ _
  obtain ⟨g0, g1, -⟩ := HF.out W hk0
  clear hB0 hG hW hEz h hVz hd
  go_enter Try.func6, Try.ntmps6
  go_wp2_with fail
  rw [← HW.out]
  refine (HFW.out _ (HF.out W hk0).2.2.1).mono ?_
  rintro e x1 ⟨rfl, hb1⟩
  have hk1 : Below W.heap.size W x1 := hk0.trans (hb1.mono hk0.size)
  clear hb1 hk0 g0 g1
  obtain ⟨g0, g1, -⟩ := HF.out x1 hk1
  go_wp2_with fail
  refine (HA _).mono ?_
  rintro e x2 ⟨rfl, hb2⟩
  have hk2 : Below W.heap.size W x2 := hk1.trans (hb2.mono hk1.size)
  clear hb2 hk1 g0 g1
  obtain ⟨g0, g1, -⟩ := HF.out x2 hk2
  have HEND := Lib.hid (HB0.out.trans (hk2.mono HB0.out.size))
  clear hk2 g0 g1
  go_wp2
  go_ret
  exact ⟨rfl, HEND.out⟩
set_option maxHeartbeats 12800000 in
set_option maxRecDepth 100000 in
theorem collects_long (n : Int) (a : Option Addr) (cap : Nat) (L : List E) (e : Int) (b : Option Addr) (c : Nat) (D : List Int) (hl : 40 < D.length) (HFW : Hid (∀ w, EsAt w a L → Calls Try.prog 11 #[.agg #[.int .i64 n, .slice a L.length cap]] w (fun e w' => e = .returned (.bool true) ∧ Below w.heap.size w w'))) (HA : AwakeC) (w : World) (h : EsAt w a L) (hd : IsAt w b D) :
    Calls Try.prog 6 #[gv n a L.length cap, .int .i64 e, .slice b D.length c] w (GivesB w true) := by
  unfold GivesB gv
  obtain ⟨W, hW⟩ : ∃ W, W = w.alloc (Obj.cells #[.int .i64 n, .slice a L.length cap] 24) := ⟨_, rfl⟩
  have hB0 : Below w.heap.size w W := by rw [hW]; exact (Below.refl _ w).alloc (Nat.le_refl _) _
  have hG : Blk W w.heap.size 24 #[.int .i64 n, .slice a L.length cap] := by rw [hW]; exact Blk.new _ _ _
  have HW := Lib.hid hW
  have HB0 := Lib.hid hB0
  have hEz : EsAt W a L := h.keep hB0
  have hVz : IsAt W b D := hd.keep hB0
  have HF : Hid (∀ x, Below W.heap.size W x → x.cell? ⟨w.heap.size, 0, none⟩ = some (.int .i64 n) ∧ x.cell? ⟨w.heap.size, 1, none⟩ = some (.slice a L.length cap) ∧ EsAt x a L ∧ IsAt x b D) := Lib.hid fun x hx => ⟨(hG.below hx hG.lt).cell 0, (hG.below hx hG.lt).cell 1, hEz.keep hx, hVz.keep hx⟩
  have hk0 : Below W.heap.size W W := Below.refl _ _
  obtain ⟨g0, g1, -⟩ := HF.out W hk0
  clear hB0 hG hW hEz h hVz hd
  have l1 : (40 : Int) < (D.length : Int) := by omega
  go_enter Try.func6, Try.ntmps6
  go_wp2_with fail
  rw [← HW.out]
  refine (HFW.out _ (HF.out W hk0).2.2.1).mono ?_
  rintro e x1 ⟨rfl, hb1⟩
  have hk1 : Below W.heap.size W x1 := hk0.trans (hb1.mono hk0.size)
  clear hb1 hk0 g0 g1
  obtain ⟨g0, g1, -⟩ := HF.out x1 hk1
  go_wp2_with fail
  refine (HA _).mono ?_
  rintro e x2 ⟨rfl, hb2⟩
  have hk2 : Below W.heap.size W x2 := hk1.trans (hb2.mono hk1.size)
  clear hb2 hk1 g0 g1
  obtain ⟨g0, g1, -⟩ := HF.out x2 hk2
  have HEND := Lib.hid (HB0.out.trans (hk2.mono HB0.out.size))
  clear hk2 g0 g1
  go_wp2
  go_ret
  exact ⟨rfl, HEND.out⟩
set_option maxHeartbeats 12800000 in
set_option maxRecDepth 100000 in
theorem collects_of (n : Int) (a : Option Addr) (cap : Nat) (L : List E) (e : Int) (b : Option Addr) (c : Nat) (D : List Int) (hl : D.length ≤ 40) (A : List Int) (hAl : A.length ≤ 100000) (k : Nat) (HFW : Hid (∀ w, EsAt w a L → Calls Try.prog 11 #[.agg #[.int .i64 n, .slice a L.length cap]] w (fun e w' => e = .returned (.bool true) ∧ Below w.heap.size w w'))) (HA : AwakeC) (HP : Hid (∀ w, EsAt w a L → IsAt w b D → Calls Try.prog 30 #[.agg #[.int .i64 n, .slice a L.length cap], .int .i64 e, .slice b D.length c] w (fun e w' => ∃ b1 d1, e = .returned (.tuple #[.slice b1 A.length d1, .int .i64 ((k : Nat) : Int)]) ∧ IsAt w' b1 A ∧ Below w.heap.size w w'))) (HR : Hid (∀ w, EsAt w a L → IsAt w b D → Calls Try.prog 31 #[.agg #[.int .i64 n, .slice a L.length cap], .int .i64 e, .slice b D.length c] w (fun e w' => ∃ b1 d1, e = .returned (.tuple #[.slice b1 A.length d1, .int .i64 ((k : Nat) : Int)]) ∧ IsAt w' b1 A ∧ Below w.heap.size w w'))) (w : World) (h : EsAt w a L) (hd : IsAt w b D) :
    Calls Try.prog 6 #[gv n a L.length cap, .int .i64 e, .slice b D.length c] w (GivesB w true) := by
  unfold GivesB gv
  obtain ⟨W, hW⟩ : ∃ W, W = w.alloc (Obj.cells #[.int .i64 n, .slice a L.length cap] 24) := ⟨_, rfl⟩
  have hB0 : Below w.heap.size w W := by rw [hW]; exact (Below.refl _ w).alloc (Nat.le_refl _) _
  have hG : Blk W w.heap.size 24 #[.int .i64 n, .slice a L.length cap] := by rw [hW]; exact Blk.new _ _ _
  have HW := Lib.hid hW
  have HB0 := Lib.hid hB0
  have hEz : EsAt W a L := h.keep hB0
  have hVz : IsAt W b D := hd.keep hB0
  have HF : Hid (∀ x, Below W.heap.size W x → x.cell? ⟨w.heap.size, 0, none⟩ = some (.int .i64 n) ∧ x.cell? ⟨w.heap.size, 1, none⟩ = some (.slice a L.length cap) ∧ EsAt x a L ∧ IsAt x b D) := Lib.hid fun x hx => ⟨(hG.below hx hG.lt).cell 0, (hG.below hx hG.lt).cell 1, hEz.keep hx, hVz.keep hx⟩
  have hk0 : Below W.heap.size W W := Below.refl _ _
  obtain ⟨g0, g1, -⟩ := HF.out W hk0
  clear hB0 hG hW hEz h hVz hd
  have l1 : ¬ (40 : Int) < (D.length : Int) := by omega
  have q1 : (((k : Nat) : Int) == ((k : Nat) : Int)) = true := by simp
  go_enter Try.func6, Try.ntmps6
  go_wp2_with fail
  rw [← HW.out]
  refine (HFW.out _ (HF.out W hk0).2.2.1).mono ?_
  rintro e x1 ⟨rfl, hb1⟩
  have hk1 : Below W.heap.size W x1 := hk0.trans (hb1.mono hk0.size)
  clear hb1 hk0 g0 g1
  obtain ⟨g0, g1, -⟩ := HF.out x1 hk1
  go_wp2_with fail
  refine (HP.out _ (HF.out x1 hk1).2.2.1 (HF.out x1 hk1).2.2.2).mono ?_
  rintro e x2 ⟨b1, d1, rfl, hA_2, hb2⟩
  have hk2 : Below W.heap.size W x2 := hk1.trans (hb2.mono hk1.size)
  clear hb2 hk1 g0 g1
  obtain ⟨g0, g1, -⟩ := HF.out x2 hk2
  go_wp2_with fail
  refine (HR.out _ (HF.out x2 hk2).2.2.1 (HF.out x2 hk2).2.2.2).mono ?_
  rintro e x3 ⟨b3, d3, rfl, hC_3, hb3⟩
  have hk3 : Below W.heap.size W x3 := hk2.trans (hb3.mono hk2.size)
  have hA_3 := hA_2.keep hb3
  clear hb3 hk2 g0 g1 hA_2
  obtain ⟨g0, g1, -⟩ := HF.out x3 hk3
  go_wp2_with fail
  refine (HA _).mono ?_
  rintro e x4 ⟨rfl, hb4⟩
  have hk4 : Below W.heap.size W x4 := hk3.trans (hb4.mono hk3.size)
  have hA_4 := hA_3.keep hb4
  have hC_4 := hC_3.keep hb4
  clear hb4 hk3 g0 g1 hA_3 hC_3
  obtain ⟨g0, g1, -⟩ := HF.out x4 hk4
  go_wp2_with fail
  refine (rsameD_true b1 b3 d1 d3 A hAl _ hA_4 hC_4).mono ?_
  rintro e x5 ⟨rfl, hb5⟩
  have hk5 : Below W.heap.size W x5 := hk4.trans (hb5.mono hk4.size)
  have hA_5 := hA_4.keep hb5
  have hC_5 := hC_4.keep hb5
  clear hb5 hk4 g0 g1 hA_4 hC_4
  obtain ⟨g0, g1, -⟩ := HF.out x5 hk5
  have HEND := Lib.hid (HB0.out.trans (hk5.mono HB0.out.size))
  clear hk5 g0 g1
  go_wp2
  go_ret
  exact ⟨rfl, HEND.out⟩
set_option maxHeartbeats 12800000 in
set_option maxRecDepth 100000 in
theorem refines_dark (n : Int) (a : Option Addr) (cap : Nat) (L : List E) (k0 : Int) (b : Option Addr) (c : Nat) (D : List Int) (HFW : Hid (∀ w, EsAt w a L → Calls Try.prog 11 #[.agg #[.int .i64 n, .slice a L.length cap]] w (fun e w' => e = .returned (.bool false) ∧ Below w.heap.size w w'))) (HA : AwakeC) (w : World) (h : EsAt w a L) (hd : IsAt w b D) :
    Calls Try.prog 5 #[gv n a L.length cap, .int .i64 k0, .slice b D.length c] w (GivesB w true) := by
  unfold GivesB gv
  obtain ⟨W, hW⟩ : ∃ W, W = w.alloc (Obj.cells #[.int .i64 n, .slice a L.length cap] 24) := ⟨_, rfl⟩
  have hB0 : Below w.heap.size w W := by rw [hW]; exact (Below.refl _ w).alloc (Nat.le_refl _) _
  have hG : Blk W w.heap.size 24 #[.int .i64 n, .slice a L.length cap] := by rw [hW]; exact Blk.new _ _ _
  have HW := Lib.hid hW
  have HB0 := Lib.hid hB0
  have hEz : EsAt W a L := h.keep hB0
  have hVz : IsAt W b D := hd.keep hB0
  have HF : Hid (∀ x, Below W.heap.size W x → x.cell? ⟨w.heap.size, 0, none⟩ = some (.int .i64 n) ∧ x.cell? ⟨w.heap.size, 1, none⟩ = some (.slice a L.length cap) ∧ EsAt x a L ∧ IsAt x b D) := Lib.hid fun x hx => ⟨(hG.below hx hG.lt).cell 0, (hG.below hx hG.lt).cell 1, hEz.keep hx, hVz.keep hx⟩
  have hk0 : Below W.heap.size W W := Below.refl _ _
  obtain ⟨g0, g1, -⟩ := HF.out W hk0
  clear hB0 hG hW hEz h hVz hd
  go_enter Try.func5, Try.ntmps5
  go_wp2_with fail
  rw [← HW.out]
  refine (HFW.out _ (HF.out W hk0).2.2.1).mono ?_
  rintro e x1 ⟨rfl, hb1⟩
  have hk1 : Below W.heap.size W x1 := hk0.trans (hb1.mono hk0.size)
  clear hb1 hk0 g0 g1
  obtain ⟨g0, g1, -⟩ := HF.out x1 hk1
  go_wp2_with fail
  refine (HA _).mono ?_
  rintro e x2 ⟨rfl, hb2⟩
  have hk2 : Below W.heap.size W x2 := hk1.trans (hb2.mono hk1.size)
  clear hb2 hk1 g0 g1
  obtain ⟨g0, g1, -⟩ := HF.out x2 hk2
  have HEND := Lib.hid (HB0.out.trans (hk2.mono HB0.out.size))
  clear hk2 g0 g1
  go_wp2
  go_ret
  exact ⟨rfl, HEND.out⟩
set_option maxHeartbeats 12800000 in
set_option maxRecDepth 100000 in
theorem refines_long (n : Int) (a : Option Addr) (cap : Nat) (L : List E) (k0 : Int) (b : Option Addr) (c : Nat) (D : List Int) (hl : 40 < D.length) (HFW : Hid (∀ w, EsAt w a L → Calls Try.prog 11 #[.agg #[.int .i64 n, .slice a L.length cap]] w (fun e w' => e = .returned (.bool true) ∧ Below w.heap.size w w'))) (HA : AwakeC) (w : World) (h : EsAt w a L) (hd : IsAt w b D) :
    Calls Try.prog 5 #[gv n a L.length cap, .int .i64 k0, .slice b D.length c] w (GivesB w true) := by
  unfold GivesB gv
  obtain ⟨W, hW⟩ : ∃ W, W = w.alloc (Obj.cells #[.int .i64 n, .slice a L.length cap] 24) := ⟨_, rfl⟩
  have hB0 : Below w.heap.size w W := by rw [hW]; exact (Below.refl _ w).alloc (Nat.le_refl _) _
  have hG : Blk W w.heap.size 24 #[.int .i64 n, .slice a L.length cap] := by rw [hW]; exact Blk.new _ _ _
  have HW := Lib.hid hW
  have HB0 := Lib.hid hB0
  have hEz : EsAt W a L := h.keep hB0
  have hVz : IsAt W b D := hd.keep hB0
  have HF : Hid (∀ x, Below W.heap.size W x → x.cell? ⟨w.heap.size, 0, none⟩ = some (.int .i64 n) ∧ x.cell? ⟨w.heap.size, 1, none⟩ = some (.slice a L.length cap) ∧ EsAt x a L ∧ IsAt x b D) := Lib.hid fun x hx => ⟨(hG.below hx hG.lt).cell 0, (hG.below hx hG.lt).cell 1, hEz.keep hx, hVz.keep hx⟩
  have hk0 : Below W.heap.size W W := Below.refl _ _
  obtain ⟨g0, g1, -⟩ := HF.out W hk0
  clear hB0 hG hW hEz h hVz hd
  have l1 : (40 : Int) < (D.length : Int) := by omega
  go_enter Try.func5, Try.ntmps5
  go_wp2_with fail
  rw [← HW.out]
  refine (HFW.out _ (HF.out W hk0).2.2.1).mono ?_
  rintro e x1 ⟨rfl, hb1⟩
  have hk1 : Below W.heap.size W x1 := hk0.trans (hb1.mono hk0.size)
  clear hb1 hk0 g0 g1
  obtain ⟨g0, g1, -⟩ := HF.out x1 hk1
  go_wp2_with fail
  refine (HA _).mono ?_
  rintro e x2 ⟨rfl, hb2⟩
  have hk2 : Below W.heap.size W x2 := hk1.trans (hb2.mono hk1.size)
  clear hb2 hk1 g0 g1
  obtain ⟨g0, g1, -⟩ := HF.out x2 hk2
  have HEND := Lib.hid (HB0.out.trans (hk2.mono HB0.out.size))
  clear hk2 g0 g1
  go_wp2
  go_ret
  exact ⟨rfl, HEND.out⟩
set_option maxHeartbeats 12800000 in
set_option maxRecDepth 100000 in
theorem refines_of (n : Int) (a : Option Addr) (cap : Nat) (L : List E) (k0 : Int) (b : Option Addr) (c : Nat) (D : List Int) (hl : D.length ≤ 40) (m : Int) (J : List E) (hJl : J.length ≤ 100000) (k : Nat) (A : List Int) (hAl : A.length ≤ 100000) (l : Nat) (HFW : Hid (∀ w, EsAt w a L → Calls Try.prog 11 #[.agg #[.int .i64 n, .slice a L.length cap]] w (fun e w' => e = .returned (.bool true) ∧ Below w.heap.size w w'))) (HA : AwakeC) (HP : Hid (∀ w, EsAt w a L → Calls Try.prog 25 #[.agg #[.int .i64 n, .slice a L.length cap], .int .i64 k0] w (fun e w' => ∃ a1 c1, e = .returned (.tuple #[.agg #[.int .i64 m, .slice a1 J.length c1], .int .i64 ((k : Nat) : Int)]) ∧ EsAt w' a1 J ∧ Below w.heap.size w w'))) (HR : Hid (∀ w, EsAt w a L → Calls Try.prog 26 #[.agg #[.int .i64 n, .slice a L.length cap], .int .i64 k0] w (fun e w' => ∃ a1 c1, e = .returned (.tuple #[.agg #[.int .i64 m, .slice a1 J.length c1], .int .i64 ((k : Nat) : Int)]) ∧ EsAt w' a1 J ∧ Below w.heap.size w w'))) (HQ : Hid (∀ w, EsAt w a L → IsAt w b D → Calls Try.prog 27 #[.agg #[.int .i64 n, .slice a L.length cap], .int .i64 k0, .slice b D.length c] w (fun e w' => ∃ b1 d1, e = .returned (.tuple #[.slice b1 A.length d1, .int .i64 ((l : Nat) : Int)]) ∧ IsAt w' b1 A ∧ Below w.heap.size w w'))) (HS : Hid (∀ w, EsAt w a L → IsAt w b D → Calls Try.prog 28 #[.agg #[.int .i64 n, .slice a L.length cap], .int .i64 k0, .slice b D.length c] w (fun e w' => ∃ b1 d1, e = .returned (.tuple #[.slice b1 A.length d1, .int .i64 ((l : Nat) : Int)]) ∧ IsAt w' b1 A ∧ Below w.heap.size w w'))) (w : World) (h : EsAt w a L) (hd : IsAt w b D) :
    Calls Try.prog 5 #[gv n a L.length cap, .int .i64 k0, .slice b D.length c] w (GivesB w true) := by
  unfold GivesB gv
  obtain ⟨W, hW⟩ : ∃ W, W = w.alloc (Obj.cells #[.int .i64 n, .slice a L.length cap] 24) := ⟨_, rfl⟩
  have hB0 : Below w.heap.size w W := by rw [hW]; exact (Below.refl _ w).alloc (Nat.le_refl _) _
  have hG : Blk W w.heap.size 24 #[.int .i64 n, .slice a L.length cap] := by rw [hW]; exact Blk.new _ _ _
  have HW := Lib.hid hW
  have HB0 := Lib.hid hB0
  have hEz : EsAt W a L := h.keep hB0
  have hVz : IsAt W b D := hd.keep hB0
  have HF : Hid (∀ x, Below W.heap.size W x → x.cell? ⟨w.heap.size, 0, none⟩ = some (.int .i64 n) ∧ x.cell? ⟨w.heap.size, 1, none⟩ = some (.slice a L.length cap) ∧ EsAt x a L ∧ IsAt x b D) := Lib.hid fun x hx => ⟨(hG.below hx hG.lt).cell 0, (hG.below hx hG.lt).cell 1, hEz.keep hx, hVz.keep hx⟩
  have hk0 : Below W.heap.size W W := Below.refl _ _
  obtain ⟨g0, g1, -⟩ := HF.out W hk0
  clear hB0 hG hW hEz h hVz hd
  have l1 : ¬ (40 : Int) < (D.length : Int) := by omega
  have q1 : (((k : Nat) : Int) == ((k : Nat) : Int)) = true := by simp
  have q2 : (((l : Nat) : Int) == ((l : Nat) : Int)) = true := by simp
  go_enter Try.func5, Try.ntmps5
  go_wp2_with fail
  rw [← HW.out]
  refine (HFW.out _ (HF.out W hk0).2.2.1).mono ?_
  rintro e x1 ⟨rfl, hb1⟩
  have hk1 : Below W.heap.size W x1 := hk0.trans (hb1.mono hk0.size)
  clear hb1 hk0 g0 g1
  obtain ⟨g0, g1, -⟩ := HF.out x1 hk1
  go_wp2_with fail
  refine (HP.out _ (HF.out x1 hk1).2.2.1).mono ?_
  rintro e x2 ⟨a1, c1, rfl, hJ_2, hb2⟩
  have hk2 : Below W.heap.size W x2 := hk1.trans (hb2.mono hk1.size)
  clear hb2 hk1 g0 g1
  obtain ⟨g0, g1, -⟩ := HF.out x2 hk2
  obtain ⟨Y1, hY1⟩ : ∃ Y, Y = x2.alloc (Obj.cells #[.int .i64 m, .slice a1 J.length c1] 24) := ⟨_, rfl⟩
  have hy : Below x2.heap.size x2 Y1 := by rw [hY1]; exact (Below.refl _ _).alloc (Nat.le_refl _) _
  have hz : Below W.heap.size W Y1 := hk2.trans (hy.mono hk2.size)
  have hQ : Blk Y1 x2.heap.size 24 #[.int .i64 m, .slice a1 J.length c1] := by rw [hY1]; exact Blk.new _ _ _
  have HBY1 : Hid (Below w.heap.size w Y1) := Lib.hid (HB0.out.trans (hz.mono HB0.out.size))
  have HFY1 : Hid (∀ x, Below Y1.heap.size Y1 x → x.cell? ⟨w.heap.size, 0, none⟩ = some (.int .i64 n) ∧ x.cell? ⟨w.heap.size, 1, none⟩ = some (.slice a L.length cap) ∧ x.cell? ⟨x2.heap.size, 0, none⟩ = some (.int .i64 m) ∧ x.cell? ⟨x2.heap.size, 1, none⟩ = some (.slice a1 J.length c1) ∧ EsAt x a L ∧ IsAt x b D ∧ EsAt x a1 J) := Lib.hid fun x hx => ⟨(HF.out x (hz.trans (hx.mono hz.size))).1, (HF.out x (hz.trans (hx.mono hz.size))).2.1, (hQ.below hx hQ.lt).cell 0, (hQ.below hx hQ.lt).cell 1, (HF.out x (hz.trans (hx.mono hz.size))).2.2.1, (HF.out x (hz.trans (hx.mono hz.size))).2.2.2, (hJ_2.keep hy).keep hx⟩
  clear g0 g1 hk2 hz hQ hy hJ_2
  have hk3 : Below Y1.heap.size Y1 Y1 := Below.refl _ _
  have g0 : (x2.alloc (Obj.cells #[.int .i64 m, .slice a1 J.length c1] 24)).cell? ⟨w.heap.size, 0, none⟩ = some (.int .i64 n) := by rw [← hY1]; exact (HFY1.out _ hk3).1
  have g1 : (x2.alloc (Obj.cells #[.int .i64 m, .slice a1 J.length c1] 24)).cell? ⟨w.heap.size, 1, none⟩ = some (.slice a L.length cap) := by rw [← hY1]; exact (HFY1.out _ hk3).2.1
  have g2 : (x2.alloc (Obj.cells #[.int .i64 m, .slice a1 J.length c1] 24)).cell? ⟨x2.heap.size, 0, none⟩ = some (.int .i64 m) := by rw [← hY1]; exact (HFY1.out _ hk3).2.2.1
  have g3 : (x2.alloc (Obj.cells #[.int .i64 m, .slice a1 J.length c1] 24)).cell? ⟨x2.heap.size, 1, none⟩ = some (.slice a1 J.length c1) := by rw [← hY1]; exact (HFY1.out _ hk3).2.2.2.1
  have HY1 := Lib.hid hY1
  clear hY1
  go_wp2_with fail
  rw [← HY1.out]
  refine (HR.out _ (HFY1.out Y1 hk3).2.2.2.2.1).mono ?_
  rintro e x4 ⟨a2, c2, rfl, hK_4, hb4⟩
  have hk4 : Below Y1.heap.size Y1 x4 := hk3.trans (hb4.mono hk3.size)
  clear hb4 hk3 g0 g1 g2 g3
  obtain ⟨g0, g1, g2, g3, -⟩ := HFY1.out x4 hk4
  obtain ⟨Y2, hY2⟩ : ∃ Y, Y = x4.alloc (Obj.cells #[.int .i64 m, .slice a2 J.length c2] 24) := ⟨_, rfl⟩
  have hy : Below x4.heap.size x4 Y2 := by rw [hY2]; exact (Below.refl _ _).alloc (Nat.le_refl _) _
  have hz : Below Y1.heap.size Y1 Y2 := hk4.trans (hy.mono hk4.size)
  have hQ : Blk Y2 x4.heap.size 24 #[.int .i64 m, .slice a2 J.length c2] := by rw [hY2]; exact Blk.new _ _ _
  have HBY2 : Hid (Below w.heap.size w Y2) := Lib.hid (HBY1.out.trans (hz.mono HBY1.out.size))
  have HFY2 : Hid (∀ x, Below Y2.heap.size Y2 x → x.cell? ⟨w.heap.size, 0, none⟩ = some (.int .i64 n) ∧ x.cell? ⟨w.heap.size, 1, none⟩ = some (.slice a L.length cap) ∧ x.cell? ⟨x2.heap.size, 0, none⟩ = some (.int .i64 m) ∧ x.cell? ⟨x2.heap.size, 1, none⟩ = some (.slice a1 J.length c1) ∧ x.cell? ⟨x4.heap.size, 0, none⟩ = some (.int .i64 m) ∧ x.cell? ⟨x4.heap.size, 1, none⟩ = some (.slice a2 J.length c2) ∧ EsAt x a L ∧ IsAt x b D ∧ EsAt x a1 J ∧ EsAt x a2 J) := Lib.hid fun x hx => ⟨(HFY1.out x (hz.trans (hx.mono hz.size))).1, (HFY1.out x (hz.trans (hx.mono hz.size))).2.1, (HFY1.out x (hz.trans (hx.mono hz.size))).2.2.1, (HFY1.out x (hz.trans (hx.mono hz.size))).2.2.2.1, (hQ.below hx hQ.lt).cell 0, (hQ.below hx hQ.lt).cell 1, (HFY1.out x (hz.trans (hx.mono hz.size))).2.2.2.2.1, (HFY1.out x (hz.trans (hx.mono hz.size))).2.2.2.2.2.1, (HFY1.out x (hz.trans (hx.mono hz.size))).2.2.2.2.2.2, (hK_4.keep hy).keep hx⟩
  clear g0 g1 g2 g3 hk4 hz hQ hy hK_4
  have hk5 : Below Y2.heap.size Y2 Y2 := Below.refl _ _
  have g0 : (x4.alloc (Obj.cells #[.int .i64 m, .slice a2 J.length c2] 24)).cell? ⟨w.heap.size, 0, none⟩ = some (.int .i64 n) := by rw [← hY2]; exact (HFY2.out _ hk5).1
  have g1 : (x4.alloc (Obj.cells #[.int .i64 m, .slice a2 J.length c2] 24)).cell? ⟨w.heap.size, 1, none⟩ = some (.slice a L.length cap) := by rw [← hY2]; exact (HFY2.out _ hk5).2.1
  have g2 : (x4.alloc (Obj.cells #[.int .i64 m, .slice a2 J.length c2] 24)).cell? ⟨x2.heap.size, 0, none⟩ = some (.int .i64 m) := by rw [← hY2]; exact (HFY2.out _ hk5).2.2.1
  have g3 : (x4.alloc (Obj.cells #[.int .i64 m, .slice a2 J.length c2] 24)).cell? ⟨x2.heap.size, 1, none⟩ = some (.slice a1 J.length c1) := by rw [← hY2]; exact (HFY2.out _ hk5).2.2.2.1
  have g4 : (x4.alloc (Obj.cells #[.int .i64 m, .slice a2 J.length c2] 24)).cell? ⟨x4.heap.size, 0, none⟩ = some (.int .i64 m) := by rw [← hY2]; exact (HFY2.out _ hk5).2.2.2.2.1
  have g5 : (x4.alloc (Obj.cells #[.int .i64 m, .slice a2 J.length c2] 24)).cell? ⟨x4.heap.size, 1, none⟩ = some (.slice a2 J.length c2) := by rw [← hY2]; exact (HFY2.out _ hk5).2.2.2.2.2.1
  have HY2 := Lib.hid hY2
  clear hY2
  go_wp2_with fail
  rw [← HY2.out]
  refine (HQ.out _ (HFY2.out Y2 hk5).2.2.2.2.2.2.1 (HFY2.out Y2 hk5).2.2.2.2.2.2.2.1).mono ?_
  rintro e x6 ⟨b1, d1, rfl, hA_6, hb6⟩
  have hk6 : Below Y2.heap.size Y2 x6 := hk5.trans (hb6.mono hk5.size)
  clear hb6 hk5 g0 g1 g2 g3 g4 g5
  obtain ⟨g0, g1, g2, g3, g4, g5, -⟩ := HFY2.out x6 hk6
  go_wp2_with fail
  refine (HS.out _ (HFY2.out x6 hk6).2.2.2.2.2.2.1 (HFY2.out x6 hk6).2.2.2.2.2.2.2.1).mono ?_
  rintro e x7 ⟨b3, d3, rfl, hC_7, hb7⟩
  have hk7 : Below Y2.heap.size Y2 x7 := hk6.trans (hb7.mono hk6.size)
  have hA_7 := hA_6.keep hb7
  clear hb7 hk6 g0 g1 g2 g3 g4 g5 hA_6
  obtain ⟨g0, g1, g2, g3, g4, g5, -⟩ := HFY2.out x7 hk7
  go_wp2_with fail
  refine (HA _).mono ?_
  rintro e x8 ⟨rfl, hb8⟩
  have hk8 : Below Y2.heap.size Y2 x8 := hk7.trans (hb8.mono hk7.size)
  have hA_8 := hA_7.keep hb8
  have hC_8 := hC_7.keep hb8
  clear hb8 hk7 g0 g1 g2 g3 g4 g5 hA_7 hC_7
  obtain ⟨g0, g1, g2, g3, g4, g5, -⟩ := HFY2.out x8 hk8
  go_wp2_with fail
  refine (same_any m a1 a2 c1 c2 J _ hJl (HFY2.out x8 hk8).2.2.2.2.2.2.2.2.1 (HFY2.out x8 hk8).2.2.2.2.2.2.2.2.2).mono ?_
  rintro e x9 ⟨rfl, hb9⟩
  have hk9 : Below Y2.heap.size Y2 x9 := hk8.trans (hb9.mono hk8.size)
  have hA_9 := hA_8.keep hb9
  have hC_9 := hC_8.keep hb9
  clear hb9 hk8 g0 g1 g2 g3 g4 g5 hA_8 hC_8
  obtain ⟨g0, g1, g2, g3, g4, g5, -⟩ := HFY2.out x9 hk9
  go_wp2_with fail
  refine (rsameD_true b1 b3 d1 d3 A hAl _ hA_9 hC_9).mono ?_
  rintro e x10 ⟨rfl, hb10⟩
  have hk10 : Below Y2.heap.size Y2 x10 := hk9.trans (hb10.mono hk9.size)
  have hA_10 := hA_9.keep hb10
  have hC_10 := hC_9.keep hb10
  clear hb10 hk9 g0 g1 g2 g3 g4 g5 hA_9 hC_9
  obtain ⟨g0, g1, g2, g3, g4, g5, -⟩ := HFY2.out x10 hk10
  have HEND := Lib.hid (HBY2.out.trans (hk10.mono HBY2.out.size))
  clear hk10 g0 g1 g2 g3 g4 g5
  go_wp2
  go_ret
  exact ⟨rfl, HEND.out⟩
set_option maxHeartbeats 12800000 in
set_option maxRecDepth 100000 in
theorem changes_dark (n : Int) (a : Option Addr) (cap : Nat) (L : List E) (e vx vy : Int) (hl : 3 < L.length) (HFW : Hid (∀ w, EsAt w a L → Calls Try.prog 11 #[.agg #[.int .i64 n, .slice a L.length cap]] w (fun e w' => e = .returned (.bool false) ∧ Below w.heap.size w w'))) (HA : AwakeC) (w : World) (h : EsAt w a L) :
    Calls Try.prog 3 #[gv n a L.length cap, .int .i64 e, .agg #[.int .i64 vx, .int .i64 vy]] w (GivesB w true) := by
  unfold GivesB gv
  obtain ⟨W, hW⟩ : ∃ W, W = (w.alloc (Obj.cells #[.int .i64 n, .slice a L.length cap] 24)).alloc (Obj.cells #[.int .i64 vx, .int .i64 vy] 25) := ⟨_, rfl⟩
  have hB0 : Below w.heap.size w W := by rw [hW]; exact ((Below.refl _ w).alloc (Nat.le_refl _) _).alloc (by simp) _
  have hG : Blk W w.heap.size 24 #[.int .i64 n, .slice a L.length cap] := by rw [hW]; exact (Blk.new _ _ _).alloc _
  have hP : Blk W (w.heap.size + 1) 25 #[.int .i64 vx, .int .i64 vy] := by
    rw [hW]
    have := Blk.new (w.alloc (Obj.cells #[.int .i64 n, .slice a L.length cap] 24)) 25 #[.int .i64 vx, .int .i64 vy]
    rwa [World.size_alloc] at this
  have HW := Lib.hid hW
  have HB0 := Lib.hid hB0
  have hEz : EsAt W a L := h.keep hB0
  have HF : Hid (∀ x', Below W.heap.size W x' → x'.cell? ⟨w.heap.size, 0, none⟩ = some (.int .i64 n) ∧ x'.cell? ⟨w.heap.size, 1, none⟩ = some (.slice a L.length cap) ∧ x'.cell? ⟨w.heap.size + 1, 0, none⟩ = some (.int .i64 vx) ∧ x'.cell? ⟨w.heap.size + 1, 1, none⟩ = some (.int .i64 vy) ∧ EsAt x' a L) := Lib.hid fun x' hx => ⟨(hG.below hx hG.lt).cell 0, (hG.below hx hG.lt).cell 1, (hP.below hx hP.lt).cell 0, (hP.below hx hP.lt).cell 1, hEz.keep hx⟩
  have hk0 : Below W.heap.size W W := Below.refl _ _
  obtain ⟨g0, g1, g2, g3, -⟩ := HF.out W hk0
  clear hB0 hG hW hP hEz h
  have l1 : (3 : Int) < (L.length : Int) := by omega
  go_enter Try.func3, Try.ntmps3
  go_wp2_with fail
  rw [← HW.out]
  refine (HFW.out _ (HF.out W hk0).2.2.2.2).mono ?_
  rintro e x1 ⟨rfl, hb1⟩
  have hk1 : Below W.heap.size W x1 := hk0.trans (hb1.mono hk0.size)
  clear hb1 hk0 g0 g1 g2 g3
  obtain ⟨g0, g1, g2, g3, -⟩ := HF.out x1 hk1
  go_wp2_with fail
  refine (HA _).mono ?_
  rintro e x2 ⟨rfl, hb2⟩
  have hk2 : Below W.heap.size W x2 := hk1.trans (hb2.mono hk1.size)
  clear hb2 hk1 g0 g1 g2 g3
  obtain ⟨g0, g1, g2, g3, -⟩ := HF.out x2 hk2
  have HEND := Lib.hid (HB0.out.trans (hk2.mono HB0.out.size))
  clear hk2 g0 g1 g2 g3
  go_wp2
  go_ret
  exact ⟨rfl, HEND.out⟩
set_option maxHeartbeats 12800000 in
set_option maxRecDepth 100000 in
theorem changes_few (n : Int) (a : Option Addr) (cap : Nat) (L : List E) (e vx vy : Int) (m1 m2 m4 : Int) (J1 J2 J4 : List E) (h1 : J1.length ≤ 100000) (h2 : J2.length ≤ 100000) (h4 : J4.length ≤ 100000) (V : List Int) (hVl : V.length ≤ 100000) (k1 k2 k3 k4 : Nat) (HFW : Hid (∀ w, EsAt w a L → Calls Try.prog 11 #[.agg #[.int .i64 n, .slice a L.length cap]] w (fun e w' => e = .returned (.bool true) ∧ Below w.heap.size w w'))) (HA : AwakeC) (HD1 : Hid (∀ w, EsAt w a L → Calls Try.prog 13 #[.agg #[.int .i64 n, .slice a L.length cap], .int .i64 e] w (fun e w' => ∃ a1 c1, e = .returned (.tuple #[.agg #[.int .i64 m1, .slice a1 J1.length c1], .int .i64 ((k1 : Nat) : Int)]) ∧ EsAt w' a1 J1 ∧ Below w.heap.size w w'))) (HD2 : Hid (∀ w, EsAt w a L → Calls Try.prog 14 #[.agg #[.int .i64 n, .slice a L.length cap], .int .i64 e] w (fun e w' => ∃ a1 c1, e = .returned (.tuple #[.agg #[.int .i64 m1, .slice a1 J1.length c1], .int .i64 ((k1 : Nat) : Int)]) ∧ EsAt w' a1 J1 ∧ Below w.heap.size w w'))) (HC1 : Hid (∀ w, EsAt w a L → Calls Try.prog 15 #[.agg #[.int .i64 n, .slice a L.length cap], .int .i64 e] w (fun e w' => ∃ a1 c1, e = .returned (.tuple #[.agg #[.int .i64 m2, .slice a1 J2.length c1], .int .i64 ((k2 : Nat) : Int)]) ∧ EsAt w' a1 J2 ∧ Below w.heap.size w w'))) (HC2 : Hid (∀ w, EsAt w a L → Calls Try.prog 16 #[.agg #[.int .i64 n, .slice a L.length cap], .int .i64 e] w (fun e w' => ∃ a1 c1, e = .returned (.tuple #[.agg #[.int .i64 m2, .slice a1 J2.length c1], .int .i64 ((k2 : Nat) : Int)]) ∧ EsAt w' a1 J2 ∧ Below w.heap.size w w'))) (HV1 : Hid (∀ w, EsAt w a L → Calls Try.prog 17 #[.agg #[.int .i64 n, .slice a L.length cap], .int .i64 e] w (fun e w' => ∃ b1 d1, e = .returned (.tuple #[.slice b1 V.length d1, .int .i64 ((k3 : Nat) : Int)]) ∧ IsAt w' b1 V ∧ Below w.heap.size w w'))) (HV2 : Hid (∀ w, EsAt w a L → Calls Try.prog 18 #[.agg #[.int .i64 n, .slice a L.length cap], .int .i64 e] w (fun e w' => ∃ b1 d1, e = .returned (.tuple #[.slice b1 V.length d1, .int .i64 ((k3 : Nat) : Int)]) ∧ IsAt w' b1 V ∧ Below w.heap.size w w'))) (HM1 : Hid (∀ w, EsAt w a L → Calls Try.prog 19 #[.agg #[.int .i64 n, .slice a L.length cap], .int .i64 vx, .int .i64 vy] w (fun e w' => ∃ a1 c1, e = .returned (.tuple #[.agg #[.int .i64 m4, .slice a1 J4.length c1], .int .i64 ((k4 : Nat) : Int)]) ∧ EsAt w' a1 J4 ∧ Below w.heap.size w w'))) (HM2 : Hid (∀ w, EsAt w a L → Calls Try.prog 20 #[.agg #[.int .i64 n, .slice a L.length cap], .int .i64 vx, .int .i64 vy] w (fun e w' => ∃ a1 c1, e = .returned (.tuple #[.agg #[.int .i64 m4, .slice a1 J4.length c1], .int .i64 ((k4 : Nat) : Int)]) ∧ EsAt w' a1 J4 ∧ Below w.heap.size w w'))) (w : World) (h : EsAt w a L) :
    Calls Try.prog 3 #[gv n a L.length cap, .int .i64 e, .agg #[.int .i64 vx, .int .i64 vy]] w (GivesB w true) := by
  unfold GivesB gv
  obtain ⟨W, hW⟩ : ∃ W, W = (w.alloc (Obj.cells #[.int .i64 n, .slice a L.length cap] 24)).alloc (Obj.cells #[.int .i64 vx, .int .i64 vy] 25) := ⟨_, rfl⟩
  have hB0 : Below w.heap.size w W := by rw [hW]; exact ((Below.refl _ w).alloc (Nat.le_refl _) _).alloc (by simp) _
  have hG : Blk W w.heap.size 24 #[.int .i64 n, .slice a L.length cap] := by rw [hW]; exact (Blk.new _ _ _).alloc _
  have hP : Blk W (w.heap.size + 1) 25 #[.int .i64 vx, .int .i64 vy] := by
    rw [hW]
    have := Blk.new (w.alloc (Obj.cells #[.int .i64 n, .slice a L.length cap] 24)) 25 #[.int .i64 vx, .int .i64 vy]
    rwa [World.size_alloc] at this
  have HW := Lib.hid hW
  have HB0 := Lib.hid hB0
  have hEz : EsAt W a L := h.keep hB0
  have HF : Hid (∀ x', Below W.heap.size W x' → x'.cell? ⟨w.heap.size, 0, none⟩ = some (.int .i64 n) ∧ x'.cell? ⟨w.heap.size, 1, none⟩ = some (.slice a L.length cap) ∧ x'.cell? ⟨w.heap.size + 1, 0, none⟩ = some (.int .i64 vx) ∧ x'.cell? ⟨w.heap.size + 1, 1, none⟩ = some (.int .i64 vy) ∧ EsAt x' a L) := Lib.hid fun x' hx => ⟨(hG.below hx hG.lt).cell 0, (hG.below hx hG.lt).cell 1, (hP.below hx hP.lt).cell 0, (hP.below hx hP.lt).cell 1, hEz.keep hx⟩
  have hk0 : Below W.heap.size W W := Below.refl _ _
  obtain ⟨g0, g1, g2, g3, -⟩ := HF.out W hk0
  clear hB0 hG hW hP hEz h
  have q1 : (((k1 : Nat) : Int) == ((k1 : Nat) : Int)) = true := by simp
  have q2 : (((k2 : Nat) : Int) == ((k2 : Nat) : Int)) = true := by simp
  have q3 : (((k3 : Nat) : Int) == ((k3 : Nat) : Int)) = true := by simp
  have q4 : (((k4 : Nat) : Int) == ((k4 : Nat) : Int)) = true := by simp
  go_enter Try.func3, Try.ntmps3
  go_wp2_with fail
  rw [← HW.out]
  refine (HFW.out _ (HF.out W hk0).2.2.2.2).mono ?_
  rintro e x1 ⟨rfl, hb1⟩
  have hk1 : Below W.heap.size W x1 := hk0.trans (hb1.mono hk0.size)
  clear hb1 hk0 g0 g1 g2 g3
  obtain ⟨g0, g1, g2, g3, -⟩ := HF.out x1 hk1
  go_wp2_with fail
  refine (HD1.out _ (HF.out x1 hk1).2.2.2.2).mono ?_
  rintro e x2 ⟨a1, c1, rfl, hJ_2, hb2⟩
  have hk2 : Below W.heap.size W x2 := hk1.trans (hb2.mono hk1.size)
  clear hb2 hk1 g0 g1 g2 g3
  obtain ⟨g0, g1, g2, g3, -⟩ := HF.out x2 hk2
  obtain ⟨Y1, hY1⟩ : ∃ Y, Y = x2.alloc (Obj.cells #[.int .i64 m1, .slice a1 J1.length c1] 24) := ⟨_, rfl⟩
  have hy : Below x2.heap.size x2 Y1 := by rw [hY1]; exact (Below.refl _ _).alloc (Nat.le_refl _) _
  have hz : Below W.heap.size W Y1 := hk2.trans (hy.mono hk2.size)
  have hQ : Blk Y1 x2.heap.size 24 #[.int .i64 m1, .slice a1 J1.length c1] := by rw [hY1]; exact Blk.new _ _ _
  have HBY1 : Hid (Below w.heap.size w Y1) := Lib.hid (HB0.out.trans (hz.mono HB0.out.size))
  have HFY1 : Hid (∀ x, Below Y1.heap.size Y1 x → x.cell? ⟨w.heap.size, 0, none⟩ = some (.int .i64 n) ∧ x.cell? ⟨w.heap.size, 1, none⟩ = some (.slice a L.length cap) ∧ x.cell? ⟨w.heap.size + 1, 0, none⟩ = some (.int .i64 vx) ∧ x.cell? ⟨w.heap.size + 1, 1, none⟩ = some (.int .i64 vy) ∧ x.cell? ⟨x2.heap.size, 0, none⟩ = some (.int .i64 m1) ∧ x.cell? ⟨x2.heap.size, 1, none⟩ = some (.slice a1 J1.length c1) ∧ EsAt x a L ∧ EsAt x a1 J1) := Lib.hid fun x hx => ⟨(HF.out x (hz.trans (hx.mono hz.size))).1, (HF.out x (hz.trans (hx.mono hz.size))).2.1, (HF.out x (hz.trans (hx.mono hz.size))).2.2.1, (HF.out x (hz.trans (hx.mono hz.size))).2.2.2.1, (hQ.below hx hQ.lt).cell 0, (hQ.below hx hQ.lt).cell 1, (HF.out x (hz.trans (hx.mono hz.size))).2.2.2.2, (hJ_2.keep hy).keep hx⟩
  clear g0 g1 g2 g3 hk2 hz hQ hy hJ_2
  have hk3 : Below Y1.heap.size Y1 Y1 := Below.refl _ _
  have g0 : (x2.alloc (Obj.cells #[.int .i64 m1, .slice a1 J1.length c1] 24)).cell? ⟨w.heap.size, 0, none⟩ = some (.int .i64 n) := by rw [← hY1]; exact (HFY1.out _ hk3).1
  have g1 : (x2.alloc (Obj.cells #[.int .i64 m1, .slice a1 J1.length c1] 24)).cell? ⟨w.heap.size, 1, none⟩ = some (.slice a L.length cap) := by rw [← hY1]; exact (HFY1.out _ hk3).2.1
  have g2 : (x2.alloc (Obj.cells #[.int .i64 m1, .slice a1 J1.length c1] 24)).cell? ⟨w.heap.size + 1, 0, none⟩ = some (.int .i64 vx) := by rw [← hY1]; exact (HFY1.out _ hk3).2.2.1
  have g3 : (x2.alloc (Obj.cells #[.int .i64 m1, .slice a1 J1.length c1] 24)).cell? ⟨w.heap.size + 1, 1, none⟩ = some (.int .i64 vy) := by rw [← hY1]; exact (HFY1.out _ hk3).2.2.2.1
  have g4 : (x2.alloc (Obj.cells #[.int .i64 m1, .slice a1 J1.length c1] 24)).cell? ⟨x2.heap.size, 0, none⟩ = some (.int .i64 m1) := by rw [← hY1]; exact (HFY1.out _ hk3).2.2.2.2.1
  have g5 : (x2.alloc (Obj.cells #[.int .i64 m1, .slice a1 J1.length c1] 24)).cell? ⟨x2.heap.size, 1, none⟩ = some (.slice a1 J1.length c1) := by rw [← hY1]; exact (HFY1.out _ hk3).2.2.2.2.2.1
  have HY1 := Lib.hid hY1
  clear hY1
  go_wp2_with fail
  rw [← HY1.out]
  refine (HD2.out _ (HFY1.out Y1 hk3).2.2.2.2.2.2.1).mono ?_
  rintro e x4 ⟨a2, c2, rfl, hK_4, hb4⟩
  have hk4 : Below Y1.heap.size Y1 x4 := hk3.trans (hb4.mono hk3.size)
  clear hb4 hk3 g0 g1 g2 g3 g4 g5
  obtain ⟨g0, g1, g2, g3, g4, g5, -⟩ := HFY1.out x4 hk4
  obtain ⟨Y2, hY2⟩ : ∃ Y, Y = x4.alloc (Obj.cells #[.int .i64 m1, .slice a2 J1.length c2] 24) := ⟨_, rfl⟩
  have hy : Below x4.heap.size x4 Y2 := by rw [hY2]; exact (Below.refl _ _).alloc (Nat.le_refl _) _
  have hz : Below Y1.heap.size Y1 Y2 := hk4.trans (hy.mono hk4.size)
  have hQ : Blk Y2 x4.heap.size 24 #[.int .i64 m1, .slice a2 J1.length c2] := by rw [hY2]; exact Blk.new _ _ _
  have HBY2 : Hid (Below w.heap.size w Y2) := Lib.hid (HBY1.out.trans (hz.mono HBY1.out.size))
  have HFY2 : Hid (∀ x, Below Y2.heap.size Y2 x → x.cell? ⟨w.heap.size, 0, none⟩ = some (.int .i64 n) ∧ x.cell? ⟨w.heap.size, 1, none⟩ = some (.slice a L.length cap) ∧ x.cell? ⟨w.heap.size + 1, 0, none⟩ = some (.int .i64 vx) ∧ x.cell? ⟨w.heap.size + 1, 1, none⟩ = some (.int .i64 vy) ∧ x.cell? ⟨x2.heap.size, 0, none⟩ = some (.int .i64 m1) ∧ x.cell? ⟨x2.heap.size, 1, none⟩ = some (.slice a1 J1.length c1) ∧ x.cell? ⟨x4.heap.size, 0, none⟩ = some (.int .i64 m1) ∧ x.cell? ⟨x4.heap.size, 1, none⟩ = some (.slice a2 J1.length c2) ∧ EsAt x a L ∧ EsAt x a1 J1 ∧ EsAt x a2 J1) := Lib.hid fun x hx => ⟨(HFY1.out x (hz.trans (hx.mono hz.size))).1, (HFY1.out x (hz.trans (hx.mono hz.size))).2.1, (HFY1.out x (hz.trans (hx.mono hz.size))).2.2.1, (HFY1.out x (hz.trans (hx.mono hz.size))).2.2.2.1, (HFY1.out x (hz.trans (hx.mono hz.size))).2.2.2.2.1, (HFY1.out x (hz.trans (hx.mono hz.size))).2.2.2.2.2.1, (hQ.below hx hQ.lt).cell 0, (hQ.below hx hQ.lt).cell 1, (HFY1.out x (hz.trans (hx.mono hz.size))).2.2.2.2.2.2.1, (HFY1.out x (hz.trans (hx.mono hz.size))).2.2.2.2.2.2.2, (hK_4.keep hy).keep hx⟩
  clear g0 g1 g2 g3 g4 g5 hk4 hz hQ hy hK_4
  have hk5 : Below Y2.heap.size Y2 Y2 := Below.refl _ _
  have g0 : (x4.alloc (Obj.cells #[.int .i64 m1, .slice a2 J1.length c2] 24)).cell? ⟨w.heap.size, 0, none⟩ = some (.int .i64 n) := by rw [← hY2]; exact (HFY2.out _ hk5).1
  have g1 : (x4.alloc (Obj.cells #[.int .i64 m1, .slice a2 J1.length c2] 24)).cell? ⟨w.heap.size, 1, none⟩ = some (.slice a L.length cap) := by rw [← hY2]; exact (HFY2.out _ hk5).2.1
  have g2 : (x4.alloc (Obj.cells #[.int .i64 m1, .slice a2 J1.length c2] 24)).cell? ⟨w.heap.size + 1, 0, none⟩ = some (.int .i64 vx) := by rw [← hY2]; exact (HFY2.out _ hk5).2.2.1
  have g3 : (x4.alloc (Obj.cells #[.int .i64 m1, .slice a2 J1.length c2] 24)).cell? ⟨w.heap.size + 1, 1, none⟩ = some (.int .i64 vy) := by rw [← hY2]; exact (HFY2.out _ hk5).2.2.2.1
  have g4 : (x4.alloc (Obj.cells #[.int .i64 m1, .slice a2 J1.length c2] 24)).cell? ⟨x2.heap.size, 0, none⟩ = some (.int .i64 m1) := by rw [← hY2]; exact (HFY2.out _ hk5).2.2.2.2.1
  have g5 : (x4.alloc (Obj.cells #[.int .i64 m1, .slice a2 J1.length c2] 24)).cell? ⟨x2.heap.size, 1, none⟩ = some (.slice a1 J1.length c1) := by rw [← hY2]; exact (HFY2.out _ hk5).2.2.2.2.2.1
  have g6 : (x4.alloc (Obj.cells #[.int .i64 m1, .slice a2 J1.length c2] 24)).cell? ⟨x4.heap.size, 0, none⟩ = some (.int .i64 m1) := by rw [← hY2]; exact (HFY2.out _ hk5).2.2.2.2.2.2.1
  have g7 : (x4.alloc (Obj.cells #[.int .i64 m1, .slice a2 J1.length c2] 24)).cell? ⟨x4.heap.size, 1, none⟩ = some (.slice a2 J1.length c2) := by rw [← hY2]; exact (HFY2.out _ hk5).2.2.2.2.2.2.2.1
  have HY2 := Lib.hid hY2
  clear hY2
  go_wp2_with fail
  rw [← HY2.out]
  refine (HC1.out _ (HFY2.out Y2 hk5).2.2.2.2.2.2.2.2.1).mono ?_
  rintro e x6 ⟨a3, c3, rfl, hM_6, hb6⟩
  have hk6 : Below Y2.heap.size Y2 x6 := hk5.trans (hb6.mono hk5.size)
  clear hb6 hk5 g0 g1 g2 g3 g4 g5 g6 g7
  obtain ⟨g0, g1, g2, g3, g4, g5, g6, g7, -⟩ := HFY2.out x6 hk6
  obtain ⟨Y3, hY3⟩ : ∃ Y, Y = x6.alloc (Obj.cells #[.int .i64 m2, .slice a3 J2.length c3] 24) := ⟨_, rfl⟩
  have hy : Below x6.heap.size x6 Y3 := by rw [hY3]; exact (Below.refl _ _).alloc (Nat.le_refl _) _
  have hz : Below Y2.heap.size Y2 Y3 := hk6.trans (hy.mono hk6.size)
  have hQ : Blk Y3 x6.heap.size 24 #[.int .i64 m2, .slice a3 J2.length c3] := by rw [hY3]; exact Blk.new _ _ _
  have HBY3 : Hid (Below w.heap.size w Y3) := Lib.hid (HBY2.out.trans (hz.mono HBY2.out.size))
  have HFY3 : Hid (∀ x, Below Y3.heap.size Y3 x → x.cell? ⟨w.heap.size, 0, none⟩ = some (.int .i64 n) ∧ x.cell? ⟨w.heap.size, 1, none⟩ = some (.slice a L.length cap) ∧ x.cell? ⟨w.heap.size + 1, 0, none⟩ = some (.int .i64 vx) ∧ x.cell? ⟨w.heap.size + 1, 1, none⟩ = some (.int .i64 vy) ∧ x.cell? ⟨x2.heap.size, 0, none⟩ = some (.int .i64 m1) ∧ x.cell? ⟨x2.heap.size, 1, none⟩ = some (.slice a1 J1.length c1) ∧ x.cell? ⟨x4.heap.size, 0, none⟩ = some (.int .i64 m1) ∧ x.cell? ⟨x4.heap.size, 1, none⟩ = some (.slice a2 J1.length c2) ∧ x.cell? ⟨x6.heap.size, 0, none⟩ = some (.int .i64 m2) ∧ x.cell? ⟨x6.heap.size, 1, none⟩ = some (.slice a3 J2.length c3) ∧ EsAt x a L ∧ EsAt x a1 J1 ∧ EsAt x a2 J1 ∧ EsAt x a3 J2) := Lib.hid fun x hx => ⟨(HFY2.out x (hz.trans (hx.mono hz.size))).1, (HFY2.out x (hz.trans (hx.mono hz.size))).2.1, (HFY2.out x (hz.trans (hx.mono hz.size))).2.2.1, (HFY2.out x (hz.trans (hx.mono hz.size))).2.2.2.1, (HFY2.out x (hz.trans (hx.mono hz.size))).2.2.2.2.1, (HFY2.out x (hz.trans (hx.mono hz.size))).2.2.2.2.2.1, (HFY2.out x (hz.trans (hx.mono hz.size))).2.2.2.2.2.2.1, (HFY2.out x (hz.trans (hx.mono hz.size))).2.2.2.2.2.2.2.1, (hQ.below hx hQ.lt).cell 0, (hQ.below hx hQ.lt).cell 1, (HFY2.out x (hz.trans (hx.mono hz.size))).2.2.2.2.2.2.2.2.1, (HFY2.out x (hz.trans (hx.mono hz.size))).2.2.2.2.2.2.2.2.2.1, (HFY2.out x (hz.trans (hx.mono hz.size))).2.2.2.2.2.2.2.2.2.2, (hM_6.keep hy).keep hx⟩
  clear g0 g1 g2 g3 g4 g5 g6 g7 hk6 hz hQ hy hM_6
  have hk7 : Below Y3.heap.size Y3 Y3 := Below.refl _ _
  have g0 : (x6.alloc (Obj.cells #[.int .i64 m2, .slice a3 J2.length c3] 24)).cell? ⟨w.heap.size, 0, none⟩ = some (.int .i64 n) := by rw [← hY3]; exact (HFY3.out _ hk7).1
  have g1 : (x6.alloc (Obj.cells #[.int .i64 m2, .slice a3 J2.length c3] 24)).cell? ⟨w.heap.size, 1, none⟩ = some (.slice a L.length cap) := by rw [← hY3]; exact (HFY3.out _ hk7).2.1
  have g2 : (x6.alloc (Obj.cells #[.int .i64 m2, .slice a3 J2.length c3] 24)).cell? ⟨w.heap.size + 1, 0, none⟩ = some (.int .i64 vx) := by rw [← hY3]; exact (HFY3.out _ hk7).2.2.1
  have g3 : (x6.alloc (Obj.cells #[.int .i64 m2, .slice a3 J2.length c3] 24)).cell? ⟨w.heap.size + 1, 1, none⟩ = some (.int .i64 vy) := by rw [← hY3]; exact (HFY3.out _ hk7).2.2.2.1
  have g4 : (x6.alloc (Obj.cells #[.int .i64 m2, .slice a3 J2.length c3] 24)).cell? ⟨x2.heap.size, 0, none⟩ = some (.int .i64 m1) := by rw [← hY3]; exact (HFY3.out _ hk7).2.2.2.2.1
  have g5 : (x6.alloc (Obj.cells #[.int .i64 m2, .slice a3 J2.length c3] 24)).cell? ⟨x2.heap.size, 1, none⟩ = some (.slice a1 J1.length c1) := by rw [← hY3]; exact (HFY3.out _ hk7).2.2.2.2.2.1
  have g6 : (x6.alloc (Obj.cells #[.int .i64 m2, .slice a3 J2.length c3] 24)).cell? ⟨x4.heap.size, 0, none⟩ = some (.int .i64 m1) := by rw [← hY3]; exact (HFY3.out _ hk7).2.2.2.2.2.2.1
  have g7 : (x6.alloc (Obj.cells #[.int .i64 m2, .slice a3 J2.length c3] 24)).cell? ⟨x4.heap.size, 1, none⟩ = some (.slice a2 J1.length c2) := by rw [← hY3]; exact (HFY3.out _ hk7).2.2.2.2.2.2.2.1
  have g8 : (x6.alloc (Obj.cells #[.int .i64 m2, .slice a3 J2.length c3] 24)).cell? ⟨x6.heap.size, 0, none⟩ = some (.int .i64 m2) := by rw [← hY3]; exact (HFY3.out _ hk7).2.2.2.2.2.2.2.2.1
  have g9 : (x6.alloc (Obj.cells #[.int .i64 m2, .slice a3 J2.length c3] 24)).cell? ⟨x6.heap.size, 1, none⟩ = some (.slice a3 J2.length c3) := by rw [← hY3]; exact (HFY3.out _ hk7).2.2.2.2.2.2.2.2.2.1
  have HY3 := Lib.hid hY3
  clear hY3
  go_wp2_with fail
  rw [← HY3.out]
  refine (HC2.out _ (HFY3.out Y3 hk7).2.2.2.2.2.2.2.2.2.2.1).mono ?_
  rintro e x8 ⟨a4, c4, rfl, hN_8, hb8⟩
  have hk8 : Below Y3.heap.size Y3 x8 := hk7.trans (hb8.mono hk7.size)
  clear hb8 hk7 g0 g1 g2 g3 g4 g5 g6 g7 g8 g9
  obtain ⟨g0, g1, g2, g3, g4, g5, g6, g7, g8, g9, -⟩ := HFY3.out x8 hk8
  obtain ⟨Y4, hY4⟩ : ∃ Y, Y = x8.alloc (Obj.cells #[.int .i64 m2, .slice a4 J2.length c4] 24) := ⟨_, rfl⟩
  have hy : Below x8.heap.size x8 Y4 := by rw [hY4]; exact (Below.refl _ _).alloc (Nat.le_refl _) _
  have hz : Below Y3.heap.size Y3 Y4 := hk8.trans (hy.mono hk8.size)
  have hQ : Blk Y4 x8.heap.size 24 #[.int .i64 m2, .slice a4 J2.length c4] := by rw [hY4]; exact Blk.new _ _ _
  have HBY4 : Hid (Below w.heap.size w Y4) := Lib.hid (HBY3.out.trans (hz.mono HBY3.out.size))
  have HFY4 : Hid (∀ x, Below Y4.heap.size Y4 x → x.cell? ⟨w.heap.size, 0, none⟩ = some (.int .i64 n) ∧ x.cell? ⟨w.heap.size, 1, none⟩ = some (.slice a L.length cap) ∧ x.cell? ⟨w.heap.size + 1, 0, none⟩ = some (.int .i64 vx) ∧ x.cell? ⟨w.heap.size + 1, 1, none⟩ = some (.int .i64 vy) ∧ x.cell? ⟨x2.heap.size, 0, none⟩ = some (.int .i64 m1) ∧ x.cell? ⟨x2.heap.size, 1, none⟩ = some (.slice a1 J1.length c1) ∧ x.cell? ⟨x4.heap.size, 0, none⟩ = some (.int .i64 m1) ∧ x.cell? ⟨x4.heap.size, 1, none⟩ = some (.slice a2 J1.length c2) ∧ x.cell? ⟨x6.heap.size, 0, none⟩ = some (.int .i64 m2) ∧ x.cell? ⟨x6.heap.size, 1, none⟩ = some (.slice a3 J2.length c3) ∧ x.cell? ⟨x8.heap.size, 0, none⟩ = some (.int .i64 m2) ∧ x.cell? ⟨x8.heap.size, 1, none⟩ = some (.slice a4 J2.length c4) ∧ EsAt x a L ∧ EsAt x a1 J1 ∧ EsAt x a2 J1 ∧ EsAt x a3 J2 ∧ EsAt x a4 J2) := Lib.hid fun x hx => ⟨(HFY3.out x (hz.trans (hx.mono hz.size))).1, (HFY3.out x (hz.trans (hx.mono hz.size))).2.1, (HFY3.out x (hz.trans (hx.mono hz.size))).2.2.1, (HFY3.out x (hz.trans (hx.mono hz.size))).2.2.2.1, (HFY3.out x (hz.trans (hx.mono hz.size))).2.2.2.2.1, (HFY3.out x (hz.trans (hx.mono hz.size))).2.2.2.2.2.1, (HFY3.out x (hz.trans (hx.mono hz.size))).2.2.2.2.2.2.1, (HFY3.out x (hz.trans (hx.mono hz.size))).2.2.2.2.2.2.2.1, (HFY3.out x (hz.trans (hx.mono hz.size))).2.2.2.2.2.2.2.2.1, (HFY3.out x (hz.trans (hx.mono hz.size))).2.2.2.2.2.2.2.2.2.1, (hQ.below hx hQ.lt).cell 0, (hQ.below hx hQ.lt).cell 1, (HFY3.out x (hz.trans (hx.mono hz.size))).2.2.2.2.2.2.2.2.2.2.1, (HFY3.out x (hz.trans (hx.mono hz.size))).2.2.2.2.2.2.2.2.2.2.2.1, (HFY3.out x (hz.trans (hx.mono hz.size))).2.2.2.2.2.2.2.2.2.2.2.2.1, (HFY3.out x (hz.trans (hx.mono hz.size))).2.2.2.2.2.2.2.2.2.2.2.2.2, (hN_8.keep hy).keep hx⟩
  clear g0 g1 g2 g3 g4 g5 g6 g7 g8 g9 hk8 hz hQ hy hN_8
  have hk9 : Below Y4.heap.size Y4 Y4 := Below.refl _ _
  have g0 : (x8.alloc (Obj.cells #[.int .i64 m2, .slice a4 J2.length c4] 24)).cell? ⟨w.heap.size, 0, none⟩ = some (.int .i64 n) := by rw [← hY4]; exact (HFY4.out _ hk9).1
  have g1 : (x8.alloc (Obj.cells #[.int .i64 m2, .slice a4 J2.length c4] 24)).cell? ⟨w.heap.size, 1, none⟩ = some (.slice a L.length cap) := by rw [← hY4]; exact (HFY4.out _ hk9).2.1
  have g2 : (x8.alloc (Obj.cells #[.int .i64 m2, .slice a4 J2.length c4] 24)).cell? ⟨w.heap.size + 1, 0, none⟩ = some (.int .i64 vx) := by rw [← hY4]; exact (HFY4.out _ hk9).2.2.1
  have g3 : (x8.alloc (Obj.cells #[.int .i64 m2, .slice a4 J2.length c4] 24)).cell? ⟨w.heap.size + 1, 1, none⟩ = some (.int .i64 vy) := by rw [← hY4]; exact (HFY4.out _ hk9).2.2.2.1
  have g4 : (x8.alloc (Obj.cells #[.int .i64 m2, .slice a4 J2.length c4] 24)).cell? ⟨x2.heap.size, 0, none⟩ = some (.int .i64 m1) := by rw [← hY4]; exact (HFY4.out _ hk9).2.2.2.2.1
  have g5 : (x8.alloc (Obj.cells #[.int .i64 m2, .slice a4 J2.length c4] 24)).cell? ⟨x2.heap.size, 1, none⟩ = some (.slice a1 J1.length c1) := by rw [← hY4]; exact (HFY4.out _ hk9).2.2.2.2.2.1
  have g6 : (x8.alloc (Obj.cells #[.int .i64 m2, .slice a4 J2.length c4] 24)).cell? ⟨x4.heap.size, 0, none⟩ = some (.int .i64 m1) := by rw [← hY4]; exact (HFY4.out _ hk9).2.2.2.2.2.2.1
  have g7 : (x8.alloc (Obj.cells #[.int .i64 m2, .slice a4 J2.length c4] 24)).cell? ⟨x4.heap.size, 1, none⟩ = some (.slice a2 J1.length c2) := by rw [← hY4]; exact (HFY4.out _ hk9).2.2.2.2.2.2.2.1
  have g8 : (x8.alloc (Obj.cells #[.int .i64 m2, .slice a4 J2.length c4] 24)).cell? ⟨x6.heap.size, 0, none⟩ = some (.int .i64 m2) := by rw [← hY4]; exact (HFY4.out _ hk9).2.2.2.2.2.2.2.2.1
  have g9 : (x8.alloc (Obj.cells #[.int .i64 m2, .slice a4 J2.length c4] 24)).cell? ⟨x6.heap.size, 1, none⟩ = some (.slice a3 J2.length c3) := by rw [← hY4]; exact (HFY4.out _ hk9).2.2.2.2.2.2.2.2.2.1
  have g10 : (x8.alloc (Obj.cells #[.int .i64 m2, .slice a4 J2.length c4] 24)).cell? ⟨x8.heap.size, 0, none⟩ = some (.int .i64 m2) := by rw [← hY4]; exact (HFY4.out _ hk9).2.2.2.2.2.2.2.2.2.2.1
  have g11 : (x8.alloc (Obj.cells #[.int .i64 m2, .slice a4 J2.length c4] 24)).cell? ⟨x8.heap.size, 1, none⟩ = some (.slice a4 J2.length c4) := by rw [← hY4]; exact (HFY4.out _ hk9).2.2.2.2.2.2.2.2.2.2.2.1
  have HY4 := Lib.hid hY4
  clear hY4
  go_wp2_with fail
  rw [← HY4.out]
  refine (HV1.out _ (HFY4.out Y4 hk9).2.2.2.2.2.2.2.2.2.2.2.2.1).mono ?_
  rintro e x10 ⟨b1, d1, rfl, hA_10, hb10⟩
  have hk10 : Below Y4.heap.size Y4 x10 := hk9.trans (hb10.mono hk9.size)
  clear hb10 hk9 g0 g1 g2 g3 g4 g5 g6 g7 g8 g9 g10 g11
  obtain ⟨g0, g1, g2, g3, g4, g5, g6, g7, g8, g9, g10, g11, -⟩ := HFY4.out x10 hk10
  go_wp2_with fail
  refine (HV2.out _ (HFY4.out x10 hk10).2.2.2.2.2.2.2.2.2.2.2.2.1).mono ?_
  rintro e x11 ⟨b3, d3, rfl, hC_11, hb11⟩
  have hk11 : Below Y4.heap.size Y4 x11 := hk10.trans (hb11.mono hk10.size)
  have hA_11 := hA_10.keep hb11
  clear hb11 hk10 g0 g1 g2 g3 g4 g5 g6 g7 g8 g9 g10 g11 hA_10
  obtain ⟨g0, g1, g2, g3, g4, g5, g6, g7, g8, g9, g10, g11, -⟩ := HFY4.out x11 hk11
  go_wp2_with fail
  refine (HM1.out _ (HFY4.out x11 hk11).2.2.2.2.2.2.2.2.2.2.2.2.1).mono ?_
  rintro e x12 ⟨a5, c5, rfl, hR_12, hb12⟩
  have hk12 : Below Y4.heap.size Y4 x12 := hk11.trans (hb12.mono hk11.size)
  have hA_12 := hA_11.keep hb12
  have hC_12 := hC_11.keep hb12
  clear hb12 hk11 g0 g1 g2 g3 g4 g5 g6 g7 g8 g9 g10 g11 hA_11 hC_11
  obtain ⟨g0, g1, g2, g3, g4, g5, g6, g7, g8, g9, g10, g11, -⟩ := HFY4.out x12 hk12
  obtain ⟨Y5, hY5⟩ : ∃ Y, Y = x12.alloc (Obj.cells #[.int .i64 m4, .slice a5 J4.length c5] 24) := ⟨_, rfl⟩
  have hy : Below x12.heap.size x12 Y5 := by rw [hY5]; exact (Below.refl _ _).alloc (Nat.le_refl _) _
  have hz : Below Y4.heap.size Y4 Y5 := hk12.trans (hy.mono hk12.size)
  have hQ : Blk Y5 x12.heap.size 24 #[.int .i64 m4, .slice a5 J4.length c5] := by rw [hY5]; exact Blk.new _ _ _
  have HBY5 : Hid (Below w.heap.size w Y5) := Lib.hid (HBY4.out.trans (hz.mono HBY4.out.size))
  have HFY5 : Hid (∀ x, Below Y5.heap.size Y5 x → x.cell? ⟨w.heap.size, 0, none⟩ = some (.int .i64 n) ∧ x.cell? ⟨w.heap.size, 1, none⟩ = some (.slice a L.length cap) ∧ x.cell? ⟨w.heap.size + 1, 0, none⟩ = some (.int .i64 vx) ∧ x.cell? ⟨w.heap.size + 1, 1, none⟩ = some (.int .i64 vy) ∧ x.cell? ⟨x2.heap.size, 0, none⟩ = some (.int .i64 m1) ∧ x.cell? ⟨x2.heap.size, 1, none⟩ = some (.slice a1 J1.length c1) ∧ x.cell? ⟨x4.heap.size, 0, none⟩ = some (.int .i64 m1) ∧ x.cell? ⟨x4.heap.size, 1, none⟩ = some (.slice a2 J1.length c2) ∧ x.cell? ⟨x6.heap.size, 0, none⟩ = some (.int .i64 m2) ∧ x.cell? ⟨x6.heap.size, 1, none⟩ = some (.slice a3 J2.length c3) ∧ x.cell? ⟨x8.heap.size, 0, none⟩ = some (.int .i64 m2) ∧ x.cell? ⟨x8.heap.size, 1, none⟩ = some (.slice a4 J2.length c4) ∧ x.cell? ⟨x12.heap.size, 0, none⟩ = some (.int .i64 m4) ∧ x.cell? ⟨x12.heap.size, 1, none⟩ = some (.slice a5 J4.length c5) ∧ EsAt x a L ∧ EsAt x a1 J1 ∧ EsAt x a2 J1 ∧ EsAt x a3 J2 ∧ EsAt x a4 J2 ∧ IsAt x b1 V ∧ IsAt x b3 V ∧ EsAt x a5 J4) := Lib.hid fun x hx => ⟨(HFY4.out x (hz.trans (hx.mono hz.size))).1, (HFY4.out x (hz.trans (hx.mono hz.size))).2.1, (HFY4.out x (hz.trans (hx.mono hz.size))).2.2.1, (HFY4.out x (hz.trans (hx.mono hz.size))).2.2.2.1, (HFY4.out x (hz.trans (hx.mono hz.size))).2.2.2.2.1, (HFY4.out x (hz.trans (hx.mono hz.size))).2.2.2.2.2.1, (HFY4.out x (hz.trans (hx.mono hz.size))).2.2.2.2.2.2.1, (HFY4.out x (hz.trans (hx.mono hz.size))).2.2.2.2.2.2.2.1, (HFY4.out x (hz.trans (hx.mono hz.size))).2.2.2.2.2.2.2.2.1, (HFY4.out x (hz.trans (hx.mono hz.size))).2.2.2.2.2.2.2.2.2.1, (HFY4.out x (hz.trans (hx.mono hz.size))).2.2.2.2.2.2.2.2.2.2.1, (HFY4.out x (hz.trans (hx.mono hz.size))).2.2.2.2.2.2.2.2.2.2.2.1, (hQ.below hx hQ.lt).cell 0, (hQ.below hx hQ.lt).cell 1, (HFY4.out x (hz.trans (hx.mono hz.size))).2.2.2.2.2.2.2.2.2.2.2.2.1, (HFY4.out x (hz.trans (hx.mono hz.size))).2.2.2.2.2.2.2.2.2.2.2.2.2.1, (HFY4.out x (hz.trans (hx.mono hz.size))).2.2.2.2.2.2.2.2.2.2.2.2.2.2.1, (HFY4.out x (hz.trans (hx.mono hz.size))).2.2.2.2.2.2.2.2.2.2.2.2.2.2.2.1, (HFY4.out x (hz.trans (hx.mono hz.size))).2.2.2.2.2.2.2.2.2.2.2.2.2.2.2.2, (hA_12.keep hy).keep hx, (hC_12.keep hy).keep hx, (hR_12.keep hy).keep hx⟩
  clear g0 g1 g2 g3 g4 g5 g6 g7 g8 g9 g10 g11 hk12 hz hQ hy hA_12 hC_12 hR_12
  have hk13 : Below Y5.heap.size Y5 Y5 := Below.refl _ _
  have g0 : (x12.alloc (Obj.cells #[.int .i64 m4, .slice a5 J4.length c5] 24)).cell? ⟨w.heap.size, 0, none⟩ = some (.int .i64 n) := by rw [← hY5]; exact (HFY5.out _ hk13).1
  have g1 : (x12.alloc (Obj.cells #[.int .i64 m4, .slice a5 J4.length c5] 24)).cell? ⟨w.heap.size, 1, none⟩ = some (.slice a L.length cap) := by rw [← hY5]; exact (HFY5.out _ hk13).2.1
  have g2 : (x12.alloc (Obj.cells #[.int .i64 m4, .slice a5 J4.length c5] 24)).cell? ⟨w.heap.size + 1, 0, none⟩ = some (.int .i64 vx) := by rw [← hY5]; exact (HFY5.out _ hk13).2.2.1
  have g3 : (x12.alloc (Obj.cells #[.int .i64 m4, .slice a5 J4.length c5] 24)).cell? ⟨w.heap.size + 1, 1, none⟩ = some (.int .i64 vy) := by rw [← hY5]; exact (HFY5.out _ hk13).2.2.2.1
  have g4 : (x12.alloc (Obj.cells #[.int .i64 m4, .slice a5 J4.length c5] 24)).cell? ⟨x2.heap.size, 0, none⟩ = some (.int .i64 m1) := by rw [← hY5]; exact (HFY5.out _ hk13).2.2.2.2.1
  have g5 : (x12.alloc (Obj.cells #[.int .i64 m4, .slice a5 J4.length c5] 24)).cell? ⟨x2.heap.size, 1, none⟩ = some (.slice a1 J1.length c1) := by rw [← hY5]; exact (HFY5.out _ hk13).2.2.2.2.2.1
  have g6 : (x12.alloc (Obj.cells #[.int .i64 m4, .slice a5 J4.length c5] 24)).cell? ⟨x4.heap.size, 0, none⟩ = some (.int .i64 m1) := by rw [← hY5]; exact (HFY5.out _ hk13).2.2.2.2.2.2.1
  have g7 : (x12.alloc (Obj.cells #[.int .i64 m4, .slice a5 J4.length c5] 24)).cell? ⟨x4.heap.size, 1, none⟩ = some (.slice a2 J1.length c2) := by rw [← hY5]; exact (HFY5.out _ hk13).2.2.2.2.2.2.2.1
  have g8 : (x12.alloc (Obj.cells #[.int .i64 m4, .slice a5 J4.length c5] 24)).cell? ⟨x6.heap.size, 0, none⟩ = some (.int .i64 m2) := by rw [← hY5]; exact (HFY5.out _ hk13).2.2.2.2.2.2.2.2.1
  have g9 : (x12.alloc (Obj.cells #[.int .i64 m4, .slice a5 J4.length c5] 24)).cell? ⟨x6.heap.size, 1, none⟩ = some (.slice a3 J2.length c3) := by rw [← hY5]; exact (HFY5.out _ hk13).2.2.2.2.2.2.2.2.2.1
  have g10 : (x12.alloc (Obj.cells #[.int .i64 m4, .slice a5 J4.length c5] 24)).cell? ⟨x8.heap.size, 0, none⟩ = some (.int .i64 m2) := by rw [← hY5]; exact (HFY5.out _ hk13).2.2.2.2.2.2.2.2.2.2.1
  have g11 : (x12.alloc (Obj.cells #[.int .i64 m4, .slice a5 J4.length c5] 24)).cell? ⟨x8.heap.size, 1, none⟩ = some (.slice a4 J2.length c4) := by rw [← hY5]; exact (HFY5.out _ hk13).2.2.2.2.2.2.2.2.2.2.2.1
  have g12 : (x12.alloc (Obj.cells #[.int .i64 m4, .slice a5 J4.length c5] 24)).cell? ⟨x12.heap.size, 0, none⟩ = some (.int .i64 m4) := by rw [← hY5]; exact (HFY5.out _ hk13).2.2.2.2.2.2.2.2.2.2.2.2.1
  have g13 : (x12.alloc (Obj.cells #[.int .i64 m4, .slice a5 J4.length c5] 24)).cell? ⟨x12.heap.size, 1, none⟩ = some (.slice a5 J4.length c5) := by rw [← hY5]; exact (HFY5.out _ hk13).2.2.2.2.2.2.2.2.2.2.2.2.2.1
  have HY5 := Lib.hid hY5
  clear hY5
  go_wp2_with fail
  rw [← HY5.out]
  refine (HM2.out _ (HFY5.out Y5 hk13).2.2.2.2.2.2.2.2.2.2.2.2.2.2.1).mono ?_
  rintro e x14 ⟨a6, c6, rfl, hS_14, hb14⟩
  have hk14 : Below Y5.heap.size Y5 x14 := hk13.trans (hb14.mono hk13.size)
  clear hb14 hk13 g0 g1 g2 g3 g4 g5 g6 g7 g8 g9 g10 g11 g12 g13
  obtain ⟨g0, g1, g2, g3, g4, g5, g6, g7, g8, g9, g10, g11, g12, g13, -⟩ := HFY5.out x14 hk14
  obtain ⟨Y6, hY6⟩ : ∃ Y, Y = x14.alloc (Obj.cells #[.int .i64 m4, .slice a6 J4.length c6] 24) := ⟨_, rfl⟩
  have hy : Below x14.heap.size x14 Y6 := by rw [hY6]; exact (Below.refl _ _).alloc (Nat.le_refl _) _
  have hz : Below Y5.heap.size Y5 Y6 := hk14.trans (hy.mono hk14.size)
  have hQ : Blk Y6 x14.heap.size 24 #[.int .i64 m4, .slice a6 J4.length c6] := by rw [hY6]; exact Blk.new _ _ _
  have HBY6 : Hid (Below w.heap.size w Y6) := Lib.hid (HBY5.out.trans (hz.mono HBY5.out.size))
  have HFY6 : Hid (∀ x, Below Y6.heap.size Y6 x → x.cell? ⟨w.heap.size, 0, none⟩ = some (.int .i64 n) ∧ x.cell? ⟨w.heap.size, 1, none⟩ = some (.slice a L.length cap) ∧ x.cell? ⟨w.heap.size + 1, 0, none⟩ = some (.int .i64 vx) ∧ x.cell? ⟨w.heap.size + 1, 1, none⟩ = some (.int .i64 vy) ∧ x.cell? ⟨x2.heap.size, 0, none⟩ = some (.int .i64 m1) ∧ x.cell? ⟨x2.heap.size, 1, none⟩ = some (.slice a1 J1.length c1) ∧ x.cell? ⟨x4.heap.size, 0, none⟩ = some (.int .i64 m1) ∧ x.cell? ⟨x4.heap.size, 1, none⟩ = some (.slice a2 J1.length c2) ∧ x.cell? ⟨x6.heap.size, 0, none⟩ = some (.int .i64 m2) ∧ x.cell? ⟨x6.heap.size, 1, none⟩ = some (.slice a3 J2.length c3) ∧ x.cell? ⟨x8.heap.size, 0, none⟩ = some (.int .i64 m2) ∧ x.cell? ⟨x8.heap.size, 1, none⟩ = some (.slice a4 J2.length c4) ∧ x.cell? ⟨x12.heap.size, 0, none⟩ = some (.int .i64 m4) ∧ x.cell? ⟨x12.heap.size, 1, none⟩ = some (.slice a5 J4.length c5) ∧ x.cell? ⟨x14.heap.size, 0, none⟩ = some (.int .i64 m4) ∧ x.cell? ⟨x14.heap.size, 1, none⟩ = some (.slice a6 J4.length c6) ∧ EsAt x a L ∧ EsAt x a1 J1 ∧ EsAt x a2 J1 ∧ EsAt x a3 J2 ∧ EsAt x a4 J2 ∧ IsAt x b1 V ∧ IsAt x b3 V ∧ EsAt x a5 J4 ∧ EsAt x a6 J4) := Lib.hid fun x hx => ⟨(HFY5.out x (hz.trans (hx.mono hz.size))).1, (HFY5.out x (hz.trans (hx.mono hz.size))).2.1, (HFY5.out x (hz.trans (hx.mono hz.size))).2.2.1, (HFY5.out x (hz.trans (hx.mono hz.size))).2.2.2.1, (HFY5.out x (hz.trans (hx.mono hz.size))).2.2.2.2.1, (HFY5.out x (hz.trans (hx.mono hz.size))).2.2.2.2.2.1, (HFY5.out x (hz.trans (hx.mono hz.size))).2.2.2.2.2.2.1, (HFY5.out x (hz.trans (hx.mono hz.size))).2.2.2.2.2.2.2.1, (HFY5.out x (hz.trans (hx.mono hz.size))).2.2.2.2.2.2.2.2.1, (HFY5.out x (hz.trans (hx.mono hz.size))).2.2.2.2.2.2.2.2.2.1, (HFY5.out x (hz.trans (hx.mono hz.size))).2.2.2.2.2.2.2.2.2.2.1, (HFY5.out x (hz.trans (hx.mono hz.size))).2.2.2.2.2.2.2.2.2.2.2.1, (HFY5.out x (hz.trans (hx.mono hz.size))).2.2.2.2.2.2.2.2.2.2.2.2.1, (HFY5.out x (hz.trans (hx.mono hz.size))).2.2.2.2.2.2.2.2.2.2.2.2.2.1, (hQ.below hx hQ.lt).cell 0, (hQ.below hx hQ.lt).cell 1, (HFY5.out x (hz.trans (hx.mono hz.size))).2.2.2.2.2.2.2.2.2.2.2.2.2.2.1, (HFY5.out x (hz.trans (hx.mono hz.size))).2.2.2.2.2.2.2.2.2.2.2.2.2.2.2.1, (HFY5.out x (hz.trans (hx.mono hz.size))).2.2.2.2.2.2.2.2.2.2.2.2.2.2.2.2.1, (HFY5.out x (hz.trans (hx.mono hz.size))).2.2.2.2.2.2.2.2.2.2.2.2.2.2.2.2.2.1, (HFY5.out x (hz.trans (hx.mono hz.size))).2.2.2.2.2.2.2.2.2.2.2.2.2.2.2.2.2.2.1, (HFY5.out x (hz.trans (hx.mono hz.size))).2.2.2.2.2.2.2.2.2.2.2.2.2.2.2.2.2.2.2.1, (HFY5.out x (hz.trans (hx.mono hz.size))).2.2.2.2.2.2.2.2.2.2.2.2.2.2.2.2.2.2.2.2.1, (HFY5.out x (hz.trans (hx.mono hz.size))).2.2.2.2.2.2.2.2.2.2.2.2.2.2.2.2.2.2.2.2.2, (hS_14.keep hy).keep hx⟩
  clear g0 g1 g2 g3 g4 g5 g6 g7 g8 g9 g10 g11 g12 g13 hk14 hz hQ hy hS_14
  have hk15 : Below Y6.heap.size Y6 Y6 := Below.refl _ _
  have g0 : (x14.alloc (Obj.cells #[.int .i64 m4, .slice a6 J4.length c6] 24)).cell? ⟨w.heap.size, 0, none⟩ = some (.int .i64 n) := by rw [← hY6]; exact (HFY6.out _ hk15).1
  have g1 : (x14.alloc (Obj.cells #[.int .i64 m4, .slice a6 J4.length c6] 24)).cell? ⟨w.heap.size, 1, none⟩ = some (.slice a L.length cap) := by rw [← hY6]; exact (HFY6.out _ hk15).2.1
  have g2 : (x14.alloc (Obj.cells #[.int .i64 m4, .slice a6 J4.length c6] 24)).cell? ⟨w.heap.size + 1, 0, none⟩ = some (.int .i64 vx) := by rw [← hY6]; exact (HFY6.out _ hk15).2.2.1
  have g3 : (x14.alloc (Obj.cells #[.int .i64 m4, .slice a6 J4.length c6] 24)).cell? ⟨w.heap.size + 1, 1, none⟩ = some (.int .i64 vy) := by rw [← hY6]; exact (HFY6.out _ hk15).2.2.2.1
  have g4 : (x14.alloc (Obj.cells #[.int .i64 m4, .slice a6 J4.length c6] 24)).cell? ⟨x2.heap.size, 0, none⟩ = some (.int .i64 m1) := by rw [← hY6]; exact (HFY6.out _ hk15).2.2.2.2.1
  have g5 : (x14.alloc (Obj.cells #[.int .i64 m4, .slice a6 J4.length c6] 24)).cell? ⟨x2.heap.size, 1, none⟩ = some (.slice a1 J1.length c1) := by rw [← hY6]; exact (HFY6.out _ hk15).2.2.2.2.2.1
  have g6 : (x14.alloc (Obj.cells #[.int .i64 m4, .slice a6 J4.length c6] 24)).cell? ⟨x4.heap.size, 0, none⟩ = some (.int .i64 m1) := by rw [← hY6]; exact (HFY6.out _ hk15).2.2.2.2.2.2.1
  have g7 : (x14.alloc (Obj.cells #[.int .i64 m4, .slice a6 J4.length c6] 24)).cell? ⟨x4.heap.size, 1, none⟩ = some (.slice a2 J1.length c2) := by rw [← hY6]; exact (HFY6.out _ hk15).2.2.2.2.2.2.2.1
  have g8 : (x14.alloc (Obj.cells #[.int .i64 m4, .slice a6 J4.length c6] 24)).cell? ⟨x6.heap.size, 0, none⟩ = some (.int .i64 m2) := by rw [← hY6]; exact (HFY6.out _ hk15).2.2.2.2.2.2.2.2.1
  have g9 : (x14.alloc (Obj.cells #[.int .i64 m4, .slice a6 J4.length c6] 24)).cell? ⟨x6.heap.size, 1, none⟩ = some (.slice a3 J2.length c3) := by rw [← hY6]; exact (HFY6.out _ hk15).2.2.2.2.2.2.2.2.2.1
  have g10 : (x14.alloc (Obj.cells #[.int .i64 m4, .slice a6 J4.length c6] 24)).cell? ⟨x8.heap.size, 0, none⟩ = some (.int .i64 m2) := by rw [← hY6]; exact (HFY6.out _ hk15).2.2.2.2.2.2.2.2.2.2.1
  have g11 : (x14.alloc (Obj.cells #[.int .i64 m4, .slice a6 J4.length c6] 24)).cell? ⟨x8.heap.size, 1, none⟩ = some (.slice a4 J2.length c4) := by rw [← hY6]; exact (HFY6.out _ hk15).2.2.2.2.2.2.2.2.2.2.2.1
  have g12 : (x14.alloc (Obj.cells #[.int .i64 m4, .slice a6 J4.length c6] 24)).cell? ⟨x12.heap.size, 0, none⟩ = some (.int .i64 m4) := by rw [← hY6]; exact (HFY6.out _ hk15).2.2.2.2.2.2.2.2.2.2.2.2.1
  have g13 : (x14.alloc (Obj.cells #[.int .i64 m4, .slice a6 J4.length c6] 24)).cell? ⟨x12.heap.size, 1, none⟩ = some (.slice a5 J4.length c5) := by rw [← hY6]; exact (HFY6.out _ hk15).2.2.2.2.2.2.2.2.2.2.2.2.2.1
  have g14 : (x14.alloc (Obj.cells #[.int .i64 m4, .slice a6 J4.length c6] 24)).cell? ⟨x14.heap.size, 0, none⟩ = some (.int .i64 m4) := by rw [← hY6]; exact (HFY6.out _ hk15).2.2.2.2.2.2.2.2.2.2.2.2.2.2.1
  have g15 : (x14.alloc (Obj.cells #[.int .i64 m4, .slice a6 J4.length c6] 24)).cell? ⟨x14.heap.size, 1, none⟩ = some (.slice a6 J4.length c6) := by rw [← hY6]; exact (HFY6.out _ hk15).2.2.2.2.2.2.2.2.2.2.2.2.2.2.2.1
  have HY6 := Lib.hid hY6
  clear hY6
  go_wp2_with fail
  rw [← HY6.out]
  refine (HA _).mono ?_
  rintro e x16 ⟨rfl, hb16⟩
  have hk16 : Below Y6.heap.size Y6 x16 := hk15.trans (hb16.mono hk15.size)
  clear hb16 hk15 g0 g1 g2 g3 g4 g5 g6 g7 g8 g9 g10 g11 g12 g13 g14 g15
  obtain ⟨g0, g1, g2, g3, g4, g5, g6, g7, g8, g9, g10, g11, g12, g13, g14, g15, -⟩ := HFY6.out x16 hk16
  go_wp2_with fail
  refine (same_any m1 a1 a2 c1 c2 J1 _ h1 (HFY6.out x16 hk16).2.2.2.2.2.2.2.2.2.2.2.2.2.2.2.2.2.1 (HFY6.out x16 hk16).2.2.2.2.2.2.2.2.2.2.2.2.2.2.2.2.2.2.1).mono ?_
  rintro e x17 ⟨rfl, hb17⟩
  have hk17 : Below Y6.heap.size Y6 x17 := hk16.trans (hb17.mono hk16.size)
  clear hb17 hk16 g0 g1 g2 g3 g4 g5 g6 g7 g8 g9 g10 g11 g12 g13 g14 g15
  obtain ⟨g0, g1, g2, g3, g4, g5, g6, g7, g8, g9, g10, g11, g12, g13, g14, g15, -⟩ := HFY6.out x17 hk17
  go_wp2_with fail
  refine (same_any m2 a3 a4 c3 c4 J2 _ h2 (HFY6.out x17 hk17).2.2.2.2.2.2.2.2.2.2.2.2.2.2.2.2.2.2.2.1 (HFY6.out x17 hk17).2.2.2.2.2.2.2.2.2.2.2.2.2.2.2.2.2.2.2.2.1).mono ?_
  rintro e x18 ⟨rfl, hb18⟩
  have hk18 : Below Y6.heap.size Y6 x18 := hk17.trans (hb18.mono hk17.size)
  clear hb18 hk17 g0 g1 g2 g3 g4 g5 g6 g7 g8 g9 g10 g11 g12 g13 g14 g15
  obtain ⟨g0, g1, g2, g3, g4, g5, g6, g7, g8, g9, g10, g11, g12, g13, g14, g15, -⟩ := HFY6.out x18 hk18
  go_wp2_with fail
  refine (rsameI_true b1 b3 d1 d3 V hVl _ (HFY6.out x18 hk18).2.2.2.2.2.2.2.2.2.2.2.2.2.2.2.2.2.2.2.2.2.1 (HFY6.out x18 hk18).2.2.2.2.2.2.2.2.2.2.2.2.2.2.2.2.2.2.2.2.2.2.1).mono ?_
  rintro e x19 ⟨rfl, hb19⟩
  have hk19 : Below Y6.heap.size Y6 x19 := hk18.trans (hb19.mono hk18.size)
  clear hb19 hk18 g0 g1 g2 g3 g4 g5 g6 g7 g8 g9 g10 g11 g12 g13 g14 g15
  obtain ⟨g0, g1, g2, g3, g4, g5, g6, g7, g8, g9, g10, g11, g12, g13, g14, g15, -⟩ := HFY6.out x19 hk19
  go_wp2_with fail
  refine (same_any m4 a5 a6 c5 c6 J4 _ h4 (HFY6.out x19 hk19).2.2.2.2.2.2.2.2.2.2.2.2.2.2.2.2.2.2.2.2.2.2.2.1 (HFY6.out x19 hk19).2.2.2.2.2.2.2.2.2.2.2.2.2.2.2.2.2.2.2.2.2.2.2.2).mono ?_
  rintro e x20 ⟨rfl, hb20⟩
  have hk20 : Below Y6.heap.size Y6 x20 := hk19.trans (hb20.mono hk19.size)
  clear hb20 hk19 g0 g1 g2 g3 g4 g5 g6 g7 g8 g9 g10 g11 g12 g13 g14 g15
  obtain ⟨g0, g1, g2, g3, g4, g5, g6, g7, g8, g9, g10, g11, g12, g13, g14, g15, -⟩ := HFY6.out x20 hk20
  have HEND := Lib.hid (HBY6.out.trans (hk20.mono HBY6.out.size))
  clear hk20 g0 g1 g2 g3 g4 g5 g6 g7 g8 g9 g10 g11 g12 g13 g14 g15
  go_wp2
  go_ret
  exact ⟨rfl, HEND.out⟩
set_option maxHeartbeats 12800000 in
set_option maxRecDepth 100000 in
theorem changes_short (n : Int) (a : Option Addr) (cap : Nat) (L : List E) (e vx vy : Int) (hl : L.length ≤ 3) (m1 m2 m4 : Int) (J1 J2 J4 : List E) (h1 : J1.length ≤ 100000) (h2 : J2.length ≤ 100000) (h4 : J4.length ≤ 100000) (V : List Int) (hVl : V.length ≤ 100000) (k1 k2 k3 k4 : Nat) (HFW : Hid (∀ w, EsAt w a L → Calls Try.prog 11 #[.agg #[.int .i64 n, .slice a L.length cap]] w (fun e w' => e = .returned (.bool false) ∧ Below w.heap.size w w'))) (HA : AwakeC) (HD1 : Hid (∀ w, EsAt w a L → Calls Try.prog 13 #[.agg #[.int .i64 n, .slice a L.length cap], .int .i64 e] w (fun e w' => ∃ a1 c1, e = .returned (.tuple #[.agg #[.int .i64 m1, .slice a1 J1.length c1], .int .i64 ((k1 : Nat) : Int)]) ∧ EsAt w' a1 J1 ∧ Below w.heap.size w w'))) (HD2 : Hid (∀ w, EsAt w a L → Calls Try.prog 14 #[.agg #[.int .i64 n, .slice a L.length cap], .int .i64 e] w (fun e w' => ∃ a1 c1, e = .returned (.tuple #[.agg #[.int .i64 m1, .slice a1 J1.length c1], .int .i64 ((k1 : Nat) : Int)]) ∧ EsAt w' a1 J1 ∧ Below w.heap.size w w'))) (HC1 : Hid (∀ w, EsAt w a L → Calls Try.prog 15 #[.agg #[.int .i64 n, .slice a L.length cap], .int .i64 e] w (fun e w' => ∃ a1 c1, e = .returned (.tuple #[.agg #[.int .i64 m2, .slice a1 J2.length c1], .int .i64 ((k2 : Nat) : Int)]) ∧ EsAt w' a1 J2 ∧ Below w.heap.size w w'))) (HC2 : Hid (∀ w, EsAt w a L → Calls Try.prog 16 #[.agg #[.int .i64 n, .slice a L.length cap], .int .i64 e] w (fun e w' => ∃ a1 c1, e = .returned (.tuple #[.agg #[.int .i64 m2, .slice a1 J2.length c1], .int .i64 ((k2 : Nat) : Int)]) ∧ EsAt w' a1 J2 ∧ Below w.heap.size w w'))) (HV1 : Hid (∀ w, EsAt w a L → Calls Try.prog 17 #[.agg #[.int .i64 n, .slice a L.length cap], .int .i64 e] w (fun e w' => ∃ b1 d1, e = .returned (.tuple #[.slice b1 V.length d1, .int .i64 ((k3 : Nat) : Int)]) ∧ IsAt w' b1 V ∧ Below w.heap.size w w'))) (HV2 : Hid (∀ w, EsAt w a L → Calls Try.prog 18 #[.agg #[.int .i64 n, .slice a L.length cap], .int .i64 e] w (fun e w' => ∃ b1 d1, e = .returned (.tuple #[.slice b1 V.length d1, .int .i64 ((k3 : Nat) : Int)]) ∧ IsAt w' b1 V ∧ Below w.heap.size w w'))) (HM1 : Hid (∀ w, EsAt w a L → Calls Try.prog 19 #[.agg #[.int .i64 n, .slice a L.length cap], .int .i64 vx, .int .i64 vy] w (fun e w' => ∃ a1 c1, e = .returned (.tuple #[.agg #[.int .i64 m4, .slice a1 J4.length c1], .int .i64 ((k4 : Nat) : Int)]) ∧ EsAt w' a1 J4 ∧ Below w.heap.size w w'))) (HM2 : Hid (∀ w, EsAt w a L → Calls Try.prog 20 #[.agg #[.int .i64 n, .slice a L.length cap], .int .i64 vx, .int .i64 vy] w (fun e w' => ∃ a1 c1, e = .returned (.tuple #[.agg #[.int .i64 m4, .slice a1 J4.length c1], .int .i64 ((k4 : Nat) : Int)]) ∧ EsAt w' a1 J4 ∧ Below w.heap.size w w'))) (w : World) (h : EsAt w a L) :
    Calls Try.prog 3 #[gv n a L.length cap, .int .i64 e, .agg #[.int .i64 vx, .int .i64 vy]] w (GivesB w true) := by
  unfold GivesB gv
  obtain ⟨W, hW⟩ : ∃ W, W = (w.alloc (Obj.cells #[.int .i64 n, .slice a L.length cap] 24)).alloc (Obj.cells #[.int .i64 vx, .int .i64 vy] 25) := ⟨_, rfl⟩
  have hB0 : Below w.heap.size w W := by rw [hW]; exact ((Below.refl _ w).alloc (Nat.le_refl _) _).alloc (by simp) _
  have hG : Blk W w.heap.size 24 #[.int .i64 n, .slice a L.length cap] := by rw [hW]; exact (Blk.new _ _ _).alloc _
  have hP : Blk W (w.heap.size + 1) 25 #[.int .i64 vx, .int .i64 vy] := by
    rw [hW]
    have := Blk.new (w.alloc (Obj.cells #[.int .i64 n, .slice a L.length cap] 24)) 25 #[.int .i64 vx, .int .i64 vy]
    rwa [World.size_alloc] at this
  have HW := Lib.hid hW
  have HB0 := Lib.hid hB0
  have hEz : EsAt W a L := h.keep hB0
  have HF : Hid (∀ x', Below W.heap.size W x' → x'.cell? ⟨w.heap.size, 0, none⟩ = some (.int .i64 n) ∧ x'.cell? ⟨w.heap.size, 1, none⟩ = some (.slice a L.length cap) ∧ x'.cell? ⟨w.heap.size + 1, 0, none⟩ = some (.int .i64 vx) ∧ x'.cell? ⟨w.heap.size + 1, 1, none⟩ = some (.int .i64 vy) ∧ EsAt x' a L) := Lib.hid fun x' hx => ⟨(hG.below hx hG.lt).cell 0, (hG.below hx hG.lt).cell 1, (hP.below hx hP.lt).cell 0, (hP.below hx hP.lt).cell 1, hEz.keep hx⟩
  have hk0 : Below W.heap.size W W := Below.refl _ _
  obtain ⟨g0, g1, g2, g3, -⟩ := HF.out W hk0
  clear hB0 hG hW hP hEz h
  have l1 : ¬ (3 : Int) < (L.length : Int) := by omega
  have q1 : (((k1 : Nat) : Int) == ((k1 : Nat) : Int)) = true := by simp
  have q2 : (((k2 : Nat) : Int) == ((k2 : Nat) : Int)) = true := by simp
  have q3 : (((k3 : Nat) : Int) == ((k3 : Nat) : Int)) = true := by simp
  have q4 : (((k4 : Nat) : Int) == ((k4 : Nat) : Int)) = true := by simp
  go_enter Try.func3, Try.ntmps3
  go_wp2_with fail
  rw [← HW.out]
  refine (HFW.out _ (HF.out W hk0).2.2.2.2).mono ?_
  rintro e x1 ⟨rfl, hb1⟩
  have hk1 : Below W.heap.size W x1 := hk0.trans (hb1.mono hk0.size)
  clear hb1 hk0 g0 g1 g2 g3
  obtain ⟨g0, g1, g2, g3, -⟩ := HF.out x1 hk1
  go_wp2_with fail
  refine (HD1.out _ (HF.out x1 hk1).2.2.2.2).mono ?_
  rintro e x2 ⟨a1, c1, rfl, hJ_2, hb2⟩
  have hk2 : Below W.heap.size W x2 := hk1.trans (hb2.mono hk1.size)
  clear hb2 hk1 g0 g1 g2 g3
  obtain ⟨g0, g1, g2, g3, -⟩ := HF.out x2 hk2
  obtain ⟨Y1, hY1⟩ : ∃ Y, Y = x2.alloc (Obj.cells #[.int .i64 m1, .slice a1 J1.length c1] 24) := ⟨_, rfl⟩
  have hy : Below x2.heap.size x2 Y1 := by rw [hY1]; exact (Below.refl _ _).alloc (Nat.le_refl _) _
  have hz : Below W.heap.size W Y1 := hk2.trans (hy.mono hk2.size)
  have hQ : Blk Y1 x2.heap.size 24 #[.int .i64 m1, .slice a1 J1.length c1] := by rw [hY1]; exact Blk.new _ _ _
  have HBY1 : Hid (Below w.heap.size w Y1) := Lib.hid (HB0.out.trans (hz.mono HB0.out.size))
  have HFY1 : Hid (∀ x, Below Y1.heap.size Y1 x → x.cell? ⟨w.heap.size, 0, none⟩ = some (.int .i64 n) ∧ x.cell? ⟨w.heap.size, 1, none⟩ = some (.slice a L.length cap) ∧ x.cell? ⟨w.heap.size + 1, 0, none⟩ = some (.int .i64 vx) ∧ x.cell? ⟨w.heap.size + 1, 1, none⟩ = some (.int .i64 vy) ∧ x.cell? ⟨x2.heap.size, 0, none⟩ = some (.int .i64 m1) ∧ x.cell? ⟨x2.heap.size, 1, none⟩ = some (.slice a1 J1.length c1) ∧ EsAt x a L ∧ EsAt x a1 J1) := Lib.hid fun x hx => ⟨(HF.out x (hz.trans (hx.mono hz.size))).1, (HF.out x (hz.trans (hx.mono hz.size))).2.1, (HF.out x (hz.trans (hx.mono hz.size))).2.2.1, (HF.out x (hz.trans (hx.mono hz.size))).2.2.2.1, (hQ.below hx hQ.lt).cell 0, (hQ.below hx hQ.lt).cell 1, (HF.out x (hz.trans (hx.mono hz.size))).2.2.2.2, (hJ_2.keep hy).keep hx⟩
  clear g0 g1 g2 g3 hk2 hz hQ hy hJ_2
  have hk3 : Below Y1.heap.size Y1 Y1 := Below.refl _ _
  have g0 : (x2.alloc (Obj.cells #[.int .i64 m1, .slice a1 J1.length c1] 24)).cell? ⟨w.heap.size, 0, none⟩ = some (.int .i64 n) := by rw [← hY1]; exact (HFY1.out _ hk3).1
  have g1 : (x2.alloc (Obj.cells #[.int .i64 m1, .slice a1 J1.length c1] 24)).cell? ⟨w.heap.size, 1, none⟩ = some (.slice a L.length cap) := by rw [← hY1]; exact (HFY1.out _ hk3).2.1
  have g2 : (x2.alloc (Obj.cells #[.int .i64 m1, .slice a1 J1.length c1] 24)).cell? ⟨w.heap.size + 1, 0, none⟩ = some (.int .i64 vx) := by rw [← hY1]; exact (HFY1.out _ hk3).2.2.1
  have g3 : (x2.alloc (Obj.cells #[.int .i64 m1, .slice a1 J1.length c1] 24)).cell? ⟨w.heap.size + 1, 1, none⟩ = some (.int .i64 vy) := by rw [← hY1]; exact (HFY1.out _ hk3).2.2.2.1
  have g4 : (x2.alloc (Obj.cells #[.int .i64 m1, .slice a1 J1.length c1] 24)).cell? ⟨x2.heap.size, 0, none⟩ = some (.int .i64 m1) := by rw [← hY1]; exact (HFY1.out _ hk3).2.2.2.2.1
  have g5 : (x2.alloc (Obj.cells #[.int .i64 m1, .slice a1 J1.length c1] 24)).cell? ⟨x2.heap.size, 1, none⟩ = some (.slice a1 J1.length c1) := by rw [← hY1]; exact (HFY1.out _ hk3).2.2.2.2.2.1
  have HY1 := Lib.hid hY1
  clear hY1
  go_wp2_with fail
  rw [← HY1.out]
  refine (HD2.out _ (HFY1.out Y1 hk3).2.2.2.2.2.2.1).mono ?_
  rintro e x4 ⟨a2, c2, rfl, hK_4, hb4⟩
  have hk4 : Below Y1.heap.size Y1 x4 := hk3.trans (hb4.mono hk3.size)
  clear hb4 hk3 g0 g1 g2 g3 g4 g5
  obtain ⟨g0, g1, g2, g3, g4, g5, -⟩ := HFY1.out x4 hk4
  obtain ⟨Y2, hY2⟩ : ∃ Y, Y = x4.alloc (Obj.cells #[.int .i64 m1, .slice a2 J1.length c2] 24) := ⟨_, rfl⟩
  have hy : Below x4.heap.size x4 Y2 := by rw [hY2]; exact (Below.refl _ _).alloc (Nat.le_refl _) _
  have hz : Below Y1.heap.size Y1 Y2 := hk4.trans (hy.mono hk4.size)
  have hQ : Blk Y2 x4.heap.size 24 #[.int .i64 m1, .slice a2 J1.length c2] := by rw [hY2]; exact Blk.new _ _ _
  have HBY2 : Hid (Below w.heap.size w Y2) := Lib.hid (HBY1.out.trans (hz.mono HBY1.out.size))
  have HFY2 : Hid (∀ x, Below Y2.heap.size Y2 x → x.cell? ⟨w.heap.size, 0, none⟩ = some (.int .i64 n) ∧ x.cell? ⟨w.heap.size, 1, none⟩ = some (.slice a L.length cap) ∧ x.cell? ⟨w.heap.size + 1, 0, none⟩ = some (.int .i64 vx) ∧ x.cell? ⟨w.heap.size + 1, 1, none⟩ = some (.int .i64 vy) ∧ x.cell? ⟨x2.heap.size, 0, none⟩ = some (.int .i64 m1) ∧ x.cell? ⟨x2.heap.size, 1, none⟩ = some (.slice a1 J1.length c1) ∧ x.cell? ⟨x4.heap.size, 0, none⟩ = some (.int .i64 m1) ∧ x.cell? ⟨x4.heap.size, 1, none⟩ = some (.slice a2 J1.length c2) ∧ EsAt x a L ∧ EsAt x a1 J1 ∧ EsAt x a2 J1) := Lib.hid fun x hx => ⟨(HFY1.out x (hz.trans (hx.mono hz.size))).1, (HFY1.out x (hz.trans (hx.mono hz.size))).2.1, (HFY1.out x (hz.trans (hx.mono hz.size))).2.2.1, (HFY1.out x (hz.trans (hx.mono hz.size))).2.2.2.1, (HFY1.out x (hz.trans (hx.mono hz.size))).2.2.2.2.1, (HFY1.out x (hz.trans (hx.mono hz.size))).2.2.2.2.2.1, (hQ.below hx hQ.lt).cell 0, (hQ.below hx hQ.lt).cell 1, (HFY1.out x (hz.trans (hx.mono hz.size))).2.2.2.2.2.2.1, (HFY1.out x (hz.trans (hx.mono hz.size))).2.2.2.2.2.2.2, (hK_4.keep hy).keep hx⟩
  clear g0 g1 g2 g3 g4 g5 hk4 hz hQ hy hK_4
  have hk5 : Below Y2.heap.size Y2 Y2 := Below.refl _ _
  have g0 : (x4.alloc (Obj.cells #[.int .i64 m1, .slice a2 J1.length c2] 24)).cell? ⟨w.heap.size, 0, none⟩ = some (.int .i64 n) := by rw [← hY2]; exact (HFY2.out _ hk5).1
  have g1 : (x4.alloc (Obj.cells #[.int .i64 m1, .slice a2 J1.length c2] 24)).cell? ⟨w.heap.size, 1, none⟩ = some (.slice a L.length cap) := by rw [← hY2]; exact (HFY2.out _ hk5).2.1
  have g2 : (x4.alloc (Obj.cells #[.int .i64 m1, .slice a2 J1.length c2] 24)).cell? ⟨w.heap.size + 1, 0, none⟩ = some (.int .i64 vx) := by rw [← hY2]; exact (HFY2.out _ hk5).2.2.1
  have g3 : (x4.alloc (Obj.cells #[.int .i64 m1, .slice a2 J1.length c2] 24)).cell? ⟨w.heap.size + 1, 1, none⟩ = some (.int .i64 vy) := by rw [← hY2]; exact (HFY2.out _ hk5).2.2.2.1
  have g4 : (x4.alloc (Obj.cells #[.int .i64 m1, .slice a2 J1.length c2] 24)).cell? ⟨x2.heap.size, 0, none⟩ = some (.int .i64 m1) := by rw [← hY2]; exact (HFY2.out _ hk5).2.2.2.2.1
  have g5 : (x4.alloc (Obj.cells #[.int .i64 m1, .slice a2 J1.length c2] 24)).cell? ⟨x2.heap.size, 1, none⟩ = some (.slice a1 J1.length c1) := by rw [← hY2]; exact (HFY2.out _ hk5).2.2.2.2.2.1
  have g6 : (x4.alloc (Obj.cells #[.int .i64 m1, .slice a2 J1.length c2] 24)).cell? ⟨x4.heap.size, 0, none⟩ = some (.int .i64 m1) := by rw [← hY2]; exact (HFY2.out _ hk5).2.2.2.2.2.2.1
  have g7 : (x4.alloc (Obj.cells #[.int .i64 m1, .slice a2 J1.length c2] 24)).cell? ⟨x4.heap.size, 1, none⟩ = some (.slice a2 J1.length c2) := by rw [← hY2]; exact (HFY2.out _ hk5).2.2.2.2.2.2.2.1
  have HY2 := Lib.hid hY2
  clear hY2
  go_wp2_with fail
  rw [← HY2.out]
  refine (HC1.out _ (HFY2.out Y2 hk5).2.2.2.2.2.2.2.2.1).mono ?_
  rintro e x6 ⟨a3, c3, rfl, hM_6, hb6⟩
  have hk6 : Below Y2.heap.size Y2 x6 := hk5.trans (hb6.mono hk5.size)
  clear hb6 hk5 g0 g1 g2 g3 g4 g5 g6 g7
  obtain ⟨g0, g1, g2, g3, g4, g5, g6, g7, -⟩ := HFY2.out x6 hk6
  obtain ⟨Y3, hY3⟩ : ∃ Y, Y = x6.alloc (Obj.cells #[.int .i64 m2, .slice a3 J2.length c3] 24) := ⟨_, rfl⟩
  have hy : Below x6.heap.size x6 Y3 := by rw [hY3]; exact (Below.refl _ _).alloc (Nat.le_refl _) _
  have hz : Below Y2.heap.size Y2 Y3 := hk6.trans (hy.mono hk6.size)
  have hQ : Blk Y3 x6.heap.size 24 #[.int .i64 m2, .slice a3 J2.length c3] := by rw [hY3]; exact Blk.new _ _ _
  have HBY3 : Hid (Below w.heap.size w Y3) := Lib.hid (HBY2.out.trans (hz.mono HBY2.out.size))
  have HFY3 : Hid (∀ x, Below Y3.heap.size Y3 x → x.cell? ⟨w.heap.size, 0, none⟩ = some (.int .i64 n) ∧ x.cell? ⟨w.heap.size, 1, none⟩ = some (.slice a L.length cap) ∧ x.cell? ⟨w.heap.size + 1, 0, none⟩ = some (.int .i64 vx) ∧ x.cell? ⟨w.heap.size + 1, 1, none⟩ = some (.int .i64 vy) ∧ x.cell? ⟨x2.heap.size, 0, none⟩ = some (.int .i64 m1) ∧ x.cell? ⟨x2.heap.size, 1, none⟩ = some (.slice a1 J1.length c1) ∧ x.cell? ⟨x4.heap.size, 0, none⟩ = some (.int .i64 m1) ∧ x.cell? ⟨x4.heap.size, 1, none⟩ = some (.slice a2 J1.length c2) ∧ x.cell? ⟨x6.heap.size, 0, none⟩ = some (.int .i64 m2) ∧ x.cell? ⟨x6.heap.size, 1, none⟩ = some (.slice a3 J2.length c3) ∧ EsAt x a L ∧ EsAt x a1 J1 ∧ EsAt x a2 J1 ∧ EsAt x a3 J2) := Lib.hid fun x hx => ⟨(HFY2.out x (hz.trans (hx.mono hz.size))).1, (HFY2.out x (hz.trans (hx.mono hz.size))).2.1, (HFY2.out x (hz.trans (hx.mono hz.size))).2.2.1, (HFY2.out x (hz.trans (hx.mono hz.size))).2.2.2.1, (HFY2.out x (hz.trans (hx.mono hz.size))).2.2.2.2.1, (HFY2.out x (hz.trans (hx.mono hz.size))).2.2.2.2.2.1, (HFY2.out x (hz.trans (hx.mono hz.size))).2.2.2.2.2.2.1, (HFY2.out x (hz.trans (hx.mono hz.size))).2.2.2.2.2.2.2.1, (hQ.below hx hQ.lt).cell 0, (hQ.below hx hQ.lt).cell 1, (HFY2.out x (hz.trans (hx.mono hz.size))).2.2.2.2.2.2.2.2.1, (HFY2.out x (hz.trans (hx.mono hz.size))).2.2.2.2.2.2.2.2.2.1, (HFY2.out x (hz.trans (hx.mono hz.size))).2.2.2.2.2.2.2.2.2.2, (hM_6.keep hy).keep hx⟩
  clear g0 g1 g2 g3 g4 g5 g6 g7 hk6 hz hQ hy hM_6
  have hk7 : Below Y3.heap.size Y3 Y3 := Below.refl _ _
  have g0 : (x6.alloc (Obj.cells #[.int .i64 m2, .slice a3 J2.length c3] 24)).cell? ⟨w.heap.size, 0, none⟩ = some (.int .i64 n) := by rw [← hY3]; exact (HFY3.out _ hk7).1
  have g1 : (x6.alloc (Obj.cells #[.int .i64 m2, .slice a3 J2.length c3] 24)).cell? ⟨w.heap.size, 1, none⟩ = some (.slice a L.length cap) := by rw [← hY3]; exact (HFY3.out _ hk7).2.1
  have g2 : (x6.alloc (Obj.cells #[.int .i64 m2, .slice a3 J2.length c3] 24)).cell? ⟨w.heap.size + 1, 0, none⟩ = some (.int .i64 vx) := by rw [← hY3]; exact (HFY3.out _ hk7).2.2.1
  have g3 : (x6.alloc (Obj.cells #[.int .i64 m2, .slice a3 J2.length c3] 24)).cell? ⟨w.heap.size + 1, 1, none⟩ = some (.int .i64 vy) := by rw [← hY3]; exact (HFY3.out _ hk7).2.2.2.1
  have g4 : (x6.alloc (Obj.cells #[.int .i64 m2, .slice a3 J2.length c3] 24)).cell? ⟨x2.heap.size, 0, none⟩ = some (.int .i64 m1) := by rw [← hY3]; exact (HFY3.out _ hk7).2.2.2.2.1
  have g5 : (x6.alloc (Obj.cells #[.int .i64 m2, .slice a3 J2.length c3] 24)).cell? ⟨x2.heap.size, 1, none⟩ = some (.slice a1 J1.length c1) := by rw [← hY3]; exact (HFY3.out _ hk7).2.2.2.2.2.1
  have g6 : (x6.alloc (Obj.cells #[.int .i64 m2, .slice a3 J2.length c3] 24)).cell? ⟨x4.heap.size, 0, none⟩ = some (.int .i64 m1) := by rw [← hY3]; exact (HFY3.out _ hk7).2.2.2.2.2.2.1
  have g7 : (x6.alloc (Obj.cells #[.int .i64 m2, .slice a3 J2.length c3] 24)).cell? ⟨x4.heap.size, 1, none⟩ = some (.slice a2 J1.length c2) := by rw [← hY3]; exact (HFY3.out _ hk7).2.2.2.2.2.2.2.1
  have g8 : (x6.alloc (Obj.cells #[.int .i64 m2, .slice a3 J2.length c3] 24)).cell? ⟨x6.heap.size, 0, none⟩ = some (.int .i64 m2) := by rw [← hY3]; exact (HFY3.out _ hk7).2.2.2.2.2.2.2.2.1
  have g9 : (x6.alloc (Obj.cells #[.int .i64 m2, .slice a3 J2.length c3] 24)).cell? ⟨x6.heap.size, 1, none⟩ = some (.slice a3 J2.length c3) := by rw [← hY3]; exact (HFY3.out _ hk7).2.2.2.2.2.2.2.2.2.1
  have HY3 := Lib.hid hY3
  clear hY3
  go_wp2_with fail
  rw [← HY3.out]
  refine (HC2.out _ (HFY3.out Y3 hk7).2.2.2.2.2.2.2.2.2.2.1).mono ?_
  rintro e x8 ⟨a4, c4, rfl, hN_8, hb8⟩
  have hk8 : Below Y3.heap.size Y3 x8 := hk7.trans (hb8.mono hk7.size)
  clear hb8 hk7 g0 g1 g2 g3 g4 g5 g6 g7 g8 g9
  obtain ⟨g0, g1, g2, g3, g4, g5, g6, g7, g8, g9, -⟩ := HFY3.out x8 hk8
  obtain ⟨Y4, hY4⟩ : ∃ Y, Y = x8.alloc (Obj.cells #[.int .i64 m2, .slice a4 J2.length c4] 24) := ⟨_, rfl⟩
  have hy : Below x8.heap.size x8 Y4 := by rw [hY4]; exact (Below.refl _ _).alloc (Nat.le_refl _) _
  have hz : Below Y3.heap.size Y3 Y4 := hk8.trans (hy.mono hk8.size)
  have hQ : Blk Y4 x8.heap.size 24 #[.int .i64 m2, .slice a4 J2.length c4] := by rw [hY4]; exact Blk.new _ _ _
  have HBY4 : Hid (Below w.heap.size w Y4) := Lib.hid (HBY3.out.trans (hz.mono HBY3.out.size))
  have HFY4 : Hid (∀ x, Below Y4.heap.size Y4 x → x.cell? ⟨w.heap.size, 0, none⟩ = some (.int .i64 n) ∧ x.cell? ⟨w.heap.size, 1, none⟩ = some (.slice a L.length cap) ∧ x.cell? ⟨w.heap.size + 1, 0, none⟩ = some (.int .i64 vx) ∧ x.cell? ⟨w.heap.size + 1, 1, none⟩ = some (.int .i64 vy) ∧ x.cell? ⟨x2.heap.size, 0, none⟩ = some (.int .i64 m1) ∧ x.cell? ⟨x2.heap.size, 1, none⟩ = some (.slice a1 J1.length c1) ∧ x.cell? ⟨x4.heap.size, 0, none⟩ = some (.int .i64 m1) ∧ x.cell? ⟨x4.heap.size, 1, none⟩ = some (.slice a2 J1.length c2) ∧ x.cell? ⟨x6.heap.size, 0, none⟩ = some (.int .i64 m2) ∧ x.cell? ⟨x6.heap.size, 1, none⟩ = some (.slice a3 J2.length c3) ∧ x.cell? ⟨x8.heap.size, 0, none⟩ = some (.int .i64 m2) ∧ x.cell? ⟨x8.heap.size, 1, none⟩ = some (.slice a4 J2.length c4) ∧ EsAt x a L ∧ EsAt x a1 J1 ∧ EsAt x a2 J1 ∧ EsAt x a3 J2 ∧ EsAt x a4 J2) := Lib.hid fun x hx => ⟨(HFY3.out x (hz.trans (hx.mono hz.size))).1, (HFY3.out x (hz.trans (hx.mono hz.size))).2.1, (HFY3.out x (hz.trans (hx.mono hz.size))).2.2.1, (HFY3.out x (hz.trans (hx.mono hz.size))).2.2.2.1, (HFY3.out x (hz.trans (hx.mono hz.size))).2.2.2.2.1, (HFY3.out x (hz.trans (hx.mono hz.size))).2.2.2.2.2.1, (HFY3.out x (hz.trans (hx.mono hz.size))).2.2.2.2.2.2.1, (HFY3.out x (hz.trans (hx.mono hz.size))).2.2.2.2.2.2.2.1, (HFY3.out x (hz.trans (hx.mono hz.size))).2.2.2.2.2.2.2.2.1, (HFY3.out x (hz.trans (hx.mono hz.size))).2.2.2.2.2.2.2.2.2.1, (hQ.below hx hQ.lt).cell 0, (hQ.below hx hQ.lt).cell 1, (HFY3.out x (hz.trans (hx.mono hz.size))).2.2.2.2.2.2.2.2.2.2.1, (HFY3.out x (hz.trans (hx.mono hz.size))).2.2.2.2.2.2.2.2.2.2.2.1, (HFY3.out x (hz.trans (hx.mono hz.size))).2.2.2.2.2.2.2.2.2.2.2.2.1, (HFY3.out x (hz.trans (hx.mono hz.size))).2.2.2.2.2.2.2.2.2.2.2.2.2, (hN_8.keep hy).keep hx⟩
  clear g0 g1 g2 g3 g4 g5 g6 g7 g8 g9 hk8 hz hQ hy hN_8
  have hk9 : Below Y4.heap.size Y4 Y4 := Below.refl _ _
  have g0 : (x8.alloc (Obj.cells #[.int .i64 m2, .slice a4 J2.length c4] 24)).cell? ⟨w.heap.size, 0, none⟩ = some (.int .i64 n) := by rw [← hY4]; exact (HFY4.out _ hk9).1
  have g1 : (x8.alloc (Obj.cells #[.int .i64 m2, .slice a4 J2.length c4] 24)).cell? ⟨w.heap.size, 1, none⟩ = some (.slice a L.length cap) := by rw [← hY4]; exact (HFY4.out _ hk9).2.1
  have g2 : (x8.alloc (Obj.cells #[.int .i64 m2, .slice a4 J2.length c4] 24)).cell? ⟨w.heap.size + 1, 0, none⟩ = some (.int .i64 vx) := by rw [← hY4]; exact (HFY4.out _ hk9).2.2.1
  have g3 : (x8.alloc (Obj.cells #[.int .i64 m2, .slice a4 J2.length c4] 24)).cell? ⟨w.heap.size + 1, 1, none⟩ = some (.int .i64 vy) := by rw [← hY4]; exact (HFY4.out _ hk9).2.2.2.1
  have g4 : (x8.alloc (Obj.cells #[.int .i64 m2, .slice a4 J2.length c4] 24)).cell? ⟨x2.heap.size, 0, none⟩ = some (.int .i64 m1) := by rw [← hY4]; exact (HFY4.out _ hk9).2.2.2.2.1
  have g5 : (x8.alloc (Obj.cells #[.int .i64 m2, .slice a4 J2.length c4] 24)).cell? ⟨x2.heap.size, 1, none⟩ = some (.slice a1 J1.length c1) := by rw [← hY4]; exact (HFY4.out _ hk9).2.2.2.2.2.1
  have g6 : (x8.alloc (Obj.cells #[.int .i64 m2, .slice a4 J2.length c4] 24)).cell? ⟨x4.heap.size, 0, none⟩ = some (.int .i64 m1) := by rw [← hY4]; exact (HFY4.out _ hk9).2.2.2.2.2.2.1
  have g7 : (x8.alloc (Obj.cells #[.int .i64 m2, .slice a4 J2.length c4] 24)).cell? ⟨x4.heap.size, 1, none⟩ = some (.slice a2 J1.length c2) := by rw [← hY4]; exact (HFY4.out _ hk9).2.2.2.2.2.2.2.1
  have g8 : (x8.alloc (Obj.cells #[.int .i64 m2, .slice a4 J2.length c4] 24)).cell? ⟨x6.heap.size, 0, none⟩ = some (.int .i64 m2) := by rw [← hY4]; exact (HFY4.out _ hk9).2.2.2.2.2.2.2.2.1
  have g9 : (x8.alloc (Obj.cells #[.int .i64 m2, .slice a4 J2.length c4] 24)).cell? ⟨x6.heap.size, 1, none⟩ = some (.slice a3 J2.length c3) := by rw [← hY4]; exact (HFY4.out _ hk9).2.2.2.2.2.2.2.2.2.1
  have g10 : (x8.alloc (Obj.cells #[.int .i64 m2, .slice a4 J2.length c4] 24)).cell? ⟨x8.heap.size, 0, none⟩ = some (.int .i64 m2) := by rw [← hY4]; exact (HFY4.out _ hk9).2.2.2.2.2.2.2.2.2.2.1
  have g11 : (x8.alloc (Obj.cells #[.int .i64 m2, .slice a4 J2.length c4] 24)).cell? ⟨x8.heap.size, 1, none⟩ = some (.slice a4 J2.length c4) := by rw [← hY4]; exact (HFY4.out _ hk9).2.2.2.2.2.2.2.2.2.2.2.1
  have HY4 := Lib.hid hY4
  clear hY4
  go_wp2_with fail
  rw [← HY4.out]
  refine (HV1.out _ (HFY4.out Y4 hk9).2.2.2.2.2.2.2.2.2.2.2.2.1).mono ?_
  rintro e x10 ⟨b1, d1, rfl, hA_10, hb10⟩
  have hk10 : Below Y4.heap.size Y4 x10 := hk9.trans (hb10.mono hk9.size)
  clear hb10 hk9 g0 g1 g2 g3 g4 g5 g6 g7 g8 g9 g10 g11
  obtain ⟨g0, g1, g2, g3, g4, g5, g6, g7, g8, g9, g10, g11, -⟩ := HFY4.out x10 hk10
  go_wp2_with fail
  refine (HV2.out _ (HFY4.out x10 hk10).2.2.2.2.2.2.2.2.2.2.2.2.1).mono ?_
  rintro e x11 ⟨b3, d3, rfl, hC_11, hb11⟩
  have hk11 : Below Y4.heap.size Y4 x11 := hk10.trans (hb11.mono hk10.size)
  have hA_11 := hA_10.keep hb11
  clear hb11 hk10 g0 g1 g2 g3 g4 g5 g6 g7 g8 g9 g10 g11 hA_10
  obtain ⟨g0, g1, g2, g3, g4, g5, g6, g7, g8, g9, g10, g11, -⟩ := HFY4.out x11 hk11
  go_wp2_with fail
  refine (HM1.out _ (HFY4.out x11 hk11).2.2.2.2.2.2.2.2.2.2.2.2.1).mono ?_
  rintro e x12 ⟨a5, c5, rfl, hR_12, hb12⟩
  have hk12 : Below Y4.heap.size Y4 x12 := hk11.trans (hb12.mono hk11.size)
  have hA_12 := hA_11.keep hb12
  have hC_12 := hC_11.keep hb12
  clear hb12 hk11 g0 g1 g2 g3 g4 g5 g6 g7 g8 g9 g10 g11 hA_11 hC_11
  obtain ⟨g0, g1, g2, g3, g4, g5, g6, g7, g8, g9, g10, g11, -⟩ := HFY4.out x12 hk12
  obtain ⟨Y5, hY5⟩ : ∃ Y, Y = x12.alloc (Obj.cells #[.int .i64 m4, .slice a5 J4.length c5] 24) := ⟨_, rfl⟩
  have hy : Below x12.heap.size x12 Y5 := by rw [hY5]; exact (Below.refl _ _).alloc (Nat.le_refl _) _
  have hz : Below Y4.heap.size Y4 Y5 := hk12.trans (hy.mono hk12.size)
  have hQ : Blk Y5 x12.heap.size 24 #[.int .i64 m4, .slice a5 J4.length c5] := by rw [hY5]; exact Blk.new _ _ _
  have HBY5 : Hid (Below w.heap.size w Y5) := Lib.hid (HBY4.out.trans (hz.mono HBY4.out.size))
  have HFY5 : Hid (∀ x, Below Y5.heap.size Y5 x → x.cell? ⟨w.heap.size, 0, none⟩ = some (.int .i64 n) ∧ x.cell? ⟨w.heap.size, 1, none⟩ = some (.slice a L.length cap) ∧ x.cell? ⟨w.heap.size + 1, 0, none⟩ = some (.int .i64 vx) ∧ x.cell? ⟨w.heap.size + 1, 1, none⟩ = some (.int .i64 vy) ∧ x.cell? ⟨x2.heap.size, 0, none⟩ = some (.int .i64 m1) ∧ x.cell? ⟨x2.heap.size, 1, none⟩ = some (.slice a1 J1.length c1) ∧ x.cell? ⟨x4.heap.size, 0, none⟩ = some (.int .i64 m1) ∧ x.cell? ⟨x4.heap.size, 1, none⟩ = some (.slice a2 J1.length c2) ∧ x.cell? ⟨x6.heap.size, 0, none⟩ = some (.int .i64 m2) ∧ x.cell? ⟨x6.heap.size, 1, none⟩ = some (.slice a3 J2.length c3) ∧ x.cell? ⟨x8.heap.size, 0, none⟩ = some (.int .i64 m2) ∧ x.cell? ⟨x8.heap.size, 1, none⟩ = some (.slice a4 J2.length c4) ∧ x.cell? ⟨x12.heap.size, 0, none⟩ = some (.int .i64 m4) ∧ x.cell? ⟨x12.heap.size, 1, none⟩ = some (.slice a5 J4.length c5) ∧ EsAt x a L ∧ EsAt x a1 J1 ∧ EsAt x a2 J1 ∧ EsAt x a3 J2 ∧ EsAt x a4 J2 ∧ IsAt x b1 V ∧ IsAt x b3 V ∧ EsAt x a5 J4) := Lib.hid fun x hx => ⟨(HFY4.out x (hz.trans (hx.mono hz.size))).1, (HFY4.out x (hz.trans (hx.mono hz.size))).2.1, (HFY4.out x (hz.trans (hx.mono hz.size))).2.2.1, (HFY4.out x (hz.trans (hx.mono hz.size))).2.2.2.1, (HFY4.out x (hz.trans (hx.mono hz.size))).2.2.2.2.1, (HFY4.out x (hz.trans (hx.mono hz.size))).2.2.2.2.2.1, (HFY4.out x (hz.trans (hx.mono hz.size))).2.2.2.2.2.2.1, (HFY4.out x (hz.trans (hx.mono hz.size))).2.2.2.2.2.2.2.1, (HFY4.out x (hz.trans (hx.mono hz.size))).2.2.2.2.2.2.2.2.1, (HFY4.out x (hz.trans (hx.mono hz.size))).2.2.2.2.2.2.2.2.2.1, (HFY4.out x (hz.trans (hx.mono hz.size))).2.2.2.2.2.2.2.2.2.2.1, (HFY4.out x (hz.trans (hx.mono hz.size))).2.2.2.2.2.2.2.2.2.2.2.1, (hQ.below hx hQ.lt).cell 0, (hQ.below hx hQ.lt).cell 1, (HFY4.out x (hz.trans (hx.mono hz.size))).2.2.2.2.2.2.2.2.2.2.2.2.1, (HFY4.out x (hz.trans (hx.mono hz.size))).2.2.2.2.2.2.2.2.2.2.2.2.2.1, (HFY4.out x (hz.trans (hx.mono hz.size))).2.2.2.2.2.2.2.2.2.2.2.2.2.2.1, (HFY4.out x (hz.trans (hx.mono hz.size))).2.2.2.2.2.2.2.2.2.2.2.2.2.2.2.1, (HFY4.out x (hz.trans (hx.mono hz.size))).2.2.2.2.2.2.2.2.2.2.2.2.2.2.2.2, (hA_12.keep hy).keep hx, (hC_12.keep hy).keep hx, (hR_12.keep hy).keep hx⟩
  clear g0 g1 g2 g3 g4 g5 g6 g7 g8 g9 g10 g11 hk12 hz hQ hy hA_12 hC_12 hR_12
  have hk13 : Below Y5.heap.size Y5 Y5 := Below.refl _ _
  have g0 : (x12.alloc (Obj.cells #[.int .i64 m4, .slice a5 J4.length c5] 24)).cell? ⟨w.heap.size, 0, none⟩ = some (.int .i64 n) := by rw [← hY5]; exact (HFY5.out _ hk13).1
  have g1 : (x12.alloc (Obj.cells #[.int .i64 m4, .slice a5 J4.length c5] 24)).cell? ⟨w.heap.size, 1, none⟩ = some (.slice a L.length cap) := by rw [← hY5]; exact (HFY5.out _ hk13).2.1
  have g2 : (x12.alloc (Obj.cells #[.int .i64 m4, .slice a5 J4.length c5] 24)).cell? ⟨w.heap.size + 1, 0, none⟩ = some (.int .i64 vx) := by rw [← hY5]; exact (HFY5.out _ hk13).2.2.1
  have g3 : (x12.alloc (Obj.cells #[.int .i64 m4, .slice a5 J4.length c5] 24)).cell? ⟨w.heap.size + 1, 1, none⟩ = some (.int .i64 vy) := by rw [← hY5]; exact (HFY5.out _ hk13).2.2.2.1
  have g4 : (x12.alloc (Obj.cells #[.int .i64 m4, .slice a5 J4.length c5] 24)).cell? ⟨x2.heap.size, 0, none⟩ = some (.int .i64 m1) := by rw [← hY5]; exact (HFY5.out _ hk13).2.2.2.2.1
  have g5 : (x12.alloc (Obj.cells #[.int .i64 m4, .slice a5 J4.length c5] 24)).cell? ⟨x2.heap.size, 1, none⟩ = some (.slice a1 J1.length c1) := by rw [← hY5]; exact (HFY5.out _ hk13).2.2.2.2.2.1
  have g6 : (x12.alloc (Obj.cells #[.int .i64 m4, .slice a5 J4.length c5] 24)).cell? ⟨x4.heap.size, 0, none⟩ = some (.int .i64 m1) := by rw [← hY5]; exact (HFY5.out _ hk13).2.2.2.2.2.2.1
  have g7 : (x12.alloc (Obj.cells #[.int .i64 m4, .slice a5 J4.length c5] 24)).cell? ⟨x4.heap.size, 1, none⟩ = some (.slice a2 J1.length c2) := by rw [← hY5]; exact (HFY5.out _ hk13).2.2.2.2.2.2.2.1
  have g8 : (x12.alloc (Obj.cells #[.int .i64 m4, .slice a5 J4.length c5] 24)).cell? ⟨x6.heap.size, 0, none⟩ = some (.int .i64 m2) := by rw [← hY5]; exact (HFY5.out _ hk13).2.2.2.2.2.2.2.2.1
  have g9 : (x12.alloc (Obj.cells #[.int .i64 m4, .slice a5 J4.length c5] 24)).cell? ⟨x6.heap.size, 1, none⟩ = some (.slice a3 J2.length c3) := by rw [← hY5]; exact (HFY5.out _ hk13).2.2.2.2.2.2.2.2.2.1
  have g10 : (x12.alloc (Obj.cells #[.int .i64 m4, .slice a5 J4.length c5] 24)).cell? ⟨x8.heap.size, 0, none⟩ = some (.int .i64 m2) := by rw [← hY5]; exact (HFY5.out _ hk13).2.2.2.2.2.2.2.2.2.2.1
  have g11 : (x12.alloc (Obj.cells #[.int .i64 m4, .slice a5 J4.length c5] 24)).cell? ⟨x8.heap.size, 1, none⟩ = some (.slice a4 J2.length c4) := by rw [← hY5]; exact (HFY5.out _ hk13).2.2.2.2.2.2.2.2.2.2.2.1
  have g12 : (x12.alloc (Obj.cells #[.int .i64 m4, .slice a5 J4.length c5] 24)).cell? ⟨x12.heap.size, 0, none⟩ = some (.int .i64 m4) := by rw [← hY5]; exact (HFY5.out _ hk13).2.2.2.2.2.2.2.2.2.2.2.2.1
  have g13 : (x12.alloc (Obj.cells #[.int .i64 m4, .slice a5 J4.length c5] 24)).cell? ⟨x12.heap.size, 1, none⟩ = some (.slice a5 J4.length c5) := by rw [← hY5]; exact (HFY5.out _ hk13).2.2.2.2.2.2.2.2.2.2.2.2.2.1
  have HY5 := Lib.hid hY5
  clear hY5
  go_wp2_with fail
  rw [← HY5.out]
  refine (HM2.out _ (HFY5.out Y5 hk13).2.2.2.2.2.2.2.2.2.2.2.2.2.2.1).mono ?_
  rintro e x14 ⟨a6, c6, rfl, hS_14, hb14⟩
  have hk14 : Below Y5.heap.size Y5 x14 := hk13.trans (hb14.mono hk13.size)
  clear hb14 hk13 g0 g1 g2 g3 g4 g5 g6 g7 g8 g9 g10 g11 g12 g13
  obtain ⟨g0, g1, g2, g3, g4, g5, g6, g7, g8, g9, g10, g11, g12, g13, -⟩ := HFY5.out x14 hk14
  obtain ⟨Y6, hY6⟩ : ∃ Y, Y = x14.alloc (Obj.cells #[.int .i64 m4, .slice a6 J4.length c6] 24) := ⟨_, rfl⟩
  have hy : Below x14.heap.size x14 Y6 := by rw [hY6]; exact (Below.refl _ _).alloc (Nat.le_refl _) _
  have hz : Below Y5.heap.size Y5 Y6 := hk14.trans (hy.mono hk14.size)
  have hQ : Blk Y6 x14.heap.size 24 #[.int .i64 m4, .slice a6 J4.length c6] := by rw [hY6]; exact Blk.new _ _ _
  have HBY6 : Hid (Below w.heap.size w Y6) := Lib.hid (HBY5.out.trans (hz.mono HBY5.out.size))
  have HFY6 : Hid (∀ x, Below Y6.heap.size Y6 x → x.cell? ⟨w.heap.size, 0, none⟩ = some (.int .i64 n) ∧ x.cell? ⟨w.heap.size, 1, none⟩ = some (.slice a L.length cap) ∧ x.cell? ⟨w.heap.size + 1, 0, none⟩ = some (.int .i64 vx) ∧ x.cell? ⟨w.heap.size + 1, 1, none⟩ = some (.int .i64 vy) ∧ x.cell? ⟨x2.heap.size, 0, none⟩ = some (.int .i64 m1) ∧ x.cell? ⟨x2.heap.size, 1, none⟩ = some (.slice a1 J1.length c1) ∧ x.cell? ⟨x4.heap.size, 0, none⟩ = some (.int .i64 m1) ∧ x.cell? ⟨x4.heap.size, 1, none⟩ = some (.slice a2 J1.length c2) ∧ x.cell? ⟨x6.heap.size, 0, none⟩ = some (.int .i64 m2) ∧ x.cell? ⟨x6.heap.size, 1, none⟩ = some (.slice a3 J2.length c3) ∧ x.cell? ⟨x8.heap.size, 0, none⟩ = some (.int .i64 m2) ∧ x.cell? ⟨x8.heap.size, 1, none⟩ = some (.slice a4 J2.length c4) ∧ x.cell? ⟨x12.heap.size, 0, none⟩ = some (.int .i64 m4) ∧ x.cell? ⟨x12.heap.size, 1, none⟩ = some (.slice a5 J4.length c5) ∧ x.cell? ⟨x14.heap.size, 0, none⟩ = some (.int .i64 m4) ∧ x.cell? ⟨x14.heap.size, 1, none⟩ = some (.slice a6 J4.length c6) ∧ EsAt x a L ∧ EsAt x a1 J1 ∧ EsAt x a2 J1 ∧ EsAt x a3 J2 ∧ EsAt x a4 J2 ∧ IsAt x b1 V ∧ IsAt x b3 V ∧ EsAt x a5 J4 ∧ EsAt x a6 J4) := Lib.hid fun x hx => ⟨(HFY5.out x (hz.trans (hx.mono hz.size))).1, (HFY5.out x (hz.trans (hx.mono hz.size))).2.1, (HFY5.out x (hz.trans (hx.mono hz.size))).2.2.1, (HFY5.out x (hz.trans (hx.mono hz.size))).2.2.2.1, (HFY5.out x (hz.trans (hx.mono hz.size))).2.2.2.2.1, (HFY5.out x (hz.trans (hx.mono hz.size))).2.2.2.2.2.1, (HFY5.out x (hz.trans (hx.mono hz.size))).2.2.2.2.2.2.1, (HFY5.out x (hz.trans (hx.mono hz.size))).2.2.2.2.2.2.2.1, (HFY5.out x (hz.trans (hx.mono hz.size))).2.2.2.2.2.2.2.2.1, (HFY5.out x (hz.trans (hx.mono hz.size))).2.2.2.2.2.2.2.2.2.1, (HFY5.out x (hz.trans (hx.mono hz.size))).2.2.2.2.2.2.2.2.2.2.1, (HFY5.out x (hz.trans (hx.mono hz.size))).2.2.2.2.2.2.2.2.2.2.2.1, (HFY5.out x (hz.trans (hx.mono hz.size))).2.2.2.2.2.2.2.2.2.2.2.2.1, (HFY5.out x (hz.trans (hx.mono hz.size))).2.2.2.2.2.2.2.2.2.2.2.2.2.1, (hQ.below hx hQ.lt).cell 0, (hQ.below hx hQ.lt).cell 1, (HFY5.out x (hz.trans (hx.mono hz.size))).2.2.2.2.2.2.2.2.2.2.2.2.2.2.1, (HFY5.out x (hz.trans (hx.mono hz.size))).2.2.2.2.2.2.2.2.2.2.2.2.2.2.2.1, (HFY5.out x (hz.trans (hx.mono hz.size))).2.2.2.2.2.2.2.2.2.2.2.2.2.2.2.2.1, (HFY5.out x (hz.trans (hx.mono hz.size))).2.2.2.2.2.2.2.2.2.2.2.2.2.2.2.2.2.1, (HFY5.out x (hz.trans (hx.mono hz.size))).2.2.2.2.2.2.2.2.2.2.2.2.2.2.2.2.2.2.1, (HFY5.out x (hz.trans (hx.mono hz.size))).2.2.2.2.2.2.2.2.2.2.2.2.2.2.2.2.2.2.2.1, (HFY5.out x (hz.trans (hx.mono hz.size))).2.2.2.2.2.2.2.2.2.2.2.2.2.2.2.2.2.2.2.2.1, (HFY5.out x (hz.trans (hx.mono hz.size))).2.2.2.2.2.2.2.2.2.2.2.2.2.2.2.2.2.2.2.2.2, (hS_14.keep hy).keep hx⟩
  clear g0 g1 g2 g3 g4 g5 g6 g7 g8 g9 g10 g11 g12 g13 hk14 hz hQ hy hS_14
  have hk15 : Below Y6.heap.size Y6 Y6 := Below.refl _ _
  have g0 : (x14.alloc (Obj.cells #[.int .i64 m4, .slice a6 J4.length c6] 24)).cell? ⟨w.heap.size, 0, none⟩ = some (.int .i64 n) := by rw [← hY6]; exact (HFY6.out _ hk15).1
  have g1 : (x14.alloc (Obj.cells #[.int .i64 m4, .slice a6 J4.length c6] 24)).cell? ⟨w.heap.size, 1, none⟩ = some (.slice a L.length cap) := by rw [← hY6]; exact (HFY6.out _ hk15).2.1
  have g2 : (x14.alloc (Obj.cells #[.int .i64 m4, .slice a6 J4.length c6] 24)).cell? ⟨w.heap.size + 1, 0, none⟩ = some (.int .i64 vx) := by rw [← hY6]; exact (HFY6.out _ hk15).2.2.1
  have g3 : (x14.alloc (Obj.cells #[.int .i64 m4, .slice a6 J4.length c6] 24)).cell? ⟨w.heap.size + 1, 1, none⟩ = some (.int .i64 vy) := by rw [← hY6]; exact (HFY6.out _ hk15).2.2.2.1
  have g4 : (x14.alloc (Obj.cells #[.int .i64 m4, .slice a6 J4.length c6] 24)).cell? ⟨x2.heap.size, 0, none⟩ = some (.int .i64 m1) := by rw [← hY6]; exact (HFY6.out _ hk15).2.2.2.2.1
  have g5 : (x14.alloc (Obj.cells #[.int .i64 m4, .slice a6 J4.length c6] 24)).cell? ⟨x2.heap.size, 1, none⟩ = some (.slice a1 J1.length c1) := by rw [← hY6]; exact (HFY6.out _ hk15).2.2.2.2.2.1
  have g6 : (x14.alloc (Obj.cells #[.int .i64 m4, .slice a6 J4.length c6] 24)).cell? ⟨x4.heap.size, 0, none⟩ = some (.int .i64 m1) := by rw [← hY6]; exact (HFY6.out _ hk15).2.2.2.2.2.2.1
  have g7 : (x14.alloc (Obj.cells #[.int .i64 m4, .slice a6 J4.length c6] 24)).cell? ⟨x4.heap.size, 1, none⟩ = some (.slice a2 J1.length c2) := by rw [← hY6]; exact (HFY6.out _ hk15).2.2.2.2.2.2.2.1
  have g8 : (x14.alloc (Obj.cells #[.int .i64 m4, .slice a6 J4.length c6] 24)).cell? ⟨x6.heap.size, 0, none⟩ = some (.int .i64 m2) := by rw [← hY6]; exact (HFY6.out _ hk15).2.2.2.2.2.2.2.2.1
  have g9 : (x14.alloc (Obj.cells #[.int .i64 m4, .slice a6 J4.length c6] 24)).cell? ⟨x6.heap.size, 1, none⟩ = some (.slice a3 J2.length c3) := by rw [← hY6]; exact (HFY6.out _ hk15).2.2.2.2.2.2.2.2.2.1
  have g10 : (x14.alloc (Obj.cells #[.int .i64 m4, .slice a6 J4.length c6] 24)).cell? ⟨x8.heap.size, 0, none⟩ = some (.int .i64 m2) := by rw [← hY6]; exact (HFY6.out _ hk15).2.2.2.2.2.2.2.2.2.2.1
  have g11 : (x14.alloc (Obj.cells #[.int .i64 m4, .slice a6 J4.length c6] 24)).cell? ⟨x8.heap.size, 1, none⟩ = some (.slice a4 J2.length c4) := by rw [← hY6]; exact (HFY6.out _ hk15).2.2.2.2.2.2.2.2.2.2.2.1
  have g12 : (x14.alloc (Obj.cells #[.int .i64 m4, .slice a6 J4.length c6] 24)).cell? ⟨x12.heap.size, 0, none⟩ = some (.int .i64 m4) := by rw [← hY6]; exact (HFY6.out _ hk15).2.2.2.2.2.2.2.2.2.2.2.2.1
  have g13 : (x14.alloc (Obj.cells #[.int .i64 m4, .slice a6 J4.length c6] 24)).cell? ⟨x12.heap.size, 1, none⟩ = some (.slice a5 J4.length c5) := by rw [← hY6]; exact (HFY6.out _ hk15).2.2.2.2.2.2.2.2.2.2.2.2.2.1
  have g14 : (x14.alloc (Obj.cells #[.int .i64 m4, .slice a6 J4.length c6] 24)).cell? ⟨x14.heap.size, 0, none⟩ = some (.int .i64 m4) := by rw [← hY6]; exact (HFY6.out _ hk15).2.2.2.2.2.2.2.2.2.2.2.2.2.2.1
  have g15 : (x14.alloc (Obj.cells #[.int .i64 m4, .slice a6 J4.length c6] 24)).cell? ⟨x14.heap.size, 1, none⟩ = some (.slice a6 J4.length c6) := by rw [← hY6]; exact (HFY6.out _ hk15).2.2.2.2.2.2.2.2.2.2.2.2.2.2.2.1
  have HY6 := Lib.hid hY6
  clear hY6
  go_wp2_with fail
  rw [← HY6.out]
  refine (HA _).mono ?_
  rintro e x16 ⟨rfl, hb16⟩
  have hk16 : Below Y6.heap.size Y6 x16 := hk15.trans (hb16.mono hk15.size)
  clear hb16 hk15 g0 g1 g2 g3 g4 g5 g6 g7 g8 g9 g10 g11 g12 g13 g14 g15
  obtain ⟨g0, g1, g2, g3, g4, g5, g6, g7, g8, g9, g10, g11, g12, g13, g14, g15, -⟩ := HFY6.out x16 hk16
  go_wp2_with fail
  refine (same_any m1 a1 a2 c1 c2 J1 _ h1 (HFY6.out x16 hk16).2.2.2.2.2.2.2.2.2.2.2.2.2.2.2.2.2.1 (HFY6.out x16 hk16).2.2.2.2.2.2.2.2.2.2.2.2.2.2.2.2.2.2.1).mono ?_
  rintro e x17 ⟨rfl, hb17⟩
  have hk17 : Below Y6.heap.size Y6 x17 := hk16.trans (hb17.mono hk16.size)
  clear hb17 hk16 g0 g1 g2 g3 g4 g5 g6 g7 g8 g9 g10 g11 g12 g13 g14 g15
  obtain ⟨g0, g1, g2, g3, g4, g5, g6, g7, g8, g9, g10, g11, g12, g13, g14, g15, -⟩ := HFY6.out x17 hk17
  go_wp2_with fail
  refine (same_any m2 a3 a4 c3 c4 J2 _ h2 (HFY6.out x17 hk17).2.2.2.2.2.2.2.2.2.2.2.2.2.2.2.2.2.2.2.1 (HFY6.out x17 hk17).2.2.2.2.2.2.2.2.2.2.2.2.2.2.2.2.2.2.2.2.1).mono ?_
  rintro e x18 ⟨rfl, hb18⟩
  have hk18 : Below Y6.heap.size Y6 x18 := hk17.trans (hb18.mono hk17.size)
  clear hb18 hk17 g0 g1 g2 g3 g4 g5 g6 g7 g8 g9 g10 g11 g12 g13 g14 g15
  obtain ⟨g0, g1, g2, g3, g4, g5, g6, g7, g8, g9, g10, g11, g12, g13, g14, g15, -⟩ := HFY6.out x18 hk18
  go_wp2_with fail
  refine (rsameI_true b1 b3 d1 d3 V hVl _ (HFY6.out x18 hk18).2.2.2.2.2.2.2.2.2.2.2.2.2.2.2.2.2.2.2.2.2.1 (HFY6.out x18 hk18).2.2.2.2.2.2.2.2.2.2.2.2.2.2.2.2.2.2.2.2.2.2.1).mono ?_
  rintro e x19 ⟨rfl, hb19⟩
  have hk19 : Below Y6.heap.size Y6 x19 := hk18.trans (hb19.mono hk18.size)
  clear hb19 hk18 g0 g1 g2 g3 g4 g5 g6 g7 g8 g9 g10 g11 g12 g13 g14 g15
  obtain ⟨g0, g1, g2, g3, g4, g5, g6, g7, g8, g9, g10, g11, g12, g13, g14, g15, -⟩ := HFY6.out x19 hk19
  go_wp2_with fail
  refine (same_any m4 a5 a6 c5 c6 J4 _ h4 (HFY6.out x19 hk19).2.2.2.2.2.2.2.2.2.2.2.2.2.2.2.2.2.2.2.2.2.2.2.1 (HFY6.out x19 hk19).2.2.2.2.2.2.2.2.2.2.2.2.2.2.2.2.2.2.2.2.2.2.2.2).mono ?_
  rintro e x20 ⟨rfl, hb20⟩
  have hk20 : Below Y6.heap.size Y6 x20 := hk19.trans (hb20.mono hk19.size)
  clear hb20 hk19 g0 g1 g2 g3 g4 g5 g6 g7 g8 g9 g10 g11 g12 g13 g14 g15
  obtain ⟨g0, g1, g2, g3, g4, g5, g6, g7, g8, g9, g10, g11, g12, g13, g14, g15, -⟩ := HFY6.out x20 hk20
  have HEND := Lib.hid (HBY6.out.trans (hk20.mono HBY6.out.size))
  clear hk20 g0 g1 g2 g3 g4 g5 g6 g7 g8 g9 g10 g11 g12 g13 g14 g15
  go_wp2
  go_ret
  exact ⟨rfl, HEND.out⟩
end Go.Proofs.Ytndjjafpdiehdaa
