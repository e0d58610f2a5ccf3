/- Walks of fractions: the check of two fractions ahead of an operation, and the operations. And: Walks of fractions: quotients, orders, opposites, floors, Make and Of. And: Walks of fractions: a pair of texts, the parts of a text, texts and back. And: Walks of fractions: parts of a wrong form, Parse, Text. -/
import Derived.Test.YtolkiimlchfmlaaGreatDoorQ27
import Derived.Laws.IdiomStrings
namespace Go.Proofs.YtolkiimlchfmlaaGreatDoor
open Go.RowKit Go.Proofs.Num

theorem fcheck_T {D : Nat} (n d : Int) (hn : Few D n) (hd : Few D d) (h1 : 1 ≤ D) (hD : D ≤ 1024) (hl : Low n d) (w : World) (hT : Tab w) :
    Calls Tryz.prog 18 #[FrV (T n) (T d)] w fun e w' => e = .returned (.int .i64 0) ∧ Below w.heap.size w w' := by
  have h := fcheck_any (T n) (T d) (hn.size h1 hD) (hd.size h1 hD) w hT
  rw [fchk_T hn hd h1 hD hl] at h
  exact h

set_option maxHeartbeats 3200000 in
set_option maxRecDepth 100000 in
theorem fchecked_add (X1 X2 X3 X4 : ByteArray) (A B : ByteArray) (c : Nat)
    (hc1 : ∀ w, Tab w → Calls Tryz.prog 18 #[FrV X1 X2] w fun e w' => e = .returned (.int .i64 0) ∧ Below w.heap.size w w')
    (hc2 : ∀ w, Tab w → Calls Tryz.prog 18 #[FrV X3 X4] w fun e w' => e = .returned (.int .i64 0) ∧ Below w.heap.size w w')
    (hk : ∀ w, Tab w → Calls Tryz.prog 65 #[FrV X1 X2, FrV X3 X4] w (FrE w A B c)) (w : World) (hT : Tab w) :
    Calls Tryz.prog 64 #[FrV X1 X2, FrV X3 X4, .func (.func 65) #[] #[]] w (FrE w A B c) := by
  have HC1 := Lib.hid hc1
  have HC2 := Lib.hid hc2
  have HK := Lib.hid hk
  have HT := Lib.hid hT
  unfold FrV at *
  unfold FrE FrV at *
  obtain ⟨W, hW, hA, hB, hR, hBl, hsz⟩ := box3T 24 w (.string X1) (.string X2) (.string X3) (.string X4) (.string ⟨#[]⟩) (.string ⟨#[]⟩)
  have x0 := hA.c0; have x1 := hA.c1; have y0 := hB.c0; have y1 := hB.c1
  have HA := Lib.hid hA
  have HB := Lib.hid hB
  have HR := Lib.hid hR
  have HBL := Lib.hid hBl
  have HW := Lib.hid hW
  rw [hW] at x0 x1 y0 y1
  clear hT hA hB hR hBl hsz hW hk hc1 hc2
  have ix0 : ∀ w : World, (Instr.index 66 (.agg #[.string X1, .string X2, .string X3, .string X4]) (.int .i64 0)).run Tryz.prog w = .ok (.agg #[.string X1, .string X2]) w := fun _ => by kernel_rfl
  have ix1 : ∀ w : World, (Instr.index 66 (.agg #[.string X1, .string X2, .string X3, .string X4]) (.int .i64 1)).run Tryz.prog w = .ok (.agg #[.string X3, .string X4]) w := fun _ => by kernel_rfl
  go_enter Tryz.func64, Tryz.ntmps64
  go_wp2
  rw [← HW.out]
  refine wp_loop_rounds 3 ?_
  rw [rounds_succ]
  go_wp2_with fail
  have hb0 : Below w.heap.size w (W.alloc (.cells #[.string X1, .string X2] 24)) := HBL.out.alloc HBL.out.size _
  refine (HC1.out _ (HT.out.keep hb0)).mono ?_
  rintro en w1 ⟨rfl, hb1⟩
  have hB1 : Below w.heap.size w w1 := hb0.trans (hb1.mono hb0.size)
  have hbW : Below W.heap.size W w1 := (below1 W _).trans (hb1.mono (below1 W _).size)
  have hA1 := Lib.hid (HA.out.keep hbW)
  have hE1 := Lib.hid (HB.out.keep hbW)
  have hR1 := Lib.hid (HR.out.keep hbW)
  clear hb0 hb1 hbW x0 x1 y0 y1
  go_wp2
  rw [rounds_succ]
  go_wp2_with fail
  have hb0 : Below w.heap.size w (w1.alloc (.cells #[.string X3, .string X4] 24)) := hB1.alloc hB1.size _
  refine (HC2.out _ (HT.out.keep hb0)).mono ?_
  rintro en w2 ⟨rfl, hb2⟩
  have hB2 : Below w.heap.size w w2 := hb0.trans (hb2.mono hb0.size)
  have hbW : Below w1.heap.size w1 w2 := (below1 w1 _).trans (hb2.mono (below1 w1 _).size)
  have hA2 := hA1.out.keep hbW
  have hE2 := hE1.out.keep hbW
  have hR2 := Lib.hid (hR1.out.keep hbW)
  have x0 := hA2.c0; have x1 := hA2.c1; have y0 := hE2.c0; have y1 := hE2.c1
  clear hb0 hb2 hbW hA1 hE1 hA2 hE2
  go_wp2
  rw [rounds_succ]
  go_wp2_with fail
  refine (HK.out _ (HT.out.keep hB2)).mono ?_
  rintro en w3 ⟨rfl, hb3⟩
  have hB3 : Below w.heap.size w w3 := hB2.trans (hb3.mono hB2.size)
  have hR3 := hR2.out.keep hb3
  clear x0 x1 y0 y1
  have x0 := hR3.c0; have x1 := hR3.c1; have x2 := hR3.f0 0; have x3 := hR3.f0 1
  go_wp2
  refine bodyPost_ret (v := .tuple #[.agg #[.string A, .string B], .int .i64 (c : Int)]) (by simp [results, Tryz.results64, go_sem, x0, x1]) rfl ⟨rfl, (hB3.setCell (by simp <;> omega) _).setCell (by simp <;> omega) _⟩

set_option maxHeartbeats 3200000 in
set_option maxRecDepth 100000 in
theorem fchecked_sub (X1 X2 X3 X4 : ByteArray) (A B : ByteArray) (c : Nat)
    (hc1 : ∀ w, Tab w → Calls Tryz.prog 18 #[FrV X1 X2] w fun e w' => e = .returned (.int .i64 0) ∧ Below w.heap.size w w')
    (hc2 : ∀ w, Tab w → Calls Tryz.prog 18 #[FrV X3 X4] w fun e w' => e = .returned (.int .i64 0) ∧ Below w.heap.size w w')
    (hk : ∀ w, Tab w → Calls Tryz.prog 71 #[FrV X1 X2, FrV X3 X4] w (FrE w A B c)) (w : World) (hT : Tab w) :
    Calls Tryz.prog 64 #[FrV X1 X2, FrV X3 X4, .func (.func 71) #[] #[]] w (FrE w A B c) := by
  have HC1 := Lib.hid hc1
  have HC2 := Lib.hid hc2
  have HK := Lib.hid hk
  have HT := Lib.hid hT
  unfold FrV at *
  unfold FrE FrV at *
  obtain ⟨W, hW, hA, hB, hR, hBl, hsz⟩ := box3T 24 w (.string X1) (.string X2) (.string X3) (.string X4) (.string ⟨#[]⟩) (.string ⟨#[]⟩)
  have x0 := hA.c0; have x1 := hA.c1; have y0 := hB.c0; have y1 := hB.c1
  have HA := Lib.hid hA
  have HB := Lib.hid hB
  have HR := Lib.hid hR
  have HBL := Lib.hid hBl
  have HW := Lib.hid hW
  rw [hW] at x0 x1 y0 y1
  clear hT hA hB hR hBl hsz hW hk hc1 hc2
  have ix0 : ∀ w : World, (Instr.index 66 (.agg #[.string X1, .string X2, .string X3, .string X4]) (.int .i64 0)).run Tryz.prog w = .ok (.agg #[.string X1, .string X2]) w := fun _ => by kernel_rfl
  have ix1 : ∀ w : World, (Instr.index 66 (.agg #[.string X1, .string X2, .string X3, .string X4]) (.int .i64 1)).run Tryz.prog w = .ok (.agg #[.string X3, .string X4]) w := fun _ => by kernel_rfl
  go_enter Tryz.func64, Tryz.ntmps64
  go_wp2
  rw [← HW.out]
  refine wp_loop_rounds 3 ?_
  rw [rounds_succ]
  go_wp2_with fail
  have hb0 : Below w.heap.size w (W.alloc (.cells #[.string X1, .string X2] 24)) := HBL.out.alloc HBL.out.size _
  refine (HC1.out _ (HT.out.keep hb0)).mono ?_
  rintro en w1 ⟨rfl, hb1⟩
  have hB1 : Below w.heap.size w w1 := hb0.trans (hb1.mono hb0.size)
  have hbW : Below W.heap.size W w1 := (below1 W _).trans (hb1.mono (below1 W _).size)
  have hA1 := Lib.hid (HA.out.keep hbW)
  have hE1 := Lib.hid (HB.out.keep hbW)
  have hR1 := Lib.hid (HR.out.keep hbW)
  clear hb0 hb1 hbW x0 x1 y0 y1
  go_wp2
  rw [rounds_succ]
  go_wp2_with fail
  have hb0 : Below w.heap.size w (w1.alloc (.cells #[.string X3, .string X4] 24)) := hB1.alloc hB1.size _
  refine (HC2.out _ (HT.out.keep hb0)).mono ?_
  rintro en w2 ⟨rfl, hb2⟩
  have hB2 : Below w.heap.size w w2 := hb0.trans (hb2.mono hb0.size)
  have hbW : Below w1.heap.size w1 w2 := (below1 w1 _).trans (hb2.mono (below1 w1 _).size)
  have hA2 := hA1.out.keep hbW
  have hE2 := hE1.out.keep hbW
  have hR2 := Lib.hid (hR1.out.keep hbW)
  have x0 := hA2.c0; have x1 := hA2.c1; have y0 := hE2.c0; have y1 := hE2.c1
  clear hb0 hb2 hbW hA1 hE1 hA2 hE2
  go_wp2
  rw [rounds_succ]
  go_wp2_with fail
  refine (HK.out _ (HT.out.keep hB2)).mono ?_
  rintro en w3 ⟨rfl, hb3⟩
  have hB3 : Below w.heap.size w w3 := hB2.trans (hb3.mono hB2.size)
  have hR3 := hR2.out.keep hb3
  clear x0 x1 y0 y1
  have x0 := hR3.c0; have x1 := hR3.c1; have x2 := hR3.f0 0; have x3 := hR3.f0 1
  go_wp2
  refine bodyPost_ret (v := .tuple #[.agg #[.string A, .string B], .int .i64 (c : Int)]) (by simp [results, Tryz.results64, go_sem, x0, x1]) rfl ⟨rfl, (hB3.setCell (by simp <;> omega) _).setCell (by simp <;> omega) _⟩

set_option maxHeartbeats 3200000 in
set_option maxRecDepth 100000 in
theorem fchecked_mul (X1 X2 X3 X4 : ByteArray) (A B : ByteArray) (c : Nat)
    (hc1 : ∀ w, Tab w → Calls Tryz.prog 18 #[FrV X1 X2] w fun e w' => e = .returned (.int .i64 0) ∧ Below w.heap.size w w')
    (hc2 : ∀ w, Tab w → Calls Tryz.prog 18 #[FrV X3 X4] w fun e w' => e = .returned (.int .i64 0) ∧ Below w.heap.size w w')
    (hk : ∀ w, Tab w → Calls Tryz.prog 76 #[FrV X1 X2, FrV X3 X4] w (FrE w A B c)) (w : World) (hT : Tab w) :
    Calls Tryz.prog 64 #[FrV X1 X2, FrV X3 X4, .func (.func 76) #[] #[]] w (FrE w A B c) := by
  have HC1 := Lib.hid hc1
  have HC2 := Lib.hid hc2
  have HK := Lib.hid hk
  have HT := Lib.hid hT
  unfold FrV at *
  unfold FrE FrV at *
  obtain ⟨W, hW, hA, hB, hR, hBl, hsz⟩ := box3T 24 w (.string X1) (.string X2) (.string X3) (.string X4) (.string ⟨#[]⟩) (.string ⟨#[]⟩)
  have x0 := hA.c0; have x1 := hA.c1; have y0 := hB.c0; have y1 := hB.c1
  have HA := Lib.hid hA
  have HB := Lib.hid hB
  have HR := Lib.hid hR
  have HBL := Lib.hid hBl
  have HW := Lib.hid hW
  rw [hW] at x0 x1 y0 y1
  clear hT hA hB hR hBl hsz hW hk hc1 hc2
  have ix0 : ∀ w : World, (Instr.index 66 (.agg #[.string X1, .string X2, .string X3, .string X4]) (.int .i64 0)).run Tryz.prog w = .ok (.agg #[.string X1, .string X2]) w := fun _ => by kernel_rfl
  have ix1 : ∀ w : World, (Instr.index 66 (.agg #[.string X1, .string X2, .string X3, .string X4]) (.int .i64 1)).run Tryz.prog w = .ok (.agg #[.string X3, .string X4]) w := fun _ => by kernel_rfl
  go_enter Tryz.func64, Tryz.ntmps64
  go_wp2
  rw [← HW.out]
  refine wp_loop_rounds 3 ?_
  rw [rounds_succ]
  go_wp2_with fail
  have hb0 : Below w.heap.size w (W.alloc (.cells #[.string X1, .string X2] 24)) := HBL.out.alloc HBL.out.size _
  refine (HC1.out _ (HT.out.keep hb0)).mono ?_
  rintro en w1 ⟨rfl, hb1⟩
  have hB1 : Below w.heap.size w w1 := hb0.trans (hb1.mono hb0.size)
  have hbW : Below W.heap.size W w1 := (below1 W _).trans (hb1.mono (below1 W _).size)
  have hA1 := Lib.hid (HA.out.keep hbW)
  have hE1 := Lib.hid (HB.out.keep hbW)
  have hR1 := Lib.hid (HR.out.keep hbW)
  clear hb0 hb1 hbW x0 x1 y0 y1
  go_wp2
  rw [rounds_succ]
  go_wp2_with fail
  have hb0 : Below w.heap.size w (w1.alloc (.cells #[.string X3, .string X4] 24)) := hB1.alloc hB1.size _
  refine (HC2.out _ (HT.out.keep hb0)).mono ?_
  rintro en w2 ⟨rfl, hb2⟩
  have hB2 : Below w.heap.size w w2 := hb0.trans (hb2.mono hb0.size)
  have hbW : Below w1.heap.size w1 w2 := (below1 w1 _).trans (hb2.mono (below1 w1 _).size)
  have hA2 := hA1.out.keep hbW
  have hE2 := hE1.out.keep hbW
  have hR2 := Lib.hid (hR1.out.keep hbW)
  have x0 := hA2.c0; have x1 := hA2.c1; have y0 := hE2.c0; have y1 := hE2.c1
  clear hb0 hb2 hbW hA1 hE1 hA2 hE2
  go_wp2
  rw [rounds_succ]
  go_wp2_with fail
  refine (HK.out _ (HT.out.keep hB2)).mono ?_
  rintro en w3 ⟨rfl, hb3⟩
  have hB3 : Below w.heap.size w w3 := hB2.trans (hb3.mono hB2.size)
  have hR3 := hR2.out.keep hb3
  clear x0 x1 y0 y1
  have x0 := hR3.c0; have x1 := hR3.c1; have x2 := hR3.f0 0; have x3 := hR3.f0 1
  go_wp2
  refine bodyPost_ret (v := .tuple #[.agg #[.string A, .string B], .int .i64 (c : Int)]) (by simp [results, Tryz.results64, go_sem, x0, x1]) rfl ⟨rfl, (hB3.setCell (by simp <;> omega) _).setCell (by simp <;> omega) _⟩

set_option maxHeartbeats 3200000 in
set_option maxRecDepth 100000 in
theorem fchecked_div (X1 X2 X3 X4 : ByteArray) (A B : ByteArray) (c : Nat)
    (hc1 : ∀ w, Tab w → Calls Tryz.prog 18 #[FrV X1 X2] w fun e w' => e = .returned (.int .i64 0) ∧ Below w.heap.size w w')
    (hc2 : ∀ w, Tab w → Calls Tryz.prog 18 #[FrV X3 X4] w fun e w' => e = .returned (.int .i64 0) ∧ Below w.heap.size w w')
    (hk : ∀ w, Tab w → Calls Tryz.prog 80 #[FrV X1 X2, FrV X3 X4] w (FrE w A B c)) (w : World) (hT : Tab w) :
    Calls Tryz.prog 64 #[FrV X1 X2, FrV X3 X4, .func (.func 80) #[] #[]] w (FrE w A B c) := by
  have HC1 := Lib.hid hc1
  have HC2 := Lib.hid hc2
  have HK := Lib.hid hk
  have HT := Lib.hid hT
  unfold FrV at *
  unfold FrE FrV at *
  obtain ⟨W, hW, hA, hB, hR, hBl, hsz⟩ := box3T 24 w (.string X1) (.string X2) (.string X3) (.string X4) (.string ⟨#[]⟩) (.string ⟨#[]⟩)
  have x0 := hA.c0; have x1 := hA.c1; have y0 := hB.c0; have y1 := hB.c1
  have HA := Lib.hid hA
  have HB := Lib.hid hB
  have HR := Lib.hid hR
  have HBL := Lib.hid hBl
  have HW := Lib.hid hW
  rw [hW] at x0 x1 y0 y1
  clear hT hA hB hR hBl hsz hW hk hc1 hc2
  have ix0 : ∀ w : World, (Instr.index 66 (.agg #[.string X1, .string X2, .string X3, .string X4]) (.int .i64 0)).run Tryz.prog w = .ok (.agg #[.string X1, .string X2]) w := fun _ => by kernel_rfl
  have ix1 : ∀ w : World, (Instr.index 66 (.agg #[.string X1, .string X2, .string X3, .string X4]) (.int .i64 1)).run Tryz.prog w = .ok (.agg #[.string X3, .string X4]) w := fun _ => by kernel_rfl
  go_enter Tryz.func64, Tryz.ntmps64
  go_wp2
  rw [← HW.out]
  refine wp_loop_rounds 3 ?_
  rw [rounds_succ]
  go_wp2_with fail
  have hb0 : Below w.heap.size w (W.alloc (.cells #[.string X1, .string X2] 24)) := HBL.out.alloc HBL.out.size _
  refine (HC1.out _ (HT.out.keep hb0)).mono ?_
  rintro en w1 ⟨rfl, hb1⟩
  have hB1 : Below w.heap.size w w1 := hb0.trans (hb1.mono hb0.size)
  have hbW : Below W.heap.size W w1 := (below1 W _).trans (hb1.mono (below1 W _).size)
  have hA1 := Lib.hid (HA.out.keep hbW)
  have hE1 := Lib.hid (HB.out.keep hbW)
  have hR1 := Lib.hid (HR.out.keep hbW)
  clear hb0 hb1 hbW x0 x1 y0 y1
  go_wp2
  rw [rounds_succ]
  go_wp2_with fail
  have hb0 : Below w.heap.size w (w1.alloc (.cells #[.string X3, .string X4] 24)) := hB1.alloc hB1.size _
  refine (HC2.out _ (HT.out.keep hb0)).mono ?_
  rintro en w2 ⟨rfl, hb2⟩
  have hB2 : Below w.heap.size w w2 := hb0.trans (hb2.mono hb0.size)
  have hbW : Below w1.heap.size w1 w2 := (below1 w1 _).trans (hb2.mono (below1 w1 _).size)
  have hA2 := hA1.out.keep hbW
  have hE2 := hE1.out.keep hbW
  have hR2 := Lib.hid (hR1.out.keep hbW)
  have x0 := hA2.c0; have x1 := hA2.c1; have y0 := hE2.c0; have y1 := hE2.c1
  clear hb0 hb2 hbW hA1 hE1 hA2 hE2
  go_wp2
  rw [rounds_succ]
  go_wp2_with fail
  refine (HK.out _ (HT.out.keep hB2)).mono ?_
  rintro en w3 ⟨rfl, hb3⟩
  have hB3 : Below w.heap.size w w3 := hB2.trans (hb3.mono hB2.size)
  have hR3 := hR2.out.keep hb3
  clear x0 x1 y0 y1
  have x0 := hR3.c0; have x1 := hR3.c1; have x2 := hR3.f0 0; have x3 := hR3.f0 1
  go_wp2
  refine bodyPost_ret (v := .tuple #[.agg #[.string A, .string B], .int .i64 (c : Int)]) (by simp [results, Tryz.results64, go_sem, x0, x1]) rfl ⟨rfl, (hB3.setCell (by simp <;> omega) _).setCell (by simp <;> omega) _⟩

set_option maxHeartbeats 3200000 in
set_option maxRecDepth 100000 in
theorem fcheckedI (X1 X2 X3 X4 : ByteArray) (z : Int) (c : Nat)
    (hc1 : ∀ w, Tab w → Calls Tryz.prog 18 #[FrV X1 X2] w fun e w' => e = .returned (.int .i64 0) ∧ Below w.heap.size w w')
    (hc2 : ∀ w, Tab w → Calls Tryz.prog 18 #[FrV X3 X4] w fun e w' => e = .returned (.int .i64 0) ∧ Below w.heap.size w w')
    (hk : ∀ w, Tab w → Calls Tryz.prog 83 #[FrV X1 X2, FrV X3 X4] w (IntOut w z c)) (w : World) (hT : Tab w) :
    Calls Tryz.prog 82 #[FrV X1 X2, FrV X3 X4, .func (.func 83) #[] #[]] w (IntOut w z c) := by
  have HC1 := Lib.hid hc1
  have HC2 := Lib.hid hc2
  have HK := Lib.hid hk
  have HT := Lib.hid hT
  unfold FrV at *
  unfold IntOut at *
  obtain ⟨W, hW, hA, hB, hBl, hsz⟩ := box2T 24 w (.string X1) (.string X2) (.string X3) (.string X4)
  have x0 := hA.c0; have x1 := hA.c1; have y0 := hB.c0; have y1 := hB.c1
  have HA := Lib.hid hA
  have HB := Lib.hid hB
  have HBL := Lib.hid hBl
  have HW := Lib.hid hW
  rw [hW] at x0 x1 y0 y1
  clear hT hA hB hBl hsz hW hk hc1 hc2
  have ix0 : ∀ w : World, (Instr.index 66 (.agg #[.string X1, .string X2, .string X3, .string X4]) (.int .i64 0)).run Tryz.prog w = .ok (.agg #[.string X1, .string X2]) w := fun _ => by kernel_rfl
  have ix1 : ∀ w : World, (Instr.index 66 (.agg #[.string X1, .string X2, .string X3, .string X4]) (.int .i64 1)).run Tryz.prog w = .ok (.agg #[.string X3, .string X4]) w := fun _ => by kernel_rfl
  go_enter Tryz.func82, Tryz.ntmps82
  go_wp2
  rw [← HW.out]
  refine wp_loop_rounds 3 ?_
  rw [rounds_succ]
  go_wp2_with fail
  have hb0 : Below w.heap.size w (W.alloc (.cells #[.string X1, .string X2] 24)) := HBL.out.alloc HBL.out.size _
  refine (HC1.out _ (HT.out.keep hb0)).mono ?_
  rintro en w1 ⟨rfl, hb1⟩
  have hB1 : Below w.heap.size w w1 := hb0.trans (hb1.mono hb0.size)
  have hbW : Below W.heap.size W w1 := (below1 W _).trans (hb1.mono (below1 W _).size)
  have hA1 := Lib.hid (HA.out.keep hbW)
  have hE1 := Lib.hid (HB.out.keep hbW)
  clear hb0 hb1 hbW x0 x1 y0 y1
  go_wp2
  rw [rounds_succ]
  go_wp2_with fail
  have hb0 : Below w.heap.size w (w1.alloc (.cells #[.string X3, .string X4] 24)) := hB1.alloc hB1.size _
  refine (HC2.out _ (HT.out.keep hb0)).mono ?_
  rintro en w2 ⟨rfl, hb2⟩
  have hB2 : Below w.heap.size w w2 := hb0.trans (hb2.mono hb0.size)
  have hbW : Below w1.heap.size w1 w2 := (below1 w1 _).trans (hb2.mono (below1 w1 _).size)
  have hA2 := hA1.out.keep hbW
  have hE2 := hE1.out.keep hbW
  have x0 := hA2.c0; have x1 := hA2.c1; have y0 := hE2.c0; have y1 := hE2.c1
  clear hb0 hb2 hbW hA1 hE1 hA2 hE2
  go_wp2
  rw [rounds_succ]
  go_wp2_with fail
  refine (HK.out _ (HT.out.keep hB2)).mono ?_
  rintro en w3 ⟨rfl, hb3⟩
  have hB3 : Below w.heap.size w w3 := hB2.trans (hb3.mono hB2.size)
  go_wp2
  go_ret2
  exact ⟨rfl, hB3⟩

set_option maxHeartbeats 1600000 in
set_option maxRecDepth 100000 in
theorem fadd_in (X1 X2 X3 X4 A B : ByteArray) (c : Nat) (hk : ∀ w, Tab w → Calls Tryz.prog 72 #[FrV X1 X2, FrV X3 X4, .func (.func 109) #[] #[]] w (FrE w A B c)) (w : World) (hT : Tab w) :
    Calls Tryz.prog 65 #[FrV X1 X2, FrV X3 X4] w (FrE w A B c) := by
  have HK := Lib.hid hk
  have HT := Lib.hid hT
  unfold FrE FrV at *
  obtain ⟨W, hW, hA, hB, hR, hBl, hsz⟩ := box3T 24 w (.string X1) (.string X2) (.string X3) (.string X4) (.string ⟨#[]⟩) (.string ⟨#[]⟩)
  have x0 := hA.c0; have x1 := hA.c1; have y0 := hB.c0; have y1 := hB.c1
  have HR := Lib.hid hR
  have HBL := Lib.hid hBl
  have HW := Lib.hid hW
  rw [hW] at x0 x1 y0 y1
  clear hT hA hB hR hBl hsz hW hk
  go_enter Tryz.func65, Tryz.ntmps65
  go_wp2_with fail
  rw [← HW.out]
  refine (HK.out _ (HT.out.keep HBL.out)).mono ?_
  rintro en w1 ⟨rfl, hb1⟩
  have hB1 : Below w.heap.size w w1 := HBL.out.trans (hb1.mono HBL.out.size)
  have hR1 := HR.out.keep hb1
  clear x0 x1 y0 y1
  have x0 := hR1.c0; have x1 := hR1.c1; have x2 := hR1.f0 0; have x3 := hR1.f0 1
  go_wp2
  refine bodyPost_ret (v := .tuple #[.agg #[.string A, .string B], .int .i64 (c : Int)]) (by simp [results, Tryz.results65, go_sem, x0, x1]) rfl ⟨rfl, (hB1.setCell (by simp <;> omega) _).setCell (by simp <;> omega) _⟩

set_option maxHeartbeats 1600000 in
set_option maxRecDepth 100000 in
theorem fsub_in (X1 X2 X3 X4 A B : ByteArray) (c : Nat) (hk : ∀ w, Tab w → Calls Tryz.prog 72 #[FrV X1 X2, FrV X3 X4, .func (.func 73) #[] #[]] w (FrE w A B c)) (w : World) (hT : Tab w) :
    Calls Tryz.prog 71 #[FrV X1 X2, FrV X3 X4] w (FrE w A B c) := by
  have HK := Lib.hid hk
  have HT := Lib.hid hT
  unfold FrE FrV at *
  obtain ⟨W, hW, hA, hB, hR, hBl, hsz⟩ := box3T 24 w (.string X1) (.string X2) (.string X3) (.string X4) (.string ⟨#[]⟩) (.string ⟨#[]⟩)
  have x0 := hA.c0; have x1 := hA.c1; have y0 := hB.c0; have y1 := hB.c1
  have HR := Lib.hid hR
  have HBL := Lib.hid hBl
  have HW := Lib.hid hW
  rw [hW] at x0 x1 y0 y1
  clear hT hA hB hR hBl hsz hW hk
  go_enter Tryz.func71, Tryz.ntmps71
  go_wp2_with fail
  rw [← HW.out]
  refine (HK.out _ (HT.out.keep HBL.out)).mono ?_
  rintro en w1 ⟨rfl, hb1⟩
  have hB1 : Below w.heap.size w w1 := HBL.out.trans (hb1.mono HBL.out.size)
  have hR1 := HR.out.keep hb1
  clear x0 x1 y0 y1
  have x0 := hR1.c0; have x1 := hR1.c1; have x2 := hR1.f0 0; have x3 := hR1.f0 1
  go_wp2
  refine bodyPost_ret (v := .tuple #[.agg #[.string A, .string B], .int .i64 (c : Int)]) (by simp [results, Tryz.results71, go_sem, x0, x1]) rfl ⟨rfl, (hB1.setCell (by simp <;> omega) _).setCell (by simp <;> omega) _⟩

set_option maxHeartbeats 1600000 in
set_option maxRecDepth 100000 in
theorem fAdd (X1 X2 X3 X4 A B : ByteArray) (c : Nat) (hk : ∀ w, Tab w → Calls Tryz.prog 64 #[FrV X1 X2, FrV X3 X4, .func (.func 65) #[] #[]] w (FrE w A B c)) (w : World) (hT : Tab w) :
    Calls Tryz.prog 27 #[FrV X1 X2, FrV X3 X4] w (FrE w A B c) := by
  have HK := Lib.hid hk
  have HT := Lib.hid hT
  unfold FrE FrV at *
  obtain ⟨W, hW, hA, hB, hR, hBl, hsz⟩ := box3T 24 w (.string X1) (.string X2) (.string X3) (.string X4) (.string ⟨#[]⟩) (.string ⟨#[]⟩)
  have x0 := hA.c0; have x1 := hA.c1; have y0 := hB.c0; have y1 := hB.c1
  have HR := Lib.hid hR
  have HBL := Lib.hid hBl
  have HW := Lib.hid hW
  rw [hW] at x0 x1 y0 y1
  clear hT hA hB hR hBl hsz hW hk
  go_enter Tryz.func27, Tryz.ntmps27
  go_wp2_with fail
  rw [← HW.out]
  refine (HK.out _ (HT.out.keep HBL.out)).mono ?_
  rintro en w1 ⟨rfl, hb1⟩
  have hB1 : Below w.heap.size w w1 := HBL.out.trans (hb1.mono HBL.out.size)
  have hR1 := HR.out.keep hb1
  clear x0 x1 y0 y1
  have x0 := hR1.c0; have x1 := hR1.c1; have x2 := hR1.f0 0; have x3 := hR1.f0 1
  go_wp2
  refine bodyPost_ret (v := .tuple #[.agg #[.string A, .string B], .int .i64 (c : Int)]) (by simp [results, Tryz.results27, go_sem, x0, x1]) rfl ⟨rfl, (hB1.setCell (by simp <;> omega) _).setCell (by simp <;> omega) _⟩

set_option maxHeartbeats 1600000 in
set_option maxRecDepth 100000 in
theorem fSub (X1 X2 X3 X4 A B : ByteArray) (c : Nat) (hk : ∀ w, Tab w → Calls Tryz.prog 64 #[FrV X1 X2, FrV X3 X4, .func (.func 71) #[] #[]] w (FrE w A B c)) (w : World) (hT : Tab w) :
    Calls Tryz.prog 29 #[FrV X1 X2, FrV X3 X4] w (FrE w A B c) := by
  have HK := Lib.hid hk
  have HT := Lib.hid hT
  unfold FrE FrV at *
  obtain ⟨W, hW, hA, hB, hR, hBl, hsz⟩ := box3T 24 w (.string X1) (.string X2) (.string X3) (.string X4) (.string ⟨#[]⟩) (.string ⟨#[]⟩)
  have x0 := hA.c0; have x1 := hA.c1; have y0 := hB.c0; have y1 := hB.c1
  have HR := Lib.hid hR
  have HBL := Lib.hid hBl
  have HW := Lib.hid hW
  rw [hW] at x0 x1 y0 y1
  clear hT hA hB hR hBl hsz hW hk
  go_enter Tryz.func29, Tryz.ntmps29
  go_wp2_with fail
  rw [← HW.out]
  refine (HK.out _ (HT.out.keep HBL.out)).mono ?_
  rintro en w1 ⟨rfl, hb1⟩
  have hB1 : Below w.heap.size w w1 := HBL.out.trans (hb1.mono HBL.out.size)
  have hR1 := HR.out.keep hb1
  clear x0 x1 y0 y1
  have x0 := hR1.c0; have x1 := hR1.c1; have x2 := hR1.f0 0; have x3 := hR1.f0 1
  go_wp2
  refine bodyPost_ret (v := .tuple #[.agg #[.string A, .string B], .int .i64 (c : Int)]) (by simp [results, Tryz.results29, go_sem, x0, x1]) rfl ⟨rfl, (hB1.setCell (by simp <;> omega) _).setCell (by simp <;> omega) _⟩

set_option maxHeartbeats 1600000 in
set_option maxRecDepth 100000 in
theorem fMul (X1 X2 X3 X4 A B : ByteArray) (c : Nat) (hk : ∀ w, Tab w → Calls Tryz.prog 64 #[FrV X1 X2, FrV X3 X4, .func (.func 76) #[] #[]] w (FrE w A B c)) (w : World) (hT : Tab w) :
    Calls Tryz.prog 31 #[FrV X1 X2, FrV X3 X4] w (FrE w A B c) := by
  have HK := Lib.hid hk
  have HT := Lib.hid hT
  unfold FrE FrV at *
  obtain ⟨W, hW, hA, hB, hR, hBl, hsz⟩ := box3T 24 w (.string X1) (.string X2) (.string X3) (.string X4) (.string ⟨#[]⟩) (.string ⟨#[]⟩)
  have x0 := hA.c0; have x1 := hA.c1; have y0 := hB.c0; have y1 := hB.c1
  have HR := Lib.hid hR
  have HBL := Lib.hid hBl
  have HW := Lib.hid hW
  rw [hW] at x0 x1 y0 y1
  clear hT hA hB hR hBl hsz hW hk
  go_enter Tryz.func31, Tryz.ntmps31
  go_wp2_with fail
  rw [← HW.out]
  refine (HK.out _ (HT.out.keep HBL.out)).mono ?_
  rintro en w1 ⟨rfl, hb1⟩
  have hB1 : Below w.heap.size w w1 := HBL.out.trans (hb1.mono HBL.out.size)
  have hR1 := HR.out.keep hb1
  clear x0 x1 y0 y1
  have x0 := hR1.c0; have x1 := hR1.c1; have x2 := hR1.f0 0; have x3 := hR1.f0 1
  go_wp2
  refine bodyPost_ret (v := .tuple #[.agg #[.string A, .string B], .int .i64 (c : Int)]) (by simp [results, Tryz.results31, go_sem, x0, x1]) rfl ⟨rfl, (hB1.setCell (by simp <;> omega) _).setCell (by simp <;> omega) _⟩

set_option maxHeartbeats 1600000 in
set_option maxRecDepth 100000 in
theorem fDiv (X1 X2 X3 X4 A B : ByteArray) (c : Nat) (hk : ∀ w, Tab w → Calls Tryz.prog 64 #[FrV X1 X2, FrV X3 X4, .func (.func 80) #[] #[]] w (FrE w A B c)) (w : World) (hT : Tab w) :
    Calls Tryz.prog 33 #[FrV X1 X2, FrV X3 X4] w (FrE w A B c) := by
  have HK := Lib.hid hk
  have HT := Lib.hid hT
  unfold FrE FrV at *
  obtain ⟨W, hW, hA, hB, hR, hBl, hsz⟩ := box3T 24 w (.string X1) (.string X2) (.string X3) (.string X4) (.string ⟨#[]⟩) (.string ⟨#[]⟩)
  have x0 := hA.c0; have x1 := hA.c1; have y0 := hB.c0; have y1 := hB.c1
  have HR := Lib.hid hR
  have HBL := Lib.hid hBl
  have HW := Lib.hid hW
  rw [hW] at x0 x1 y0 y1
  clear hT hA hB hR hBl hsz hW hk
  go_enter Tryz.func33, Tryz.ntmps33
  go_wp2_with fail
  rw [← HW.out]
  refine (HK.out _ (HT.out.keep HBL.out)).mono ?_
  rintro en w1 ⟨rfl, hb1⟩
  have hB1 : Below w.heap.size w w1 := HBL.out.trans (hb1.mono HBL.out.size)
  have hR1 := HR.out.keep hb1
  clear x0 x1 y0 y1
  have x0 := hR1.c0; have x1 := hR1.c1; have x2 := hR1.f0 0; have x3 := hR1.f0 1
  go_wp2
  refine bodyPost_ret (v := .tuple #[.agg #[.string A, .string B], .int .i64 (c : Int)]) (by simp [results, Tryz.results33, go_sem, x0, x1]) rfl ⟨rfl, (hB1.setCell (by simp <;> omega) _).setCell (by simp <;> omega) _⟩

set_option maxHeartbeats 1600000 in
set_option maxRecDepth 100000 in
theorem fmul_in (X1 X2 X3 X4 A B : ByteArray) (c : Nat) (hk : ∀ w, Tab w → Calls Tryz.prog 77 #[FrV X1 X2, .string X3, .string X4] w (FrE w A B c)) (w : World) (hT : Tab w) :
    Calls Tryz.prog 76 #[FrV X1 X2, FrV X3 X4] w (FrE w A B c) := by
  have HK := Lib.hid hk
  have HT := Lib.hid hT
  unfold FrE FrV at *
  obtain ⟨W, hW, hA, hB, hR, hBl, hsz⟩ := box3T 24 w (.string X1) (.string X2) (.string X3) (.string X4) (.string ⟨#[]⟩) (.string ⟨#[]⟩)
  have x0 := hA.c0; have x1 := hA.c1; have y0 := hB.c0; have y1 := hB.c1
  have HR := Lib.hid hR
  have HBL := Lib.hid hBl
  have HW := Lib.hid hW
  rw [hW] at x0 x1 y0 y1
  clear hT hA hB hR hBl hsz hW hk
  go_enter Tryz.func76, Tryz.ntmps76
  go_wp2_with fail
  rw [← HW.out]
  refine (HK.out _ (HT.out.keep HBL.out)).mono ?_
  rintro en w1 ⟨rfl, hb1⟩
  have hB1 : Below w.heap.size w w1 := HBL.out.trans (hb1.mono HBL.out.size)
  have hR1 := HR.out.keep hb1
  clear x0 x1 y0 y1
  have x0 := hR1.c0; have x1 := hR1.c1; have x2 := hR1.f0 0; have x3 := hR1.f0 1
  go_wp2
  refine bodyPost_ret (v := .tuple #[.agg #[.string A, .string B], .int .i64 (c : Int)]) (by simp [results, Tryz.results76, go_sem, x0, x1]) rfl ⟨rfl, (hB1.setCell (by simp <;> omega) _).setCell (by simp <;> omega) _⟩
end Go.Proofs.YtolkiimlchfmlaaGreatDoor

namespace Go.Proofs.YtolkiimlchfmlaaGreatDoor
open Go.RowKit Go.Proofs.Num

set_option maxHeartbeats 1600000 in
set_option maxRecDepth 100000 in
theorem fdiv_in (X1 X2 X3 X4 A B : ByteArray) (c : Nat) (hne : (X3.toList == [48]) = false) (hk : ∀ w, Tab w → Calls Tryz.prog 77 #[FrV X1 X2, .string X4, .string X3] w (FrE w A B c)) (w : World) (hT : Tab w) :
    Calls Tryz.prog 80 #[FrV X1 X2, FrV X3 X4] w (FrE w A B c) := by
  have HK := Lib.hid hk
  have HT := Lib.hid hT
  unfold FrE FrV at *
  obtain ⟨W, hW, hA, hB, hR, hBl, hsz⟩ := box3T 24 w (.string X1) (.string X2) (.string X3) (.string X4) (.string ⟨#[]⟩) (.string ⟨#[]⟩)
  have x0 := hA.c0; have x1 := hA.c1; have y0 := hB.c0; have y1 := hB.c1
  have HR := Lib.hid hR
  have HBL := Lib.hid hBl
  have HW := Lib.hid hW
  rw [hW] at x0 x1 y0 y1
  clear hT hA hB hR hBl hsz hW hk
  go_enter Tryz.func80, Tryz.ntmps80
  go_wp2_with fail
  rw [← HW.out]
  refine (HK.out _ (HT.out.keep HBL.out)).mono ?_
  rintro en w1 ⟨rfl, hb1⟩
  have hB1 : Below w.heap.size w w1 := HBL.out.trans (hb1.mono HBL.out.size)
  have hR1 := HR.out.keep hb1
  clear x0 x1 y0 y1
  have x0 := hR1.c0; have x1 := hR1.c1; have x2 := hR1.f0 0; have x3 := hR1.f0 1
  go_wp2
  refine bodyPost_ret (v := .tuple #[.agg #[.string A, .string B], .int .i64 (c : Int)]) (by simp [results, Tryz.results80, go_sem, x0, x1]) rfl ⟨rfl, (hB1.setCell (by simp <;> omega) _).setCell (by simp <;> omega) _⟩

set_option maxHeartbeats 1600000 in
set_option maxRecDepth 100000 in
theorem fdiv_zero (X1 X2 X3 X4 : ByteArray) (hne : (X3.toList == [48]) = true) (w : World) :
    Calls Tryz.prog 80 #[FrV X1 X2, FrV X3 X4] w (FrE w ⟨#[]⟩ ⟨#[]⟩ 10) := by
  unfold FrE FrV at *
  obtain ⟨W, hW, hA, hB, hR, hBl, hsz⟩ := box3T 24 w (.string X1) (.string X2) (.string X3) (.string X4) (.string ⟨#[]⟩) (.string ⟨#[]⟩)
  have x0 := hA.c0; have x1 := hA.c1; have y0 := hB.c0; have y1 := hB.c1
  have z0 := hR.c0; have z1 := hR.c1; have z2 := hR.f0 0; have z3 := hR.f0 1
  have HBL := Lib.hid hBl
  have HW := Lib.hid hW
  clear hA hB hR hBl hsz
  rw [hW] at x0 x1 y0 y1 z0 z1 z2 z3
  clear hW
  go_enter Tryz.func80, Tryz.ntmps80
  go_wp2
  rw [HW.out] at HBL
  refine bodyPost_ret (v := .tuple #[.agg #[.string ⟨#[]⟩, .string ⟨#[]⟩], .int .i64 10]) (by simp [results, Tryz.results80, go_sem]) rfl ⟨rfl, HBL.out⟩

set_option maxHeartbeats 1600000 in
set_option maxRecDepth 100000 in
theorem fcmp_in (X1 X2 X3 X4 P Q : ByteArray) (z : Int) (_k c : Nat) (hc : ∀ w, Tab w → Calls Tryz.prog 84 #[FrV X1 X2, FrV X3 X4] w (Two2E w P Q 0))
    (hk : ∀ w, Tab w → Calls Tryz.prog 85 #[.string P, .string Q] w (IntOut w z c)) (w : World) (hT : Tab w) :
    Calls Tryz.prog 83 #[FrV X1 X2, FrV X3 X4] w (IntOut w z c) := by
  have HC := Lib.hid hc
  have HK := Lib.hid hk
  have HT := Lib.hid hT
  unfold Two2E at HC
  unfold IntOut at *
  unfold FrV at *
  obtain ⟨W, hW, hA, hB, hBl, hsz⟩ := box2T 24 w (.string X1) (.string X2) (.string X3) (.string X4)
  have x0 := hA.c0; have x1 := hA.c1; have y0 := hB.c0; have y1 := hB.c1
  have HBL := Lib.hid hBl
  have HW := Lib.hid hW
  rw [hW] at x0 x1 y0 y1
  clear hT hA hB hBl hsz hW hk hc
  go_enter Tryz.func83, Tryz.ntmps83
  go_wp2_with fail
  rw [← HW.out]
  refine (HC.out _ (HT.out.keep HBL.out)).mono ?_
  rintro en w1 ⟨rfl, hb1⟩
  have hB1 : Below w.heap.size w w1 := HBL.out.trans (hb1.mono HBL.out.size)
  clear x0 x1 y0 y1
  go_wp2_with fail
  refine (HK.out _ (HT.out.keep hB1)).mono ?_
  rintro en w2 ⟨rfl, hb2⟩
  go_wp2
  go_ret2
  exact ⟨rfl, hB1.trans (hb2.mono hB1.size)⟩

set_option maxHeartbeats 1600000 in
set_option maxRecDepth 100000 in
theorem fcmp_bad (X1 X2 X3 X4 P Q : ByteArray) (k : Nat) (h0 : k ≠ 0) (hc : ∀ w, Tab w → Calls Tryz.prog 84 #[FrV X1 X2, FrV X3 X4] w (Two2E w P Q k)) (w : World) (hT : Tab w) :
    Calls Tryz.prog 83 #[FrV X1 X2, FrV X3 X4] w (IntOut w 0 k) := by
  have HC := Lib.hid hc
  have HT := Lib.hid hT
  unfold Two2E at HC
  unfold IntOut at *
  unfold FrV at *
  obtain ⟨W, hW, hA, hB, hBl, hsz⟩ := box2T 24 w (.string X1) (.string X2) (.string X3) (.string X4)
  have x0 := hA.c0; have x1 := hA.c1; have y0 := hB.c0; have y1 := hB.c1
  have HBL := Lib.hid hBl
  have HW := Lib.hid hW
  rw [hW] at x0 x1 y0 y1
  have hk1 : ¬ ((k : Nat) : Int) = 0 := by omega
  have hk2 : ((k : Int) == 0) = false := beq_eq_false_iff_ne.2 hk1
  clear hT hA hB hBl hsz hW hc h0
  go_enter Tryz.func83, Tryz.ntmps83
  go_wp2_with fail
  rw [← HW.out]
  refine (HC.out _ (HT.out.keep HBL.out)).mono ?_
  rintro en w1 ⟨rfl, hb1⟩
  go_wp2
  go_ret2
  exact ⟨rfl, HBL.out.trans (hb1.mono HBL.out.size)⟩

set_option maxHeartbeats 1600000 in
set_option maxRecDepth 100000 in
theorem fCompare (X1 X2 X3 X4 : ByteArray) (z : Int) (c : Nat) (hk : ∀ w, Tab w → Calls Tryz.prog 82 #[FrV X1 X2, FrV X3 X4, .func (.func 83) #[] #[]] w (IntOut w z c)) (w : World) (hT : Tab w) :
    Calls Tryz.prog 35 #[FrV X1 X2, FrV X3 X4] w (IntOut w z c) := by
  have HK := Lib.hid hk
  have HT := Lib.hid hT
  unfold IntOut FrV at *
  obtain ⟨W, hW, hA, hB, hBl, hsz⟩ := box2T 24 w (.string X1) (.string X2) (.string X3) (.string X4)
  have x0 := hA.c0; have x1 := hA.c1; have y0 := hB.c0; have y1 := hB.c1
  have HBL := Lib.hid hBl
  have HW := Lib.hid hW
  rw [hW] at x0 x1 y0 y1
  clear hT hA hB hBl hsz hW hk
  go_enter Tryz.func35, Tryz.ntmps35
  go_wp2_with fail
  rw [← HW.out]
  refine (HK.out _ (HT.out.keep HBL.out)).mono ?_
  rintro en w1 ⟨rfl, hb1⟩
  go_wp2
  go_ret2
  exact ⟨rfl, HBL.out.trans (hb1.mono HBL.out.size)⟩

set_option maxHeartbeats 1600000 in
set_option maxRecDepth 100000 in
theorem fNeg {D : Nat} (n d : Int) (hn : Few D n) (hd : Few D d) (h1 : 1 ≤ D) (hD : D ≤ 1024) (hl : Low n d) (w : World) (hT : Tab w) :
    Calls Tryz.prog 12 #[FrV (T n) (T d)] w (FrE w (T (-n)) (T d) 0) := by
  have HC := Lib.hid (fun w (hT : Tab w) => fcheck_T n d hn hd h1 hD hl w hT)
  have HN := Lib.hid (fun w (hT : Tab w) => negT n w hn h1 hD hT)
  have HT := Lib.hid hT
  unfold FrE FrV at *
  generalize T (-n) = Y at *
  generalize T n = X1 at *
  generalize T d = X2 at *
  obtain ⟨W, hW, hA, hR, hBl, hsz⟩ := box2T 24 w (.string X1) (.string X2) (.string ⟨#[]⟩) (.string ⟨#[]⟩)
  have x0 := hA.c0; have x1 := hA.c1
  have HA := Lib.hid hA
  have HR := Lib.hid hR
  have HBL := Lib.hid hBl
  have HW := Lib.hid hW
  rw [hW] at x0 x1
  clear hT hA hR hBl hsz hW hn hd hl
  go_enter Tryz.func12, Tryz.ntmps12
  go_wp2_with fail
  rw [← HW.out]
  refine (HC.out _ (HT.out.keep HBL.out)).mono ?_
  rintro en w1 ⟨rfl, hb1⟩
  have hB1 : Below w.heap.size w w1 := HBL.out.trans (hb1.mono HBL.out.size)
  have hR1 := HR.out.keep hb1
  have hA1 := HA.out.keep hb1
  clear x0 x1
  have x0 := hA1.c0; have x1 := hA1.c1
  go_wp2_with fail
  refine (HN.out _ (HT.out.keep hB1)).mono ?_
  rintro en w2 ⟨rfl, hb2⟩
  have hB2 : Below w.heap.size w w2 := hB1.trans (hb2.mono hB1.size)
  have hR2 := hR1.keep hb2
  have hA2 := hA1.keep hb2
  clear x0 x1 hR1 hA1
  have x0 := hR2.c0; have x1 := hR2.c1; have x2 := hR2.f0 0; have x3 := hR2.f0 1; have y0 := hA2.c0; have y1 := hA2.c1
  go_wp2
  refine bodyPost_ret (v := .tuple #[.agg #[.string Y, .string X2], .int .i64 0]) (by simp [results, Tryz.results12, go_sem, x0, x1]) rfl ⟨rfl, (hB2.setCell (by simp <;> omega) _).setCell (by simp <;> omega) _⟩

set_option maxHeartbeats 1600000 in
set_option maxRecDepth 100000 in
theorem fFloor {D : Nat} (n d : Int) (hn : Few D n) (hd : Few D d) (h1 : 1 ≤ D) (hD : D ≤ 1024) (hl : Low n d) (w : World) (hT : Tab w) :
    Calls Tryz.prog 14 #[FrV (T n) (T d)] w (OutE w (T (qz n d)) 0) := by
  have h0 : d ≠ 0 := by have := hl.1; omega
  have HC := Lib.hid (fun w (hT : Tab w) => fcheck_T n d hn hd h1 hD hl w hT)
  have HN := Lib.hid (fun w (hT : Tab w) => quoT n d w hn hd h1 hD h0 hT)
  have HT := Lib.hid hT
  unfold OutE FrV at *
  generalize T (qz n d) = Y at *
  generalize T n = X1 at *
  generalize T d = X2 at *
  obtain ⟨W, hW, hA, hBl, hsz⟩ := box1T 24 w (.string X1) (.string X2)
  have x0 := hA.c0; have x1 := hA.c1
  have HA := Lib.hid hA
  have HBL := Lib.hid hBl
  have HW := Lib.hid hW
  rw [hW] at x0 x1
  clear hT hA hBl hsz hW hn hd hl h0
  go_enter Tryz.func14, Tryz.ntmps14
  go_wp2_with fail
  rw [← HW.out]
  refine (HC.out _ (HT.out.keep HBL.out)).mono ?_
  rintro en w1 ⟨rfl, hb1⟩
  have hB1 : Below w.heap.size w w1 := HBL.out.trans (hb1.mono HBL.out.size)
  have hA1 := HA.out.keep hb1
  clear x0 x1
  have x0 := hA1.c0; have x1 := hA1.c1
  go_wp2_with fail
  refine (HN.out _ (HT.out.keep hB1)).mono ?_
  rintro en w2 ⟨rfl, hb2⟩
  go_wp2
  go_ret2
  exact ⟨rfl, hB1.trans (hb2.mono hB1.size)⟩

set_option maxHeartbeats 1600000 in
set_option maxRecDepth 100000 in
theorem fMake {D : Nat} (n m : Int) (hn : Few D n) (hm : Few D m) (h1 : 1 ≤ D) (hD : D ≤ 1024) (hm0 : m ≠ 0) (w : World) (hT : Tab w) :
    Calls Tryz.prog 21 #[.string (T n), .string (T m)] w (FrE w (T (lowN n m)) (T (lowD n m)) 0) := by
  have HK := Lib.hid (fun w => fcheckTwo (T n) (T m) (hn.size h1 hD) (hm.size h1 hD) w)
  rw [chk2_T hn hm h1 hD] at HK
  have HL := Lib.hid (fun w (hT : Tab w) => flowest n m hn hm hm0 h1 hD w hT)
  have heq := T_zero m
  rw [decide_eq_false hm0] at heq
  have HT := Lib.hid hT
  unfold FrE FrOut FrV at *
  generalize T (lowN n m) = A at *
  generalize T (lowD n m) = B at *
  generalize T n = X1 at *
  generalize T m = X2 at *
  obtain ⟨W, hW, hR, hBl, hsz⟩ := box1T 24 w (.string ⟨#[]⟩) (.string ⟨#[]⟩)
  have HR := Lib.hid hR
  have HBL := Lib.hid hBl
  have HW := Lib.hid hW
  clear hT hR hBl hsz hW hn hm hm0
  go_enter Tryz.func21, Tryz.ntmps21
  go_wp2_with fail
  rw [← HW.out]
  refine (HK.out _).mono ?_
  rintro en w0 ⟨rfl, rfl⟩
  go_wp2_with fail
  refine (HL.out _ (HT.out.keep HBL.out)).mono ?_
  rintro en w1 ⟨rfl, hb1⟩
  have hB1 : Below w.heap.size w w1 := HBL.out.trans (hb1.mono HBL.out.size)
  have hR1 := HR.out.keep hb1
  have x0 := hR1.c0; have x1 := hR1.c1; have x2 := hR1.f0 0; have x3 := hR1.f0 1
  go_wp2
  refine bodyPost_ret (v := .tuple #[.agg #[.string A, .string B], .int .i64 0]) (by simp [results, Tryz.results21, go_sem, x0, x1]) rfl ⟨rfl, (hB1.setCell (by simp <;> omega) _).setCell (by simp <;> omega) _⟩

set_option maxHeartbeats 1600000 in
set_option maxRecDepth 100000 in
theorem fOf (n m : Int) (X Y A B : ByteArray) (c : Nat) (hn : ∀ w, Tab w → Calls Tryz.prog 46 #[.int .i64 n] w (OutR w X)) (hm : ∀ w, Tab w → Calls Tryz.prog 46 #[.int .i64 m] w (OutR w Y))
    (hk : ∀ w, Tab w → Calls Tryz.prog 21 #[.string X, .string Y] w (FrE w A B c)) (w : World) (hT : Tab w) :
    Calls Tryz.prog 26 #[.int .i64 n, .int .i64 m] w (FrE w A B c) := by
  have HN := Lib.hid hn
  have HM := Lib.hid hm
  have HK := Lib.hid hk
  have HT := Lib.hid hT
  unfold FrE FrV OutR at *
  obtain ⟨W, hW, hR, hBl, hsz⟩ := box1T 24 w (.string ⟨#[]⟩) (.string ⟨#[]⟩)
  have HR := Lib.hid hR
  have HBL := Lib.hid hBl
  have HW := Lib.hid hW
  clear hT hR hBl hsz hW hn hm hk
  go_enter Tryz.func26, Tryz.ntmps26
  go_wp2_with fail
  rw [← HW.out]
  refine (HN.out _ (HT.out.keep HBL.out)).mono ?_
  rintro en w1 ⟨rfl, hb1⟩
  have hB1 : Below w.heap.size w w1 := HBL.out.trans (hb1.mono HBL.out.size)
  have hR1 := HR.out.keep hb1
  go_wp2_with fail
  refine (HM.out _ (HT.out.keep hB1)).mono ?_
  rintro en w2 ⟨rfl, hb2⟩
  have hB2 : Below w.heap.size w w2 := hB1.trans (hb2.mono hB1.size)
  have hR2 := hR1.keep hb2
  go_wp2_with fail
  refine (HK.out _ (HT.out.keep hB2)).mono ?_
  rintro en w3 ⟨rfl, hb3⟩
  have hB3 : Below w.heap.size w w3 := hB2.trans (hb3.mono hB2.size)
  have hR3 := hR2.keep hb3
  have x0 := hR3.c0; have x1 := hR3.c1; have x2 := hR3.f0 0; have x3 := hR3.f0 1
  go_wp2
  refine bodyPost_ret (v := .tuple #[.agg #[.string A, .string B], .int .i64 (c : Int)]) (by simp [results, Tryz.results26, go_sem, x0, x1]) rfl ⟨rfl, (hB3.setCell (by simp <;> omega) _).setCell (by simp <;> omega) _⟩
end Go.Proofs.YtolkiimlchfmlaaGreatDoor

namespace Go.Proofs.YtolkiimlchfmlaaGreatDoor
open Go.RowKit Go.Proofs.Num

/-- What a cut of texts reads of the library's variable. -/
def CutT (w : World) : Prop := 0 < w.heap.size ∧ ∃ m : Int, w.cell? ⟨0, 0, none⟩ = some (.int .i64 m)
theorem CutT.keep {w w' : World} (h : CutT w) (hb : Below w.heap.size w w') : CutT w' := by
  obtain ⟨h0, m, hm⟩ := h
  exact ⟨Nat.lt_of_lt_of_le h0 hb.size, m, (hb.cell (p := ⟨0, 0, none⟩) h0).trans hm⟩

/-- A box of three cells. -/
def Tri (T : TypeId) (w : World) (b : Nat) (x y z : Value) : Prop := w.heap[b]? = some (.cells #[x, y, z] T (0, 0))
theorem Tri.lt {T : TypeId} {w : World} {b : Nat} {x y z : Value} (h : Tri T w b x y z) : b < w.heap.size := (Array.getElem?_eq_some_iff.1 h).1
theorem Tri.c0 {T : TypeId} {w : World} {b : Nat} {x y z : Value} (h : Tri T w b x y z) : w.cell? ⟨b, 0, none⟩ = some x := by
  rw [cell_of_row w b 0 _ T (0, 0) h]; rfl
theorem Tri.c1 {T : TypeId} {w : World} {b : Nat} {x y z : Value} (h : Tri T w b x y z) : w.cell? ⟨b, 1, none⟩ = some y := by
  rw [cell_of_row w b 1 _ T (0, 0) h]; rfl
theorem Tri.c2 {T : TypeId} {w : World} {b : Nat} {x y z : Value} (h : Tri T w b x y z) : w.cell? ⟨b, 2, none⟩ = some z := by
  rw [cell_of_row w b 2 _ T (0, 0) h]; rfl
theorem Tri.f0 {T : TypeId} {w : World} {b : Nat} {x y z : Value} (h : Tri T w b x y z) (j : Nat) : w.frozen? ⟨b, j, none⟩ = false := frozen_of_row w b j _ T h
theorem Tri.keep {T : TypeId} {w w' : World} {b : Nat} {x y z : Value} (h : Tri T w b x y z) (hb : Below w.heap.size w w') : Tri T w' b x y z := (hb.block b h.lt).trans h
theorem Tri.new (T : TypeId) (w : World) (x y z : Value) : Tri T (w.alloc (.cells #[x, y, z] T)) w.heap.size x y z := heap_alloc_new w _

set_option maxRecDepth 100000 in
theorem fhalf (X1 X2 : ByteArray) (w : World) : Calls Tryz.prog 44 #[.string X1, .string X2] w (FrOut w X1 X2) := by
  unfold FrOut FrV
  go_enter Tryz.func44, Tryz.ntmps44
  go_wp2
  refine bodyPost_ret (v := .agg #[.string X1, .string X2]) (by simp [results, Tryz.results44, go_sem]) rfl ⟨rfl, below1 _ _⟩

set_option maxRecDepth 100000 in
theorem fcanonical (s : ByteArray) (hs : s.size ≤ 9223372036854775807) (w : World) : Calls Tryz.prog 106 #[.string s] w fun e w' => e = .returned (.bool (decide (chk s.data.toList ≠ 3))) ∧ w = w' := by
  have HK := Lib.hid (fun w => check_any s w hs)
  by_cases h : chk s.data.toList = 3
  · rw [decide_eq_false (by simpa using h)]
    rw [h] at HK
    clear h
    go_enter Tryz.func106, Tryz.ntmps106
    go_wp2_with fail
    refine (HK.out _).mono ?_
    rintro e w1 ⟨rfl, rfl⟩
    go_wp2
    go_ret
    exact ⟨rfl, rfl⟩
  · rw [decide_eq_true h]
    generalize chk s.data.toList = c at *
    have hx1 : ¬ ((c : Nat) : Int) = 3 := by omega
    have hx2 : ((c : Int) == 3) = false := beq_eq_false_iff_ne.2 hx1
    have hx3 : ((c : Int) != 3) = true := by rw [bne, hx2]; rfl
    have HX3 := Lib.hid hx3
    clear hx3
    clear h
    go_enter Tryz.func106, Tryz.ntmps106
    go_wp2_with fail
    refine (HK.out _).mono ?_
    rintro e w1 ⟨rfl, rfl⟩
    go_wp2
    go_ret
    exact ⟨by rw [← HX3.out]; rfl, rfl⟩

set_option maxRecDepth 100000 in
theorem fwhole (X1 X2 : ByteArray) (b : Bool) (w : World) : Calls Tryz.prog 105 #[.agg #[.string X1, .string X2, .bool b]] w (FrOut w X1 ⟨#[49]⟩) := by
  unfold FrOut FrV
  go_enter Tryz.func105, Tryz.ntmps105
  go_wp2
  refine bodyPost_ret (v := .agg #[.string X1, .string ⟨#[49]⟩]) (by simp [results, Tryz.results105, go_sem]) rfl ⟨rfl, (below1 _ _).alloc (by simp) _⟩

set_option maxRecDepth 100000 in
theorem fbroken (X1 X2 : ByteArray) (b : Bool) (w : World) : Calls Tryz.prog 107 #[.agg #[.string X1, .string X2, .bool b]] w (FrOut w X1 X2) := by
  unfold FrOut FrV
  go_enter Tryz.func107, Tryz.ntmps107
  go_wp2
  refine bodyPost_ret (v := .agg #[.string X1, .string X2]) (by simp [results, Tryz.results107, go_sem]) rfl ⟨rfl, (below1 _ _).alloc (by simp) _⟩

set_option maxHeartbeats 800000 in
set_option maxRecDepth 100000 in
theorem fcut (s : ByteArray) (hs : s.size < 4294967281) (w : World) (hC : CutT w) : Calls Tryz.prog 60 #[.string s] w fun e w' =>
    e = .returned (.agg #[.string ⟨(Lib.cut s.data.toList [47]).1.toArray⟩, .string ⟨(Lib.cut s.data.toList [47]).2.1.toArray⟩, .bool (Lib.cut s.data.toList [47]).2.2]) ∧ Below w.heap.size w w' := by
  have HC := Lib.hid hC
  have HCUT : Hid (∀ w, CutT w → Calls Tryz.prog 104 #[.string s, .string ⟨#[47]⟩] w fun e w' => e = .returned (.tuple #[.string ⟨(Lib.cut s.data.toList [47]).1.toArray⟩, .string ⟨(Lib.cut s.data.toList [47]).2.1.toArray⟩, .bool (Lib.cut s.data.toList [47]).2.2]) ∧ ∃ n, w' = w.drewN n) := by
    intro w ⟨_, m, hm⟩
    exact Tryz.strings_Cut s ⟨#[47]⟩ m w hs hm
  generalize (Lib.cut s.data.toList [47]).1.toArray = a at *
  generalize (Lib.cut s.data.toList [47]).2.1.toArray = b at *
  generalize (Lib.cut s.data.toList [47]).2.2 = f at *
  obtain ⟨W, hW⟩ : ∃ W, W = w.alloc (.cells #[.string ⟨#[]⟩, .string ⟨#[]⟩, .bool false] 83) := ⟨_, rfl⟩
  have hR : Tri 83 W w.heap.size (.string ⟨#[]⟩) (.string ⟨#[]⟩) (.bool false) := by rw [hW]; exact Tri.new 83 w _ _ _
  have hBl : Below w.heap.size w W := by rw [hW]; exact below1 _ _
  have HR := Lib.hid hR
  have HBL := Lib.hid hBl
  have HW := Lib.hid hW
  clear hC hW hR hBl hs
  go_enter Tryz.func60, Tryz.ntmps60
  go_wp2_with fail
  rw [← HW.out]
  refine (HCUT.out _ (HC.out.keep HBL.out)).mono ?_
  rintro en w1 ⟨rfl, nn, rfl⟩
  have hR1 : Tri 83 (W.drewN nn) w.heap.size (.string ⟨#[]⟩) (.string ⟨#[]⟩) (.bool false) := HR.out
  have hB1 : Below w.heap.size w (W.drewN nn) := HBL.out.trans ⟨rfl, rfl, rfl, Nat.le_refl _, fun _ _ => rfl⟩
  have x0 := hR1.c0; have x1 := hR1.c1; have x2 := hR1.c2; have x3 := hR1.f0 0; have x4 := hR1.f0 1; have x5 := hR1.f0 2
  go_wp2
  refine bodyPost_ret (v := .agg #[.string ⟨a⟩, .string ⟨b⟩, .bool f]) (by simp [results, Tryz.results60, go_sem, x0, x1, x2]) rfl ⟨rfl, ((hB1.setCell (by simp <;> omega) _).setCell (by simp <;> omega) _).setCell (by simp <;> omega) _⟩

/-- What the two parts of a text make. -/
def partE (X1 X2 : ByteArray) (f : Bool) : Nat := if chk X1.data.toList = 3 then 3 else if f = true ∧ (X2 = ⟨#[49]⟩ ∨ chk X2.data.toList = 3) then 3 else 0

set_option maxHeartbeats 1600000 in
set_option maxRecDepth 100000 in
theorem fparts_ok (X1 X2 B : ByteArray) (f : Bool) (h1 : X1.size ≤ 9223372036854775807) (h2 : X2.size ≤ 9223372036854775807) (hc : chk X1.data.toList ≠ 3)
    (hway : (f = false ∧ B = ⟨#[49]⟩) ∨ (f = true ∧ (X2.toList == [49]) = false ∧ chk X2.data.toList ≠ 3 ∧ B = X2)) (w : World) :
    Calls Tryz.prog 61 #[.agg #[.string X1, .string X2, .bool f]] w (FrE w X1 B 0) := by
  have HK1 := Lib.hid (fun w => fcanonical X1 h1 w)
  have HK2 := Lib.hid (fun w => fcanonical X2 h2 w)
  rw [decide_eq_true hc] at HK1
  have HWH := Lib.hid (fun w => fwhole X1 X2 f w)
  have HBR := Lib.hid (fun w => fbroken X1 X2 f w)
  unfold FrE FrOut FrV at *
  obtain ⟨W, hW⟩ : ∃ W, W = (w.alloc (.cells #[.string X1, .string X2, .bool f] 83)).alloc (.cells #[.string ⟨#[]⟩, .string ⟨#[]⟩] 24) := ⟨_, rfl⟩
  have hA : Tri 83 W w.heap.size (.string X1) (.string X2) (.bool f) := by rw [hW]; exact (Tri.new 83 w _ _ _).keep (below1 _ _)
  have hR : Box 24 W (w.heap.size + 1) (.string ⟨#[]⟩) (.string ⟨#[]⟩) := by
    have := Box.new 24 (w.alloc (.cells #[.string X1, .string X2, .bool f] 83)) (.string ⟨#[]⟩) (.string ⟨#[]⟩)
    rw [World.size_alloc] at this
    rw [hW]; exact this
  have hBl : Below w.heap.size w W := by rw [hW]; exact (below1 _ _).alloc (by simp) _
  have x0 := hA.c0; have x1 := hA.c1; have x2 := hA.c2
  have HR := Lib.hid hR
  have HBL := Lib.hid hBl
  have HW := Lib.hid hW
  rw [hW] at x0 x1 x2
  clear hW hA hR hBl hc h1 h2
  rcases hway with ⟨rfl, rfl⟩ | ⟨rfl, hx, hc2, rfl⟩
  · clear HBR HK2
    go_enter Tryz.func61, Tryz.ntmps61
    go_wp2_with fail
    refine (HK1.out _).mono ?_
    rintro en w1 ⟨rfl, rfl⟩
    go_wp2_with fail
    rw [← HW.out]
    refine (HWH.out _).mono ?_
    rintro en w1 ⟨rfl, hb1⟩
    have hB1 : Below w.heap.size w w1 := HBL.out.trans (hb1.mono HBL.out.size)
    have hR1 := HR.out.keep hb1
    clear x0 x1 x2
    have x0 := hR1.c0; have x1 := hR1.c1; have x2 := hR1.f0 0; have x3 := hR1.f0 1
    go_wp2
    refine bodyPost_ret (v := .tuple #[.agg #[.string X1, .string ⟨#[49]⟩], .int .i64 0]) (by simp [results, Tryz.results61, go_sem, x0, x1]) rfl ⟨rfl, (hB1.setCell (by simp <;> omega) _).setCell (by simp <;> omega) _⟩
  · rw [decide_eq_true hc2] at HK2
    clear HWH hc2
    go_enter Tryz.func61, Tryz.ntmps61
    go_wp2_with fail
    refine (HK1.out _).mono ?_
    rintro en w1 ⟨rfl, rfl⟩
    go_wp2_with fail
    refine (HK2.out _).mono ?_
    rintro en w1 ⟨rfl, rfl⟩
    go_wp2_with fail
    rw [← HW.out]
    refine (HBR.out _).mono ?_
    rintro en w1 ⟨rfl, hb1⟩
    have hB1 : Below w.heap.size w w1 := HBL.out.trans (hb1.mono HBL.out.size)
    have hR1 := HR.out.keep hb1
    clear x0 x1 x2
    have x0 := hR1.c0; have x1 := hR1.c1; have x2 := hR1.f0 0; have x3 := hR1.f0 1
    go_wp2
    refine bodyPost_ret (v := .tuple #[.agg #[.string X1, .string B], .int .i64 0]) (by simp [results, Tryz.results61, go_sem, x0, x1]) rfl ⟨rfl, (hB1.setCell (by simp <;> omega) _).setCell (by simp <;> omega) _⟩
end Go.Proofs.YtolkiimlchfmlaaGreatDoor

namespace Go.Proofs.YtolkiimlchfmlaaGreatDoor
open Go.RowKit Go.Proofs.Num

set_option maxHeartbeats 1600000 in
set_option maxRecDepth 100000 in
theorem fparts_err (X1 X2 : ByteArray) (f : Bool) (h1 : X1.size ≤ 9223372036854775807) (h2 : X2.size ≤ 9223372036854775807)
    (hway : chk X1.data.toList = 3 ∨ (chk X1.data.toList ≠ 3 ∧ f = true ∧ (X2.toList == [49]) = true) ∨ (chk X1.data.toList ≠ 3 ∧ f = true ∧ (X2.toList == [49]) = false ∧ chk X2.data.toList = 3)) (w : World) :
    Calls Tryz.prog 61 #[.agg #[.string X1, .string X2, .bool f]] w (FrE w ⟨#[]⟩ ⟨#[]⟩ 3) := by
  have HK1 := Lib.hid (fun w => fcanonical X1 h1 w)
  have HK2 := Lib.hid (fun w => fcanonical X2 h2 w)
  unfold FrE FrV at *
  obtain ⟨W, hW⟩ : ∃ W, W = (w.alloc (.cells #[.string X1, .string X2, .bool f] 83)).alloc (.cells #[.string ⟨#[]⟩, .string ⟨#[]⟩] 24) := ⟨_, rfl⟩
  have hA : Tri 83 W w.heap.size (.string X1) (.string X2) (.bool f) := by rw [hW]; exact (Tri.new 83 w _ _ _).keep (below1 _ _)
  have hR : Box 24 W (w.heap.size + 1) (.string ⟨#[]⟩) (.string ⟨#[]⟩) := by
    have := Box.new 24 (w.alloc (.cells #[.string X1, .string X2, .bool f] 83)) (.string ⟨#[]⟩) (.string ⟨#[]⟩)
    rw [World.size_alloc] at this
    rw [hW]; exact this
  have hBl : Below w.heap.size w W := by rw [hW]; exact (below1 _ _).alloc (by simp) _
  have x0 := hA.c0; have x1 := hA.c1; have x2 := hA.c2
  have y0 := hR.c0; have y1 := hR.c1; have y2 := hR.f0 0; have y3 := hR.f0 1
  rw [hW] at x0 x1 x2 y0 y1 y2 y3 hBl
  have HBL := Lib.hid hBl
  clear hW hA hR hBl h1 h2
  rcases hway with hc | ⟨hc, rfl, hx⟩ | ⟨hc, rfl, hx, hc2⟩
  · rw [decide_eq_false (by simpa using hc)] at HK1
    clear hc HK2
    go_enter Tryz.func61, Tryz.ntmps61
    go_wp2_with fail
    refine (HK1.out _).mono ?_
    rintro en w1 ⟨rfl, rfl⟩
    go_wp2
    refine bodyPost_ret (v := .tuple #[.agg #[.string ⟨#[]⟩, .string ⟨#[]⟩], .int .i64 3]) (by simp [results, Tryz.results61, go_sem]) rfl ⟨rfl, HBL.out⟩
  · rw [decide_eq_true hc] at HK1
    clear hc HK2
    go_enter Tryz.func61, Tryz.ntmps61
    go_wp2_with fail
    refine (HK1.out _).mono ?_
    rintro en w1 ⟨rfl, rfl⟩
    go_wp2
    refine bodyPost_ret (v := .tuple #[.agg #[.string ⟨#[]⟩, .string ⟨#[]⟩], .int .i64 3]) (by simp [results, Tryz.results61, go_sem]) rfl ⟨rfl, HBL.out⟩
  · rw [decide_eq_true hc] at HK1
    rw [decide_eq_false (by simpa using hc2)] at HK2
    clear hc hc2
    go_enter Tryz.func61, Tryz.ntmps61
    go_wp2_with fail
    refine (HK1.out _).mono ?_
    rintro en w1 ⟨rfl, rfl⟩
    go_wp2_with fail
    refine (HK2.out _).mono ?_
    rintro en w1 ⟨rfl, rfl⟩
    go_wp2
    refine bodyPost_ret (v := .tuple #[.agg #[.string ⟨#[]⟩, .string ⟨#[]⟩], .int .i64 3]) (by simp [results, Tryz.results61, go_sem]) rfl ⟨rfl, HBL.out⟩

set_option maxHeartbeats 1600000 in
set_option maxRecDepth 100000 in
theorem fParse_ok (s X1 X2 B : ByteArray) (f : Bool) 
    (hcut : ∀ w, CutT w → Calls Tryz.prog 60 #[.string s] w fun e w' => e = .returned (.agg #[.string X1, .string X2, .bool f]) ∧ Below w.heap.size w w')
    (hp : ∀ w, Calls Tryz.prog 61 #[.agg #[.string X1, .string X2, .bool f]] w (FrE w X1 B 0))
    (hk : ∀ w, Tab w → Calls Tryz.prog 18 #[.agg #[.string X1, .string B]] w fun e w' => e = .returned (.int .i64 (0)) ∧ Below w.heap.size w w') (w : World) (hT : Tab w) (hC : CutT w) :
    Calls Tryz.prog 23 #[.string s] w (FrE w X1 B 0) := by
  have HCU := Lib.hid hcut
  have HP := Lib.hid hp
  have HK := Lib.hid hk
  have HT := Lib.hid hT
  have HC := Lib.hid hC
  unfold FrE FrV at *
  obtain ⟨W, hW, hR, hBl, hsz⟩ := box1T 24 w (.string ⟨#[]⟩) (.string ⟨#[]⟩)
  have HR := Lib.hid hR
  have HBL := Lib.hid hBl
  have HW := Lib.hid hW
  clear hT hC hR hBl hsz hW hcut hp hk
  go_enter Tryz.func23, Tryz.ntmps23
  go_wp2_with fail
  rw [← HW.out]
  refine (HCU.out _ (HC.out.keep HBL.out)).mono ?_
  rintro en w1 ⟨rfl, hb1⟩
  have hB1 : Below w.heap.size w w1 := HBL.out.trans (hb1.mono HBL.out.size)
  have hR1 := HR.out.keep hb1
  go_wp2_with fail
  refine (HP.out _).mono ?_
  rintro en w2 ⟨rfl, hb2⟩
  have hB2 : Below w.heap.size w w2 := hB1.trans (hb2.mono hB1.size)
  have hR2 := hR1.keep hb2
  obtain ⟨W2, hW2, hA2, hBl2, hsz2⟩ := box1T 24 w2 (.string X1) (.string B)
  have hB3 : Below w.heap.size w W2 := hB2.trans (hBl2.mono hB2.size)
  have hR3 := hR2.keep hBl2
  have y0 := hA2.c0; have y1 := hA2.c1
  have HW2 := Lib.hid hW2
  have HA2 := Lib.hid hA2
  have HR3 := Lib.hid hR3
  rw [hW2] at y0 y1
  clear hW2 hA2 hBl2 hsz2 hR1 hR2 hR3 hb1 hb2 hB1 hB2
  go_wp2_with fail
  rw [← HW2.out]
  refine (HK.out _ (HT.out.keep hB3)).mono ?_
  rintro en w4 ⟨rfl, hb4⟩
  have hB4 : Below w.heap.size w w4 := hB3.trans (hb4.mono hB3.size)
  have hR4 := HR3.out.keep hb4
  have hA4 := HA2.out.keep hb4
  clear y0 y1
  have y0 := hA4.c0; have y1 := hA4.c1
  have x0 := hR4.c0; have x1 := hR4.c1; have x2 := hR4.f0 0; have x3 := hR4.f0 1
  go_wp2
  refine bodyPost_ret (v := .tuple #[.agg #[.string X1, .string B], .int .i64 0]) (by simp [results, Tryz.results23, go_sem, x0, x1]) rfl ⟨rfl, (hB4.setCell (by simp <;> omega) _).setCell (by simp <;> omega) _⟩

set_option maxHeartbeats 1600000 in
set_option maxRecDepth 100000 in
theorem fParse_chk (s X1 X2 B : ByteArray) (f : Bool) (k : Nat) (h0 : k ≠ 0)
    (hcut : ∀ w, CutT w → Calls Tryz.prog 60 #[.string s] w fun e w' => e = .returned (.agg #[.string X1, .string X2, .bool f]) ∧ Below w.heap.size w w')
    (hp : ∀ w, Calls Tryz.prog 61 #[.agg #[.string X1, .string X2, .bool f]] w (FrE w X1 B 0))
    (hk : ∀ w, Tab w → Calls Tryz.prog 18 #[.agg #[.string X1, .string B]] w fun e w' => e = .returned (.int .i64 ((k : Nat) : Int)) ∧ Below w.heap.size w w') (w : World) (hT : Tab w) (hC : CutT w) :
    Calls Tryz.prog 23 #[.string s] w (FrE w ⟨#[]⟩ ⟨#[]⟩ k) := by
  have HCU := Lib.hid hcut
  have HP := Lib.hid hp
  have HK := Lib.hid hk
  have HT := Lib.hid hT
  have HC := Lib.hid hC
  unfold FrE FrV at *
  obtain ⟨W, hW, hR, hBl, hsz⟩ := box1T 24 w (.string ⟨#[]⟩) (.string ⟨#[]⟩)
  have HR := Lib.hid hR
  have HBL := Lib.hid hBl
  have HW := Lib.hid hW
  have hk1 : ¬ ((k : Nat) : Int) = 0 := by omega
  have hk2 : ((k : Int) == 0) = false := beq_eq_false_iff_ne.2 hk1
  clear hT hC hR hBl hsz hW hcut hp hk h0
  go_enter Tryz.func23, Tryz.ntmps23
  go_wp2_with fail
  rw [← HW.out]
  refine (HCU.out _ (HC.out.keep HBL.out)).mono ?_
  rintro en w1 ⟨rfl, hb1⟩
  have hB1 : Below w.heap.size w w1 := HBL.out.trans (hb1.mono HBL.out.size)
  have hR1 := HR.out.keep hb1
  go_wp2_with fail
  refine (HP.out _).mono ?_
  rintro en w2 ⟨rfl, hb2⟩
  have hB2 : Below w.heap.size w w2 := hB1.trans (hb2.mono hB1.size)
  have hR2 := hR1.keep hb2
  obtain ⟨W2, hW2, hA2, hBl2, hsz2⟩ := box1T 24 w2 (.string X1) (.string B)
  have hB3 : Below w.heap.size w W2 := hB2.trans (hBl2.mono hB2.size)
  have hR3 := hR2.keep hBl2
  have y0 := hA2.c0; have y1 := hA2.c1
  have HW2 := Lib.hid hW2
  have HA2 := Lib.hid hA2
  have HR3 := Lib.hid hR3
  rw [hW2] at y0 y1
  clear hW2 hA2 hBl2 hsz2 hR1 hR2 hR3 hb1 hb2 hB1 hB2
  go_wp2_with fail
  rw [← HW2.out]
  refine (HK.out _ (HT.out.keep hB3)).mono ?_
  rintro en w4 ⟨rfl, hb4⟩
  have hB4 : Below w.heap.size w w4 := hB3.trans (hb4.mono hB3.size)
  have hR4 := HR3.out.keep hb4
  have hA4 := HA2.out.keep hb4
  clear y0 y1
  have y0 := hA4.c0; have y1 := hA4.c1
  have x0 := hR4.c0; have x1 := hR4.c1; have x2 := hR4.f0 0; have x3 := hR4.f0 1
  go_wp2
  refine bodyPost_ret (v := .tuple #[.agg #[.string ⟨#[]⟩, .string ⟨#[]⟩], .int .i64 (k : Int)]) (by simp [results, Tryz.results23, go_sem, x0, x1]) rfl ⟨rfl, (hB4.setCell (by simp <;> omega) _).setCell (by simp <;> omega) _⟩

set_option maxHeartbeats 1600000 in
set_option maxRecDepth 100000 in
theorem fParse_bad (s X1 X2 _B : ByteArray) (f : Bool) 
    (hcut : ∀ w, CutT w → Calls Tryz.prog 60 #[.string s] w fun e w' => e = .returned (.agg #[.string X1, .string X2, .bool f]) ∧ Below w.heap.size w w')
    (hp : ∀ w, Calls Tryz.prog 61 #[.agg #[.string X1, .string X2, .bool f]] w (FrE w ⟨#[]⟩ ⟨#[]⟩ 3)) (w : World) (hT : Tab w) (hC : CutT w) :
    Calls Tryz.prog 23 #[.string s] w (FrE w ⟨#[]⟩ ⟨#[]⟩ 3) := by
  have HCU := Lib.hid hcut
  have HP := Lib.hid hp
  have HT := Lib.hid hT
  have HC := Lib.hid hC
  unfold FrE FrV at *
  obtain ⟨W, hW, hR, hBl, hsz⟩ := box1T 24 w (.string ⟨#[]⟩) (.string ⟨#[]⟩)
  have HR := Lib.hid hR
  have HBL := Lib.hid hBl
  have HW := Lib.hid hW
  clear hT hC hR hBl hsz hW hcut hp
  go_enter Tryz.func23, Tryz.ntmps23
  go_wp2_with fail
  rw [← HW.out]
  refine (HCU.out _ (HC.out.keep HBL.out)).mono ?_
  rintro en w1 ⟨rfl, hb1⟩
  have hB1 : Below w.heap.size w w1 := HBL.out.trans (hb1.mono HBL.out.size)
  have hR1 := HR.out.keep hb1
  go_wp2_with fail
  refine (HP.out _).mono ?_
  rintro en w2 ⟨rfl, hb2⟩
  have hB2 : Below w.heap.size w w2 := hB1.trans (hb2.mono hB1.size)
  have hR2 := hR1.keep hb2
  clear hR1
  have hR3 := hR2.keep (below1 w2 (.cells #[.string ⟨#[]⟩, .string ⟨#[]⟩] 24))
  have x0 := hR3.c0; have x1 := hR3.c1; have x2 := hR3.f0 0; have x3 := hR3.f0 1
  go_wp2
  refine bodyPost_ret (v := .tuple #[.agg #[.string ⟨#[]⟩, .string ⟨#[]⟩], .int .i64 3]) (by simp [results, Tryz.results23, go_sem, x0, x1]) rfl ⟨rfl, ((hB2.alloc hB2.size _).setCell (by simp <;> omega) _).setCell (by simp <;> omega) _⟩

/-- The text of a fraction. -/
def FT (n d : Int) : ByteArray := if d = 1 then T n else T n ++ ⟨#[47]⟩ ++ T d

set_option maxHeartbeats 1600000 in
set_option maxRecDepth 100000 in
theorem fText {D : Nat} (n d : Int) (hn : Few D n) (hd : Few D d) (h1 : 1 ≤ D) (hD : D ≤ 1024) (hl : Low n d) (w : World) (hT : Tab w) :
    Calls Tryz.prog 16 #[FrV (T n) (T d)] w (OutE w (FT n d) 0) := by
  have HC := Lib.hid (fun w (hT : Tab w) => fcheck_T n d hn hd h1 hD hl w hT)
  have heq := T_one_eq d
  have hz1 := T_size hn h1
  have hz2 := T_size hd h1
  have HT := Lib.hid hT
  unfold OutE FrV at *
  unfold FT
  obtain ⟨W, hW, hA, hBl, hsz⟩ := box1T 24 w (.string (T n)) (.string (T d))
  have x0 := hA.c0; have x1 := hA.c1
  have HA := Lib.hid hA
  have HBL := Lib.hid hBl
  have HW := Lib.hid hW
  rw [hW] at x0 x1
  clear hT hA hBl hsz hW hn hd hl
  by_cases h : d = 1
  · rw [if_pos h]
    rw [decide_eq_true h] at heq
    generalize T n = X1 at *
    generalize T d = X2 at *
    clear h
    go_enter Tryz.func16, Tryz.ntmps16
    go_wp2_with fail
    rw [← HW.out]
    refine (HC.out _ (HT.out.keep HBL.out)).mono ?_
    rintro en w1 ⟨rfl, hb1⟩
    have hB1 : Below w.heap.size w w1 := HBL.out.trans (hb1.mono HBL.out.size)
    have hA1 := HA.out.keep hb1
    clear x0 x1
    have x0 := hA1.c0; have x1 := hA1.c1
    go_wp2
    go_ret2
    exact ⟨rfl, hB1⟩
  · rw [if_neg h]
    rw [decide_eq_false h] at heq
    generalize T n = X1 at *
    generalize T d = X2 at *
    have hz3 : (⟨#[47]⟩ : ByteArray).size = 1 := rfl
    clear h
    go_enter Tryz.func16, Tryz.ntmps16
    go_wp2_with fail
    rw [← HW.out]
    refine (HC.out _ (HT.out.keep HBL.out)).mono ?_
    rintro en w1 ⟨rfl, hb1⟩
    have hB1 : Below w.heap.size w w1 := HBL.out.trans (hb1.mono HBL.out.size)
    have hA1 := HA.out.keep hb1
    clear x0 x1
    have x0 := hA1.c0; have x1 := hA1.c1
    go_wp2
    go_ret2
    exact ⟨rfl, hB1⟩
end Go.Proofs.YtolkiimlchfmlaaGreatDoor
