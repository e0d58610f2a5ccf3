/- Walks of fractions: the check of two fractions fails. -/
import Derived.Test.YtolkiimlchfmlaaGreatDoorFw
namespace Go.Proofs.YtolkiimlchfmlaaGreatDoor
open Go.RowKit Go.Proofs.Num

set_option maxHeartbeats 3200000 in
set_option maxRecDepth 100000 in
theorem fchecked_e1 (X1 X2 X3 X4 : ByteArray) (g : Nat) (k : Nat) (h0 : k ≠ 0)
    (HC1 : Hid (∀ w, Tab w → Calls Tryz.prog 18 #[FrV X1 X2] w fun e w' => e = .returned (.int .i64 ((k : Nat) : Int)) ∧ Below w.heap.size w w'))
    (w : World) (hT : Tab w) :
    Calls Tryz.prog 64 #[FrV X1 X2, FrV X3 X4, .func (.func g) #[] #[]] w (FrE w ⟨#[]⟩ ⟨#[]⟩ k) := by
  have HT := Lib.hid hT
  have hk0 : ¬ ((k : Nat) : Int) = 0 := by omega
  have hk1 : (((k : Nat) : Int) != 0) = true := by simp; omega
  unfold FrV at *
  unfold FrE FrV
  obtain ⟨W, hW, hA, hB, hR, hBl, hsz⟩ := box3T 24 w (.string X1) (.string X2) (.string X3) (.string X4) (.string ⟨#[]⟩) (.string ⟨#[]⟩)
  have HR := Lib.hid hR
  have x0 := hA.c0; have x1 := hA.c1; have y0 := hB.c0; have y1 := hB.c1
  have HBL := Lib.hid hBl
  have HW := Lib.hid hW
  rw [hW] at x0 x1 y0 y1
  clear hT hA hB hR hBl hsz hW h0
  have ix0 : ∀ w : World, (Instr.index 66 (.agg #[.string X1, .string X2, .string X3, .string X4]) (.int .i64 0)).run Tryz.prog w = .ok (.agg #[.string X1, .string X2]) w := fun _ => by kernel_rfl
  have ix1 : ∀ w : World, (Instr.index 66 (.agg #[.string X1, .string X2, .string X3, .string X4]) (.int .i64 1)).run Tryz.prog w = .ok (.agg #[.string X3, .string X4]) w := fun _ => by kernel_rfl
  go_enter Tryz.func64, Tryz.ntmps64
  go_wp2
  rw [← HW.out]
  refine wp_loop_rounds 3 ?_
  rw [rounds_succ]
  go_wp2_with fail
  have hb0 : Below w.heap.size w (W.alloc (.cells #[.string X1, .string X2] 24)) := HBL.out.alloc HBL.out.size _
  refine (HC1.out _ (HT.out.keep hb0)).mono ?_
  rintro en w1 ⟨rfl, hb1⟩
  have hB1 : Below w.heap.size w w1 := hb0.trans (hb1.mono hb0.size)
  have hbW : Below W.heap.size W w1 := (below1 W _).trans (hb1.mono (below1 W _).size)
  have hR1 := Lib.hid (HR.out.keep hbW)
  clear hbW
  clear hb0 hb1 x0 x1 y0 y1
  obtain ⟨V, hV, -, hbV, -⟩ := box1T 24 w1 (.string ⟨#[]⟩) (.string ⟨#[]⟩)
  have hBV : Below w.heap.size w V := hB1.trans (hbV.mono hB1.size)
  have hRV := hR1.out.keep hbV
  have x0 := hRV.c0; have x1 := hRV.c1; have x2 := hRV.f0 0; have x3 := hRV.f0 1
  rw [hV] at x0 x1 x2 x3
  have HV := Lib.hid hV
  clear hV hbV
  go_wp2
  rw [← HV.out] at x0 x1 x2 x3 ⊢
  refine bodyPost_ret (v := .tuple #[.agg #[.string ⟨#[]⟩, .string ⟨#[]⟩], .int .i64 ((k : Nat) : Int)]) (by simp [results, Tryz.results64, go_sem, x0, x1]) rfl ⟨rfl, (hBV.setCell (by simp <;> omega) _).setCell (by simp <;> omega) _⟩

set_option maxHeartbeats 3200000 in
set_option maxRecDepth 100000 in
theorem fchecked_e2 (X1 X2 X3 X4 : ByteArray) (g : Nat) (k : Nat) (h0 : k ≠ 0)
    (HC1 : Hid (∀ w, Tab w → Calls Tryz.prog 18 #[FrV X1 X2] w fun e w' => e = .returned (.int .i64 0) ∧ Below w.heap.size w w'))
    (HC2 : Hid (∀ w, Tab w → Calls Tryz.prog 18 #[FrV X3 X4] w fun e w' => e = .returned (.int .i64 ((k : Nat) : Int)) ∧ Below w.heap.size w w'))
    (w : World) (hT : Tab w) :
    Calls Tryz.prog 64 #[FrV X1 X2, FrV X3 X4, .func (.func g) #[] #[]] w (FrE w ⟨#[]⟩ ⟨#[]⟩ k) := by
  have HT := Lib.hid hT
  have hk0 : ¬ ((k : Nat) : Int) = 0 := by omega
  have hk1 : (((k : Nat) : Int) != 0) = true := by simp; omega
  unfold FrV at *
  unfold FrE FrV
  obtain ⟨W, hW, hA, hB, hR, hBl, hsz⟩ := box3T 24 w (.string X1) (.string X2) (.string X3) (.string X4) (.string ⟨#[]⟩) (.string ⟨#[]⟩)
  have HR := Lib.hid hR
  have x0 := hA.c0; have x1 := hA.c1; have y0 := hB.c0; have y1 := hB.c1
  have HBL := Lib.hid hBl
  have HW := Lib.hid hW
  rw [hW] at x0 x1 y0 y1
  clear hT hA hB hR hBl hsz hW h0
  have ix0 : ∀ w : World, (Instr.index 66 (.agg #[.string X1, .string X2, .string X3, .string X4]) (.int .i64 0)).run Tryz.prog w = .ok (.agg #[.string X1, .string X2]) w := fun _ => by kernel_rfl
  have ix1 : ∀ w : World, (Instr.index 66 (.agg #[.string X1, .string X2, .string X3, .string X4]) (.int .i64 1)).run Tryz.prog w = .ok (.agg #[.string X3, .string X4]) w := fun _ => by kernel_rfl
  go_enter Tryz.func64, Tryz.ntmps64
  go_wp2
  rw [← HW.out]
  refine wp_loop_rounds 3 ?_
  rw [rounds_succ]
  go_wp2_with fail
  have hb0 : Below w.heap.size w (W.alloc (.cells #[.string X1, .string X2] 24)) := HBL.out.alloc HBL.out.size _
  refine (HC1.out _ (HT.out.keep hb0)).mono ?_
  rintro en w1 ⟨rfl, hb1⟩
  have hB1 : Below w.heap.size w w1 := hb0.trans (hb1.mono hb0.size)
  have hbW : Below W.heap.size W w1 := (below1 W _).trans (hb1.mono (below1 W _).size)
  have hR1 := Lib.hid (HR.out.keep hbW)
  clear hbW
  clear hb0 hb1 x0 x1 y0 y1
  go_wp2
  rw [rounds_succ]
  go_wp2_with fail
  have hb0 : Below w.heap.size w (w1.alloc (.cells #[.string X3, .string X4] 24)) := hB1.alloc hB1.size _
  refine (HC2.out _ (HT.out.keep hb0)).mono ?_
  rintro en w2 ⟨rfl, hb2⟩
  have hB2 : Below w.heap.size w w2 := hb0.trans (hb2.mono hb0.size)
  have hbW : Below w1.heap.size w1 w2 := (below1 w1 _).trans (hb2.mono (below1 w1 _).size)
  have hR2 := Lib.hid (hR1.out.keep hbW)
  clear hbW
  clear hb0 hb2
  obtain ⟨V, hV, -, hbV, -⟩ := box1T 24 w2 (.string ⟨#[]⟩) (.string ⟨#[]⟩)
  have hBV : Below w.heap.size w V := hB2.trans (hbV.mono hB2.size)
  have hRV := hR2.out.keep hbV
  have x0 := hRV.c0; have x1 := hRV.c1; have x2 := hRV.f0 0; have x3 := hRV.f0 1
  rw [hV] at x0 x1 x2 x3
  have HV := Lib.hid hV
  clear hV hbV
  go_wp2
  rw [← HV.out] at x0 x1 x2 x3 ⊢
  refine bodyPost_ret (v := .tuple #[.agg #[.string ⟨#[]⟩, .string ⟨#[]⟩], .int .i64 ((k : Nat) : Int)]) (by simp [results, Tryz.results64, go_sem, x0, x1]) rfl ⟨rfl, (hBV.setCell (by simp <;> omega) _).setCell (by simp <;> omega) _⟩

set_option maxHeartbeats 3200000 in
set_option maxRecDepth 100000 in
theorem fcheckedI_e1 (X1 X2 X3 X4 : ByteArray) (g : Nat) (k : Nat) (h0 : k ≠ 0)
    (HC1 : Hid (∀ w, Tab w → Calls Tryz.prog 18 #[FrV X1 X2] w fun e w' => e = .returned (.int .i64 ((k : Nat) : Int)) ∧ Below w.heap.size w w'))
    (w : World) (hT : Tab w) :
    Calls Tryz.prog 82 #[FrV X1 X2, FrV X3 X4, .func (.func g) #[] #[]] w (IntOut w 0 k) := by
  have HT := Lib.hid hT
  have hk0 : ¬ ((k : Nat) : Int) = 0 := by omega
  have hk1 : (((k : Nat) : Int) != 0) = true := by simp; omega
  unfold FrV at *
  unfold IntOut
  obtain ⟨W, hW, hA, hB, hBl, hsz⟩ := box2T 24 w (.string X1) (.string X2) (.string X3) (.string X4)
  have x0 := hA.c0; have x1 := hA.c1; have y0 := hB.c0; have y1 := hB.c1
  have HBL := Lib.hid hBl
  have HW := Lib.hid hW
  rw [hW] at x0 x1 y0 y1
  clear hT hA hB hBl hsz hW h0
  have ix0 : ∀ w : World, (Instr.index 66 (.agg #[.string X1, .string X2, .string X3, .string X4]) (.int .i64 0)).run Tryz.prog w = .ok (.agg #[.string X1, .string X2]) w := fun _ => by kernel_rfl
  have ix1 : ∀ w : World, (Instr.index 66 (.agg #[.string X1, .string X2, .string X3, .string X4]) (.int .i64 1)).run Tryz.prog w = .ok (.agg #[.string X3, .string X4]) w := fun _ => by kernel_rfl
  go_enter Tryz.func82, Tryz.ntmps82
  go_wp2
  rw [← HW.out]
  refine wp_loop_rounds 3 ?_
  rw [rounds_succ]
  go_wp2_with fail
  have hb0 : Below w.heap.size w (W.alloc (.cells #[.string X1, .string X2] 24)) := HBL.out.alloc HBL.out.size _
  refine (HC1.out _ (HT.out.keep hb0)).mono ?_
  rintro en w1 ⟨rfl, hb1⟩
  have hB1 : Below w.heap.size w w1 := hb0.trans (hb1.mono hb0.size)
  clear hb0 hb1 x0 x1 y0 y1
  go_wp2
  go_ret2
  exact ⟨rfl, hB1.alloc hB1.size _⟩

set_option maxHeartbeats 3200000 in
set_option maxRecDepth 100000 in
theorem fcheckedI_e2 (X1 X2 X3 X4 : ByteArray) (g : Nat) (k : Nat) (h0 : k ≠ 0)
    (HC1 : Hid (∀ w, Tab w → Calls Tryz.prog 18 #[FrV X1 X2] w fun e w' => e = .returned (.int .i64 0) ∧ Below w.heap.size w w'))
    (HC2 : Hid (∀ w, Tab w → Calls Tryz.prog 18 #[FrV X3 X4] w fun e w' => e = .returned (.int .i64 ((k : Nat) : Int)) ∧ Below w.heap.size w w'))
    (w : World) (hT : Tab w) :
    Calls Tryz.prog 82 #[FrV X1 X2, FrV X3 X4, .func (.func g) #[] #[]] w (IntOut w 0 k) := by
  have HT := Lib.hid hT
  have hk0 : ¬ ((k : Nat) : Int) = 0 := by omega
  have hk1 : (((k : Nat) : Int) != 0) = true := by simp; omega
  unfold FrV at *
  unfold IntOut
  obtain ⟨W, hW, hA, hB, hBl, hsz⟩ := box2T 24 w (.string X1) (.string X2) (.string X3) (.string X4)
  have x0 := hA.c0; have x1 := hA.c1; have y0 := hB.c0; have y1 := hB.c1
  have HBL := Lib.hid hBl
  have HW := Lib.hid hW
  rw [hW] at x0 x1 y0 y1
  clear hT hA hB hBl hsz hW h0
  have ix0 : ∀ w : World, (Instr.index 66 (.agg #[.string X1, .string X2, .string X3, .string X4]) (.int .i64 0)).run Tryz.prog w = .ok (.agg #[.string X1, .string X2]) w := fun _ => by kernel_rfl
  have ix1 : ∀ w : World, (Instr.index 66 (.agg #[.string X1, .string X2, .string X3, .string X4]) (.int .i64 1)).run Tryz.prog w = .ok (.agg #[.string X3, .string X4]) w := fun _ => by kernel_rfl
  go_enter Tryz.func82, Tryz.ntmps82
  go_wp2
  rw [← HW.out]
  refine wp_loop_rounds 3 ?_
  rw [rounds_succ]
  go_wp2_with fail
  have hb0 : Below w.heap.size w (W.alloc (.cells #[.string X1, .string X2] 24)) := HBL.out.alloc HBL.out.size _
  refine (HC1.out _ (HT.out.keep hb0)).mono ?_
  rintro en w1 ⟨rfl, hb1⟩
  have hB1 : Below w.heap.size w w1 := hb0.trans (hb1.mono hb0.size)
  clear hb0 hb1 x0 x1 y0 y1
  go_wp2
  rw [rounds_succ]
  go_wp2_with fail
  have hb0 : Below w.heap.size w (w1.alloc (.cells #[.string X3, .string X4] 24)) := hB1.alloc hB1.size _
  refine (HC2.out _ (HT.out.keep hb0)).mono ?_
  rintro en w2 ⟨rfl, hb2⟩
  have hB2 : Below w.heap.size w w2 := hb0.trans (hb2.mono hb0.size)
  clear hb0 hb2
  go_wp2
  go_ret2
  exact ⟨rfl, hB2.alloc hB2.size _⟩

end Go.Proofs.YtolkiimlchfmlaaGreatDoor
