/- Walks of the laws of fractions: the reference's sums, differences, products, quotients and orders. -/
import Derived.Test.YtolkiimlchfmlaaGreatDoorGc
namespace Go.Proofs.YtolkiimlchfmlaaGreatDoor
open Go.RowKit Go.Proofs.Num

set_option maxHeartbeats 6400000 in
set_option maxRecDepth 100000 in
theorem rfAdd_chk (s r s' r' : ByteArray) (k : Nat) (h0 : k ≠ 0) (HPa : Hid (∀ w, Calls Tryz.prog 66 #[FrV s r, FrV s' r'] w fun e w' => e = .returned (.int .i64 ((k : Nat) : Int)) ∧ Below w.heap.size w w')) (w : World) :
    Calls Tryz.prog 28 #[FrV s r, FrV s' r'] w (FrE w ⟨#[]⟩ ⟨#[]⟩ k) := by
  have hk0 : ¬ ((k : Nat) : Int) = 0 := by omega
  have hk1 : (((k : Nat) : Int) != 0) = true := by simp; omega
  clear h0
  unfold FrE
  unfold FrV at *
  obtain ⟨W, hW, hA, hB, hR, hBl, hsz⟩ := box3T 24 w (.string s) (.string r) (.string s') (.string r') (.string ⟨#[]⟩) (.string ⟨#[]⟩)
  have HR := Lib.hid hR
  have HA := Lib.hid hA
  have HB := Lib.hid hB
  have x0 := hA.c0; have x1 := hA.c1; have x2 := hB.c0; have x3 := hB.c1
  have HBL := Lib.hid hBl
  have HW := Lib.hid hW
  rw [hW] at x0 x1 x2 x3
  clear hA hB hR hBl hsz hW
  go_enter Tryz.func28, Tryz.ntmps28
  go_wp2_with fail
  rw [← HW.out]
  refine (HPa.out _).mono ?_
  rintro en w1 ⟨rfl, hb1⟩
  have hB1 : Below w.heap.size w w1 := HBL.out.trans (hb1.mono HBL.out.size)
  have HA1 := Lib.hid (HA.out.keep hb1)
  have HB1 := Lib.hid (HB.out.keep hb1)
  have HR1 := Lib.hid (HR.out.keep hb1)
  clear hb1 x0 x1 x2 x3
  have hR9 := HR1.out
  have x0 := hR9.c0; have x1 := hR9.c1; have x2 := hR9.f0 0; have x3 := hR9.f0 1
  go_wp2
  refine bodyPost_ret (v := .tuple #[.agg #[.string ⟨#[]⟩, .string ⟨#[]⟩], .int .i64 ((k : Nat) : Int)]) (by simp [results, Tryz.results28, go_sem, x0, x1]) rfl ⟨rfl, (hB1.setCell (by simp <;> omega) _).setCell (by simp <;> omega) _⟩

set_option maxHeartbeats 6400000 in
set_option maxRecDepth 100000 in
theorem rfSub_chk (s r s' r' : ByteArray) (k : Nat) (h0 : k ≠ 0) (HPa : Hid (∀ w, Calls Tryz.prog 66 #[FrV s r, FrV s' r'] w fun e w' => e = .returned (.int .i64 ((k : Nat) : Int)) ∧ Below w.heap.size w w')) (w : World) :
    Calls Tryz.prog 30 #[FrV s r, FrV s' r'] w (FrE w ⟨#[]⟩ ⟨#[]⟩ k) := by
  have hk0 : ¬ ((k : Nat) : Int) = 0 := by omega
  have hk1 : (((k : Nat) : Int) != 0) = true := by simp; omega
  clear h0
  unfold FrE
  unfold FrV at *
  obtain ⟨W, hW, hA, hB, hR, hBl, hsz⟩ := box3T 24 w (.string s) (.string r) (.string s') (.string r') (.string ⟨#[]⟩) (.string ⟨#[]⟩)
  have HR := Lib.hid hR
  have HA := Lib.hid hA
  have HB := Lib.hid hB
  have x0 := hA.c0; have x1 := hA.c1; have x2 := hB.c0; have x3 := hB.c1
  have HBL := Lib.hid hBl
  have HW := Lib.hid hW
  rw [hW] at x0 x1 x2 x3
  clear hA hB hR hBl hsz hW
  go_enter Tryz.func30, Tryz.ntmps30
  go_wp2_with fail
  rw [← HW.out]
  refine (HPa.out _).mono ?_
  rintro en w1 ⟨rfl, hb1⟩
  have hB1 : Below w.heap.size w w1 := HBL.out.trans (hb1.mono HBL.out.size)
  have HA1 := Lib.hid (HA.out.keep hb1)
  have HB1 := Lib.hid (HB.out.keep hb1)
  have HR1 := Lib.hid (HR.out.keep hb1)
  clear hb1 x0 x1 x2 x3
  have hR9 := HR1.out
  have x0 := hR9.c0; have x1 := hR9.c1; have x2 := hR9.f0 0; have x3 := hR9.f0 1
  go_wp2
  refine bodyPost_ret (v := .tuple #[.agg #[.string ⟨#[]⟩, .string ⟨#[]⟩], .int .i64 ((k : Nat) : Int)]) (by simp [results, Tryz.results30, go_sem, x0, x1]) rfl ⟨rfl, (hB1.setCell (by simp <;> omega) _).setCell (by simp <;> omega) _⟩

set_option maxHeartbeats 6400000 in
set_option maxRecDepth 100000 in
theorem rfMul_chk (s r s' r' : ByteArray) (k : Nat) (h0 : k ≠ 0) (HPa : Hid (∀ w, Calls Tryz.prog 66 #[FrV s r, FrV s' r'] w fun e w' => e = .returned (.int .i64 ((k : Nat) : Int)) ∧ Below w.heap.size w w')) (w : World) :
    Calls Tryz.prog 32 #[FrV s r, FrV s' r'] w (FrE w ⟨#[]⟩ ⟨#[]⟩ k) := by
  have hk0 : ¬ ((k : Nat) : Int) = 0 := by omega
  have hk1 : (((k : Nat) : Int) != 0) = true := by simp; omega
  clear h0
  unfold FrE
  unfold FrV at *
  obtain ⟨W, hW, hA, hB, hR, hBl, hsz⟩ := box3T 24 w (.string s) (.string r) (.string s') (.string r') (.string ⟨#[]⟩) (.string ⟨#[]⟩)
  have HR := Lib.hid hR
  have HA := Lib.hid hA
  have HB := Lib.hid hB
  have x0 := hA.c0; have x1 := hA.c1; have x2 := hB.c0; have x3 := hB.c1
  have HBL := Lib.hid hBl
  have HW := Lib.hid hW
  rw [hW] at x0 x1 x2 x3
  clear hA hB hR hBl hsz hW
  go_enter Tryz.func32, Tryz.ntmps32
  go_wp2_with fail
  rw [← HW.out]
  refine (HPa.out _).mono ?_
  rintro en w1 ⟨rfl, hb1⟩
  have hB1 : Below w.heap.size w w1 := HBL.out.trans (hb1.mono HBL.out.size)
  have HA1 := Lib.hid (HA.out.keep hb1)
  have HB1 := Lib.hid (HB.out.keep hb1)
  have HR1 := Lib.hid (HR.out.keep hb1)
  clear hb1 x0 x1 x2 x3
  have hR9 := HR1.out
  have x0 := hR9.c0; have x1 := hR9.c1; have x2 := hR9.f0 0; have x3 := hR9.f0 1
  go_wp2
  refine bodyPost_ret (v := .tuple #[.agg #[.string ⟨#[]⟩, .string ⟨#[]⟩], .int .i64 ((k : Nat) : Int)]) (by simp [results, Tryz.results32, go_sem, x0, x1]) rfl ⟨rfl, (hB1.setCell (by simp <;> omega) _).setCell (by simp <;> omega) _⟩

set_option maxHeartbeats 6400000 in
set_option maxRecDepth 100000 in
theorem rfDiv_chk (s r s' r' : ByteArray) (k : Nat) (h0 : k ≠ 0) (HPa : Hid (∀ w, Calls Tryz.prog 66 #[FrV s r, FrV s' r'] w fun e w' => e = .returned (.int .i64 ((k : Nat) : Int)) ∧ Below w.heap.size w w')) (w : World) :
    Calls Tryz.prog 34 #[FrV s r, FrV s' r'] w (FrE w ⟨#[]⟩ ⟨#[]⟩ k) := by
  have hk0 : ¬ ((k : Nat) : Int) = 0 := by omega
  have hk1 : (((k : Nat) : Int) != 0) = true := by simp; omega
  clear h0
  unfold FrE
  unfold FrV at *
  obtain ⟨W, hW, hA, hB, hR, hBl, hsz⟩ := box3T 24 w (.string s) (.string r) (.string s') (.string r') (.string ⟨#[]⟩) (.string ⟨#[]⟩)
  have HR := Lib.hid hR
  have HA := Lib.hid hA
  have HB := Lib.hid hB
  have x0 := hA.c0; have x1 := hA.c1; have x2 := hB.c0; have x3 := hB.c1
  have HBL := Lib.hid hBl
  have HW := Lib.hid hW
  rw [hW] at x0 x1 x2 x3
  clear hA hB hR hBl hsz hW
  go_enter Tryz.func34, Tryz.ntmps34
  go_wp2_with fail
  rw [← HW.out]
  refine (HPa.out _).mono ?_
  rintro en w1 ⟨rfl, hb1⟩
  have hB1 : Below w.heap.size w w1 := HBL.out.trans (hb1.mono HBL.out.size)
  have HA1 := Lib.hid (HA.out.keep hb1)
  have HB1 := Lib.hid (HB.out.keep hb1)
  have HR1 := Lib.hid (HR.out.keep hb1)
  clear hb1 x0 x1 x2 x3
  have hR9 := HR1.out
  have x0 := hR9.c0; have x1 := hR9.c1; have x2 := hR9.f0 0; have x3 := hR9.f0 1
  go_wp2
  refine bodyPost_ret (v := .tuple #[.agg #[.string ⟨#[]⟩, .string ⟨#[]⟩], .int .i64 ((k : Nat) : Int)]) (by simp [results, Tryz.results34, go_sem, x0, x1]) rfl ⟨rfl, (hB1.setCell (by simp <;> omega) _).setCell (by simp <;> omega) _⟩

set_option maxHeartbeats 6400000 in
set_option maxRecDepth 100000 in
theorem rfCompare_chk (s r s' r' : ByteArray) (k : Nat) (h0 : k ≠ 0) (HPa : Hid (∀ w, Calls Tryz.prog 66 #[FrV s r, FrV s' r'] w fun e w' => e = .returned (.int .i64 ((k : Nat) : Int)) ∧ Below w.heap.size w w')) (w : World) :
    Calls Tryz.prog 36 #[FrV s r, FrV s' r'] w (IntOut w 0 k) := by
  have hk0 : ¬ ((k : Nat) : Int) = 0 := by omega
  have hk1 : (((k : Nat) : Int) != 0) = true := by simp; omega
  clear h0
  unfold IntOut
  unfold FrV at *
  obtain ⟨W, hW, hA, hB, hBl, hsz⟩ := box2T 24 w (.string s) (.string r) (.string s') (.string r')
  have HA := Lib.hid hA
  have HB := Lib.hid hB
  have x0 := hA.c0; have x1 := hA.c1; have x2 := hB.c0; have x3 := hB.c1
  have HBL := Lib.hid hBl
  have HW := Lib.hid hW
  rw [hW] at x0 x1 x2 x3
  clear hA hB hBl hsz hW
  go_enter Tryz.func36, Tryz.ntmps36
  go_wp2_with fail
  rw [← HW.out]
  refine (HPa.out _).mono ?_
  rintro en w1 ⟨rfl, hb1⟩
  have hB1 : Below w.heap.size w w1 := HBL.out.trans (hb1.mono HBL.out.size)
  have HA1 := Lib.hid (HA.out.keep hb1)
  have HB1 := Lib.hid (HB.out.keep hb1)
  clear hb1 x0 x1 x2 x3
  go_wp2
  go_ret2
  exact ⟨rfl, hB1⟩

set_option maxHeartbeats 6400000 in
set_option maxRecDepth 100000 in
theorem rfAdd_ok (s r s' r' X Y Z U A B : ByteArray) (HPa : Hid (∀ w, Calls Tryz.prog 66 #[FrV s r, FrV s' r'] w fun e w' => e = .returned (.int .i64 0) ∧ Below w.heap.size w w')) (HCr : Hid (∀ w, Calls Tryz.prog 67 #[FrV s r, FrV s' r'] w (Row3 w X Y Z))) (HcX : Hid (∀ w, Calls Tryz.prog 55 #[.string X] w fun e w' => e = .returned (.int .i64 0) ∧ w = w')) (HcY : Hid (∀ w, Calls Tryz.prog 55 #[.string Y] w fun e w' => e = .returned (.int .i64 0) ∧ w = w')) (HcZ : Hid (∀ w, Calls Tryz.prog 55 #[.string Z] w fun e w' => e = .returned (.int .i64 0) ∧ w = w')) (HPl : Hid (∀ w, Calls Tryz.prog 69 #[.string X, .string Y] w (OutR w U))) (HcU : Hid (∀ w, Calls Tryz.prog 55 #[.string U] w fun e w' => e = .returned (.int .i64 0) ∧ w = w')) (HFF : Hid (∀ w, Calls Tryz.prog 70 #[FrV s r, FrV s' r'] w (FrOut w A B))) (w : World) :
    Calls Tryz.prog 28 #[FrV s r, FrV s' r'] w (FrE w A B 0) := by
  unfold FrE
  unfold OutR at HPl
  unfold FrOut at HFF
  unfold Row3 at HCr
  unfold FrV at *
  obtain ⟨W, hW, hA, hB, hR, hBl, hsz⟩ := box3T 24 w (.string s) (.string r) (.string s') (.string r') (.string ⟨#[]⟩) (.string ⟨#[]⟩)
  have HR := Lib.hid hR
  have HA := Lib.hid hA
  have HB := Lib.hid hB
  have x0 := hA.c0; have x1 := hA.c1; have x2 := hB.c0; have x3 := hB.c1
  have HBL := Lib.hid hBl
  have HW := Lib.hid hW
  rw [hW] at x0 x1 x2 x3
  clear hA hB hR hBl hsz hW
  go_enter Tryz.func28, Tryz.ntmps28
  go_wp2_with fail
  rw [← HW.out]
  refine (HPa.out _).mono ?_
  rintro en w1 ⟨rfl, hb1⟩
  have hB1 : Below w.heap.size w w1 := HBL.out.trans (hb1.mono HBL.out.size)
  have HA1 := Lib.hid (HA.out.keep hb1)
  have HB1 := Lib.hid (HB.out.keep hb1)
  have HR1 := Lib.hid (HR.out.keep hb1)
  clear hb1 x0 x1 x2 x3
  have hA9 := HA1.out; have hB9 := HB1.out
  have x0 := hA9.c0; have x1 := hA9.c1; have x2 := hB9.c0; have x3 := hB9.c1
  clear hA9 hB9
  go_wp2_with fail
  refine (HCr.out _).mono ?_
  rintro en V ⟨p, rfl, hp, hrow, hb2⟩
  have hBV : Below w.heap.size w V := hB1.trans (hb2.mono hB1.size)
  have HA2 := Lib.hid (HA1.out.keep hb2)
  have HB2 := Lib.hid (HB1.out.keep hb2)
  have HR2 := Lib.hid (HR1.out.keep hb2)
  clear x0 x1 x2 x3 hb2
  have hlt : p < V.heap.size := (Array.getElem?_eq_some_iff.1 hrow).1
  have HS : Hid (∀ x, Below V.heap.size V x → (Below V.heap.size V x ∧ x.cell? ⟨p, 0, none⟩ = some (.string X) ∧ x.cell? ⟨p, 1, none⟩ = some (.string Y) ∧ x.cell? ⟨p, 2, none⟩ = some (.string Z))) := fun x hx => by
    refine ⟨hx, ?_, ?_, ?_⟩
    · rw [hx.cell (p := ⟨p, 0, none⟩) hlt]; exact cell_of_row V p 0 _ 22 (0, 0) hrow
    · rw [hx.cell (p := ⟨p, 1, none⟩) hlt]; exact cell_of_row V p 1 _ 22 (0, 0) hrow
    · rw [hx.cell (p := ⟨p, 2, none⟩) hlt]; exact cell_of_row V p 2 _ 22 (0, 0) hrow
  have HBV := Lib.hid hBV
  clear hrow hp hlt hBV
  have hk2 : Below V.heap.size V V := Below.refl _ _
  obtain ⟨_, f0, f1, f2⟩ := HS.out _ hk2
  go_wp2
  clear f0 f1 f2
  have hk3 := hk2.drew
  clear hk2
  have hk2 := hk3
  clear hk3
  obtain ⟨_, d0, d1, d2⟩ := HS.out _ hk2
  go_region_held3 (fun x => Below V.heap.size V x ∧ x.cell? ⟨p, 0, none⟩ = some (.string X) ∧ x.cell? ⟨p, 1, none⟩ = some (.string Y) ∧ x.cell? ⟨p, 2, none⟩ = some (.string Z))
    (first | exact HS.out _ (by assumption) | exact HS.out _ (Below.drew (by assumption)) | (refine HS.out _ ?_; exact Below.alloc hk2 hk2.size _))
    (first | (go_at_call 68; (with_reducible refine (rlong3 p 3 X Y Z HcX HcY HcZ _ (HS.out _ hk2).2.1 (HS.out _ hk2).2.2.1 (HS.out _ hk2).2.2.2).mono ?_); rintro e wz ⟨rfl, rfl⟩) | (go_at_call 68; refine (rlong1 _ _ U HcU _ (One.new 22 _ (.string U)).c0).mono ?_; rintro e wy ⟨rfl, rfl⟩) | (go_at_call 69; refine (HPl.out _).mono ?_; rintro e wz ⟨rfl, hbz⟩; have hk3 := hk2.trans (hbz.mono hk2.size); clear hbz hk2; have hk2 := hk3; clear hk3; obtain ⟨_, g0, g1, g2⟩ := HS.out _ hk2))
  rename_i hHeldz
  clear hHeldz
  obtain ⟨u, hu⟩ : ∃ u, u = wz.alloc (.cells #[.string U] 22) := ⟨_, rfl⟩
  have hku : Below V.heap.size V u := by rw [hu]; exact hk2.alloc hk2.size _
  have hBu := HBV.out.trans (hku.mono HBV.out.size)
  have HA3 := Lib.hid (HA2.out.keep hku)
  have HB3 := Lib.hid (HB2.out.keep hku)
  have HR3 := Lib.hid (HR2.out.keep hku)
  rw [← hu]
  clear hu hku hk2 d0 d1 d2 g0 g1 g2
  have hA9 := HA3.out; have hB9 := HB3.out
  have x0 := hA9.c0; have x1 := hA9.c1; have x2 := hB9.c0; have x3 := hB9.c1
  clear hA9 hB9
  go_wp2_with fail
  refine (HFF.out _).mono ?_
  rintro en w4 ⟨rfl, hb4⟩
  have hB4 : Below w.heap.size w w4 := hBu.trans (hb4.mono hBu.size)
  have HA4 := Lib.hid (HA3.out.keep hb4)
  have HB4 := Lib.hid (HB3.out.keep hb4)
  have HR4 := Lib.hid (HR3.out.keep hb4)
  clear x0 x1 x2 x3 hb4
  have hR9 := HR4.out
  have x0 := hR9.c0; have x1 := hR9.c1; have x2 := hR9.f0 0; have x3 := hR9.f0 1
  go_wp2
  refine bodyPost_ret (v := .tuple #[.agg #[.string A, .string B], .int .i64 0]) (by simp [results, Tryz.results28, go_sem, x0, x1]) rfl ⟨rfl, (hB4.setCell (by simp <;> omega) _).setCell (by simp <;> omega) _⟩

set_option maxHeartbeats 6400000 in
set_option maxRecDepth 100000 in
theorem rfSub_ok (s r s' r' X Y Z U A B : ByteArray) (HPa : Hid (∀ w, Calls Tryz.prog 66 #[FrV s r, FrV s' r'] w fun e w' => e = .returned (.int .i64 0) ∧ Below w.heap.size w w')) (HCr : Hid (∀ w, Calls Tryz.prog 67 #[FrV s r, FrV s' r'] w (Row3 w X Y Z))) (HcX : Hid (∀ w, Calls Tryz.prog 55 #[.string X] w fun e w' => e = .returned (.int .i64 0) ∧ w = w')) (HcY : Hid (∀ w, Calls Tryz.prog 55 #[.string Y] w fun e w' => e = .returned (.int .i64 0) ∧ w = w')) (HcZ : Hid (∀ w, Calls Tryz.prog 55 #[.string Z] w fun e w' => e = .returned (.int .i64 0) ∧ w = w')) (HPl : Hid (∀ w, Calls Tryz.prog 74 #[.string X, .string Y] w (OutR w U))) (HcU : Hid (∀ w, Calls Tryz.prog 55 #[.string U] w fun e w' => e = .returned (.int .i64 0) ∧ w = w')) (HFF : Hid (∀ w, Calls Tryz.prog 75 #[FrV s r, FrV s' r'] w (FrOut w A B))) (w : World) :
    Calls Tryz.prog 30 #[FrV s r, FrV s' r'] w (FrE w A B 0) := by
  unfold FrE
  unfold OutR at HPl
  unfold FrOut at HFF
  unfold Row3 at HCr
  unfold FrV at *
  obtain ⟨W, hW, hA, hB, hR, hBl, hsz⟩ := box3T 24 w (.string s) (.string r) (.string s') (.string r') (.string ⟨#[]⟩) (.string ⟨#[]⟩)
  have HR := Lib.hid hR
  have HA := Lib.hid hA
  have HB := Lib.hid hB
  have x0 := hA.c0; have x1 := hA.c1; have x2 := hB.c0; have x3 := hB.c1
  have HBL := Lib.hid hBl
  have HW := Lib.hid hW
  rw [hW] at x0 x1 x2 x3
  clear hA hB hR hBl hsz hW
  go_enter Tryz.func30, Tryz.ntmps30
  go_wp2_with fail
  rw [← HW.out]
  refine (HPa.out _).mono ?_
  rintro en w1 ⟨rfl, hb1⟩
  have hB1 : Below w.heap.size w w1 := HBL.out.trans (hb1.mono HBL.out.size)
  have HA1 := Lib.hid (HA.out.keep hb1)
  have HB1 := Lib.hid (HB.out.keep hb1)
  have HR1 := Lib.hid (HR.out.keep hb1)
  clear hb1 x0 x1 x2 x3
  have hA9 := HA1.out; have hB9 := HB1.out
  have x0 := hA9.c0; have x1 := hA9.c1; have x2 := hB9.c0; have x3 := hB9.c1
  clear hA9 hB9
  go_wp2_with fail
  refine (HCr.out _).mono ?_
  rintro en V ⟨p, rfl, hp, hrow, hb2⟩
  have hBV : Below w.heap.size w V := hB1.trans (hb2.mono hB1.size)
  have HA2 := Lib.hid (HA1.out.keep hb2)
  have HB2 := Lib.hid (HB1.out.keep hb2)
  have HR2 := Lib.hid (HR1.out.keep hb2)
  clear x0 x1 x2 x3 hb2
  have hlt : p < V.heap.size := (Array.getElem?_eq_some_iff.1 hrow).1
  have HS : Hid (∀ x, Below V.heap.size V x → (Below V.heap.size V x ∧ x.cell? ⟨p, 0, none⟩ = some (.string X) ∧ x.cell? ⟨p, 1, none⟩ = some (.string Y) ∧ x.cell? ⟨p, 2, none⟩ = some (.string Z))) := fun x hx => by
    refine ⟨hx, ?_, ?_, ?_⟩
    · rw [hx.cell (p := ⟨p, 0, none⟩) hlt]; exact cell_of_row V p 0 _ 22 (0, 0) hrow
    · rw [hx.cell (p := ⟨p, 1, none⟩) hlt]; exact cell_of_row V p 1 _ 22 (0, 0) hrow
    · rw [hx.cell (p := ⟨p, 2, none⟩) hlt]; exact cell_of_row V p 2 _ 22 (0, 0) hrow
  have HBV := Lib.hid hBV
  clear hrow hp hlt hBV
  have hk2 : Below V.heap.size V V := Below.refl _ _
  obtain ⟨_, f0, f1, f2⟩ := HS.out _ hk2
  go_wp2
  clear f0 f1 f2
  have hk3 := hk2.drew
  clear hk2
  have hk2 := hk3
  clear hk3
  obtain ⟨_, d0, d1, d2⟩ := HS.out _ hk2
  go_region_held3 (fun x => Below V.heap.size V x ∧ x.cell? ⟨p, 0, none⟩ = some (.string X) ∧ x.cell? ⟨p, 1, none⟩ = some (.string Y) ∧ x.cell? ⟨p, 2, none⟩ = some (.string Z))
    (first | exact HS.out _ (by assumption) | exact HS.out _ (Below.drew (by assumption)) | (refine HS.out _ ?_; exact Below.alloc hk2 hk2.size _))
    (first | (go_at_call 68; (with_reducible refine (rlong3 p 3 X Y Z HcX HcY HcZ _ (HS.out _ hk2).2.1 (HS.out _ hk2).2.2.1 (HS.out _ hk2).2.2.2).mono ?_); rintro e wz ⟨rfl, rfl⟩) | (go_at_call 68; refine (rlong1 _ _ U HcU _ (One.new 22 _ (.string U)).c0).mono ?_; rintro e wy ⟨rfl, rfl⟩) | (go_at_call 74; refine (HPl.out _).mono ?_; rintro e wz ⟨rfl, hbz⟩; have hk3 := hk2.trans (hbz.mono hk2.size); clear hbz hk2; have hk2 := hk3; clear hk3; obtain ⟨_, g0, g1, g2⟩ := HS.out _ hk2))
  rename_i hHeldz
  clear hHeldz
  obtain ⟨u, hu⟩ : ∃ u, u = wz.alloc (.cells #[.string U] 22) := ⟨_, rfl⟩
  have hku : Below V.heap.size V u := by rw [hu]; exact hk2.alloc hk2.size _
  have hBu := HBV.out.trans (hku.mono HBV.out.size)
  have HA3 := Lib.hid (HA2.out.keep hku)
  have HB3 := Lib.hid (HB2.out.keep hku)
  have HR3 := Lib.hid (HR2.out.keep hku)
  rw [← hu]
  clear hu hku hk2 d0 d1 d2 g0 g1 g2
  have hA9 := HA3.out; have hB9 := HB3.out
  have x0 := hA9.c0; have x1 := hA9.c1; have x2 := hB9.c0; have x3 := hB9.c1
  clear hA9 hB9
  go_wp2_with fail
  refine (HFF.out _).mono ?_
  rintro en w4 ⟨rfl, hb4⟩
  have hB4 : Below w.heap.size w w4 := hBu.trans (hb4.mono hBu.size)
  have HA4 := Lib.hid (HA3.out.keep hb4)
  have HB4 := Lib.hid (HB3.out.keep hb4)
  have HR4 := Lib.hid (HR3.out.keep hb4)
  clear x0 x1 x2 x3 hb4
  have hR9 := HR4.out
  have x0 := hR9.c0; have x1 := hR9.c1; have x2 := hR9.f0 0; have x3 := hR9.f0 1
  go_wp2
  refine bodyPost_ret (v := .tuple #[.agg #[.string A, .string B], .int .i64 0]) (by simp [results, Tryz.results30, go_sem, x0, x1]) rfl ⟨rfl, (hB4.setCell (by simp <;> omega) _).setCell (by simp <;> omega) _⟩

set_option maxHeartbeats 6400000 in
set_option maxRecDepth 100000 in
theorem rfMul_ok (s r s' r' X Y A B : ByteArray) (HPa : Hid (∀ w, Calls Tryz.prog 66 #[FrV s r, FrV s' r'] w fun e w' => e = .returned (.int .i64 0) ∧ Below w.heap.size w w')) (HT1 : Hid (∀ w, Calls Tryz.prog 78 #[.string s, .string s'] w (OutR w X))) (HT2 : Hid (∀ w, Calls Tryz.prog 78 #[.string r, .string r'] w (OutR w Y))) (HcX : Hid (∀ w, Calls Tryz.prog 55 #[.string X] w fun e w' => e = .returned (.int .i64 0) ∧ w = w')) (HcY : Hid (∀ w, Calls Tryz.prog 55 #[.string Y] w fun e w' => e = .returned (.int .i64 0) ∧ w = w')) (HFF : Hid (∀ w, Calls Tryz.prog 79 #[FrV s r, FrV s' r'] w (FrOut w A B))) (w : World) :
    Calls Tryz.prog 32 #[FrV s r, FrV s' r'] w (FrE w A B 0) := by
  unfold FrE
  unfold OutR at HT1 HT2
  unfold FrOut at HFF
  unfold FrV at *
  obtain ⟨W, hW, hA, hB, hR, hBl, hsz⟩ := box3T 24 w (.string s) (.string r) (.string s') (.string r') (.string ⟨#[]⟩) (.string ⟨#[]⟩)
  have HR := Lib.hid hR
  have HA := Lib.hid hA
  have HB := Lib.hid hB
  have x0 := hA.c0; have x1 := hA.c1; have x2 := hB.c0; have x3 := hB.c1
  have HBL := Lib.hid hBl
  have HW := Lib.hid hW
  rw [hW] at x0 x1 x2 x3
  clear hA hB hR hBl hsz hW
  go_enter Tryz.func32, Tryz.ntmps32
  go_wp2_with fail
  rw [← HW.out]
  refine (HPa.out _).mono ?_
  rintro en w1 ⟨rfl, hb1⟩
  have hB1 : Below w.heap.size w w1 := HBL.out.trans (hb1.mono HBL.out.size)
  have HA1 := Lib.hid (HA.out.keep hb1)
  have HB1 := Lib.hid (HB.out.keep hb1)
  have HR1 := Lib.hid (HR.out.keep hb1)
  clear hb1 x0 x1 x2 x3
  have HS : Hid (∀ x, Below w1.heap.size w1 x → (Below w1.heap.size w1 x ∧ x.cell? ⟨w.heap.size, 0, none⟩ = some (.string s) ∧ x.cell? ⟨w.heap.size, 1, none⟩ = some (.string r) ∧ x.cell? ⟨w.heap.size + 1, 0, none⟩ = some (.string s') ∧ x.cell? ⟨w.heap.size + 1, 1, none⟩ = some (.string r'))) := fun x hx => ⟨hx, (HA1.out.keep hx).c0, (HA1.out.keep hx).c1, (HB1.out.keep hx).c0, (HB1.out.keep hx).c1⟩
  have HBV := Lib.hid hB1
  clear hB1
  have hk2 : Below w1.heap.size w1 w1 := Below.refl _ _
  obtain ⟨_, f0, f1, f2, f3⟩ := HS.out _ hk2
  go_wp2
  clear f0 f1 f2 f3
  have hk3 := hk2.drew
  clear hk2
  have hk2 := hk3
  clear hk3
  obtain ⟨_, d0, d1, d2, d3⟩ := HS.out _ hk2
  go_region_held3 (fun x => Below w1.heap.size w1 x ∧ x.cell? ⟨w.heap.size, 0, none⟩ = some (.string s) ∧ x.cell? ⟨w.heap.size, 1, none⟩ = some (.string r) ∧ x.cell? ⟨w.heap.size + 1, 0, none⟩ = some (.string s') ∧ x.cell? ⟨w.heap.size + 1, 1, none⟩ = some (.string r'))
    (first | exact HS.out _ (by assumption) | exact HS.out _ (Below.drew (by assumption)) | (refine HS.out _ ?_; exact Below.alloc hk2 hk2.size _))
    (first | (go_at_call 68; refine (rlong2 _ _ X Y HcX HcY _ (Box.new 22 _ (.string X) (.string Y)).c0 (Box.new 22 _ (.string X) (.string Y)).c1).mono ?_; rintro e wy ⟨rfl, rfl⟩) | (go_at_call 78; (first | (with_reducible refine (HT1.out _).mono ?_) | (with_reducible refine (HT2.out _).mono ?_)); rintro e wz ⟨rfl, hbz⟩; have hk3 := hk2.trans (hbz.mono hk2.size); clear hbz hk2; have hk2 := hk3; clear hk3; obtain ⟨_, g0, g1, g2, g3⟩ := HS.out _ hk2))
  rename_i hHeldz
  clear hHeldz
  obtain ⟨u, hu⟩ : ∃ u, u = wz.alloc (.cells #[.string X, .string Y] 22) := ⟨_, rfl⟩
  have hku : Below w1.heap.size w1 u := by rw [hu]; exact hk2.alloc hk2.size _
  have hBu := HBV.out.trans (hku.mono HBV.out.size)
  have HA2 := Lib.hid (HA1.out.keep hku)
  have HB2 := Lib.hid (HB1.out.keep hku)
  have HR2 := Lib.hid (HR1.out.keep hku)
  rw [← hu]
  clear hu hku hk2 d0 d1 d2 d3 g0 g1 g2 g3
  have hA9 := HA2.out; have hB9 := HB2.out
  have x0 := hA9.c0; have x1 := hA9.c1; have x2 := hB9.c0; have x3 := hB9.c1
  clear hA9 hB9
  go_wp2_with fail
  refine (HFF.out _).mono ?_
  rintro en w4 ⟨rfl, hb4⟩
  have hB4 : Below w.heap.size w w4 := hBu.trans (hb4.mono hBu.size)
  have HA3 := Lib.hid (HA2.out.keep hb4)
  have HB3 := Lib.hid (HB2.out.keep hb4)
  have HR3 := Lib.hid (HR2.out.keep hb4)
  clear x0 x1 x2 x3 hb4
  have hR9 := HR3.out
  have x0 := hR9.c0; have x1 := hR9.c1; have x2 := hR9.f0 0; have x3 := hR9.f0 1
  go_wp2
  refine bodyPost_ret (v := .tuple #[.agg #[.string A, .string B], .int .i64 0]) (by simp [results, Tryz.results32, go_sem, x0, x1]) rfl ⟨rfl, (hB4.setCell (by simp <;> omega) _).setCell (by simp <;> omega) _⟩

set_option maxHeartbeats 6400000 in
set_option maxRecDepth 100000 in
theorem rfDiv_ok (s r s' r' X Y A B : ByteArray) (hz : (s'.toList == [48]) = false) (HPa : Hid (∀ w, Calls Tryz.prog 66 #[FrV s r, FrV s' r'] w fun e w' => e = .returned (.int .i64 0) ∧ Below w.heap.size w w')) (HT1 : Hid (∀ w, Calls Tryz.prog 78 #[.string s, .string r'] w (OutR w X))) (HT2 : Hid (∀ w, Calls Tryz.prog 78 #[.string r, .string s'] w (OutR w Y))) (HcX : Hid (∀ w, Calls Tryz.prog 55 #[.string X] w fun e w' => e = .returned (.int .i64 0) ∧ w = w')) (HcY : Hid (∀ w, Calls Tryz.prog 55 #[.string Y] w fun e w' => e = .returned (.int .i64 0) ∧ w = w')) (HFF : Hid (∀ w, Calls Tryz.prog 81 #[FrV s r, FrV s' r'] w (FrOut w A B))) (w : World) :
    Calls Tryz.prog 34 #[FrV s r, FrV s' r'] w (FrE w A B 0) := by
  unfold FrE
  unfold OutR at HT1 HT2
  unfold FrOut at HFF
  unfold FrV at *
  obtain ⟨W, hW, hA, hB, hR, hBl, hsz⟩ := box3T 24 w (.string s) (.string r) (.string s') (.string r') (.string ⟨#[]⟩) (.string ⟨#[]⟩)
  have HR := Lib.hid hR
  have HA := Lib.hid hA
  have HB := Lib.hid hB
  have x0 := hA.c0; have x1 := hA.c1; have x2 := hB.c0; have x3 := hB.c1
  have HBL := Lib.hid hBl
  have HW := Lib.hid hW
  rw [hW] at x0 x1 x2 x3
  clear hA hB hR hBl hsz hW
  go_enter Tryz.func34, Tryz.ntmps34
  go_wp2_with fail
  rw [← HW.out]
  refine (HPa.out _).mono ?_
  rintro en w1 ⟨rfl, hb1⟩
  have hB1 : Below w.heap.size w w1 := HBL.out.trans (hb1.mono HBL.out.size)
  have HA1 := Lib.hid (HA.out.keep hb1)
  have HB1 := Lib.hid (HB.out.keep hb1)
  have HR1 := Lib.hid (HR.out.keep hb1)
  clear hb1 x0 x1 x2 x3
  have HS : Hid (∀ x, Below w1.heap.size w1 x → (Below w1.heap.size w1 x ∧ x.cell? ⟨w.heap.size, 0, none⟩ = some (.string s) ∧ x.cell? ⟨w.heap.size, 1, none⟩ = some (.string r) ∧ x.cell? ⟨w.heap.size + 1, 0, none⟩ = some (.string s') ∧ x.cell? ⟨w.heap.size + 1, 1, none⟩ = some (.string r'))) := fun x hx => ⟨hx, (HA1.out.keep hx).c0, (HA1.out.keep hx).c1, (HB1.out.keep hx).c0, (HB1.out.keep hx).c1⟩
  have HBV := Lib.hid hB1
  clear hB1
  have hk2 : Below w1.heap.size w1 w1 := Below.refl _ _
  obtain ⟨_, f0, f1, f2, f3⟩ := HS.out _ hk2
  go_wp2
  clear f0 f1 f2 f3
  have hk3 := hk2.drew
  clear hk2
  have hk2 := hk3
  clear hk3
  obtain ⟨_, d0, d1, d2, d3⟩ := HS.out _ hk2
  go_region_held3 (fun x => Below w1.heap.size w1 x ∧ x.cell? ⟨w.heap.size, 0, none⟩ = some (.string s) ∧ x.cell? ⟨w.heap.size, 1, none⟩ = some (.string r) ∧ x.cell? ⟨w.heap.size + 1, 0, none⟩ = some (.string s') ∧ x.cell? ⟨w.heap.size + 1, 1, none⟩ = some (.string r'))
    (first | exact HS.out _ (by assumption) | exact HS.out _ (Below.drew (by assumption)) | (refine HS.out _ ?_; exact Below.alloc hk2 hk2.size _))
    (first | (go_at_call 68; refine (rlong2 _ _ X Y HcX HcY _ (Box.new 22 _ (.string X) (.string Y)).c0 (Box.new 22 _ (.string X) (.string Y)).c1).mono ?_; rintro e wy ⟨rfl, rfl⟩) | (go_at_call 78; (first | (with_reducible refine (HT1.out _).mono ?_) | (with_reducible refine (HT2.out _).mono ?_)); rintro e wz ⟨rfl, hbz⟩; have hk3 := hk2.trans (hbz.mono hk2.size); clear hbz hk2; have hk2 := hk3; clear hk3; obtain ⟨_, g0, g1, g2, g3⟩ := HS.out _ hk2))
  rename_i hHeldz
  clear hHeldz
  obtain ⟨u, hu⟩ : ∃ u, u = wz.alloc (.cells #[.string X, .string Y] 22) := ⟨_, rfl⟩
  have hku : Below w1.heap.size w1 u := by rw [hu]; exact hk2.alloc hk2.size _
  have hBu := HBV.out.trans (hku.mono HBV.out.size)
  have HA2 := Lib.hid (HA1.out.keep hku)
  have HB2 := Lib.hid (HB1.out.keep hku)
  have HR2 := Lib.hid (HR1.out.keep hku)
  rw [← hu]
  clear hu hku hk2 d0 d1 d2 d3 g0 g1 g2 g3
  have hA9 := HA2.out; have hB9 := HB2.out
  have x0 := hA9.c0; have x1 := hA9.c1; have x2 := hB9.c0; have x3 := hB9.c1
  clear hA9 hB9
  go_wp2_with fail
  refine (HFF.out _).mono ?_
  rintro en w4 ⟨rfl, hb4⟩
  have hB4 : Below w.heap.size w w4 := hBu.trans (hb4.mono hBu.size)
  have HA3 := Lib.hid (HA2.out.keep hb4)
  have HB3 := Lib.hid (HB2.out.keep hb4)
  have HR3 := Lib.hid (HR2.out.keep hb4)
  clear x0 x1 x2 x3 hb4
  have hR9 := HR3.out
  have x0 := hR9.c0; have x1 := hR9.c1; have x2 := hR9.f0 0; have x3 := hR9.f0 1
  go_wp2
  refine bodyPost_ret (v := .tuple #[.agg #[.string A, .string B], .int .i64 0]) (by simp [results, Tryz.results34, go_sem, x0, x1]) rfl ⟨rfl, (hB4.setCell (by simp <;> omega) _).setCell (by simp <;> omega) _⟩

set_option maxHeartbeats 6400000 in
set_option maxRecDepth 100000 in
theorem rfDiv_zero (s r s' r' : ByteArray) (hz : (s'.toList == [48]) = true) (HPa : Hid (∀ w, Calls Tryz.prog 66 #[FrV s r, FrV s' r'] w fun e w' => e = .returned (.int .i64 0) ∧ Below w.heap.size w w')) (w : World) :
    Calls Tryz.prog 34 #[FrV s r, FrV s' r'] w (FrE w ⟨#[]⟩ ⟨#[]⟩ 10) := by
  unfold FrE
  unfold FrV at *
  obtain ⟨W, hW, hA, hB, hR, hBl, hsz⟩ := box3T 24 w (.string s) (.string r) (.string s') (.string r') (.string ⟨#[]⟩) (.string ⟨#[]⟩)
  have HR := Lib.hid hR
  have HA := Lib.hid hA
  have HB := Lib.hid hB
  have x0 := hA.c0; have x1 := hA.c1; have x2 := hB.c0; have x3 := hB.c1
  have HBL := Lib.hid hBl
  have HW := Lib.hid hW
  rw [hW] at x0 x1 x2 x3
  clear hA hB hR hBl hsz hW
  go_enter Tryz.func34, Tryz.ntmps34
  go_wp2_with fail
  rw [← HW.out]
  refine (HPa.out _).mono ?_
  rintro en w1 ⟨rfl, hb1⟩
  have hB1 : Below w.heap.size w w1 := HBL.out.trans (hb1.mono HBL.out.size)
  have HA1 := Lib.hid (HA.out.keep hb1)
  have HB1 := Lib.hid (HB.out.keep hb1)
  have HR1 := Lib.hid (HR.out.keep hb1)
  clear hb1 x0 x1 x2 x3
  have hA9 := HA1.out; have hB9 := HB1.out
  have x0 := hA9.c0; have x1 := hA9.c1; have x2 := hB9.c0; have x3 := hB9.c1
  clear hA9 hB9
  have hR9 := HR1.out
  have y0 := hR9.c0; have y1 := hR9.c1; have y2 := hR9.f0 0; have y3 := hR9.f0 1
  go_wp2
  refine bodyPost_ret (v := .tuple #[.agg #[.string ⟨#[]⟩, .string ⟨#[]⟩], .int .i64 10]) (by simp [results, Tryz.results34, go_sem, y0, y1]) rfl ⟨rfl, (hB1.setCell (by simp <;> omega) _).setCell (by simp <;> omega) _⟩

set_option maxHeartbeats 6400000 in
set_option maxRecDepth 100000 in
theorem rfCompare_ok (s r s' r' X Y Z : ByteArray) (z : Int) (HPa : Hid (∀ w, Calls Tryz.prog 66 #[FrV s r, FrV s' r'] w fun e w' => e = .returned (.int .i64 0) ∧ Below w.heap.size w w')) (HCr : Hid (∀ w, Calls Tryz.prog 67 #[FrV s r, FrV s' r'] w (Row3 w X Y Z))) (HcX : Hid (∀ w, Calls Tryz.prog 55 #[.string X] w fun e w' => e = .returned (.int .i64 0) ∧ w = w')) (HcY : Hid (∀ w, Calls Tryz.prog 55 #[.string Y] w fun e w' => e = .returned (.int .i64 0) ∧ w = w')) (HO : Hid (∀ w, Calls Tryz.prog 86 #[FrV s r, FrV s' r'] w fun e w' => e = .returned (.int .i64 z) ∧ Below w.heap.size w w')) (w : World) :
    Calls Tryz.prog 36 #[FrV s r, FrV s' r'] w (IntOut w z 0) := by
  unfold IntOut
  unfold Row3 at HCr
  unfold FrV at *
  obtain ⟨W, hW, hA, hB, hBl, hsz⟩ := box2T 24 w (.string s) (.string r) (.string s') (.string r')
  have HA := Lib.hid hA
  have HB := Lib.hid hB
  have x0 := hA.c0; have x1 := hA.c1; have x2 := hB.c0; have x3 := hB.c1
  have HBL := Lib.hid hBl
  have HW := Lib.hid hW
  rw [hW] at x0 x1 x2 x3
  clear hA hB hBl hsz hW
  go_enter Tryz.func36, Tryz.ntmps36
  go_wp2_with fail
  rw [← HW.out]
  refine (HPa.out _).mono ?_
  rintro en w1 ⟨rfl, hb1⟩
  have hB1 : Below w.heap.size w w1 := HBL.out.trans (hb1.mono HBL.out.size)
  have HA1 := Lib.hid (HA.out.keep hb1)
  have HB1 := Lib.hid (HB.out.keep hb1)
  clear hb1 x0 x1 x2 x3
  have hA9 := HA1.out; have hB9 := HB1.out
  have x0 := hA9.c0; have x1 := hA9.c1; have x2 := hB9.c0; have x3 := hB9.c1
  clear hA9 hB9
  go_wp2_with fail
  refine (HCr.out _).mono ?_
  rintro en V ⟨p, rfl, hp, hrow, hb2⟩
  have hBV : Below w.heap.size w V := hB1.trans (hb2.mono hB1.size)
  have HA2 := Lib.hid (HA1.out.keep hb2)
  have HB2 := Lib.hid (HB1.out.keep hb2)
  have h0 := cell_of_row V p 0 _ 22 (0, 0) hrow
  have h1 := cell_of_row V p 1 _ 22 (0, 0) hrow
  have HL := Lib.hid (rlong2 p 3 X Y HcX HcY V h0 h1)
  clear x0 x1 x2 x3 hb2 hrow hp h0 h1
  go_wp2_with fail
  refine (HL.out).mono ?_
  rintro en V' ⟨rfl, rfl⟩
  have hA9 := HA2.out; have hB9 := HB2.out
  have x0 := hA9.c0; have x1 := hA9.c1; have x2 := hB9.c0; have x3 := hB9.c1
  clear hA9 hB9
  go_wp2_with fail
  refine (HO.out _).mono ?_
  rintro en w4 ⟨rfl, hb4⟩
  have hB4 : Below w.heap.size w w4 := hBV.trans (hb4.mono hBV.size)
  go_wp2
  go_ret2
  exact ⟨rfl, hB4⟩

end Go.Proofs.YtolkiimlchfmlaaGreatDoor
