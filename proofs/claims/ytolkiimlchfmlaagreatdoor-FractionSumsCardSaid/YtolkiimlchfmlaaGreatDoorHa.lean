/- Walks of the laws of fractions: the reference's sums where something is too long, and for all right fractions. -/
import Derived.Test.YtolkiimlchfmlaaGreatDoorGf
import Derived.Test.YtolkiimlchfmlaaGreatDoorQ13
namespace Go.Proofs.YtolkiimlchfmlaaGreatDoor
open Go.RowKit Go.Proofs.Num

set_option maxHeartbeats 6400000 in
set_option maxRecDepth 100000 in
theorem rlong1_t1 (p c : Nat) (X : ByteArray) (k : Nat) (hk : k ≠ 0) (HX : Hid (∀ w, Calls Tryz.prog 55 #[.string X] w fun e w' => e = .returned (.int .i64 ((k : Nat) : Int)) ∧ w = w')) (w : World) (h0 : w.cell? ⟨p, 0, none⟩ = some (.string X)) :
    Calls Tryz.prog 68 #[.slice (some ⟨p, 0, none⟩) 1 c] w fun e w' => e = .returned (.bool true) ∧ w = w' := by
  have hk0 : ¬ ((k : Nat) : Int) = 0 := by omega
  have hk1 : (((k : Nat) : Int) != 0) = true := by simp; omega
  clear hk
  go_enter Tryz.func68, Tryz.ntmps68
  go_wp2
  refine wp_loop_rounds 2 ?_
  rw [rounds_succ]
  go_wp2_with fail
  refine (HX.out _).mono ?_
  rintro en w1 ⟨rfl, rfl⟩
  go_wp2
  go_ret
  exact ⟨rfl, rfl⟩

set_option maxHeartbeats 6400000 in
set_option maxRecDepth 100000 in
theorem rlong3_t1 (p c : Nat) (X : ByteArray) (k : Nat) (hk : k ≠ 0) (HX : Hid (∀ w, Calls Tryz.prog 55 #[.string X] w fun e w' => e = .returned (.int .i64 ((k : Nat) : Int)) ∧ w = w')) (w : World) (h0 : w.cell? ⟨p, 0, none⟩ = some (.string X)) :
    Calls Tryz.prog 68 #[.slice (some ⟨p, 0, none⟩) 3 c] w fun e w' => e = .returned (.bool true) ∧ w = w' := by
  have hk0 : ¬ ((k : Nat) : Int) = 0 := by omega
  have hk1 : (((k : Nat) : Int) != 0) = true := by simp; omega
  clear hk
  go_enter Tryz.func68, Tryz.ntmps68
  go_wp2
  refine wp_loop_rounds 4 ?_
  rw [rounds_succ]
  go_wp2_with fail
  refine (HX.out _).mono ?_
  rintro en w1 ⟨rfl, rfl⟩
  go_wp2
  go_ret
  exact ⟨rfl, rfl⟩

set_option maxHeartbeats 6400000 in
set_option maxRecDepth 100000 in
theorem rlong3_t2 (p c : Nat) (X Y : ByteArray) (k : Nat) (hk : k ≠ 0) (HX : Hid (∀ w, Calls Tryz.prog 55 #[.string X] w fun e w' => e = .returned (.int .i64 0) ∧ w = w')) (HY : Hid (∀ w, Calls Tryz.prog 55 #[.string Y] w fun e w' => e = .returned (.int .i64 ((k : Nat) : Int)) ∧ w = w')) (w : World) (h0 : w.cell? ⟨p, 0, none⟩ = some (.string X)) (h1 : w.cell? ⟨p, 1, none⟩ = some (.string Y)) :
    Calls Tryz.prog 68 #[.slice (some ⟨p, 0, none⟩) 3 c] w fun e w' => e = .returned (.bool true) ∧ w = w' := by
  have hk0 : ¬ ((k : Nat) : Int) = 0 := by omega
  have hk1 : (((k : Nat) : Int) != 0) = true := by simp; omega
  clear hk
  go_enter Tryz.func68, Tryz.ntmps68
  go_wp2
  refine wp_loop_rounds 4 ?_
  rw [rounds_succ]
  go_wp2_with fail
  refine (HX.out _).mono ?_
  rintro en w1 ⟨rfl, rfl⟩
  go_wp2
  rw [rounds_succ]
  go_wp2_with fail
  refine (HY.out _).mono ?_
  rintro en w1 ⟨rfl, rfl⟩
  go_wp2
  go_ret
  exact ⟨rfl, rfl⟩

set_option maxHeartbeats 6400000 in
set_option maxRecDepth 100000 in
theorem rlong3_t3 (p c : Nat) (X Y Z : ByteArray) (k : Nat) (hk : k ≠ 0) (HX : Hid (∀ w, Calls Tryz.prog 55 #[.string X] w fun e w' => e = .returned (.int .i64 0) ∧ w = w')) (HY : Hid (∀ w, Calls Tryz.prog 55 #[.string Y] w fun e w' => e = .returned (.int .i64 0) ∧ w = w')) (HZ : Hid (∀ w, Calls Tryz.prog 55 #[.string Z] w fun e w' => e = .returned (.int .i64 ((k : Nat) : Int)) ∧ w = w')) (w : World) (h0 : w.cell? ⟨p, 0, none⟩ = some (.string X)) (h1 : w.cell? ⟨p, 1, none⟩ = some (.string Y)) (h2 : w.cell? ⟨p, 2, none⟩ = some (.string Z)) :
    Calls Tryz.prog 68 #[.slice (some ⟨p, 0, none⟩) 3 c] w fun e w' => e = .returned (.bool true) ∧ w = w' := by
  have hk0 : ¬ ((k : Nat) : Int) = 0 := by omega
  have hk1 : (((k : Nat) : Int) != 0) = true := by simp; omega
  clear hk
  go_enter Tryz.func68, Tryz.ntmps68
  go_wp2
  refine wp_loop_rounds 4 ?_
  rw [rounds_succ]
  go_wp2_with fail
  refine (HX.out _).mono ?_
  rintro en w1 ⟨rfl, rfl⟩
  go_wp2
  rw [rounds_succ]
  go_wp2_with fail
  refine (HY.out _).mono ?_
  rintro en w1 ⟨rfl, rfl⟩
  go_wp2
  rw [rounds_succ]
  go_wp2_with fail
  refine (HZ.out _).mono ?_
  rintro en w1 ⟨rfl, rfl⟩
  go_wp2
  go_ret
  exact ⟨rfl, rfl⟩

set_option maxHeartbeats 6400000 in
set_option maxRecDepth 100000 in
theorem rfAdd_l1 (s r s' r' X Y Z : ByteArray) (HPa : Hid (∀ w, Calls Tryz.prog 66 #[FrV s r, FrV s' r'] w fun e w' => e = .returned (.int .i64 0) ∧ Below w.heap.size w w')) (HCr : Hid (∀ w, Calls Tryz.prog 67 #[FrV s r, FrV s' r'] w (Row3 w X Y Z))) (HL3 : Hid (∀ (V : World) (p : Nat), V.cell? ⟨p, 0, none⟩ = some (.string X) → V.cell? ⟨p, 1, none⟩ = some (.string Y) → V.cell? ⟨p, 2, none⟩ = some (.string Z) → Calls Tryz.prog 68 #[.slice (some ⟨p, 0, none⟩) 3 3] V fun e w' => e = .returned (.bool true) ∧ V = w')) (w : World) :
    Calls Tryz.prog 28 #[FrV s r, FrV s' r'] w (FrE w ⟨#[]⟩ ⟨#[]⟩ 11) := by
  unfold FrE
  try unfold OutR at HPl
  unfold Row3 at HCr
  unfold FrV at *
  obtain ⟨W, hW, hA, hB, hR, hBl, hsz⟩ := box3T 24 w (.string s) (.string r) (.string s') (.string r') (.string ⟨#[]⟩) (.string ⟨#[]⟩)
  have HR := Lib.hid hR
  have HA := Lib.hid hA
  have HB := Lib.hid hB
  have x0 := hA.c0; have x1 := hA.c1; have x2 := hB.c0; have x3 := hB.c1
  have HBL := Lib.hid hBl
  have HW := Lib.hid hW
  rw [hW] at x0 x1 x2 x3
  clear hA hB hR hBl hsz hW
  go_enter Tryz.func28, Tryz.ntmps28
  go_wp2_with fail
  rw [← HW.out]
  refine (HPa.out _).mono ?_
  rintro en w1 ⟨rfl, hb1⟩
  have hB1 : Below w.heap.size w w1 := HBL.out.trans (hb1.mono HBL.out.size)
  have HA1 := Lib.hid (HA.out.keep hb1)
  have HB1 := Lib.hid (HB.out.keep hb1)
  have HR1 := Lib.hid (HR.out.keep hb1)
  clear hb1 x0 x1 x2 x3
  have hA9 := HA1.out; have hB9 := HB1.out
  have x0 := hA9.c0; have x1 := hA9.c1; have x2 := hB9.c0; have x3 := hB9.c1
  clear hA9 hB9
  go_wp2_with fail
  refine (HCr.out _).mono ?_
  rintro en V ⟨p, rfl, hp, hrow, hb2⟩
  have hBV : Below w.heap.size w V := hB1.trans (hb2.mono hB1.size)
  have HA2 := Lib.hid (HA1.out.keep hb2)
  have HB2 := Lib.hid (HB1.out.keep hb2)
  have HR2 := Lib.hid (HR1.out.keep hb2)
  clear x0 x1 x2 x3 hb2
  have hlt : p < V.heap.size := (Array.getElem?_eq_some_iff.1 hrow).1
  have HS : Hid (∀ x, Below V.heap.size V x → (Below V.heap.size V x ∧ x.cell? ⟨p, 0, none⟩ = some (.string X) ∧ x.cell? ⟨p, 1, none⟩ = some (.string Y) ∧ x.cell? ⟨p, 2, none⟩ = some (.string Z))) := fun x hx => by
    refine ⟨hx, ?_, ?_, ?_⟩
    · rw [hx.cell (p := ⟨p, 0, none⟩) hlt]; exact cell_of_row V p 0 _ 22 (0, 0) hrow
    · rw [hx.cell (p := ⟨p, 1, none⟩) hlt]; exact cell_of_row V p 1 _ 22 (0, 0) hrow
    · rw [hx.cell (p := ⟨p, 2, none⟩) hlt]; exact cell_of_row V p 2 _ 22 (0, 0) hrow
  have HBV := Lib.hid hBV
  clear hrow hp hlt hBV
  have hk2 : Below V.heap.size V V := Below.refl _ _
  obtain ⟨_, f0, f1, f2⟩ := HS.out _ hk2
  go_wp2
  clear f0 f1 f2
  have hk3 := hk2.drew
  clear hk2
  have hk2 := hk3
  clear hk3
  obtain ⟨_, d0, d1, d2⟩ := HS.out _ hk2
  refine wp_region_late (S := fun u => Below V.heap.size V u) (X := []) (by kernel_rfl) ?_
  refine wpAnyL_pureD (i := 0) 18 (.slice (some ⟨p, 0, none⟩) 3 3) rfl rfl (by kernel_rfl) (by kernel_rfl) (by kernel_rfl) (fun _ _ _ h => h) (Or.inl ⟨by rfl, fun u _ => ?_⟩) ?_
  · go_simp
  try simp only [Act.put, List.setIfInBounds_toArray]
  refine wpAnyL_one (i := 1) (by kernel_rfl) rfl (fun K hK => ?_)
  go_simp
  go_at_call 68
  refine (HL3.out _ p d0 d1 d2).mono ?_
  rintro e wz ⟨rfl, rfl⟩
  show K _ _
  refine hK.out _ _ (fun _ h => h) ?_
  clear hK K
  try simp only [Act.put]
  refine wpAnyL_pureD (i := 2) 20 (.bool true) rfl rfl (by kernel_rfl) (by kernel_rfl) (by kernel_rfl) (fun _ _ _ h => h) (Or.inl ⟨by rfl, fun u _ => ?_⟩) ?_
  · go_simp
  try simp only [Act.put]
  refine wpAnyL_pureD (i := 3) 21 undef rfl rfl (by kernel_rfl) (by kernel_rfl) (by kernel_rfl) (fun _ _ _ h => h) (Or.inr ⟨by kernel_rfl, rfl⟩) ?_
  refine wpAnyL_pureD (i := 4) 22 undef rfl rfl (by kernel_rfl) (by kernel_rfl) (by kernel_rfl) (fun _ _ _ h => h) (Or.inr ⟨by kernel_rfl, rfl⟩) ?_
  refine wpAnyL_pureD (i := 5) 23 undef rfl rfl (by kernel_rfl) (by kernel_rfl) (by kernel_rfl) (fun _ _ _ h => h) (Or.inr ⟨by kernel_rfl, rfl⟩) ?_
  refine wpAnyL_pureD (i := 6) 24 undef rfl rfl (by kernel_rfl) (by kernel_rfl) (by kernel_rfl) (fun _ _ _ h => h) (Or.inr ⟨by kernel_rfl, rfl⟩) ?_
  refine wpAnyL_pureD (i := 7) 25 undef rfl rfl (by kernel_rfl) (by kernel_rfl) (by kernel_rfl) (fun _ _ _ h => h) (Or.inr ⟨by kernel_rfl, rfl⟩) ?_
  refine wpAnyL_pureD (i := 8) 26 undef rfl rfl (by kernel_rfl) (by kernel_rfl) (by kernel_rfl) (fun _ _ _ h => h) (Or.inr ⟨by kernel_rfl, rfl⟩) ?_
  refine wpAnyL_pureD (i := 9) 27 undef rfl rfl (by kernel_rfl) (by kernel_rfl) (by kernel_rfl) (fun _ _ _ h => h) (Or.inr ⟨by kernel_rfl, rfl⟩) ?_
  refine wpAnyL_pureD (i := 10) 28 undef rfl rfl (by kernel_rfl) (by kernel_rfl) (by kernel_rfl) (fun _ _ _ h => h) (Or.inr ⟨by kernel_rfl, rfl⟩) ?_
  refine wpAnyL_pureD (i := 11) 29 undef rfl rfl (by kernel_rfl) (by kernel_rfl) (by kernel_rfl) (fun _ _ _ h => h) (Or.inr ⟨by kernel_rfl, rfl⟩) ?_
  refine wpAnyL_pureD (i := 12) 30 (.bool true) rfl rfl (by kernel_rfl) (by kernel_rfl) (by kernel_rfl) (fun _ _ _ h => h) (Or.inl ⟨by kernel_rfl, fun u _ => ?_⟩) ?_
  · simp only [Act.put, List.setIfInBounds_toArray, List.set_cons_zero, List.set_cons_succ]
    go_simp
  refine wpAnyL_done (by kernel_rfl) ?_ _
  simp only [Act.put, List.setIfInBounds_toArray, List.set_cons_zero, List.set_cons_succ]
  obtain ⟨u, hu⟩ : ∃ u, u = V.drew := ⟨_, rfl⟩
  have hku : Below V.heap.size V u := by rw [hu]; exact hk2
  have hBu := HBV.out.trans (hku.mono HBV.out.size)
  have HA3 := Lib.hid (HA2.out.keep hku)
  have HB3 := Lib.hid (HB2.out.keep hku)
  have HR3 := Lib.hid (HR2.out.keep hku)
  rw [← hu]
  clear hu hku hk2 d0 d1 d2
  have hR9 := HR3.out
  have x0 := hR9.c0; have x1 := hR9.c1; have x2 := hR9.f0 0; have x3 := hR9.f0 1
  go_wp2
  refine bodyPost_ret (v := .tuple #[.agg #[.string ⟨#[]⟩, .string ⟨#[]⟩], .int .i64 11]) (by simp [results, Tryz.results28, go_sem, x0, x1]) rfl ⟨rfl, (hBu.setCell (by simp <;> omega) _).setCell (by simp <;> omega) _⟩

set_option maxHeartbeats 6400000 in
set_option maxRecDepth 100000 in
theorem rfAdd_l2 (s r s' r' X Y Z U : ByteArray) (HPa : Hid (∀ w, Calls Tryz.prog 66 #[FrV s r, FrV s' r'] w fun e w' => e = .returned (.int .i64 0) ∧ Below w.heap.size w w')) (HCr : Hid (∀ w, Calls Tryz.prog 67 #[FrV s r, FrV s' r'] w (Row3 w X Y Z))) (HL3 : Hid (∀ (V : World) (p : Nat), V.cell? ⟨p, 0, none⟩ = some (.string X) → V.cell? ⟨p, 1, none⟩ = some (.string Y) → V.cell? ⟨p, 2, none⟩ = some (.string Z) → Calls Tryz.prog 68 #[.slice (some ⟨p, 0, none⟩) 3 3] V fun e w' => e = .returned (.bool false) ∧ V = w')) (HPl : Hid (∀ w, Calls Tryz.prog 69 #[.string X, .string Y] w (OutR w U))) (HL1 : Hid (∀ (V : World) (p : Nat), V.cell? ⟨p, 0, none⟩ = some (.string U) → Calls Tryz.prog 68 #[.slice (some ⟨p, 0, none⟩) 1 1] V fun e w' => e = .returned (.bool true) ∧ V = w')) (w : World) :
    Calls Tryz.prog 28 #[FrV s r, FrV s' r'] w (FrE w ⟨#[]⟩ ⟨#[]⟩ 11) := by
  unfold FrE
  try unfold OutR at HPl
  unfold Row3 at HCr
  unfold FrV at *
  obtain ⟨W, hW, hA, hB, hR, hBl, hsz⟩ := box3T 24 w (.string s) (.string r) (.string s') (.string r') (.string ⟨#[]⟩) (.string ⟨#[]⟩)
  have HR := Lib.hid hR
  have HA := Lib.hid hA
  have HB := Lib.hid hB
  have x0 := hA.c0; have x1 := hA.c1; have x2 := hB.c0; have x3 := hB.c1
  have HBL := Lib.hid hBl
  have HW := Lib.hid hW
  rw [hW] at x0 x1 x2 x3
  clear hA hB hR hBl hsz hW
  go_enter Tryz.func28, Tryz.ntmps28
  go_wp2_with fail
  rw [← HW.out]
  refine (HPa.out _).mono ?_
  rintro en w1 ⟨rfl, hb1⟩
  have hB1 : Below w.heap.size w w1 := HBL.out.trans (hb1.mono HBL.out.size)
  have HA1 := Lib.hid (HA.out.keep hb1)
  have HB1 := Lib.hid (HB.out.keep hb1)
  have HR1 := Lib.hid (HR.out.keep hb1)
  clear hb1 x0 x1 x2 x3
  have hA9 := HA1.out; have hB9 := HB1.out
  have x0 := hA9.c0; have x1 := hA9.c1; have x2 := hB9.c0; have x3 := hB9.c1
  clear hA9 hB9
  go_wp2_with fail
  refine (HCr.out _).mono ?_
  rintro en V ⟨p, rfl, hp, hrow, hb2⟩
  have hBV : Below w.heap.size w V := hB1.trans (hb2.mono hB1.size)
  have HA2 := Lib.hid (HA1.out.keep hb2)
  have HB2 := Lib.hid (HB1.out.keep hb2)
  have HR2 := Lib.hid (HR1.out.keep hb2)
  clear x0 x1 x2 x3 hb2
  have hlt : p < V.heap.size := (Array.getElem?_eq_some_iff.1 hrow).1
  have HS : Hid (∀ x, Below V.heap.size V x → (Below V.heap.size V x ∧ x.cell? ⟨p, 0, none⟩ = some (.string X) ∧ x.cell? ⟨p, 1, none⟩ = some (.string Y) ∧ x.cell? ⟨p, 2, none⟩ = some (.string Z))) := fun x hx => by
    refine ⟨hx, ?_, ?_, ?_⟩
    · rw [hx.cell (p := ⟨p, 0, none⟩) hlt]; exact cell_of_row V p 0 _ 22 (0, 0) hrow
    · rw [hx.cell (p := ⟨p, 1, none⟩) hlt]; exact cell_of_row V p 1 _ 22 (0, 0) hrow
    · rw [hx.cell (p := ⟨p, 2, none⟩) hlt]; exact cell_of_row V p 2 _ 22 (0, 0) hrow
  have HBV := Lib.hid hBV
  clear hrow hp hlt hBV
  have hk2 : Below V.heap.size V V := Below.refl _ _
  obtain ⟨_, f0, f1, f2⟩ := HS.out _ hk2
  go_wp2
  clear f0 f1 f2
  have hk3 := hk2.drew
  clear hk2
  have hk2 := hk3
  clear hk3
  obtain ⟨_, d0, d1, d2⟩ := HS.out _ hk2
  go_region_held3 (fun x => Below V.heap.size V x ∧ x.cell? ⟨p, 0, none⟩ = some (.string X) ∧ x.cell? ⟨p, 1, none⟩ = some (.string Y) ∧ x.cell? ⟨p, 2, none⟩ = some (.string Z))
    (first | exact HS.out _ (by assumption) | exact HS.out _ (Below.drew (by assumption)) | (refine HS.out _ ?_; exact Below.alloc hk2 hk2.size _))
    (first | (go_at_call 68; (with_reducible refine (HL3.out _ p (HS.out _ hk2).2.1 (HS.out _ hk2).2.2.1 (HS.out _ hk2).2.2.2).mono ?_); rintro e wz ⟨rfl, rfl⟩) | (go_at_call 68; refine (HL1.out _ _ (One.new 22 _ (.string U)).c0).mono ?_; rintro e wy ⟨rfl, rfl⟩) | (go_at_call 69; refine (HPl.out _).mono ?_; rintro e wz ⟨rfl, hbz⟩; have hk3 := hk2.trans (hbz.mono hk2.size); clear hbz hk2; have hk2 := hk3; clear hk3; obtain ⟨_, g0, g1, g2⟩ := HS.out _ hk2))
  rename_i hHeldz
  clear hHeldz
  obtain ⟨u, hu⟩ : ∃ u, u = wz.alloc (.cells #[.string U] 22) := ⟨_, rfl⟩
  have hku : Below V.heap.size V u := by rw [hu]; exact hk2.alloc hk2.size _
  have hBu := HBV.out.trans (hku.mono HBV.out.size)
  have HA3 := Lib.hid (HA2.out.keep hku)
  have HB3 := Lib.hid (HB2.out.keep hku)
  have HR3 := Lib.hid (HR2.out.keep hku)
  rw [← hu]
  clear hu hku hk2 d0 d1 d2 g0 g1 g2
  have hR9 := HR3.out
  have x0 := hR9.c0; have x1 := hR9.c1; have x2 := hR9.f0 0; have x3 := hR9.f0 1
  go_wp2
  refine bodyPost_ret (v := .tuple #[.agg #[.string ⟨#[]⟩, .string ⟨#[]⟩], .int .i64 11]) (by simp [results, Tryz.results28, go_sem, x0, x1]) rfl ⟨rfl, (hBu.setCell (by simp <;> omega) _).setCell (by simp <;> omega) _⟩

theorem rcheckTe {d : Nat} (z : Int) (hz : Few d z) (h1 : 1 ≤ d) (hd : d ≤ 100000) (w : World) :
    Calls Tryz.prog 55 #[.string (T z)] w fun e w' => e = .returned (.int .i64 ((te z : Nat) : Int)) ∧ w = w' := by
  have hs := T_size hz h1
  have h := rcheck_any (T z) w (by omega)
  rw [T_data, chk_itoa] at h
  exact h

set_option maxHeartbeats 6400000 in
/-- The reference's sum of two right fractions, whatever their length. -/
theorem rfAddT {D : Nat} (n d m e : Int) (hn : Few D n) (hd : Few D d) (hm : Few D m) (he : Few D e) (h1 : 1 ≤ D) (hD : D = 1024) (hl : Low n d) (hl' : Low m e) (w : World) :
    Calls Tryz.prog 28 #[FrV (T n) (T d), FrV (T m) (T e)] w
      (FrE w (frA (cc (n * e) (m * d) (n * e + m * d) (d * e)) (n * e + m * d) (d * e)) (frB (cc (n * e) (m * d) (n * e + m * d) (d * e)) (n * e + m * d) (d * e)) (cc (n * e) (m * d) (n * e + m * d) (d * e))) := by
  have h0 : d * e ≠ 0 := Int.mul_ne_zero (by have := hl.1; omega) (by have := hl'.1; omega)
  have HK1 := fun w => rfcheck_any (T n) (T d) (hn.size h1 (by omega)) (hd.size h1 (by omega)) w
  rw [fchk_T hn hd h1 (by omega) hl] at HK1
  have HK2 := fun w => rfcheck_any (T m) (T e) (hm.size h1 (by omega)) (he.size h1 (by omega)) w
  rw [fchk_T hm he h1 (by omega) hl'] at HK2
  have HPa := fun w => rpair_2 (T n) (T d) (T m) (T e) 0 (Lib.hid HK1) (Lib.hid HK2) w
  have T1 := fun w => rtimes_any n e hn he h1 (by omega) h1 (by omega) w
  have T2 := fun w => rtimes_any m d hm hd h1 (by omega) h1 (by omega) w
  have T3 := fun w => rtimes_any d e hd he h1 (by omega) h1 (by omega) w
  have HCr := fun w => rfcrossed (T n) (T d) (T m) (T e) (T (n * e)) (T (m * d)) (T (d * e)) (Lib.hid T1) (Lib.hid T2) (Lib.hid T3) w
  have Fx : Few (D + D) (n * e) := hn.mul he
  have Fy : Few (D + D) (m * d) := hm.mul hd
  have Fu : Few (D + D) (d * e) := hd.mul he
  have Fz : Few (D + D + 1) (n * e + m * d) := Fx.add Fy
  have C1 := rcheckTe _ Fx (by omega) (by omega)
  have C2 := rcheckTe _ Fy (by omega) (by omega)
  have C3 := rcheckTe _ Fu (by omega) (by omega)
  have C4 := rcheckTe _ Fz (by omega) (by omega)
  have P1 := fun w => rplus_any (n * e) (m * d) Fx Fy (by omega) (by omega) w
  have HLo := fun (w : World) => rlowestT (n * e + m * d) (d * e) Fz (Fu.le (by omega)) h0 (by omega) (by omega) w
  have w1 := te_ways (n * e)
  have w2 := te_ways (m * d)
  have w3 := te_ways (d * e)
  have w4 := te_ways (n * e + m * d)
  have hbad : cc (n * e) (m * d) (n * e + m * d) (d * e) ≠ 0 → cc (n * e) (m * d) (n * e + m * d) (d * e) = 11 := by
    unfold cc pc
    rcases w1 with a | a <;> rcases w2 with b | b <;> rcases w3 with c | c <;> rcases w4 with f | f <;> rw [a, b, c, f] <;> simp
  by_cases k1 : te (n * e) = 0
  · rw [k1] at C1
    by_cases k2 : te (m * d) = 0
    · rw [k2] at C2
      by_cases k3 : te (d * e) = 0
      · rw [k3] at C3
        by_cases k4 : te (n * e + m * d) = 0
        · rw [k4] at C4
          have hc : cc (n * e) (m * d) (n * e + m * d) (d * e) = 0 := by unfold cc pc; rw [k1, k2, k3, k4]; simp
          rw [hc, frA_zero, frB_zero]
          exact rfAdd_ok (T n) (T d) (T m) (T e) _ _ _ (T (n * e + m * d)) _ _ (Lib.hid HPa) (Lib.hid HCr) (Lib.hid C1) (Lib.hid C2) (Lib.hid C3) (Lib.hid P1) (Lib.hid C4)
            (Lib.hid fun w => rfPlus (T n) (T d) (T m) (T e) _ _ _ _ _ _ (Lib.hid T1) (Lib.hid T2) (Lib.hid T3) (Lib.hid P1) (Lib.hid HLo) w) w
        · have hc : cc (n * e) (m * d) (n * e + m * d) (d * e) ≠ 0 := by unfold cc pc; rw [k1, k2]; simp [k4]
          rw [frA_bad hc, frB_bad hc, hbad hc]
          exact rfAdd_l2 (T n) (T d) (T m) (T e) _ _ _ (T (n * e + m * d)) (Lib.hid HPa) (Lib.hid HCr) (Lib.hid fun V p a b c => rlong3 p 3 _ _ _ (Lib.hid C1) (Lib.hid C2) (Lib.hid C3) V a b c) (Lib.hid P1)
            (Lib.hid fun V p a => rlong1_t1 p 1 _ _ k4 (Lib.hid C4) V a) w
      · have hc : cc (n * e) (m * d) (n * e + m * d) (d * e) ≠ 0 := by
          unfold cc pc
          rcases w4 with f | f <;> rw [k1, k2, f] <;> simp [k3]
        rw [frA_bad hc, frB_bad hc, hbad hc]
        exact rfAdd_l1 (T n) (T d) (T m) (T e) _ _ _ (Lib.hid HPa) (Lib.hid HCr) (Lib.hid fun V p a b c => rlong3_t3 p 3 _ _ _ _ k3 (Lib.hid C1) (Lib.hid C2) (Lib.hid C3) V a b c) w
    · have hc : cc (n * e) (m * d) (n * e + m * d) (d * e) ≠ 0 := by unfold cc pc; rw [k1]; simp [k2]
      rw [frA_bad hc, frB_bad hc, hbad hc]
      exact rfAdd_l1 (T n) (T d) (T m) (T e) _ _ _ (Lib.hid HPa) (Lib.hid HCr) (Lib.hid fun V p a b _ => rlong3_t2 p 3 _ _ _ k2 (Lib.hid C1) (Lib.hid C2) V a b) w
  · have hc : cc (n * e) (m * d) (n * e + m * d) (d * e) ≠ 0 := by unfold cc pc; simp [k1]
    rw [frA_bad hc, frB_bad hc, hbad hc]
    exact rfAdd_l1 (T n) (T d) (T m) (T e) _ _ _ (Lib.hid HPa) (Lib.hid HCr) (Lib.hid fun V p a _ _ => rlong3_t1 p 3 _ _ k1 (Lib.hid C1) V a) w

/-- The program's sum without a check. -/
theorem faddT {D : Nat} (n d m e : Int) (hn : Few D n) (hd : Few D d) (hm : Few D m) (he : Few D e) (h1 : 1 ≤ D) (hD : D = 1024) (hl : Low n d) (hl' : Low m e) (w : World) (hT : Tab w) :
    Calls Tryz.prog 65 #[FrV (T n) (T d), FrV (T m) (T e)] w
      (FrE w (frA (cc (n * e) (m * d) (n * e + m * d) (d * e)) (n * e + m * d) (d * e)) (frB (cc (n * e) (m * d) (n * e + m * d) (d * e)) (n * e + m * d) (d * e)) (cc (n * e) (m * d) (n * e + m * d) (d * e))) := by
  have h0 : d * e ≠ 0 := Int.mul_ne_zero (by have := hl.1; omega) (by have := hl'.1; omega)
  exact fadd_in _ _ _ _ _ _ _ (fun w hT => fcombined_add n d m e hn hd hm he h1 hD h0 w hT) w hT

end Go.Proofs.YtolkiimlchfmlaaGreatDoor
