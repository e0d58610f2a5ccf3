/- Walks of the laws of fractions: what the reference computes. -/
import Derived.Test.YtolkiimlchfmlaaGreatDoorFw
namespace Go.Proofs.YtolkiimlchfmlaaGreatDoor
open Go.RowKit Go.Proofs.Num

set_option maxHeartbeats 3200000 in
set_option maxRecDepth 100000 in
theorem rpair_e1 (s r s' r' : ByteArray) (k : Nat) (h0 : k ≠ 0) (HC1 : Hid (∀ w, Calls Tryz.prog 19 #[FrV s r] w fun e w' => e = .returned (.int .i64 ((k : Nat) : Int)) ∧ Below w.heap.size w w')) (w : World) :
    Calls Tryz.prog 66 #[FrV s r, FrV s' r'] w fun e w' => e = .returned (.int .i64 ((k : Nat) : Int)) ∧ Below w.heap.size w w' := by
  have hk0 : ¬ ((k : Nat) : Int) = 0 := by omega
  have hk1 : (((k : Nat) : Int) != 0) = true := by simp; omega
  unfold FrV at *
  obtain ⟨W, hW, hA, hB, hBl, hsz⟩ := box2T 24 w (.string s) (.string r) (.string s') (.string r')
  have HB := Lib.hid hB
  have x0 := hA.c0; have x1 := hA.c1
  have HBL := Lib.hid hBl
  have HW := Lib.hid hW
  rw [hW] at x0 x1
  clear hA hB hBl hsz hW h0
  go_enter Tryz.func66, Tryz.ntmps66
  go_wp2_with fail
  rw [← HW.out]
  refine (HC1.out _).mono ?_
  rintro en w1 ⟨rfl, hb1⟩
  have hB1 : Below w.heap.size w w1 := HBL.out.trans (hb1.mono HBL.out.size)
  clear x0 x1
  go_wp2
  go_ret
  exact ⟨rfl, hB1⟩

set_option maxHeartbeats 3200000 in
set_option maxRecDepth 100000 in
theorem rpair_2 (s r s' r' : ByteArray) (k : Nat) (HC1 : Hid (∀ w, Calls Tryz.prog 19 #[FrV s r] w fun e w' => e = .returned (.int .i64 0) ∧ Below w.heap.size w w')) (HC2 : Hid (∀ w, Calls Tryz.prog 19 #[FrV s' r'] w fun e w' => e = .returned (.int .i64 ((k : Nat) : Int)) ∧ Below w.heap.size w w')) (w : World) :
    Calls Tryz.prog 66 #[FrV s r, FrV s' r'] w fun e w' => e = .returned (.int .i64 ((k : Nat) : Int)) ∧ Below w.heap.size w w' := by
  unfold FrV at *
  obtain ⟨W, hW, hA, hB, hBl, hsz⟩ := box2T 24 w (.string s) (.string r) (.string s') (.string r')
  have HB := Lib.hid hB
  have x0 := hA.c0; have x1 := hA.c1
  have HBL := Lib.hid hBl
  have HW := Lib.hid hW
  rw [hW] at x0 x1
  clear hA hB hBl hsz hW
  go_enter Tryz.func66, Tryz.ntmps66
  go_wp2_with fail
  rw [← HW.out]
  refine (HC1.out _).mono ?_
  rintro en w1 ⟨rfl, hb1⟩
  have hB1 : Below w.heap.size w w1 := HBL.out.trans (hb1.mono HBL.out.size)
  clear x0 x1
  have hE1 := HB.out.keep hb1
  have x0 := hE1.c0; have x1 := hE1.c1
  clear hE1
  go_wp2_with fail
  refine (HC2.out _).mono ?_
  rintro en w2 ⟨rfl, hb2⟩
  have hB2 : Below w.heap.size w w2 := hB1.trans (hb2.mono hB1.size)
  go_wp2
  go_ret
  exact ⟨rfl, hB2⟩

set_option maxHeartbeats 3200000 in
set_option maxRecDepth 100000 in
theorem rlowest_pos (X Y G A B : ByteArray) (HCm : Hid (∀ w, Calls Tryz.prog 57 #[.string X, .string Y] w (OutR w G)))
    (HMi : Hid (∀ w, Calls Tryz.prog 63 #[.string Y] w fun e w' => e = .returned (.bool false) ∧ w = w'))
    (HD1 : Hid (∀ w, Calls Tryz.prog 51 #[.string X, .string G] w (OutR w A))) (HD2 : Hid (∀ w, Calls Tryz.prog 51 #[.string Y, .string G] w (OutR w B))) (w : World) :
    Calls Tryz.prog 59 #[.string X, .string Y] w (FrOut w A B) := by
  unfold OutR at *
  unfold FrOut FrV
  obtain ⟨W, hW, hR, hBl, hsz⟩ := box1T 24 w (.string ⟨#[]⟩) (.string ⟨#[]⟩)
  have HR := Lib.hid hR
  have HBL := Lib.hid hBl
  have HW := Lib.hid hW
  clear hR hBl hsz hW
  go_enter Tryz.func59, Tryz.ntmps59
  go_wp2_with fail
  rw [← HW.out]
  refine (HCm.out _).mono ?_
  rintro en w1 ⟨rfl, hb1⟩
  have hB1 : Below w.heap.size w w1 := HBL.out.trans (hb1.mono HBL.out.size)
  have hR1 := Lib.hid (HR.out.keep hb1)
  clear hb1
  go_wp2_with fail
  refine (HMi.out _).mono ?_
  rintro en w1 ⟨rfl, rfl⟩
  go_wp2_with fail
  refine (HD1.out _).mono ?_
  rintro en w3 ⟨rfl, hb3⟩
  have hB3 : Below w.heap.size w w3 := hB1.trans (hb3.mono hB1.size)
  have hR3 := Lib.hid (hR1.out.keep hb3)
  clear hb3
  go_wp2_with fail
  refine (HD2.out _).mono ?_
  rintro en w4 ⟨rfl, hb4⟩
  have hB4 : Below w.heap.size w w4 := hB3.trans (hb4.mono hB3.size)
  have hR4 := hR3.out.keep hb4
  have x0 := hR4.c0; have x1 := hR4.c1; have x2 := hR4.f0 0; have x3 := hR4.f0 1
  clear hb4 hR4
  go_wp2
  refine bodyPost_ret (v := .agg #[.string A, .string B]) (by simp [results, Tryz.results59, go_sem, x0, x1]) rfl ⟨rfl, (hB4.setCell (by simp <;> omega) _).setCell (by simp <;> omega) _⟩

set_option maxHeartbeats 3200000 in
set_option maxRecDepth 100000 in
theorem rlowest_neg (X Y G H A B : ByteArray) (HCm : Hid (∀ w, Calls Tryz.prog 57 #[.string X, .string Y] w (OutR w G)))
    (HMi : Hid (∀ w, Calls Tryz.prog 63 #[.string Y] w fun e w' => e = .returned (.bool true) ∧ w = w')) (HTu : Hid (∀ w, Calls Tryz.prog 95 #[.string G] w (OutR w H)))
    (HD1 : Hid (∀ w, Calls Tryz.prog 51 #[.string X, .string H] w (OutR w A))) (HD2 : Hid (∀ w, Calls Tryz.prog 51 #[.string Y, .string H] w (OutR w B))) (w : World) :
    Calls Tryz.prog 59 #[.string X, .string Y] w (FrOut w A B) := by
  unfold OutR at *
  unfold FrOut FrV
  obtain ⟨W, hW, hR, hBl, hsz⟩ := box1T 24 w (.string ⟨#[]⟩) (.string ⟨#[]⟩)
  have HR := Lib.hid hR
  have HBL := Lib.hid hBl
  have HW := Lib.hid hW
  clear hR hBl hsz hW
  go_enter Tryz.func59, Tryz.ntmps59
  go_wp2_with fail
  rw [← HW.out]
  refine (HCm.out _).mono ?_
  rintro en w1 ⟨rfl, hb1⟩
  have hB1 : Below w.heap.size w w1 := HBL.out.trans (hb1.mono HBL.out.size)
  have hR1 := Lib.hid (HR.out.keep hb1)
  clear hb1
  go_wp2_with fail
  refine (HMi.out _).mono ?_
  rintro en w1 ⟨rfl, rfl⟩
  go_wp2_with fail
  refine (HTu.out _).mono ?_
  rintro en w2 ⟨rfl, hb2⟩
  have hB2 : Below w.heap.size w w2 := hB1.trans (hb2.mono hB1.size)
  have hR2 := Lib.hid (hR1.out.keep hb2)
  clear hb2
  go_wp2_with fail
  refine (HD1.out _).mono ?_
  rintro en w3 ⟨rfl, hb3⟩
  have hB3 : Below w.heap.size w w3 := hB2.trans (hb3.mono hB2.size)
  have hR3 := Lib.hid (hR2.out.keep hb3)
  clear hb3
  go_wp2_with fail
  refine (HD2.out _).mono ?_
  rintro en w4 ⟨rfl, hb4⟩
  have hB4 : Below w.heap.size w w4 := hB3.trans (hb4.mono hB3.size)
  have hR4 := hR3.out.keep hb4
  have x0 := hR4.c0; have x1 := hR4.c1; have x2 := hR4.f0 0; have x3 := hR4.f0 1
  clear hb4 hR4
  go_wp2
  refine bodyPost_ret (v := .agg #[.string A, .string B]) (by simp [results, Tryz.results59, go_sem, x0, x1]) rfl ⟨rfl, (hB4.setCell (by simp <;> omega) _).setCell (by simp <;> omega) _⟩

set_option maxHeartbeats 3200000 in
set_option maxRecDepth 100000 in
theorem rfTimes (s r s' r' X Y A B : ByteArray) (HT1 : Hid (∀ w, Calls Tryz.prog 78 #[.string s, .string s'] w (OutR w X))) (HT2 : Hid (∀ w, Calls Tryz.prog 78 #[.string r, .string r'] w (OutR w Y))) (HLo : Hid (∀ w, Calls Tryz.prog 59 #[.string X, .string Y] w (FrOut w A B))) (w : World) :
    Calls Tryz.prog 79 #[FrV s r, FrV s' r'] w (FrOut w A B) := by
  try unfold OutR at *
  unfold FrOut FrV at *
  obtain ⟨W, hW, hA, hB, hR, hBl, hsz⟩ := box3T 24 w (.string s) (.string r) (.string s') (.string r') (.string ⟨#[]⟩) (.string ⟨#[]⟩)
  have hK : Stay 24 [w.heap.size + 1 + 1] W W := Stay.start1 hR
  have HS : Hid (∀ x, Stay 24 [w.heap.size + 1 + 1] W x → (Stay 24 [w.heap.size + 1 + 1] W x ∧ x.cell? ⟨w.heap.size, 0, none⟩ = some (.string s) ∧ x.cell? ⟨w.heap.size, 1, none⟩ = some (.string r) ∧ x.cell? ⟨w.heap.size + 1, 0, none⟩ = some (.string s') ∧ x.cell? ⟨w.heap.size + 1, 1, none⟩ = some (.string r'))) := fun x hx => ⟨hx, (hx.box hA (by simp; omega)).c0, (hx.box hA (by simp; omega)).c1, (hx.box hB (by simp)).c0, (hx.box hB (by simp)).c1⟩
  have HW := Lib.hid hW
  have HZ := Lib.hid hsz
  have HBL := Lib.hid hBl
  obtain ⟨_, x0, x1, x2, x3⟩ := HS.out _ hK
  rw [hW] at x0 x1 x2 x3
  clear hA hB hR hW hsz hBl
  go_enter Tryz.func79, Tryz.ntmps79
  go_wp2
  rw [← HW.out]
  clear x0 x1 x2 x3
  have hk2 := hK.drew
  clear hK
  obtain ⟨_, d0, d1, d2, d3⟩ := HS.out _ hk2
  go_region_held3 (fun x => Stay 24 [w.heap.size + 1 + 1] W x ∧ x.cell? ⟨w.heap.size, 0, none⟩ = some (.string s) ∧ x.cell? ⟨w.heap.size, 1, none⟩ = some (.string r) ∧ x.cell? ⟨w.heap.size + 1, 0, none⟩ = some (.string s') ∧ x.cell? ⟨w.heap.size + 1, 1, none⟩ = some (.string r'))
    (first | exact HS.out _ (by assumption) | exact HS.out _ (Stay.store (by assumption) _ _ _ (by simp)) | exact HS.out _ (Stay.drew (by assumption)))
    (first | (go_at_call 78; (first | (with_reducible refine (HT1.out _).mono ?_) | (with_reducible refine (HT2.out _).mono ?_)); rintro e wz ⟨rfl, hbz⟩; have hk3 := Stay.step (T := 24) (ws := [w.heap.size + 1 + 1]) (W := W) hk2 hbz; clear hbz hk2; have hk2 := hk3; clear hk3; obtain ⟨_, g0, g1, g2, g3⟩ := HS.out _ hk2; obtain ⟨x5, x6, g5⟩ := hk2.wr _ (List.mem_singleton.2 rfl); have f5 := g5.c0; have f6 := g5.c1; have f7 := g5.f0 0; have f8 := g5.f0 1; have fz := g5.lt) | (go_at_call 59; (first | (with_reducible refine (HLo.out _).mono ?_)); rintro e wz ⟨rfl, hbz⟩; have hk3 := Stay.step (T := 24) (ws := [w.heap.size + 1 + 1]) (W := W) hk2 hbz; clear hbz hk2; have hk2 := hk3; clear hk3; obtain ⟨_, g0, g1, g2, g3⟩ := HS.out _ hk2; obtain ⟨x5, x6, g5⟩ := hk2.wr _ (List.mem_singleton.2 rfl); have f5 := g5.c0; have f6 := g5.c1; have f7 := g5.f0 0; have f8 := g5.f0 1; have fz := g5.lt))
  go_wp2
  refine bodyPost_ret (v := .agg #[.string A, .string B]) (by simp [results, Tryz.results79, go_sem, f5, f6]) rfl ⟨rfl, ?_⟩
  exact (Stay.store hk2 _ _ _ (by simp)).from HBL.out (by simp; omega)

set_option maxHeartbeats 3200000 in
set_option maxRecDepth 100000 in
theorem rfBy (s r s' r' X Y A B : ByteArray) (HT1 : Hid (∀ w, Calls Tryz.prog 78 #[.string s, .string r'] w (OutR w X))) (HT2 : Hid (∀ w, Calls Tryz.prog 78 #[.string r, .string s'] w (OutR w Y))) (HLo : Hid (∀ w, Calls Tryz.prog 59 #[.string X, .string Y] w (FrOut w A B))) (w : World) :
    Calls Tryz.prog 81 #[FrV s r, FrV s' r'] w (FrOut w A B) := by
  try unfold OutR at *
  unfold FrOut FrV at *
  obtain ⟨W, hW, hA, hB, hR, hBl, hsz⟩ := box3T 24 w (.string s) (.string r) (.string s') (.string r') (.string ⟨#[]⟩) (.string ⟨#[]⟩)
  have hK : Stay 24 [w.heap.size + 1 + 1] W W := Stay.start1 hR
  have HS : Hid (∀ x, Stay 24 [w.heap.size + 1 + 1] W x → (Stay 24 [w.heap.size + 1 + 1] W x ∧ x.cell? ⟨w.heap.size, 0, none⟩ = some (.string s) ∧ x.cell? ⟨w.heap.size, 1, none⟩ = some (.string r) ∧ x.cell? ⟨w.heap.size + 1, 0, none⟩ = some (.string s') ∧ x.cell? ⟨w.heap.size + 1, 1, none⟩ = some (.string r'))) := fun x hx => ⟨hx, (hx.box hA (by simp; omega)).c0, (hx.box hA (by simp; omega)).c1, (hx.box hB (by simp)).c0, (hx.box hB (by simp)).c1⟩
  have HW := Lib.hid hW
  have HZ := Lib.hid hsz
  have HBL := Lib.hid hBl
  obtain ⟨_, x0, x1, x2, x3⟩ := HS.out _ hK
  rw [hW] at x0 x1 x2 x3
  clear hA hB hR hW hsz hBl
  go_enter Tryz.func81, Tryz.ntmps81
  go_wp2
  rw [← HW.out]
  clear x0 x1 x2 x3
  have hk2 := hK.drew
  clear hK
  obtain ⟨_, d0, d1, d2, d3⟩ := HS.out _ hk2
  go_region_held3 (fun x => Stay 24 [w.heap.size + 1 + 1] W x ∧ x.cell? ⟨w.heap.size, 0, none⟩ = some (.string s) ∧ x.cell? ⟨w.heap.size, 1, none⟩ = some (.string r) ∧ x.cell? ⟨w.heap.size + 1, 0, none⟩ = some (.string s') ∧ x.cell? ⟨w.heap.size + 1, 1, none⟩ = some (.string r'))
    (first | exact HS.out _ (by assumption) | exact HS.out _ (Stay.store (by assumption) _ _ _ (by simp)) | exact HS.out _ (Stay.drew (by assumption)))
    (first | (go_at_call 78; (first | (with_reducible refine (HT1.out _).mono ?_) | (with_reducible refine (HT2.out _).mono ?_)); rintro e wz ⟨rfl, hbz⟩; have hk3 := Stay.step (T := 24) (ws := [w.heap.size + 1 + 1]) (W := W) hk2 hbz; clear hbz hk2; have hk2 := hk3; clear hk3; obtain ⟨_, g0, g1, g2, g3⟩ := HS.out _ hk2; obtain ⟨x5, x6, g5⟩ := hk2.wr _ (List.mem_singleton.2 rfl); have f5 := g5.c0; have f6 := g5.c1; have f7 := g5.f0 0; have f8 := g5.f0 1; have fz := g5.lt) | (go_at_call 59; (first | (with_reducible refine (HLo.out _).mono ?_)); rintro e wz ⟨rfl, hbz⟩; have hk3 := Stay.step (T := 24) (ws := [w.heap.size + 1 + 1]) (W := W) hk2 hbz; clear hbz hk2; have hk2 := hk3; clear hk3; obtain ⟨_, g0, g1, g2, g3⟩ := HS.out _ hk2; obtain ⟨x5, x6, g5⟩ := hk2.wr _ (List.mem_singleton.2 rfl); have f5 := g5.c0; have f6 := g5.c1; have f7 := g5.f0 0; have f8 := g5.f0 1; have fz := g5.lt))
  go_wp2
  refine bodyPost_ret (v := .agg #[.string A, .string B]) (by simp [results, Tryz.results81, go_sem, f5, f6]) rfl ⟨rfl, ?_⟩
  exact (Stay.store hk2 _ _ _ (by simp)).from HBL.out (by simp; omega)

set_option maxHeartbeats 3200000 in
set_option maxRecDepth 100000 in
theorem rfPlus (s r s' r' X Y Z U A B : ByteArray) (HT1 : Hid (∀ w, Calls Tryz.prog 78 #[.string s, .string r'] w (OutR w X))) (HT2 : Hid (∀ w, Calls Tryz.prog 78 #[.string s', .string r] w (OutR w Y))) (HT3 : Hid (∀ w, Calls Tryz.prog 78 #[.string r, .string r'] w (OutR w U))) (HP : Hid (∀ w, Calls Tryz.prog 69 #[.string X, .string Y] w (OutR w Z))) (HLo : Hid (∀ w, Calls Tryz.prog 59 #[.string Z, .string U] w (FrOut w A B))) (w : World) :
    Calls Tryz.prog 70 #[FrV s r, FrV s' r'] w (FrOut w A B) := by
  try unfold OutR at *
  unfold FrOut FrV at *
  obtain ⟨W, hW, hA, hB, hR, hBl, hsz⟩ := box3T 24 w (.string s) (.string r) (.string s') (.string r') (.string ⟨#[]⟩) (.string ⟨#[]⟩)
  have hK : Stay 24 [w.heap.size + 1 + 1] W W := Stay.start1 hR
  have HS : Hid (∀ x, Stay 24 [w.heap.size + 1 + 1] W x → (Stay 24 [w.heap.size + 1 + 1] W x ∧ x.cell? ⟨w.heap.size, 0, none⟩ = some (.string s) ∧ x.cell? ⟨w.heap.size, 1, none⟩ = some (.string r) ∧ x.cell? ⟨w.heap.size + 1, 0, none⟩ = some (.string s') ∧ x.cell? ⟨w.heap.size + 1, 1, none⟩ = some (.string r'))) := fun x hx => ⟨hx, (hx.box hA (by simp; omega)).c0, (hx.box hA (by simp; omega)).c1, (hx.box hB (by simp)).c0, (hx.box hB (by simp)).c1⟩
  have HW := Lib.hid hW
  have HZ := Lib.hid hsz
  have HBL := Lib.hid hBl
  obtain ⟨_, x0, x1, x2, x3⟩ := HS.out _ hK
  rw [hW] at x0 x1 x2 x3
  clear hA hB hR hW hsz hBl
  go_enter Tryz.func70, Tryz.ntmps70
  go_wp2
  rw [← HW.out]
  clear x0 x1 x2 x3
  have hk2 := hK.drew
  clear hK
  obtain ⟨_, d0, d1, d2, d3⟩ := HS.out _ hk2
  go_region_held3 (fun x => Stay 24 [w.heap.size + 1 + 1] W x ∧ x.cell? ⟨w.heap.size, 0, none⟩ = some (.string s) ∧ x.cell? ⟨w.heap.size, 1, none⟩ = some (.string r) ∧ x.cell? ⟨w.heap.size + 1, 0, none⟩ = some (.string s') ∧ x.cell? ⟨w.heap.size + 1, 1, none⟩ = some (.string r'))
    (first | exact HS.out _ (by assumption) | exact HS.out _ (Stay.store (by assumption) _ _ _ (by simp)) | exact HS.out _ (Stay.drew (by assumption)))
    (first | (go_at_call 78; (first | (with_reducible refine (HT1.out _).mono ?_) | (with_reducible refine (HT2.out _).mono ?_) | (with_reducible refine (HT3.out _).mono ?_)); rintro e wz ⟨rfl, hbz⟩; have hk3 := Stay.step (T := 24) (ws := [w.heap.size + 1 + 1]) (W := W) hk2 hbz; clear hbz hk2; have hk2 := hk3; clear hk3; obtain ⟨_, g0, g1, g2, g3⟩ := HS.out _ hk2; obtain ⟨x5, x6, g5⟩ := hk2.wr _ (List.mem_singleton.2 rfl); have f5 := g5.c0; have f6 := g5.c1; have f7 := g5.f0 0; have f8 := g5.f0 1; have fz := g5.lt) | (go_at_call 69; (first | (with_reducible refine (HP.out _).mono ?_)); rintro e wz ⟨rfl, hbz⟩; have hk3 := Stay.step (T := 24) (ws := [w.heap.size + 1 + 1]) (W := W) hk2 hbz; clear hbz hk2; have hk2 := hk3; clear hk3; obtain ⟨_, g0, g1, g2, g3⟩ := HS.out _ hk2; obtain ⟨x5, x6, g5⟩ := hk2.wr _ (List.mem_singleton.2 rfl); have f5 := g5.c0; have f6 := g5.c1; have f7 := g5.f0 0; have f8 := g5.f0 1; have fz := g5.lt) | (go_at_call 59; (first | (with_reducible refine (HLo.out _).mono ?_)); rintro e wz ⟨rfl, hbz⟩; have hk3 := Stay.step (T := 24) (ws := [w.heap.size + 1 + 1]) (W := W) hk2 hbz; clear hbz hk2; have hk2 := hk3; clear hk3; obtain ⟨_, g0, g1, g2, g3⟩ := HS.out _ hk2; obtain ⟨x5, x6, g5⟩ := hk2.wr _ (List.mem_singleton.2 rfl); have f5 := g5.c0; have f6 := g5.c1; have f7 := g5.f0 0; have f8 := g5.f0 1; have fz := g5.lt))
  go_wp2
  refine bodyPost_ret (v := .agg #[.string A, .string B]) (by simp [results, Tryz.results70, go_sem, f5, f6]) rfl ⟨rfl, ?_⟩
  exact (Stay.store hk2 _ _ _ (by simp)).from HBL.out (by simp; omega)

set_option maxHeartbeats 3200000 in
set_option maxRecDepth 100000 in
theorem rfLess (s r s' r' N A B : ByteArray) (HT1 : Hid (∀ w, Calls Tryz.prog 49 #[FrV s' r'] w (FrOut w N r'))) (HT2 : Hid (∀ w, Calls Tryz.prog 70 #[FrV s r, FrV N r'] w (FrOut w A B))) (w : World) :
    Calls Tryz.prog 75 #[FrV s r, FrV s' r'] w (FrOut w A B) := by
  try unfold OutR at *
  unfold FrOut FrV at *
  obtain ⟨W, hW, hA, hB, hR, hBl, hsz⟩ := box3T 24 w (.string s) (.string r) (.string s') (.string r') (.string ⟨#[]⟩) (.string ⟨#[]⟩)
  have hK : Stay 24 [w.heap.size + 1 + 1] W W := Stay.start1 hR
  have HS : Hid (∀ x, Stay 24 [w.heap.size + 1 + 1] W x → (Stay 24 [w.heap.size + 1 + 1] W x ∧ x.cell? ⟨w.heap.size, 0, none⟩ = some (.string s) ∧ x.cell? ⟨w.heap.size, 1, none⟩ = some (.string r) ∧ x.cell? ⟨w.heap.size + 1, 0, none⟩ = some (.string s') ∧ x.cell? ⟨w.heap.size + 1, 1, none⟩ = some (.string r'))) := fun x hx => ⟨hx, (hx.box hA (by simp; omega)).c0, (hx.box hA (by simp; omega)).c1, (hx.box hB (by simp)).c0, (hx.box hB (by simp)).c1⟩
  have HW := Lib.hid hW
  have HZ := Lib.hid hsz
  have HBL := Lib.hid hBl
  obtain ⟨_, x0, x1, x2, x3⟩ := HS.out _ hK
  rw [hW] at x0 x1 x2 x3
  clear hA hB hR hW hsz hBl
  go_enter Tryz.func75, Tryz.ntmps75
  go_wp2
  rw [← HW.out]
  clear x0 x1 x2 x3
  have hk2 := hK.drew
  clear hK
  obtain ⟨_, d0, d1, d2, d3⟩ := HS.out _ hk2
  go_region_held3 (fun x => Stay 24 [w.heap.size + 1 + 1] W x ∧ x.cell? ⟨w.heap.size, 0, none⟩ = some (.string s) ∧ x.cell? ⟨w.heap.size, 1, none⟩ = some (.string r) ∧ x.cell? ⟨w.heap.size + 1, 0, none⟩ = some (.string s') ∧ x.cell? ⟨w.heap.size + 1, 1, none⟩ = some (.string r'))
    (first | exact HS.out _ (by assumption) | exact HS.out _ (Stay.store (by assumption) _ _ _ (by simp)) | exact HS.out _ (Stay.drew (by assumption)))
    (first | (go_at_call 49; (first | (with_reducible refine (HT1.out _).mono ?_)); rintro e wz ⟨rfl, hbz⟩; have hk3 := Stay.step (T := 24) (ws := [w.heap.size + 1 + 1]) (W := W) hk2 hbz; clear hbz hk2; have hk2 := hk3; clear hk3; obtain ⟨_, g0, g1, g2, g3⟩ := HS.out _ hk2; obtain ⟨x5, x6, g5⟩ := hk2.wr _ (List.mem_singleton.2 rfl); have f5 := g5.c0; have f6 := g5.c1; have f7 := g5.f0 0; have f8 := g5.f0 1; have fz := g5.lt) | (go_at_call 70; (first | (with_reducible refine (HT2.out _).mono ?_)); rintro e wz ⟨rfl, hbz⟩; have hk3 := Stay.step (T := 24) (ws := [w.heap.size + 1 + 1]) (W := W) hk2 hbz; clear hbz hk2; have hk2 := hk3; clear hk3; obtain ⟨_, g0, g1, g2, g3⟩ := HS.out _ hk2; obtain ⟨x5, x6, g5⟩ := hk2.wr _ (List.mem_singleton.2 rfl); have f5 := g5.c0; have f6 := g5.c1; have f7 := g5.f0 0; have f8 := g5.f0 1; have fz := g5.lt))
  go_wp2
  refine bodyPost_ret (v := .agg #[.string A, .string B]) (by simp [results, Tryz.results75, go_sem, f5, f6]) rfl ⟨rfl, ?_⟩
  exact (Stay.store hk2 _ _ _ (by simp)).from HBL.out (by simp; omega)

set_option maxHeartbeats 3200000 in
set_option maxRecDepth 100000 in
theorem rfOrder (s r s' r' X Y : ByteArray) (z : Int) (HT1 : Hid (∀ w, Calls Tryz.prog 78 #[.string s, .string r'] w (OutR w X))) (HT2 : Hid (∀ w, Calls Tryz.prog 78 #[.string s', .string r] w (OutR w Y))) (HO : Hid (∀ w, Calls Tryz.prog 56 #[.string X, .string Y] w fun e w' => e = .returned (.int .i64 z) ∧ Below w.heap.size w w')) (w : World) :
    Calls Tryz.prog 86 #[FrV s r, FrV s' r'] w (fun e w1 => e = .returned (.int .i64 z) ∧ Below w.heap.size w w1) := by
  try unfold OutR at *
  unfold FrV at *
  obtain ⟨W, hW, hA, hB, hBl, hsz⟩ := box2T 24 w (.string s) (.string r) (.string s') (.string r')
  have hK : Below W.heap.size W W := Below.refl _ _
  have HS : Hid (∀ x, Below W.heap.size W x → (Below W.heap.size W x ∧ x.cell? ⟨w.heap.size, 0, none⟩ = some (.string s) ∧ x.cell? ⟨w.heap.size, 1, none⟩ = some (.string r) ∧ x.cell? ⟨w.heap.size + 1, 0, none⟩ = some (.string s') ∧ x.cell? ⟨w.heap.size + 1, 1, none⟩ = some (.string r'))) := fun x hx => ⟨hx, (hA.keep hx).c0, (hA.keep hx).c1, (hB.keep hx).c0, (hB.keep hx).c1⟩
  have HW := Lib.hid hW
  have HZ := Lib.hid hsz
  have HBL := Lib.hid hBl
  obtain ⟨_, x0, x1, x2, x3⟩ := HS.out _ hK
  rw [hW] at x0 x1 x2 x3
  clear hA hB hW hsz hBl
  go_enter Tryz.func86, Tryz.ntmps86
  go_wp2
  rw [← HW.out]
  clear x0 x1 x2 x3
  have hk2 := hK.drew
  clear hK
  obtain ⟨_, d0, d1, d2, d3⟩ := HS.out _ hk2
  go_region_held3 (fun x => Below W.heap.size W x ∧ x.cell? ⟨w.heap.size, 0, none⟩ = some (.string s) ∧ x.cell? ⟨w.heap.size, 1, none⟩ = some (.string r) ∧ x.cell? ⟨w.heap.size + 1, 0, none⟩ = some (.string s') ∧ x.cell? ⟨w.heap.size + 1, 1, none⟩ = some (.string r'))
    (first | exact HS.out _ (by assumption) | exact HS.out _ (Below.drew (by assumption)))
    (first | (go_at_call 78; (first | (with_reducible refine (HT1.out _).mono ?_) | (with_reducible refine (HT2.out _).mono ?_)); rintro e wz ⟨rfl, hbz⟩; have hk3 := hk2.trans (hbz.mono hk2.size); clear hbz hk2; have hk2 := hk3; clear hk3; obtain ⟨_, g0, g1, g2, g3⟩ := HS.out _ hk2) | (go_at_call 56; (first | (with_reducible refine (HO.out _).mono ?_)); rintro e wz ⟨rfl, hbz⟩; have hk3 := hk2.trans (hbz.mono hk2.size); clear hbz hk2; have hk2 := hk3; clear hk3; obtain ⟨_, g0, g1, g2, g3⟩ := HS.out _ hk2))
  go_wp2
  go_ret
  exact ⟨rfl, HBL.out.trans (hk2.mono HBL.out.size)⟩

end Go.Proofs.YtolkiimlchfmlaaGreatDoor
