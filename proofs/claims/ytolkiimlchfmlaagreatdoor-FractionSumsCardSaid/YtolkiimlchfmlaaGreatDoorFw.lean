/- Walks of the laws of fractions: checks, opposites, floors and texts, of the program and of the reference. -/
import Derived.Test.YtolkiimlchfmlaaGreatDoorQ33
import Derived.Test.YtolkiimlchfmlaaGreatDoorQ28
import Derived.Test.YtolkiimlchfmlaaGreatDoorJl
import Derived.Deep.RegionHeld3
namespace Go.Proofs.YtolkiimlchfmlaaGreatDoor
open Go.RowKit Go.Proofs.Num

set_option maxHeartbeats 3200000 in
set_option maxRecDepth 100000 in
theorem fNeg_chk (s r : ByteArray) (k : Nat) (h0 : k ≠ 0) (HC : Hid (∀ w, Tab w → Calls Tryz.prog 18 #[FrV s r] w fun e w' => e = .returned (.int .i64 ((k : Nat) : Int)) ∧ Below w.heap.size w w')) (w : World) (hT : Tab w) :
    Calls Tryz.prog 12 #[FrV s r] w (FrE w ⟨#[]⟩ ⟨#[]⟩ k) := by
  have HT := Lib.hid hT
  have hk0 : ¬ ((k : Nat) : Int) = 0 := by omega
  have hk1 : (((k : Nat) : Int) != 0) = true := by simp; omega
  unfold FrE FrV at *
  obtain ⟨W, hW, hA, hR, hBl, hsz⟩ := box2T 24 w (.string s) (.string r) (.string ⟨#[]⟩) (.string ⟨#[]⟩)
  have HR := Lib.hid hR
  have x0 := hA.c0; have x1 := hA.c1
  have HBL := Lib.hid hBl
  have HW := Lib.hid hW
  rw [hW] at x0 x1
  clear hT hA hR hBl hsz hW h0
  go_enter Tryz.func12, Tryz.ntmps12
  go_wp2_with fail
  rw [← HW.out]
  refine (HC.out _ (HT.out.keep HBL.out)).mono ?_
  rintro en w1 ⟨rfl, hb1⟩
  have hB1 : Below w.heap.size w w1 := HBL.out.trans (hb1.mono HBL.out.size)
  clear x0 x1
  have hR1 := HR.out.keep hb1
  have x0 := hR1.c0; have x1 := hR1.c1; have x2 := hR1.f0 0; have x3 := hR1.f0 1
  go_wp2
  refine bodyPost_ret (v := .tuple #[.agg #[.string ⟨#[]⟩, .string ⟨#[]⟩], .int .i64 ((k : Nat) : Int)]) (by simp [results, Tryz.results12, go_sem, x0, x1]) rfl ⟨rfl, (hB1.setCell (by simp <;> omega) _).setCell (by simp <;> omega) _⟩

set_option maxHeartbeats 3200000 in
set_option maxRecDepth 100000 in
theorem fFloor_chk (s r : ByteArray) (k : Nat) (h0 : k ≠ 0) (HC : Hid (∀ w, Tab w → Calls Tryz.prog 18 #[FrV s r] w fun e w' => e = .returned (.int .i64 ((k : Nat) : Int)) ∧ Below w.heap.size w w')) (w : World) (hT : Tab w) :
    Calls Tryz.prog 14 #[FrV s r] w (OutE w ⟨#[]⟩ k) := by
  have HT := Lib.hid hT
  have hk0 : ¬ ((k : Nat) : Int) = 0 := by omega
  have hk1 : (((k : Nat) : Int) != 0) = true := by simp; omega
  unfold OutE FrV at *
  obtain ⟨W, hW, hA, hBl, hsz⟩ := box1T 24 w (.string s) (.string r)
  have x0 := hA.c0; have x1 := hA.c1
  have HBL := Lib.hid hBl
  have HW := Lib.hid hW
  rw [hW] at x0 x1
  clear hT hA hBl hsz hW h0
  go_enter Tryz.func14, Tryz.ntmps14
  go_wp2_with fail
  rw [← HW.out]
  refine (HC.out _ (HT.out.keep HBL.out)).mono ?_
  rintro en w1 ⟨rfl, hb1⟩
  have hB1 : Below w.heap.size w w1 := HBL.out.trans (hb1.mono HBL.out.size)
  clear x0 x1
  go_wp2
  go_ret2
  exact ⟨rfl, hB1⟩

set_option maxHeartbeats 3200000 in
set_option maxRecDepth 100000 in
theorem fText_chk (s r : ByteArray) (k : Nat) (h0 : k ≠ 0) (HC : Hid (∀ w, Tab w → Calls Tryz.prog 18 #[FrV s r] w fun e w' => e = .returned (.int .i64 ((k : Nat) : Int)) ∧ Below w.heap.size w w')) (w : World) (hT : Tab w) :
    Calls Tryz.prog 16 #[FrV s r] w (OutE w ⟨#[]⟩ k) := by
  have HT := Lib.hid hT
  have hk0 : ¬ ((k : Nat) : Int) = 0 := by omega
  have hk1 : (((k : Nat) : Int) != 0) = true := by simp; omega
  unfold OutE FrV at *
  obtain ⟨W, hW, hA, hBl, hsz⟩ := box1T 24 w (.string s) (.string r)
  have x0 := hA.c0; have x1 := hA.c1
  have HBL := Lib.hid hBl
  have HW := Lib.hid hW
  rw [hW] at x0 x1
  clear hT hA hBl hsz hW h0
  go_enter Tryz.func16, Tryz.ntmps16
  go_wp2_with fail
  rw [← HW.out]
  refine (HC.out _ (HT.out.keep HBL.out)).mono ?_
  rintro en w1 ⟨rfl, hb1⟩
  have hB1 : Below w.heap.size w w1 := HBL.out.trans (hb1.mono HBL.out.size)
  clear x0 x1
  go_wp2
  go_ret2
  exact ⟨rfl, hB1⟩

set_option maxHeartbeats 3200000 in
set_option maxRecDepth 100000 in
theorem rfNeg_chk (s r : ByteArray) (k : Nat) (h0 : k ≠ 0) (HC : Hid (∀ w, Calls Tryz.prog 19 #[FrV s r] w fun e w' => e = .returned (.int .i64 ((k : Nat) : Int)) ∧ Below w.heap.size w w')) (w : World) (hT : Tab w) :
    Calls Tryz.prog 13 #[FrV s r] w (FrE w ⟨#[]⟩ ⟨#[]⟩ k) := by
  have HT := Lib.hid hT
  have hk0 : ¬ ((k : Nat) : Int) = 0 := by omega
  have hk1 : (((k : Nat) : Int) != 0) = true := by simp; omega
  unfold FrE FrV at *
  obtain ⟨W, hW, hA, hR, hBl, hsz⟩ := box2T 24 w (.string s) (.string r) (.string ⟨#[]⟩) (.string ⟨#[]⟩)
  have HR := Lib.hid hR
  have x0 := hA.c0; have x1 := hA.c1
  have HBL := Lib.hid hBl
  have HW := Lib.hid hW
  rw [hW] at x0 x1
  clear hT hA hR hBl hsz hW h0
  go_enter Tryz.func13, Tryz.ntmps13
  go_wp2_with fail
  rw [← HW.out]
  refine (HC.out _).mono ?_
  rintro en w1 ⟨rfl, hb1⟩
  have hB1 : Below w.heap.size w w1 := HBL.out.trans (hb1.mono HBL.out.size)
  clear x0 x1
  have hR1 := HR.out.keep hb1
  have x0 := hR1.c0; have x1 := hR1.c1; have x2 := hR1.f0 0; have x3 := hR1.f0 1
  go_wp2
  refine bodyPost_ret (v := .tuple #[.agg #[.string ⟨#[]⟩, .string ⟨#[]⟩], .int .i64 ((k : Nat) : Int)]) (by simp [results, Tryz.results13, go_sem, x0, x1]) rfl ⟨rfl, (hB1.setCell (by simp <;> omega) _).setCell (by simp <;> omega) _⟩

set_option maxHeartbeats 3200000 in
set_option maxRecDepth 100000 in
theorem rfFloor_chk (s r : ByteArray) (k : Nat) (h0 : k ≠ 0) (HC : Hid (∀ w, Calls Tryz.prog 19 #[FrV s r] w fun e w' => e = .returned (.int .i64 ((k : Nat) : Int)) ∧ Below w.heap.size w w')) (w : World) (hT : Tab w) :
    Calls Tryz.prog 15 #[FrV s r] w (OutE w ⟨#[]⟩ k) := by
  have HT := Lib.hid hT
  have hk0 : ¬ ((k : Nat) : Int) = 0 := by omega
  have hk1 : (((k : Nat) : Int) != 0) = true := by simp; omega
  unfold OutE FrV at *
  obtain ⟨W, hW, hA, hBl, hsz⟩ := box1T 24 w (.string s) (.string r)
  have x0 := hA.c0; have x1 := hA.c1
  have HBL := Lib.hid hBl
  have HW := Lib.hid hW
  rw [hW] at x0 x1
  clear hT hA hBl hsz hW h0
  go_enter Tryz.func15, Tryz.ntmps15
  go_wp2_with fail
  rw [← HW.out]
  refine (HC.out _).mono ?_
  rintro en w1 ⟨rfl, hb1⟩
  have hB1 : Below w.heap.size w w1 := HBL.out.trans (hb1.mono HBL.out.size)
  clear x0 x1
  go_wp2
  go_ret2
  exact ⟨rfl, hB1⟩

set_option maxHeartbeats 3200000 in
set_option maxRecDepth 100000 in
theorem rfText_chk (s r : ByteArray) (k : Nat) (h0 : k ≠ 0) (HC : Hid (∀ w, Calls Tryz.prog 19 #[FrV s r] w fun e w' => e = .returned (.int .i64 ((k : Nat) : Int)) ∧ Below w.heap.size w w')) (w : World) (hT : Tab w) :
    Calls Tryz.prog 17 #[FrV s r] w (OutE w ⟨#[]⟩ k) := by
  have HT := Lib.hid hT
  have hk0 : ¬ ((k : Nat) : Int) = 0 := by omega
  have hk1 : (((k : Nat) : Int) != 0) = true := by simp; omega
  unfold OutE FrV at *
  obtain ⟨W, hW, hA, hBl, hsz⟩ := box1T 24 w (.string s) (.string r)
  have x0 := hA.c0; have x1 := hA.c1
  have HBL := Lib.hid hBl
  have HW := Lib.hid hW
  rw [hW] at x0 x1
  clear hT hA hBl hsz hW h0
  go_enter Tryz.func17, Tryz.ntmps17
  go_wp2_with fail
  rw [← HW.out]
  refine (HC.out _).mono ?_
  rintro en w1 ⟨rfl, hb1⟩
  have hB1 : Below w.heap.size w w1 := HBL.out.trans (hb1.mono HBL.out.size)
  clear x0 x1
  go_wp2
  go_ret2
  exact ⟨rfl, hB1⟩

set_option maxHeartbeats 3200000 in
set_option maxRecDepth 100000 in
/-- The opposite fraction, by the reference. -/
theorem rfTurned (s r s' : ByteArray) (HN : Hid (∀ w, Calls Tryz.prog 95 #[.string s] w (OutR w s'))) (w : World) :
    Calls Tryz.prog 49 #[FrV s r] w (FrOut w s' r) := by
  unfold OutR at HN
  unfold FrOut FrV at *
  obtain ⟨W, hW, hA, hR, hBl, hsz⟩ := box2T 24 w (.string s) (.string r) (.string ⟨#[]⟩) (.string ⟨#[]⟩)
  have hK : Stay 24 [w.heap.size + 1] W W := Stay.start1 hR
  have HS : Hid (∀ x, Stay 24 [w.heap.size + 1] W x → (Stay 24 [w.heap.size + 1] W x ∧ x.cell? ⟨w.heap.size, 0, none⟩ = some (.string s) ∧ x.cell? ⟨w.heap.size, 1, none⟩ = some (.string r))) :=
    fun x hx => ⟨hx, (hx.box hA (by simp)).c0, (hx.box hA (by simp)).c1⟩
  have HW := Lib.hid hW
  have HZ := Lib.hid hsz
  have HBL := Lib.hid hBl
  obtain ⟨_, x0, x1⟩ := HS.out _ hK
  rw [hW] at x0 x1
  clear hA hR hW hsz hBl
  go_enter Tryz.func49, Tryz.ntmps49
  go_wp2
  rw [← HW.out]
  clear x0 x1
  have hK2 := hK.drew
  obtain ⟨_, d0, d1⟩ := HS.out _ hK2
  go_region_held3 (fun x => Stay 24 [w.heap.size + 1] W x ∧ x.cell? ⟨w.heap.size, 0, none⟩ = some (.string s) ∧ x.cell? ⟨w.heap.size, 1, none⟩ = some (.string r))
    (first | exact HS.out _ (Stay.store (by assumption) _ _ _ (by simp)) | exact HS.out _ (by assumption) | exact HS.out _ (Stay.drew (by assumption)))
    (first | (go_at_call 95; refine (HN.out _).mono ?_; rintro e w1 ⟨rfl, hb1⟩; have hk2 := Stay.step (T := 24) (ws := [w.heap.size + 1]) (W := W) (by assumption) hb1; obtain ⟨_, f0, f1⟩ := HS.out _ hk2; obtain ⟨x5, x6, g5⟩ := hk2.wr _ (List.mem_singleton.2 rfl); have f5 := g5.c0; have f6 := g5.c1; have f7 := g5.f0 0; have f8 := g5.f0 1; have fz := g5.lt))
  go_wp2
  refine bodyPost_ret (v := .agg #[.string s', .string r]) (by simp [results, Tryz.results49, go_sem, f5, f6]) rfl ⟨rfl, ?_⟩
  exact (Stay.store hk2 _ _ _ (by simp)).from HBL.out (by simp)

set_option maxHeartbeats 3200000 in
set_option maxRecDepth 100000 in
theorem rfNeg_ok (s r s' : ByteArray) (HC : Hid (∀ w, Calls Tryz.prog 19 #[FrV s r] w fun e w' => e = .returned (.int .i64 0) ∧ Below w.heap.size w w')) (HN : Hid (∀ w, Calls Tryz.prog 49 #[FrV s r] w (FrOut w s' r))) (w : World) :
    Calls Tryz.prog 13 #[FrV s r] w (FrE w s' r 0) := by
  unfold FrE
  unfold FrOut FrV at *
  obtain ⟨W, hW, hA, hR, hBl, hsz⟩ := box2T 24 w (.string s) (.string r) (.string ⟨#[]⟩) (.string ⟨#[]⟩)
  have HR := Lib.hid hR
  have HA := Lib.hid hA
  have x0 := hA.c0; have x1 := hA.c1
  have HBL := Lib.hid hBl
  have HW := Lib.hid hW
  rw [hW] at x0 x1
  clear hA hR hBl hsz hW
  go_enter Tryz.func13, Tryz.ntmps13
  go_wp2_with fail
  rw [← HW.out]
  refine (HC.out _).mono ?_
  rintro en w1 ⟨rfl, hb1⟩
  have hB1 : Below w.heap.size w w1 := HBL.out.trans (hb1.mono HBL.out.size)
  have hR1 := HR.out.keep hb1
  have hA1 := HA.out.keep hb1
  clear x0 x1
  have x0 := hA1.c0; have x1 := hA1.c1
  go_wp2_with fail
  refine (HN.out _).mono ?_
  rintro en w2 ⟨rfl, hb2⟩
  have hB2 : Below w.heap.size w w2 := hB1.trans (hb2.mono hB1.size)
  have hR2 := hR1.keep hb2
  clear x0 x1 hR1 hA1
  have x0 := hR2.c0; have x1 := hR2.c1; have x2 := hR2.f0 0; have x3 := hR2.f0 1
  go_wp2
  refine bodyPost_ret (v := .tuple #[.agg #[.string s', .string r], .int .i64 0]) (by simp [results, Tryz.results13, go_sem, x0, x1]) rfl ⟨rfl, (hB2.setCell (by simp <;> omega) _).setCell (by simp <;> omega) _⟩

set_option maxHeartbeats 3200000 in
set_option maxRecDepth 100000 in
theorem rfFloor_ok (s r X : ByteArray) (HC : Hid (∀ w, Calls Tryz.prog 19 #[FrV s r] w fun e w' => e = .returned (.int .i64 0) ∧ Below w.heap.size w w')) (HN : Hid (∀ w, Calls Tryz.prog 51 #[.string s, .string r] w (OutR w X))) (w : World) :
    Calls Tryz.prog 15 #[FrV s r] w (OutE w X 0) := by
  unfold OutE
  unfold OutR at HN
  unfold FrV at *
  obtain ⟨W, hW, hA, hBl, hsz⟩ := box1T 24 w (.string s) (.string r)
  have HA := Lib.hid hA
  have x0 := hA.c0; have x1 := hA.c1
  have HBL := Lib.hid hBl
  have HW := Lib.hid hW
  rw [hW] at x0 x1
  clear hA hBl hsz hW
  go_enter Tryz.func15, Tryz.ntmps15
  go_wp2_with fail
  rw [← HW.out]
  refine (HC.out _).mono ?_
  rintro en w1 ⟨rfl, hb1⟩
  have hB1 : Below w.heap.size w w1 := HBL.out.trans (hb1.mono HBL.out.size)
  have hA1 := HA.out.keep hb1
  clear x0 x1
  have x0 := hA1.c0; have x1 := hA1.c1
  go_wp2_with fail
  refine (HN.out _).mono ?_
  rintro en w2 ⟨rfl, hb2⟩
  have hB2 : Below w.heap.size w w2 := hB1.trans (hb2.mono hB1.size)
  go_wp2
  go_ret2
  exact ⟨rfl, hB2⟩

set_option maxHeartbeats 3200000 in
set_option maxRecDepth 100000 in
theorem rfText_ok (s r X : ByteArray) (HC : Hid (∀ w, Calls Tryz.prog 19 #[FrV s r] w fun e w' => e = .returned (.int .i64 0) ∧ Below w.heap.size w w')) (HN : Hid (∀ w, Calls Tryz.prog 52 #[FrV s r] w (OutR w X))) (w : World) :
    Calls Tryz.prog 17 #[FrV s r] w (OutE w X 0) := by
  unfold OutE
  unfold OutR at HN
  unfold FrV at *
  obtain ⟨W, hW, hA, hBl, hsz⟩ := box1T 24 w (.string s) (.string r)
  have HA := Lib.hid hA
  have x0 := hA.c0; have x1 := hA.c1
  have HBL := Lib.hid hBl
  have HW := Lib.hid hW
  rw [hW] at x0 x1
  clear hA hBl hsz hW
  go_enter Tryz.func17, Tryz.ntmps17
  go_wp2_with fail
  rw [← HW.out]
  refine (HC.out _).mono ?_
  rintro en w1 ⟨rfl, hb1⟩
  have hB1 : Below w.heap.size w w1 := HBL.out.trans (hb1.mono HBL.out.size)
  have hA1 := HA.out.keep hb1
  clear x0 x1
  have x0 := hA1.c0; have x1 := hA1.c1
  go_wp2_with fail
  refine (HN.out _).mono ?_
  rintro en w2 ⟨rfl, hb2⟩
  have hB2 : Below w.heap.size w w2 := hB1.trans (hb2.mono hB1.size)
  go_wp2
  go_ret2
  exact ⟨rfl, hB2⟩

set_option maxHeartbeats 3200000 in
set_option maxRecDepth 100000 in
theorem rfWritten_one (s r : ByteArray) (h1 : (r.toList == [49]) = true) (w : World) :
    Calls Tryz.prog 52 #[FrV s r] w (OutR w s) := by
  unfold OutR FrV
  obtain ⟨W, hW, hA, hBl, hsz⟩ := box1T 24 w (.string s) (.string r)
  have x0 := hA.c0; have x1 := hA.c1
  have HBL := Lib.hid hBl
  have HW := Lib.hid hW
  rw [hW] at x0 x1
  clear hA hBl hsz hW
  go_enter Tryz.func52, Tryz.ntmps52
  go_wp2
  rw [← HW.out]
  go_ret
  exact ⟨rfl, HBL.out⟩

set_option maxHeartbeats 3200000 in
set_option maxRecDepth 100000 in
theorem rfWritten_two (s r : ByteArray) (h1 : (r.toList == [49]) = false) (hs : s.size ≤ 100000) (hr : r.size ≤ 100000) (w : World) :
    Calls Tryz.prog 52 #[FrV s r] w (OutR w (s ++ ⟨#[47]⟩ ++ r)) := by
  unfold OutR FrV
  obtain ⟨W, hW, hA, hBl, hsz⟩ := box1T 24 w (.string s) (.string r)
  have x0 := hA.c0; have x1 := hA.c1
  have HBL := Lib.hid hBl
  have HW := Lib.hid hW
  rw [hW] at x0 x1
  clear hA hBl hsz hW
  go_enter Tryz.func52, Tryz.ntmps52
  go_wp2
  rw [← HW.out]
  go_ret
  exact ⟨rfl, HBL.out⟩

end Go.Proofs.YtolkiimlchfmlaaGreatDoor
