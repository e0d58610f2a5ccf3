/- Walks of the laws of fractions: the law of checks. -/
import Derived.Test.YtolkiimlchfmlaaGreatDoorFw
namespace Go.Proofs.YtolkiimlchfmlaaGreatDoor
open Go.RowKit Go.Proofs.Num

set_option maxHeartbeats 3200000 in
set_option maxRecDepth 100000 in
theorem rfew2_any (s r : ByteArray) (hs : s.size ≤ 9223372036854775807) (hr : r.size ≤ 9223372036854775807) (w : World) :
    Calls Tryz.prog 10 #[FrV s r] w fun e w' => e = .returned (.bool (fewB s && fewB r)) ∧ Below w.heap.size w w' := by
  have H1 := Lib.hid (fun w => rfew_any s hs w)
  have H2 := Lib.hid (fun w => rfew_any r hr w)
  unfold FrV at *
  obtain ⟨W, hW, hA, hBl, hsz⟩ := box1T 24 w (.string s) (.string r)
  have HW := Lib.hid hW
  have HBL := Lib.hid hBl
  have x0 := hA.c0; have x1 := hA.c1
  rw [hW] at x0 x1
  clear hA hBl hsz hW hs hr
  cases h1 : fewB s with
  | false =>
    rw [h1] at H1
    clear h1
    go_enter Tryz.func10, Tryz.ntmps10
    go_wp2_with fail
    refine (H1.out _).mono ?_
    rintro e w1 ⟨rfl, rfl⟩
    go_wp2
    go_ret
    rw [← HW.out]
    exact ⟨rfl, HBL.out⟩
  | true =>
    rw [h1] at H1
    clear h1
    cases h2 : fewB r with
    | false =>
      rw [h2] at H2
      clear h2
      go_enter Tryz.func10, Tryz.ntmps10
      go_wp2_with fail
      refine (H1.out _).mono ?_
      rintro e w1 ⟨rfl, rfl⟩
      go_wp2_with fail
      refine (H2.out _).mono ?_
      rintro e w1 ⟨rfl, rfl⟩
      go_wp2
      go_ret
      rw [← HW.out]
      exact ⟨rfl, HBL.out⟩
    | true =>
      rw [h2] at H2
      clear h2
      go_enter Tryz.func10, Tryz.ntmps10
      go_wp2_with fail
      refine (H1.out _).mono ?_
      rintro e w1 ⟨rfl, rfl⟩
      go_wp2_with fail
      refine (H2.out _).mono ?_
      rintro e w1 ⟨rfl, rfl⟩
      go_wp2
      go_ret
      rw [← HW.out]
      exact ⟨rfl, HBL.out⟩

set_option maxHeartbeats 3200000 in
set_option maxRecDepth 100000 in
theorem fchecks_no (s r : ByteArray) (HF : Hid (∀ w, Calls Tryz.prog 10 #[FrV s r] w fun e w' => e = .returned (.bool false) ∧ Below w.heap.size w w')) (w : World) (hT : Tab w) (hC : CutT w) :
    Calls Tryz.prog 3 #[FrV s r] w fun e w' => e = .returned (.bool true) ∧ Below w.heap.size w w' := by
  have HT := Lib.hid hT
  have HC := Lib.hid hC
  have HA := Lib.hid fawake
  unfold FrV at *
  obtain ⟨W0, hW0, hR1, hBl0, hsz0⟩ := box1T 24 w (.string s) (.string r)
  have HW0 := Lib.hid hW0
  have x10 := hR1.c0; have x11 := hR1.c1
  rw [hW0] at x10 x11
  clear hT hC hR1 hW0 hsz0
  go_enter Tryz.func3, Tryz.ntmps3
  go_wp2_with fail
  rw [← HW0.out]
  refine (HF.out _).mono ?_
  rintro en w1 ⟨rfl, hb1⟩
  have hB1 : Below w.heap.size w w1 := hBl0.trans (hb1.mono hBl0.size)
  clear x10 x11
  go_wp2_with fail
  refine (HA.out _ (HT.out.keep hB1) (HC.out.keep hB1)).mono ?_
  rintro en w2 ⟨rfl, hb2⟩
  go_wp2
  go_ret
  exact ⟨rfl, hB1.trans (hb2.mono hB1.size)⟩

set_option maxHeartbeats 6400000 in
set_option maxRecDepth 100000 in
theorem fchecks_yes (s r A B M X : ByteArray) (k : Nat)
    (HF : Hid (∀ w, Calls Tryz.prog 10 #[FrV s r] w fun e w' => e = .returned (.bool true) ∧ Below w.heap.size w w'))
    (HN1 : Hid (∀ w, Tab w → Calls Tryz.prog 12 #[FrV s r] w (FrE w A B k))) (HN2 : Hid (∀ w, Tab w → Calls Tryz.prog 13 #[FrV s r] w (FrE w A B k)))
    (HF1 : Hid (∀ w, Tab w → Calls Tryz.prog 14 #[FrV s r] w (OutE w M k))) (HF2 : Hid (∀ w, Tab w → Calls Tryz.prog 15 #[FrV s r] w (OutE w M k)))
    (HT1 : Hid (∀ w, Tab w → Calls Tryz.prog 16 #[FrV s r] w (OutE w X k))) (HT2 : Hid (∀ w, Tab w → Calls Tryz.prog 17 #[FrV s r] w (OutE w X k)))
    (HC1 : Hid (∀ w, Tab w → Calls Tryz.prog 18 #[FrV s r] w fun e w' => e = .returned (.int .i64 ((k : Nat) : Int)) ∧ Below w.heap.size w w'))
    (HC2 : Hid (∀ w, Calls Tryz.prog 19 #[FrV s r] w fun e w' => e = .returned (.int .i64 ((k : Nat) : Int)) ∧ Below w.heap.size w w'))
    (w : World) (hT : Tab w) (hC : CutT w) : Calls Tryz.prog 3 #[FrV s r] w fun e w' => e = .returned (.bool true) ∧ Below w.heap.size w w' := by
  have HT := Lib.hid hT
  have HC := Lib.hid hC
  have HA := Lib.hid fawake
  clear hT hC
  unfold FrE at HN1 HN2
  unfold OutE at HF1 HF2 HT1 HT2
  unfold FrV at *
  go_enter Tryz.func3, Tryz.ntmps3
  obtain ⟨W0, hW0, hR1, hBl0, hsz0⟩ := box1T 24 w (.string s) (.string r)
  have HW0 := Lib.hid hW0
  have HK1 := Lib.hid hR1
  have hB0 : Below w.heap.size w W0 := hBl0
  clear hR1 hBl0 hW0
  clear hsz0
  have x10 := HK1.out.c0; have x11 := HK1.out.c1
  rw [HW0.out] at x10 x11
  go_wp2_with fail
  rw [← HW0.out]
  clear x10 x11
  refine (HF.out _ ).mono ?_
  rintro en w1 ⟨rfl, hb1⟩
  have hB1 : Below w.heap.size w w1 := hB0.trans (hb1.mono hB0.size)
  have hM1 := HK1.out.keep hb1
  clear HK1
  have HK1 := Lib.hid hM1
  clear hM1
  clear hb1 hB0
  have x10 := HK1.out.c0; have x11 := HK1.out.c1
  go_wp2_with fail
  clear x10 x11
  refine (HN1.out _ (HT.out.keep hB1)).mono ?_
  rintro en w2 ⟨rfl, hb2⟩
  have hB2 : Below w.heap.size w w2 := hB1.trans (hb2.mono hB1.size)
  have hM1 := HK1.out.keep hb2
  clear HK1
  have HK1 := Lib.hid hM1
  clear hM1
  clear hb2 hB1
  obtain ⟨W3, hW3, hR2, hBl3, hsz3⟩ := box1T 24 w2 (.string A) (.string B)
  have hB3 : Below w.heap.size w W3 := hB2.trans (hBl3.mono hB2.size)
  have HW3 := Lib.hid hW3
  have hM1 := HK1.out.keep hBl3
  clear HK1
  have HK1 := Lib.hid hM1
  clear hM1
  have HK2 := Lib.hid hR2
  clear hR2 hW3 hBl3 hsz3 hB2
  have x10 := HK1.out.c0; have x11 := HK1.out.c1
  rw [HW3.out] at x10 x11
  go_wp2_with fail
  rw [← HW3.out]
  clear x10 x11
  refine (HN2.out _ (HT.out.keep hB3)).mono ?_
  rintro en w4 ⟨rfl, hb4⟩
  have hB4 : Below w.heap.size w w4 := hB3.trans (hb4.mono hB3.size)
  have hM1 := HK1.out.keep hb4
  have hM2 := HK2.out.keep hb4
  clear HK1 HK2
  have HK1 := Lib.hid hM1
  clear hM1
  have HK2 := Lib.hid hM2
  clear hM2
  clear hb4 hB3
  obtain ⟨W5, hW5, hR3, hBl5, hsz5⟩ := box1T 24 w4 (.string A) (.string B)
  have hB5 : Below w.heap.size w W5 := hB4.trans (hBl5.mono hB4.size)
  have HW5 := Lib.hid hW5
  have hM1 := HK1.out.keep hBl5
  have hM2 := HK2.out.keep hBl5
  clear HK1 HK2
  have HK1 := Lib.hid hM1
  clear hM1
  have HK2 := Lib.hid hM2
  clear hM2
  have HK3 := Lib.hid hR3
  clear hR3 hW5 hBl5 hsz5 hB4
  have x10 := HK1.out.c0; have x11 := HK1.out.c1
  rw [HW5.out] at x10 x11
  go_wp2_with fail
  rw [← HW5.out]
  clear x10 x11
  refine (HF1.out _ (HT.out.keep hB5)).mono ?_
  rintro en w6 ⟨rfl, hb6⟩
  have hB6 : Below w.heap.size w w6 := hB5.trans (hb6.mono hB5.size)
  have hM1 := HK1.out.keep hb6
  have hM2 := HK2.out.keep hb6
  have hM3 := HK3.out.keep hb6
  clear HK1 HK2 HK3
  have HK1 := Lib.hid hM1
  clear hM1
  have HK2 := Lib.hid hM2
  clear hM2
  have HK3 := Lib.hid hM3
  clear hM3
  clear hb6 hB5
  have x10 := HK1.out.c0; have x11 := HK1.out.c1
  go_wp2_with fail
  clear x10 x11
  refine (HF2.out _ (HT.out.keep hB6)).mono ?_
  rintro en w7 ⟨rfl, hb7⟩
  have hB7 : Below w.heap.size w w7 := hB6.trans (hb7.mono hB6.size)
  have hM1 := HK1.out.keep hb7
  have hM2 := HK2.out.keep hb7
  have hM3 := HK3.out.keep hb7
  clear HK1 HK2 HK3
  have HK1 := Lib.hid hM1
  clear hM1
  have HK2 := Lib.hid hM2
  clear hM2
  have HK3 := Lib.hid hM3
  clear hM3
  clear hb7 hB6
  have x10 := HK1.out.c0; have x11 := HK1.out.c1
  go_wp2_with fail
  clear x10 x11
  refine (HT1.out _ (HT.out.keep hB7)).mono ?_
  rintro en w8 ⟨rfl, hb8⟩
  have hB8 : Below w.heap.size w w8 := hB7.trans (hb8.mono hB7.size)
  have hM1 := HK1.out.keep hb8
  have hM2 := HK2.out.keep hb8
  have hM3 := HK3.out.keep hb8
  clear HK1 HK2 HK3
  have HK1 := Lib.hid hM1
  clear hM1
  have HK2 := Lib.hid hM2
  clear hM2
  have HK3 := Lib.hid hM3
  clear hM3
  clear hb8 hB7
  have x10 := HK1.out.c0; have x11 := HK1.out.c1
  go_wp2_with fail
  clear x10 x11
  refine (HT2.out _ (HT.out.keep hB8)).mono ?_
  rintro en w9 ⟨rfl, hb9⟩
  have hB9 : Below w.heap.size w w9 := hB8.trans (hb9.mono hB8.size)
  have hM1 := HK1.out.keep hb9
  have hM2 := HK2.out.keep hb9
  have hM3 := HK3.out.keep hb9
  clear HK1 HK2 HK3
  have HK1 := Lib.hid hM1
  clear hM1
  have HK2 := Lib.hid hM2
  clear hM2
  have HK3 := Lib.hid hM3
  clear hM3
  clear hb9 hB8
  have HS : Hid (∀ y, Below w9.heap.size w9 y → (Below w9.heap.size w9 y ∧ y.cell? ⟨w.heap.size, 0, none⟩ = some (.string s) ∧ y.cell? ⟨w.heap.size, 1, none⟩ = some (.string r) ∧ y.cell? ⟨w2.heap.size, 0, none⟩ = some (.string A) ∧ y.cell? ⟨w2.heap.size, 1, none⟩ = some (.string B) ∧ y.cell? ⟨w4.heap.size, 0, none⟩ = some (.string A) ∧ y.cell? ⟨w4.heap.size, 1, none⟩ = some (.string B))) := fun y hy => ⟨hy, (HK1.out.keep hy).c0, (HK1.out.keep hy).c1, (HK2.out.keep hy).c0, (HK2.out.keep hy).c1, (HK3.out.keep hy).c0, (HK3.out.keep hy).c1⟩
  have HBV := Lib.hid hB9
  clear hB9
  have hu0 : Below w9.heap.size w9 w9 := Below.refl _ _
  have hk2 : Below w9.heap.size w9 w9.drew := hu0.drew
  clear hu0
  go_wp2
  obtain ⟨_, d0, d1, d2, d3, d4, d5⟩ := HS.out _ hk2
  
  go_region_held3 (fun y => Below w9.heap.size w9 y ∧ y.cell? ⟨w.heap.size, 0, none⟩ = some (.string s) ∧ y.cell? ⟨w.heap.size, 1, none⟩ = some (.string r) ∧ y.cell? ⟨w2.heap.size, 0, none⟩ = some (.string A) ∧ y.cell? ⟨w2.heap.size, 1, none⟩ = some (.string B) ∧ y.cell? ⟨w4.heap.size, 0, none⟩ = some (.string A) ∧ y.cell? ⟨w4.heap.size, 1, none⟩ = some (.string B))
    (first | exact HS.out _ (by assumption) | exact HS.out _ (Below.drew (by assumption)))
    (first | (go_at_call 11; refine (HA.out _ (HT.out.keep (HBV.out.trans (hk2.mono HBV.out.size))) (HC.out.keep (HBV.out.trans (hk2.mono HBV.out.size)))).mono ?_; rintro en wz ⟨rfl, hbz⟩; have hk3 := hk2.trans (hbz.mono hk2.size); clear hbz hk2; have hk2 := hk3; clear hk3; obtain ⟨_, g0, g1, g2, g3, g4, g5⟩ := HS.out _ hk2) | (go_at_call 18; refine (HC1.out _ (HT.out.keep (HBV.out.trans (hk2.mono HBV.out.size)))).mono ?_; rintro en wz ⟨rfl, hbz⟩; have hk3 := hk2.trans (hbz.mono hk2.size); clear hbz hk2; have hk2 := hk3; clear hk3; obtain ⟨_, g0, g1, g2, g3, g4, g5⟩ := HS.out _ hk2) | (go_at_call 19; refine (HC2.out _).mono ?_; rintro en wz ⟨rfl, hbz⟩; have hk3 := hk2.trans (hbz.mono hk2.size); clear hbz hk2; have hk2 := hk3; clear hk3; obtain ⟨_, g0, g1, g2, g3, g4, g5⟩ := HS.out _ hk2))
  go_wp2
  go_ret
  exact ⟨rfl, HBV.out.trans (hk2.mono HBV.out.size)⟩

end Go.Proofs.YtolkiimlchfmlaaGreatDoor
