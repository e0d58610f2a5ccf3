/- Walks of the laws of fractions: what is made and what is read, the long way. -/
import Derived.Test.YtolkiimlchfmlaaGreatDoorGg
import Derived.Test.YtolkiimlchfmlaaGreatDoorFx
namespace Go.Proofs.YtolkiimlchfmlaaGreatDoor
open Go.RowKit Go.Proofs.Num

set_option maxHeartbeats 6400000 in
set_option maxRecDepth 100000 in
theorem fMake_chk (x y : ByteArray) (k : Nat) (h0 : k ≠ 0) (HK : Hid (∀ w, Calls Tryz.prog 53 #[.string x, .string y] w fun e w' => e = .returned (.int .i64 ((k : Nat) : Int)) ∧ w = w')) (w : World) :
    Calls Tryz.prog 21 #[.string x, .string y] w (FrE w ⟨#[]⟩ ⟨#[]⟩ k) := by
  have hk0 : ¬ ((k : Nat) : Int) = 0 := by omega
  have hk1 : (((k : Nat) : Int) != 0) = true := by simp; omega
  unfold FrE
  try unfold FrOut at *
  unfold FrV at *
  obtain ⟨W, hW, hR, hBl, hsz⟩ := box1T 24 w (.string ⟨#[]⟩) (.string ⟨#[]⟩)
  have HR := Lib.hid hR
  have HBL := Lib.hid hBl
  have HW := Lib.hid hW
  clear hR hBl hsz hW h0
  go_enter Tryz.func21, Tryz.ntmps21
  go_wp2_with fail
  rw [← HW.out]
  refine (HK.out _).mono ?_
  rintro en w1 ⟨rfl, rfl⟩
  have x0 := HR.out.c0; have x1 := HR.out.c1; have x2 := HR.out.f0 0; have x3 := HR.out.f0 1
  go_wp2
  refine bodyPost_ret (v := .tuple #[.agg #[.string ⟨#[]⟩, .string ⟨#[]⟩], .int .i64 ((k : Nat) : Int)]) (by simp [results, Tryz.results21, go_sem, x0, x1]) rfl ⟨rfl, (HBL.out.setCell (by simp <;> omega) _).setCell (by simp <;> omega) _⟩

set_option maxHeartbeats 6400000 in
set_option maxRecDepth 100000 in
theorem fMake_zero (x y : ByteArray) (hz : (y.toList == [48]) = true) (HK : Hid (∀ w, Calls Tryz.prog 53 #[.string x, .string y] w fun e w' => e = .returned (.int .i64 0) ∧ w = w')) (w : World) :
    Calls Tryz.prog 21 #[.string x, .string y] w (FrE w ⟨#[]⟩ ⟨#[]⟩ 10) := by
  unfold FrE
  try unfold FrOut at *
  unfold FrV at *
  obtain ⟨W, hW, hR, hBl, hsz⟩ := box1T 24 w (.string ⟨#[]⟩) (.string ⟨#[]⟩)
  have HR := Lib.hid hR
  have HBL := Lib.hid hBl
  have HW := Lib.hid hW
  clear hR hBl hsz hW
  go_enter Tryz.func21, Tryz.ntmps21
  go_wp2_with fail
  rw [← HW.out]
  refine (HK.out _).mono ?_
  rintro en w1 ⟨rfl, rfl⟩
  have x0 := HR.out.c0; have x1 := HR.out.c1; have x2 := HR.out.f0 0; have x3 := HR.out.f0 1
  go_wp2
  refine bodyPost_ret (v := .tuple #[.agg #[.string ⟨#[]⟩, .string ⟨#[]⟩], .int .i64 10]) (by simp [results, Tryz.results21, go_sem, x0, x1]) rfl ⟨rfl, (HBL.out.setCell (by simp <;> omega) _).setCell (by simp <;> omega) _⟩

set_option maxHeartbeats 6400000 in
set_option maxRecDepth 100000 in
theorem rfMake_e1 (x y : ByteArray) (k : Nat) (h0 : k ≠ 0) (H1 : Hid (∀ w, Calls Tryz.prog 55 #[.string x] w fun e w' => e = .returned (.int .i64 ((k : Nat) : Int)) ∧ w = w')) (w : World) :
    Calls Tryz.prog 22 #[.string x, .string y] w (FrE w ⟨#[]⟩ ⟨#[]⟩ k) := by
  have hk0 : ¬ ((k : Nat) : Int) = 0 := by omega
  have hk1 : (((k : Nat) : Int) != 0) = true := by simp; omega
  unfold FrE
  try unfold FrOut at *
  unfold FrV at *
  obtain ⟨W, hW, hR, hBl, hsz⟩ := box1T 24 w (.string ⟨#[]⟩) (.string ⟨#[]⟩)
  have HR := Lib.hid hR
  have HBL := Lib.hid hBl
  have HW := Lib.hid hW
  clear hR hBl hsz hW h0
  go_enter Tryz.func22, Tryz.ntmps22
  go_wp2_with fail
  rw [← HW.out]
  refine (H1.out _).mono ?_
  rintro en w1 ⟨rfl, rfl⟩
  have x0 := HR.out.c0; have x1 := HR.out.c1; have x2 := HR.out.f0 0; have x3 := HR.out.f0 1
  go_wp2
  refine bodyPost_ret (v := .tuple #[.agg #[.string ⟨#[]⟩, .string ⟨#[]⟩], .int .i64 ((k : Nat) : Int)]) (by simp [results, Tryz.results22, go_sem, x0, x1]) rfl ⟨rfl, (HBL.out.setCell (by simp <;> omega) _).setCell (by simp <;> omega) _⟩

set_option maxHeartbeats 6400000 in
set_option maxRecDepth 100000 in
theorem rfMake_e2 (x y : ByteArray) (k : Nat) (h0 : k ≠ 0) (H1 : Hid (∀ w, Calls Tryz.prog 55 #[.string x] w fun e w' => e = .returned (.int .i64 0) ∧ w = w')) (H2 : Hid (∀ w, Calls Tryz.prog 55 #[.string y] w fun e w' => e = .returned (.int .i64 ((k : Nat) : Int)) ∧ w = w')) (w : World) :
    Calls Tryz.prog 22 #[.string x, .string y] w (FrE w ⟨#[]⟩ ⟨#[]⟩ k) := by
  have hk0 : ¬ ((k : Nat) : Int) = 0 := by omega
  have hk1 : (((k : Nat) : Int) != 0) = true := by simp; omega
  unfold FrE
  try unfold FrOut at *
  unfold FrV at *
  obtain ⟨W, hW, hR, hBl, hsz⟩ := box1T 24 w (.string ⟨#[]⟩) (.string ⟨#[]⟩)
  have HR := Lib.hid hR
  have HBL := Lib.hid hBl
  have HW := Lib.hid hW
  clear hR hBl hsz hW h0
  go_enter Tryz.func22, Tryz.ntmps22
  go_wp2_with fail
  rw [← HW.out]
  refine (H1.out _).mono ?_
  rintro en w1 ⟨rfl, rfl⟩
  go_wp2_with fail
  refine (H2.out _).mono ?_
  rintro en w1 ⟨rfl, rfl⟩
  have x0 := HR.out.c0; have x1 := HR.out.c1; have x2 := HR.out.f0 0; have x3 := HR.out.f0 1
  go_wp2
  refine bodyPost_ret (v := .tuple #[.agg #[.string ⟨#[]⟩, .string ⟨#[]⟩], .int .i64 ((k : Nat) : Int)]) (by simp [results, Tryz.results22, go_sem, x0, x1]) rfl ⟨rfl, (HBL.out.setCell (by simp <;> omega) _).setCell (by simp <;> omega) _⟩

set_option maxHeartbeats 6400000 in
set_option maxRecDepth 100000 in
theorem rfMake_zero (x y : ByteArray) (hz : (y.toList == [48]) = true) (H1 : Hid (∀ w, Calls Tryz.prog 55 #[.string x] w fun e w' => e = .returned (.int .i64 0) ∧ w = w')) (H2 : Hid (∀ w, Calls Tryz.prog 55 #[.string y] w fun e w' => e = .returned (.int .i64 0) ∧ w = w')) (w : World) :
    Calls Tryz.prog 22 #[.string x, .string y] w (FrE w ⟨#[]⟩ ⟨#[]⟩ 10) := by
  unfold FrE
  try unfold FrOut at *
  unfold FrV at *
  obtain ⟨W, hW, hR, hBl, hsz⟩ := box1T 24 w (.string ⟨#[]⟩) (.string ⟨#[]⟩)
  have HR := Lib.hid hR
  have HBL := Lib.hid hBl
  have HW := Lib.hid hW
  clear hR hBl hsz hW
  go_enter Tryz.func22, Tryz.ntmps22
  go_wp2_with fail
  rw [← HW.out]
  refine (H1.out _).mono ?_
  rintro en w1 ⟨rfl, rfl⟩
  go_wp2_with fail
  refine (H2.out _).mono ?_
  rintro en w1 ⟨rfl, rfl⟩
  have x0 := HR.out.c0; have x1 := HR.out.c1; have x2 := HR.out.f0 0; have x3 := HR.out.f0 1
  go_wp2
  refine bodyPost_ret (v := .tuple #[.agg #[.string ⟨#[]⟩, .string ⟨#[]⟩], .int .i64 10]) (by simp [results, Tryz.results22, go_sem, x0, x1]) rfl ⟨rfl, (HBL.out.setCell (by simp <;> omega) _).setCell (by simp <;> omega) _⟩

set_option maxHeartbeats 6400000 in
set_option maxRecDepth 100000 in
theorem rfMake_ok (x y A B : ByteArray) (hz : (y.toList == [48]) = false) (H1 : Hid (∀ w, Calls Tryz.prog 55 #[.string x] w fun e w' => e = .returned (.int .i64 0) ∧ w = w')) (H2 : Hid (∀ w, Calls Tryz.prog 55 #[.string y] w fun e w' => e = .returned (.int .i64 0) ∧ w = w')) (HLo : Hid (∀ w, Calls Tryz.prog 59 #[.string x, .string y] w (FrOut w A B))) (w : World) :
    Calls Tryz.prog 22 #[.string x, .string y] w (FrE w A B 0) := by
  unfold FrE
  try unfold FrOut at *
  unfold FrV at *
  obtain ⟨W, hW, hR, hBl, hsz⟩ := box1T 24 w (.string ⟨#[]⟩) (.string ⟨#[]⟩)
  have HR := Lib.hid hR
  have HBL := Lib.hid hBl
  have HW := Lib.hid hW
  clear hR hBl hsz hW
  go_enter Tryz.func22, Tryz.ntmps22
  go_wp2_with fail
  rw [← HW.out]
  refine (H1.out _).mono ?_
  rintro en w1 ⟨rfl, rfl⟩
  go_wp2_with fail
  refine (H2.out _).mono ?_
  rintro en w1 ⟨rfl, rfl⟩
  go_wp2_with fail
  refine (HLo.out _).mono ?_
  rintro en w2 ⟨rfl, hb2⟩
  have hB2 : Below w.heap.size w w2 := HBL.out.trans (hb2.mono HBL.out.size)
  have hR2 := HR.out.keep hb2
  clear hb2
  have x0 := hR2.c0; have x1 := hR2.c1; have x2 := hR2.f0 0; have x3 := hR2.f0 1
  go_wp2
  refine bodyPost_ret (v := .tuple #[.agg #[.string A, .string B], .int .i64 0]) (by simp [results, Tryz.results22, go_sem, x0, x1]) rfl ⟨rfl, (hB2.setCell (by simp <;> omega) _).setCell (by simp <;> omega) _⟩

set_option maxHeartbeats 6400000 in
set_option maxRecDepth 100000 in
theorem makes_no1 (x y s : ByteArray) (HE1 : Hid (∀ w, Calls Tryz.prog 20 #[.string x] w fun e w' => e = .returned (.bool false) ∧ w = w')) (w : World) (hT : Tab w) (hC : CutT w) :
    Calls Tryz.prog 4 #[.string x, .string y, .string s] w fun e w' => e = .returned (.bool true) ∧ Below w.heap.size w w' := by
  have HT := Lib.hid hT
  have HC := Lib.hid hC
  have HA := Lib.hid fawake
  clear hT hC
  go_enter Tryz.func4, Tryz.ntmps4
  have hB0 : Below w.heap.size w w := Below.refl _ _
  go_wp2_with fail
  refine (HE1.out _).mono ?_
  rintro en w1 ⟨rfl, rfl⟩
  go_wp2_with fail
  refine (HA.out _ HT.out HC.out).mono ?_
  rintro en w2 ⟨rfl, hb2⟩
  go_wp2
  go_ret
  exact ⟨rfl, hb2⟩

set_option maxHeartbeats 6400000 in
set_option maxRecDepth 100000 in
theorem makes_no2 (x y s : ByteArray) (HE1 : Hid (∀ w, Calls Tryz.prog 20 #[.string x] w fun e w' => e = .returned (.bool true) ∧ w = w')) (HE2 : Hid (∀ w, Calls Tryz.prog 20 #[.string y] w fun e w' => e = .returned (.bool false) ∧ w = w')) (w : World) (hT : Tab w) (hC : CutT w) :
    Calls Tryz.prog 4 #[.string x, .string y, .string s] w fun e w' => e = .returned (.bool true) ∧ Below w.heap.size w w' := by
  have HT := Lib.hid hT
  have HC := Lib.hid hC
  have HA := Lib.hid fawake
  clear hT hC
  go_enter Tryz.func4, Tryz.ntmps4
  have hB0 : Below w.heap.size w w := Below.refl _ _
  go_wp2_with fail
  refine (HE1.out _).mono ?_
  rintro en w1 ⟨rfl, rfl⟩
  go_wp2_with fail
  refine (HE2.out _).mono ?_
  rintro en w1 ⟨rfl, rfl⟩
  go_wp2_with fail
  refine (HA.out _ HT.out HC.out).mono ?_
  rintro en w2 ⟨rfl, hb2⟩
  go_wp2
  go_ret
  exact ⟨rfl, hb2⟩

set_option maxHeartbeats 6400000 in
set_option maxRecDepth 100000 in
theorem makes_no3 (x y s : ByteArray) (HE1 : Hid (∀ w, Calls Tryz.prog 20 #[.string x] w fun e w' => e = .returned (.bool true) ∧ w = w')) (HE2 : Hid (∀ w, Calls Tryz.prog 20 #[.string y] w fun e w' => e = .returned (.bool true) ∧ w = w')) (hl : decide (150 < ((s.size : Nat) : Int)) = true) (w : World) (hT : Tab w) (hC : CutT w) :
    Calls Tryz.prog 4 #[.string x, .string y, .string s] w fun e w' => e = .returned (.bool true) ∧ Below w.heap.size w w' := by
  have HT := Lib.hid hT
  have HC := Lib.hid hC
  have HA := Lib.hid fawake
  clear hT hC
  go_enter Tryz.func4, Tryz.ntmps4
  have hB0 : Below w.heap.size w w := Below.refl _ _
  go_wp2_with fail
  refine (HE1.out _).mono ?_
  rintro en w1 ⟨rfl, rfl⟩
  go_wp2_with fail
  refine (HE2.out _).mono ?_
  rintro en w1 ⟨rfl, rfl⟩
  go_wp2_with fail
  refine (HA.out _ HT.out HC.out).mono ?_
  rintro en w2 ⟨rfl, hb2⟩
  go_wp2
  go_ret
  exact ⟨rfl, hb2⟩

set_option maxHeartbeats 6400000 in
set_option maxRecDepth 100000 in
theorem makes_e1 (x y s A B C D : ByteArray) (n m q : Int) (k k2 : Nat) (HE1 : Hid (∀ w, Calls Tryz.prog 20 #[.string x] w fun e w' => e = .returned (.bool true) ∧ w = w')) (HE2 : Hid (∀ w, Calls Tryz.prog 20 #[.string y] w fun e w' => e = .returned (.bool true) ∧ w = w')) (hl : decide (150 < ((s.size : Nat) : Int)) = false)
    (HM1 : Hid (∀ w, Tab w → Calls Tryz.prog 21 #[.string x, .string y] w (FrE w A B k))) (HM2 : Hid (∀ w, Tab w → Calls Tryz.prog 22 #[.string x, .string y] w (FrE w A B k)))
    (HP1 : Hid (∀ w, Tab w → CutT w → Calls Tryz.prog 23 #[.string s] w (FrE w C D k2))) (HP2 : Hid (∀ w, Tab w → Calls Tryz.prog 24 #[.string s] w (FrE w C D k2)))
    (j : Nat) (h0 : j ≠ 0) (HS1 : Hid (∀ w, Calls Tryz.prog 25 #[.string x] w fun e w' => e = .returned (.tuple #[.int .i64 n, .int .i64 ((j : Nat) : Int)]) ∧ Below w.heap.size w w')) (HS2 : Hid (∀ w, Calls Tryz.prog 25 #[.string y] w fun e w' => e = .returned (.tuple #[.int .i64 m, .int .i64 q]) ∧ Below w.heap.size w w'))
    (w : World) (hT : Tab w) (hC : CutT w) :
    Calls Tryz.prog 4 #[.string x, .string y, .string s] w fun e w' => e = .returned (.bool true) ∧ Below w.heap.size w w' := by
  have hk0 : ¬ ((j : Nat) : Int) = 0 := by omega
  have hk1 : (((j : Nat) : Int) != 0) = true := by simp; omega
  clear h0
  have HT := Lib.hid hT
  have HC := Lib.hid hC
  have HA := Lib.hid fawake
  clear hT hC
  unfold FrE FrV at *
  go_enter Tryz.func4, Tryz.ntmps4
  have hB0 : Below w.heap.size w w := Below.refl _ _
  go_wp2_with fail
  refine (HE1.out _).mono ?_
  rintro en w1 ⟨rfl, rfl⟩
  go_wp2_with fail
  refine (HE2.out _).mono ?_
  rintro en w1 ⟨rfl, rfl⟩
  go_wp2_with fail
  refine (HM1.out _ (HT.out.keep hB0)).mono ?_
  rintro en w1 ⟨rfl, hb1⟩
  have hB1 : Below w.heap.size w w1 := hB0.trans (hb1.mono hB0.size)
  
  clear hb1 hB0
  obtain ⟨W2, hW2, hR1, hBl2, hsz2⟩ := box1T 24 w1 (.string A) (.string B)
  have hB2 : Below w.heap.size w W2 := hB1.trans (hBl2.mono hB1.size)
  have HW2 := Lib.hid hW2
  have o1 : w.heap.size ≤ w1.heap.size := hB1.size
  
  have HK1 := Lib.hid hR1
  clear hR1 hW2 hBl2 hsz2 hB1
  have x10 := HK1.out.c0; have x11 := HK1.out.c1
  rw [HW2.out] at x10 x11
  go_wp2_with fail
  rw [← HW2.out]
  clear x10 x11
  refine (HM2.out _ (HT.out.keep hB2)).mono ?_
  rintro en w3 ⟨rfl, hb3⟩
  have hB3 : Below w.heap.size w w3 := hB2.trans (hb3.mono hB2.size)
  have hM1 := HK1.out.keep hb3
  clear HK1
  have HK1 := Lib.hid hM1
  clear hM1
  clear hb3 hB2
  obtain ⟨W4, hW4, hR2, hBl4, hsz4⟩ := box1T 24 w3 (.string A) (.string B)
  have n12 : w1.heap.size < w3.heap.size := HK1.out.lt
  have hB4 : Below w.heap.size w W4 := hB3.trans (hBl4.mono hB3.size)
  have HW4 := Lib.hid hW4
  have o2 : w.heap.size ≤ w3.heap.size := hB3.size
  have hM1 := HK1.out.keep hBl4
  clear HK1
  have HK1 := Lib.hid hM1
  clear hM1
  have HK2 := Lib.hid hR2
  clear hR2 hW4 hBl4 hsz4 hB3
  have x20 := HK2.out.c0; have x21 := HK2.out.c1
  rw [HW4.out] at x20 x21
  go_wp2_with fail
  rw [← HW4.out]
  clear x20 x21
  refine (HP1.out _ (HT.out.keep hB4) (HC.out.keep hB4)).mono ?_
  rintro en w5 ⟨rfl, hb5⟩
  have hB5 : Below w.heap.size w w5 := hB4.trans (hb5.mono hB4.size)
  have hM1 := HK1.out.keep hb5
  have hM2 := HK2.out.keep hb5
  clear HK1 HK2
  have HK1 := Lib.hid hM1
  clear hM1
  have HK2 := Lib.hid hM2
  clear hM2
  clear hb5 hB4
  obtain ⟨W6, hW6, hR3, hBl6, hsz6⟩ := box1T 24 w5 (.string C) (.string D)
  have n13 : w1.heap.size < w5.heap.size := HK1.out.lt
  have n23 : w3.heap.size < w5.heap.size := HK2.out.lt
  have hB6 : Below w.heap.size w W6 := hB5.trans (hBl6.mono hB5.size)
  have HW6 := Lib.hid hW6
  have o3 : w.heap.size ≤ w5.heap.size := hB5.size
  have hM1 := HK1.out.keep hBl6
  have hM2 := HK2.out.keep hBl6
  clear HK1 HK2
  have HK1 := Lib.hid hM1
  clear hM1
  have HK2 := Lib.hid hM2
  clear hM2
  have HK3 := Lib.hid hR3
  clear hR3 hW6 hBl6 hsz6 hB5
  have x30 := HK3.out.c0; have x31 := HK3.out.c1
  rw [HW6.out] at x30 x31
  go_wp2_with fail
  rw [← HW6.out]
  clear x30 x31
  refine (HP2.out _ (HT.out.keep hB6)).mono ?_
  rintro en w7 ⟨rfl, hb7⟩
  have hB7 : Below w.heap.size w w7 := hB6.trans (hb7.mono hB6.size)
  have hM1 := HK1.out.keep hb7
  have hM2 := HK2.out.keep hb7
  have hM3 := HK3.out.keep hb7
  clear HK1 HK2 HK3
  have HK1 := Lib.hid hM1
  clear hM1
  have HK2 := Lib.hid hM2
  clear hM2
  have HK3 := Lib.hid hM3
  clear hM3
  clear hb7 hB6
  obtain ⟨W8, hW8, hR4, hBl8, hsz8⟩ := box1T 24 w7 (.string C) (.string D)
  have n14 : w1.heap.size < w7.heap.size := HK1.out.lt
  have n24 : w3.heap.size < w7.heap.size := HK2.out.lt
  have n34 : w5.heap.size < w7.heap.size := HK3.out.lt
  have hB8 : Below w.heap.size w W8 := hB7.trans (hBl8.mono hB7.size)
  have HW8 := Lib.hid hW8
  have o4 : w.heap.size ≤ w7.heap.size := hB7.size
  have hM1 := HK1.out.keep hBl8
  have hM2 := HK2.out.keep hBl8
  have hM3 := HK3.out.keep hBl8
  clear HK1 HK2 HK3
  have HK1 := Lib.hid hM1
  clear hM1
  have HK2 := Lib.hid hM2
  clear hM2
  have HK3 := Lib.hid hM3
  clear hM3
  have HK4 := Lib.hid hR4
  clear hR4 hW8 hBl8 hsz8 hB7
  have x10 := HK1.out.c0; have x11 := HK1.out.c1
  have x20 := HK2.out.c0; have x21 := HK2.out.c1
  have x30 := HK3.out.c0; have x31 := HK3.out.c1
  have x40 := HK4.out.c0; have x41 := HK4.out.c1
  rw [HW8.out] at x10 x11 x20 x21 x30 x31 x40 x41
  go_wp2_with fail
  rw [← HW8.out]
  clear x10 x11 x20 x21 x30 x31 x40 x41
  refine (HS1.out _ ).mono ?_
  rintro en w9 ⟨rfl, hb9⟩
  have hB9 : Below w.heap.size w w9 := hB8.trans (hb9.mono hB8.size)
  have hM1 := HK1.out.keep hb9
  have hM2 := HK2.out.keep hb9
  have hM3 := HK3.out.keep hb9
  have hM4 := HK4.out.keep hb9
  clear HK1 HK2 HK3 HK4
  have HK1 := Lib.hid hM1
  clear hM1
  have HK2 := Lib.hid hM2
  clear hM2
  have HK3 := Lib.hid hM3
  clear hM3
  have HK4 := Lib.hid hM4
  clear hM4
  clear hb9 hB8
  go_wp2_with fail
  refine (HS2.out _ ).mono ?_
  rintro en w10 ⟨rfl, hb10⟩
  have hB10 : Below w.heap.size w w10 := hB9.trans (hb10.mono hB9.size)
  have hM1 := HK1.out.keep hb10
  have hM2 := HK2.out.keep hb10
  have hM3 := HK3.out.keep hb10
  have hM4 := HK4.out.keep hb10
  clear HK1 HK2 HK3 HK4
  have HK1 := Lib.hid hM1
  clear hM1
  have HK2 := Lib.hid hM2
  clear hM2
  have HK3 := Lib.hid hM3
  clear hM3
  have HK4 := Lib.hid hM4
  clear hM4
  clear hb10 hB9
  go_wp2_with fail
  refine (HA.out _ (HT.out.keep hB10) (HC.out.keep hB10)).mono ?_
  rintro en w11 ⟨rfl, hb11⟩
  have hB11 : Below w.heap.size w w11 := hB10.trans (hb11.mono hB10.size)
  have hM1 := HK1.out.keep hb11
  have hM2 := HK2.out.keep hb11
  have hM3 := HK3.out.keep hb11
  have hM4 := HK4.out.keep hb11
  clear HK1 HK2 HK3 HK4
  have HK1 := Lib.hid hM1
  clear hM1
  have HK2 := Lib.hid hM2
  clear hM2
  have HK3 := Lib.hid hM3
  clear hM3
  have HK4 := Lib.hid hM4
  clear hM4
  clear hb11 hB10
  go_wp2
  go_ret
  exact ⟨rfl, hB11⟩

set_option maxHeartbeats 6400000 in
set_option maxRecDepth 100000 in
theorem makes_e2 (x y s A B C D : ByteArray) (n m : Int) (k k2 : Nat) (HE1 : Hid (∀ w, Calls Tryz.prog 20 #[.string x] w fun e w' => e = .returned (.bool true) ∧ w = w')) (HE2 : Hid (∀ w, Calls Tryz.prog 20 #[.string y] w fun e w' => e = .returned (.bool true) ∧ w = w')) (hl : decide (150 < ((s.size : Nat) : Int)) = false)
    (HM1 : Hid (∀ w, Tab w → Calls Tryz.prog 21 #[.string x, .string y] w (FrE w A B k))) (HM2 : Hid (∀ w, Tab w → Calls Tryz.prog 22 #[.string x, .string y] w (FrE w A B k)))
    (HP1 : Hid (∀ w, Tab w → CutT w → Calls Tryz.prog 23 #[.string s] w (FrE w C D k2))) (HP2 : Hid (∀ w, Tab w → Calls Tryz.prog 24 #[.string s] w (FrE w C D k2)))
    (j : Nat) (h0 : j ≠ 0) (HS1 : Hid (∀ w, Calls Tryz.prog 25 #[.string x] w fun e w' => e = .returned (.tuple #[.int .i64 n, .int .i64 0]) ∧ Below w.heap.size w w')) (HS2 : Hid (∀ w, Calls Tryz.prog 25 #[.string y] w fun e w' => e = .returned (.tuple #[.int .i64 m, .int .i64 ((j : Nat) : Int)]) ∧ Below w.heap.size w w'))
    (w : World) (hT : Tab w) (hC : CutT w) :
    Calls Tryz.prog 4 #[.string x, .string y, .string s] w fun e w' => e = .returned (.bool true) ∧ Below w.heap.size w w' := by
  have hk0 : ¬ ((j : Nat) : Int) = 0 := by omega
  have hk1 : (((j : Nat) : Int) != 0) = true := by simp; omega
  clear h0
  have HT := Lib.hid hT
  have HC := Lib.hid hC
  have HA := Lib.hid fawake
  clear hT hC
  unfold FrE FrV at *
  go_enter Tryz.func4, Tryz.ntmps4
  have hB0 : Below w.heap.size w w := Below.refl _ _
  go_wp2_with fail
  refine (HE1.out _).mono ?_
  rintro en w1 ⟨rfl, rfl⟩
  go_wp2_with fail
  refine (HE2.out _).mono ?_
  rintro en w1 ⟨rfl, rfl⟩
  go_wp2_with fail
  refine (HM1.out _ (HT.out.keep hB0)).mono ?_
  rintro en w1 ⟨rfl, hb1⟩
  have hB1 : Below w.heap.size w w1 := hB0.trans (hb1.mono hB0.size)
  
  clear hb1 hB0
  obtain ⟨W2, hW2, hR1, hBl2, hsz2⟩ := box1T 24 w1 (.string A) (.string B)
  have hB2 : Below w.heap.size w W2 := hB1.trans (hBl2.mono hB1.size)
  have HW2 := Lib.hid hW2
  have o1 : w.heap.size ≤ w1.heap.size := hB1.size
  
  have HK1 := Lib.hid hR1
  clear hR1 hW2 hBl2 hsz2 hB1
  have x10 := HK1.out.c0; have x11 := HK1.out.c1
  rw [HW2.out] at x10 x11
  go_wp2_with fail
  rw [← HW2.out]
  clear x10 x11
  refine (HM2.out _ (HT.out.keep hB2)).mono ?_
  rintro en w3 ⟨rfl, hb3⟩
  have hB3 : Below w.heap.size w w3 := hB2.trans (hb3.mono hB2.size)
  have hM1 := HK1.out.keep hb3
  clear HK1
  have HK1 := Lib.hid hM1
  clear hM1
  clear hb3 hB2
  obtain ⟨W4, hW4, hR2, hBl4, hsz4⟩ := box1T 24 w3 (.string A) (.string B)
  have n12 : w1.heap.size < w3.heap.size := HK1.out.lt
  have hB4 : Below w.heap.size w W4 := hB3.trans (hBl4.mono hB3.size)
  have HW4 := Lib.hid hW4
  have o2 : w.heap.size ≤ w3.heap.size := hB3.size
  have hM1 := HK1.out.keep hBl4
  clear HK1
  have HK1 := Lib.hid hM1
  clear hM1
  have HK2 := Lib.hid hR2
  clear hR2 hW4 hBl4 hsz4 hB3
  have x20 := HK2.out.c0; have x21 := HK2.out.c1
  rw [HW4.out] at x20 x21
  go_wp2_with fail
  rw [← HW4.out]
  clear x20 x21
  refine (HP1.out _ (HT.out.keep hB4) (HC.out.keep hB4)).mono ?_
  rintro en w5 ⟨rfl, hb5⟩
  have hB5 : Below w.heap.size w w5 := hB4.trans (hb5.mono hB4.size)
  have hM1 := HK1.out.keep hb5
  have hM2 := HK2.out.keep hb5
  clear HK1 HK2
  have HK1 := Lib.hid hM1
  clear hM1
  have HK2 := Lib.hid hM2
  clear hM2
  clear hb5 hB4
  obtain ⟨W6, hW6, hR3, hBl6, hsz6⟩ := box1T 24 w5 (.string C) (.string D)
  have n13 : w1.heap.size < w5.heap.size := HK1.out.lt
  have n23 : w3.heap.size < w5.heap.size := HK2.out.lt
  have hB6 : Below w.heap.size w W6 := hB5.trans (hBl6.mono hB5.size)
  have HW6 := Lib.hid hW6
  have o3 : w.heap.size ≤ w5.heap.size := hB5.size
  have hM1 := HK1.out.keep hBl6
  have hM2 := HK2.out.keep hBl6
  clear HK1 HK2
  have HK1 := Lib.hid hM1
  clear hM1
  have HK2 := Lib.hid hM2
  clear hM2
  have HK3 := Lib.hid hR3
  clear hR3 hW6 hBl6 hsz6 hB5
  have x30 := HK3.out.c0; have x31 := HK3.out.c1
  rw [HW6.out] at x30 x31
  go_wp2_with fail
  rw [← HW6.out]
  clear x30 x31
  refine (HP2.out _ (HT.out.keep hB6)).mono ?_
  rintro en w7 ⟨rfl, hb7⟩
  have hB7 : Below w.heap.size w w7 := hB6.trans (hb7.mono hB6.size)
  have hM1 := HK1.out.keep hb7
  have hM2 := HK2.out.keep hb7
  have hM3 := HK3.out.keep hb7
  clear HK1 HK2 HK3
  have HK1 := Lib.hid hM1
  clear hM1
  have HK2 := Lib.hid hM2
  clear hM2
  have HK3 := Lib.hid hM3
  clear hM3
  clear hb7 hB6
  obtain ⟨W8, hW8, hR4, hBl8, hsz8⟩ := box1T 24 w7 (.string C) (.string D)
  have n14 : w1.heap.size < w7.heap.size := HK1.out.lt
  have n24 : w3.heap.size < w7.heap.size := HK2.out.lt
  have n34 : w5.heap.size < w7.heap.size := HK3.out.lt
  have hB8 : Below w.heap.size w W8 := hB7.trans (hBl8.mono hB7.size)
  have HW8 := Lib.hid hW8
  have o4 : w.heap.size ≤ w7.heap.size := hB7.size
  have hM1 := HK1.out.keep hBl8
  have hM2 := HK2.out.keep hBl8
  have hM3 := HK3.out.keep hBl8
  clear HK1 HK2 HK3
  have HK1 := Lib.hid hM1
  clear hM1
  have HK2 := Lib.hid hM2
  clear hM2
  have HK3 := Lib.hid hM3
  clear hM3
  have HK4 := Lib.hid hR4
  clear hR4 hW8 hBl8 hsz8 hB7
  have x10 := HK1.out.c0; have x11 := HK1.out.c1
  have x20 := HK2.out.c0; have x21 := HK2.out.c1
  have x30 := HK3.out.c0; have x31 := HK3.out.c1
  have x40 := HK4.out.c0; have x41 := HK4.out.c1
  rw [HW8.out] at x10 x11 x20 x21 x30 x31 x40 x41
  go_wp2_with fail
  rw [← HW8.out]
  clear x10 x11 x20 x21 x30 x31 x40 x41
  refine (HS1.out _ ).mono ?_
  rintro en w9 ⟨rfl, hb9⟩
  have hB9 : Below w.heap.size w w9 := hB8.trans (hb9.mono hB8.size)
  have hM1 := HK1.out.keep hb9
  have hM2 := HK2.out.keep hb9
  have hM3 := HK3.out.keep hb9
  have hM4 := HK4.out.keep hb9
  clear HK1 HK2 HK3 HK4
  have HK1 := Lib.hid hM1
  clear hM1
  have HK2 := Lib.hid hM2
  clear hM2
  have HK3 := Lib.hid hM3
  clear hM3
  have HK4 := Lib.hid hM4
  clear hM4
  clear hb9 hB8
  go_wp2_with fail
  refine (HS2.out _ ).mono ?_
  rintro en w10 ⟨rfl, hb10⟩
  have hB10 : Below w.heap.size w w10 := hB9.trans (hb10.mono hB9.size)
  have hM1 := HK1.out.keep hb10
  have hM2 := HK2.out.keep hb10
  have hM3 := HK3.out.keep hb10
  have hM4 := HK4.out.keep hb10
  clear HK1 HK2 HK3 HK4
  have HK1 := Lib.hid hM1
  clear hM1
  have HK2 := Lib.hid hM2
  clear hM2
  have HK3 := Lib.hid hM3
  clear hM3
  have HK4 := Lib.hid hM4
  clear hM4
  clear hb10 hB9
  go_wp2_with fail
  refine (HA.out _ (HT.out.keep hB10) (HC.out.keep hB10)).mono ?_
  rintro en w11 ⟨rfl, hb11⟩
  have hB11 : Below w.heap.size w w11 := hB10.trans (hb11.mono hB10.size)
  have hM1 := HK1.out.keep hb11
  have hM2 := HK2.out.keep hb11
  have hM3 := HK3.out.keep hb11
  have hM4 := HK4.out.keep hb11
  clear HK1 HK2 HK3 HK4
  have HK1 := Lib.hid hM1
  clear hM1
  have HK2 := Lib.hid hM2
  clear hM2
  have HK3 := Lib.hid hM3
  clear hM3
  have HK4 := Lib.hid hM4
  clear hM4
  clear hb11 hB10
  go_wp2
  go_ret
  exact ⟨rfl, hB11⟩

set_option maxHeartbeats 6400000 in
set_option maxRecDepth 100000 in
theorem makes_ok (x y s A B C D : ByteArray) (n m : Int) (k k2 : Nat) (HE1 : Hid (∀ w, Calls Tryz.prog 20 #[.string x] w fun e w' => e = .returned (.bool true) ∧ w = w')) (HE2 : Hid (∀ w, Calls Tryz.prog 20 #[.string y] w fun e w' => e = .returned (.bool true) ∧ w = w')) (hl : decide (150 < ((s.size : Nat) : Int)) = false)
    (HM1 : Hid (∀ w, Tab w → Calls Tryz.prog 21 #[.string x, .string y] w (FrE w A B k))) (HM2 : Hid (∀ w, Tab w → Calls Tryz.prog 22 #[.string x, .string y] w (FrE w A B k)))
    (HP1 : Hid (∀ w, Tab w → CutT w → Calls Tryz.prog 23 #[.string s] w (FrE w C D k2))) (HP2 : Hid (∀ w, Tab w → Calls Tryz.prog 24 #[.string s] w (FrE w C D k2)))
    (HS1 : Hid (∀ w, Calls Tryz.prog 25 #[.string x] w fun e w' => e = .returned (.tuple #[.int .i64 n, .int .i64 0]) ∧ Below w.heap.size w w')) (HS2 : Hid (∀ w, Calls Tryz.prog 25 #[.string y] w fun e w' => e = .returned (.tuple #[.int .i64 m, .int .i64 0]) ∧ Below w.heap.size w w')) (HO : Hid (∀ w, Tab w → Calls Tryz.prog 26 #[.int .i64 n, .int .i64 m] w (FrE w A B k)))
    (w : World) (hT : Tab w) (hC : CutT w) :
    Calls Tryz.prog 4 #[.string x, .string y, .string s] w fun e w' => e = .returned (.bool true) ∧ Below w.heap.size w w' := by
  have HT := Lib.hid hT
  have HC := Lib.hid hC
  have HA := Lib.hid fawake
  clear hT hC
  unfold FrE FrV at *
  go_enter Tryz.func4, Tryz.ntmps4
  have hB0 : Below w.heap.size w w := Below.refl _ _
  go_wp2_with fail
  refine (HE1.out _).mono ?_
  rintro en w1 ⟨rfl, rfl⟩
  go_wp2_with fail
  refine (HE2.out _).mono ?_
  rintro en w1 ⟨rfl, rfl⟩
  go_wp2_with fail
  refine (HM1.out _ (HT.out.keep hB0)).mono ?_
  rintro en w1 ⟨rfl, hb1⟩
  have hB1 : Below w.heap.size w w1 := hB0.trans (hb1.mono hB0.size)
  
  clear hb1 hB0
  obtain ⟨W2, hW2, hR1, hBl2, hsz2⟩ := box1T 24 w1 (.string A) (.string B)
  have hB2 : Below w.heap.size w W2 := hB1.trans (hBl2.mono hB1.size)
  have HW2 := Lib.hid hW2
  have o1 : w.heap.size ≤ w1.heap.size := hB1.size
  
  have HK1 := Lib.hid hR1
  clear hR1 hW2 hBl2 hsz2 hB1
  have x10 := HK1.out.c0; have x11 := HK1.out.c1
  rw [HW2.out] at x10 x11
  go_wp2_with fail
  rw [← HW2.out]
  clear x10 x11
  refine (HM2.out _ (HT.out.keep hB2)).mono ?_
  rintro en w3 ⟨rfl, hb3⟩
  have hB3 : Below w.heap.size w w3 := hB2.trans (hb3.mono hB2.size)
  have hM1 := HK1.out.keep hb3
  clear HK1
  have HK1 := Lib.hid hM1
  clear hM1
  clear hb3 hB2
  obtain ⟨W4, hW4, hR2, hBl4, hsz4⟩ := box1T 24 w3 (.string A) (.string B)
  have n12 : w1.heap.size < w3.heap.size := HK1.out.lt
  have hB4 : Below w.heap.size w W4 := hB3.trans (hBl4.mono hB3.size)
  have HW4 := Lib.hid hW4
  have o2 : w.heap.size ≤ w3.heap.size := hB3.size
  have hM1 := HK1.out.keep hBl4
  clear HK1
  have HK1 := Lib.hid hM1
  clear hM1
  have HK2 := Lib.hid hR2
  clear hR2 hW4 hBl4 hsz4 hB3
  have x20 := HK2.out.c0; have x21 := HK2.out.c1
  rw [HW4.out] at x20 x21
  go_wp2_with fail
  rw [← HW4.out]
  clear x20 x21
  refine (HP1.out _ (HT.out.keep hB4) (HC.out.keep hB4)).mono ?_
  rintro en w5 ⟨rfl, hb5⟩
  have hB5 : Below w.heap.size w w5 := hB4.trans (hb5.mono hB4.size)
  have hM1 := HK1.out.keep hb5
  have hM2 := HK2.out.keep hb5
  clear HK1 HK2
  have HK1 := Lib.hid hM1
  clear hM1
  have HK2 := Lib.hid hM2
  clear hM2
  clear hb5 hB4
  obtain ⟨W6, hW6, hR3, hBl6, hsz6⟩ := box1T 24 w5 (.string C) (.string D)
  have n13 : w1.heap.size < w5.heap.size := HK1.out.lt
  have n23 : w3.heap.size < w5.heap.size := HK2.out.lt
  have hB6 : Below w.heap.size w W6 := hB5.trans (hBl6.mono hB5.size)
  have HW6 := Lib.hid hW6
  have o3 : w.heap.size ≤ w5.heap.size := hB5.size
  have hM1 := HK1.out.keep hBl6
  have hM2 := HK2.out.keep hBl6
  clear HK1 HK2
  have HK1 := Lib.hid hM1
  clear hM1
  have HK2 := Lib.hid hM2
  clear hM2
  have HK3 := Lib.hid hR3
  clear hR3 hW6 hBl6 hsz6 hB5
  have x30 := HK3.out.c0; have x31 := HK3.out.c1
  rw [HW6.out] at x30 x31
  go_wp2_with fail
  rw [← HW6.out]
  clear x30 x31
  refine (HP2.out _ (HT.out.keep hB6)).mono ?_
  rintro en w7 ⟨rfl, hb7⟩
  have hB7 : Below w.heap.size w w7 := hB6.trans (hb7.mono hB6.size)
  have hM1 := HK1.out.keep hb7
  have hM2 := HK2.out.keep hb7
  have hM3 := HK3.out.keep hb7
  clear HK1 HK2 HK3
  have HK1 := Lib.hid hM1
  clear hM1
  have HK2 := Lib.hid hM2
  clear hM2
  have HK3 := Lib.hid hM3
  clear hM3
  clear hb7 hB6
  obtain ⟨W8, hW8, hR4, hBl8, hsz8⟩ := box1T 24 w7 (.string C) (.string D)
  have n14 : w1.heap.size < w7.heap.size := HK1.out.lt
  have n24 : w3.heap.size < w7.heap.size := HK2.out.lt
  have n34 : w5.heap.size < w7.heap.size := HK3.out.lt
  have hB8 : Below w.heap.size w W8 := hB7.trans (hBl8.mono hB7.size)
  have HW8 := Lib.hid hW8
  have o4 : w.heap.size ≤ w7.heap.size := hB7.size
  have hM1 := HK1.out.keep hBl8
  have hM2 := HK2.out.keep hBl8
  have hM3 := HK3.out.keep hBl8
  clear HK1 HK2 HK3
  have HK1 := Lib.hid hM1
  clear hM1
  have HK2 := Lib.hid hM2
  clear hM2
  have HK3 := Lib.hid hM3
  clear hM3
  have HK4 := Lib.hid hR4
  clear hR4 hW8 hBl8 hsz8 hB7
  have x10 := HK1.out.c0; have x11 := HK1.out.c1
  have x20 := HK2.out.c0; have x21 := HK2.out.c1
  have x30 := HK3.out.c0; have x31 := HK3.out.c1
  have x40 := HK4.out.c0; have x41 := HK4.out.c1
  rw [HW8.out] at x10 x11 x20 x21 x30 x31 x40 x41
  go_wp2_with fail
  rw [← HW8.out]
  clear x10 x11 x20 x21 x30 x31 x40 x41
  refine (HS1.out _ ).mono ?_
  rintro en w9 ⟨rfl, hb9⟩
  have hB9 : Below w.heap.size w w9 := hB8.trans (hb9.mono hB8.size)
  have hM1 := HK1.out.keep hb9
  have hM2 := HK2.out.keep hb9
  have hM3 := HK3.out.keep hb9
  have hM4 := HK4.out.keep hb9
  clear HK1 HK2 HK3 HK4
  have HK1 := Lib.hid hM1
  clear hM1
  have HK2 := Lib.hid hM2
  clear hM2
  have HK3 := Lib.hid hM3
  clear hM3
  have HK4 := Lib.hid hM4
  clear hM4
  clear hb9 hB8
  go_wp2_with fail
  refine (HS2.out _ ).mono ?_
  rintro en w10 ⟨rfl, hb10⟩
  have hB10 : Below w.heap.size w w10 := hB9.trans (hb10.mono hB9.size)
  have hM1 := HK1.out.keep hb10
  have hM2 := HK2.out.keep hb10
  have hM3 := HK3.out.keep hb10
  have hM4 := HK4.out.keep hb10
  clear HK1 HK2 HK3 HK4
  have HK1 := Lib.hid hM1
  clear hM1
  have HK2 := Lib.hid hM2
  clear hM2
  have HK3 := Lib.hid hM3
  clear hM3
  have HK4 := Lib.hid hM4
  clear hM4
  clear hb10 hB9
  go_wp2_with fail
  refine (HO.out _ (HT.out.keep hB10)).mono ?_
  rintro en w11 ⟨rfl, hb11⟩
  have hB11 : Below w.heap.size w w11 := hB10.trans (hb11.mono hB10.size)
  have hM1 := HK1.out.keep hb11
  have hM2 := HK2.out.keep hb11
  have hM3 := HK3.out.keep hb11
  have hM4 := HK4.out.keep hb11
  clear HK1 HK2 HK3 HK4
  have HK1 := Lib.hid hM1
  clear hM1
  have HK2 := Lib.hid hM2
  clear hM2
  have HK3 := Lib.hid hM3
  clear hM3
  have HK4 := Lib.hid hM4
  clear hM4
  clear hb11 hB10
  obtain ⟨U12, hU12⟩ : ∃ U, U = ((w11.setCell ⟨w5.heap.size, 0, none⟩ (.string A)).setCell ⟨w5.heap.size, 1, none⟩ (.string B)) := ⟨_, rfl⟩
  have hB12 : Below w.heap.size w U12 := by rw [hU12]; exact (hB11.setCell (by simpa using o3) _).setCell (by simpa using o3) _
  have hM1 := (HK1.out.other ⟨w5.heap.size, 0, none⟩ (.string A) (by simp; omega)).other ⟨w5.heap.size, 1, none⟩ (.string B) (by simp; omega)
  rw [← hU12] at hM1
  have hM2 := (HK2.out.other ⟨w5.heap.size, 0, none⟩ (.string A) (by simp; omega)).other ⟨w5.heap.size, 1, none⟩ (.string B) (by simp; omega)
  rw [← hU12] at hM2
  have hM3 : Box 24 U12 w5.heap.size (.string A) (.string B) := by rw [hU12]; exact (HK3.out.set0 _).set1 _
  have hM4 := (HK4.out.other ⟨w5.heap.size, 0, none⟩ (.string A) (by simp; omega)).other ⟨w5.heap.size, 1, none⟩ (.string B) (by simp; omega)
  rw [← hU12] at hM4
  have e30 := HK3.out.c0; have e31 := HK3.out.c1; have e32 := HK3.out.f0 0; have e33 := HK3.out.f0 1
  clear HK1 HK2 HK3 HK4
  have HK1 := Lib.hid hM1
  clear hM1
  have HK2 := Lib.hid hM2
  clear hM2
  have HK3 := Lib.hid hM3
  clear hM3
  have HK4 := Lib.hid hM4
  clear hM4
  have HU12 := Lib.hid hU12
  clear hU12 hB11
  have x20 := HK2.out.c0; have x21 := HK2.out.c1
  have x30 := HK3.out.c0; have x31 := HK3.out.c1
  rw [HU12.out] at x20 x21 x30 x31
  go_wp2_with fail
  rw [← HU12.out]
  clear x20 x21 x30 x31
  refine (HA.out _ (HT.out.keep hB12) (HC.out.keep hB12)).mono ?_
  rintro en w13 ⟨rfl, hb13⟩
  have hB13 : Below w.heap.size w w13 := hB12.trans (hb13.mono hB12.size)
  have hM1 := HK1.out.keep hb13
  have hM2 := HK2.out.keep hb13
  have hM3 := HK3.out.keep hb13
  have hM4 := HK4.out.keep hb13
  clear HK1 HK2 HK3 HK4
  have HK1 := Lib.hid hM1
  clear hM1
  have HK2 := Lib.hid hM2
  clear hM2
  have HK3 := Lib.hid hM3
  clear hM3
  have HK4 := Lib.hid hM4
  clear hM4
  clear hb13 hB12
  clear e30 e31 e32 e33
  go_wp2
  go_ret
  exact ⟨rfl, hB13⟩

end Go.Proofs.YtolkiimlchfmlaaGreatDoor
