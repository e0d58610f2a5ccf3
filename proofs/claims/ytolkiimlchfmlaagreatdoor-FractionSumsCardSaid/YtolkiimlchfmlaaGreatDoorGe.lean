/- Walks of the laws of fractions: the law of what is computed. -/
import Derived.Test.YtolkiimlchfmlaaGreatDoorGd
import Derived.Test.YtolkiimlchfmlaaGreatDoorGa
import Derived.Test.YtolkiimlchfmlaaGreatDoorFx
namespace Go.Proofs.YtolkiimlchfmlaaGreatDoor
open Go.RowKit Go.Proofs.Num

set_option maxHeartbeats 3200000 in
set_option maxRecDepth 100000 in
theorem computes_no1 (s r s' r' : ByteArray) (HE1 : Hid (∀ w, Calls Tryz.prog 10 #[FrV s r] w fun e w' => e = .returned (.bool false) ∧ Below w.heap.size w w')) 
    (w : World) (hT : Tab w) (hC : CutT w) : Calls Tryz.prog 5 #[FrV s r, FrV s' r'] w fun e w' => e = .returned (.bool true) ∧ Below w.heap.size w w' := by
  have HT := Lib.hid hT
  have HC := Lib.hid hC
  have HA := Lib.hid fawake
  clear hT hC
  unfold FrV at *
  go_enter Tryz.func5, Tryz.ntmps5
  obtain ⟨W0, hW0, hR1, hR2, hBl0, hsz0⟩ := box2T 24 w (.string s) (.string r) (.string s') (.string r')
  have HW0 := Lib.hid hW0
  have HK1 := Lib.hid hR1
  have HK2 := Lib.hid hR2
  have hB0 : Below w.heap.size w W0 := hBl0
  clear hR1 hR2 hBl0 hW0
  clear hsz0
  have x10 := HK1.out.c0; have x11 := HK1.out.c1
  rw [HW0.out] at x10 x11
  go_wp2_with fail
  rw [← HW0.out]
  clear x10 x11
  refine (HE1.out _ ).mono ?_
  rintro en w1 ⟨rfl, hb1⟩
  have hB1 : Below w.heap.size w w1 := hB0.trans (hb1.mono hB0.size)
  have hM1 := HK1.out.keep hb1
  have hM2 := HK2.out.keep hb1
  clear HK1 HK2
  have HK1 := Lib.hid hM1
  clear hM1
  have HK2 := Lib.hid hM2
  clear hM2
  clear hb1 hB0
  go_wp2_with fail
  refine (HA.out _ (HT.out.keep hB1) (HC.out.keep hB1)).mono ?_
  rintro en w2 ⟨rfl, hb2⟩
  have hB2 : Below w.heap.size w w2 := hB1.trans (hb2.mono hB1.size)
  have hM1 := HK1.out.keep hb2
  have hM2 := HK2.out.keep hb2
  clear HK1 HK2
  have HK1 := Lib.hid hM1
  clear hM1
  have HK2 := Lib.hid hM2
  clear hM2
  clear hb2 hB1
  go_wp2
  go_ret
  exact ⟨rfl, hB2⟩

set_option maxHeartbeats 3200000 in
set_option maxRecDepth 100000 in
theorem computes_no2 (s r s' r' : ByteArray) (HE1 : Hid (∀ w, Calls Tryz.prog 10 #[FrV s r] w fun e w' => e = .returned (.bool true) ∧ Below w.heap.size w w')) (HE2 : Hid (∀ w, Calls Tryz.prog 10 #[FrV s' r'] w fun e w' => e = .returned (.bool false) ∧ Below w.heap.size w w'))
    (w : World) (hT : Tab w) (hC : CutT w) : Calls Tryz.prog 5 #[FrV s r, FrV s' r'] w fun e w' => e = .returned (.bool true) ∧ Below w.heap.size w w' := by
  have HT := Lib.hid hT
  have HC := Lib.hid hC
  have HA := Lib.hid fawake
  clear hT hC
  unfold FrV at *
  go_enter Tryz.func5, Tryz.ntmps5
  obtain ⟨W0, hW0, hR1, hR2, hBl0, hsz0⟩ := box2T 24 w (.string s) (.string r) (.string s') (.string r')
  have HW0 := Lib.hid hW0
  have HK1 := Lib.hid hR1
  have HK2 := Lib.hid hR2
  have hB0 : Below w.heap.size w W0 := hBl0
  clear hR1 hR2 hBl0 hW0
  clear hsz0
  have x10 := HK1.out.c0; have x11 := HK1.out.c1
  rw [HW0.out] at x10 x11
  go_wp2_with fail
  rw [← HW0.out]
  clear x10 x11
  refine (HE1.out _ ).mono ?_
  rintro en w1 ⟨rfl, hb1⟩
  have hB1 : Below w.heap.size w w1 := hB0.trans (hb1.mono hB0.size)
  have hM1 := HK1.out.keep hb1
  have hM2 := HK2.out.keep hb1
  clear HK1 HK2
  have HK1 := Lib.hid hM1
  clear hM1
  have HK2 := Lib.hid hM2
  clear hM2
  clear hb1 hB0
  have x20 := HK2.out.c0; have x21 := HK2.out.c1
  go_wp2_with fail
  clear x20 x21
  refine (HE2.out _ ).mono ?_
  rintro en w2 ⟨rfl, hb2⟩
  have hB2 : Below w.heap.size w w2 := hB1.trans (hb2.mono hB1.size)
  have hM1 := HK1.out.keep hb2
  have hM2 := HK2.out.keep hb2
  clear HK1 HK2
  have HK1 := Lib.hid hM1
  clear hM1
  have HK2 := Lib.hid hM2
  clear hM2
  clear hb2 hB1
  go_wp2_with fail
  refine (HA.out _ (HT.out.keep hB2) (HC.out.keep hB2)).mono ?_
  rintro en w3 ⟨rfl, hb3⟩
  have hB3 : Below w.heap.size w w3 := hB2.trans (hb3.mono hB2.size)
  have hM1 := HK1.out.keep hb3
  have hM2 := HK2.out.keep hb3
  clear HK1 HK2
  have HK1 := Lib.hid hM1
  clear hM1
  have HK2 := Lib.hid hM2
  clear hM2
  clear hb3 hB2
  go_wp2
  go_ret
  exact ⟨rfl, hB3⟩

set_option maxHeartbeats 12800000 in
set_option maxRecDepth 100000 in
theorem computes_yes (s r s' r' A1 B1 A2 B2 A3 B3 A4 B4 : ByteArray) (z : Int) (k1 k2 k3 k4 k5 : Nat)
    (HE1 : Hid (∀ w, Calls Tryz.prog 10 #[FrV s r] w fun e w' => e = .returned (.bool true) ∧ Below w.heap.size w w')) (HE2 : Hid (∀ w, Calls Tryz.prog 10 #[FrV s' r'] w fun e w' => e = .returned (.bool true) ∧ Below w.heap.size w w'))
    (HA1 : Hid (∀ w, Tab w → Calls Tryz.prog 27 #[FrV s r, FrV s' r'] w (FrE w A1 B1 k1))) (HA2 : Hid (∀ w, Tab w → Calls Tryz.prog 28 #[FrV s r, FrV s' r'] w (FrE w A1 B1 k1)))
    (HS1 : Hid (∀ w, Tab w → Calls Tryz.prog 29 #[FrV s r, FrV s' r'] w (FrE w A2 B2 k2))) (HS2 : Hid (∀ w, Tab w → Calls Tryz.prog 30 #[FrV s r, FrV s' r'] w (FrE w A2 B2 k2)))
    (HM1 : Hid (∀ w, Tab w → Calls Tryz.prog 31 #[FrV s r, FrV s' r'] w (FrE w A3 B3 k3))) (HM2 : Hid (∀ w, Tab w → Calls Tryz.prog 32 #[FrV s r, FrV s' r'] w (FrE w A3 B3 k3)))
    (HD1 : Hid (∀ w, Tab w → Calls Tryz.prog 33 #[FrV s r, FrV s' r'] w (FrE w A4 B4 k4))) (HD2 : Hid (∀ w, Tab w → Calls Tryz.prog 34 #[FrV s r, FrV s' r'] w (FrE w A4 B4 k4)))
    (HC1 : Hid (∀ w, Tab w → Calls Tryz.prog 35 #[FrV s r, FrV s' r'] w (IntOut w z k5))) (HC2 : Hid (∀ w, Tab w → Calls Tryz.prog 36 #[FrV s r, FrV s' r'] w (IntOut w z k5)))
    (w : World) (hT : Tab w) (hC : CutT w) : Calls Tryz.prog 5 #[FrV s r, FrV s' r'] w fun e w' => e = .returned (.bool true) ∧ Below w.heap.size w w' := by
  have HT := Lib.hid hT
  have HC := Lib.hid hC
  have HA := Lib.hid fawake
  clear hT hC
  unfold FrE at HA1 HA2 HS1 HS2 HM1 HM2 HD1 HD2
  unfold IntOut at HC1 HC2
  unfold FrV at *
  go_enter Tryz.func5, Tryz.ntmps5
  obtain ⟨W0, hW0, hR1, hR2, hBl0, hsz0⟩ := box2T 24 w (.string s) (.string r) (.string s') (.string r')
  have HW0 := Lib.hid hW0
  have HK1 := Lib.hid hR1
  have HK2 := Lib.hid hR2
  have hB0 : Below w.heap.size w W0 := hBl0
  clear hR1 hR2 hBl0 hW0
  clear hsz0
  have x10 := HK1.out.c0; have x11 := HK1.out.c1
  rw [HW0.out] at x10 x11
  go_wp2_with fail
  rw [← HW0.out]
  clear x10 x11
  refine (HE1.out _ ).mono ?_
  rintro en w1 ⟨rfl, hb1⟩
  have hB1 : Below w.heap.size w w1 := hB0.trans (hb1.mono hB0.size)
  have hM1 := HK1.out.keep hb1
  have hM2 := HK2.out.keep hb1
  clear HK1 HK2
  have HK1 := Lib.hid hM1
  clear hM1
  have HK2 := Lib.hid hM2
  clear hM2
  clear hb1 hB0
  have x20 := HK2.out.c0; have x21 := HK2.out.c1
  go_wp2_with fail
  clear x20 x21
  refine (HE2.out _ ).mono ?_
  rintro en w2 ⟨rfl, hb2⟩
  have hB2 : Below w.heap.size w w2 := hB1.trans (hb2.mono hB1.size)
  have hM1 := HK1.out.keep hb2
  have hM2 := HK2.out.keep hb2
  clear HK1 HK2
  have HK1 := Lib.hid hM1
  clear hM1
  have HK2 := Lib.hid hM2
  clear hM2
  clear hb2 hB1
  have x10 := HK1.out.c0; have x11 := HK1.out.c1
  have x20 := HK2.out.c0; have x21 := HK2.out.c1
  go_wp2_with fail
  clear x10 x11 x20 x21
  refine (HA1.out _ (HT.out.keep hB2)).mono ?_
  rintro en w3 ⟨rfl, hb3⟩
  have hB3 : Below w.heap.size w w3 := hB2.trans (hb3.mono hB2.size)
  have hM1 := HK1.out.keep hb3
  have hM2 := HK2.out.keep hb3
  clear HK1 HK2
  have HK1 := Lib.hid hM1
  clear hM1
  have HK2 := Lib.hid hM2
  clear hM2
  clear hb3 hB2
  obtain ⟨W4, hW4, hR3, hBl4, hsz4⟩ := box1T 24 w3 (.string A1) (.string B1)
  have n13 : w.heap.size < w3.heap.size := HK1.out.lt
  have n23 : (w.heap.size + 1) < w3.heap.size := HK2.out.lt
  have hB4 : Below w.heap.size w W4 := hB3.trans (hBl4.mono hB3.size)
  have HW4 := Lib.hid hW4
  have o3 : w.heap.size ≤ w3.heap.size := hB3.size
  have hM1 := HK1.out.keep hBl4
  have hM2 := HK2.out.keep hBl4
  clear HK1 HK2
  have HK1 := Lib.hid hM1
  clear hM1
  have HK2 := Lib.hid hM2
  clear hM2
  have HK3 := Lib.hid hR3
  clear hR3 hW4 hBl4 hsz4 hB3
  have x10 := HK1.out.c0; have x11 := HK1.out.c1
  have x20 := HK2.out.c0; have x21 := HK2.out.c1
  rw [HW4.out] at x10 x11 x20 x21
  go_wp2_with fail
  rw [← HW4.out]
  clear x10 x11 x20 x21
  refine (HA2.out _ (HT.out.keep hB4)).mono ?_
  rintro en w5 ⟨rfl, hb5⟩
  have hB5 : Below w.heap.size w w5 := hB4.trans (hb5.mono hB4.size)
  have hM1 := HK1.out.keep hb5
  have hM2 := HK2.out.keep hb5
  have hM3 := HK3.out.keep hb5
  clear HK1 HK2 HK3
  have HK1 := Lib.hid hM1
  clear hM1
  have HK2 := Lib.hid hM2
  clear hM2
  have HK3 := Lib.hid hM3
  clear hM3
  clear hb5 hB4
  obtain ⟨W6, hW6, hR4, hBl6, hsz6⟩ := box1T 24 w5 (.string A1) (.string B1)
  have n14 : w.heap.size < w5.heap.size := HK1.out.lt
  have n24 : (w.heap.size + 1) < w5.heap.size := HK2.out.lt
  have n34 : w3.heap.size < w5.heap.size := HK3.out.lt
  have hB6 : Below w.heap.size w W6 := hB5.trans (hBl6.mono hB5.size)
  have HW6 := Lib.hid hW6
  have o4 : w.heap.size ≤ w5.heap.size := hB5.size
  have hM1 := HK1.out.keep hBl6
  have hM2 := HK2.out.keep hBl6
  have hM3 := HK3.out.keep hBl6
  clear HK1 HK2 HK3
  have HK1 := Lib.hid hM1
  clear hM1
  have HK2 := Lib.hid hM2
  clear hM2
  have HK3 := Lib.hid hM3
  clear hM3
  have HK4 := Lib.hid hR4
  clear hR4 hW6 hBl6 hsz6 hB5
  have x10 := HK1.out.c0; have x11 := HK1.out.c1
  have x20 := HK2.out.c0; have x21 := HK2.out.c1
  rw [HW6.out] at x10 x11 x20 x21
  go_wp2_with fail
  rw [← HW6.out]
  clear x10 x11 x20 x21
  refine (HS1.out _ (HT.out.keep hB6)).mono ?_
  rintro en w7 ⟨rfl, hb7⟩
  have hB7 : Below w.heap.size w w7 := hB6.trans (hb7.mono hB6.size)
  have hM1 := HK1.out.keep hb7
  have hM2 := HK2.out.keep hb7
  have hM3 := HK3.out.keep hb7
  have hM4 := HK4.out.keep hb7
  clear HK1 HK2 HK3 HK4
  have HK1 := Lib.hid hM1
  clear hM1
  have HK2 := Lib.hid hM2
  clear hM2
  have HK3 := Lib.hid hM3
  clear hM3
  have HK4 := Lib.hid hM4
  clear hM4
  clear hb7 hB6
  obtain ⟨W8, hW8, hR5, hBl8, hsz8⟩ := box1T 24 w7 (.string A2) (.string B2)
  have n15 : w.heap.size < w7.heap.size := HK1.out.lt
  have n25 : (w.heap.size + 1) < w7.heap.size := HK2.out.lt
  have n35 : w3.heap.size < w7.heap.size := HK3.out.lt
  have n45 : w5.heap.size < w7.heap.size := HK4.out.lt
  have hB8 : Below w.heap.size w W8 := hB7.trans (hBl8.mono hB7.size)
  have HW8 := Lib.hid hW8
  have o5 : w.heap.size ≤ w7.heap.size := hB7.size
  have hM1 := HK1.out.keep hBl8
  have hM2 := HK2.out.keep hBl8
  have hM3 := HK3.out.keep hBl8
  have hM4 := HK4.out.keep hBl8
  clear HK1 HK2 HK3 HK4
  have HK1 := Lib.hid hM1
  clear hM1
  have HK2 := Lib.hid hM2
  clear hM2
  have HK3 := Lib.hid hM3
  clear hM3
  have HK4 := Lib.hid hM4
  clear hM4
  have HK5 := Lib.hid hR5
  clear hR5 hW8 hBl8 hsz8 hB7
  have x10 := HK1.out.c0; have x11 := HK1.out.c1
  have x20 := HK2.out.c0; have x21 := HK2.out.c1
  rw [HW8.out] at x10 x11 x20 x21
  go_wp2_with fail
  rw [← HW8.out]
  clear x10 x11 x20 x21
  refine (HS2.out _ (HT.out.keep hB8)).mono ?_
  rintro en w9 ⟨rfl, hb9⟩
  have hB9 : Below w.heap.size w w9 := hB8.trans (hb9.mono hB8.size)
  have hM1 := HK1.out.keep hb9
  have hM2 := HK2.out.keep hb9
  have hM3 := HK3.out.keep hb9
  have hM4 := HK4.out.keep hb9
  have hM5 := HK5.out.keep hb9
  clear HK1 HK2 HK3 HK4 HK5
  have HK1 := Lib.hid hM1
  clear hM1
  have HK2 := Lib.hid hM2
  clear hM2
  have HK3 := Lib.hid hM3
  clear hM3
  have HK4 := Lib.hid hM4
  clear hM4
  have HK5 := Lib.hid hM5
  clear hM5
  clear hb9 hB8
  obtain ⟨W10, hW10, hR6, hBl10, hsz10⟩ := box1T 24 w9 (.string A2) (.string B2)
  have n16 : w.heap.size < w9.heap.size := HK1.out.lt
  have n26 : (w.heap.size + 1) < w9.heap.size := HK2.out.lt
  have n36 : w3.heap.size < w9.heap.size := HK3.out.lt
  have n46 : w5.heap.size < w9.heap.size := HK4.out.lt
  have n56 : w7.heap.size < w9.heap.size := HK5.out.lt
  have hB10 : Below w.heap.size w W10 := hB9.trans (hBl10.mono hB9.size)
  have HW10 := Lib.hid hW10
  have o6 : w.heap.size ≤ w9.heap.size := hB9.size
  have hM1 := HK1.out.keep hBl10
  have hM2 := HK2.out.keep hBl10
  have hM3 := HK3.out.keep hBl10
  have hM4 := HK4.out.keep hBl10
  have hM5 := HK5.out.keep hBl10
  clear HK1 HK2 HK3 HK4 HK5
  have HK1 := Lib.hid hM1
  clear hM1
  have HK2 := Lib.hid hM2
  clear hM2
  have HK3 := Lib.hid hM3
  clear hM3
  have HK4 := Lib.hid hM4
  clear hM4
  have HK5 := Lib.hid hM5
  clear hM5
  have HK6 := Lib.hid hR6
  clear hR6 hW10 hBl10 hsz10 hB9
  have x10 := HK1.out.c0; have x11 := HK1.out.c1
  have x20 := HK2.out.c0; have x21 := HK2.out.c1
  have x30 := HK3.out.c0; have x31 := HK3.out.c1
  have x40 := HK4.out.c0; have x41 := HK4.out.c1
  have x50 := HK5.out.c0; have x51 := HK5.out.c1
  have x60 := HK6.out.c0; have x61 := HK6.out.c1
  rw [HW10.out] at x10 x11 x20 x21 x30 x31 x40 x41 x50 x51 x60 x61
  go_wp2_with fail
  rw [← HW10.out]
  clear x10 x11 x20 x21 x30 x31 x40 x41 x50 x51 x60 x61
  refine (HM1.out _ (HT.out.keep hB10)).mono ?_
  rintro en w11 ⟨rfl, hb11⟩
  have hB11 : Below w.heap.size w w11 := hB10.trans (hb11.mono hB10.size)
  have hM1 := HK1.out.keep hb11
  have hM2 := HK2.out.keep hb11
  have hM3 := HK3.out.keep hb11
  have hM4 := HK4.out.keep hb11
  have hM5 := HK5.out.keep hb11
  have hM6 := HK6.out.keep hb11
  clear HK1 HK2 HK3 HK4 HK5 HK6
  have HK1 := Lib.hid hM1
  clear hM1
  have HK2 := Lib.hid hM2
  clear hM2
  have HK3 := Lib.hid hM3
  clear hM3
  have HK4 := Lib.hid hM4
  clear hM4
  have HK5 := Lib.hid hM5
  clear hM5
  have HK6 := Lib.hid hM6
  clear hM6
  clear hb11 hB10
  obtain ⟨U12, hU12⟩ : ∃ U, U = ((w11.setCell ⟨w3.heap.size, 0, none⟩ (.string A3)).setCell ⟨w3.heap.size, 1, none⟩ (.string B3)) := ⟨_, rfl⟩
  have hB12 : Below w.heap.size w U12 := by rw [hU12]; exact (hB11.setCell (by simpa using o3) _).setCell (by simpa using o3) _
  have hM1 := (HK1.out.other ⟨w3.heap.size, 0, none⟩ (.string A3) (by simp; omega)).other ⟨w3.heap.size, 1, none⟩ (.string B3) (by simp; omega)
  rw [← hU12] at hM1
  have hM2 := (HK2.out.other ⟨w3.heap.size, 0, none⟩ (.string A3) (by simp; omega)).other ⟨w3.heap.size, 1, none⟩ (.string B3) (by simp; omega)
  rw [← hU12] at hM2
  have hM3 : Box 24 U12 w3.heap.size (.string A3) (.string B3) := by rw [hU12]; exact (HK3.out.set0 _).set1 _
  have hM4 := (HK4.out.other ⟨w3.heap.size, 0, none⟩ (.string A3) (by simp; omega)).other ⟨w3.heap.size, 1, none⟩ (.string B3) (by simp; omega)
  rw [← hU12] at hM4
  have hM5 := (HK5.out.other ⟨w3.heap.size, 0, none⟩ (.string A3) (by simp; omega)).other ⟨w3.heap.size, 1, none⟩ (.string B3) (by simp; omega)
  rw [← hU12] at hM5
  have hM6 := (HK6.out.other ⟨w3.heap.size, 0, none⟩ (.string A3) (by simp; omega)).other ⟨w3.heap.size, 1, none⟩ (.string B3) (by simp; omega)
  rw [← hU12] at hM6
  have e30 := HK3.out.c0; have e31 := HK3.out.c1; have e32 := HK3.out.f0 0; have e33 := HK3.out.f0 1
  clear HK1 HK2 HK3 HK4 HK5 HK6
  have HK1 := Lib.hid hM1
  clear hM1
  have HK2 := Lib.hid hM2
  clear hM2
  have HK3 := Lib.hid hM3
  clear hM3
  have HK4 := Lib.hid hM4
  clear hM4
  have HK5 := Lib.hid hM5
  clear hM5
  have HK6 := Lib.hid hM6
  clear hM6
  have HU12 := Lib.hid hU12
  clear hU12 hB11
  have x10 := HK1.out.c0; have x11 := HK1.out.c1
  have x20 := HK2.out.c0; have x21 := HK2.out.c1
  rw [HU12.out] at x10 x11 x20 x21
  go_wp2_with fail
  rw [← HU12.out]
  clear x10 x11 x20 x21
  refine (HM2.out _ (HT.out.keep hB12)).mono ?_
  rintro en w13 ⟨rfl, hb13⟩
  have hB13 : Below w.heap.size w w13 := hB12.trans (hb13.mono hB12.size)
  have hM1 := HK1.out.keep hb13
  have hM2 := HK2.out.keep hb13
  have hM3 := HK3.out.keep hb13
  have hM4 := HK4.out.keep hb13
  have hM5 := HK5.out.keep hb13
  have hM6 := HK6.out.keep hb13
  clear HK1 HK2 HK3 HK4 HK5 HK6
  have HK1 := Lib.hid hM1
  clear hM1
  have HK2 := Lib.hid hM2
  clear hM2
  have HK3 := Lib.hid hM3
  clear hM3
  have HK4 := Lib.hid hM4
  clear hM4
  have HK5 := Lib.hid hM5
  clear hM5
  have HK6 := Lib.hid hM6
  clear hM6
  clear hb13 hB12
  clear e30 e31 e32 e33
  obtain ⟨U14, hU14⟩ : ∃ U, U = ((w13.setCell ⟨w5.heap.size, 0, none⟩ (.string A3)).setCell ⟨w5.heap.size, 1, none⟩ (.string B3)) := ⟨_, rfl⟩
  have hB14 : Below w.heap.size w U14 := by rw [hU14]; exact (hB13.setCell (by simpa using o4) _).setCell (by simpa using o4) _
  have hM1 := (HK1.out.other ⟨w5.heap.size, 0, none⟩ (.string A3) (by simp; omega)).other ⟨w5.heap.size, 1, none⟩ (.string B3) (by simp; omega)
  rw [← hU14] at hM1
  have hM2 := (HK2.out.other ⟨w5.heap.size, 0, none⟩ (.string A3) (by simp; omega)).other ⟨w5.heap.size, 1, none⟩ (.string B3) (by simp; omega)
  rw [← hU14] at hM2
  have hM3 := (HK3.out.other ⟨w5.heap.size, 0, none⟩ (.string A3) (by simp; omega)).other ⟨w5.heap.size, 1, none⟩ (.string B3) (by simp; omega)
  rw [← hU14] at hM3
  have hM4 : Box 24 U14 w5.heap.size (.string A3) (.string B3) := by rw [hU14]; exact (HK4.out.set0 _).set1 _
  have hM5 := (HK5.out.other ⟨w5.heap.size, 0, none⟩ (.string A3) (by simp; omega)).other ⟨w5.heap.size, 1, none⟩ (.string B3) (by simp; omega)
  rw [← hU14] at hM5
  have hM6 := (HK6.out.other ⟨w5.heap.size, 0, none⟩ (.string A3) (by simp; omega)).other ⟨w5.heap.size, 1, none⟩ (.string B3) (by simp; omega)
  rw [← hU14] at hM6
  have e40 := HK4.out.c0; have e41 := HK4.out.c1; have e42 := HK4.out.f0 0; have e43 := HK4.out.f0 1
  clear HK1 HK2 HK3 HK4 HK5 HK6
  have HK1 := Lib.hid hM1
  clear hM1
  have HK2 := Lib.hid hM2
  clear hM2
  have HK3 := Lib.hid hM3
  clear hM3
  have HK4 := Lib.hid hM4
  clear hM4
  have HK5 := Lib.hid hM5
  clear hM5
  have HK6 := Lib.hid hM6
  clear hM6
  have HU14 := Lib.hid hU14
  clear hU14 hB13
  have x10 := HK1.out.c0; have x11 := HK1.out.c1
  have x20 := HK2.out.c0; have x21 := HK2.out.c1
  rw [HU14.out] at x10 x11 x20 x21
  go_wp2_with fail
  rw [← HU14.out]
  clear x10 x11 x20 x21
  refine (HD1.out _ (HT.out.keep hB14)).mono ?_
  rintro en w15 ⟨rfl, hb15⟩
  have hB15 : Below w.heap.size w w15 := hB14.trans (hb15.mono hB14.size)
  have hM1 := HK1.out.keep hb15
  have hM2 := HK2.out.keep hb15
  have hM3 := HK3.out.keep hb15
  have hM4 := HK4.out.keep hb15
  have hM5 := HK5.out.keep hb15
  have hM6 := HK6.out.keep hb15
  clear HK1 HK2 HK3 HK4 HK5 HK6
  have HK1 := Lib.hid hM1
  clear hM1
  have HK2 := Lib.hid hM2
  clear hM2
  have HK3 := Lib.hid hM3
  clear hM3
  have HK4 := Lib.hid hM4
  clear hM4
  have HK5 := Lib.hid hM5
  clear hM5
  have HK6 := Lib.hid hM6
  clear hM6
  clear hb15 hB14
  clear e40 e41 e42 e43
  obtain ⟨U16, hU16⟩ : ∃ U, U = ((w15.setCell ⟨w7.heap.size, 0, none⟩ (.string A4)).setCell ⟨w7.heap.size, 1, none⟩ (.string B4)) := ⟨_, rfl⟩
  have hB16 : Below w.heap.size w U16 := by rw [hU16]; exact (hB15.setCell (by simpa using o5) _).setCell (by simpa using o5) _
  have hM1 := (HK1.out.other ⟨w7.heap.size, 0, none⟩ (.string A4) (by simp; omega)).other ⟨w7.heap.size, 1, none⟩ (.string B4) (by simp; omega)
  rw [← hU16] at hM1
  have hM2 := (HK2.out.other ⟨w7.heap.size, 0, none⟩ (.string A4) (by simp; omega)).other ⟨w7.heap.size, 1, none⟩ (.string B4) (by simp; omega)
  rw [← hU16] at hM2
  have hM3 := (HK3.out.other ⟨w7.heap.size, 0, none⟩ (.string A4) (by simp; omega)).other ⟨w7.heap.size, 1, none⟩ (.string B4) (by simp; omega)
  rw [← hU16] at hM3
  have hM4 := (HK4.out.other ⟨w7.heap.size, 0, none⟩ (.string A4) (by simp; omega)).other ⟨w7.heap.size, 1, none⟩ (.string B4) (by simp; omega)
  rw [← hU16] at hM4
  have hM5 : Box 24 U16 w7.heap.size (.string A4) (.string B4) := by rw [hU16]; exact (HK5.out.set0 _).set1 _
  have hM6 := (HK6.out.other ⟨w7.heap.size, 0, none⟩ (.string A4) (by simp; omega)).other ⟨w7.heap.size, 1, none⟩ (.string B4) (by simp; omega)
  rw [← hU16] at hM6
  have e50 := HK5.out.c0; have e51 := HK5.out.c1; have e52 := HK5.out.f0 0; have e53 := HK5.out.f0 1
  clear HK1 HK2 HK3 HK4 HK5 HK6
  have HK1 := Lib.hid hM1
  clear hM1
  have HK2 := Lib.hid hM2
  clear hM2
  have HK3 := Lib.hid hM3
  clear hM3
  have HK4 := Lib.hid hM4
  clear hM4
  have HK5 := Lib.hid hM5
  clear hM5
  have HK6 := Lib.hid hM6
  clear hM6
  have HU16 := Lib.hid hU16
  clear hU16 hB15
  have x10 := HK1.out.c0; have x11 := HK1.out.c1
  have x20 := HK2.out.c0; have x21 := HK2.out.c1
  rw [HU16.out] at x10 x11 x20 x21
  go_wp2_with fail
  rw [← HU16.out]
  clear x10 x11 x20 x21
  refine (HD2.out _ (HT.out.keep hB16)).mono ?_
  rintro en w17 ⟨rfl, hb17⟩
  have hB17 : Below w.heap.size w w17 := hB16.trans (hb17.mono hB16.size)
  have hM1 := HK1.out.keep hb17
  have hM2 := HK2.out.keep hb17
  have hM3 := HK3.out.keep hb17
  have hM4 := HK4.out.keep hb17
  have hM5 := HK5.out.keep hb17
  have hM6 := HK6.out.keep hb17
  clear HK1 HK2 HK3 HK4 HK5 HK6
  have HK1 := Lib.hid hM1
  clear hM1
  have HK2 := Lib.hid hM2
  clear hM2
  have HK3 := Lib.hid hM3
  clear hM3
  have HK4 := Lib.hid hM4
  clear hM4
  have HK5 := Lib.hid hM5
  clear hM5
  have HK6 := Lib.hid hM6
  clear hM6
  clear hb17 hB16
  clear e50 e51 e52 e53
  obtain ⟨U18, hU18⟩ : ∃ U, U = ((w17.setCell ⟨w9.heap.size, 0, none⟩ (.string A4)).setCell ⟨w9.heap.size, 1, none⟩ (.string B4)) := ⟨_, rfl⟩
  have hB18 : Below w.heap.size w U18 := by rw [hU18]; exact (hB17.setCell (by simpa using o6) _).setCell (by simpa using o6) _
  have hM1 := (HK1.out.other ⟨w9.heap.size, 0, none⟩ (.string A4) (by simp; omega)).other ⟨w9.heap.size, 1, none⟩ (.string B4) (by simp; omega)
  rw [← hU18] at hM1
  have hM2 := (HK2.out.other ⟨w9.heap.size, 0, none⟩ (.string A4) (by simp; omega)).other ⟨w9.heap.size, 1, none⟩ (.string B4) (by simp; omega)
  rw [← hU18] at hM2
  have hM3 := (HK3.out.other ⟨w9.heap.size, 0, none⟩ (.string A4) (by simp; omega)).other ⟨w9.heap.size, 1, none⟩ (.string B4) (by simp; omega)
  rw [← hU18] at hM3
  have hM4 := (HK4.out.other ⟨w9.heap.size, 0, none⟩ (.string A4) (by simp; omega)).other ⟨w9.heap.size, 1, none⟩ (.string B4) (by simp; omega)
  rw [← hU18] at hM4
  have hM5 := (HK5.out.other ⟨w9.heap.size, 0, none⟩ (.string A4) (by simp; omega)).other ⟨w9.heap.size, 1, none⟩ (.string B4) (by simp; omega)
  rw [← hU18] at hM5
  have hM6 : Box 24 U18 w9.heap.size (.string A4) (.string B4) := by rw [hU18]; exact (HK6.out.set0 _).set1 _
  have e60 := HK6.out.c0; have e61 := HK6.out.c1; have e62 := HK6.out.f0 0; have e63 := HK6.out.f0 1
  clear HK1 HK2 HK3 HK4 HK5 HK6
  have HK1 := Lib.hid hM1
  clear hM1
  have HK2 := Lib.hid hM2
  clear hM2
  have HK3 := Lib.hid hM3
  clear hM3
  have HK4 := Lib.hid hM4
  clear hM4
  have HK5 := Lib.hid hM5
  clear hM5
  have HK6 := Lib.hid hM6
  clear hM6
  have HU18 := Lib.hid hU18
  clear hU18 hB17
  have x10 := HK1.out.c0; have x11 := HK1.out.c1
  have x20 := HK2.out.c0; have x21 := HK2.out.c1
  rw [HU18.out] at x10 x11 x20 x21
  go_wp2_with fail
  rw [← HU18.out]
  clear x10 x11 x20 x21
  refine (HC1.out _ (HT.out.keep hB18)).mono ?_
  rintro en w19 ⟨rfl, hb19⟩
  have hB19 : Below w.heap.size w w19 := hB18.trans (hb19.mono hB18.size)
  have hM1 := HK1.out.keep hb19
  have hM2 := HK2.out.keep hb19
  have hM3 := HK3.out.keep hb19
  have hM4 := HK4.out.keep hb19
  have hM5 := HK5.out.keep hb19
  have hM6 := HK6.out.keep hb19
  clear HK1 HK2 HK3 HK4 HK5 HK6
  have HK1 := Lib.hid hM1
  clear hM1
  have HK2 := Lib.hid hM2
  clear hM2
  have HK3 := Lib.hid hM3
  clear hM3
  have HK4 := Lib.hid hM4
  clear hM4
  have HK5 := Lib.hid hM5
  clear hM5
  have HK6 := Lib.hid hM6
  clear hM6
  clear hb19 hB18
  clear e60 e61 e62 e63
  have x10 := HK1.out.c0; have x11 := HK1.out.c1
  have x20 := HK2.out.c0; have x21 := HK2.out.c1
  go_wp2_with fail
  clear x10 x11 x20 x21
  refine (HC2.out _ (HT.out.keep hB19)).mono ?_
  rintro en w20 ⟨rfl, hb20⟩
  have hB20 : Below w.heap.size w w20 := hB19.trans (hb20.mono hB19.size)
  have hM1 := HK1.out.keep hb20
  have hM2 := HK2.out.keep hb20
  have hM3 := HK3.out.keep hb20
  have hM4 := HK4.out.keep hb20
  have hM5 := HK5.out.keep hb20
  have hM6 := HK6.out.keep hb20
  clear HK1 HK2 HK3 HK4 HK5 HK6
  have HK1 := Lib.hid hM1
  clear hM1
  have HK2 := Lib.hid hM2
  clear hM2
  have HK3 := Lib.hid hM3
  clear hM3
  have HK4 := Lib.hid hM4
  clear hM4
  have HK5 := Lib.hid hM5
  clear hM5
  have HK6 := Lib.hid hM6
  clear hM6
  clear hb20 hB19
  have x30 := HK3.out.c0; have x31 := HK3.out.c1
  have x40 := HK4.out.c0; have x41 := HK4.out.c1
  have x50 := HK5.out.c0; have x51 := HK5.out.c1
  have x60 := HK6.out.c0; have x61 := HK6.out.c1
  go_wp2_with fail
  clear x30 x31 x40 x41 x50 x51 x60 x61
  refine (HA.out _ (HT.out.keep hB20) (HC.out.keep hB20)).mono ?_
  rintro en w21 ⟨rfl, hb21⟩
  have hB21 : Below w.heap.size w w21 := hB20.trans (hb21.mono hB20.size)
  have hM1 := HK1.out.keep hb21
  have hM2 := HK2.out.keep hb21
  have hM3 := HK3.out.keep hb21
  have hM4 := HK4.out.keep hb21
  have hM5 := HK5.out.keep hb21
  have hM6 := HK6.out.keep hb21
  clear HK1 HK2 HK3 HK4 HK5 HK6
  have HK1 := Lib.hid hM1
  clear hM1
  have HK2 := Lib.hid hM2
  clear hM2
  have HK3 := Lib.hid hM3
  clear hM3
  have HK4 := Lib.hid hM4
  clear hM4
  have HK5 := Lib.hid hM5
  clear hM5
  have HK6 := Lib.hid hM6
  clear hM6
  clear hb21 hB20
  go_wp2
  go_ret
  exact ⟨rfl, hB21⟩
end Go.Proofs.YtolkiimlchfmlaaGreatDoor
