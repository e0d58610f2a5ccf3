/- Walks of the laws of fractions: what is taken or divided comes back. -/
import Derived.Test.YtolkiimlchfmlaaGreatDoorQ31
import Derived.Test.YtolkiimlchfmlaaGreatDoorQ30
namespace Go.Proofs.YtolkiimlchfmlaaGreatDoor
open Go.RowKit Go.Proofs.Num

theorem one1T (T : TypeId) (w : World) (x : Value) : ∃ W, W = w.alloc (.cells #[x] T) ∧ One T W w.heap.size x ∧ Below w.heap.size w W ∧ W.heap.size = w.heap.size + 1 :=
  ⟨_, rfl, One.new T w x, below1 w _, by simp⟩

set_option maxHeartbeats 6400000 in
set_option maxRecDepth 100000 in
theorem undoes_p0 (s r s' r' P Q : ByteArray) (hE : (s.toList == s'.toList) = false) (hz : (s'.toList == [48]) = true)
    (HR1 : Hid (∀ w, Calls Tryz.prog 40 #[FrV s r] w fun e w' => e = .returned (.bool true) ∧ Below w.heap.size w w'))
    (HR2 : Hid (∀ w, Calls Tryz.prog 40 #[FrV s' r'] w fun e w' => e = .returned (.bool true) ∧ Below w.heap.size w w'))
    (HSub : Hid (∀ w, Tab w → Calls Tryz.prog 29 #[FrV s r, FrV s' r'] w (FrE w P Q 0)))
    (HAdd : Hid (∀ w, Tab w → Calls Tryz.prog 27 #[FrV P Q, FrV s' r'] w (FrE w s r 0)))
    (HC1 : Hid (∀ w, Tab w → Calls Tryz.prog 35 #[FrV s r, FrV s' r'] w (IntOut w 1 0)))
    (HSg : Hid (∀ w, Calls Tryz.prog 45 #[.string P] w (IntOut w 1 0)))
    (HC2 : Hid (∀ w, Tab w → Calls Tryz.prog 35 #[FrV s' r', FrV s r] w (IntOut w (-1) 0)))
    (HDv : Hid (∀ w, Tab w → Calls Tryz.prog 33 #[FrV s r, FrV s' r'] w (FrE w ⟨#[]⟩ ⟨#[]⟩ 10)))
    (w : World) (hT : Tab w) (hC : CutT w) : Calls Tryz.prog 8 #[FrV s r, FrV s' r'] w fun e w' => e = .returned (.bool true) ∧ Below w.heap.size w w' := by
  have HT := Lib.hid hT
  have HC := Lib.hid hC
  have HA := Lib.hid fawake
  clear hT hC
  unfold FrE at HSub HAdd HDv
  unfold IntOut at HC1 HSg HC2
  unfold FrV at *
  go_enter Tryz.func8, Tryz.ntmps8
  obtain ⟨W0, hW0, hR1, hR2, hBl0, hsz0⟩ := box2T 24 w (.string s) (.string r) (.string s') (.string r')
  have HW0 := Lib.hid hW0
  have HK1 := Lib.hid hR1
  have HK2 := Lib.hid hR2
  have hB0 : Below w.heap.size w W0 := hBl0
  clear hR1 hR2 hBl0 hW0
  clear hsz0
  have x10 := HK1.out.c0; have x11 := HK1.out.c1
  rw [HW0.out] at x10 x11
  go_wp2_with fail
  rw [← HW0.out]
  clear x10 x11
  refine (HR1.out _ ).mono ?_
  rintro en w1 ⟨rfl, hb1⟩
  have hB1 : Below w.heap.size w w1 := hB0.trans (hb1.mono hB0.size)
  have hM1 := HK1.out.keep hb1
  have hM2 := HK2.out.keep hb1
  clear HK1 HK2
  have HK1 := Lib.hid hM1
  clear hM1
  have HK2 := Lib.hid hM2
  clear hM2
  clear hb1 hB0
  have x20 := HK2.out.c0; have x21 := HK2.out.c1
  go_wp2_with fail
  clear x20 x21
  refine (HR2.out _ ).mono ?_
  rintro en w2 ⟨rfl, hb2⟩
  have hB2 : Below w.heap.size w w2 := hB1.trans (hb2.mono hB1.size)
  have hM1 := HK1.out.keep hb2
  have hM2 := HK2.out.keep hb2
  clear HK1 HK2
  have HK1 := Lib.hid hM1
  clear hM1
  have HK2 := Lib.hid hM2
  clear hM2
  clear hb2 hB1
  obtain ⟨W3, hW3, hR3, hBl3, hsz3⟩ := one1T 63 w2 (.bool true)
  have hB3 : Below w.heap.size w W3 := hB2.trans (hBl3.mono hB2.size)
  have HW3 := Lib.hid hW3
  have hM1 := HK1.out.keep hBl3
  have hM2 := HK2.out.keep hBl3
  clear HK1 HK2
  have HK1 := Lib.hid hM1
  clear hM1
  have HK2 := Lib.hid hM2
  clear hM2
  have HK3 := Lib.hid hR3
  clear hR3 hW3 hBl3 hsz3 hB2
  have x10 := HK1.out.c0; have x11 := HK1.out.c1
  have x20 := HK2.out.c0; have x21 := HK2.out.c1
  rw [HW3.out] at x10 x11 x20 x21
  go_wp2_with fail
  rw [← HW3.out]
  clear x10 x11 x20 x21
  refine (HSub.out _ (HT.out.keep hB3)).mono ?_
  rintro en w4 ⟨rfl, hb4⟩
  have hB4 : Below w.heap.size w w4 := hB3.trans (hb4.mono hB3.size)
  have hM1 := HK1.out.keep hb4
  have hM2 := HK2.out.keep hb4
  have hM3 := HK3.out.keep hb4
  clear HK1 HK2 HK3
  have HK1 := Lib.hid hM1
  clear hM1
  have HK2 := Lib.hid hM2
  clear hM2
  have HK3 := Lib.hid hM3
  clear hM3
  clear hb4 hB3
  have HSO := Lib.hid (sums_of _ P Q _ HK3.out)
  unfold FrOut FrV at HSO
  go_wp2_with fail
  refine HSO.out.mono ?_
  rintro en w5 ⟨rfl, hb5⟩
  have hB5 : Below w.heap.size w w5 := hB4.trans (hb5.mono hB4.size)
  have hM1 := HK1.out.keep hb5
  have hM2 := HK2.out.keep hb5
  have hM3 := HK3.out.keep hb5
  clear HK1 HK2 HK3
  have HK1 := Lib.hid hM1
  clear hM1
  have HK2 := Lib.hid hM2
  clear hM2
  have HK3 := Lib.hid hM3
  clear hM3
  clear hb5 hB4 HSO
  obtain ⟨W6, hW6, hR4, hBl6, hsz6⟩ := box1T 24 w5 (.string P) (.string Q)
  have hB6 : Below w.heap.size w W6 := hB5.trans (hBl6.mono hB5.size)
  have HW6 := Lib.hid hW6
  have hM1 := HK1.out.keep hBl6
  have hM2 := HK2.out.keep hBl6
  have hM3 := HK3.out.keep hBl6
  clear HK1 HK2 HK3
  have HK1 := Lib.hid hM1
  clear hM1
  have HK2 := Lib.hid hM2
  clear hM2
  have HK3 := Lib.hid hM3
  clear hM3
  have HK4 := Lib.hid hR4
  clear hR4 hW6 hBl6 hsz6 hB5
  have x40 := HK4.out.c0; have x41 := HK4.out.c1
  have x20 := HK2.out.c0; have x21 := HK2.out.c1
  rw [HW6.out] at x40 x41 x20 x21
  go_wp2_with fail
  rw [← HW6.out]
  clear x40 x41 x20 x21
  refine (HAdd.out _ (HT.out.keep hB6)).mono ?_
  rintro en w7 ⟨rfl, hb7⟩
  have hB7 : Below w.heap.size w w7 := hB6.trans (hb7.mono hB6.size)
  have hM1 := HK1.out.keep hb7
  have hM2 := HK2.out.keep hb7
  have hM3 := HK3.out.keep hb7
  have hM4 := HK4.out.keep hb7
  clear HK1 HK2 HK3 HK4
  have HK1 := Lib.hid hM1
  clear hM1
  have HK2 := Lib.hid hM2
  clear hM2
  have HK3 := Lib.hid hM3
  clear hM3
  have HK4 := Lib.hid hM4
  clear hM4
  clear hb7 hB6
  have HSO := Lib.hid (sums_of _ s r _ HK3.out)
  unfold FrOut FrV at HSO
  go_wp2_with fail
  refine HSO.out.mono ?_
  rintro en w8 ⟨rfl, hb8⟩
  have hB8 : Below w.heap.size w w8 := hB7.trans (hb8.mono hB7.size)
  have hM1 := HK1.out.keep hb8
  have hM2 := HK2.out.keep hb8
  have hM3 := HK3.out.keep hb8
  have hM4 := HK4.out.keep hb8
  clear HK1 HK2 HK3 HK4
  have HK1 := Lib.hid hM1
  clear hM1
  have HK2 := Lib.hid hM2
  clear hM2
  have HK3 := Lib.hid hM3
  clear hM3
  have HK4 := Lib.hid hM4
  clear hM4
  clear hb8 hB7 HSO
  obtain ⟨W9, hW9, hR5, hBl9, hsz9⟩ := box1T 24 w8 (.string s) (.string r)
  have hB9 : Below w.heap.size w W9 := hB8.trans (hBl9.mono hB8.size)
  have HW9 := Lib.hid hW9
  have hM1 := HK1.out.keep hBl9
  have hM2 := HK2.out.keep hBl9
  have hM3 := HK3.out.keep hBl9
  have hM4 := HK4.out.keep hBl9
  clear HK1 HK2 HK3 HK4
  have HK1 := Lib.hid hM1
  clear hM1
  have HK2 := Lib.hid hM2
  clear hM2
  have HK3 := Lib.hid hM3
  clear hM3
  have HK4 := Lib.hid hM4
  clear hM4
  have HK5 := Lib.hid hR5
  clear hR5 hW9 hBl9 hsz9 hB8
  have x10 := HK1.out.c0; have x11 := HK1.out.c1
  have x20 := HK2.out.c0; have x21 := HK2.out.c1
  rw [HW9.out] at x10 x11 x20 x21
  go_wp2_with fail
  rw [← HW9.out]
  clear x10 x11 x20 x21
  refine (HC1.out _ (HT.out.keep hB9)).mono ?_
  rintro en w10 ⟨rfl, hb10⟩
  have hB10 : Below w.heap.size w w10 := hB9.trans (hb10.mono hB9.size)
  have hM1 := HK1.out.keep hb10
  have hM2 := HK2.out.keep hb10
  have hM3 := HK3.out.keep hb10
  have hM4 := HK4.out.keep hb10
  have hM5 := HK5.out.keep hb10
  clear HK1 HK2 HK3 HK4 HK5
  have HK1 := Lib.hid hM1
  clear hM1
  have HK2 := Lib.hid hM2
  clear hM2
  have HK3 := Lib.hid hM3
  clear hM3
  have HK4 := Lib.hid hM4
  clear hM4
  have HK5 := Lib.hid hM5
  clear hM5
  clear hb10 hB9
  have x40 := HK4.out.c0; have x41 := HK4.out.c1
  go_wp2_with fail
  clear x40 x41
  refine (HSg.out _ ).mono ?_
  rintro en w11 ⟨rfl, hb11⟩
  have hB11 : Below w.heap.size w w11 := hB10.trans (hb11.mono hB10.size)
  have hM1 := HK1.out.keep hb11
  have hM2 := HK2.out.keep hb11
  have hM3 := HK3.out.keep hb11
  have hM4 := HK4.out.keep hb11
  have hM5 := HK5.out.keep hb11
  clear HK1 HK2 HK3 HK4 HK5
  have HK1 := Lib.hid hM1
  clear hM1
  have HK2 := Lib.hid hM2
  clear hM2
  have HK3 := Lib.hid hM3
  clear hM3
  have HK4 := Lib.hid hM4
  clear hM4
  have HK5 := Lib.hid hM5
  clear hM5
  clear hb11 hB10
  have x10 := HK1.out.c0; have x11 := HK1.out.c1
  have x20 := HK2.out.c0; have x21 := HK2.out.c1
  go_wp2_with fail
  clear x10 x11 x20 x21
  refine (HC2.out _ (HT.out.keep hB11)).mono ?_
  rintro en w12 ⟨rfl, hb12⟩
  have hB12 : Below w.heap.size w w12 := hB11.trans (hb12.mono hB11.size)
  have hM1 := HK1.out.keep hb12
  have hM2 := HK2.out.keep hb12
  have hM3 := HK3.out.keep hb12
  have hM4 := HK4.out.keep hb12
  have hM5 := HK5.out.keep hb12
  clear HK1 HK2 HK3 HK4 HK5
  have HK1 := Lib.hid hM1
  clear hM1
  have HK2 := Lib.hid hM2
  clear hM2
  have HK3 := Lib.hid hM3
  clear hM3
  have HK4 := Lib.hid hM4
  clear hM4
  have HK5 := Lib.hid hM5
  clear hM5
  clear hb12 hB11
  have x10 := HK1.out.c0; have x11 := HK1.out.c1; have x20 := HK2.out.c0; have x21 := HK2.out.c1; have x30 := HK3.out.c0; have x50 := HK5.out.c0; have x51 := HK5.out.c1
  go_wp2_with fail
  refine (HDv.out _ (HT.out.keep hB12)).mono ?_
  rintro en w13 ⟨rfl, hb13⟩
  have hB13 : Below w.heap.size w w13 := hB12.trans (hb13.mono hB12.size)
  have hM1 := HK1.out.keep hb13
  have hM2 := HK2.out.keep hb13
  have hM3 := HK3.out.keep hb13
  have hM4 := HK4.out.keep hb13
  have hM5 := HK5.out.keep hb13
  clear HK1 HK2 HK3 HK4 HK5
  have HK1 := Lib.hid hM1
  clear hM1
  have HK2 := Lib.hid hM2
  clear hM2
  have HK3 := Lib.hid hM3
  clear hM3
  have HK4 := Lib.hid hM4
  clear hM4
  have HK5 := Lib.hid hM5
  clear hM5
  clear hb13 hB12
  clear x10 x11 x20 x21 x30 x50 x51
  obtain ⟨W14, hW14, hR6, hBl14, hsz14⟩ := box1T 24 w13 (.string ⟨#[]⟩) (.string ⟨#[]⟩)
  have hB14 : Below w.heap.size w W14 := hB13.trans (hBl14.mono hB13.size)
  have HW14 := Lib.hid hW14
  have hM1 := HK1.out.keep hBl14
  have hM2 := HK2.out.keep hBl14
  have hM3 := HK3.out.keep hBl14
  have hM4 := HK4.out.keep hBl14
  have hM5 := HK5.out.keep hBl14
  clear HK1 HK2 HK3 HK4 HK5
  have HK1 := Lib.hid hM1
  clear hM1
  have HK2 := Lib.hid hM2
  clear hM2
  have HK3 := Lib.hid hM3
  clear hM3
  have HK4 := Lib.hid hM4
  clear hM4
  have HK5 := Lib.hid hM5
  clear hM5
  have HK6 := Lib.hid hR6
  clear hR6 hW14 hBl14 hsz14 hB13
  have x20 := HK2.out.c0; have x21 := HK2.out.c1
  rw [HW14.out] at x20 x21
  go_wp2_with fail
  rw [← HW14.out]
  clear x20 x21
  refine (HA.out _ (HT.out.keep hB14) (HC.out.keep hB14)).mono ?_
  rintro en w15 ⟨rfl, hb15⟩
  have hB15 : Below w.heap.size w w15 := hB14.trans (hb15.mono hB14.size)
  have hM1 := HK1.out.keep hb15
  have hM2 := HK2.out.keep hb15
  have hM3 := HK3.out.keep hb15
  have hM4 := HK4.out.keep hb15
  have hM5 := HK5.out.keep hb15
  have hM6 := HK6.out.keep hb15
  clear HK1 HK2 HK3 HK4 HK5 HK6
  have HK1 := Lib.hid hM1
  clear hM1
  have HK2 := Lib.hid hM2
  clear hM2
  have HK3 := Lib.hid hM3
  clear hM3
  have HK4 := Lib.hid hM4
  clear hM4
  have HK5 := Lib.hid hM5
  clear hM5
  have HK6 := Lib.hid hM6
  clear hM6
  clear hb15 hB14
  go_wp2
  go_ret
  exact ⟨rfl, hB15⟩

set_option maxHeartbeats 6400000 in
set_option maxRecDepth 100000 in
theorem undoes_p1 (s r s' r' P Q U V : ByteArray) (hE : (s.toList == s'.toList) = false) (hz : (s'.toList == [48]) = false)
    (HR1 : Hid (∀ w, Calls Tryz.prog 40 #[FrV s r] w fun e w' => e = .returned (.bool true) ∧ Below w.heap.size w w'))
    (HR2 : Hid (∀ w, Calls Tryz.prog 40 #[FrV s' r'] w fun e w' => e = .returned (.bool true) ∧ Below w.heap.size w w'))
    (HSub : Hid (∀ w, Tab w → Calls Tryz.prog 29 #[FrV s r, FrV s' r'] w (FrE w P Q 0)))
    (HAdd : Hid (∀ w, Tab w → Calls Tryz.prog 27 #[FrV P Q, FrV s' r'] w (FrE w s r 0)))
    (HC1 : Hid (∀ w, Tab w → Calls Tryz.prog 35 #[FrV s r, FrV s' r'] w (IntOut w 1 0)))
    (HSg : Hid (∀ w, Calls Tryz.prog 45 #[.string P] w (IntOut w 1 0)))
    (HC2 : Hid (∀ w, Tab w → Calls Tryz.prog 35 #[FrV s' r', FrV s r] w (IntOut w (-1) 0)))
    (HDv : Hid (∀ w, Tab w → Calls Tryz.prog 33 #[FrV s r, FrV s' r'] w (FrE w U V 0)))
    (HMul : Hid (∀ w, Tab w → Calls Tryz.prog 31 #[FrV U V, FrV s' r'] w (FrE w s r 0)))
    (w : World) (hT : Tab w) (hC : CutT w) : Calls Tryz.prog 8 #[FrV s r, FrV s' r'] w fun e w' => e = .returned (.bool true) ∧ Below w.heap.size w w' := by
  have HT := Lib.hid hT
  have HC := Lib.hid hC
  have HA := Lib.hid fawake
  clear hT hC
  unfold FrE at HSub HAdd HDv HMul
  unfold IntOut at HC1 HSg HC2
  unfold FrV at *
  go_enter Tryz.func8, Tryz.ntmps8
  obtain ⟨W0, hW0, hR1, hR2, hBl0, hsz0⟩ := box2T 24 w (.string s) (.string r) (.string s') (.string r')
  have HW0 := Lib.hid hW0
  have HK1 := Lib.hid hR1
  have HK2 := Lib.hid hR2
  have hB0 : Below w.heap.size w W0 := hBl0
  clear hR1 hR2 hBl0 hW0
  clear hsz0
  have x10 := HK1.out.c0; have x11 := HK1.out.c1
  rw [HW0.out] at x10 x11
  go_wp2_with fail
  rw [← HW0.out]
  clear x10 x11
  refine (HR1.out _ ).mono ?_
  rintro en w1 ⟨rfl, hb1⟩
  have hB1 : Below w.heap.size w w1 := hB0.trans (hb1.mono hB0.size)
  have hM1 := HK1.out.keep hb1
  have hM2 := HK2.out.keep hb1
  clear HK1 HK2
  have HK1 := Lib.hid hM1
  clear hM1
  have HK2 := Lib.hid hM2
  clear hM2
  clear hb1 hB0
  have x20 := HK2.out.c0; have x21 := HK2.out.c1
  go_wp2_with fail
  clear x20 x21
  refine (HR2.out _ ).mono ?_
  rintro en w2 ⟨rfl, hb2⟩
  have hB2 : Below w.heap.size w w2 := hB1.trans (hb2.mono hB1.size)
  have hM1 := HK1.out.keep hb2
  have hM2 := HK2.out.keep hb2
  clear HK1 HK2
  have HK1 := Lib.hid hM1
  clear hM1
  have HK2 := Lib.hid hM2
  clear hM2
  clear hb2 hB1
  obtain ⟨W3, hW3, hR3, hBl3, hsz3⟩ := one1T 63 w2 (.bool true)
  have hB3 : Below w.heap.size w W3 := hB2.trans (hBl3.mono hB2.size)
  have HW3 := Lib.hid hW3
  have hM1 := HK1.out.keep hBl3
  have hM2 := HK2.out.keep hBl3
  clear HK1 HK2
  have HK1 := Lib.hid hM1
  clear hM1
  have HK2 := Lib.hid hM2
  clear hM2
  have HK3 := Lib.hid hR3
  clear hR3 hW3 hBl3 hsz3 hB2
  have x10 := HK1.out.c0; have x11 := HK1.out.c1
  have x20 := HK2.out.c0; have x21 := HK2.out.c1
  rw [HW3.out] at x10 x11 x20 x21
  go_wp2_with fail
  rw [← HW3.out]
  clear x10 x11 x20 x21
  refine (HSub.out _ (HT.out.keep hB3)).mono ?_
  rintro en w4 ⟨rfl, hb4⟩
  have hB4 : Below w.heap.size w w4 := hB3.trans (hb4.mono hB3.size)
  have hM1 := HK1.out.keep hb4
  have hM2 := HK2.out.keep hb4
  have hM3 := HK3.out.keep hb4
  clear HK1 HK2 HK3
  have HK1 := Lib.hid hM1
  clear hM1
  have HK2 := Lib.hid hM2
  clear hM2
  have HK3 := Lib.hid hM3
  clear hM3
  clear hb4 hB3
  have HSO := Lib.hid (sums_of _ P Q _ HK3.out)
  unfold FrOut FrV at HSO
  go_wp2_with fail
  refine HSO.out.mono ?_
  rintro en w5 ⟨rfl, hb5⟩
  have hB5 : Below w.heap.size w w5 := hB4.trans (hb5.mono hB4.size)
  have hM1 := HK1.out.keep hb5
  have hM2 := HK2.out.keep hb5
  have hM3 := HK3.out.keep hb5
  clear HK1 HK2 HK3
  have HK1 := Lib.hid hM1
  clear hM1
  have HK2 := Lib.hid hM2
  clear hM2
  have HK3 := Lib.hid hM3
  clear hM3
  clear hb5 hB4 HSO
  obtain ⟨W6, hW6, hR4, hBl6, hsz6⟩ := box1T 24 w5 (.string P) (.string Q)
  have hB6 : Below w.heap.size w W6 := hB5.trans (hBl6.mono hB5.size)
  have HW6 := Lib.hid hW6
  have hM1 := HK1.out.keep hBl6
  have hM2 := HK2.out.keep hBl6
  have hM3 := HK3.out.keep hBl6
  clear HK1 HK2 HK3
  have HK1 := Lib.hid hM1
  clear hM1
  have HK2 := Lib.hid hM2
  clear hM2
  have HK3 := Lib.hid hM3
  clear hM3
  have HK4 := Lib.hid hR4
  clear hR4 hW6 hBl6 hsz6 hB5
  have x40 := HK4.out.c0; have x41 := HK4.out.c1
  have x20 := HK2.out.c0; have x21 := HK2.out.c1
  rw [HW6.out] at x40 x41 x20 x21
  go_wp2_with fail
  rw [← HW6.out]
  clear x40 x41 x20 x21
  refine (HAdd.out _ (HT.out.keep hB6)).mono ?_
  rintro en w7 ⟨rfl, hb7⟩
  have hB7 : Below w.heap.size w w7 := hB6.trans (hb7.mono hB6.size)
  have hM1 := HK1.out.keep hb7
  have hM2 := HK2.out.keep hb7
  have hM3 := HK3.out.keep hb7
  have hM4 := HK4.out.keep hb7
  clear HK1 HK2 HK3 HK4
  have HK1 := Lib.hid hM1
  clear hM1
  have HK2 := Lib.hid hM2
  clear hM2
  have HK3 := Lib.hid hM3
  clear hM3
  have HK4 := Lib.hid hM4
  clear hM4
  clear hb7 hB6
  have HSO := Lib.hid (sums_of _ s r _ HK3.out)
  unfold FrOut FrV at HSO
  go_wp2_with fail
  refine HSO.out.mono ?_
  rintro en w8 ⟨rfl, hb8⟩
  have hB8 : Below w.heap.size w w8 := hB7.trans (hb8.mono hB7.size)
  have hM1 := HK1.out.keep hb8
  have hM2 := HK2.out.keep hb8
  have hM3 := HK3.out.keep hb8
  have hM4 := HK4.out.keep hb8
  clear HK1 HK2 HK3 HK4
  have HK1 := Lib.hid hM1
  clear hM1
  have HK2 := Lib.hid hM2
  clear hM2
  have HK3 := Lib.hid hM3
  clear hM3
  have HK4 := Lib.hid hM4
  clear hM4
  clear hb8 hB7 HSO
  obtain ⟨W9, hW9, hR5, hBl9, hsz9⟩ := box1T 24 w8 (.string s) (.string r)
  have hB9 : Below w.heap.size w W9 := hB8.trans (hBl9.mono hB8.size)
  have HW9 := Lib.hid hW9
  have hM1 := HK1.out.keep hBl9
  have hM2 := HK2.out.keep hBl9
  have hM3 := HK3.out.keep hBl9
  have hM4 := HK4.out.keep hBl9
  clear HK1 HK2 HK3 HK4
  have HK1 := Lib.hid hM1
  clear hM1
  have HK2 := Lib.hid hM2
  clear hM2
  have HK3 := Lib.hid hM3
  clear hM3
  have HK4 := Lib.hid hM4
  clear hM4
  have HK5 := Lib.hid hR5
  clear hR5 hW9 hBl9 hsz9 hB8
  have x10 := HK1.out.c0; have x11 := HK1.out.c1
  have x20 := HK2.out.c0; have x21 := HK2.out.c1
  rw [HW9.out] at x10 x11 x20 x21
  go_wp2_with fail
  rw [← HW9.out]
  clear x10 x11 x20 x21
  refine (HC1.out _ (HT.out.keep hB9)).mono ?_
  rintro en w10 ⟨rfl, hb10⟩
  have hB10 : Below w.heap.size w w10 := hB9.trans (hb10.mono hB9.size)
  have hM1 := HK1.out.keep hb10
  have hM2 := HK2.out.keep hb10
  have hM3 := HK3.out.keep hb10
  have hM4 := HK4.out.keep hb10
  have hM5 := HK5.out.keep hb10
  clear HK1 HK2 HK3 HK4 HK5
  have HK1 := Lib.hid hM1
  clear hM1
  have HK2 := Lib.hid hM2
  clear hM2
  have HK3 := Lib.hid hM3
  clear hM3
  have HK4 := Lib.hid hM4
  clear hM4
  have HK5 := Lib.hid hM5
  clear hM5
  clear hb10 hB9
  have x40 := HK4.out.c0; have x41 := HK4.out.c1
  go_wp2_with fail
  clear x40 x41
  refine (HSg.out _ ).mono ?_
  rintro en w11 ⟨rfl, hb11⟩
  have hB11 : Below w.heap.size w w11 := hB10.trans (hb11.mono hB10.size)
  have hM1 := HK1.out.keep hb11
  have hM2 := HK2.out.keep hb11
  have hM3 := HK3.out.keep hb11
  have hM4 := HK4.out.keep hb11
  have hM5 := HK5.out.keep hb11
  clear HK1 HK2 HK3 HK4 HK5
  have HK1 := Lib.hid hM1
  clear hM1
  have HK2 := Lib.hid hM2
  clear hM2
  have HK3 := Lib.hid hM3
  clear hM3
  have HK4 := Lib.hid hM4
  clear hM4
  have HK5 := Lib.hid hM5
  clear hM5
  clear hb11 hB10
  have x10 := HK1.out.c0; have x11 := HK1.out.c1
  have x20 := HK2.out.c0; have x21 := HK2.out.c1
  go_wp2_with fail
  clear x10 x11 x20 x21
  refine (HC2.out _ (HT.out.keep hB11)).mono ?_
  rintro en w12 ⟨rfl, hb12⟩
  have hB12 : Below w.heap.size w w12 := hB11.trans (hb12.mono hB11.size)
  have hM1 := HK1.out.keep hb12
  have hM2 := HK2.out.keep hb12
  have hM3 := HK3.out.keep hb12
  have hM4 := HK4.out.keep hb12
  have hM5 := HK5.out.keep hb12
  clear HK1 HK2 HK3 HK4 HK5
  have HK1 := Lib.hid hM1
  clear hM1
  have HK2 := Lib.hid hM2
  clear hM2
  have HK3 := Lib.hid hM3
  clear hM3
  have HK4 := Lib.hid hM4
  clear hM4
  have HK5 := Lib.hid hM5
  clear hM5
  clear hb12 hB11
  have x10 := HK1.out.c0; have x11 := HK1.out.c1; have x20 := HK2.out.c0; have x21 := HK2.out.c1; have x30 := HK3.out.c0; have x50 := HK5.out.c0; have x51 := HK5.out.c1
  go_wp2_with fail
  refine (HDv.out _ (HT.out.keep hB12)).mono ?_
  rintro en w13 ⟨rfl, hb13⟩
  have hB13 : Below w.heap.size w w13 := hB12.trans (hb13.mono hB12.size)
  have hM1 := HK1.out.keep hb13
  have hM2 := HK2.out.keep hb13
  have hM3 := HK3.out.keep hb13
  have hM4 := HK4.out.keep hb13
  have hM5 := HK5.out.keep hb13
  clear HK1 HK2 HK3 HK4 HK5
  have HK1 := Lib.hid hM1
  clear hM1
  have HK2 := Lib.hid hM2
  clear hM2
  have HK3 := Lib.hid hM3
  clear hM3
  have HK4 := Lib.hid hM4
  clear hM4
  have HK5 := Lib.hid hM5
  clear hM5
  clear hb13 hB12
  clear x10 x11 x20 x21 x30 x50 x51
  obtain ⟨W14, hW14, hR6, hBl14, hsz14⟩ := box1T 24 w13 (.string U) (.string V)
  have hB14 : Below w.heap.size w W14 := hB13.trans (hBl14.mono hB13.size)
  have HW14 := Lib.hid hW14
  have hM1 := HK1.out.keep hBl14
  have hM2 := HK2.out.keep hBl14
  have hM3 := HK3.out.keep hBl14
  have hM4 := HK4.out.keep hBl14
  have hM5 := HK5.out.keep hBl14
  clear HK1 HK2 HK3 HK4 HK5
  have HK1 := Lib.hid hM1
  clear hM1
  have HK2 := Lib.hid hM2
  clear hM2
  have HK3 := Lib.hid hM3
  clear hM3
  have HK4 := Lib.hid hM4
  clear hM4
  have HK5 := Lib.hid hM5
  clear hM5
  have HK6 := Lib.hid hR6
  clear hR6 hW14 hBl14 hsz14 hB13
  have x20 := HK2.out.c0; have x21 := HK2.out.c1
  have x60 := HK6.out.c0; have x61 := HK6.out.c1
  rw [HW14.out] at x20 x21 x60 x61
  go_wp2_with fail
  rw [← HW14.out]
  clear x20 x21 x60 x61
  refine (HMul.out _ (HT.out.keep hB14)).mono ?_
  rintro en w15 ⟨rfl, hb15⟩
  have hB15 : Below w.heap.size w w15 := hB14.trans (hb15.mono hB14.size)
  have hM1 := HK1.out.keep hb15
  have hM2 := HK2.out.keep hb15
  have hM3 := HK3.out.keep hb15
  have hM4 := HK4.out.keep hb15
  have hM5 := HK5.out.keep hb15
  have hM6 := HK6.out.keep hb15
  clear HK1 HK2 HK3 HK4 HK5 HK6
  have HK1 := Lib.hid hM1
  clear hM1
  have HK2 := Lib.hid hM2
  clear hM2
  have HK3 := Lib.hid hM3
  clear hM3
  have HK4 := Lib.hid hM4
  clear hM4
  have HK5 := Lib.hid hM5
  clear hM5
  have HK6 := Lib.hid hM6
  clear hM6
  clear hb15 hB14
  obtain ⟨W16, hW16, hR7, hBl16, hsz16⟩ := box1T 24 w15 (.string s) (.string r)
  have hB16 : Below w.heap.size w W16 := hB15.trans (hBl16.mono hB15.size)
  have HW16 := Lib.hid hW16
  have hM1 := HK1.out.keep hBl16
  have hM2 := HK2.out.keep hBl16
  have hM3 := HK3.out.keep hBl16
  have hM4 := HK4.out.keep hBl16
  have hM5 := HK5.out.keep hBl16
  have hM6 := HK6.out.keep hBl16
  clear HK1 HK2 HK3 HK4 HK5 HK6
  have HK1 := Lib.hid hM1
  clear hM1
  have HK2 := Lib.hid hM2
  clear hM2
  have HK3 := Lib.hid hM3
  clear hM3
  have HK4 := Lib.hid hM4
  clear hM4
  have HK5 := Lib.hid hM5
  clear hM5
  have HK6 := Lib.hid hM6
  clear hM6
  have HK7 := Lib.hid hR7
  clear hR7 hW16 hBl16 hsz16 hB15
  have x10 := HK1.out.c0; have x11 := HK1.out.c1
  have x70 := HK7.out.c0; have x71 := HK7.out.c1
  rw [HW16.out] at x10 x11 x70 x71
  go_wp2_with fail
  rw [← HW16.out]
  clear x10 x11 x70 x71
  refine (HA.out _ (HT.out.keep hB16) (HC.out.keep hB16)).mono ?_
  rintro en w17 ⟨rfl, hb17⟩
  have hB17 : Below w.heap.size w w17 := hB16.trans (hb17.mono hB16.size)
  have hM1 := HK1.out.keep hb17
  have hM2 := HK2.out.keep hb17
  have hM3 := HK3.out.keep hb17
  have hM4 := HK4.out.keep hb17
  have hM5 := HK5.out.keep hb17
  have hM6 := HK6.out.keep hb17
  have hM7 := HK7.out.keep hb17
  clear HK1 HK2 HK3 HK4 HK5 HK6 HK7
  have HK1 := Lib.hid hM1
  clear hM1
  have HK2 := Lib.hid hM2
  clear hM2
  have HK3 := Lib.hid hM3
  clear hM3
  have HK4 := Lib.hid hM4
  clear hM4
  have HK5 := Lib.hid hM5
  clear hM5
  have HK6 := Lib.hid hM6
  clear hM6
  have HK7 := Lib.hid hM7
  clear hM7
  clear hb17 hB16
  go_wp2
  go_ret
  exact ⟨rfl, hB17⟩

set_option maxHeartbeats 6400000 in
set_option maxRecDepth 100000 in
theorem undoes_pr0 (s r r' P Q : ByteArray) (hE : (r.toList == r'.toList) = false) (hz : (s.toList == [48]) = true)
    (HR1 : Hid (∀ w, Calls Tryz.prog 40 #[FrV s r] w fun e w' => e = .returned (.bool true) ∧ Below w.heap.size w w'))
    (HR2 : Hid (∀ w, Calls Tryz.prog 40 #[FrV s r'] w fun e w' => e = .returned (.bool true) ∧ Below w.heap.size w w'))
    (HSub : Hid (∀ w, Tab w → Calls Tryz.prog 29 #[FrV s r, FrV s r'] w (FrE w P Q 0)))
    (HAdd : Hid (∀ w, Tab w → Calls Tryz.prog 27 #[FrV P Q, FrV s r'] w (FrE w s r 0)))
    (HC1 : Hid (∀ w, Tab w → Calls Tryz.prog 35 #[FrV s r, FrV s r'] w (IntOut w 1 0)))
    (HSg : Hid (∀ w, Calls Tryz.prog 45 #[.string P] w (IntOut w 1 0)))
    (HC2 : Hid (∀ w, Tab w → Calls Tryz.prog 35 #[FrV s r', FrV s r] w (IntOut w (-1) 0)))
    (HDv : Hid (∀ w, Tab w → Calls Tryz.prog 33 #[FrV s r, FrV s r'] w (FrE w ⟨#[]⟩ ⟨#[]⟩ 10)))
    (w : World) (hT : Tab w) (hC : CutT w) : Calls Tryz.prog 8 #[FrV s r, FrV s r'] w fun e w' => e = .returned (.bool true) ∧ Below w.heap.size w w' := by
  have HT := Lib.hid hT
  have HC := Lib.hid hC
  have HA := Lib.hid fawake
  clear hT hC
  unfold FrE at HSub HAdd HDv
  unfold IntOut at HC1 HSg HC2
  unfold FrV at *
  go_enter Tryz.func8, Tryz.ntmps8
  obtain ⟨W0, hW0, hR1, hR2, hBl0, hsz0⟩ := box2T 24 w (.string s) (.string r) (.string s) (.string r')
  have HW0 := Lib.hid hW0
  have HK1 := Lib.hid hR1
  have HK2 := Lib.hid hR2
  have hB0 : Below w.heap.size w W0 := hBl0
  clear hR1 hR2 hBl0 hW0
  clear hsz0
  have x10 := HK1.out.c0; have x11 := HK1.out.c1
  rw [HW0.out] at x10 x11
  go_wp2_with fail
  rw [← HW0.out]
  clear x10 x11
  refine (HR1.out _ ).mono ?_
  rintro en w1 ⟨rfl, hb1⟩
  have hB1 : Below w.heap.size w w1 := hB0.trans (hb1.mono hB0.size)
  have hM1 := HK1.out.keep hb1
  have hM2 := HK2.out.keep hb1
  clear HK1 HK2
  have HK1 := Lib.hid hM1
  clear hM1
  have HK2 := Lib.hid hM2
  clear hM2
  clear hb1 hB0
  have x20 := HK2.out.c0; have x21 := HK2.out.c1
  go_wp2_with fail
  clear x20 x21
  refine (HR2.out _ ).mono ?_
  rintro en w2 ⟨rfl, hb2⟩
  have hB2 : Below w.heap.size w w2 := hB1.trans (hb2.mono hB1.size)
  have hM1 := HK1.out.keep hb2
  have hM2 := HK2.out.keep hb2
  clear HK1 HK2
  have HK1 := Lib.hid hM1
  clear hM1
  have HK2 := Lib.hid hM2
  clear hM2
  clear hb2 hB1
  obtain ⟨W3, hW3, hR3, hBl3, hsz3⟩ := one1T 63 w2 (.bool true)
  have hB3 : Below w.heap.size w W3 := hB2.trans (hBl3.mono hB2.size)
  have HW3 := Lib.hid hW3
  have hM1 := HK1.out.keep hBl3
  have hM2 := HK2.out.keep hBl3
  clear HK1 HK2
  have HK1 := Lib.hid hM1
  clear hM1
  have HK2 := Lib.hid hM2
  clear hM2
  have HK3 := Lib.hid hR3
  clear hR3 hW3 hBl3 hsz3 hB2
  have x10 := HK1.out.c0; have x11 := HK1.out.c1
  have x20 := HK2.out.c0; have x21 := HK2.out.c1
  rw [HW3.out] at x10 x11 x20 x21
  go_wp2_with fail
  rw [← HW3.out]
  clear x10 x11 x20 x21
  refine (HSub.out _ (HT.out.keep hB3)).mono ?_
  rintro en w4 ⟨rfl, hb4⟩
  have hB4 : Below w.heap.size w w4 := hB3.trans (hb4.mono hB3.size)
  have hM1 := HK1.out.keep hb4
  have hM2 := HK2.out.keep hb4
  have hM3 := HK3.out.keep hb4
  clear HK1 HK2 HK3
  have HK1 := Lib.hid hM1
  clear hM1
  have HK2 := Lib.hid hM2
  clear hM2
  have HK3 := Lib.hid hM3
  clear hM3
  clear hb4 hB3
  have HSO := Lib.hid (sums_of _ P Q _ HK3.out)
  unfold FrOut FrV at HSO
  go_wp2_with fail
  refine HSO.out.mono ?_
  rintro en w5 ⟨rfl, hb5⟩
  have hB5 : Below w.heap.size w w5 := hB4.trans (hb5.mono hB4.size)
  have hM1 := HK1.out.keep hb5
  have hM2 := HK2.out.keep hb5
  have hM3 := HK3.out.keep hb5
  clear HK1 HK2 HK3
  have HK1 := Lib.hid hM1
  clear hM1
  have HK2 := Lib.hid hM2
  clear hM2
  have HK3 := Lib.hid hM3
  clear hM3
  clear hb5 hB4 HSO
  obtain ⟨W6, hW6, hR4, hBl6, hsz6⟩ := box1T 24 w5 (.string P) (.string Q)
  have hB6 : Below w.heap.size w W6 := hB5.trans (hBl6.mono hB5.size)
  have HW6 := Lib.hid hW6
  have hM1 := HK1.out.keep hBl6
  have hM2 := HK2.out.keep hBl6
  have hM3 := HK3.out.keep hBl6
  clear HK1 HK2 HK3
  have HK1 := Lib.hid hM1
  clear hM1
  have HK2 := Lib.hid hM2
  clear hM2
  have HK3 := Lib.hid hM3
  clear hM3
  have HK4 := Lib.hid hR4
  clear hR4 hW6 hBl6 hsz6 hB5
  have x40 := HK4.out.c0; have x41 := HK4.out.c1
  have x20 := HK2.out.c0; have x21 := HK2.out.c1
  rw [HW6.out] at x40 x41 x20 x21
  go_wp2_with fail
  rw [← HW6.out]
  clear x40 x41 x20 x21
  refine (HAdd.out _ (HT.out.keep hB6)).mono ?_
  rintro en w7 ⟨rfl, hb7⟩
  have hB7 : Below w.heap.size w w7 := hB6.trans (hb7.mono hB6.size)
  have hM1 := HK1.out.keep hb7
  have hM2 := HK2.out.keep hb7
  have hM3 := HK3.out.keep hb7
  have hM4 := HK4.out.keep hb7
  clear HK1 HK2 HK3 HK4
  have HK1 := Lib.hid hM1
  clear hM1
  have HK2 := Lib.hid hM2
  clear hM2
  have HK3 := Lib.hid hM3
  clear hM3
  have HK4 := Lib.hid hM4
  clear hM4
  clear hb7 hB6
  have HSO := Lib.hid (sums_of _ s r _ HK3.out)
  unfold FrOut FrV at HSO
  go_wp2_with fail
  refine HSO.out.mono ?_
  rintro en w8 ⟨rfl, hb8⟩
  have hB8 : Below w.heap.size w w8 := hB7.trans (hb8.mono hB7.size)
  have hM1 := HK1.out.keep hb8
  have hM2 := HK2.out.keep hb8
  have hM3 := HK3.out.keep hb8
  have hM4 := HK4.out.keep hb8
  clear HK1 HK2 HK3 HK4
  have HK1 := Lib.hid hM1
  clear hM1
  have HK2 := Lib.hid hM2
  clear hM2
  have HK3 := Lib.hid hM3
  clear hM3
  have HK4 := Lib.hid hM4
  clear hM4
  clear hb8 hB7 HSO
  obtain ⟨W9, hW9, hR5, hBl9, hsz9⟩ := box1T 24 w8 (.string s) (.string r)
  have hB9 : Below w.heap.size w W9 := hB8.trans (hBl9.mono hB8.size)
  have HW9 := Lib.hid hW9
  have hM1 := HK1.out.keep hBl9
  have hM2 := HK2.out.keep hBl9
  have hM3 := HK3.out.keep hBl9
  have hM4 := HK4.out.keep hBl9
  clear HK1 HK2 HK3 HK4
  have HK1 := Lib.hid hM1
  clear hM1
  have HK2 := Lib.hid hM2
  clear hM2
  have HK3 := Lib.hid hM3
  clear hM3
  have HK4 := Lib.hid hM4
  clear hM4
  have HK5 := Lib.hid hR5
  clear hR5 hW9 hBl9 hsz9 hB8
  have x10 := HK1.out.c0; have x11 := HK1.out.c1
  have x20 := HK2.out.c0; have x21 := HK2.out.c1
  rw [HW9.out] at x10 x11 x20 x21
  go_wp2_with fail
  rw [← HW9.out]
  clear x10 x11 x20 x21
  refine (HC1.out _ (HT.out.keep hB9)).mono ?_
  rintro en w10 ⟨rfl, hb10⟩
  have hB10 : Below w.heap.size w w10 := hB9.trans (hb10.mono hB9.size)
  have hM1 := HK1.out.keep hb10
  have hM2 := HK2.out.keep hb10
  have hM3 := HK3.out.keep hb10
  have hM4 := HK4.out.keep hb10
  have hM5 := HK5.out.keep hb10
  clear HK1 HK2 HK3 HK4 HK5
  have HK1 := Lib.hid hM1
  clear hM1
  have HK2 := Lib.hid hM2
  clear hM2
  have HK3 := Lib.hid hM3
  clear hM3
  have HK4 := Lib.hid hM4
  clear hM4
  have HK5 := Lib.hid hM5
  clear hM5
  clear hb10 hB9
  have x40 := HK4.out.c0; have x41 := HK4.out.c1
  go_wp2_with fail
  clear x40 x41
  refine (HSg.out _ ).mono ?_
  rintro en w11 ⟨rfl, hb11⟩
  have hB11 : Below w.heap.size w w11 := hB10.trans (hb11.mono hB10.size)
  have hM1 := HK1.out.keep hb11
  have hM2 := HK2.out.keep hb11
  have hM3 := HK3.out.keep hb11
  have hM4 := HK4.out.keep hb11
  have hM5 := HK5.out.keep hb11
  clear HK1 HK2 HK3 HK4 HK5
  have HK1 := Lib.hid hM1
  clear hM1
  have HK2 := Lib.hid hM2
  clear hM2
  have HK3 := Lib.hid hM3
  clear hM3
  have HK4 := Lib.hid hM4
  clear hM4
  have HK5 := Lib.hid hM5
  clear hM5
  clear hb11 hB10
  have x10 := HK1.out.c0; have x11 := HK1.out.c1
  have x20 := HK2.out.c0; have x21 := HK2.out.c1
  go_wp2_with fail
  clear x10 x11 x20 x21
  refine (HC2.out _ (HT.out.keep hB11)).mono ?_
  rintro en w12 ⟨rfl, hb12⟩
  have hB12 : Below w.heap.size w w12 := hB11.trans (hb12.mono hB11.size)
  have hM1 := HK1.out.keep hb12
  have hM2 := HK2.out.keep hb12
  have hM3 := HK3.out.keep hb12
  have hM4 := HK4.out.keep hb12
  have hM5 := HK5.out.keep hb12
  clear HK1 HK2 HK3 HK4 HK5
  have HK1 := Lib.hid hM1
  clear hM1
  have HK2 := Lib.hid hM2
  clear hM2
  have HK3 := Lib.hid hM3
  clear hM3
  have HK4 := Lib.hid hM4
  clear hM4
  have HK5 := Lib.hid hM5
  clear hM5
  clear hb12 hB11
  have x10 := HK1.out.c0; have x11 := HK1.out.c1; have x20 := HK2.out.c0; have x21 := HK2.out.c1; have x30 := HK3.out.c0; have x50 := HK5.out.c0; have x51 := HK5.out.c1
  go_wp2_with fail
  refine (HDv.out _ (HT.out.keep hB12)).mono ?_
  rintro en w13 ⟨rfl, hb13⟩
  have hB13 : Below w.heap.size w w13 := hB12.trans (hb13.mono hB12.size)
  have hM1 := HK1.out.keep hb13
  have hM2 := HK2.out.keep hb13
  have hM3 := HK3.out.keep hb13
  have hM4 := HK4.out.keep hb13
  have hM5 := HK5.out.keep hb13
  clear HK1 HK2 HK3 HK4 HK5
  have HK1 := Lib.hid hM1
  clear hM1
  have HK2 := Lib.hid hM2
  clear hM2
  have HK3 := Lib.hid hM3
  clear hM3
  have HK4 := Lib.hid hM4
  clear hM4
  have HK5 := Lib.hid hM5
  clear hM5
  clear hb13 hB12
  clear x10 x11 x20 x21 x30 x50 x51
  obtain ⟨W14, hW14, hR6, hBl14, hsz14⟩ := box1T 24 w13 (.string ⟨#[]⟩) (.string ⟨#[]⟩)
  have hB14 : Below w.heap.size w W14 := hB13.trans (hBl14.mono hB13.size)
  have HW14 := Lib.hid hW14
  have hM1 := HK1.out.keep hBl14
  have hM2 := HK2.out.keep hBl14
  have hM3 := HK3.out.keep hBl14
  have hM4 := HK4.out.keep hBl14
  have hM5 := HK5.out.keep hBl14
  clear HK1 HK2 HK3 HK4 HK5
  have HK1 := Lib.hid hM1
  clear hM1
  have HK2 := Lib.hid hM2
  clear hM2
  have HK3 := Lib.hid hM3
  clear hM3
  have HK4 := Lib.hid hM4
  clear hM4
  have HK5 := Lib.hid hM5
  clear hM5
  have HK6 := Lib.hid hR6
  clear hR6 hW14 hBl14 hsz14 hB13
  have x20 := HK2.out.c0; have x21 := HK2.out.c1
  rw [HW14.out] at x20 x21
  go_wp2_with fail
  rw [← HW14.out]
  clear x20 x21
  refine (HA.out _ (HT.out.keep hB14) (HC.out.keep hB14)).mono ?_
  rintro en w15 ⟨rfl, hb15⟩
  have hB15 : Below w.heap.size w w15 := hB14.trans (hb15.mono hB14.size)
  have hM1 := HK1.out.keep hb15
  have hM2 := HK2.out.keep hb15
  have hM3 := HK3.out.keep hb15
  have hM4 := HK4.out.keep hb15
  have hM5 := HK5.out.keep hb15
  have hM6 := HK6.out.keep hb15
  clear HK1 HK2 HK3 HK4 HK5 HK6
  have HK1 := Lib.hid hM1
  clear hM1
  have HK2 := Lib.hid hM2
  clear hM2
  have HK3 := Lib.hid hM3
  clear hM3
  have HK4 := Lib.hid hM4
  clear hM4
  have HK5 := Lib.hid hM5
  clear hM5
  have HK6 := Lib.hid hM6
  clear hM6
  clear hb15 hB14
  go_wp2
  go_ret
  exact ⟨rfl, hB15⟩

set_option maxHeartbeats 6400000 in
set_option maxRecDepth 100000 in
theorem undoes_pr1 (s r r' P Q U V : ByteArray) (hE : (r.toList == r'.toList) = false) (hz : (s.toList == [48]) = false)
    (HR1 : Hid (∀ w, Calls Tryz.prog 40 #[FrV s r] w fun e w' => e = .returned (.bool true) ∧ Below w.heap.size w w'))
    (HR2 : Hid (∀ w, Calls Tryz.prog 40 #[FrV s r'] w fun e w' => e = .returned (.bool true) ∧ Below w.heap.size w w'))
    (HSub : Hid (∀ w, Tab w → Calls Tryz.prog 29 #[FrV s r, FrV s r'] w (FrE w P Q 0)))
    (HAdd : Hid (∀ w, Tab w → Calls Tryz.prog 27 #[FrV P Q, FrV s r'] w (FrE w s r 0)))
    (HC1 : Hid (∀ w, Tab w → Calls Tryz.prog 35 #[FrV s r, FrV s r'] w (IntOut w 1 0)))
    (HSg : Hid (∀ w, Calls Tryz.prog 45 #[.string P] w (IntOut w 1 0)))
    (HC2 : Hid (∀ w, Tab w → Calls Tryz.prog 35 #[FrV s r', FrV s r] w (IntOut w (-1) 0)))
    (HDv : Hid (∀ w, Tab w → Calls Tryz.prog 33 #[FrV s r, FrV s r'] w (FrE w U V 0)))
    (HMul : Hid (∀ w, Tab w → Calls Tryz.prog 31 #[FrV U V, FrV s r'] w (FrE w s r 0)))
    (w : World) (hT : Tab w) (hC : CutT w) : Calls Tryz.prog 8 #[FrV s r, FrV s r'] w fun e w' => e = .returned (.bool true) ∧ Below w.heap.size w w' := by
  have HT := Lib.hid hT
  have HC := Lib.hid hC
  have HA := Lib.hid fawake
  clear hT hC
  unfold FrE at HSub HAdd HDv HMul
  unfold IntOut at HC1 HSg HC2
  unfold FrV at *
  go_enter Tryz.func8, Tryz.ntmps8
  obtain ⟨W0, hW0, hR1, hR2, hBl0, hsz0⟩ := box2T 24 w (.string s) (.string r) (.string s) (.string r')
  have HW0 := Lib.hid hW0
  have HK1 := Lib.hid hR1
  have HK2 := Lib.hid hR2
  have hB0 : Below w.heap.size w W0 := hBl0
  clear hR1 hR2 hBl0 hW0
  clear hsz0
  have x10 := HK1.out.c0; have x11 := HK1.out.c1
  rw [HW0.out] at x10 x11
  go_wp2_with fail
  rw [← HW0.out]
  clear x10 x11
  refine (HR1.out _ ).mono ?_
  rintro en w1 ⟨rfl, hb1⟩
  have hB1 : Below w.heap.size w w1 := hB0.trans (hb1.mono hB0.size)
  have hM1 := HK1.out.keep hb1
  have hM2 := HK2.out.keep hb1
  clear HK1 HK2
  have HK1 := Lib.hid hM1
  clear hM1
  have HK2 := Lib.hid hM2
  clear hM2
  clear hb1 hB0
  have x20 := HK2.out.c0; have x21 := HK2.out.c1
  go_wp2_with fail
  clear x20 x21
  refine (HR2.out _ ).mono ?_
  rintro en w2 ⟨rfl, hb2⟩
  have hB2 : Below w.heap.size w w2 := hB1.trans (hb2.mono hB1.size)
  have hM1 := HK1.out.keep hb2
  have hM2 := HK2.out.keep hb2
  clear HK1 HK2
  have HK1 := Lib.hid hM1
  clear hM1
  have HK2 := Lib.hid hM2
  clear hM2
  clear hb2 hB1
  obtain ⟨W3, hW3, hR3, hBl3, hsz3⟩ := one1T 63 w2 (.bool true)
  have hB3 : Below w.heap.size w W3 := hB2.trans (hBl3.mono hB2.size)
  have HW3 := Lib.hid hW3
  have hM1 := HK1.out.keep hBl3
  have hM2 := HK2.out.keep hBl3
  clear HK1 HK2
  have HK1 := Lib.hid hM1
  clear hM1
  have HK2 := Lib.hid hM2
  clear hM2
  have HK3 := Lib.hid hR3
  clear hR3 hW3 hBl3 hsz3 hB2
  have x10 := HK1.out.c0; have x11 := HK1.out.c1
  have x20 := HK2.out.c0; have x21 := HK2.out.c1
  rw [HW3.out] at x10 x11 x20 x21
  go_wp2_with fail
  rw [← HW3.out]
  clear x10 x11 x20 x21
  refine (HSub.out _ (HT.out.keep hB3)).mono ?_
  rintro en w4 ⟨rfl, hb4⟩
  have hB4 : Below w.heap.size w w4 := hB3.trans (hb4.mono hB3.size)
  have hM1 := HK1.out.keep hb4
  have hM2 := HK2.out.keep hb4
  have hM3 := HK3.out.keep hb4
  clear HK1 HK2 HK3
  have HK1 := Lib.hid hM1
  clear hM1
  have HK2 := Lib.hid hM2
  clear hM2
  have HK3 := Lib.hid hM3
  clear hM3
  clear hb4 hB3
  have HSO := Lib.hid (sums_of _ P Q _ HK3.out)
  unfold FrOut FrV at HSO
  go_wp2_with fail
  refine HSO.out.mono ?_
  rintro en w5 ⟨rfl, hb5⟩
  have hB5 : Below w.heap.size w w5 := hB4.trans (hb5.mono hB4.size)
  have hM1 := HK1.out.keep hb5
  have hM2 := HK2.out.keep hb5
  have hM3 := HK3.out.keep hb5
  clear HK1 HK2 HK3
  have HK1 := Lib.hid hM1
  clear hM1
  have HK2 := Lib.hid hM2
  clear hM2
  have HK3 := Lib.hid hM3
  clear hM3
  clear hb5 hB4 HSO
  obtain ⟨W6, hW6, hR4, hBl6, hsz6⟩ := box1T 24 w5 (.string P) (.string Q)
  have hB6 : Below w.heap.size w W6 := hB5.trans (hBl6.mono hB5.size)
  have HW6 := Lib.hid hW6
  have hM1 := HK1.out.keep hBl6
  have hM2 := HK2.out.keep hBl6
  have hM3 := HK3.out.keep hBl6
  clear HK1 HK2 HK3
  have HK1 := Lib.hid hM1
  clear hM1
  have HK2 := Lib.hid hM2
  clear hM2
  have HK3 := Lib.hid hM3
  clear hM3
  have HK4 := Lib.hid hR4
  clear hR4 hW6 hBl6 hsz6 hB5
  have x40 := HK4.out.c0; have x41 := HK4.out.c1
  have x20 := HK2.out.c0; have x21 := HK2.out.c1
  rw [HW6.out] at x40 x41 x20 x21
  go_wp2_with fail
  rw [← HW6.out]
  clear x40 x41 x20 x21
  refine (HAdd.out _ (HT.out.keep hB6)).mono ?_
  rintro en w7 ⟨rfl, hb7⟩
  have hB7 : Below w.heap.size w w7 := hB6.trans (hb7.mono hB6.size)
  have hM1 := HK1.out.keep hb7
  have hM2 := HK2.out.keep hb7
  have hM3 := HK3.out.keep hb7
  have hM4 := HK4.out.keep hb7
  clear HK1 HK2 HK3 HK4
  have HK1 := Lib.hid hM1
  clear hM1
  have HK2 := Lib.hid hM2
  clear hM2
  have HK3 := Lib.hid hM3
  clear hM3
  have HK4 := Lib.hid hM4
  clear hM4
  clear hb7 hB6
  have HSO := Lib.hid (sums_of _ s r _ HK3.out)
  unfold FrOut FrV at HSO
  go_wp2_with fail
  refine HSO.out.mono ?_
  rintro en w8 ⟨rfl, hb8⟩
  have hB8 : Below w.heap.size w w8 := hB7.trans (hb8.mono hB7.size)
  have hM1 := HK1.out.keep hb8
  have hM2 := HK2.out.keep hb8
  have hM3 := HK3.out.keep hb8
  have hM4 := HK4.out.keep hb8
  clear HK1 HK2 HK3 HK4
  have HK1 := Lib.hid hM1
  clear hM1
  have HK2 := Lib.hid hM2
  clear hM2
  have HK3 := Lib.hid hM3
  clear hM3
  have HK4 := Lib.hid hM4
  clear hM4
  clear hb8 hB7 HSO
  obtain ⟨W9, hW9, hR5, hBl9, hsz9⟩ := box1T 24 w8 (.string s) (.string r)
  have hB9 : Below w.heap.size w W9 := hB8.trans (hBl9.mono hB8.size)
  have HW9 := Lib.hid hW9
  have hM1 := HK1.out.keep hBl9
  have hM2 := HK2.out.keep hBl9
  have hM3 := HK3.out.keep hBl9
  have hM4 := HK4.out.keep hBl9
  clear HK1 HK2 HK3 HK4
  have HK1 := Lib.hid hM1
  clear hM1
  have HK2 := Lib.hid hM2
  clear hM2
  have HK3 := Lib.hid hM3
  clear hM3
  have HK4 := Lib.hid hM4
  clear hM4
  have HK5 := Lib.hid hR5
  clear hR5 hW9 hBl9 hsz9 hB8
  have x10 := HK1.out.c0; have x11 := HK1.out.c1
  have x20 := HK2.out.c0; have x21 := HK2.out.c1
  rw [HW9.out] at x10 x11 x20 x21
  go_wp2_with fail
  rw [← HW9.out]
  clear x10 x11 x20 x21
  refine (HC1.out _ (HT.out.keep hB9)).mono ?_
  rintro en w10 ⟨rfl, hb10⟩
  have hB10 : Below w.heap.size w w10 := hB9.trans (hb10.mono hB9.size)
  have hM1 := HK1.out.keep hb10
  have hM2 := HK2.out.keep hb10
  have hM3 := HK3.out.keep hb10
  have hM4 := HK4.out.keep hb10
  have hM5 := HK5.out.keep hb10
  clear HK1 HK2 HK3 HK4 HK5
  have HK1 := Lib.hid hM1
  clear hM1
  have HK2 := Lib.hid hM2
  clear hM2
  have HK3 := Lib.hid hM3
  clear hM3
  have HK4 := Lib.hid hM4
  clear hM4
  have HK5 := Lib.hid hM5
  clear hM5
  clear hb10 hB9
  have x40 := HK4.out.c0; have x41 := HK4.out.c1
  go_wp2_with fail
  clear x40 x41
  refine (HSg.out _ ).mono ?_
  rintro en w11 ⟨rfl, hb11⟩
  have hB11 : Below w.heap.size w w11 := hB10.trans (hb11.mono hB10.size)
  have hM1 := HK1.out.keep hb11
  have hM2 := HK2.out.keep hb11
  have hM3 := HK3.out.keep hb11
  have hM4 := HK4.out.keep hb11
  have hM5 := HK5.out.keep hb11
  clear HK1 HK2 HK3 HK4 HK5
  have HK1 := Lib.hid hM1
  clear hM1
  have HK2 := Lib.hid hM2
  clear hM2
  have HK3 := Lib.hid hM3
  clear hM3
  have HK4 := Lib.hid hM4
  clear hM4
  have HK5 := Lib.hid hM5
  clear hM5
  clear hb11 hB10
  have x10 := HK1.out.c0; have x11 := HK1.out.c1
  have x20 := HK2.out.c0; have x21 := HK2.out.c1
  go_wp2_with fail
  clear x10 x11 x20 x21
  refine (HC2.out _ (HT.out.keep hB11)).mono ?_
  rintro en w12 ⟨rfl, hb12⟩
  have hB12 : Below w.heap.size w w12 := hB11.trans (hb12.mono hB11.size)
  have hM1 := HK1.out.keep hb12
  have hM2 := HK2.out.keep hb12
  have hM3 := HK3.out.keep hb12
  have hM4 := HK4.out.keep hb12
  have hM5 := HK5.out.keep hb12
  clear HK1 HK2 HK3 HK4 HK5
  have HK1 := Lib.hid hM1
  clear hM1
  have HK2 := Lib.hid hM2
  clear hM2
  have HK3 := Lib.hid hM3
  clear hM3
  have HK4 := Lib.hid hM4
  clear hM4
  have HK5 := Lib.hid hM5
  clear hM5
  clear hb12 hB11
  have x10 := HK1.out.c0; have x11 := HK1.out.c1; have x20 := HK2.out.c0; have x21 := HK2.out.c1; have x30 := HK3.out.c0; have x50 := HK5.out.c0; have x51 := HK5.out.c1
  go_wp2_with fail
  refine (HDv.out _ (HT.out.keep hB12)).mono ?_
  rintro en w13 ⟨rfl, hb13⟩
  have hB13 : Below w.heap.size w w13 := hB12.trans (hb13.mono hB12.size)
  have hM1 := HK1.out.keep hb13
  have hM2 := HK2.out.keep hb13
  have hM3 := HK3.out.keep hb13
  have hM4 := HK4.out.keep hb13
  have hM5 := HK5.out.keep hb13
  clear HK1 HK2 HK3 HK4 HK5
  have HK1 := Lib.hid hM1
  clear hM1
  have HK2 := Lib.hid hM2
  clear hM2
  have HK3 := Lib.hid hM3
  clear hM3
  have HK4 := Lib.hid hM4
  clear hM4
  have HK5 := Lib.hid hM5
  clear hM5
  clear hb13 hB12
  clear x10 x11 x20 x21 x30 x50 x51
  obtain ⟨W14, hW14, hR6, hBl14, hsz14⟩ := box1T 24 w13 (.string U) (.string V)
  have hB14 : Below w.heap.size w W14 := hB13.trans (hBl14.mono hB13.size)
  have HW14 := Lib.hid hW14
  have hM1 := HK1.out.keep hBl14
  have hM2 := HK2.out.keep hBl14
  have hM3 := HK3.out.keep hBl14
  have hM4 := HK4.out.keep hBl14
  have hM5 := HK5.out.keep hBl14
  clear HK1 HK2 HK3 HK4 HK5
  have HK1 := Lib.hid hM1
  clear hM1
  have HK2 := Lib.hid hM2
  clear hM2
  have HK3 := Lib.hid hM3
  clear hM3
  have HK4 := Lib.hid hM4
  clear hM4
  have HK5 := Lib.hid hM5
  clear hM5
  have HK6 := Lib.hid hR6
  clear hR6 hW14 hBl14 hsz14 hB13
  have x20 := HK2.out.c0; have x21 := HK2.out.c1
  have x60 := HK6.out.c0; have x61 := HK6.out.c1
  rw [HW14.out] at x20 x21 x60 x61
  go_wp2_with fail
  rw [← HW14.out]
  clear x20 x21 x60 x61
  refine (HMul.out _ (HT.out.keep hB14)).mono ?_
  rintro en w15 ⟨rfl, hb15⟩
  have hB15 : Below w.heap.size w w15 := hB14.trans (hb15.mono hB14.size)
  have hM1 := HK1.out.keep hb15
  have hM2 := HK2.out.keep hb15
  have hM3 := HK3.out.keep hb15
  have hM4 := HK4.out.keep hb15
  have hM5 := HK5.out.keep hb15
  have hM6 := HK6.out.keep hb15
  clear HK1 HK2 HK3 HK4 HK5 HK6
  have HK1 := Lib.hid hM1
  clear hM1
  have HK2 := Lib.hid hM2
  clear hM2
  have HK3 := Lib.hid hM3
  clear hM3
  have HK4 := Lib.hid hM4
  clear hM4
  have HK5 := Lib.hid hM5
  clear hM5
  have HK6 := Lib.hid hM6
  clear hM6
  clear hb15 hB14
  obtain ⟨W16, hW16, hR7, hBl16, hsz16⟩ := box1T 24 w15 (.string s) (.string r)
  have hB16 : Below w.heap.size w W16 := hB15.trans (hBl16.mono hB15.size)
  have HW16 := Lib.hid hW16
  have hM1 := HK1.out.keep hBl16
  have hM2 := HK2.out.keep hBl16
  have hM3 := HK3.out.keep hBl16
  have hM4 := HK4.out.keep hBl16
  have hM5 := HK5.out.keep hBl16
  have hM6 := HK6.out.keep hBl16
  clear HK1 HK2 HK3 HK4 HK5 HK6
  have HK1 := Lib.hid hM1
  clear hM1
  have HK2 := Lib.hid hM2
  clear hM2
  have HK3 := Lib.hid hM3
  clear hM3
  have HK4 := Lib.hid hM4
  clear hM4
  have HK5 := Lib.hid hM5
  clear hM5
  have HK6 := Lib.hid hM6
  clear hM6
  have HK7 := Lib.hid hR7
  clear hR7 hW16 hBl16 hsz16 hB15
  have x10 := HK1.out.c0; have x11 := HK1.out.c1
  have x70 := HK7.out.c0; have x71 := HK7.out.c1
  rw [HW16.out] at x10 x11 x70 x71
  go_wp2_with fail
  rw [← HW16.out]
  clear x10 x11 x70 x71
  refine (HA.out _ (HT.out.keep hB16) (HC.out.keep hB16)).mono ?_
  rintro en w17 ⟨rfl, hb17⟩
  have hB17 : Below w.heap.size w w17 := hB16.trans (hb17.mono hB16.size)
  have hM1 := HK1.out.keep hb17
  have hM2 := HK2.out.keep hb17
  have hM3 := HK3.out.keep hb17
  have hM4 := HK4.out.keep hb17
  have hM5 := HK5.out.keep hb17
  have hM6 := HK6.out.keep hb17
  have hM7 := HK7.out.keep hb17
  clear HK1 HK2 HK3 HK4 HK5 HK6 HK7
  have HK1 := Lib.hid hM1
  clear hM1
  have HK2 := Lib.hid hM2
  clear hM2
  have HK3 := Lib.hid hM3
  clear hM3
  have HK4 := Lib.hid hM4
  clear hM4
  have HK5 := Lib.hid hM5
  clear hM5
  have HK6 := Lib.hid hM6
  clear hM6
  have HK7 := Lib.hid hM7
  clear hM7
  clear hb17 hB16
  go_wp2
  go_ret
  exact ⟨rfl, hB17⟩

set_option maxHeartbeats 6400000 in
set_option maxRecDepth 100000 in
theorem undoes_n0 (s r s' r' P Q : ByteArray) (hE : (s.toList == s'.toList) = false) (hz : (s'.toList == [48]) = true)
    (HR1 : Hid (∀ w, Calls Tryz.prog 40 #[FrV s r] w fun e w' => e = .returned (.bool true) ∧ Below w.heap.size w w'))
    (HR2 : Hid (∀ w, Calls Tryz.prog 40 #[FrV s' r'] w fun e w' => e = .returned (.bool true) ∧ Below w.heap.size w w'))
    (HSub : Hid (∀ w, Tab w → Calls Tryz.prog 29 #[FrV s r, FrV s' r'] w (FrE w P Q 0)))
    (HAdd : Hid (∀ w, Tab w → Calls Tryz.prog 27 #[FrV P Q, FrV s' r'] w (FrE w s r 0)))
    (HC1 : Hid (∀ w, Tab w → Calls Tryz.prog 35 #[FrV s r, FrV s' r'] w (IntOut w (-1) 0)))
    (HSg : Hid (∀ w, Calls Tryz.prog 45 #[.string P] w (IntOut w (-1) 0)))
    (HC2 : Hid (∀ w, Tab w → Calls Tryz.prog 35 #[FrV s' r', FrV s r] w (IntOut w 1 0)))
    (HDv : Hid (∀ w, Tab w → Calls Tryz.prog 33 #[FrV s r, FrV s' r'] w (FrE w ⟨#[]⟩ ⟨#[]⟩ 10)))
    (w : World) (hT : Tab w) (hC : CutT w) : Calls Tryz.prog 8 #[FrV s r, FrV s' r'] w fun e w' => e = .returned (.bool true) ∧ Below w.heap.size w w' := by
  have HT := Lib.hid hT
  have HC := Lib.hid hC
  have HA := Lib.hid fawake
  clear hT hC
  unfold FrE at HSub HAdd HDv
  unfold IntOut at HC1 HSg HC2
  unfold FrV at *
  go_enter Tryz.func8, Tryz.ntmps8
  obtain ⟨W0, hW0, hR1, hR2, hBl0, hsz0⟩ := box2T 24 w (.string s) (.string r) (.string s') (.string r')
  have HW0 := Lib.hid hW0
  have HK1 := Lib.hid hR1
  have HK2 := Lib.hid hR2
  have hB0 : Below w.heap.size w W0 := hBl0
  clear hR1 hR2 hBl0 hW0
  clear hsz0
  have x10 := HK1.out.c0; have x11 := HK1.out.c1
  rw [HW0.out] at x10 x11
  go_wp2_with fail
  rw [← HW0.out]
  clear x10 x11
  refine (HR1.out _ ).mono ?_
  rintro en w1 ⟨rfl, hb1⟩
  have hB1 : Below w.heap.size w w1 := hB0.trans (hb1.mono hB0.size)
  have hM1 := HK1.out.keep hb1
  have hM2 := HK2.out.keep hb1
  clear HK1 HK2
  have HK1 := Lib.hid hM1
  clear hM1
  have HK2 := Lib.hid hM2
  clear hM2
  clear hb1 hB0
  have x20 := HK2.out.c0; have x21 := HK2.out.c1
  go_wp2_with fail
  clear x20 x21
  refine (HR2.out _ ).mono ?_
  rintro en w2 ⟨rfl, hb2⟩
  have hB2 : Below w.heap.size w w2 := hB1.trans (hb2.mono hB1.size)
  have hM1 := HK1.out.keep hb2
  have hM2 := HK2.out.keep hb2
  clear HK1 HK2
  have HK1 := Lib.hid hM1
  clear hM1
  have HK2 := Lib.hid hM2
  clear hM2
  clear hb2 hB1
  obtain ⟨W3, hW3, hR3, hBl3, hsz3⟩ := one1T 63 w2 (.bool true)
  have hB3 : Below w.heap.size w W3 := hB2.trans (hBl3.mono hB2.size)
  have HW3 := Lib.hid hW3
  have hM1 := HK1.out.keep hBl3
  have hM2 := HK2.out.keep hBl3
  clear HK1 HK2
  have HK1 := Lib.hid hM1
  clear hM1
  have HK2 := Lib.hid hM2
  clear hM2
  have HK3 := Lib.hid hR3
  clear hR3 hW3 hBl3 hsz3 hB2
  have x10 := HK1.out.c0; have x11 := HK1.out.c1
  have x20 := HK2.out.c0; have x21 := HK2.out.c1
  rw [HW3.out] at x10 x11 x20 x21
  go_wp2_with fail
  rw [← HW3.out]
  clear x10 x11 x20 x21
  refine (HSub.out _ (HT.out.keep hB3)).mono ?_
  rintro en w4 ⟨rfl, hb4⟩
  have hB4 : Below w.heap.size w w4 := hB3.trans (hb4.mono hB3.size)
  have hM1 := HK1.out.keep hb4
  have hM2 := HK2.out.keep hb4
  have hM3 := HK3.out.keep hb4
  clear HK1 HK2 HK3
  have HK1 := Lib.hid hM1
  clear hM1
  have HK2 := Lib.hid hM2
  clear hM2
  have HK3 := Lib.hid hM3
  clear hM3
  clear hb4 hB3
  have HSO := Lib.hid (sums_of _ P Q _ HK3.out)
  unfold FrOut FrV at HSO
  go_wp2_with fail
  refine HSO.out.mono ?_
  rintro en w5 ⟨rfl, hb5⟩
  have hB5 : Below w.heap.size w w5 := hB4.trans (hb5.mono hB4.size)
  have hM1 := HK1.out.keep hb5
  have hM2 := HK2.out.keep hb5
  have hM3 := HK3.out.keep hb5
  clear HK1 HK2 HK3
  have HK1 := Lib.hid hM1
  clear hM1
  have HK2 := Lib.hid hM2
  clear hM2
  have HK3 := Lib.hid hM3
  clear hM3
  clear hb5 hB4 HSO
  obtain ⟨W6, hW6, hR4, hBl6, hsz6⟩ := box1T 24 w5 (.string P) (.string Q)
  have hB6 : Below w.heap.size w W6 := hB5.trans (hBl6.mono hB5.size)
  have HW6 := Lib.hid hW6
  have hM1 := HK1.out.keep hBl6
  have hM2 := HK2.out.keep hBl6
  have hM3 := HK3.out.keep hBl6
  clear HK1 HK2 HK3
  have HK1 := Lib.hid hM1
  clear hM1
  have HK2 := Lib.hid hM2
  clear hM2
  have HK3 := Lib.hid hM3
  clear hM3
  have HK4 := Lib.hid hR4
  clear hR4 hW6 hBl6 hsz6 hB5
  have x40 := HK4.out.c0; have x41 := HK4.out.c1
  have x20 := HK2.out.c0; have x21 := HK2.out.c1
  rw [HW6.out] at x40 x41 x20 x21
  go_wp2_with fail
  rw [← HW6.out]
  clear x40 x41 x20 x21
  refine (HAdd.out _ (HT.out.keep hB6)).mono ?_
  rintro en w7 ⟨rfl, hb7⟩
  have hB7 : Below w.heap.size w w7 := hB6.trans (hb7.mono hB6.size)
  have hM1 := HK1.out.keep hb7
  have hM2 := HK2.out.keep hb7
  have hM3 := HK3.out.keep hb7
  have hM4 := HK4.out.keep hb7
  clear HK1 HK2 HK3 HK4
  have HK1 := Lib.hid hM1
  clear hM1
  have HK2 := Lib.hid hM2
  clear hM2
  have HK3 := Lib.hid hM3
  clear hM3
  have HK4 := Lib.hid hM4
  clear hM4
  clear hb7 hB6
  have HSO := Lib.hid (sums_of _ s r _ HK3.out)
  unfold FrOut FrV at HSO
  go_wp2_with fail
  refine HSO.out.mono ?_
  rintro en w8 ⟨rfl, hb8⟩
  have hB8 : Below w.heap.size w w8 := hB7.trans (hb8.mono hB7.size)
  have hM1 := HK1.out.keep hb8
  have hM2 := HK2.out.keep hb8
  have hM3 := HK3.out.keep hb8
  have hM4 := HK4.out.keep hb8
  clear HK1 HK2 HK3 HK4
  have HK1 := Lib.hid hM1
  clear hM1
  have HK2 := Lib.hid hM2
  clear hM2
  have HK3 := Lib.hid hM3
  clear hM3
  have HK4 := Lib.hid hM4
  clear hM4
  clear hb8 hB7 HSO
  obtain ⟨W9, hW9, hR5, hBl9, hsz9⟩ := box1T 24 w8 (.string s) (.string r)
  have hB9 : Below w.heap.size w W9 := hB8.trans (hBl9.mono hB8.size)
  have HW9 := Lib.hid hW9
  have hM1 := HK1.out.keep hBl9
  have hM2 := HK2.out.keep hBl9
  have hM3 := HK3.out.keep hBl9
  have hM4 := HK4.out.keep hBl9
  clear HK1 HK2 HK3 HK4
  have HK1 := Lib.hid hM1
  clear hM1
  have HK2 := Lib.hid hM2
  clear hM2
  have HK3 := Lib.hid hM3
  clear hM3
  have HK4 := Lib.hid hM4
  clear hM4
  have HK5 := Lib.hid hR5
  clear hR5 hW9 hBl9 hsz9 hB8
  have x10 := HK1.out.c0; have x11 := HK1.out.c1
  have x20 := HK2.out.c0; have x21 := HK2.out.c1
  rw [HW9.out] at x10 x11 x20 x21
  go_wp2_with fail
  rw [← HW9.out]
  clear x10 x11 x20 x21
  refine (HC1.out _ (HT.out.keep hB9)).mono ?_
  rintro en w10 ⟨rfl, hb10⟩
  have hB10 : Below w.heap.size w w10 := hB9.trans (hb10.mono hB9.size)
  have hM1 := HK1.out.keep hb10
  have hM2 := HK2.out.keep hb10
  have hM3 := HK3.out.keep hb10
  have hM4 := HK4.out.keep hb10
  have hM5 := HK5.out.keep hb10
  clear HK1 HK2 HK3 HK4 HK5
  have HK1 := Lib.hid hM1
  clear hM1
  have HK2 := Lib.hid hM2
  clear hM2
  have HK3 := Lib.hid hM3
  clear hM3
  have HK4 := Lib.hid hM4
  clear hM4
  have HK5 := Lib.hid hM5
  clear hM5
  clear hb10 hB9
  have x40 := HK4.out.c0; have x41 := HK4.out.c1
  go_wp2_with fail
  clear x40 x41
  refine (HSg.out _ ).mono ?_
  rintro en w11 ⟨rfl, hb11⟩
  have hB11 : Below w.heap.size w w11 := hB10.trans (hb11.mono hB10.size)
  have hM1 := HK1.out.keep hb11
  have hM2 := HK2.out.keep hb11
  have hM3 := HK3.out.keep hb11
  have hM4 := HK4.out.keep hb11
  have hM5 := HK5.out.keep hb11
  clear HK1 HK2 HK3 HK4 HK5
  have HK1 := Lib.hid hM1
  clear hM1
  have HK2 := Lib.hid hM2
  clear hM2
  have HK3 := Lib.hid hM3
  clear hM3
  have HK4 := Lib.hid hM4
  clear hM4
  have HK5 := Lib.hid hM5
  clear hM5
  clear hb11 hB10
  have x10 := HK1.out.c0; have x11 := HK1.out.c1
  have x20 := HK2.out.c0; have x21 := HK2.out.c1
  go_wp2_with fail
  clear x10 x11 x20 x21
  refine (HC2.out _ (HT.out.keep hB11)).mono ?_
  rintro en w12 ⟨rfl, hb12⟩
  have hB12 : Below w.heap.size w w12 := hB11.trans (hb12.mono hB11.size)
  have hM1 := HK1.out.keep hb12
  have hM2 := HK2.out.keep hb12
  have hM3 := HK3.out.keep hb12
  have hM4 := HK4.out.keep hb12
  have hM5 := HK5.out.keep hb12
  clear HK1 HK2 HK3 HK4 HK5
  have HK1 := Lib.hid hM1
  clear hM1
  have HK2 := Lib.hid hM2
  clear hM2
  have HK3 := Lib.hid hM3
  clear hM3
  have HK4 := Lib.hid hM4
  clear hM4
  have HK5 := Lib.hid hM5
  clear hM5
  clear hb12 hB11
  have x10 := HK1.out.c0; have x11 := HK1.out.c1; have x20 := HK2.out.c0; have x21 := HK2.out.c1; have x30 := HK3.out.c0; have x50 := HK5.out.c0; have x51 := HK5.out.c1
  go_wp2_with fail
  refine (HDv.out _ (HT.out.keep hB12)).mono ?_
  rintro en w13 ⟨rfl, hb13⟩
  have hB13 : Below w.heap.size w w13 := hB12.trans (hb13.mono hB12.size)
  have hM1 := HK1.out.keep hb13
  have hM2 := HK2.out.keep hb13
  have hM3 := HK3.out.keep hb13
  have hM4 := HK4.out.keep hb13
  have hM5 := HK5.out.keep hb13
  clear HK1 HK2 HK3 HK4 HK5
  have HK1 := Lib.hid hM1
  clear hM1
  have HK2 := Lib.hid hM2
  clear hM2
  have HK3 := Lib.hid hM3
  clear hM3
  have HK4 := Lib.hid hM4
  clear hM4
  have HK5 := Lib.hid hM5
  clear hM5
  clear hb13 hB12
  clear x10 x11 x20 x21 x30 x50 x51
  obtain ⟨W14, hW14, hR6, hBl14, hsz14⟩ := box1T 24 w13 (.string ⟨#[]⟩) (.string ⟨#[]⟩)
  have hB14 : Below w.heap.size w W14 := hB13.trans (hBl14.mono hB13.size)
  have HW14 := Lib.hid hW14
  have hM1 := HK1.out.keep hBl14
  have hM2 := HK2.out.keep hBl14
  have hM3 := HK3.out.keep hBl14
  have hM4 := HK4.out.keep hBl14
  have hM5 := HK5.out.keep hBl14
  clear HK1 HK2 HK3 HK4 HK5
  have HK1 := Lib.hid hM1
  clear hM1
  have HK2 := Lib.hid hM2
  clear hM2
  have HK3 := Lib.hid hM3
  clear hM3
  have HK4 := Lib.hid hM4
  clear hM4
  have HK5 := Lib.hid hM5
  clear hM5
  have HK6 := Lib.hid hR6
  clear hR6 hW14 hBl14 hsz14 hB13
  have x20 := HK2.out.c0; have x21 := HK2.out.c1
  rw [HW14.out] at x20 x21
  go_wp2_with fail
  rw [← HW14.out]
  clear x20 x21
  refine (HA.out _ (HT.out.keep hB14) (HC.out.keep hB14)).mono ?_
  rintro en w15 ⟨rfl, hb15⟩
  have hB15 : Below w.heap.size w w15 := hB14.trans (hb15.mono hB14.size)
  have hM1 := HK1.out.keep hb15
  have hM2 := HK2.out.keep hb15
  have hM3 := HK3.out.keep hb15
  have hM4 := HK4.out.keep hb15
  have hM5 := HK5.out.keep hb15
  have hM6 := HK6.out.keep hb15
  clear HK1 HK2 HK3 HK4 HK5 HK6
  have HK1 := Lib.hid hM1
  clear hM1
  have HK2 := Lib.hid hM2
  clear hM2
  have HK3 := Lib.hid hM3
  clear hM3
  have HK4 := Lib.hid hM4
  clear hM4
  have HK5 := Lib.hid hM5
  clear hM5
  have HK6 := Lib.hid hM6
  clear hM6
  clear hb15 hB14
  go_wp2
  go_ret
  exact ⟨rfl, hB15⟩

set_option maxHeartbeats 6400000 in
set_option maxRecDepth 100000 in
theorem undoes_n1 (s r s' r' P Q U V : ByteArray) (hE : (s.toList == s'.toList) = false) (hz : (s'.toList == [48]) = false)
    (HR1 : Hid (∀ w, Calls Tryz.prog 40 #[FrV s r] w fun e w' => e = .returned (.bool true) ∧ Below w.heap.size w w'))
    (HR2 : Hid (∀ w, Calls Tryz.prog 40 #[FrV s' r'] w fun e w' => e = .returned (.bool true) ∧ Below w.heap.size w w'))
    (HSub : Hid (∀ w, Tab w → Calls Tryz.prog 29 #[FrV s r, FrV s' r'] w (FrE w P Q 0)))
    (HAdd : Hid (∀ w, Tab w → Calls Tryz.prog 27 #[FrV P Q, FrV s' r'] w (FrE w s r 0)))
    (HC1 : Hid (∀ w, Tab w → Calls Tryz.prog 35 #[FrV s r, FrV s' r'] w (IntOut w (-1) 0)))
    (HSg : Hid (∀ w, Calls Tryz.prog 45 #[.string P] w (IntOut w (-1) 0)))
    (HC2 : Hid (∀ w, Tab w → Calls Tryz.prog 35 #[FrV s' r', FrV s r] w (IntOut w 1 0)))
    (HDv : Hid (∀ w, Tab w → Calls Tryz.prog 33 #[FrV s r, FrV s' r'] w (FrE w U V 0)))
    (HMul : Hid (∀ w, Tab w → Calls Tryz.prog 31 #[FrV U V, FrV s' r'] w (FrE w s r 0)))
    (w : World) (hT : Tab w) (hC : CutT w) : Calls Tryz.prog 8 #[FrV s r, FrV s' r'] w fun e w' => e = .returned (.bool true) ∧ Below w.heap.size w w' := by
  have HT := Lib.hid hT
  have HC := Lib.hid hC
  have HA := Lib.hid fawake
  clear hT hC
  unfold FrE at HSub HAdd HDv HMul
  unfold IntOut at HC1 HSg HC2
  unfold FrV at *
  go_enter Tryz.func8, Tryz.ntmps8
  obtain ⟨W0, hW0, hR1, hR2, hBl0, hsz0⟩ := box2T 24 w (.string s) (.string r) (.string s') (.string r')
  have HW0 := Lib.hid hW0
  have HK1 := Lib.hid hR1
  have HK2 := Lib.hid hR2
  have hB0 : Below w.heap.size w W0 := hBl0
  clear hR1 hR2 hBl0 hW0
  clear hsz0
  have x10 := HK1.out.c0; have x11 := HK1.out.c1
  rw [HW0.out] at x10 x11
  go_wp2_with fail
  rw [← HW0.out]
  clear x10 x11
  refine (HR1.out _ ).mono ?_
  rintro en w1 ⟨rfl, hb1⟩
  have hB1 : Below w.heap.size w w1 := hB0.trans (hb1.mono hB0.size)
  have hM1 := HK1.out.keep hb1
  have hM2 := HK2.out.keep hb1
  clear HK1 HK2
  have HK1 := Lib.hid hM1
  clear hM1
  have HK2 := Lib.hid hM2
  clear hM2
  clear hb1 hB0
  have x20 := HK2.out.c0; have x21 := HK2.out.c1
  go_wp2_with fail
  clear x20 x21
  refine (HR2.out _ ).mono ?_
  rintro en w2 ⟨rfl, hb2⟩
  have hB2 : Below w.heap.size w w2 := hB1.trans (hb2.mono hB1.size)
  have hM1 := HK1.out.keep hb2
  have hM2 := HK2.out.keep hb2
  clear HK1 HK2
  have HK1 := Lib.hid hM1
  clear hM1
  have HK2 := Lib.hid hM2
  clear hM2
  clear hb2 hB1
  obtain ⟨W3, hW3, hR3, hBl3, hsz3⟩ := one1T 63 w2 (.bool true)
  have hB3 : Below w.heap.size w W3 := hB2.trans (hBl3.mono hB2.size)
  have HW3 := Lib.hid hW3
  have hM1 := HK1.out.keep hBl3
  have hM2 := HK2.out.keep hBl3
  clear HK1 HK2
  have HK1 := Lib.hid hM1
  clear hM1
  have HK2 := Lib.hid hM2
  clear hM2
  have HK3 := Lib.hid hR3
  clear hR3 hW3 hBl3 hsz3 hB2
  have x10 := HK1.out.c0; have x11 := HK1.out.c1
  have x20 := HK2.out.c0; have x21 := HK2.out.c1
  rw [HW3.out] at x10 x11 x20 x21
  go_wp2_with fail
  rw [← HW3.out]
  clear x10 x11 x20 x21
  refine (HSub.out _ (HT.out.keep hB3)).mono ?_
  rintro en w4 ⟨rfl, hb4⟩
  have hB4 : Below w.heap.size w w4 := hB3.trans (hb4.mono hB3.size)
  have hM1 := HK1.out.keep hb4
  have hM2 := HK2.out.keep hb4
  have hM3 := HK3.out.keep hb4
  clear HK1 HK2 HK3
  have HK1 := Lib.hid hM1
  clear hM1
  have HK2 := Lib.hid hM2
  clear hM2
  have HK3 := Lib.hid hM3
  clear hM3
  clear hb4 hB3
  have HSO := Lib.hid (sums_of _ P Q _ HK3.out)
  unfold FrOut FrV at HSO
  go_wp2_with fail
  refine HSO.out.mono ?_
  rintro en w5 ⟨rfl, hb5⟩
  have hB5 : Below w.heap.size w w5 := hB4.trans (hb5.mono hB4.size)
  have hM1 := HK1.out.keep hb5
  have hM2 := HK2.out.keep hb5
  have hM3 := HK3.out.keep hb5
  clear HK1 HK2 HK3
  have HK1 := Lib.hid hM1
  clear hM1
  have HK2 := Lib.hid hM2
  clear hM2
  have HK3 := Lib.hid hM3
  clear hM3
  clear hb5 hB4 HSO
  obtain ⟨W6, hW6, hR4, hBl6, hsz6⟩ := box1T 24 w5 (.string P) (.string Q)
  have hB6 : Below w.heap.size w W6 := hB5.trans (hBl6.mono hB5.size)
  have HW6 := Lib.hid hW6
  have hM1 := HK1.out.keep hBl6
  have hM2 := HK2.out.keep hBl6
  have hM3 := HK3.out.keep hBl6
  clear HK1 HK2 HK3
  have HK1 := Lib.hid hM1
  clear hM1
  have HK2 := Lib.hid hM2
  clear hM2
  have HK3 := Lib.hid hM3
  clear hM3
  have HK4 := Lib.hid hR4
  clear hR4 hW6 hBl6 hsz6 hB5
  have x40 := HK4.out.c0; have x41 := HK4.out.c1
  have x20 := HK2.out.c0; have x21 := HK2.out.c1
  rw [HW6.out] at x40 x41 x20 x21
  go_wp2_with fail
  rw [← HW6.out]
  clear x40 x41 x20 x21
  refine (HAdd.out _ (HT.out.keep hB6)).mono ?_
  rintro en w7 ⟨rfl, hb7⟩
  have hB7 : Below w.heap.size w w7 := hB6.trans (hb7.mono hB6.size)
  have hM1 := HK1.out.keep hb7
  have hM2 := HK2.out.keep hb7
  have hM3 := HK3.out.keep hb7
  have hM4 := HK4.out.keep hb7
  clear HK1 HK2 HK3 HK4
  have HK1 := Lib.hid hM1
  clear hM1
  have HK2 := Lib.hid hM2
  clear hM2
  have HK3 := Lib.hid hM3
  clear hM3
  have HK4 := Lib.hid hM4
  clear hM4
  clear hb7 hB6
  have HSO := Lib.hid (sums_of _ s r _ HK3.out)
  unfold FrOut FrV at HSO
  go_wp2_with fail
  refine HSO.out.mono ?_
  rintro en w8 ⟨rfl, hb8⟩
  have hB8 : Below w.heap.size w w8 := hB7.trans (hb8.mono hB7.size)
  have hM1 := HK1.out.keep hb8
  have hM2 := HK2.out.keep hb8
  have hM3 := HK3.out.keep hb8
  have hM4 := HK4.out.keep hb8
  clear HK1 HK2 HK3 HK4
  have HK1 := Lib.hid hM1
  clear hM1
  have HK2 := Lib.hid hM2
  clear hM2
  have HK3 := Lib.hid hM3
  clear hM3
  have HK4 := Lib.hid hM4
  clear hM4
  clear hb8 hB7 HSO
  obtain ⟨W9, hW9, hR5, hBl9, hsz9⟩ := box1T 24 w8 (.string s) (.string r)
  have hB9 : Below w.heap.size w W9 := hB8.trans (hBl9.mono hB8.size)
  have HW9 := Lib.hid hW9
  have hM1 := HK1.out.keep hBl9
  have hM2 := HK2.out.keep hBl9
  have hM3 := HK3.out.keep hBl9
  have hM4 := HK4.out.keep hBl9
  clear HK1 HK2 HK3 HK4
  have HK1 := Lib.hid hM1
  clear hM1
  have HK2 := Lib.hid hM2
  clear hM2
  have HK3 := Lib.hid hM3
  clear hM3
  have HK4 := Lib.hid hM4
  clear hM4
  have HK5 := Lib.hid hR5
  clear hR5 hW9 hBl9 hsz9 hB8
  have x10 := HK1.out.c0; have x11 := HK1.out.c1
  have x20 := HK2.out.c0; have x21 := HK2.out.c1
  rw [HW9.out] at x10 x11 x20 x21
  go_wp2_with fail
  rw [← HW9.out]
  clear x10 x11 x20 x21
  refine (HC1.out _ (HT.out.keep hB9)).mono ?_
  rintro en w10 ⟨rfl, hb10⟩
  have hB10 : Below w.heap.size w w10 := hB9.trans (hb10.mono hB9.size)
  have hM1 := HK1.out.keep hb10
  have hM2 := HK2.out.keep hb10
  have hM3 := HK3.out.keep hb10
  have hM4 := HK4.out.keep hb10
  have hM5 := HK5.out.keep hb10
  clear HK1 HK2 HK3 HK4 HK5
  have HK1 := Lib.hid hM1
  clear hM1
  have HK2 := Lib.hid hM2
  clear hM2
  have HK3 := Lib.hid hM3
  clear hM3
  have HK4 := Lib.hid hM4
  clear hM4
  have HK5 := Lib.hid hM5
  clear hM5
  clear hb10 hB9
  have x40 := HK4.out.c0; have x41 := HK4.out.c1
  go_wp2_with fail
  clear x40 x41
  refine (HSg.out _ ).mono ?_
  rintro en w11 ⟨rfl, hb11⟩
  have hB11 : Below w.heap.size w w11 := hB10.trans (hb11.mono hB10.size)
  have hM1 := HK1.out.keep hb11
  have hM2 := HK2.out.keep hb11
  have hM3 := HK3.out.keep hb11
  have hM4 := HK4.out.keep hb11
  have hM5 := HK5.out.keep hb11
  clear HK1 HK2 HK3 HK4 HK5
  have HK1 := Lib.hid hM1
  clear hM1
  have HK2 := Lib.hid hM2
  clear hM2
  have HK3 := Lib.hid hM3
  clear hM3
  have HK4 := Lib.hid hM4
  clear hM4
  have HK5 := Lib.hid hM5
  clear hM5
  clear hb11 hB10
  have x10 := HK1.out.c0; have x11 := HK1.out.c1
  have x20 := HK2.out.c0; have x21 := HK2.out.c1
  go_wp2_with fail
  clear x10 x11 x20 x21
  refine (HC2.out _ (HT.out.keep hB11)).mono ?_
  rintro en w12 ⟨rfl, hb12⟩
  have hB12 : Below w.heap.size w w12 := hB11.trans (hb12.mono hB11.size)
  have hM1 := HK1.out.keep hb12
  have hM2 := HK2.out.keep hb12
  have hM3 := HK3.out.keep hb12
  have hM4 := HK4.out.keep hb12
  have hM5 := HK5.out.keep hb12
  clear HK1 HK2 HK3 HK4 HK5
  have HK1 := Lib.hid hM1
  clear hM1
  have HK2 := Lib.hid hM2
  clear hM2
  have HK3 := Lib.hid hM3
  clear hM3
  have HK4 := Lib.hid hM4
  clear hM4
  have HK5 := Lib.hid hM5
  clear hM5
  clear hb12 hB11
  have x10 := HK1.out.c0; have x11 := HK1.out.c1; have x20 := HK2.out.c0; have x21 := HK2.out.c1; have x30 := HK3.out.c0; have x50 := HK5.out.c0; have x51 := HK5.out.c1
  go_wp2_with fail
  refine (HDv.out _ (HT.out.keep hB12)).mono ?_
  rintro en w13 ⟨rfl, hb13⟩
  have hB13 : Below w.heap.size w w13 := hB12.trans (hb13.mono hB12.size)
  have hM1 := HK1.out.keep hb13
  have hM2 := HK2.out.keep hb13
  have hM3 := HK3.out.keep hb13
  have hM4 := HK4.out.keep hb13
  have hM5 := HK5.out.keep hb13
  clear HK1 HK2 HK3 HK4 HK5
  have HK1 := Lib.hid hM1
  clear hM1
  have HK2 := Lib.hid hM2
  clear hM2
  have HK3 := Lib.hid hM3
  clear hM3
  have HK4 := Lib.hid hM4
  clear hM4
  have HK5 := Lib.hid hM5
  clear hM5
  clear hb13 hB12
  clear x10 x11 x20 x21 x30 x50 x51
  obtain ⟨W14, hW14, hR6, hBl14, hsz14⟩ := box1T 24 w13 (.string U) (.string V)
  have hB14 : Below w.heap.size w W14 := hB13.trans (hBl14.mono hB13.size)
  have HW14 := Lib.hid hW14
  have hM1 := HK1.out.keep hBl14
  have hM2 := HK2.out.keep hBl14
  have hM3 := HK3.out.keep hBl14
  have hM4 := HK4.out.keep hBl14
  have hM5 := HK5.out.keep hBl14
  clear HK1 HK2 HK3 HK4 HK5
  have HK1 := Lib.hid hM1
  clear hM1
  have HK2 := Lib.hid hM2
  clear hM2
  have HK3 := Lib.hid hM3
  clear hM3
  have HK4 := Lib.hid hM4
  clear hM4
  have HK5 := Lib.hid hM5
  clear hM5
  have HK6 := Lib.hid hR6
  clear hR6 hW14 hBl14 hsz14 hB13
  have x20 := HK2.out.c0; have x21 := HK2.out.c1
  have x60 := HK6.out.c0; have x61 := HK6.out.c1
  rw [HW14.out] at x20 x21 x60 x61
  go_wp2_with fail
  rw [← HW14.out]
  clear x20 x21 x60 x61
  refine (HMul.out _ (HT.out.keep hB14)).mono ?_
  rintro en w15 ⟨rfl, hb15⟩
  have hB15 : Below w.heap.size w w15 := hB14.trans (hb15.mono hB14.size)
  have hM1 := HK1.out.keep hb15
  have hM2 := HK2.out.keep hb15
  have hM3 := HK3.out.keep hb15
  have hM4 := HK4.out.keep hb15
  have hM5 := HK5.out.keep hb15
  have hM6 := HK6.out.keep hb15
  clear HK1 HK2 HK3 HK4 HK5 HK6
  have HK1 := Lib.hid hM1
  clear hM1
  have HK2 := Lib.hid hM2
  clear hM2
  have HK3 := Lib.hid hM3
  clear hM3
  have HK4 := Lib.hid hM4
  clear hM4
  have HK5 := Lib.hid hM5
  clear hM5
  have HK6 := Lib.hid hM6
  clear hM6
  clear hb15 hB14
  obtain ⟨W16, hW16, hR7, hBl16, hsz16⟩ := box1T 24 w15 (.string s) (.string r)
  have hB16 : Below w.heap.size w W16 := hB15.trans (hBl16.mono hB15.size)
  have HW16 := Lib.hid hW16
  have hM1 := HK1.out.keep hBl16
  have hM2 := HK2.out.keep hBl16
  have hM3 := HK3.out.keep hBl16
  have hM4 := HK4.out.keep hBl16
  have hM5 := HK5.out.keep hBl16
  have hM6 := HK6.out.keep hBl16
  clear HK1 HK2 HK3 HK4 HK5 HK6
  have HK1 := Lib.hid hM1
  clear hM1
  have HK2 := Lib.hid hM2
  clear hM2
  have HK3 := Lib.hid hM3
  clear hM3
  have HK4 := Lib.hid hM4
  clear hM4
  have HK5 := Lib.hid hM5
  clear hM5
  have HK6 := Lib.hid hM6
  clear hM6
  have HK7 := Lib.hid hR7
  clear hR7 hW16 hBl16 hsz16 hB15
  have x10 := HK1.out.c0; have x11 := HK1.out.c1
  have x70 := HK7.out.c0; have x71 := HK7.out.c1
  rw [HW16.out] at x10 x11 x70 x71
  go_wp2_with fail
  rw [← HW16.out]
  clear x10 x11 x70 x71
  refine (HA.out _ (HT.out.keep hB16) (HC.out.keep hB16)).mono ?_
  rintro en w17 ⟨rfl, hb17⟩
  have hB17 : Below w.heap.size w w17 := hB16.trans (hb17.mono hB16.size)
  have hM1 := HK1.out.keep hb17
  have hM2 := HK2.out.keep hb17
  have hM3 := HK3.out.keep hb17
  have hM4 := HK4.out.keep hb17
  have hM5 := HK5.out.keep hb17
  have hM6 := HK6.out.keep hb17
  have hM7 := HK7.out.keep hb17
  clear HK1 HK2 HK3 HK4 HK5 HK6 HK7
  have HK1 := Lib.hid hM1
  clear hM1
  have HK2 := Lib.hid hM2
  clear hM2
  have HK3 := Lib.hid hM3
  clear hM3
  have HK4 := Lib.hid hM4
  clear hM4
  have HK5 := Lib.hid hM5
  clear hM5
  have HK6 := Lib.hid hM6
  clear hM6
  have HK7 := Lib.hid hM7
  clear hM7
  clear hb17 hB16
  go_wp2
  go_ret
  exact ⟨rfl, hB17⟩

set_option maxHeartbeats 6400000 in
set_option maxRecDepth 100000 in
theorem undoes_nr0 (s r r' P Q : ByteArray) (hE : (r.toList == r'.toList) = false) (hz : (s.toList == [48]) = true)
    (HR1 : Hid (∀ w, Calls Tryz.prog 40 #[FrV s r] w fun e w' => e = .returned (.bool true) ∧ Below w.heap.size w w'))
    (HR2 : Hid (∀ w, Calls Tryz.prog 40 #[FrV s r'] w fun e w' => e = .returned (.bool true) ∧ Below w.heap.size w w'))
    (HSub : Hid (∀ w, Tab w → Calls Tryz.prog 29 #[FrV s r, FrV s r'] w (FrE w P Q 0)))
    (HAdd : Hid (∀ w, Tab w → Calls Tryz.prog 27 #[FrV P Q, FrV s r'] w (FrE w s r 0)))
    (HC1 : Hid (∀ w, Tab w → Calls Tryz.prog 35 #[FrV s r, FrV s r'] w (IntOut w (-1) 0)))
    (HSg : Hid (∀ w, Calls Tryz.prog 45 #[.string P] w (IntOut w (-1) 0)))
    (HC2 : Hid (∀ w, Tab w → Calls Tryz.prog 35 #[FrV s r', FrV s r] w (IntOut w 1 0)))
    (HDv : Hid (∀ w, Tab w → Calls Tryz.prog 33 #[FrV s r, FrV s r'] w (FrE w ⟨#[]⟩ ⟨#[]⟩ 10)))
    (w : World) (hT : Tab w) (hC : CutT w) : Calls Tryz.prog 8 #[FrV s r, FrV s r'] w fun e w' => e = .returned (.bool true) ∧ Below w.heap.size w w' := by
  have HT := Lib.hid hT
  have HC := Lib.hid hC
  have HA := Lib.hid fawake
  clear hT hC
  unfold FrE at HSub HAdd HDv
  unfold IntOut at HC1 HSg HC2
  unfold FrV at *
  go_enter Tryz.func8, Tryz.ntmps8
  obtain ⟨W0, hW0, hR1, hR2, hBl0, hsz0⟩ := box2T 24 w (.string s) (.string r) (.string s) (.string r')
  have HW0 := Lib.hid hW0
  have HK1 := Lib.hid hR1
  have HK2 := Lib.hid hR2
  have hB0 : Below w.heap.size w W0 := hBl0
  clear hR1 hR2 hBl0 hW0
  clear hsz0
  have x10 := HK1.out.c0; have x11 := HK1.out.c1
  rw [HW0.out] at x10 x11
  go_wp2_with fail
  rw [← HW0.out]
  clear x10 x11
  refine (HR1.out _ ).mono ?_
  rintro en w1 ⟨rfl, hb1⟩
  have hB1 : Below w.heap.size w w1 := hB0.trans (hb1.mono hB0.size)
  have hM1 := HK1.out.keep hb1
  have hM2 := HK2.out.keep hb1
  clear HK1 HK2
  have HK1 := Lib.hid hM1
  clear hM1
  have HK2 := Lib.hid hM2
  clear hM2
  clear hb1 hB0
  have x20 := HK2.out.c0; have x21 := HK2.out.c1
  go_wp2_with fail
  clear x20 x21
  refine (HR2.out _ ).mono ?_
  rintro en w2 ⟨rfl, hb2⟩
  have hB2 : Below w.heap.size w w2 := hB1.trans (hb2.mono hB1.size)
  have hM1 := HK1.out.keep hb2
  have hM2 := HK2.out.keep hb2
  clear HK1 HK2
  have HK1 := Lib.hid hM1
  clear hM1
  have HK2 := Lib.hid hM2
  clear hM2
  clear hb2 hB1
  obtain ⟨W3, hW3, hR3, hBl3, hsz3⟩ := one1T 63 w2 (.bool true)
  have hB3 : Below w.heap.size w W3 := hB2.trans (hBl3.mono hB2.size)
  have HW3 := Lib.hid hW3
  have hM1 := HK1.out.keep hBl3
  have hM2 := HK2.out.keep hBl3
  clear HK1 HK2
  have HK1 := Lib.hid hM1
  clear hM1
  have HK2 := Lib.hid hM2
  clear hM2
  have HK3 := Lib.hid hR3
  clear hR3 hW3 hBl3 hsz3 hB2
  have x10 := HK1.out.c0; have x11 := HK1.out.c1
  have x20 := HK2.out.c0; have x21 := HK2.out.c1
  rw [HW3.out] at x10 x11 x20 x21
  go_wp2_with fail
  rw [← HW3.out]
  clear x10 x11 x20 x21
  refine (HSub.out _ (HT.out.keep hB3)).mono ?_
  rintro en w4 ⟨rfl, hb4⟩
  have hB4 : Below w.heap.size w w4 := hB3.trans (hb4.mono hB3.size)
  have hM1 := HK1.out.keep hb4
  have hM2 := HK2.out.keep hb4
  have hM3 := HK3.out.keep hb4
  clear HK1 HK2 HK3
  have HK1 := Lib.hid hM1
  clear hM1
  have HK2 := Lib.hid hM2
  clear hM2
  have HK3 := Lib.hid hM3
  clear hM3
  clear hb4 hB3
  have HSO := Lib.hid (sums_of _ P Q _ HK3.out)
  unfold FrOut FrV at HSO
  go_wp2_with fail
  refine HSO.out.mono ?_
  rintro en w5 ⟨rfl, hb5⟩
  have hB5 : Below w.heap.size w w5 := hB4.trans (hb5.mono hB4.size)
  have hM1 := HK1.out.keep hb5
  have hM2 := HK2.out.keep hb5
  have hM3 := HK3.out.keep hb5
  clear HK1 HK2 HK3
  have HK1 := Lib.hid hM1
  clear hM1
  have HK2 := Lib.hid hM2
  clear hM2
  have HK3 := Lib.hid hM3
  clear hM3
  clear hb5 hB4 HSO
  obtain ⟨W6, hW6, hR4, hBl6, hsz6⟩ := box1T 24 w5 (.string P) (.string Q)
  have hB6 : Below w.heap.size w W6 := hB5.trans (hBl6.mono hB5.size)
  have HW6 := Lib.hid hW6
  have hM1 := HK1.out.keep hBl6
  have hM2 := HK2.out.keep hBl6
  have hM3 := HK3.out.keep hBl6
  clear HK1 HK2 HK3
  have HK1 := Lib.hid hM1
  clear hM1
  have HK2 := Lib.hid hM2
  clear hM2
  have HK3 := Lib.hid hM3
  clear hM3
  have HK4 := Lib.hid hR4
  clear hR4 hW6 hBl6 hsz6 hB5
  have x40 := HK4.out.c0; have x41 := HK4.out.c1
  have x20 := HK2.out.c0; have x21 := HK2.out.c1
  rw [HW6.out] at x40 x41 x20 x21
  go_wp2_with fail
  rw [← HW6.out]
  clear x40 x41 x20 x21
  refine (HAdd.out _ (HT.out.keep hB6)).mono ?_
  rintro en w7 ⟨rfl, hb7⟩
  have hB7 : Below w.heap.size w w7 := hB6.trans (hb7.mono hB6.size)
  have hM1 := HK1.out.keep hb7
  have hM2 := HK2.out.keep hb7
  have hM3 := HK3.out.keep hb7
  have hM4 := HK4.out.keep hb7
  clear HK1 HK2 HK3 HK4
  have HK1 := Lib.hid hM1
  clear hM1
  have HK2 := Lib.hid hM2
  clear hM2
  have HK3 := Lib.hid hM3
  clear hM3
  have HK4 := Lib.hid hM4
  clear hM4
  clear hb7 hB6
  have HSO := Lib.hid (sums_of _ s r _ HK3.out)
  unfold FrOut FrV at HSO
  go_wp2_with fail
  refine HSO.out.mono ?_
  rintro en w8 ⟨rfl, hb8⟩
  have hB8 : Below w.heap.size w w8 := hB7.trans (hb8.mono hB7.size)
  have hM1 := HK1.out.keep hb8
  have hM2 := HK2.out.keep hb8
  have hM3 := HK3.out.keep hb8
  have hM4 := HK4.out.keep hb8
  clear HK1 HK2 HK3 HK4
  have HK1 := Lib.hid hM1
  clear hM1
  have HK2 := Lib.hid hM2
  clear hM2
  have HK3 := Lib.hid hM3
  clear hM3
  have HK4 := Lib.hid hM4
  clear hM4
  clear hb8 hB7 HSO
  obtain ⟨W9, hW9, hR5, hBl9, hsz9⟩ := box1T 24 w8 (.string s) (.string r)
  have hB9 : Below w.heap.size w W9 := hB8.trans (hBl9.mono hB8.size)
  have HW9 := Lib.hid hW9
  have hM1 := HK1.out.keep hBl9
  have hM2 := HK2.out.keep hBl9
  have hM3 := HK3.out.keep hBl9
  have hM4 := HK4.out.keep hBl9
  clear HK1 HK2 HK3 HK4
  have HK1 := Lib.hid hM1
  clear hM1
  have HK2 := Lib.hid hM2
  clear hM2
  have HK3 := Lib.hid hM3
  clear hM3
  have HK4 := Lib.hid hM4
  clear hM4
  have HK5 := Lib.hid hR5
  clear hR5 hW9 hBl9 hsz9 hB8
  have x10 := HK1.out.c0; have x11 := HK1.out.c1
  have x20 := HK2.out.c0; have x21 := HK2.out.c1
  rw [HW9.out] at x10 x11 x20 x21
  go_wp2_with fail
  rw [← HW9.out]
  clear x10 x11 x20 x21
  refine (HC1.out _ (HT.out.keep hB9)).mono ?_
  rintro en w10 ⟨rfl, hb10⟩
  have hB10 : Below w.heap.size w w10 := hB9.trans (hb10.mono hB9.size)
  have hM1 := HK1.out.keep hb10
  have hM2 := HK2.out.keep hb10
  have hM3 := HK3.out.keep hb10
  have hM4 := HK4.out.keep hb10
  have hM5 := HK5.out.keep hb10
  clear HK1 HK2 HK3 HK4 HK5
  have HK1 := Lib.hid hM1
  clear hM1
  have HK2 := Lib.hid hM2
  clear hM2
  have HK3 := Lib.hid hM3
  clear hM3
  have HK4 := Lib.hid hM4
  clear hM4
  have HK5 := Lib.hid hM5
  clear hM5
  clear hb10 hB9
  have x40 := HK4.out.c0; have x41 := HK4.out.c1
  go_wp2_with fail
  clear x40 x41
  refine (HSg.out _ ).mono ?_
  rintro en w11 ⟨rfl, hb11⟩
  have hB11 : Below w.heap.size w w11 := hB10.trans (hb11.mono hB10.size)
  have hM1 := HK1.out.keep hb11
  have hM2 := HK2.out.keep hb11
  have hM3 := HK3.out.keep hb11
  have hM4 := HK4.out.keep hb11
  have hM5 := HK5.out.keep hb11
  clear HK1 HK2 HK3 HK4 HK5
  have HK1 := Lib.hid hM1
  clear hM1
  have HK2 := Lib.hid hM2
  clear hM2
  have HK3 := Lib.hid hM3
  clear hM3
  have HK4 := Lib.hid hM4
  clear hM4
  have HK5 := Lib.hid hM5
  clear hM5
  clear hb11 hB10
  have x10 := HK1.out.c0; have x11 := HK1.out.c1
  have x20 := HK2.out.c0; have x21 := HK2.out.c1
  go_wp2_with fail
  clear x10 x11 x20 x21
  refine (HC2.out _ (HT.out.keep hB11)).mono ?_
  rintro en w12 ⟨rfl, hb12⟩
  have hB12 : Below w.heap.size w w12 := hB11.trans (hb12.mono hB11.size)
  have hM1 := HK1.out.keep hb12
  have hM2 := HK2.out.keep hb12
  have hM3 := HK3.out.keep hb12
  have hM4 := HK4.out.keep hb12
  have hM5 := HK5.out.keep hb12
  clear HK1 HK2 HK3 HK4 HK5
  have HK1 := Lib.hid hM1
  clear hM1
  have HK2 := Lib.hid hM2
  clear hM2
  have HK3 := Lib.hid hM3
  clear hM3
  have HK4 := Lib.hid hM4
  clear hM4
  have HK5 := Lib.hid hM5
  clear hM5
  clear hb12 hB11
  have x10 := HK1.out.c0; have x11 := HK1.out.c1; have x20 := HK2.out.c0; have x21 := HK2.out.c1; have x30 := HK3.out.c0; have x50 := HK5.out.c0; have x51 := HK5.out.c1
  go_wp2_with fail
  refine (HDv.out _ (HT.out.keep hB12)).mono ?_
  rintro en w13 ⟨rfl, hb13⟩
  have hB13 : Below w.heap.size w w13 := hB12.trans (hb13.mono hB12.size)
  have hM1 := HK1.out.keep hb13
  have hM2 := HK2.out.keep hb13
  have hM3 := HK3.out.keep hb13
  have hM4 := HK4.out.keep hb13
  have hM5 := HK5.out.keep hb13
  clear HK1 HK2 HK3 HK4 HK5
  have HK1 := Lib.hid hM1
  clear hM1
  have HK2 := Lib.hid hM2
  clear hM2
  have HK3 := Lib.hid hM3
  clear hM3
  have HK4 := Lib.hid hM4
  clear hM4
  have HK5 := Lib.hid hM5
  clear hM5
  clear hb13 hB12
  clear x10 x11 x20 x21 x30 x50 x51
  obtain ⟨W14, hW14, hR6, hBl14, hsz14⟩ := box1T 24 w13 (.string ⟨#[]⟩) (.string ⟨#[]⟩)
  have hB14 : Below w.heap.size w W14 := hB13.trans (hBl14.mono hB13.size)
  have HW14 := Lib.hid hW14
  have hM1 := HK1.out.keep hBl14
  have hM2 := HK2.out.keep hBl14
  have hM3 := HK3.out.keep hBl14
  have hM4 := HK4.out.keep hBl14
  have hM5 := HK5.out.keep hBl14
  clear HK1 HK2 HK3 HK4 HK5
  have HK1 := Lib.hid hM1
  clear hM1
  have HK2 := Lib.hid hM2
  clear hM2
  have HK3 := Lib.hid hM3
  clear hM3
  have HK4 := Lib.hid hM4
  clear hM4
  have HK5 := Lib.hid hM5
  clear hM5
  have HK6 := Lib.hid hR6
  clear hR6 hW14 hBl14 hsz14 hB13
  have x20 := HK2.out.c0; have x21 := HK2.out.c1
  rw [HW14.out] at x20 x21
  go_wp2_with fail
  rw [← HW14.out]
  clear x20 x21
  refine (HA.out _ (HT.out.keep hB14) (HC.out.keep hB14)).mono ?_
  rintro en w15 ⟨rfl, hb15⟩
  have hB15 : Below w.heap.size w w15 := hB14.trans (hb15.mono hB14.size)
  have hM1 := HK1.out.keep hb15
  have hM2 := HK2.out.keep hb15
  have hM3 := HK3.out.keep hb15
  have hM4 := HK4.out.keep hb15
  have hM5 := HK5.out.keep hb15
  have hM6 := HK6.out.keep hb15
  clear HK1 HK2 HK3 HK4 HK5 HK6
  have HK1 := Lib.hid hM1
  clear hM1
  have HK2 := Lib.hid hM2
  clear hM2
  have HK3 := Lib.hid hM3
  clear hM3
  have HK4 := Lib.hid hM4
  clear hM4
  have HK5 := Lib.hid hM5
  clear hM5
  have HK6 := Lib.hid hM6
  clear hM6
  clear hb15 hB14
  go_wp2
  go_ret
  exact ⟨rfl, hB15⟩

set_option maxHeartbeats 6400000 in
set_option maxRecDepth 100000 in
theorem undoes_nr1 (s r r' P Q U V : ByteArray) (hE : (r.toList == r'.toList) = false) (hz : (s.toList == [48]) = false)
    (HR1 : Hid (∀ w, Calls Tryz.prog 40 #[FrV s r] w fun e w' => e = .returned (.bool true) ∧ Below w.heap.size w w'))
    (HR2 : Hid (∀ w, Calls Tryz.prog 40 #[FrV s r'] w fun e w' => e = .returned (.bool true) ∧ Below w.heap.size w w'))
    (HSub : Hid (∀ w, Tab w → Calls Tryz.prog 29 #[FrV s r, FrV s r'] w (FrE w P Q 0)))
    (HAdd : Hid (∀ w, Tab w → Calls Tryz.prog 27 #[FrV P Q, FrV s r'] w (FrE w s r 0)))
    (HC1 : Hid (∀ w, Tab w → Calls Tryz.prog 35 #[FrV s r, FrV s r'] w (IntOut w (-1) 0)))
    (HSg : Hid (∀ w, Calls Tryz.prog 45 #[.string P] w (IntOut w (-1) 0)))
    (HC2 : Hid (∀ w, Tab w → Calls Tryz.prog 35 #[FrV s r', FrV s r] w (IntOut w 1 0)))
    (HDv : Hid (∀ w, Tab w → Calls Tryz.prog 33 #[FrV s r, FrV s r'] w (FrE w U V 0)))
    (HMul : Hid (∀ w, Tab w → Calls Tryz.prog 31 #[FrV U V, FrV s r'] w (FrE w s r 0)))
    (w : World) (hT : Tab w) (hC : CutT w) : Calls Tryz.prog 8 #[FrV s r, FrV s r'] w fun e w' => e = .returned (.bool true) ∧ Below w.heap.size w w' := by
  have HT := Lib.hid hT
  have HC := Lib.hid hC
  have HA := Lib.hid fawake
  clear hT hC
  unfold FrE at HSub HAdd HDv HMul
  unfold IntOut at HC1 HSg HC2
  unfold FrV at *
  go_enter Tryz.func8, Tryz.ntmps8
  obtain ⟨W0, hW0, hR1, hR2, hBl0, hsz0⟩ := box2T 24 w (.string s) (.string r) (.string s) (.string r')
  have HW0 := Lib.hid hW0
  have HK1 := Lib.hid hR1
  have HK2 := Lib.hid hR2
  have hB0 : Below w.heap.size w W0 := hBl0
  clear hR1 hR2 hBl0 hW0
  clear hsz0
  have x10 := HK1.out.c0; have x11 := HK1.out.c1
  rw [HW0.out] at x10 x11
  go_wp2_with fail
  rw [← HW0.out]
  clear x10 x11
  refine (HR1.out _ ).mono ?_
  rintro en w1 ⟨rfl, hb1⟩
  have hB1 : Below w.heap.size w w1 := hB0.trans (hb1.mono hB0.size)
  have hM1 := HK1.out.keep hb1
  have hM2 := HK2.out.keep hb1
  clear HK1 HK2
  have HK1 := Lib.hid hM1
  clear hM1
  have HK2 := Lib.hid hM2
  clear hM2
  clear hb1 hB0
  have x20 := HK2.out.c0; have x21 := HK2.out.c1
  go_wp2_with fail
  clear x20 x21
  refine (HR2.out _ ).mono ?_
  rintro en w2 ⟨rfl, hb2⟩
  have hB2 : Below w.heap.size w w2 := hB1.trans (hb2.mono hB1.size)
  have hM1 := HK1.out.keep hb2
  have hM2 := HK2.out.keep hb2
  clear HK1 HK2
  have HK1 := Lib.hid hM1
  clear hM1
  have HK2 := Lib.hid hM2
  clear hM2
  clear hb2 hB1
  obtain ⟨W3, hW3, hR3, hBl3, hsz3⟩ := one1T 63 w2 (.bool true)
  have hB3 : Below w.heap.size w W3 := hB2.trans (hBl3.mono hB2.size)
  have HW3 := Lib.hid hW3
  have hM1 := HK1.out.keep hBl3
  have hM2 := HK2.out.keep hBl3
  clear HK1 HK2
  have HK1 := Lib.hid hM1
  clear hM1
  have HK2 := Lib.hid hM2
  clear hM2
  have HK3 := Lib.hid hR3
  clear hR3 hW3 hBl3 hsz3 hB2
  have x10 := HK1.out.c0; have x11 := HK1.out.c1
  have x20 := HK2.out.c0; have x21 := HK2.out.c1
  rw [HW3.out] at x10 x11 x20 x21
  go_wp2_with fail
  rw [← HW3.out]
  clear x10 x11 x20 x21
  refine (HSub.out _ (HT.out.keep hB3)).mono ?_
  rintro en w4 ⟨rfl, hb4⟩
  have hB4 : Below w.heap.size w w4 := hB3.trans (hb4.mono hB3.size)
  have hM1 := HK1.out.keep hb4
  have hM2 := HK2.out.keep hb4
  have hM3 := HK3.out.keep hb4
  clear HK1 HK2 HK3
  have HK1 := Lib.hid hM1
  clear hM1
  have HK2 := Lib.hid hM2
  clear hM2
  have HK3 := Lib.hid hM3
  clear hM3
  clear hb4 hB3
  have HSO := Lib.hid (sums_of _ P Q _ HK3.out)
  unfold FrOut FrV at HSO
  go_wp2_with fail
  refine HSO.out.mono ?_
  rintro en w5 ⟨rfl, hb5⟩
  have hB5 : Below w.heap.size w w5 := hB4.trans (hb5.mono hB4.size)
  have hM1 := HK1.out.keep hb5
  have hM2 := HK2.out.keep hb5
  have hM3 := HK3.out.keep hb5
  clear HK1 HK2 HK3
  have HK1 := Lib.hid hM1
  clear hM1
  have HK2 := Lib.hid hM2
  clear hM2
  have HK3 := Lib.hid hM3
  clear hM3
  clear hb5 hB4 HSO
  obtain ⟨W6, hW6, hR4, hBl6, hsz6⟩ := box1T 24 w5 (.string P) (.string Q)
  have hB6 : Below w.heap.size w W6 := hB5.trans (hBl6.mono hB5.size)
  have HW6 := Lib.hid hW6
  have hM1 := HK1.out.keep hBl6
  have hM2 := HK2.out.keep hBl6
  have hM3 := HK3.out.keep hBl6
  clear HK1 HK2 HK3
  have HK1 := Lib.hid hM1
  clear hM1
  have HK2 := Lib.hid hM2
  clear hM2
  have HK3 := Lib.hid hM3
  clear hM3
  have HK4 := Lib.hid hR4
  clear hR4 hW6 hBl6 hsz6 hB5
  have x40 := HK4.out.c0; have x41 := HK4.out.c1
  have x20 := HK2.out.c0; have x21 := HK2.out.c1
  rw [HW6.out] at x40 x41 x20 x21
  go_wp2_with fail
  rw [← HW6.out]
  clear x40 x41 x20 x21
  refine (HAdd.out _ (HT.out.keep hB6)).mono ?_
  rintro en w7 ⟨rfl, hb7⟩
  have hB7 : Below w.heap.size w w7 := hB6.trans (hb7.mono hB6.size)
  have hM1 := HK1.out.keep hb7
  have hM2 := HK2.out.keep hb7
  have hM3 := HK3.out.keep hb7
  have hM4 := HK4.out.keep hb7
  clear HK1 HK2 HK3 HK4
  have HK1 := Lib.hid hM1
  clear hM1
  have HK2 := Lib.hid hM2
  clear hM2
  have HK3 := Lib.hid hM3
  clear hM3
  have HK4 := Lib.hid hM4
  clear hM4
  clear hb7 hB6
  have HSO := Lib.hid (sums_of _ s r _ HK3.out)
  unfold FrOut FrV at HSO
  go_wp2_with fail
  refine HSO.out.mono ?_
  rintro en w8 ⟨rfl, hb8⟩
  have hB8 : Below w.heap.size w w8 := hB7.trans (hb8.mono hB7.size)
  have hM1 := HK1.out.keep hb8
  have hM2 := HK2.out.keep hb8
  have hM3 := HK3.out.keep hb8
  have hM4 := HK4.out.keep hb8
  clear HK1 HK2 HK3 HK4
  have HK1 := Lib.hid hM1
  clear hM1
  have HK2 := Lib.hid hM2
  clear hM2
  have HK3 := Lib.hid hM3
  clear hM3
  have HK4 := Lib.hid hM4
  clear hM4
  clear hb8 hB7 HSO
  obtain ⟨W9, hW9, hR5, hBl9, hsz9⟩ := box1T 24 w8 (.string s) (.string r)
  have hB9 : Below w.heap.size w W9 := hB8.trans (hBl9.mono hB8.size)
  have HW9 := Lib.hid hW9
  have hM1 := HK1.out.keep hBl9
  have hM2 := HK2.out.keep hBl9
  have hM3 := HK3.out.keep hBl9
  have hM4 := HK4.out.keep hBl9
  clear HK1 HK2 HK3 HK4
  have HK1 := Lib.hid hM1
  clear hM1
  have HK2 := Lib.hid hM2
  clear hM2
  have HK3 := Lib.hid hM3
  clear hM3
  have HK4 := Lib.hid hM4
  clear hM4
  have HK5 := Lib.hid hR5
  clear hR5 hW9 hBl9 hsz9 hB8
  have x10 := HK1.out.c0; have x11 := HK1.out.c1
  have x20 := HK2.out.c0; have x21 := HK2.out.c1
  rw [HW9.out] at x10 x11 x20 x21
  go_wp2_with fail
  rw [← HW9.out]
  clear x10 x11 x20 x21
  refine (HC1.out _ (HT.out.keep hB9)).mono ?_
  rintro en w10 ⟨rfl, hb10⟩
  have hB10 : Below w.heap.size w w10 := hB9.trans (hb10.mono hB9.size)
  have hM1 := HK1.out.keep hb10
  have hM2 := HK2.out.keep hb10
  have hM3 := HK3.out.keep hb10
  have hM4 := HK4.out.keep hb10
  have hM5 := HK5.out.keep hb10
  clear HK1 HK2 HK3 HK4 HK5
  have HK1 := Lib.hid hM1
  clear hM1
  have HK2 := Lib.hid hM2
  clear hM2
  have HK3 := Lib.hid hM3
  clear hM3
  have HK4 := Lib.hid hM4
  clear hM4
  have HK5 := Lib.hid hM5
  clear hM5
  clear hb10 hB9
  have x40 := HK4.out.c0; have x41 := HK4.out.c1
  go_wp2_with fail
  clear x40 x41
  refine (HSg.out _ ).mono ?_
  rintro en w11 ⟨rfl, hb11⟩
  have hB11 : Below w.heap.size w w11 := hB10.trans (hb11.mono hB10.size)
  have hM1 := HK1.out.keep hb11
  have hM2 := HK2.out.keep hb11
  have hM3 := HK3.out.keep hb11
  have hM4 := HK4.out.keep hb11
  have hM5 := HK5.out.keep hb11
  clear HK1 HK2 HK3 HK4 HK5
  have HK1 := Lib.hid hM1
  clear hM1
  have HK2 := Lib.hid hM2
  clear hM2
  have HK3 := Lib.hid hM3
  clear hM3
  have HK4 := Lib.hid hM4
  clear hM4
  have HK5 := Lib.hid hM5
  clear hM5
  clear hb11 hB10
  have x10 := HK1.out.c0; have x11 := HK1.out.c1
  have x20 := HK2.out.c0; have x21 := HK2.out.c1
  go_wp2_with fail
  clear x10 x11 x20 x21
  refine (HC2.out _ (HT.out.keep hB11)).mono ?_
  rintro en w12 ⟨rfl, hb12⟩
  have hB12 : Below w.heap.size w w12 := hB11.trans (hb12.mono hB11.size)
  have hM1 := HK1.out.keep hb12
  have hM2 := HK2.out.keep hb12
  have hM3 := HK3.out.keep hb12
  have hM4 := HK4.out.keep hb12
  have hM5 := HK5.out.keep hb12
  clear HK1 HK2 HK3 HK4 HK5
  have HK1 := Lib.hid hM1
  clear hM1
  have HK2 := Lib.hid hM2
  clear hM2
  have HK3 := Lib.hid hM3
  clear hM3
  have HK4 := Lib.hid hM4
  clear hM4
  have HK5 := Lib.hid hM5
  clear hM5
  clear hb12 hB11
  have x10 := HK1.out.c0; have x11 := HK1.out.c1; have x20 := HK2.out.c0; have x21 := HK2.out.c1; have x30 := HK3.out.c0; have x50 := HK5.out.c0; have x51 := HK5.out.c1
  go_wp2_with fail
  refine (HDv.out _ (HT.out.keep hB12)).mono ?_
  rintro en w13 ⟨rfl, hb13⟩
  have hB13 : Below w.heap.size w w13 := hB12.trans (hb13.mono hB12.size)
  have hM1 := HK1.out.keep hb13
  have hM2 := HK2.out.keep hb13
  have hM3 := HK3.out.keep hb13
  have hM4 := HK4.out.keep hb13
  have hM5 := HK5.out.keep hb13
  clear HK1 HK2 HK3 HK4 HK5
  have HK1 := Lib.hid hM1
  clear hM1
  have HK2 := Lib.hid hM2
  clear hM2
  have HK3 := Lib.hid hM3
  clear hM3
  have HK4 := Lib.hid hM4
  clear hM4
  have HK5 := Lib.hid hM5
  clear hM5
  clear hb13 hB12
  clear x10 x11 x20 x21 x30 x50 x51
  obtain ⟨W14, hW14, hR6, hBl14, hsz14⟩ := box1T 24 w13 (.string U) (.string V)
  have hB14 : Below w.heap.size w W14 := hB13.trans (hBl14.mono hB13.size)
  have HW14 := Lib.hid hW14
  have hM1 := HK1.out.keep hBl14
  have hM2 := HK2.out.keep hBl14
  have hM3 := HK3.out.keep hBl14
  have hM4 := HK4.out.keep hBl14
  have hM5 := HK5.out.keep hBl14
  clear HK1 HK2 HK3 HK4 HK5
  have HK1 := Lib.hid hM1
  clear hM1
  have HK2 := Lib.hid hM2
  clear hM2
  have HK3 := Lib.hid hM3
  clear hM3
  have HK4 := Lib.hid hM4
  clear hM4
  have HK5 := Lib.hid hM5
  clear hM5
  have HK6 := Lib.hid hR6
  clear hR6 hW14 hBl14 hsz14 hB13
  have x20 := HK2.out.c0; have x21 := HK2.out.c1
  have x60 := HK6.out.c0; have x61 := HK6.out.c1
  rw [HW14.out] at x20 x21 x60 x61
  go_wp2_with fail
  rw [← HW14.out]
  clear x20 x21 x60 x61
  refine (HMul.out _ (HT.out.keep hB14)).mono ?_
  rintro en w15 ⟨rfl, hb15⟩
  have hB15 : Below w.heap.size w w15 := hB14.trans (hb15.mono hB14.size)
  have hM1 := HK1.out.keep hb15
  have hM2 := HK2.out.keep hb15
  have hM3 := HK3.out.keep hb15
  have hM4 := HK4.out.keep hb15
  have hM5 := HK5.out.keep hb15
  have hM6 := HK6.out.keep hb15
  clear HK1 HK2 HK3 HK4 HK5 HK6
  have HK1 := Lib.hid hM1
  clear hM1
  have HK2 := Lib.hid hM2
  clear hM2
  have HK3 := Lib.hid hM3
  clear hM3
  have HK4 := Lib.hid hM4
  clear hM4
  have HK5 := Lib.hid hM5
  clear hM5
  have HK6 := Lib.hid hM6
  clear hM6
  clear hb15 hB14
  obtain ⟨W16, hW16, hR7, hBl16, hsz16⟩ := box1T 24 w15 (.string s) (.string r)
  have hB16 : Below w.heap.size w W16 := hB15.trans (hBl16.mono hB15.size)
  have HW16 := Lib.hid hW16
  have hM1 := HK1.out.keep hBl16
  have hM2 := HK2.out.keep hBl16
  have hM3 := HK3.out.keep hBl16
  have hM4 := HK4.out.keep hBl16
  have hM5 := HK5.out.keep hBl16
  have hM6 := HK6.out.keep hBl16
  clear HK1 HK2 HK3 HK4 HK5 HK6
  have HK1 := Lib.hid hM1
  clear hM1
  have HK2 := Lib.hid hM2
  clear hM2
  have HK3 := Lib.hid hM3
  clear hM3
  have HK4 := Lib.hid hM4
  clear hM4
  have HK5 := Lib.hid hM5
  clear hM5
  have HK6 := Lib.hid hM6
  clear hM6
  have HK7 := Lib.hid hR7
  clear hR7 hW16 hBl16 hsz16 hB15
  have x10 := HK1.out.c0; have x11 := HK1.out.c1
  have x70 := HK7.out.c0; have x71 := HK7.out.c1
  rw [HW16.out] at x10 x11 x70 x71
  go_wp2_with fail
  rw [← HW16.out]
  clear x10 x11 x70 x71
  refine (HA.out _ (HT.out.keep hB16) (HC.out.keep hB16)).mono ?_
  rintro en w17 ⟨rfl, hb17⟩
  have hB17 : Below w.heap.size w w17 := hB16.trans (hb17.mono hB16.size)
  have hM1 := HK1.out.keep hb17
  have hM2 := HK2.out.keep hb17
  have hM3 := HK3.out.keep hb17
  have hM4 := HK4.out.keep hb17
  have hM5 := HK5.out.keep hb17
  have hM6 := HK6.out.keep hb17
  have hM7 := HK7.out.keep hb17
  clear HK1 HK2 HK3 HK4 HK5 HK6 HK7
  have HK1 := Lib.hid hM1
  clear hM1
  have HK2 := Lib.hid hM2
  clear hM2
  have HK3 := Lib.hid hM3
  clear hM3
  have HK4 := Lib.hid hM4
  clear hM4
  have HK5 := Lib.hid hM5
  clear hM5
  have HK6 := Lib.hid hM6
  clear hM6
  have HK7 := Lib.hid hM7
  clear hM7
  clear hb17 hB16
  go_wp2
  go_ret
  exact ⟨rfl, hB17⟩

set_option maxHeartbeats 6400000 in
set_option maxRecDepth 100000 in
theorem undoes_z0 (s r P Q : ByteArray) (hz : (s.toList == [48]) = true)
    (HR1 : Hid (∀ w, Calls Tryz.prog 40 #[FrV s r] w fun e w' => e = .returned (.bool true) ∧ Below w.heap.size w w'))
    (HR2 : Hid (∀ w, Calls Tryz.prog 40 #[FrV s r] w fun e w' => e = .returned (.bool true) ∧ Below w.heap.size w w'))
    (HSub : Hid (∀ w, Tab w → Calls Tryz.prog 29 #[FrV s r, FrV s r] w (FrE w P Q 0)))
    (HAdd : Hid (∀ w, Tab w → Calls Tryz.prog 27 #[FrV P Q, FrV s r] w (FrE w s r 0)))
    (HC1 : Hid (∀ w, Tab w → Calls Tryz.prog 35 #[FrV s r, FrV s r] w (IntOut w 0 0)))
    (HSg : Hid (∀ w, Calls Tryz.prog 45 #[.string P] w (IntOut w 0 0)))
    (HC2 : Hid (∀ w, Tab w → Calls Tryz.prog 35 #[FrV s r, FrV s r] w (IntOut w 0 0)))
    (HDv : Hid (∀ w, Tab w → Calls Tryz.prog 33 #[FrV s r, FrV s r] w (FrE w ⟨#[]⟩ ⟨#[]⟩ 10)))
    (w : World) (hT : Tab w) (hC : CutT w) : Calls Tryz.prog 8 #[FrV s r, FrV s r] w fun e w' => e = .returned (.bool true) ∧ Below w.heap.size w w' := by
  have HT := Lib.hid hT
  have HC := Lib.hid hC
  have HA := Lib.hid fawake
  clear hT hC
  unfold FrE at HSub HAdd HDv
  unfold IntOut at HC1 HSg HC2
  unfold FrV at *
  go_enter Tryz.func8, Tryz.ntmps8
  obtain ⟨W0, hW0, hR1, hR2, hBl0, hsz0⟩ := box2T 24 w (.string s) (.string r) (.string s) (.string r)
  have HW0 := Lib.hid hW0
  have HK1 := Lib.hid hR1
  have HK2 := Lib.hid hR2
  have hB0 : Below w.heap.size w W0 := hBl0
  clear hR1 hR2 hBl0 hW0
  clear hsz0
  have x10 := HK1.out.c0; have x11 := HK1.out.c1
  rw [HW0.out] at x10 x11
  go_wp2_with fail
  rw [← HW0.out]
  clear x10 x11
  refine (HR1.out _ ).mono ?_
  rintro en w1 ⟨rfl, hb1⟩
  have hB1 : Below w.heap.size w w1 := hB0.trans (hb1.mono hB0.size)
  have hM1 := HK1.out.keep hb1
  have hM2 := HK2.out.keep hb1
  clear HK1 HK2
  have HK1 := Lib.hid hM1
  clear hM1
  have HK2 := Lib.hid hM2
  clear hM2
  clear hb1 hB0
  have x20 := HK2.out.c0; have x21 := HK2.out.c1
  go_wp2_with fail
  clear x20 x21
  refine (HR2.out _ ).mono ?_
  rintro en w2 ⟨rfl, hb2⟩
  have hB2 : Below w.heap.size w w2 := hB1.trans (hb2.mono hB1.size)
  have hM1 := HK1.out.keep hb2
  have hM2 := HK2.out.keep hb2
  clear HK1 HK2
  have HK1 := Lib.hid hM1
  clear hM1
  have HK2 := Lib.hid hM2
  clear hM2
  clear hb2 hB1
  obtain ⟨W3, hW3, hR3, hBl3, hsz3⟩ := one1T 63 w2 (.bool true)
  have hB3 : Below w.heap.size w W3 := hB2.trans (hBl3.mono hB2.size)
  have HW3 := Lib.hid hW3
  have hM1 := HK1.out.keep hBl3
  have hM2 := HK2.out.keep hBl3
  clear HK1 HK2
  have HK1 := Lib.hid hM1
  clear hM1
  have HK2 := Lib.hid hM2
  clear hM2
  have HK3 := Lib.hid hR3
  clear hR3 hW3 hBl3 hsz3 hB2
  have x10 := HK1.out.c0; have x11 := HK1.out.c1
  have x20 := HK2.out.c0; have x21 := HK2.out.c1
  rw [HW3.out] at x10 x11 x20 x21
  go_wp2_with fail
  rw [← HW3.out]
  clear x10 x11 x20 x21
  refine (HSub.out _ (HT.out.keep hB3)).mono ?_
  rintro en w4 ⟨rfl, hb4⟩
  have hB4 : Below w.heap.size w w4 := hB3.trans (hb4.mono hB3.size)
  have hM1 := HK1.out.keep hb4
  have hM2 := HK2.out.keep hb4
  have hM3 := HK3.out.keep hb4
  clear HK1 HK2 HK3
  have HK1 := Lib.hid hM1
  clear hM1
  have HK2 := Lib.hid hM2
  clear hM2
  have HK3 := Lib.hid hM3
  clear hM3
  clear hb4 hB3
  have HSO := Lib.hid (sums_of _ P Q _ HK3.out)
  unfold FrOut FrV at HSO
  go_wp2_with fail
  refine HSO.out.mono ?_
  rintro en w5 ⟨rfl, hb5⟩
  have hB5 : Below w.heap.size w w5 := hB4.trans (hb5.mono hB4.size)
  have hM1 := HK1.out.keep hb5
  have hM2 := HK2.out.keep hb5
  have hM3 := HK3.out.keep hb5
  clear HK1 HK2 HK3
  have HK1 := Lib.hid hM1
  clear hM1
  have HK2 := Lib.hid hM2
  clear hM2
  have HK3 := Lib.hid hM3
  clear hM3
  clear hb5 hB4 HSO
  obtain ⟨W6, hW6, hR4, hBl6, hsz6⟩ := box1T 24 w5 (.string P) (.string Q)
  have hB6 : Below w.heap.size w W6 := hB5.trans (hBl6.mono hB5.size)
  have HW6 := Lib.hid hW6
  have hM1 := HK1.out.keep hBl6
  have hM2 := HK2.out.keep hBl6
  have hM3 := HK3.out.keep hBl6
  clear HK1 HK2 HK3
  have HK1 := Lib.hid hM1
  clear hM1
  have HK2 := Lib.hid hM2
  clear hM2
  have HK3 := Lib.hid hM3
  clear hM3
  have HK4 := Lib.hid hR4
  clear hR4 hW6 hBl6 hsz6 hB5
  have x40 := HK4.out.c0; have x41 := HK4.out.c1
  have x20 := HK2.out.c0; have x21 := HK2.out.c1
  rw [HW6.out] at x40 x41 x20 x21
  go_wp2_with fail
  rw [← HW6.out]
  clear x40 x41 x20 x21
  refine (HAdd.out _ (HT.out.keep hB6)).mono ?_
  rintro en w7 ⟨rfl, hb7⟩
  have hB7 : Below w.heap.size w w7 := hB6.trans (hb7.mono hB6.size)
  have hM1 := HK1.out.keep hb7
  have hM2 := HK2.out.keep hb7
  have hM3 := HK3.out.keep hb7
  have hM4 := HK4.out.keep hb7
  clear HK1 HK2 HK3 HK4
  have HK1 := Lib.hid hM1
  clear hM1
  have HK2 := Lib.hid hM2
  clear hM2
  have HK3 := Lib.hid hM3
  clear hM3
  have HK4 := Lib.hid hM4
  clear hM4
  clear hb7 hB6
  have HSO := Lib.hid (sums_of _ s r _ HK3.out)
  unfold FrOut FrV at HSO
  go_wp2_with fail
  refine HSO.out.mono ?_
  rintro en w8 ⟨rfl, hb8⟩
  have hB8 : Below w.heap.size w w8 := hB7.trans (hb8.mono hB7.size)
  have hM1 := HK1.out.keep hb8
  have hM2 := HK2.out.keep hb8
  have hM3 := HK3.out.keep hb8
  have hM4 := HK4.out.keep hb8
  clear HK1 HK2 HK3 HK4
  have HK1 := Lib.hid hM1
  clear hM1
  have HK2 := Lib.hid hM2
  clear hM2
  have HK3 := Lib.hid hM3
  clear hM3
  have HK4 := Lib.hid hM4
  clear hM4
  clear hb8 hB7 HSO
  obtain ⟨W9, hW9, hR5, hBl9, hsz9⟩ := box1T 24 w8 (.string s) (.string r)
  have hB9 : Below w.heap.size w W9 := hB8.trans (hBl9.mono hB8.size)
  have HW9 := Lib.hid hW9
  have hM1 := HK1.out.keep hBl9
  have hM2 := HK2.out.keep hBl9
  have hM3 := HK3.out.keep hBl9
  have hM4 := HK4.out.keep hBl9
  clear HK1 HK2 HK3 HK4
  have HK1 := Lib.hid hM1
  clear hM1
  have HK2 := Lib.hid hM2
  clear hM2
  have HK3 := Lib.hid hM3
  clear hM3
  have HK4 := Lib.hid hM4
  clear hM4
  have HK5 := Lib.hid hR5
  clear hR5 hW9 hBl9 hsz9 hB8
  have x10 := HK1.out.c0; have x11 := HK1.out.c1
  have x20 := HK2.out.c0; have x21 := HK2.out.c1
  rw [HW9.out] at x10 x11 x20 x21
  go_wp2_with fail
  rw [← HW9.out]
  clear x10 x11 x20 x21
  refine (HC1.out _ (HT.out.keep hB9)).mono ?_
  rintro en w10 ⟨rfl, hb10⟩
  have hB10 : Below w.heap.size w w10 := hB9.trans (hb10.mono hB9.size)
  have hM1 := HK1.out.keep hb10
  have hM2 := HK2.out.keep hb10
  have hM3 := HK3.out.keep hb10
  have hM4 := HK4.out.keep hb10
  have hM5 := HK5.out.keep hb10
  clear HK1 HK2 HK3 HK4 HK5
  have HK1 := Lib.hid hM1
  clear hM1
  have HK2 := Lib.hid hM2
  clear hM2
  have HK3 := Lib.hid hM3
  clear hM3
  have HK4 := Lib.hid hM4
  clear hM4
  have HK5 := Lib.hid hM5
  clear hM5
  clear hb10 hB9
  have x40 := HK4.out.c0; have x41 := HK4.out.c1
  go_wp2_with fail
  clear x40 x41
  refine (HSg.out _ ).mono ?_
  rintro en w11 ⟨rfl, hb11⟩
  have hB11 : Below w.heap.size w w11 := hB10.trans (hb11.mono hB10.size)
  have hM1 := HK1.out.keep hb11
  have hM2 := HK2.out.keep hb11
  have hM3 := HK3.out.keep hb11
  have hM4 := HK4.out.keep hb11
  have hM5 := HK5.out.keep hb11
  clear HK1 HK2 HK3 HK4 HK5
  have HK1 := Lib.hid hM1
  clear hM1
  have HK2 := Lib.hid hM2
  clear hM2
  have HK3 := Lib.hid hM3
  clear hM3
  have HK4 := Lib.hid hM4
  clear hM4
  have HK5 := Lib.hid hM5
  clear hM5
  clear hb11 hB10
  have x10 := HK1.out.c0; have x11 := HK1.out.c1
  have x20 := HK2.out.c0; have x21 := HK2.out.c1
  go_wp2_with fail
  clear x10 x11 x20 x21
  refine (HC2.out _ (HT.out.keep hB11)).mono ?_
  rintro en w12 ⟨rfl, hb12⟩
  have hB12 : Below w.heap.size w w12 := hB11.trans (hb12.mono hB11.size)
  have hM1 := HK1.out.keep hb12
  have hM2 := HK2.out.keep hb12
  have hM3 := HK3.out.keep hb12
  have hM4 := HK4.out.keep hb12
  have hM5 := HK5.out.keep hb12
  clear HK1 HK2 HK3 HK4 HK5
  have HK1 := Lib.hid hM1
  clear hM1
  have HK2 := Lib.hid hM2
  clear hM2
  have HK3 := Lib.hid hM3
  clear hM3
  have HK4 := Lib.hid hM4
  clear hM4
  have HK5 := Lib.hid hM5
  clear hM5
  clear hb12 hB11
  have x10 := HK1.out.c0; have x11 := HK1.out.c1; have x20 := HK2.out.c0; have x21 := HK2.out.c1; have x30 := HK3.out.c0; have x50 := HK5.out.c0; have x51 := HK5.out.c1
  go_wp2_with fail
  refine (HDv.out _ (HT.out.keep hB12)).mono ?_
  rintro en w13 ⟨rfl, hb13⟩
  have hB13 : Below w.heap.size w w13 := hB12.trans (hb13.mono hB12.size)
  have hM1 := HK1.out.keep hb13
  have hM2 := HK2.out.keep hb13
  have hM3 := HK3.out.keep hb13
  have hM4 := HK4.out.keep hb13
  have hM5 := HK5.out.keep hb13
  clear HK1 HK2 HK3 HK4 HK5
  have HK1 := Lib.hid hM1
  clear hM1
  have HK2 := Lib.hid hM2
  clear hM2
  have HK3 := Lib.hid hM3
  clear hM3
  have HK4 := Lib.hid hM4
  clear hM4
  have HK5 := Lib.hid hM5
  clear hM5
  clear hb13 hB12
  clear x10 x11 x20 x21 x30 x50 x51
  obtain ⟨W14, hW14, hR6, hBl14, hsz14⟩ := box1T 24 w13 (.string ⟨#[]⟩) (.string ⟨#[]⟩)
  have hB14 : Below w.heap.size w W14 := hB13.trans (hBl14.mono hB13.size)
  have HW14 := Lib.hid hW14
  have hM1 := HK1.out.keep hBl14
  have hM2 := HK2.out.keep hBl14
  have hM3 := HK3.out.keep hBl14
  have hM4 := HK4.out.keep hBl14
  have hM5 := HK5.out.keep hBl14
  clear HK1 HK2 HK3 HK4 HK5
  have HK1 := Lib.hid hM1
  clear hM1
  have HK2 := Lib.hid hM2
  clear hM2
  have HK3 := Lib.hid hM3
  clear hM3
  have HK4 := Lib.hid hM4
  clear hM4
  have HK5 := Lib.hid hM5
  clear hM5
  have HK6 := Lib.hid hR6
  clear hR6 hW14 hBl14 hsz14 hB13
  have x20 := HK2.out.c0; have x21 := HK2.out.c1
  rw [HW14.out] at x20 x21
  go_wp2_with fail
  rw [← HW14.out]
  clear x20 x21
  refine (HA.out _ (HT.out.keep hB14) (HC.out.keep hB14)).mono ?_
  rintro en w15 ⟨rfl, hb15⟩
  have hB15 : Below w.heap.size w w15 := hB14.trans (hb15.mono hB14.size)
  have hM1 := HK1.out.keep hb15
  have hM2 := HK2.out.keep hb15
  have hM3 := HK3.out.keep hb15
  have hM4 := HK4.out.keep hb15
  have hM5 := HK5.out.keep hb15
  have hM6 := HK6.out.keep hb15
  clear HK1 HK2 HK3 HK4 HK5 HK6
  have HK1 := Lib.hid hM1
  clear hM1
  have HK2 := Lib.hid hM2
  clear hM2
  have HK3 := Lib.hid hM3
  clear hM3
  have HK4 := Lib.hid hM4
  clear hM4
  have HK5 := Lib.hid hM5
  clear hM5
  have HK6 := Lib.hid hM6
  clear hM6
  clear hb15 hB14
  go_wp2
  go_ret
  exact ⟨rfl, hB15⟩

set_option maxHeartbeats 6400000 in
set_option maxRecDepth 100000 in
theorem undoes_z1 (s r P Q U V : ByteArray) (hz : (s.toList == [48]) = false)
    (HR1 : Hid (∀ w, Calls Tryz.prog 40 #[FrV s r] w fun e w' => e = .returned (.bool true) ∧ Below w.heap.size w w'))
    (HR2 : Hid (∀ w, Calls Tryz.prog 40 #[FrV s r] w fun e w' => e = .returned (.bool true) ∧ Below w.heap.size w w'))
    (HSub : Hid (∀ w, Tab w → Calls Tryz.prog 29 #[FrV s r, FrV s r] w (FrE w P Q 0)))
    (HAdd : Hid (∀ w, Tab w → Calls Tryz.prog 27 #[FrV P Q, FrV s r] w (FrE w s r 0)))
    (HC1 : Hid (∀ w, Tab w → Calls Tryz.prog 35 #[FrV s r, FrV s r] w (IntOut w 0 0)))
    (HSg : Hid (∀ w, Calls Tryz.prog 45 #[.string P] w (IntOut w 0 0)))
    (HC2 : Hid (∀ w, Tab w → Calls Tryz.prog 35 #[FrV s r, FrV s r] w (IntOut w 0 0)))
    (HDv : Hid (∀ w, Tab w → Calls Tryz.prog 33 #[FrV s r, FrV s r] w (FrE w U V 0)))
    (HMul : Hid (∀ w, Tab w → Calls Tryz.prog 31 #[FrV U V, FrV s r] w (FrE w s r 0)))
    (w : World) (hT : Tab w) (hC : CutT w) : Calls Tryz.prog 8 #[FrV s r, FrV s r] w fun e w' => e = .returned (.bool true) ∧ Below w.heap.size w w' := by
  have HT := Lib.hid hT
  have HC := Lib.hid hC
  have HA := Lib.hid fawake
  clear hT hC
  unfold FrE at HSub HAdd HDv HMul
  unfold IntOut at HC1 HSg HC2
  unfold FrV at *
  go_enter Tryz.func8, Tryz.ntmps8
  obtain ⟨W0, hW0, hR1, hR2, hBl0, hsz0⟩ := box2T 24 w (.string s) (.string r) (.string s) (.string r)
  have HW0 := Lib.hid hW0
  have HK1 := Lib.hid hR1
  have HK2 := Lib.hid hR2
  have hB0 : Below w.heap.size w W0 := hBl0
  clear hR1 hR2 hBl0 hW0
  clear hsz0
  have x10 := HK1.out.c0; have x11 := HK1.out.c1
  rw [HW0.out] at x10 x11
  go_wp2_with fail
  rw [← HW0.out]
  clear x10 x11
  refine (HR1.out _ ).mono ?_
  rintro en w1 ⟨rfl, hb1⟩
  have hB1 : Below w.heap.size w w1 := hB0.trans (hb1.mono hB0.size)
  have hM1 := HK1.out.keep hb1
  have hM2 := HK2.out.keep hb1
  clear HK1 HK2
  have HK1 := Lib.hid hM1
  clear hM1
  have HK2 := Lib.hid hM2
  clear hM2
  clear hb1 hB0
  have x20 := HK2.out.c0; have x21 := HK2.out.c1
  go_wp2_with fail
  clear x20 x21
  refine (HR2.out _ ).mono ?_
  rintro en w2 ⟨rfl, hb2⟩
  have hB2 : Below w.heap.size w w2 := hB1.trans (hb2.mono hB1.size)
  have hM1 := HK1.out.keep hb2
  have hM2 := HK2.out.keep hb2
  clear HK1 HK2
  have HK1 := Lib.hid hM1
  clear hM1
  have HK2 := Lib.hid hM2
  clear hM2
  clear hb2 hB1
  obtain ⟨W3, hW3, hR3, hBl3, hsz3⟩ := one1T 63 w2 (.bool true)
  have hB3 : Below w.heap.size w W3 := hB2.trans (hBl3.mono hB2.size)
  have HW3 := Lib.hid hW3
  have hM1 := HK1.out.keep hBl3
  have hM2 := HK2.out.keep hBl3
  clear HK1 HK2
  have HK1 := Lib.hid hM1
  clear hM1
  have HK2 := Lib.hid hM2
  clear hM2
  have HK3 := Lib.hid hR3
  clear hR3 hW3 hBl3 hsz3 hB2
  have x10 := HK1.out.c0; have x11 := HK1.out.c1
  have x20 := HK2.out.c0; have x21 := HK2.out.c1
  rw [HW3.out] at x10 x11 x20 x21
  go_wp2_with fail
  rw [← HW3.out]
  clear x10 x11 x20 x21
  refine (HSub.out _ (HT.out.keep hB3)).mono ?_
  rintro en w4 ⟨rfl, hb4⟩
  have hB4 : Below w.heap.size w w4 := hB3.trans (hb4.mono hB3.size)
  have hM1 := HK1.out.keep hb4
  have hM2 := HK2.out.keep hb4
  have hM3 := HK3.out.keep hb4
  clear HK1 HK2 HK3
  have HK1 := Lib.hid hM1
  clear hM1
  have HK2 := Lib.hid hM2
  clear hM2
  have HK3 := Lib.hid hM3
  clear hM3
  clear hb4 hB3
  have HSO := Lib.hid (sums_of _ P Q _ HK3.out)
  unfold FrOut FrV at HSO
  go_wp2_with fail
  refine HSO.out.mono ?_
  rintro en w5 ⟨rfl, hb5⟩
  have hB5 : Below w.heap.size w w5 := hB4.trans (hb5.mono hB4.size)
  have hM1 := HK1.out.keep hb5
  have hM2 := HK2.out.keep hb5
  have hM3 := HK3.out.keep hb5
  clear HK1 HK2 HK3
  have HK1 := Lib.hid hM1
  clear hM1
  have HK2 := Lib.hid hM2
  clear hM2
  have HK3 := Lib.hid hM3
  clear hM3
  clear hb5 hB4 HSO
  obtain ⟨W6, hW6, hR4, hBl6, hsz6⟩ := box1T 24 w5 (.string P) (.string Q)
  have hB6 : Below w.heap.size w W6 := hB5.trans (hBl6.mono hB5.size)
  have HW6 := Lib.hid hW6
  have hM1 := HK1.out.keep hBl6
  have hM2 := HK2.out.keep hBl6
  have hM3 := HK3.out.keep hBl6
  clear HK1 HK2 HK3
  have HK1 := Lib.hid hM1
  clear hM1
  have HK2 := Lib.hid hM2
  clear hM2
  have HK3 := Lib.hid hM3
  clear hM3
  have HK4 := Lib.hid hR4
  clear hR4 hW6 hBl6 hsz6 hB5
  have x40 := HK4.out.c0; have x41 := HK4.out.c1
  have x20 := HK2.out.c0; have x21 := HK2.out.c1
  rw [HW6.out] at x40 x41 x20 x21
  go_wp2_with fail
  rw [← HW6.out]
  clear x40 x41 x20 x21
  refine (HAdd.out _ (HT.out.keep hB6)).mono ?_
  rintro en w7 ⟨rfl, hb7⟩
  have hB7 : Below w.heap.size w w7 := hB6.trans (hb7.mono hB6.size)
  have hM1 := HK1.out.keep hb7
  have hM2 := HK2.out.keep hb7
  have hM3 := HK3.out.keep hb7
  have hM4 := HK4.out.keep hb7
  clear HK1 HK2 HK3 HK4
  have HK1 := Lib.hid hM1
  clear hM1
  have HK2 := Lib.hid hM2
  clear hM2
  have HK3 := Lib.hid hM3
  clear hM3
  have HK4 := Lib.hid hM4
  clear hM4
  clear hb7 hB6
  have HSO := Lib.hid (sums_of _ s r _ HK3.out)
  unfold FrOut FrV at HSO
  go_wp2_with fail
  refine HSO.out.mono ?_
  rintro en w8 ⟨rfl, hb8⟩
  have hB8 : Below w.heap.size w w8 := hB7.trans (hb8.mono hB7.size)
  have hM1 := HK1.out.keep hb8
  have hM2 := HK2.out.keep hb8
  have hM3 := HK3.out.keep hb8
  have hM4 := HK4.out.keep hb8
  clear HK1 HK2 HK3 HK4
  have HK1 := Lib.hid hM1
  clear hM1
  have HK2 := Lib.hid hM2
  clear hM2
  have HK3 := Lib.hid hM3
  clear hM3
  have HK4 := Lib.hid hM4
  clear hM4
  clear hb8 hB7 HSO
  obtain ⟨W9, hW9, hR5, hBl9, hsz9⟩ := box1T 24 w8 (.string s) (.string r)
  have hB9 : Below w.heap.size w W9 := hB8.trans (hBl9.mono hB8.size)
  have HW9 := Lib.hid hW9
  have hM1 := HK1.out.keep hBl9
  have hM2 := HK2.out.keep hBl9
  have hM3 := HK3.out.keep hBl9
  have hM4 := HK4.out.keep hBl9
  clear HK1 HK2 HK3 HK4
  have HK1 := Lib.hid hM1
  clear hM1
  have HK2 := Lib.hid hM2
  clear hM2
  have HK3 := Lib.hid hM3
  clear hM3
  have HK4 := Lib.hid hM4
  clear hM4
  have HK5 := Lib.hid hR5
  clear hR5 hW9 hBl9 hsz9 hB8
  have x10 := HK1.out.c0; have x11 := HK1.out.c1
  have x20 := HK2.out.c0; have x21 := HK2.out.c1
  rw [HW9.out] at x10 x11 x20 x21
  go_wp2_with fail
  rw [← HW9.out]
  clear x10 x11 x20 x21
  refine (HC1.out _ (HT.out.keep hB9)).mono ?_
  rintro en w10 ⟨rfl, hb10⟩
  have hB10 : Below w.heap.size w w10 := hB9.trans (hb10.mono hB9.size)
  have hM1 := HK1.out.keep hb10
  have hM2 := HK2.out.keep hb10
  have hM3 := HK3.out.keep hb10
  have hM4 := HK4.out.keep hb10
  have hM5 := HK5.out.keep hb10
  clear HK1 HK2 HK3 HK4 HK5
  have HK1 := Lib.hid hM1
  clear hM1
  have HK2 := Lib.hid hM2
  clear hM2
  have HK3 := Lib.hid hM3
  clear hM3
  have HK4 := Lib.hid hM4
  clear hM4
  have HK5 := Lib.hid hM5
  clear hM5
  clear hb10 hB9
  have x40 := HK4.out.c0; have x41 := HK4.out.c1
  go_wp2_with fail
  clear x40 x41
  refine (HSg.out _ ).mono ?_
  rintro en w11 ⟨rfl, hb11⟩
  have hB11 : Below w.heap.size w w11 := hB10.trans (hb11.mono hB10.size)
  have hM1 := HK1.out.keep hb11
  have hM2 := HK2.out.keep hb11
  have hM3 := HK3.out.keep hb11
  have hM4 := HK4.out.keep hb11
  have hM5 := HK5.out.keep hb11
  clear HK1 HK2 HK3 HK4 HK5
  have HK1 := Lib.hid hM1
  clear hM1
  have HK2 := Lib.hid hM2
  clear hM2
  have HK3 := Lib.hid hM3
  clear hM3
  have HK4 := Lib.hid hM4
  clear hM4
  have HK5 := Lib.hid hM5
  clear hM5
  clear hb11 hB10
  have x10 := HK1.out.c0; have x11 := HK1.out.c1
  have x20 := HK2.out.c0; have x21 := HK2.out.c1
  go_wp2_with fail
  clear x10 x11 x20 x21
  refine (HC2.out _ (HT.out.keep hB11)).mono ?_
  rintro en w12 ⟨rfl, hb12⟩
  have hB12 : Below w.heap.size w w12 := hB11.trans (hb12.mono hB11.size)
  have hM1 := HK1.out.keep hb12
  have hM2 := HK2.out.keep hb12
  have hM3 := HK3.out.keep hb12
  have hM4 := HK4.out.keep hb12
  have hM5 := HK5.out.keep hb12
  clear HK1 HK2 HK3 HK4 HK5
  have HK1 := Lib.hid hM1
  clear hM1
  have HK2 := Lib.hid hM2
  clear hM2
  have HK3 := Lib.hid hM3
  clear hM3
  have HK4 := Lib.hid hM4
  clear hM4
  have HK5 := Lib.hid hM5
  clear hM5
  clear hb12 hB11
  have x10 := HK1.out.c0; have x11 := HK1.out.c1; have x20 := HK2.out.c0; have x21 := HK2.out.c1; have x30 := HK3.out.c0; have x50 := HK5.out.c0; have x51 := HK5.out.c1
  go_wp2_with fail
  refine (HDv.out _ (HT.out.keep hB12)).mono ?_
  rintro en w13 ⟨rfl, hb13⟩
  have hB13 : Below w.heap.size w w13 := hB12.trans (hb13.mono hB12.size)
  have hM1 := HK1.out.keep hb13
  have hM2 := HK2.out.keep hb13
  have hM3 := HK3.out.keep hb13
  have hM4 := HK4.out.keep hb13
  have hM5 := HK5.out.keep hb13
  clear HK1 HK2 HK3 HK4 HK5
  have HK1 := Lib.hid hM1
  clear hM1
  have HK2 := Lib.hid hM2
  clear hM2
  have HK3 := Lib.hid hM3
  clear hM3
  have HK4 := Lib.hid hM4
  clear hM4
  have HK5 := Lib.hid hM5
  clear hM5
  clear hb13 hB12
  clear x10 x11 x20 x21 x30 x50 x51
  obtain ⟨W14, hW14, hR6, hBl14, hsz14⟩ := box1T 24 w13 (.string U) (.string V)
  have hB14 : Below w.heap.size w W14 := hB13.trans (hBl14.mono hB13.size)
  have HW14 := Lib.hid hW14
  have hM1 := HK1.out.keep hBl14
  have hM2 := HK2.out.keep hBl14
  have hM3 := HK3.out.keep hBl14
  have hM4 := HK4.out.keep hBl14
  have hM5 := HK5.out.keep hBl14
  clear HK1 HK2 HK3 HK4 HK5
  have HK1 := Lib.hid hM1
  clear hM1
  have HK2 := Lib.hid hM2
  clear hM2
  have HK3 := Lib.hid hM3
  clear hM3
  have HK4 := Lib.hid hM4
  clear hM4
  have HK5 := Lib.hid hM5
  clear hM5
  have HK6 := Lib.hid hR6
  clear hR6 hW14 hBl14 hsz14 hB13
  have x20 := HK2.out.c0; have x21 := HK2.out.c1
  have x60 := HK6.out.c0; have x61 := HK6.out.c1
  rw [HW14.out] at x20 x21 x60 x61
  go_wp2_with fail
  rw [← HW14.out]
  clear x20 x21 x60 x61
  refine (HMul.out _ (HT.out.keep hB14)).mono ?_
  rintro en w15 ⟨rfl, hb15⟩
  have hB15 : Below w.heap.size w w15 := hB14.trans (hb15.mono hB14.size)
  have hM1 := HK1.out.keep hb15
  have hM2 := HK2.out.keep hb15
  have hM3 := HK3.out.keep hb15
  have hM4 := HK4.out.keep hb15
  have hM5 := HK5.out.keep hb15
  have hM6 := HK6.out.keep hb15
  clear HK1 HK2 HK3 HK4 HK5 HK6
  have HK1 := Lib.hid hM1
  clear hM1
  have HK2 := Lib.hid hM2
  clear hM2
  have HK3 := Lib.hid hM3
  clear hM3
  have HK4 := Lib.hid hM4
  clear hM4
  have HK5 := Lib.hid hM5
  clear hM5
  have HK6 := Lib.hid hM6
  clear hM6
  clear hb15 hB14
  obtain ⟨W16, hW16, hR7, hBl16, hsz16⟩ := box1T 24 w15 (.string s) (.string r)
  have hB16 : Below w.heap.size w W16 := hB15.trans (hBl16.mono hB15.size)
  have HW16 := Lib.hid hW16
  have hM1 := HK1.out.keep hBl16
  have hM2 := HK2.out.keep hBl16
  have hM3 := HK3.out.keep hBl16
  have hM4 := HK4.out.keep hBl16
  have hM5 := HK5.out.keep hBl16
  have hM6 := HK6.out.keep hBl16
  clear HK1 HK2 HK3 HK4 HK5 HK6
  have HK1 := Lib.hid hM1
  clear hM1
  have HK2 := Lib.hid hM2
  clear hM2
  have HK3 := Lib.hid hM3
  clear hM3
  have HK4 := Lib.hid hM4
  clear hM4
  have HK5 := Lib.hid hM5
  clear hM5
  have HK6 := Lib.hid hM6
  clear hM6
  have HK7 := Lib.hid hR7
  clear hR7 hW16 hBl16 hsz16 hB15
  have x10 := HK1.out.c0; have x11 := HK1.out.c1
  have x70 := HK7.out.c0; have x71 := HK7.out.c1
  rw [HW16.out] at x10 x11 x70 x71
  go_wp2_with fail
  rw [← HW16.out]
  clear x10 x11 x70 x71
  refine (HA.out _ (HT.out.keep hB16) (HC.out.keep hB16)).mono ?_
  rintro en w17 ⟨rfl, hb17⟩
  have hB17 : Below w.heap.size w w17 := hB16.trans (hb17.mono hB16.size)
  have hM1 := HK1.out.keep hb17
  have hM2 := HK2.out.keep hb17
  have hM3 := HK3.out.keep hb17
  have hM4 := HK4.out.keep hb17
  have hM5 := HK5.out.keep hb17
  have hM6 := HK6.out.keep hb17
  have hM7 := HK7.out.keep hb17
  clear HK1 HK2 HK3 HK4 HK5 HK6 HK7
  have HK1 := Lib.hid hM1
  clear hM1
  have HK2 := Lib.hid hM2
  clear hM2
  have HK3 := Lib.hid hM3
  clear hM3
  have HK4 := Lib.hid hM4
  clear hM4
  have HK5 := Lib.hid hM5
  clear hM5
  have HK6 := Lib.hid hM6
  clear hM6
  have HK7 := Lib.hid hM7
  clear hM7
  clear hb17 hB16
  go_wp2
  go_ret
  exact ⟨rfl, hB17⟩
end Go.Proofs.YtolkiimlchfmlaaGreatDoor
