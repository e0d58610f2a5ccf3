/- Walks of the laws of fractions: the ring's law. -/
import Derived.Test.YtolkiimlchfmlaaGreatDoorFv
namespace Go.Proofs.YtolkiimlchfmlaaGreatDoor
open Go.RowKit Go.Proofs.Num

set_option maxHeartbeats 3200000 in
set_option maxRecDepth 100000 in
theorem ring_no1 (a a' b b' c c' : ByteArray) (HR1 : Hid (∀ w, Calls Tryz.prog 40 #[FrV a a'] w fun e w' => e = .returned (.bool false) ∧ Below w.heap.size w w'))
    (w : World) (hT : Tab w) (hC : CutT w) : Calls Tryz.prog 7 #[FrV a a', FrV b b', FrV c c'] w fun e w' => e = .returned (.bool true) ∧ Below w.heap.size w w' := by
  have HT := Lib.hid hT
  have HC := Lib.hid hC
  have HA := Lib.hid fawake
  clear hT hC
  unfold FrV at *
  go_enter Tryz.func7, Tryz.ntmps7
  obtain ⟨W0, hW0, hR1, hR2, hR3, hBl0, hsz0⟩ := box3T 24 w (.string a) (.string a') (.string b) (.string b') (.string c) (.string c')
  have HW0 := Lib.hid hW0
  have HK1 := Lib.hid hR1
  have HK2 := Lib.hid hR2
  have HK3 := Lib.hid hR3
  have hB0 : Below w.heap.size w W0 := hBl0
  clear hR1 hR2 hR3 hBl0 hW0
  clear hsz0
  have x10 := HK1.out.c0; have x11 := HK1.out.c1
  rw [HW0.out] at x10 x11
  go_wp2_with fail
  rw [← HW0.out]
  clear x10 x11
  refine (HR1.out _ ).mono ?_
  rintro en w1 ⟨rfl, hb1⟩
  have hB1 : Below w.heap.size w w1 := hB0.trans (hb1.mono hB0.size)
  have hM1 := HK1.out.keep hb1
  have hM2 := HK2.out.keep hb1
  have hM3 := HK3.out.keep hb1
  clear HK1 HK2 HK3
  have HK1 := Lib.hid hM1
  clear hM1
  have HK2 := Lib.hid hM2
  clear hM2
  have HK3 := Lib.hid hM3
  clear hM3
  clear hb1 hB0
  go_wp2_with fail
  refine (HA.out _ (HT.out.keep hB1) (HC.out.keep hB1)).mono ?_
  rintro en w2 ⟨rfl, hb2⟩
  have hB2 : Below w.heap.size w w2 := hB1.trans (hb2.mono hB1.size)
  have hM1 := HK1.out.keep hb2
  have hM2 := HK2.out.keep hb2
  have hM3 := HK3.out.keep hb2
  clear HK1 HK2 HK3
  have HK1 := Lib.hid hM1
  clear hM1
  have HK2 := Lib.hid hM2
  clear hM2
  have HK3 := Lib.hid hM3
  clear hM3
  clear hb2 hB1
  go_wp2
  go_ret
  exact ⟨rfl, hB2⟩

set_option maxHeartbeats 3200000 in
set_option maxRecDepth 100000 in
theorem ring_no2 (a a' b b' c c' : ByteArray) (HR1 : Hid (∀ w, Calls Tryz.prog 40 #[FrV a a'] w fun e w' => e = .returned (.bool true) ∧ Below w.heap.size w w')) (HR2 : Hid (∀ w, Calls Tryz.prog 40 #[FrV b b'] w fun e w' => e = .returned (.bool false) ∧ Below w.heap.size w w'))
    (w : World) (hT : Tab w) (hC : CutT w) : Calls Tryz.prog 7 #[FrV a a', FrV b b', FrV c c'] w fun e w' => e = .returned (.bool true) ∧ Below w.heap.size w w' := by
  have HT := Lib.hid hT
  have HC := Lib.hid hC
  have HA := Lib.hid fawake
  clear hT hC
  unfold FrV at *
  go_enter Tryz.func7, Tryz.ntmps7
  obtain ⟨W0, hW0, hR1, hR2, hR3, hBl0, hsz0⟩ := box3T 24 w (.string a) (.string a') (.string b) (.string b') (.string c) (.string c')
  have HW0 := Lib.hid hW0
  have HK1 := Lib.hid hR1
  have HK2 := Lib.hid hR2
  have HK3 := Lib.hid hR3
  have hB0 : Below w.heap.size w W0 := hBl0
  clear hR1 hR2 hR3 hBl0 hW0
  clear hsz0
  have x10 := HK1.out.c0; have x11 := HK1.out.c1
  rw [HW0.out] at x10 x11
  go_wp2_with fail
  rw [← HW0.out]
  clear x10 x11
  refine (HR1.out _ ).mono ?_
  rintro en w1 ⟨rfl, hb1⟩
  have hB1 : Below w.heap.size w w1 := hB0.trans (hb1.mono hB0.size)
  have hM1 := HK1.out.keep hb1
  have hM2 := HK2.out.keep hb1
  have hM3 := HK3.out.keep hb1
  clear HK1 HK2 HK3
  have HK1 := Lib.hid hM1
  clear hM1
  have HK2 := Lib.hid hM2
  clear hM2
  have HK3 := Lib.hid hM3
  clear hM3
  clear hb1 hB0
  have x20 := HK2.out.c0; have x21 := HK2.out.c1
  go_wp2_with fail
  clear x20 x21
  refine (HR2.out _ ).mono ?_
  rintro en w2 ⟨rfl, hb2⟩
  have hB2 : Below w.heap.size w w2 := hB1.trans (hb2.mono hB1.size)
  have hM1 := HK1.out.keep hb2
  have hM2 := HK2.out.keep hb2
  have hM3 := HK3.out.keep hb2
  clear HK1 HK2 HK3
  have HK1 := Lib.hid hM1
  clear hM1
  have HK2 := Lib.hid hM2
  clear hM2
  have HK3 := Lib.hid hM3
  clear hM3
  clear hb2 hB1
  go_wp2_with fail
  refine (HA.out _ (HT.out.keep hB2) (HC.out.keep hB2)).mono ?_
  rintro en w3 ⟨rfl, hb3⟩
  have hB3 : Below w.heap.size w w3 := hB2.trans (hb3.mono hB2.size)
  have hM1 := HK1.out.keep hb3
  have hM2 := HK2.out.keep hb3
  have hM3 := HK3.out.keep hb3
  clear HK1 HK2 HK3
  have HK1 := Lib.hid hM1
  clear hM1
  have HK2 := Lib.hid hM2
  clear hM2
  have HK3 := Lib.hid hM3
  clear hM3
  clear hb3 hB2
  go_wp2
  go_ret
  exact ⟨rfl, hB3⟩

set_option maxHeartbeats 3200000 in
set_option maxRecDepth 100000 in
theorem ring_no3 (a a' b b' c c' : ByteArray) (HR1 : Hid (∀ w, Calls Tryz.prog 40 #[FrV a a'] w fun e w' => e = .returned (.bool true) ∧ Below w.heap.size w w')) (HR2 : Hid (∀ w, Calls Tryz.prog 40 #[FrV b b'] w fun e w' => e = .returned (.bool true) ∧ Below w.heap.size w w')) (HR3 : Hid (∀ w, Calls Tryz.prog 40 #[FrV c c'] w fun e w' => e = .returned (.bool false) ∧ Below w.heap.size w w'))
    (w : World) (hT : Tab w) (hC : CutT w) : Calls Tryz.prog 7 #[FrV a a', FrV b b', FrV c c'] w fun e w' => e = .returned (.bool true) ∧ Below w.heap.size w w' := by
  have HT := Lib.hid hT
  have HC := Lib.hid hC
  have HA := Lib.hid fawake
  clear hT hC
  unfold FrV at *
  go_enter Tryz.func7, Tryz.ntmps7
  obtain ⟨W0, hW0, hR1, hR2, hR3, hBl0, hsz0⟩ := box3T 24 w (.string a) (.string a') (.string b) (.string b') (.string c) (.string c')
  have HW0 := Lib.hid hW0
  have HK1 := Lib.hid hR1
  have HK2 := Lib.hid hR2
  have HK3 := Lib.hid hR3
  have hB0 : Below w.heap.size w W0 := hBl0
  clear hR1 hR2 hR3 hBl0 hW0
  clear hsz0
  have x10 := HK1.out.c0; have x11 := HK1.out.c1
  rw [HW0.out] at x10 x11
  go_wp2_with fail
  rw [← HW0.out]
  clear x10 x11
  refine (HR1.out _ ).mono ?_
  rintro en w1 ⟨rfl, hb1⟩
  have hB1 : Below w.heap.size w w1 := hB0.trans (hb1.mono hB0.size)
  have hM1 := HK1.out.keep hb1
  have hM2 := HK2.out.keep hb1
  have hM3 := HK3.out.keep hb1
  clear HK1 HK2 HK3
  have HK1 := Lib.hid hM1
  clear hM1
  have HK2 := Lib.hid hM2
  clear hM2
  have HK3 := Lib.hid hM3
  clear hM3
  clear hb1 hB0
  have x20 := HK2.out.c0; have x21 := HK2.out.c1
  go_wp2_with fail
  clear x20 x21
  refine (HR2.out _ ).mono ?_
  rintro en w2 ⟨rfl, hb2⟩
  have hB2 : Below w.heap.size w w2 := hB1.trans (hb2.mono hB1.size)
  have hM1 := HK1.out.keep hb2
  have hM2 := HK2.out.keep hb2
  have hM3 := HK3.out.keep hb2
  clear HK1 HK2 HK3
  have HK1 := Lib.hid hM1
  clear hM1
  have HK2 := Lib.hid hM2
  clear hM2
  have HK3 := Lib.hid hM3
  clear hM3
  clear hb2 hB1
  have x30 := HK3.out.c0; have x31 := HK3.out.c1
  go_wp2_with fail
  clear x30 x31
  refine (HR3.out _ ).mono ?_
  rintro en w3 ⟨rfl, hb3⟩
  have hB3 : Below w.heap.size w w3 := hB2.trans (hb3.mono hB2.size)
  have hM1 := HK1.out.keep hb3
  have hM2 := HK2.out.keep hb3
  have hM3 := HK3.out.keep hb3
  clear HK1 HK2 HK3
  have HK1 := Lib.hid hM1
  clear hM1
  have HK2 := Lib.hid hM2
  clear hM2
  have HK3 := Lib.hid hM3
  clear hM3
  clear hb3 hB2
  go_wp2_with fail
  refine (HA.out _ (HT.out.keep hB3) (HC.out.keep hB3)).mono ?_
  rintro en w4 ⟨rfl, hb4⟩
  have hB4 : Below w.heap.size w w4 := hB3.trans (hb4.mono hB3.size)
  have hM1 := HK1.out.keep hb4
  have hM2 := HK2.out.keep hb4
  have hM3 := HK3.out.keep hb4
  clear HK1 HK2 HK3
  have HK1 := Lib.hid hM1
  clear hM1
  have HK2 := Lib.hid hM2
  clear hM2
  have HK3 := Lib.hid hM3
  clear hM3
  clear hb4 hB3
  go_wp2
  go_ret
  exact ⟨rfl, hB4⟩

/-- What a sum or a product is, whichever form its parts have. -/
theorem low_add1 {x m y e : Int} (hm : m ≠ 0) (he : e ≠ 0) : lowN (lowN x m * e + y * lowD x m) (lowD x m * e) = lowN (x * e + y * m) (m * e) ∧ lowD (lowN x m * e + y * lowD x m) (lowD x m * e) = lowD (x * e + y * m) (m * e) := by
  have h := low_cross (n := x) hm
  have hp := lowD_pos (n := x) hm
  generalize lowN x m = P at *
  generalize lowD x m = Q at *
  refine low_eq (Int.mul_ne_zero (by omega) he) (Int.mul_ne_zero hm he) ?_
  grind
theorem low_add2 {x m y e : Int} (hm : m ≠ 0) (he : e ≠ 0) : lowN (y * lowD x m + lowN x m * e) (e * lowD x m) = lowN (y * m + x * e) (e * m) ∧ lowD (y * lowD x m + lowN x m * e) (e * lowD x m) = lowD (y * m + x * e) (e * m) := by
  have h := low_cross (n := x) hm
  have hp := lowD_pos (n := x) hm
  generalize lowN x m = P at *
  generalize lowD x m = Q at *
  refine low_eq (Int.mul_ne_zero he (by omega)) (Int.mul_ne_zero he hm) ?_
  grind
theorem low_mul1 {x m y e : Int} (hm : m ≠ 0) (he : e ≠ 0) : lowN (lowN x m * y) (lowD x m * e) = lowN (x * y) (m * e) ∧ lowD (lowN x m * y) (lowD x m * e) = lowD (x * y) (m * e) := by
  have h := low_cross (n := x) hm
  have hp := lowD_pos (n := x) hm
  generalize lowN x m = P at *
  generalize lowD x m = Q at *
  refine low_eq (Int.mul_ne_zero (by omega) he) (Int.mul_ne_zero hm he) ?_
  grind
theorem low_mul2 {x m y e : Int} (hm : m ≠ 0) (he : e ≠ 0) : lowN (y * lowN x m) (e * lowD x m) = lowN (y * x) (e * m) ∧ lowD (y * lowN x m) (e * lowD x m) = lowD (y * x) (e * m) := by
  have h := low_cross (n := x) hm
  have hp := lowD_pos (n := x) hm
  generalize lowN x m = P at *
  generalize lowD x m = Q at *
  refine low_eq (Int.mul_ne_zero he (by omega)) (Int.mul_ne_zero he hm) ?_
  grind

theorem ring_dist {n1 d1 n2 d2 n3 d3 : Int} (h1 : d1 ≠ 0) (h2 : d2 ≠ 0) (h3 : d3 ≠ 0) :
    lowN (n1 * n2 * (d1 * d3) + n1 * n3 * (d1 * d2)) (d1 * d2 * (d1 * d3)) = lowN (n1 * (n2 * d3 + n3 * d2)) (d1 * (d2 * d3)) ∧ lowD (n1 * n2 * (d1 * d3) + n1 * n3 * (d1 * d2)) (d1 * d2 * (d1 * d3)) = lowD (n1 * (n2 * d3 + n3 * d2)) (d1 * (d2 * d3)) := by
  refine low_eq (Int.mul_ne_zero (Int.mul_ne_zero h1 h2) (Int.mul_ne_zero h1 h3)) (Int.mul_ne_zero h1 (Int.mul_ne_zero h2 h3)) ?_
  grind

set_option maxHeartbeats 3200000 in
theorem ring_yes (n1 d1 n2 d2 n3 d3 : Int) (hn1 : Few 40 n1) (hd1 : Few 40 d1) (hn2 : Few 40 n2) (hd2 : Few 40 d2) (hn3 : Few 40 n3) (hd3 : Few 40 d3) (hl1 : Low n1 d1) (hl2 : Low n2 d2) (hl3 : Low n3 d3)
    (HR1 : ∀ w, Calls Tryz.prog 40 #[FrV (T n1) (T d1)] w fun e w' => e = .returned (.bool true) ∧ Below w.heap.size w w')
    (HR2 : ∀ w, Calls Tryz.prog 40 #[FrV (T n2) (T d2)] w fun e w' => e = .returned (.bool true) ∧ Below w.heap.size w w')
    (HR3 : ∀ w, Calls Tryz.prog 40 #[FrV (T n3) (T d3)] w fun e w' => e = .returned (.bool true) ∧ Below w.heap.size w w')
    (w : World) (hT : Tab w) (hC : CutT w) :
    Calls Tryz.prog 7 #[FrV (T n1) (T d1), FrV (T n2) (T d2), FrV (T n3) (T d3)] w fun e w' => e = .returned (.bool true) ∧ Below w.heap.size w w' := by
  have p1 := hl1.1
  have p2 := hl2.1
  have p3 := hl3.1
  have z1 : d1 ≠ 0 := by omega
  have z2 : d2 ≠ 0 := by omega
  have z3 : d3 ≠ 0 := by omega
  have z12 : d1 * d2 ≠ 0 := Int.mul_ne_zero z1 z2
  have z23 : d2 * d3 ≠ 0 := Int.mul_ne_zero z2 z3
  have z13 : d1 * d3 ≠ 0 := Int.mul_ne_zero z1 z3
  have A12 : Few 81 (n1 * d2 + n2 * d1) := (hn1.mul hd2).add (hn2.mul hd1)
  have A23 : Few 81 (n2 * d3 + n3 * d2) := (hn2.mul hd3).add (hn3.mul hd2)
  have D12 : Few 81 (d1 * d2) := (hd1.mul hd2).le (by omega)
  have D23 : Few 81 (d2 * d3) := (hd2.mul hd3).le (by omega)
  have D13 : Few 81 (d1 * d3) := (hd1.mul hd3).le (by omega)
  have N12 : Few 81 (n1 * n2) := (hn1.mul hn2).le (by omega)
  have N23 : Few 81 (n2 * n3) := (hn2.mul hn3).le (by omega)
  have N13 : Few 81 (n1 * n3) := (hn1.mul hn3).le (by omega)
  have f1 := hn1.le (e := 81) (by omega)
  have g1 := hd1.le (e := 81) (by omega)
  have f3 := hn3.le (e := 81) (by omega)
  have g3 := hd3.le (e := 81) (by omega)
  have E1 : Few 81 1 := few_one (by omega)
  have E0 : Few 81 0 := Nat.pow_pos (by omega)
  have hlo : ∀ x : Int, Low x 1 := fun x => ⟨by omega, by simp⟩
  -- the calls
  have HAab := fun w hT => fAddS n1 d1 n2 d2 hn1 hd1 hn2 hd2 (by omega) (by omega) hl1 hl2 w hT
  have HAba := fun w hT => fAddS n2 d2 n1 d1 hn2 hd2 hn1 hd1 (by omega) (by omega) hl2 hl1 w hT
  rw [Int.add_comm (n2 * d1), Int.mul_comm d2 d1] at HAba
  have HMab := fun w hT => fMulS n1 d1 n2 d2 hn1 hd1 hn2 hd2 (by omega) (by omega) hl1 hl2 w hT
  have HMba := fun w hT => fMulS n2 d2 n1 d1 hn2 hd2 hn1 hd1 (by omega) (by omega) hl2 hl1 w hT
  rw [Int.mul_comm n2 n1, Int.mul_comm d2 d1] at HMba
  have HAbc := fun w hT => fAddS n2 d2 n3 d3 hn2 hd2 hn3 hd3 (by omega) (by omega) hl2 hl3 w hT
  have HAxc := fun w hT => fAddS _ _ n3 d3 (lowN_le A12 z12) (lowD_le D12 z12) f3 g3 (by omega) (by omega) (low_low z12) hl3 w hT
  rw [(low_add1 z12 z3).1, (low_add1 z12 z3).2] at HAxc
  have HAay := fun w hT => fAddS n1 d1 _ _ f1 g1 (lowN_le A23 z23) (lowD_le D23 z23) (by omega) (by omega) hl1 (low_low z23) w hT
  rw [(low_add2 z23 z1).1, (low_add2 z23 z1).2, show n1 * (d2 * d3) + (n2 * d3 + n3 * d2) * d1 = (n1 * d2 + n2 * d1) * d3 + n3 * (d1 * d2) by grind, show d1 * (d2 * d3) = d1 * d2 * d3 by grind] at HAay
  have HMbc := fun w hT => fMulS n2 d2 n3 d3 hn2 hd2 hn3 hd3 (by omega) (by omega) hl2 hl3 w hT
  have HMxc := fun w hT => fMulS _ _ n3 d3 (lowN_le N12 z12) (lowD_le D12 z12) f3 g3 (by omega) (by omega) (low_low z12) hl3 w hT
  rw [(low_mul1 z12 z3).1, (low_mul1 z12 z3).2] at HMxc
  have HMay := fun w hT => fMulS n1 d1 _ _ f1 g1 (lowN_le N23 z23) (lowD_le D23 z23) (by omega) (by omega) hl1 (low_low z23) w hT
  rw [(low_mul2 z23 z1).1, (low_mul2 z23 z1).2, show n1 * (n2 * n3) = n1 * n2 * n3 by grind, show d1 * (d2 * d3) = d1 * d2 * d3 by grind] at HMay
  have HMad := fun w hT => fMulS n1 d1 _ _ f1 g1 (lowN_le A23 z23) (lowD_le D23 z23) (by omega) (by omega) hl1 (low_low z23) w hT
  rw [(low_mul2 z23 z1).1, (low_mul2 z23 z1).2] at HMad
  have HMac := fun w hT => fMulS n1 d1 n3 d3 hn1 hd1 hn3 hd3 (by omega) (by omega) hl1 hl3 w hT
  have HAmm := fun w hT => fAddS _ _ _ _ (lowN_le N12 z12) (lowD_le D12 z12) (lowN_le N13 z13) (lowD_le D13 z13) (by omega) (by omega) (low_low z12) (low_low z13) w hT
  have q13 : lowD (n1 * n3) (d1 * d3) ≠ 0 := by have := lowD_pos (n := n1 * n3) z13; omega
  rw [(low_add1 z12 q13).1, (low_add1 z12 q13).2, (low_add2 z13 z12).1, (low_add2 z13 z12).2, (ring_dist z1 z2 z3).1, (ring_dist z1 z2 z3).2] at HAmm
  have HAa0 := fun w hT => fAddS n1 d1 0 1 f1 g1 E0 E1 (by omega) (by omega) hl1 (hlo 0) w hT
  have o0 := low_of (n := n1 * 1 + 0 * d1) (m := d1 * 1) (by omega) hl1 (by grind)
  rw [o0.1, o0.2, T_naught, ft1] at HAa0
  have HMa1 := fun w hT => fMulS n1 d1 1 1 f1 g1 E1 E1 (by omega) (by omega) hl1 (hlo 1) w hT
  have o1 := low_of (n := n1 * 1) (m := d1 * 1) (by omega) hl1 (by grind)
  rw [o1.1, o1.2, ft1] at HMa1
  -- the checks
  have z123 : d1 * d2 * d3 ≠ 0 := Int.mul_ne_zero z12 z3
  have z123' : d1 * (d2 * d3) ≠ 0 := Int.mul_ne_zero z1 z23
  have C0 := fun w hT => fcheck_T _ _ (lowN_le A12 z12) (lowD_le D12 z12) (by omega) (by omega) (low_low z12) w hT
  have C1 := fun w hT => fcheck_T _ _ (lowN_le N12 z12) (lowD_le D12 z12) (by omega) (by omega) (low_low z12) w hT
  have C2 := fun w hT => fcheck_T _ _ (lowN_le ((A12.mul hd3).add (hn3.mul D12) |>.le (e := 200) (by omega)) z123) (lowD_le ((D12.mul hd3).le (e := 200) (by omega)) z123) (by omega) (by omega) (low_low z123) w hT
  have C3 := fun w hT => fcheck_T _ _ (lowN_le ((N12.mul hn3).le (e := 200) (by omega)) z123) (lowD_le ((D12.mul hd3).le (e := 200) (by omega)) z123) (by omega) (by omega) (low_low z123) w hT
  have C4 := fun w hT => fcheck_T _ _ (lowN_le ((hn1.mul A23).le (e := 200) (by omega)) z123') (lowD_le ((hd1.mul D23).le (e := 200) (by omega)) z123') (by omega) (by omega) (low_low z123') w hT
  have C5 := fun w hT => fcheck_T _ _ hn1 hd1 (by omega) (by omega) hl1 w hT
  exact ring_walk _ _ _ _ _ _ _ _ _ _ _ _ _ _ _ _ _ _ _ _ _ _ (Lib.hid HR1) (Lib.hid HR2) (Lib.hid HR3)
    (Lib.hid fun u v w hT h1 h2 => ring_add _ _ _ _ _ _ u v (Lib.hid HAab) w hT h1 h2) (Lib.hid fun u v w hT h1 h2 => ring_add _ _ _ _ _ _ u v (Lib.hid HAba) w hT h1 h2) (Lib.hid fun u v w hT h1 h2 => ring_mul _ _ _ _ _ _ u v (Lib.hid HMab) w hT h1 h2) (Lib.hid fun u v w hT h1 h2 => ring_mul _ _ _ _ _ _ u v (Lib.hid HMba) w hT h1 h2) (Lib.hid fun u v w hT h1 h2 => ring_add _ _ _ _ _ _ u v (Lib.hid HAxc) w hT h1 h2) (Lib.hid fun u v w hT h1 h2 => ring_add _ _ _ _ _ _ u v (Lib.hid HAbc) w hT h1 h2) (Lib.hid fun u v w hT h1 h2 => ring_add _ _ _ _ _ _ u v (Lib.hid HAay) w hT h1 h2) (Lib.hid fun u v w hT h1 h2 => ring_mul _ _ _ _ _ _ u v (Lib.hid HMxc) w hT h1 h2) (Lib.hid fun u v w hT h1 h2 => ring_mul _ _ _ _ _ _ u v (Lib.hid HMbc) w hT h1 h2) (Lib.hid fun u v w hT h1 h2 => ring_mul _ _ _ _ _ _ u v (Lib.hid HMay) w hT h1 h2) (Lib.hid fun u v w hT h1 h2 => ring_mul _ _ _ _ _ _ u v (Lib.hid HMad) w hT h1 h2) (Lib.hid fun u v w hT h1 h2 => ring_mul _ _ _ _ _ _ u v (Lib.hid HMac) w hT h1 h2) (Lib.hid fun u v w hT h1 h2 => ring_add _ _ _ _ _ _ u v (Lib.hid HAmm) w hT h1 h2) (Lib.hid fun u v w hT h1 h2 => ring_add _ _ _ _ _ _ u v (Lib.hid HAa0) w hT h1 h2) (Lib.hid fun u v w hT h1 h2 => ring_mul _ _ _ _ _ _ u v (Lib.hid HMa1) w hT h1 h2)
    (Lib.hid C0) (Lib.hid C1) (Lib.hid C2) (Lib.hid C3) (Lib.hid C4) (Lib.hid C5) w hT hC

theorem ring_any (a a' b b' c c' : ByteArray) (ha : a.size ≤ 9223372036854775807) (ha' : a'.size ≤ 9223372036854775807) (hb : b.size ≤ 9223372036854775807) (hb' : b'.size ≤ 9223372036854775807) (hc : c.size ≤ 9223372036854775807) (hc' : c'.size ≤ 9223372036854775807)
    (w : World) (hT : Tab w) (hC : CutT w) :
    Calls Tryz.prog 7 #[FrV a a', FrV b b', FrV c c'] w fun e w' => e = .returned (.bool true) ∧ Below w.heap.size w w' := by
  have HR1 := fun w => right_any a a' ha ha' w
  have HR2 := fun w => right_any b b' hb hb' w
  have HR3 := fun w => right_any c c' hc hc' w
  cases h1 : rightB a a' with
  | false => rw [h1] at HR1; exact ring_no1 a a' b b' c c' (Lib.hid HR1) w hT hC
  | true =>
    rw [h1] at HR1
    cases h2 : rightB b b' with
    | false => rw [h2] at HR2; exact ring_no2 a a' b b' c c' (Lib.hid HR1) (Lib.hid HR2) w hT hC
    | true =>
      rw [h2] at HR2
      cases h3 : rightB c c' with
      | false => rw [h3] at HR3; exact ring_no3 a a' b b' c c' (Lib.hid HR1) (Lib.hid HR2) (Lib.hid HR3) w hT hC
      | true =>
        rw [h3] at HR3
        obtain ⟨n1, d1, rfl, rfl, hn1, hd1, hl1⟩ := right_T a a' h1
        obtain ⟨n2, d2, rfl, rfl, hn2, hd2, hl2⟩ := right_T b b' h2
        obtain ⟨n3, d3, rfl, rfl, hn3, hd3, hl3⟩ := right_T c c' h3
        exact ring_yes n1 d1 n2 d2 n3 d3 hn1 hd1 hn2 hd2 hn3 hd3 hl1 hl2 hl3 HR1 HR2 HR3 w hT hC
end Go.Proofs.YtolkiimlchfmlaaGreatDoor
