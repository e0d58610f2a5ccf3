/- Walks of the laws: sums and products obey the laws of a ring. -/
import Derived.Test.YtbmonfbbkmpdhaaDoorRc
namespace Go.Proofs.YtbmonfbbkmpdhaaDoor
open Go.RowKit Go.Proofs.Num

/-- Hands back a text and no error. -/
def OutT (w : World) (S : ByteArray) (e : Ending) (w' : World) : Prop := e = .returned (.tuple #[.string S, .int .i64 0]) ∧ Below w.heap.size w w'

/-- The examples of the chapter hold. -/
def Awake : Prop := ∀ w, Tab w → Calls Tryd.prog 14 #[] w fun e w' => e = .returned (.bool true) ∧ Below w.heap.size w w'

theorem cells3 (w : World) (s1 s2 s3 : ByteArray) (k : Nat) (h : k < [s1, s2, s3].length) : (w.alloc (.cells #[.string s1, .string s2, .string s3] 22)).cell? ⟨w.heap.size, k, none⟩ = some (.string [s1, s2, s3][k]) := by
  rw [cell_of_row _ w.heap.size k _ 22 (0, 0) (heap_alloc_new w _)]
  match k, h with
  | 0, _ => rfl
  | 1, _ => rfl
  | 2, _ => rfl

set_option maxHeartbeats 3200000 in
set_option maxRecDepth 100000 in
theorem ring_no (HA : Awake) (s1 s2 s3 : ByteArray) (h : [s1, s2, s3].all smallB = false) (w : World) (hT : Tab w) :
    Calls Tryd.prog 8 #[.string s1, .string s2, .string s3] w fun e w' => e = .returned (.bool true) ∧ Below w.heap.size w w' := by
  have hsm := small_any [s1, s2, s3] w.heap.size (w.alloc (.cells #[.string s1, .string s2, .string s3] 22)) (by simp) (cells3 w s1 s2 s3)
  rw [h] at hsm
  have HS := Lib.hid hsm
  have HT := Lib.hid hT
  have HAW := Lib.hid HA
  clear hsm hT HA h
  go_enter Tryd.func8, Tryd.ntmps8
  go_wp2_with fail
  refine (HS.out).mono ?_
  rintro e w1 ⟨rfl, rfl⟩
  go_wp2_with fail
  refine (HAW.out _ (HT.out.keep (below1 _ _))).mono ?_
  rintro e w2 ⟨rfl, hb2⟩
  go_wp2
  go_ret
  exact ⟨rfl, (below1 w _).trans (hb2.mono (below1 w _).size)⟩

set_option maxHeartbeats 6400000 in
set_option maxRecDepth 100000 in
theorem ring_yes (HA : Awake) (s1 s2 s3 : ByteArray) (h : [s1, s2, s3].all smallB = true) (w : World) (hT : Tab w) :
    Calls Tryd.prog 8 #[.string s1, .string s2, .string s3] w fun e w' => e = .returned (.bool true) ∧ Below w.heap.size w w' := by
  have hsm := small_any [s1, s2, s3] w.heap.size (w.alloc (.cells #[.string s1, .string s2, .string s3] 22)) (by simp) (cells3 w s1 s2 s3)
  rw [h] at hsm
  simp only [List.all_cons, List.all_nil, Bool.and_true, Bool.and_eq_true] at h
  obtain ⟨x, d, hx1, hd, hx⟩ := small_T s1 h.1
  obtain ⟨y, d', hy1, hd', hy⟩ := small_T s2 h.2.1
  obtain ⟨z, d'', hz1, hd'', hz⟩ := small_T s3 h.2.2
  obtain rfl : d' = d := by omega
  obtain rfl : d'' = d' := by omega
  obtain ⟨S, hS⟩ : ∃ S, S = T (y + z) := ⟨_, rfl⟩
  obtain ⟨L, hL⟩ : ∃ S, S = T (x * (y + z)) := ⟨_, rfl⟩
  obtain ⟨P, hP⟩ : ∃ S, S = T (x * y) := ⟨_, rfl⟩
  obtain ⟨Q, hQ⟩ : ∃ S, S = T (z * x) := ⟨_, rfl⟩
  obtain ⟨N, hN⟩ : ∃ S, S = T (-z) := ⟨_, rfl⟩
  have hsyz := hy.add hz
  have hx' : Few (d'' + 1) x := hx.le (by omega)
  have hlr := hx'.mul hsyz
  have hxy := hx.mul hy
  have hzx := hz.mul hx
  have hmul : x * (y + z) = z * x + x * y := by rw [Int.mul_add, Int.mul_comm z x, Int.add_comm]
  have c1 : ∀ w, Tab w → Calls Tryd.prog 23 #[.string s2, .string s3] w (OutT w S) := fun w hT => by
    rw [hS, hy1, hz1]; exact addT y z w hy hz (by omega) (by omega) hT
  have c2 : ∀ w, Tab w → Calls Tryd.prog 36 #[.string s1, .string S] w (OutT w L) := fun w hT => by
    rw [hS, hL, hx1]; exact mulT x (y + z) w hx' hsyz (by omega) (by omega) hT
  have c3 : ∀ w, Tab w → Calls Tryd.prog 36 #[.string s1, .string s2] w (OutT w P) := fun w hT => by
    rw [hP, hx1, hy1]; exact mulT x y w hx hy (by omega) (by omega) hT
  have c4 : ∀ w, Tab w → Calls Tryd.prog 36 #[.string s3, .string s1] w (OutT w Q) := fun w hT => by
    rw [hQ, hz1, hx1]; exact mulT z x w hz hx (by omega) (by omega) hT
  have c5 : ∀ w, Tab w → Calls Tryd.prog 23 #[.string Q, .string P] w (OutT w L) := fun w hT => by
    rw [hQ, hP, hL, hmul]; exact addT (z * x) (x * y) w hzx hxy (by omega) (by omega) hT
  have c6 : ∀ w, Tab w → Calls Tryd.prog 36 #[.string s2, .string s1] w (OutT w P) := fun w hT => by
    rw [hP, hy1, hx1, Int.mul_comm x y]; exact mulT y x w hy hx (by omega) (by omega) hT
  have c7 : ∀ w, Tab w → Calls Tryd.prog 25 #[.string L, .string Q] w (OutT w P) := fun w hT => by
    have e : x * y = x * (y + z) - z * x := by rw [hmul]; omega
    rw [hP, hL, hQ, e]; exact subT (x * (y + z)) (z * x) w hlr (hzx.le (by omega)) (by omega) (by omega) hT
  have c8 : ∀ w, Tab w → Calls Tryd.prog 28 #[.string s3] w (OutT w N) := fun w hT => by
    rw [hN, hz1]; exact negT z w hz (by omega) (by omega) hT
  have c9 : ∀ w, Tab w → Calls Tryd.prog 23 #[.string S, .string N] w (OutT w s2) := fun w hT => by
    have e : y = (y + z) + -z := by omega
    have h9 := addT (y + z) (-z) w hsyz (hz.neg.le (by omega)) (by omega) (by omega) hT
    rw [← e] at h9
    rw [hS, hN, hy1]; exact h9
  have H1 := Lib.hid c1; have H2 := Lib.hid c2; have H3 := Lib.hid c3; have H4 := Lib.hid c4; have H5 := Lib.hid c5
  have H6 := Lib.hid c6; have H7 := Lib.hid c7; have H8 := Lib.hid c8; have H9 := Lib.hid c9
  have HS := Lib.hid hsm
  have HT := Lib.hid hT
  have HAW := Lib.hid HA
  clear hsm hT HA h c1 c2 c3 c4 c5 c6 c7 c8 c9 hx hy hz hx1 hy1 hz1 hS hL hP hQ hN hsyz hx' hlr hxy hzx hmul hd hd' hd'' d''
  clear x y z
  go_enter Tryd.func8, Tryd.ntmps8
  go_wp2_with fail
  refine (HS.out).mono ?_
  rintro e w0 ⟨rfl, rfl⟩
  have hb0 : Below w.heap.size w (w.alloc (.cells #[.string s1, .string s2, .string s3] 22)) := below1 w _
  generalize w.alloc (.cells #[.string s1, .string s2, .string s3] 22) = w0 at *
  go_wp2_with fail
  refine (H1.out _ (HT.out.keep hb0)).mono ?_
  rintro e w1 ⟨rfl, hc1⟩
  have hb1 : Below w.heap.size w w1 := hb0.trans (hc1.mono hb0.size)
  clear hb0 hc1
  go_wp2_with fail
  refine (H2.out _ (HT.out.keep hb1)).mono ?_
  rintro e w2 ⟨rfl, hc2⟩
  have hb2 : Below w.heap.size w w2 := hb1.trans (hc2.mono hb1.size)
  clear hb1 hc2
  go_wp2_with fail
  refine (H3.out _ (HT.out.keep hb2)).mono ?_
  rintro e w3 ⟨rfl, hc3⟩
  have hb3 : Below w.heap.size w w3 := hb2.trans (hc3.mono hb2.size)
  clear hb2 hc3
  go_wp2_with fail
  refine (H4.out _ (HT.out.keep hb3)).mono ?_
  rintro e w4 ⟨rfl, hc4⟩
  have hb4 : Below w.heap.size w w4 := hb3.trans (hc4.mono hb3.size)
  clear hb3 hc4
  go_wp2_with fail
  refine (H5.out _ (HT.out.keep hb4)).mono ?_
  rintro e w5 ⟨rfl, hc5⟩
  have hb5 : Below w.heap.size w w5 := hb4.trans (hc5.mono hb4.size)
  clear hb4 hc5
  go_wp2_with fail
  refine (H6.out _ (HT.out.keep hb5)).mono ?_
  rintro e w6 ⟨rfl, hc6⟩
  have hb6 : Below w.heap.size w w6 := hb5.trans (hc6.mono hb5.size)
  clear hb5 hc6
  go_wp2_with fail
  refine (H7.out _ (HT.out.keep hb6)).mono ?_
  rintro e w7 ⟨rfl, hc7⟩
  have hb7 : Below w.heap.size w w7 := hb6.trans (hc7.mono hb6.size)
  clear hb6 hc7
  go_wp2_with fail
  refine (H8.out _ (HT.out.keep hb7)).mono ?_
  rintro e w8 ⟨rfl, hc8⟩
  have hb8 : Below w.heap.size w w8 := hb7.trans (hc8.mono hb7.size)
  clear hb7 hc8
  go_wp2_with fail
  refine (H9.out _ (HT.out.keep hb8)).mono ?_
  rintro e w9 ⟨rfl, hc9⟩
  have hb9 : Below w.heap.size w w9 := hb8.trans (hc9.mono hb8.size)
  clear hb8 hc9
  go_wp2_with fail
  refine (HAW.out _ (HT.out.keep hb9)).mono ?_
  rintro e w10 ⟨rfl, hc10⟩
  have hb10 : Below w.heap.size w w10 := hb9.trans (hc10.mono hb9.size)
  go_wp2
  go_ret
  exact ⟨rfl, hb10⟩

theorem ring_any (HA : Awake) (s1 s2 s3 : ByteArray) (w : World) (hT : Tab w) :
    Calls Tryd.prog 8 #[.string s1, .string s2, .string s3] w fun e w' => e = .returned (.bool true) ∧ Below w.heap.size w w' := by
  cases h : [s1, s2, s3].all smallB with
  | false => exact ring_no HA s1 s2 s3 h w hT
  | true => exact ring_yes HA s1 s2 s3 h w hT

end Go.Proofs.YtbmonfbbkmpdhaaDoor
