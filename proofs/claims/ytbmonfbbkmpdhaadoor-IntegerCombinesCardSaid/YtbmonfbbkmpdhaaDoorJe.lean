/- Walks of the laws: the greatest common divisor divides, is combined by the coefficients, and grows by a common factor. -/
import Derived.Test.YtbmonfbbkmpdhaaDoorGc
import Derived.Test.YtbmonfbbkmpdhaaDoorJd
namespace Go.Proofs.YtbmonfbbkmpdhaaDoor
open Go.RowKit Go.Proofs.Num

theorem bez_dvd (n m : Int) : (bez n m).1 ∣ n ∧ (bez n m).1 ∣ m := by
  rw [(bez_spec n m).2]
  constructor
  · rw [← Int.natAbs_dvd_natAbs, Int.natAbs_natCast]; exact Nat.gcd_dvd_left _ _
  · rw [← Int.natAbs_dvd_natAbs, Int.natAbs_natCast]; exact Nat.gcd_dvd_right _ _
theorem bez_zero {n m : Int} (h : (bez n m).1 = 0) : n = 0 ∧ m = 0 := by
  obtain ⟨h1, h2⟩ := bez_dvd n m
  rw [h] at h1 h2
  exact ⟨Int.zero_dvd.1 h1, Int.zero_dvd.1 h2⟩
theorem gcd_times (x y z : Int) : ((Nat.gcd (x * z).natAbs (y * z).natAbs : Nat) : Int) = ((((bez x y).1 * z).natAbs : Nat) : Int) := by
  rw [Int.natAbs_mul, Int.natAbs_mul, Int.natAbs_mul, Nat.gcd_mul_right, (bez_spec x y).2, Int.natAbs_natCast]

def Out3 (w : World) (A B C : ByteArray) (e : Ending) (w' : World) : Prop := e = .returned (.tuple #[.string A, .string B, .string C, .int .i64 0]) ∧ Below w.heap.size w w'

set_option maxHeartbeats 3200000 in
set_option maxRecDepth 100000 in
theorem comb_no (HA : Awake) (s1 s2 s3 : ByteArray) (h : [s1, s2, s3].all smallB = false) (w : World) (hT : Tab w) :
    Calls Tryd.prog 11 #[.string s1, .string s2, .string s3] w fun e w' => e = .returned (.bool true) ∧ Below w.heap.size w w' := by
  have hsm := small_any [s1, s2, s3] w.heap.size (w.alloc (.cells #[.string s1, .string s2, .string s3] 22)) (by simp) (cells3 w s1 s2 s3)
  rw [h] at hsm
  have HS := Lib.hid hsm
  have HT := Lib.hid hT
  have HAW := Lib.hid HA
  clear hsm hT HA h
  go_enter Tryd.func11, Tryd.ntmps11
  go_wp2_with fail
  refine (HS.out).mono ?_
  rintro e w1 ⟨rfl, rfl⟩
  go_wp2_with fail
  refine (HAW.out _ (HT.out.keep (below1 _ _))).mono ?_
  rintro e w2 ⟨rfl, hb2⟩
  go_wp2
  go_ret
  exact ⟨rfl, (below1 w _).trans (hb2.mono (below1 w _).size)⟩

set_option maxHeartbeats 6400000 in
set_option maxRecDepth 100000 in
theorem comb_yes (HA : Awake) (s1 s2 s3 : ByteArray) (h : [s1, s2, s3].all smallB = true) (w : World) (hT : Tab w) :
    Calls Tryd.prog 11 #[.string s1, .string s2, .string s3] w fun e w' => e = .returned (.bool true) ∧ Below w.heap.size w w' := by
  have hsm := small_any [s1, s2, s3] w.heap.size (w.alloc (.cells #[.string s1, .string s2, .string s3] 22)) (by simp) (cells3 w s1 s2 s3)
  rw [h] at hsm
  simp only [List.all_cons, List.all_nil, Bool.and_true, Bool.and_eq_true] at h
  obtain ⟨x, d, hx1, hd, hx⟩ := small_T s1 h.1
  obtain ⟨y, d', hy1, hd', hy⟩ := small_T s2 h.2.1
  obtain ⟨z, d'', hz1, hd'', hz⟩ := small_T s3 h.2.2
  obtain rfl : d' = d := by omega
  obtain rfl : d'' = d' := by omega
  obtain ⟨hg, hX, hY⟩ := bez_few hx hy (by omega)
  have hspec := (bez_spec x y).1
  have hdv := bez_dvd x y
  have hgt := gcd_times x y z
  have hz0 : (bez x y).1 = 0 → x = 0 ∧ y = 0 := bez_zero
  obtain ⟨g, hge⟩ : ∃ g, g = (bez x y).1 := ⟨_, rfl⟩
  obtain ⟨p, hpe⟩ : ∃ g, g = (bez x y).2.1 := ⟨_, rfl⟩
  obtain ⟨q, hqe⟩ : ∃ g, g = (bez x y).2.2 := ⟨_, rfl⟩
  have hbz : ∀ w, Tab w → Calls Tryd.prog 44 #[.string s1, .string s2] w (Out3 w (T g) (T p) (T q)) := fun w hT => by
    rw [hx1, hy1, hge, hpe, hqe]; exact bezT x y w hx hy (by omega) (by omega) hT
  rw [← hge] at hg hspec hdv hgt hz0
  rw [← hpe] at hX hspec
  rw [← hqe] at hY hspec
  obtain ⟨G, hG⟩ : ∃ S, S = T g := ⟨_, rfl⟩
  obtain ⟨X, hXe⟩ : ∃ S, S = T p := ⟨_, rfl⟩
  obtain ⟨Y, hYe⟩ : ∃ S, S = T q := ⟨_, rfl⟩
  obtain ⟨P, hP⟩ : ∃ S, S = T (x * p) := ⟨_, rfl⟩
  obtain ⟨Q, hQ⟩ : ∃ S, S = T (y * q) := ⟨_, rfl⟩
  have hxp := hx.mul hX
  have hyq := (hy.le (show d'' ≤ d'' + d'' + 1 by omega)).mul hY
  have c1 : ∀ w, Tab w → Calls Tryd.prog 44 #[.string s1, .string s2] w (Out3 w G X Y) := fun w hT => by
    rw [hG, hXe, hYe]; exact hbz w hT
  have c2 : ∀ w, Tab w → Calls Tryd.prog 36 #[.string s1, .string X] w (OutT w P) := fun w hT => by
    rw [hx1, hXe, hP]; exact mulT x p w hx hX (by omega) (by omega) hT
  have c3 : ∀ w, Tab w → Calls Tryd.prog 36 #[.string s2, .string Y] w (OutT w Q) := fun w hT => by
    rw [hy1, hYe, hQ]; exact mulT y q w (hy.le (show d'' ≤ d'' + d'' + 1 by omega)) hY (by omega) (by omega) hT
  have c4 : ∀ w, Tab w → Calls Tryd.prog 23 #[.string P, .string Q] w (OutT w G) := fun w hT => by
    have h9 := addT (x * p) (y * q) w (hxp.le (show d'' + d'' ≤ d'' + d'' + 1 + (d'' + d'' + 1) by omega)) hyq (by omega) (by omega) hT
    rw [hspec] at h9
    rw [hP, hQ, hG]; exact h9
  have H1 := Lib.hid c1; have H2 := Lib.hid c2; have H3 := Lib.hid c3; have H4 := Lib.hid c4
  have HS := Lib.hid hsm
  have HT := Lib.hid hT
  have HAW := Lib.hid HA
  have hgz := T_zero g
  rw [← hG] at hgz
  clear hsm hT HA h c1 c2 c3 c4 hbz hspec hxp hyq
  by_cases hg0 : g = 0
  · obtain ⟨rfl, rfl⟩ := hz0 hg0
    have e1 := T_zero 0
    rw [decide_eq_true rfl] at e1
    have k1 : (s1.toList == [48]) = true := by rw [hx1]; exact e1
    have k2 : (s2.toList == [48]) = true := by rw [hy1]; exact e1
    rw [decide_eq_true hg0] at hgz
    clear hx hy hz hx1 hy1 hz1 hG hXe hYe hP hQ hg hX hY hdv hgt hz0 hge hpe hqe hd hd' hd'' e1 hg0
    go_enter Tryd.func11, Tryd.ntmps11
    go_wp2_with fail
    refine (HS.out).mono ?_
    rintro e w0 ⟨rfl, rfl⟩
    have hb0 : Below w.heap.size w (w.alloc (.cells #[.string s1, .string s2, .string s3] 22)) := below1 w _
    generalize w.alloc (.cells #[.string s1, .string s2, .string s3] 22) = w0 at *
    go_wp2_with fail
    refine (H1.out _ (HT.out.keep hb0)).mono ?_
    rintro e w1 ⟨rfl, hc1⟩
    have hb1 : Below w.heap.size w w1 := hb0.trans (hc1.mono hb0.size)
    clear hb0 hc1
    go_wp2_with fail
    refine (H2.out _ (HT.out.keep hb1)).mono ?_
    rintro e w2 ⟨rfl, hc2⟩
    have hb2 : Below w.heap.size w w2 := hb1.trans (hc2.mono hb1.size)
    clear hb1 hc2
    go_wp2_with fail
    refine (H3.out _ (HT.out.keep hb2)).mono ?_
    rintro e w3 ⟨rfl, hc3⟩
    have hb3 : Below w.heap.size w w3 := hb2.trans (hc3.mono hb2.size)
    clear hb2 hc3
    go_wp2_with fail
    refine (H4.out _ (HT.out.keep hb3)).mono ?_
    rintro e w4 ⟨rfl, hc4⟩
    have hb4 : Below w.heap.size w w4 := hb3.trans (hc4.mono hb3.size)
    clear hb3 hc4
    go_wp2_with fail
    refine (HAW.out _ (HT.out.keep hb4)).mono ?_
    rintro e w10 ⟨rfl, hc10⟩
    have hb10 : Below w.heap.size w w10 := hb4.trans (hc10.mono hb4.size)
    go_wp2
    go_ret
    exact ⟨rfl, hb10⟩
  · rw [decide_eq_false hg0] at hgz
    have hr0 : rz x g = 0 := (qz_exact hg0 hdv.1).2
    have ht0 : rz y g = 0 := (qz_exact hg0 hdv.2).2
    have hgz2 := hg.mul hz
    have hxz := hx.mul hz
    have hyz := hy.mul hz
    obtain ⟨R, hR⟩ : ∃ S, S = T 0 := ⟨_, rfl⟩
    obtain ⟨A, hA⟩ : ∃ S, S = T (x * z) := ⟨_, rfl⟩
    obtain ⟨B, hB⟩ : ∃ S, S = T (y * z) := ⟨_, rfl⟩
    obtain ⟨C, hC⟩ : ∃ S, S = T (g * z) := ⟨_, rfl⟩
    obtain ⟨E, hE⟩ : ∃ S, S = T (((g * z).natAbs : Nat) : Int) := ⟨_, rfl⟩
    have k1 : (R.toList == [48]) = true := by
      have e1 := T_zero 0
      rw [decide_eq_true rfl] at e1
      rw [hR]; exact e1
    have c5 : ∀ w, Tab w → Calls Tryd.prog 41 #[.string s1, .string G] w (OutT w R) := fun w hT => by
      have h9 := remT x g w hx hg (by omega) (by omega) hg0 hT
      rw [hr0] at h9
      rw [hx1, hG, hR]; exact h9
    have c6 : ∀ w, Tab w → Calls Tryd.prog 41 #[.string s2, .string G] w (OutT w R) := fun w hT => by
      have h9 := remT y g w hy hg (by omega) (by omega) hg0 hT
      rw [ht0] at h9
      rw [hy1, hG, hR]; exact h9
    have c7 : ∀ w, Tab w → Calls Tryd.prog 36 #[.string s1, .string s3] w (OutT w A) := fun w hT => by
      rw [hx1, hz1, hA]; exact mulT x z w hx hz (by omega) (by omega) hT
    have c8 : ∀ w, Tab w → Calls Tryd.prog 36 #[.string s2, .string s3] w (OutT w B) := fun w hT => by
      rw [hy1, hz1, hB]; exact mulT y z w hy hz (by omega) (by omega) hT
    have c9 : ∀ w, Tab w → Calls Tryd.prog 43 #[.string A, .string B] w (OutT w E) := fun w hT => by
      have h9 := gcdT (x * z) (y * z) w hxz hyz (by omega) (by omega) hT
      rw [hgt] at h9
      rw [hA, hB, hE]; exact h9
    have c10 : ∀ w, Tab w → Calls Tryd.prog 36 #[.string G, .string s3] w (OutT w C) := fun w hT => by
      rw [hG, hz1, hC]; exact mulT g z w hg hz (by omega) (by omega) hT
    have c11 : ∀ w, Tab w → Calls Tryd.prog 29 #[.string C] w (OutT w E) := fun w hT => by
      rw [hC, hE]; exact absT (g * z) w hgz2 (by omega) (by omega) hT
    have H5 := Lib.hid c5; have H6 := Lib.hid c6; have H7 := Lib.hid c7; have H8 := Lib.hid c8; have H9 := Lib.hid c9; have H10 := Lib.hid c10; have H11 := Lib.hid c11
    clear c5 c6 c7 c8 c9 c10 c11 hr0 ht0 hgz2 hxz hyz hR hA hB hC hE hx hy hz hx1 hy1 hz1 hG hXe hYe hP hQ hg hX hY hdv hgt hz0 hge hpe hqe hd hd' hd'' hg0
    clear x y z p q g
    go_enter Tryd.func11, Tryd.ntmps11
    go_wp2_with fail
    refine (HS.out).mono ?_
    rintro e w0 ⟨rfl, rfl⟩
    have hb0 : Below w.heap.size w (w.alloc (.cells #[.string s1, .string s2, .string s3] 22)) := below1 w _
    generalize w.alloc (.cells #[.string s1, .string s2, .string s3] 22) = w0 at *
    go_wp2_with fail
    refine (H1.out _ (HT.out.keep hb0)).mono ?_
    rintro e w1 ⟨rfl, hc1⟩
    have hb1 : Below w.heap.size w w1 := hb0.trans (hc1.mono hb0.size)
    clear hb0 hc1
    go_wp2_with fail
    refine (H2.out _ (HT.out.keep hb1)).mono ?_
    rintro e w2 ⟨rfl, hc2⟩
    have hb2 : Below w.heap.size w w2 := hb1.trans (hc2.mono hb1.size)
    clear hb1 hc2
    go_wp2_with fail
    refine (H3.out _ (HT.out.keep hb2)).mono ?_
    rintro e w3 ⟨rfl, hc3⟩
    have hb3 : Below w.heap.size w w3 := hb2.trans (hc3.mono hb2.size)
    clear hb2 hc3
    go_wp2_with fail
    refine (H4.out _ (HT.out.keep hb3)).mono ?_
    rintro e w4 ⟨rfl, hc4⟩
    have hb4 : Below w.heap.size w w4 := hb3.trans (hc4.mono hb3.size)
    clear hb3 hc4
    go_wp2_with fail
    refine (H5.out _ (HT.out.keep hb4)).mono ?_
    rintro e w5 ⟨rfl, hc5⟩
    have hb5 : Below w.heap.size w w5 := hb4.trans (hc5.mono hb4.size)
    clear hb4 hc5
    go_wp2_with fail
    refine (H6.out _ (HT.out.keep hb5)).mono ?_
    rintro e w6 ⟨rfl, hc6⟩
    have hb6 : Below w.heap.size w w6 := hb5.trans (hc6.mono hb5.size)
    clear hb5 hc6
    go_wp2_with fail
    refine (H7.out _ (HT.out.keep hb6)).mono ?_
    rintro e w7 ⟨rfl, hc7⟩
    have hb7 : Below w.heap.size w w7 := hb6.trans (hc7.mono hb6.size)
    clear hb6 hc7
    go_wp2_with fail
    refine (H8.out _ (HT.out.keep hb7)).mono ?_
    rintro e w8 ⟨rfl, hc8⟩
    have hb8 : Below w.heap.size w w8 := hb7.trans (hc8.mono hb7.size)
    clear hb7 hc8
    go_wp2_with fail
    refine (H9.out _ (HT.out.keep hb8)).mono ?_
    rintro e w9 ⟨rfl, hc9⟩
    have hb9 : Below w.heap.size w w9 := hb8.trans (hc9.mono hb8.size)
    clear hb8 hc9
    go_wp2_with fail
    refine (H10.out _ (HT.out.keep hb9)).mono ?_
    rintro e w10 ⟨rfl, hc10⟩
    have hb10 : Below w.heap.size w w10 := hb9.trans (hc10.mono hb9.size)
    clear hb9 hc10
    go_wp2_with fail
    refine (H11.out _ (HT.out.keep hb10)).mono ?_
    rintro e w11 ⟨rfl, hc11⟩
    have hb11 : Below w.heap.size w w11 := hb10.trans (hc11.mono hb10.size)
    clear hb10 hc11
    go_wp2_with fail
    refine (HAW.out _ (HT.out.keep hb11)).mono ?_
    rintro e w20 ⟨rfl, hc20⟩
    have hb20 : Below w.heap.size w w20 := hb11.trans (hc20.mono hb11.size)
    go_wp2
    go_ret
    exact ⟨rfl, hb20⟩

theorem comb_any (HA : Awake) (s1 s2 s3 : ByteArray) (w : World) (hT : Tab w) :
    Calls Tryd.prog 11 #[.string s1, .string s2, .string s3] w fun e w' => e = .returned (.bool true) ∧ Below w.heap.size w w' := by
  cases h : [s1, s2, s3].all smallB with
  | false => exact comb_no HA s1 s2 s3 h w hT
  | true => exact comb_yes HA s1 s2 s3 h w hT
end Go.Proofs.YtbmonfbbkmpdhaaDoor
