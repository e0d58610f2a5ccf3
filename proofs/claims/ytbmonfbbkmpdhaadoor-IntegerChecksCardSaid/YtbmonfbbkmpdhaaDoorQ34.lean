/- Walks of the laws: a number is the quotient, times the divisor, and the remainder. And: Walks of the laws: the greatest common divisor divides, is combined by the coefficients, and grows by a common factor. And: Walks of the laws: the examples of the chapter. -/
import Derived.Test.YtbmonfbbkmpdhaaDoorQ33
import Derived.Test.YtbmonfbbkmpdhaaDoorQ29
import Derived.Test.YtbmonfbbkmpdhaaDoorQ27
import Derived.Test.YtbmonfbbkmpdhaaDoorQ26
import Derived.Test.YtbmonfbbkmpdhaaDoorQ25
namespace Go.Proofs.YtbmonfbbkmpdhaaDoor
open Go.RowKit Go.Proofs.Num

theorem absT {d : Nat} (x : Int) (w : World) (hx : Few d x) (h1 : 1 ≤ d) (hd : d ≤ 1024) (hT : Tab w) :
    Calls Tryd.prog 29 #[.string (T x)] w fun e w' => e = .returned (.tuple #[.string (T ((x.natAbs : Nat) : Int)), .int .i64 0]) ∧ Below w.heap.size w w' := by
  have h := abs_ok (T x) (hx.size h1 hd) (hx.chk h1 hd) w hT
  have hn : Few d ((x.natAbs : Nat) : Int) := hx.of_le (by omega)
  rw [T_data, parse_itoa, hn.tx h1 hd, hn.te h1 hd] at h
  exact h

theorem T0_list : (T 0).toList = [48] := by rw [Lib.toList_data, T_data]; kernel_rfl
theorem T_zero (x : Int) : ((T x).toList == [48]) = decide (x = 0) := by rw [← T0_list]; exact eq_T x 0

theorem rests_facts (x y : Int) (hy : y ≠ 0) : qz x y * y + rz x y = x ∧ (sgn (rz x y) = 0 ∨ (sgn (rz x y) = sgn y)) ∧ cmpZ (((rz x y).natAbs : Nat) : Int) ((y.natAbs : Nat) : Int) = -1 := by
  obtain ⟨h1, h2, h3⟩ := qz_spec x y hy
  have h4 := rz_le x y hy
  refine ⟨by rw [Int.mul_comm]; omega, ?_, by unfold cmpZ; rw [if_pos (by omega)]⟩
  by_cases h0 : rz x y = 0
  · left; rw [h0]; rfl
  · right
    rcases (show 0 < y ∨ y < 0 by omega) with h | h
    · have := h2 h; rw [sgn_pos h, sgn_pos (by omega)]
    · have := h3 h; rw [sgn_neg h, sgn_neg (by omega)]

set_option maxHeartbeats 3200000 in
set_option maxRecDepth 100000 in
theorem rests_no (HA : Awake) (s1 s2 : ByteArray) (h : [s1, s2].all smallB = false) (w : World) (hT : Tab w) :
    Calls Tryd.prog 10 #[.string s1, .string s2] w fun e w' => e = .returned (.bool true) ∧ Below w.heap.size w w' := by
  have hsm := small_any [s1, s2] w.heap.size (w.alloc (.cells #[.string s1, .string s2] 22)) (by simp) (cells2 w s1 s2)
  rw [h] at hsm
  have HS := Lib.hid hsm
  have HT := Lib.hid hT
  have HAW := Lib.hid HA
  clear hsm hT HA h
  go_enter Tryd.func10, Tryd.ntmps10
  go_wp2_with fail
  refine (HS.out).mono ?_
  rintro e w1 ⟨rfl, rfl⟩
  go_wp2_with fail
  refine (HAW.out _ (HT.out.keep (below1 _ _))).mono ?_
  rintro e w2 ⟨rfl, hb2⟩
  go_wp2
  go_ret
  exact ⟨rfl, (below1 w _).trans (hb2.mono (below1 w _).size)⟩

set_option maxHeartbeats 6400000 in
set_option maxRecDepth 100000 in
theorem rests_yes (HA : Awake) (s1 s2 : ByteArray) (h : [s1, s2].all smallB = true) (w : World) (hT : Tab w) :
    Calls Tryd.prog 10 #[.string s1, .string s2] w fun e w' => e = .returned (.bool true) ∧ Below w.heap.size w w' := by
  have hsm := small_any [s1, s2] w.heap.size (w.alloc (.cells #[.string s1, .string s2] 22)) (by simp) (cells2 w s1 s2)
  rw [h] at hsm
  simp only [List.all_cons, List.all_nil, Bool.and_true, Bool.and_eq_true] at h
  obtain ⟨x, d, hx1, hd, hx⟩ := small_T s1 h.1
  obtain ⟨y, d', hy1, hd', hy⟩ := small_T s2 h.2
  obtain rfl : d' = d := by omega
  have hz := T_zero y
  rw [← hy1] at hz
  have HS := Lib.hid hsm
  have HT := Lib.hid hT
  have HAW := Lib.hid HA
  clear hsm hT HA h
  by_cases hy0 : y = 0
  · rw [decide_eq_true hy0] at hz
    clear hx hy hx1 hy1 hd hd' hy0
    go_enter Tryd.func10, Tryd.ntmps10
    go_wp2_with fail
    refine (HS.out).mono ?_
    rintro e w0 ⟨rfl, rfl⟩
    go_wp2_with fail
    refine (HAW.out _ (HT.out.keep (below1 _ _))).mono ?_
    rintro e w2 ⟨rfl, hb2⟩
    go_wp2
    go_ret
    exact ⟨rfl, (below1 w _).trans (hb2.mono (below1 w _).size)⟩
  · rw [decide_eq_false hy0] at hz
    obtain ⟨f1, f2, f3⟩ := rests_facts x y hy0
    have hq : Few d' (qz x y) := hx.of_le (qz_le x y hy0)
    have hr : Few d' (rz x y) := hy.of_le (Nat.le_of_lt (rz_le x y hy0))
    have hp := hq.mul hy
    obtain ⟨Q, hQ⟩ : ∃ S, S = T (qz x y) := ⟨_, rfl⟩
    obtain ⟨R, hR⟩ : ∃ S, S = T (rz x y) := ⟨_, rfl⟩
    obtain ⟨P, hP⟩ : ∃ S, S = T (qz x y * y) := ⟨_, rfl⟩
    obtain ⟨M, hM⟩ : ∃ S, S = T (((rz x y).natAbs : Nat) : Int) := ⟨_, rfl⟩
    obtain ⟨N, hN⟩ : ∃ S, S = T ((y.natAbs : Nat) : Int) := ⟨_, rfl⟩
    obtain ⟨u, hu⟩ : ∃ u, u = sgn (rz x y) := ⟨_, rfl⟩
    obtain ⟨v, hv⟩ : ∃ u, u = sgn y := ⟨_, rfl⟩
    rw [← hu, ← hv] at f2
    have c1 : ∀ w, Tab w → Calls Tryd.prog 40 #[.string s1, .string s2] w (OutT w Q) := fun w hT => by
      rw [hQ, hx1, hy1]; exact quoT x y w hx hy (by omega) (by omega) hy0 hT
    have c2 : ∀ w, Tab w → Calls Tryd.prog 41 #[.string s1, .string s2] w (OutT w R) := fun w hT => by
      rw [hR, hx1, hy1]; exact remT x y w hx hy (by omega) (by omega) hy0 hT
    have c3 : ∀ w, Tab w → Calls Tryd.prog 36 #[.string Q, .string s2] w (OutT w P) := fun w hT => by
      rw [hQ, hP, hy1]; exact mulT (qz x y) y w hq hy (by omega) (by omega) hT
    have c4 : ∀ w, Tab w → Calls Tryd.prog 23 #[.string P, .string R] w (OutT w s1) := fun w hT => by
      have h9 := addT (qz x y * y) (rz x y) w hp (hr.le (by omega)) (by omega) (by omega) hT
      rw [f1] at h9
      rw [hP, hR, hx1]; exact h9
    have c5 : ∀ w, Calls Tryd.prog 17 #[.string R] w (OutI w u) := fun w => by
      rw [hR, hu]; exact sgnT (rz x y) w hr (by omega) (by omega)
    have c6 : ∀ w, Calls Tryd.prog 17 #[.string s2] w (OutI w v) := fun w => by
      rw [hy1, hv]; exact sgnT y w hy (by omega) (by omega)
    have c7 : ∀ w, Tab w → Calls Tryd.prog 29 #[.string R] w (OutT w M) := fun w hT => by
      rw [hR, hM]; exact absT (rz x y) w hr (by omega) (by omega) hT
    have c8 : ∀ w, Tab w → Calls Tryd.prog 29 #[.string s2] w (OutT w N) := fun w hT => by
      rw [hy1, hN]; exact absT y w hy (by omega) (by omega) hT
    have c9 : ∀ w, Calls Tryd.prog 27 #[.string M, .string N] w (OutI w (-1)) := fun w => by
      have h9 := cmpT (((rz x y).natAbs : Nat) : Int) ((y.natAbs : Nat) : Int) w (hr.of_le (by omega)) (hy.of_le (by omega)) (show 1 ≤ d' by omega) (by omega)
      rw [f3] at h9
      rw [hM, hN]; exact h9
    have H1 := Lib.hid c1; have H2 := Lib.hid c2; have H3 := Lib.hid c3; have H4 := Lib.hid c4; have H5 := Lib.hid c5
    have H6 := Lib.hid c6; have H7 := Lib.hid c7; have H8 := Lib.hid c8; have H9 := Lib.hid c9
    have hg : ((u == 0) || (u == v)) = true := by
      rcases f2 with h | h
      · rw [h]; rfl
      · rw [h]; simp
    have HGU := Lib.hid hg
    clear c1 c2 c3 c4 c5 c6 c7 c8 c9 f1 f2 f3 hq hr hp hx hy hx1 hy1 hQ hR hP hM hN hu hv hd hd' hy0 hg
    clear x y
    go_enter Tryd.func10, Tryd.ntmps10
    go_wp2_with fail
    refine (HS.out).mono ?_
    rintro e w0 ⟨rfl, rfl⟩
    have hb0 : Below w.heap.size w (w.alloc (.cells #[.string s1, .string s2] 22)) := below1 w _
    generalize w.alloc (.cells #[.string s1, .string s2] 22) = w0 at *
    go_wp2_with fail
    refine (H1.out _ (HT.out.keep hb0)).mono ?_
    rintro e w1 ⟨rfl, hc1⟩
    have hb1 : Below w.heap.size w w1 := hb0.trans (hc1.mono hb0.size)
    clear hb0 hc1
    go_wp2_with fail
    refine (H2.out _ (HT.out.keep hb1)).mono ?_
    rintro e w2 ⟨rfl, hc2⟩
    have hb2 : Below w.heap.size w w2 := hb1.trans (hc2.mono hb1.size)
    clear hb1 hc2
    go_wp2_with fail
    refine (H3.out _ (HT.out.keep hb2)).mono ?_
    rintro e w3 ⟨rfl, hc3⟩
    have hb3 : Below w.heap.size w w3 := hb2.trans (hc3.mono hb2.size)
    clear hb2 hc3
    go_wp2_with fail
    refine (H4.out _ (HT.out.keep hb3)).mono ?_
    rintro e w4 ⟨rfl, hc4⟩
    have hb4 : Below w.heap.size w w4 := hb3.trans (hc4.mono hb3.size)
    clear hb3 hc4
    go_wp2_with fail
    refine (H5.out _).mono ?_
    rintro e w5 ⟨rfl, hc5⟩
    have hb5 : Below w.heap.size w w5 := hb4.trans (hc5.mono hb4.size)
    clear hb4 hc5
    go_wp2_with fail
    refine (H6.out _).mono ?_
    rintro e w6 ⟨rfl, hc6⟩
    have hb6 : Below w.heap.size w w6 := hb5.trans (hc6.mono hb5.size)
    clear hb5 hc6
    go_wp2_with fail
    refine (H7.out _ (HT.out.keep hb6)).mono ?_
    rintro e w7 ⟨rfl, hc7⟩
    have hb7 : Below w.heap.size w w7 := hb6.trans (hc7.mono hb6.size)
    clear hb6 hc7
    go_wp2_with fail
    refine (H8.out _ (HT.out.keep hb7)).mono ?_
    rintro e w8 ⟨rfl, hc8⟩
    have hb8 : Below w.heap.size w w8 := hb7.trans (hc8.mono hb7.size)
    clear hb7 hc8
    go_wp2_with fail
    refine (H9.out _).mono ?_
    rintro e w9 ⟨rfl, hc9⟩
    have hb9 : Below w.heap.size w w9 := hb8.trans (hc9.mono hb8.size)
    clear hb8 hc9
    cases hu0 : (u == 0) with
    | true =>
      have HU := Lib.hid hu0
      go_wp2_with fail
      refine (HAW.out _ (HT.out.keep hb9)).mono ?_
      rintro e w10 ⟨rfl, hc10⟩
      go_wp2
      go_ret
      exact ⟨rfl, hb9.trans (hc10.mono hb9.size)⟩
    | false =>
      have huv : (u == v) = true := by
        have := HGU.out
        rwa [hu0, Bool.false_or] at this
      go_wp2_with fail
      refine (HAW.out _ (HT.out.keep hb9)).mono ?_
      rintro e w10 ⟨rfl, hc10⟩
      go_wp2
      go_ret
      exact ⟨rfl, hb9.trans (hc10.mono hb9.size)⟩

theorem rests_any (HA : Awake) (s1 s2 : ByteArray) (w : World) (hT : Tab w) :
    Calls Tryd.prog 10 #[.string s1, .string s2] w fun e w' => e = .returned (.bool true) ∧ Below w.heap.size w w' := by
  cases h : [s1, s2].all smallB with
  | false => exact rests_no HA s1 s2 h w hT
  | true => exact rests_yes HA s1 s2 h w hT
end Go.Proofs.YtbmonfbbkmpdhaaDoor

namespace Go.Proofs.YtbmonfbbkmpdhaaDoor
open Go.RowKit Go.Proofs.Num

theorem bez_dvd (n m : Int) : (bez n m).1 ∣ n ∧ (bez n m).1 ∣ m := by
  rw [(bez_spec n m).2]
  constructor
  · rw [← Int.natAbs_dvd_natAbs, Int.natAbs_natCast]; exact Nat.gcd_dvd_left _ _
  · rw [← Int.natAbs_dvd_natAbs, Int.natAbs_natCast]; exact Nat.gcd_dvd_right _ _
theorem bez_zero {n m : Int} (h : (bez n m).1 = 0) : n = 0 ∧ m = 0 := by
  obtain ⟨h1, h2⟩ := bez_dvd n m
  rw [h] at h1 h2
  exact ⟨Int.zero_dvd.1 h1, Int.zero_dvd.1 h2⟩
theorem gcd_times (x y z : Int) : ((Nat.gcd (x * z).natAbs (y * z).natAbs : Nat) : Int) = ((((bez x y).1 * z).natAbs : Nat) : Int) := by
  rw [Int.natAbs_mul, Int.natAbs_mul, Int.natAbs_mul, Nat.gcd_mul_right, (bez_spec x y).2, Int.natAbs_natCast]

def Out3 (w : World) (A B C : ByteArray) (e : Ending) (w' : World) : Prop := e = .returned (.tuple #[.string A, .string B, .string C, .int .i64 0]) ∧ Below w.heap.size w w'

set_option maxHeartbeats 3200000 in
set_option maxRecDepth 100000 in
theorem comb_no (HA : Awake) (s1 s2 s3 : ByteArray) (h : [s1, s2, s3].all smallB = false) (w : World) (hT : Tab w) :
    Calls Tryd.prog 11 #[.string s1, .string s2, .string s3] w fun e w' => e = .returned (.bool true) ∧ Below w.heap.size w w' := by
  have hsm := small_any [s1, s2, s3] w.heap.size (w.alloc (.cells #[.string s1, .string s2, .string s3] 22)) (by simp) (cells3 w s1 s2 s3)
  rw [h] at hsm
  have HS := Lib.hid hsm
  have HT := Lib.hid hT
  have HAW := Lib.hid HA
  clear hsm hT HA h
  go_enter Tryd.func11, Tryd.ntmps11
  go_wp2_with fail
  refine (HS.out).mono ?_
  rintro e w1 ⟨rfl, rfl⟩
  go_wp2_with fail
  refine (HAW.out _ (HT.out.keep (below1 _ _))).mono ?_
  rintro e w2 ⟨rfl, hb2⟩
  go_wp2
  go_ret
  exact ⟨rfl, (below1 w _).trans (hb2.mono (below1 w _).size)⟩

set_option maxHeartbeats 6400000 in
set_option maxRecDepth 100000 in
theorem comb_yes (HA : Awake) (s1 s2 s3 : ByteArray) (h : [s1, s2, s3].all smallB = true) (w : World) (hT : Tab w) :
    Calls Tryd.prog 11 #[.string s1, .string s2, .string s3] w fun e w' => e = .returned (.bool true) ∧ Below w.heap.size w w' := by
  have hsm := small_any [s1, s2, s3] w.heap.size (w.alloc (.cells #[.string s1, .string s2, .string s3] 22)) (by simp) (cells3 w s1 s2 s3)
  rw [h] at hsm
  simp only [List.all_cons, List.all_nil, Bool.and_true, Bool.and_eq_true] at h
  obtain ⟨x, d, hx1, hd, hx⟩ := small_T s1 h.1
  obtain ⟨y, d', hy1, hd', hy⟩ := small_T s2 h.2.1
  obtain ⟨z, d'', hz1, hd'', hz⟩ := small_T s3 h.2.2
  obtain rfl : d' = d := by omega
  obtain rfl : d'' = d' := by omega
  obtain ⟨hg, hX, hY⟩ := bez_few hx hy (by omega)
  have hspec := (bez_spec x y).1
  have hdv := bez_dvd x y
  have hgt := gcd_times x y z
  have hz0 : (bez x y).1 = 0 → x = 0 ∧ y = 0 := bez_zero
  obtain ⟨g, hge⟩ : ∃ g, g = (bez x y).1 := ⟨_, rfl⟩
  obtain ⟨p, hpe⟩ : ∃ g, g = (bez x y).2.1 := ⟨_, rfl⟩
  obtain ⟨q, hqe⟩ : ∃ g, g = (bez x y).2.2 := ⟨_, rfl⟩
  have hbz : ∀ w, Tab w → Calls Tryd.prog 44 #[.string s1, .string s2] w (Out3 w (T g) (T p) (T q)) := fun w hT => by
    rw [hx1, hy1, hge, hpe, hqe]; exact bezT x y w hx hy (by omega) (by omega) hT
  rw [← hge] at hg hspec hdv hgt hz0
  rw [← hpe] at hX hspec
  rw [← hqe] at hY hspec
  obtain ⟨G, hG⟩ : ∃ S, S = T g := ⟨_, rfl⟩
  obtain ⟨X, hXe⟩ : ∃ S, S = T p := ⟨_, rfl⟩
  obtain ⟨Y, hYe⟩ : ∃ S, S = T q := ⟨_, rfl⟩
  obtain ⟨P, hP⟩ : ∃ S, S = T (x * p) := ⟨_, rfl⟩
  obtain ⟨Q, hQ⟩ : ∃ S, S = T (y * q) := ⟨_, rfl⟩
  have hxp := hx.mul hX
  have hyq := (hy.le (show d'' ≤ d'' + d'' + 1 by omega)).mul hY
  have c1 : ∀ w, Tab w → Calls Tryd.prog 44 #[.string s1, .string s2] w (Out3 w G X Y) := fun w hT => by
    rw [hG, hXe, hYe]; exact hbz w hT
  have c2 : ∀ w, Tab w → Calls Tryd.prog 36 #[.string s1, .string X] w (OutT w P) := fun w hT => by
    rw [hx1, hXe, hP]; exact mulT x p w hx hX (by omega) (by omega) hT
  have c3 : ∀ w, Tab w → Calls Tryd.prog 36 #[.string s2, .string Y] w (OutT w Q) := fun w hT => by
    rw [hy1, hYe, hQ]; exact mulT y q w (hy.le (show d'' ≤ d'' + d'' + 1 by omega)) hY (by omega) (by omega) hT
  have c4 : ∀ w, Tab w → Calls Tryd.prog 23 #[.string P, .string Q] w (OutT w G) := fun w hT => by
    have h9 := addT (x * p) (y * q) w (hxp.le (show d'' + d'' ≤ d'' + d'' + 1 + (d'' + d'' + 1) by omega)) hyq (by omega) (by omega) hT
    rw [hspec] at h9
    rw [hP, hQ, hG]; exact h9
  have H1 := Lib.hid c1; have H2 := Lib.hid c2; have H3 := Lib.hid c3; have H4 := Lib.hid c4
  have HS := Lib.hid hsm
  have HT := Lib.hid hT
  have HAW := Lib.hid HA
  have hgz := T_zero g
  rw [← hG] at hgz
  clear hsm hT HA h c1 c2 c3 c4 hbz hspec hxp hyq
  by_cases hg0 : g = 0
  · obtain ⟨rfl, rfl⟩ := hz0 hg0
    have e1 := T_zero 0
    rw [decide_eq_true rfl] at e1
    have k1 : (s1.toList == [48]) = true := by rw [hx1]; exact e1
    have k2 : (s2.toList == [48]) = true := by rw [hy1]; exact e1
    rw [decide_eq_true hg0] at hgz
    clear hx hy hz hx1 hy1 hz1 hG hXe hYe hP hQ hg hX hY hdv hgt hz0 hge hpe hqe hd hd' hd'' e1 hg0
    go_enter Tryd.func11, Tryd.ntmps11
    go_wp2_with fail
    refine (HS.out).mono ?_
    rintro e w0 ⟨rfl, rfl⟩
    have hb0 : Below w.heap.size w (w.alloc (.cells #[.string s1, .string s2, .string s3] 22)) := below1 w _
    generalize w.alloc (.cells #[.string s1, .string s2, .string s3] 22) = w0 at *
    go_wp2_with fail
    refine (H1.out _ (HT.out.keep hb0)).mono ?_
    rintro e w1 ⟨rfl, hc1⟩
    have hb1 : Below w.heap.size w w1 := hb0.trans (hc1.mono hb0.size)
    clear hb0 hc1
    go_wp2_with fail
    refine (H2.out _ (HT.out.keep hb1)).mono ?_
    rintro e w2 ⟨rfl, hc2⟩
    have hb2 : Below w.heap.size w w2 := hb1.trans (hc2.mono hb1.size)
    clear hb1 hc2
    go_wp2_with fail
    refine (H3.out _ (HT.out.keep hb2)).mono ?_
    rintro e w3 ⟨rfl, hc3⟩
    have hb3 : Below w.heap.size w w3 := hb2.trans (hc3.mono hb2.size)
    clear hb2 hc3
    go_wp2_with fail
    refine (H4.out _ (HT.out.keep hb3)).mono ?_
    rintro e w4 ⟨rfl, hc4⟩
    have hb4 : Below w.heap.size w w4 := hb3.trans (hc4.mono hb3.size)
    clear hb3 hc4
    go_wp2_with fail
    refine (HAW.out _ (HT.out.keep hb4)).mono ?_
    rintro e w10 ⟨rfl, hc10⟩
    have hb10 : Below w.heap.size w w10 := hb4.trans (hc10.mono hb4.size)
    go_wp2
    go_ret
    exact ⟨rfl, hb10⟩
  · rw [decide_eq_false hg0] at hgz
    have hr0 : rz x g = 0 := (qz_exact hg0 hdv.1).2
    have ht0 : rz y g = 0 := (qz_exact hg0 hdv.2).2
    have hgz2 := hg.mul hz
    have hxz := hx.mul hz
    have hyz := hy.mul hz
    obtain ⟨R, hR⟩ : ∃ S, S = T 0 := ⟨_, rfl⟩
    obtain ⟨A, hA⟩ : ∃ S, S = T (x * z) := ⟨_, rfl⟩
    obtain ⟨B, hB⟩ : ∃ S, S = T (y * z) := ⟨_, rfl⟩
    obtain ⟨C, hC⟩ : ∃ S, S = T (g * z) := ⟨_, rfl⟩
    obtain ⟨E, hE⟩ : ∃ S, S = T (((g * z).natAbs : Nat) : Int) := ⟨_, rfl⟩
    have k1 : (R.toList == [48]) = true := by
      have e1 := T_zero 0
      rw [decide_eq_true rfl] at e1
      rw [hR]; exact e1
    have c5 : ∀ w, Tab w → Calls Tryd.prog 41 #[.string s1, .string G] w (OutT w R) := fun w hT => by
      have h9 := remT x g w hx hg (by omega) (by omega) hg0 hT
      rw [hr0] at h9
      rw [hx1, hG, hR]; exact h9
    have c6 : ∀ w, Tab w → Calls Tryd.prog 41 #[.string s2, .string G] w (OutT w R) := fun w hT => by
      have h9 := remT y g w hy hg (by omega) (by omega) hg0 hT
      rw [ht0] at h9
      rw [hy1, hG, hR]; exact h9
    have c7 : ∀ w, Tab w → Calls Tryd.prog 36 #[.string s1, .string s3] w (OutT w A) := fun w hT => by
      rw [hx1, hz1, hA]; exact mulT x z w hx hz (by omega) (by omega) hT
    have c8 : ∀ w, Tab w → Calls Tryd.prog 36 #[.string s2, .string s3] w (OutT w B) := fun w hT => by
      rw [hy1, hz1, hB]; exact mulT y z w hy hz (by omega) (by omega) hT
    have c9 : ∀ w, Tab w → Calls Tryd.prog 43 #[.string A, .string B] w (OutT w E) := fun w hT => by
      have h9 := gcdT (x * z) (y * z) w hxz hyz (by omega) (by omega) hT
      rw [hgt] at h9
      rw [hA, hB, hE]; exact h9
    have c10 : ∀ w, Tab w → Calls Tryd.prog 36 #[.string G, .string s3] w (OutT w C) := fun w hT => by
      rw [hG, hz1, hC]; exact mulT g z w hg hz (by omega) (by omega) hT
    have c11 : ∀ w, Tab w → Calls Tryd.prog 29 #[.string C] w (OutT w E) := fun w hT => by
      rw [hC, hE]; exact absT (g * z) w hgz2 (by omega) (by omega) hT
    have H5 := Lib.hid c5; have H6 := Lib.hid c6; have H7 := Lib.hid c7; have H8 := Lib.hid c8; have H9 := Lib.hid c9; have H10 := Lib.hid c10; have H11 := Lib.hid c11
    clear c5 c6 c7 c8 c9 c10 c11 hr0 ht0 hgz2 hxz hyz hR hA hB hC hE hx hy hz hx1 hy1 hz1 hG hXe hYe hP hQ hg hX hY hdv hgt hz0 hge hpe hqe hd hd' hd'' hg0
    clear x y z p q g
    go_enter Tryd.func11, Tryd.ntmps11
    go_wp2_with fail
    refine (HS.out).mono ?_
    rintro e w0 ⟨rfl, rfl⟩
    have hb0 : Below w.heap.size w (w.alloc (.cells #[.string s1, .string s2, .string s3] 22)) := below1 w _
    generalize w.alloc (.cells #[.string s1, .string s2, .string s3] 22) = w0 at *
    go_wp2_with fail
    refine (H1.out _ (HT.out.keep hb0)).mono ?_
    rintro e w1 ⟨rfl, hc1⟩
    have hb1 : Below w.heap.size w w1 := hb0.trans (hc1.mono hb0.size)
    clear hb0 hc1
    go_wp2_with fail
    refine (H2.out _ (HT.out.keep hb1)).mono ?_
    rintro e w2 ⟨rfl, hc2⟩
    have hb2 : Below w.heap.size w w2 := hb1.trans (hc2.mono hb1.size)
    clear hb1 hc2
    go_wp2_with fail
    refine (H3.out _ (HT.out.keep hb2)).mono ?_
    rintro e w3 ⟨rfl, hc3⟩
    have hb3 : Below w.heap.size w w3 := hb2.trans (hc3.mono hb2.size)
    clear hb2 hc3
    go_wp2_with fail
    refine (H4.out _ (HT.out.keep hb3)).mono ?_
    rintro e w4 ⟨rfl, hc4⟩
    have hb4 : Below w.heap.size w w4 := hb3.trans (hc4.mono hb3.size)
    clear hb3 hc4
    go_wp2_with fail
    refine (H5.out _ (HT.out.keep hb4)).mono ?_
    rintro e w5 ⟨rfl, hc5⟩
    have hb5 : Below w.heap.size w w5 := hb4.trans (hc5.mono hb4.size)
    clear hb4 hc5
    go_wp2_with fail
    refine (H6.out _ (HT.out.keep hb5)).mono ?_
    rintro e w6 ⟨rfl, hc6⟩
    have hb6 : Below w.heap.size w w6 := hb5.trans (hc6.mono hb5.size)
    clear hb5 hc6
    go_wp2_with fail
    refine (H7.out _ (HT.out.keep hb6)).mono ?_
    rintro e w7 ⟨rfl, hc7⟩
    have hb7 : Below w.heap.size w w7 := hb6.trans (hc7.mono hb6.size)
    clear hb6 hc7
    go_wp2_with fail
    refine (H8.out _ (HT.out.keep hb7)).mono ?_
    rintro e w8 ⟨rfl, hc8⟩
    have hb8 : Below w.heap.size w w8 := hb7.trans (hc8.mono hb7.size)
    clear hb7 hc8
    go_wp2_with fail
    refine (H9.out _ (HT.out.keep hb8)).mono ?_
    rintro e w9 ⟨rfl, hc9⟩
    have hb9 : Below w.heap.size w w9 := hb8.trans (hc9.mono hb8.size)
    clear hb8 hc9
    go_wp2_with fail
    refine (H10.out _ (HT.out.keep hb9)).mono ?_
    rintro e w10 ⟨rfl, hc10⟩
    have hb10 : Below w.heap.size w w10 := hb9.trans (hc10.mono hb9.size)
    clear hb9 hc10
    go_wp2_with fail
    refine (H11.out _ (HT.out.keep hb10)).mono ?_
    rintro e w11 ⟨rfl, hc11⟩
    have hb11 : Below w.heap.size w w11 := hb10.trans (hc11.mono hb10.size)
    clear hb10 hc11
    go_wp2_with fail
    refine (HAW.out _ (HT.out.keep hb11)).mono ?_
    rintro e w20 ⟨rfl, hc20⟩
    have hb20 : Below w.heap.size w w20 := hb11.trans (hc20.mono hb11.size)
    go_wp2
    go_ret
    exact ⟨rfl, hb20⟩

theorem comb_any (HA : Awake) (s1 s2 s3 : ByteArray) (w : World) (hT : Tab w) :
    Calls Tryd.prog 11 #[.string s1, .string s2, .string s3] w fun e w' => e = .returned (.bool true) ∧ Below w.heap.size w w' := by
  cases h : [s1, s2, s3].all smallB with
  | false => exact comb_no HA s1 s2 s3 h w hT
  | true => exact comb_yes HA s1 s2 s3 h w hT
end Go.Proofs.YtbmonfbbkmpdhaaDoor

namespace Go.Proofs.YtbmonfbbkmpdhaaDoor
open Go.RowKit Go.Proofs.Num

theorem tm7 : T (-7) = ⟨#[45, 55]⟩ := by kernel_rfl
theorem t2 : T 2 = ⟨#[50]⟩ := by kernel_rfl
theorem tm4 : T (-4) = ⟨#[45, 52]⟩ := by kernel_rfl
theorem t1 : T 1 = ⟨#[49]⟩ := by kernel_rfl
theorem t7 : T 7 = ⟨#[55]⟩ := by kernel_rfl
theorem tm2 : T (-2) = ⟨#[45, 50]⟩ := by kernel_rfl
theorem tm1 : T (-1) = ⟨#[45, 49]⟩ := by kernel_rfl
theorem t12 : T 12 = ⟨#[49, 50]⟩ := by kernel_rfl
theorem t18 : T 18 = ⟨#[49, 56]⟩ := by kernel_rfl
theorem t6 : T 6 = ⟨#[54]⟩ := by kernel_rfl
theorem t4 : T 4 = ⟨#[52]⟩ := by kernel_rfl
theorem t0 : T 0 = ⟨#[48]⟩ := by kernel_rfl
theorem tm3 : T (-3) = ⟨#[45, 51]⟩ := by kernel_rfl
theorem tm243 : T (-243) = ⟨#[45, 50, 52, 51]⟩ := by kernel_rfl

def OutS (w : World) (S : Array UInt8) (e : Ending) (w' : World) : Prop := e = .returned (.tuple #[.string ⟨S⟩, .int .i64 0]) ∧ Below w.heap.size w w'

theorem few1 {z : Int} (h : z.natAbs < 1000) : Few 3 z := h

theorem quo1 (w : World) (hT : Tab w) : Calls Tryd.prog 40 #[.string ⟨#[45, 55]⟩, .string ⟨#[50]⟩] w (OutS w #[45, 52]) := by
  have h := quoT (-7) 2 w (few1 (by decide)) (few1 (by decide)) (by omega) (by omega) (by omega) hT
  rw [show qz (-7) 2 = -4 from rfl, tm7, t2, tm4] at h; exact h
theorem quo2 (w : World) (hT : Tab w) : Calls Tryd.prog 40 #[.string ⟨#[55]⟩, .string ⟨#[45, 50]⟩] w (OutS w #[45, 52]) := by
  have h := quoT 7 (-2) w (few1 (by decide)) (few1 (by decide)) (by omega) (by omega) (by omega) hT
  rw [show qz 7 (-2) = -4 from rfl, t7, tm2, tm4] at h; exact h
theorem rem1 (w : World) (hT : Tab w) : Calls Tryd.prog 41 #[.string ⟨#[45, 55]⟩, .string ⟨#[50]⟩] w (OutS w #[49]) := by
  have h := remT (-7) 2 w (few1 (by decide)) (few1 (by decide)) (by omega) (by omega) (by omega) hT
  rw [show rz (-7) 2 = 1 from rfl, tm7, t2, t1] at h; exact h
theorem rem2 (w : World) (hT : Tab w) : Calls Tryd.prog 41 #[.string ⟨#[55]⟩, .string ⟨#[45, 50]⟩] w (OutS w #[45, 49]) := by
  have h := remT 7 (-2) w (few1 (by decide)) (few1 (by decide)) (by omega) (by omega) (by omega) hT
  rw [show rz 7 (-2) = -1 from rfl, t7, tm2, tm1] at h; exact h

def OutB (w : World) (A B C : Array UInt8) (e : Ending) (w' : World) : Prop := e = .returned (.tuple #[.string ⟨A⟩, .string ⟨B⟩, .string ⟨C⟩, .int .i64 0]) ∧ Below w.heap.size w w'

theorem bez_12_18 : bez 12 18 = (6, 2, -1) := by
  have h : inv 18 12 0 1 = (6, -1) := by
    rw [inv_go (by omega), show rz 18 12 = 6 from rfl, show (0 : Int) - qz 18 12 * 1 = -1 from rfl, inv_go (by omega), show rz 12 6 = 0 from rfl, inv_stop]
  unfold bez
  rw [if_neg (by omega)]
  rw [show (((18 : Int).natAbs : Nat) : Int) = 18 from rfl, show rz 12 18 = 12 from rfl, h]
  rfl
theorem bez1 (w : World) (hT : Tab w) : Calls Tryd.prog 44 #[.string ⟨#[49, 50]⟩, .string ⟨#[49, 56]⟩] w (OutB w #[54] #[50] #[45, 49]) := by
  have h := bezT 12 18 w (few1 (by decide)) (few1 (by decide)) (by omega) (by omega) hT
  rw [bez_12_18, t12, t18, t6, t2, tm1] at h; exact h
theorem bez2 (w : World) (hT : Tab w) : Calls Tryd.prog 44 #[.string ⟨#[52]⟩, .string ⟨#[48]⟩] w (OutB w #[52] #[49] #[48]) := by
  have h := bezT 4 0 w (few1 (by decide)) (few1 (by decide)) (by omega) (by omega) hT
  rw [show bez 4 0 = (4, 1, 0) from by unfold bez; rw [if_pos rfl]; rfl, t4, t0, t1] at h; exact h
theorem pow1 (w : World) (hT : Tab w) : Calls Tryd.prog 38 #[.string ⟨#[45, 51]⟩, .int .i64 5] w (OutS w #[45, 50, 52, 51]) := by
  have hf : Few 3 (-3) := few1 (by decide)
  have hg : Few 3 (-243) := few1 (by decide)
  have h := pow_any (T (-3)) (hf.size (by omega) (by omega)) (hf.chk (by omega) (by omega)) 5 (by omega) w hT
  rw [T_data, parse_itoa, show ((-3 : Int) ^ 5) = -243 from by decide, hg.tx (by omega) (by omega), hg.te (by omega) (by omega), tm3] at h
  have h2 : str (Lib.itoa (-243)) = .string ⟨#[45, 50, 52, 51]⟩ := by rw [T_str, tm243]
  unfold TextOut at h
  rw [h2] at h
  exact h
theorem chk1 (w : World) : Calls Tryd.prog 19 #[.string ⟨#[48, 48, 55]⟩] w fun e w' => e = .returned (.int .i64 3) ∧ w = w' := by
  have h := check_any ⟨#[48, 48, 55]⟩ w (by decide)
  rwa [show chk (⟨#[48, 48, 55]⟩ : ByteArray).data.toList = 3 from by decide] at h
theorem chk2' (w : World) : Calls Tryd.prog 19 #[.string ⟨#[45, 48]⟩] w fun e w' => e = .returned (.int .i64 3) ∧ w = w' := by
  have h := check_any ⟨#[45, 48]⟩ w (by decide)
  rwa [show chk (⟨#[45, 48]⟩ : ByteArray).data.toList = 3 from by decide] at h
theorem chk3 (w : World) : Calls Tryd.prog 19 #[.string ⟨#[43, 49]⟩] w fun e w' => e = .returned (.int .i64 3) ∧ w = w' := by
  have h := check_any ⟨#[43, 49]⟩ w (by decide)
  rwa [show chk (⟨#[43, 49]⟩ : ByteArray).data.toList = 3 from by decide] at h

def exs : Array Value := #[.string ⟨#[45, 55]⟩, .string ⟨#[50]⟩, .string ⟨#[45, 52]⟩, .string ⟨#[49]⟩, .string ⟨#[55]⟩, .string ⟨#[45, 50]⟩, .string ⟨#[45, 52]⟩, .string ⟨#[45, 49]⟩]

set_option maxHeartbeats 6400000 in
set_option maxRecDepth 100000 in
theorem awake_any : Awake := by
  intro w hT
  have HT := Lib.hid hT
  clear hT
  obtain ⟨W, hW⟩ : ∃ W, W = w.alloc (.cells exs 60) := ⟨_, rfl⟩
  have hbW : Below w.heap.size w W := by rw [hW]; exact below1 _ _
  have hrow : W.heap[w.heap.size]? = some (.cells exs 60 (0, 0)) := by rw [hW]; exact heap_alloc_new w _
  have hlt : w.heap.size < W.heap.size := (Array.getElem?_eq_some_iff.1 hrow).1
  have hc : ∀ wr, Below W.heap.size W wr → ∀ j, wr.cell? ⟨w.heap.size, j, none⟩ = exs[j]? := fun wr hb j => by
    rw [hb.cell (p := ⟨w.heap.size, j, none⟩) hlt]; exact cell_of_row W w.heap.size j exs 60 (0, 0) hrow
  unfold exs at hW
  have HW := Lib.hid hW
  have HC := Lib.hid hc
  have HB := Lib.hid hbW
  clear hW hrow hc hbW
  go_enter Tryd.func14, Tryd.ntmps14
  go_wp2_with fail
  rw [← HW.out]
  go_loopw [21] (fun si wr => ∃ k : Nat, k ≤ 2 ∧ si = .int .i64 k ∧ Below W.heap.size W wr) (fun si _ => 2 - (intOf si).toNat)
  case atStart => exact ⟨0, by omega, rfl, Below.refl _ _⟩
  case round =>
    obtain ⟨k, hk, rfl, hb⟩ := hrel
    have HBR := Lib.hid hb
    rcases (show k = 0 ∨ k = 1 ∨ k = 2 by omega) with rfl | rfl | rfl
    · have g0 : wr.cell? ⟨w.heap.size, 0, none⟩ = some (.string ⟨#[45, 55]⟩) := HC.out wr hb 0
      have g1 : wr.cell? ⟨w.heap.size, 1, none⟩ = some (.string ⟨#[50]⟩) := HC.out wr hb 1
      have g2 : wr.cell? ⟨w.heap.size, 2, none⟩ = some (.string ⟨#[45, 52]⟩) := HC.out wr hb 2
      have g3 : wr.cell? ⟨w.heap.size, 3, none⟩ = some (.string ⟨#[49]⟩) := HC.out wr hb 3
      clear hb
      obtain ⟨W2, hW2⟩ : ∃ W2, W2 = wr.alloc (.cells #[.string ⟨#[45, 55]⟩, .string ⟨#[50]⟩, .string ⟨#[45, 52]⟩, .string ⟨#[49]⟩] 60) := ⟨_, rfl⟩
      have hrow2 : W2.heap[wr.heap.size]? = some (.cells #[.string ⟨#[45, 55]⟩, .string ⟨#[50]⟩, .string ⟨#[45, 52]⟩, .string ⟨#[49]⟩] 60 (0, 0)) := by rw [hW2]; exact heap_alloc_new wr _
      have hb2 : Below w.heap.size w W2 := by
        rw [hW2]
        have h5 := HB.out.trans (HBR.out.mono HB.out.size)
        exact h5.alloc h5.size _
      have hbr2 : Below W.heap.size W W2 := by rw [hW2]; exact HBR.out.alloc HBR.out.size _
      have hlt2 := (Array.getElem?_eq_some_iff.1 hrow2).1
      have HC2 : Hid (∀ u, Below W2.heap.size W2 u → ∀ j, u.cell? ⟨wr.heap.size, j, none⟩ = (#[.string ⟨#[45, 55]⟩, .string ⟨#[50]⟩, .string ⟨#[45, 52]⟩, .string ⟨#[49]⟩] : Array Value)[j]?) := fun u hb j => by
        rw [hb.cell (p := ⟨wr.heap.size, j, none⟩) hlt2]; exact cell_of_row W2 wr.heap.size j _ 60 (0, 0) hrow2
      have HW2 := Lib.hid hW2
      have HB2 := Lib.hid hb2
      have HBR2 := Lib.hid hbr2
      clear hW2 hrow2 hb2 hbr2
      go_wp2_with fail
      rw [← HW2.out]
      refine (quo1 _ (HT.out.keep HB2.out)).mono ?_
      rintro e w1 ⟨rfl, hb1⟩
      have f0 : w1.cell? ⟨wr.heap.size, 0, none⟩ = some (.string ⟨#[45, 55]⟩) := HC2.out w1 hb1 0
      have f1 : w1.cell? ⟨wr.heap.size, 1, none⟩ = some (.string ⟨#[50]⟩) := HC2.out w1 hb1 1
      have HB1 := Lib.hid hb1
      clear hb1
      go_wp2_with fail
      refine (rem1 _ (HT.out.keep (HB2.out.trans (HB1.out.mono HB2.out.size)))).mono ?_
      rintro e w3 ⟨rfl, hb3⟩
      have hb23 := HB1.out.trans (hb3.mono HB1.out.size)
      have h2 : w3.cell? ⟨wr.heap.size, 2, none⟩ = some (.string ⟨#[45, 52]⟩) := HC2.out w3 hb23 2
      have h3 : w3.cell? ⟨wr.heap.size, 3, none⟩ = some (.string ⟨#[49]⟩) := HC2.out w3 hb23 3
      have HE := Lib.hid (HBR2.out.trans (hb23.mono HBR2.out.size))
      clear hb3 hb23 f0 f1
      go_wp2
      go_roundw
      case rel => exact ⟨1, by omega, rfl, HE.out⟩
      case measure => simp [intOf]
    · have g0 : wr.cell? ⟨w.heap.size, 4, none⟩ = some (.string ⟨#[55]⟩) := HC.out wr hb 4
      have g1 : wr.cell? ⟨w.heap.size, 5, none⟩ = some (.string ⟨#[45, 50]⟩) := HC.out wr hb 5
      have g2 : wr.cell? ⟨w.heap.size, 6, none⟩ = some (.string ⟨#[45, 52]⟩) := HC.out wr hb 6
      have g3 : wr.cell? ⟨w.heap.size, 7, none⟩ = some (.string ⟨#[45, 49]⟩) := HC.out wr hb 7
      clear hb
      obtain ⟨W2, hW2⟩ : ∃ W2, W2 = wr.alloc (.cells #[.string ⟨#[55]⟩, .string ⟨#[45, 50]⟩, .string ⟨#[45, 52]⟩, .string ⟨#[45, 49]⟩] 60) := ⟨_, rfl⟩
      have hrow2 : W2.heap[wr.heap.size]? = some (.cells #[.string ⟨#[55]⟩, .string ⟨#[45, 50]⟩, .string ⟨#[45, 52]⟩, .string ⟨#[45, 49]⟩] 60 (0, 0)) := by rw [hW2]; exact heap_alloc_new wr _
      have hb2 : Below w.heap.size w W2 := by
        rw [hW2]
        have h5 := HB.out.trans (HBR.out.mono HB.out.size)
        exact h5.alloc h5.size _
      have hbr2 : Below W.heap.size W W2 := by rw [hW2]; exact HBR.out.alloc HBR.out.size _
      have hlt2 := (Array.getElem?_eq_some_iff.1 hrow2).1
      have HC2 : Hid (∀ u, Below W2.heap.size W2 u → ∀ j, u.cell? ⟨wr.heap.size, j, none⟩ = (#[.string ⟨#[55]⟩, .string ⟨#[45, 50]⟩, .string ⟨#[45, 52]⟩, .string ⟨#[45, 49]⟩] : Array Value)[j]?) := fun u hb j => by
        rw [hb.cell (p := ⟨wr.heap.size, j, none⟩) hlt2]; exact cell_of_row W2 wr.heap.size j _ 60 (0, 0) hrow2
      have HW2 := Lib.hid hW2
      have HB2 := Lib.hid hb2
      have HBR2 := Lib.hid hbr2
      clear hW2 hrow2 hb2 hbr2
      go_wp2_with fail
      rw [← HW2.out]
      refine (quo2 _ (HT.out.keep HB2.out)).mono ?_
      rintro e w1 ⟨rfl, hb1⟩
      have f0 : w1.cell? ⟨wr.heap.size, 0, none⟩ = some (.string ⟨#[55]⟩) := HC2.out w1 hb1 0
      have f1 : w1.cell? ⟨wr.heap.size, 1, none⟩ = some (.string ⟨#[45, 50]⟩) := HC2.out w1 hb1 1
      have HB1 := Lib.hid hb1
      clear hb1
      go_wp2_with fail
      refine (rem2 _ (HT.out.keep (HB2.out.trans (HB1.out.mono HB2.out.size)))).mono ?_
      rintro e w3 ⟨rfl, hb3⟩
      have hb23 := HB1.out.trans (hb3.mono HB1.out.size)
      have h2 : w3.cell? ⟨wr.heap.size, 2, none⟩ = some (.string ⟨#[45, 52]⟩) := HC2.out w3 hb23 2
      have h3 : w3.cell? ⟨wr.heap.size, 3, none⟩ = some (.string ⟨#[45, 49]⟩) := HC2.out w3 hb23 3
      have HE := Lib.hid (HBR2.out.trans (hb23.mono HBR2.out.size))
      clear hb3 hb23 f0 f1
      go_wp2
      go_roundw
      case rel => exact ⟨2, by omega, rfl, HE.out⟩
      case measure => simp [intOf]
    · have hb0 := HB.out.trans (hb.mono HB.out.size)
      have HB0 := Lib.hid hb0
      clear hb hb0
      go_wp2_with fail
      refine (bez1 _ (HT.out.keep HB0.out)).mono ?_
      rintro e w1 ⟨rfl, hb1⟩
      have HB1 := Lib.hid (HB0.out.trans (hb1.mono HB0.out.size))
      clear hb1
      go_wp2_with fail
      refine (bez2 _ (HT.out.keep HB1.out)).mono ?_
      rintro e w2 ⟨rfl, hb2⟩
      have HB2 := Lib.hid (HB1.out.trans (hb2.mono HB1.out.size))
      clear hb2
      go_wp2_with fail
      refine (pow1 _ (HT.out.keep HB2.out)).mono ?_
      rintro e w3 ⟨rfl, hb3⟩
      have HB3 := Lib.hid (HB2.out.trans (hb3.mono HB2.out.size))
      clear hb3
      go_wp2_with fail
      refine (chk1 _).mono ?_
      rintro e w4 ⟨rfl, rfl⟩
      go_wp2_with fail
      refine (chk2' _).mono ?_
      rintro e w4 ⟨rfl, rfl⟩
      go_wp2_with fail
      refine (chk3 _).mono ?_
      rintro e w4 ⟨rfl, rfl⟩
      go_wp2
      go_ret
      exact ⟨rfl, HB3.out⟩
end Go.Proofs.YtbmonfbbkmpdhaaDoor
