/- Walks of the laws: a number is the quotient, times the divisor, and the remainder. -/
import Derived.Test.YtbmonfbbkmpdhaaDoorRd
import Derived.Test.YtbmonfbbkmpdhaaDoorJc
import Derived.Test.YtbmonfbbkmpdhaaDoorJb
namespace Go.Proofs.YtbmonfbbkmpdhaaDoor
open Go.RowKit Go.Proofs.Num

theorem absT {d : Nat} (x : Int) (w : World) (hx : Few d x) (h1 : 1 ≤ d) (hd : d ≤ 1024) (hT : Tab w) :
    Calls Tryd.prog 29 #[.string (T x)] w fun e w' => e = .returned (.tuple #[.string (T ((x.natAbs : Nat) : Int)), .int .i64 0]) ∧ Below w.heap.size w w' := by
  have h := abs_ok (T x) (hx.size h1 hd) (hx.chk h1 hd) w hT
  have hn : Few d ((x.natAbs : Nat) : Int) := hx.of_le (by omega)
  rw [T_data, parse_itoa, hn.tx h1 hd, hn.te h1 hd] at h
  exact h

theorem T0_list : (T 0).toList = [48] := by rw [Lib.toList_data, T_data]; kernel_rfl
theorem T_zero (x : Int) : ((T x).toList == [48]) = decide (x = 0) := by rw [← T0_list]; exact eq_T x 0

theorem rests_facts (x y : Int) (hy : y ≠ 0) : qz x y * y + rz x y = x ∧ (sgn (rz x y) = 0 ∨ (sgn (rz x y) = sgn y)) ∧ cmpZ (((rz x y).natAbs : Nat) : Int) ((y.natAbs : Nat) : Int) = -1 := by
  obtain ⟨h1, h2, h3⟩ := qz_spec x y hy
  have h4 := rz_le x y hy
  refine ⟨by rw [Int.mul_comm]; omega, ?_, by unfold cmpZ; rw [if_pos (by omega)]⟩
  by_cases h0 : rz x y = 0
  · left; rw [h0]; rfl
  · right
    rcases (show 0 < y ∨ y < 0 by omega) with h | h
    · have := h2 h; rw [sgn_pos h, sgn_pos (by omega)]
    · have := h3 h; rw [sgn_neg h, sgn_neg (by omega)]

set_option maxHeartbeats 3200000 in
set_option maxRecDepth 100000 in
theorem rests_no (HA : Awake) (s1 s2 : ByteArray) (h : [s1, s2].all smallB = false) (w : World) (hT : Tab w) :
    Calls Tryd.prog 10 #[.string s1, .string s2] w fun e w' => e = .returned (.bool true) ∧ Below w.heap.size w w' := by
  have hsm := small_any [s1, s2] w.heap.size (w.alloc (.cells #[.string s1, .string s2] 22)) (by simp) (cells2 w s1 s2)
  rw [h] at hsm
  have HS := Lib.hid hsm
  have HT := Lib.hid hT
  have HAW := Lib.hid HA
  clear hsm hT HA h
  go_enter Tryd.func10, Tryd.ntmps10
  go_wp2_with fail
  refine (HS.out).mono ?_
  rintro e w1 ⟨rfl, rfl⟩
  go_wp2_with fail
  refine (HAW.out _ (HT.out.keep (below1 _ _))).mono ?_
  rintro e w2 ⟨rfl, hb2⟩
  go_wp2
  go_ret
  exact ⟨rfl, (below1 w _).trans (hb2.mono (below1 w _).size)⟩

set_option maxHeartbeats 6400000 in
set_option maxRecDepth 100000 in
theorem rests_yes (HA : Awake) (s1 s2 : ByteArray) (h : [s1, s2].all smallB = true) (w : World) (hT : Tab w) :
    Calls Tryd.prog 10 #[.string s1, .string s2] w fun e w' => e = .returned (.bool true) ∧ Below w.heap.size w w' := by
  have hsm := small_any [s1, s2] w.heap.size (w.alloc (.cells #[.string s1, .string s2] 22)) (by simp) (cells2 w s1 s2)
  rw [h] at hsm
  simp only [List.all_cons, List.all_nil, Bool.and_true, Bool.and_eq_true] at h
  obtain ⟨x, d, hx1, hd, hx⟩ := small_T s1 h.1
  obtain ⟨y, d', hy1, hd', hy⟩ := small_T s2 h.2
  obtain rfl : d' = d := by omega
  have hz := T_zero y
  rw [← hy1] at hz
  have HS := Lib.hid hsm
  have HT := Lib.hid hT
  have HAW := Lib.hid HA
  clear hsm hT HA h
  by_cases hy0 : y = 0
  · rw [decide_eq_true hy0] at hz
    clear hx hy hx1 hy1 hd hd' hy0
    go_enter Tryd.func10, Tryd.ntmps10
    go_wp2_with fail
    refine (HS.out).mono ?_
    rintro e w0 ⟨rfl, rfl⟩
    go_wp2_with fail
    refine (HAW.out _ (HT.out.keep (below1 _ _))).mono ?_
    rintro e w2 ⟨rfl, hb2⟩
    go_wp2
    go_ret
    exact ⟨rfl, (below1 w _).trans (hb2.mono (below1 w _).size)⟩
  · rw [decide_eq_false hy0] at hz
    obtain ⟨f1, f2, f3⟩ := rests_facts x y hy0
    have hq : Few d' (qz x y) := hx.of_le (qz_le x y hy0)
    have hr : Few d' (rz x y) := hy.of_le (Nat.le_of_lt (rz_le x y hy0))
    have hp := hq.mul hy
    obtain ⟨Q, hQ⟩ : ∃ S, S = T (qz x y) := ⟨_, rfl⟩
    obtain ⟨R, hR⟩ : ∃ S, S = T (rz x y) := ⟨_, rfl⟩
    obtain ⟨P, hP⟩ : ∃ S, S = T (qz x y * y) := ⟨_, rfl⟩
    obtain ⟨M, hM⟩ : ∃ S, S = T (((rz x y).natAbs : Nat) : Int) := ⟨_, rfl⟩
    obtain ⟨N, hN⟩ : ∃ S, S = T ((y.natAbs : Nat) : Int) := ⟨_, rfl⟩
    obtain ⟨u, hu⟩ : ∃ u, u = sgn (rz x y) := ⟨_, rfl⟩
    obtain ⟨v, hv⟩ : ∃ u, u = sgn y := ⟨_, rfl⟩
    rw [← hu, ← hv] at f2
    have c1 : ∀ w, Tab w → Calls Tryd.prog 40 #[.string s1, .string s2] w (OutT w Q) := fun w hT => by
      rw [hQ, hx1, hy1]; exact quoT x y w hx hy (by omega) (by omega) hy0 hT
    have c2 : ∀ w, Tab w → Calls Tryd.prog 41 #[.string s1, .string s2] w (OutT w R) := fun w hT => by
      rw [hR, hx1, hy1]; exact remT x y w hx hy (by omega) (by omega) hy0 hT
    have c3 : ∀ w, Tab w → Calls Tryd.prog 36 #[.string Q, .string s2] w (OutT w P) := fun w hT => by
      rw [hQ, hP, hy1]; exact mulT (qz x y) y w hq hy (by omega) (by omega) hT
    have c4 : ∀ w, Tab w → Calls Tryd.prog 23 #[.string P, .string R] w (OutT w s1) := fun w hT => by
      have h9 := addT (qz x y * y) (rz x y) w hp (hr.le (by omega)) (by omega) (by omega) hT
      rw [f1] at h9
      rw [hP, hR, hx1]; exact h9
    have c5 : ∀ w, Calls Tryd.prog 17 #[.string R] w (OutI w u) := fun w => by
      rw [hR, hu]; exact sgnT (rz x y) w hr (by omega) (by omega)
    have c6 : ∀ w, Calls Tryd.prog 17 #[.string s2] w (OutI w v) := fun w => by
      rw [hy1, hv]; exact sgnT y w hy (by omega) (by omega)
    have c7 : ∀ w, Tab w → Calls Tryd.prog 29 #[.string R] w (OutT w M) := fun w hT => by
      rw [hR, hM]; exact absT (rz x y) w hr (by omega) (by omega) hT
    have c8 : ∀ w, Tab w → Calls Tryd.prog 29 #[.string s2] w (OutT w N) := fun w hT => by
      rw [hy1, hN]; exact absT y w hy (by omega) (by omega) hT
    have c9 : ∀ w, Calls Tryd.prog 27 #[.string M, .string N] w (OutI w (-1)) := fun w => by
      have h9 := cmpT (((rz x y).natAbs : Nat) : Int) ((y.natAbs : Nat) : Int) w (hr.of_le (by omega)) (hy.of_le (by omega)) (show 1 ≤ d' by omega) (by omega)
      rw [f3] at h9
      rw [hM, hN]; exact h9
    have H1 := Lib.hid c1; have H2 := Lib.hid c2; have H3 := Lib.hid c3; have H4 := Lib.hid c4; have H5 := Lib.hid c5
    have H6 := Lib.hid c6; have H7 := Lib.hid c7; have H8 := Lib.hid c8; have H9 := Lib.hid c9
    have hg : ((u == 0) || (u == v)) = true := by
      rcases f2 with h | h
      · rw [h]; rfl
      · rw [h]; simp
    have HGU := Lib.hid hg
    clear c1 c2 c3 c4 c5 c6 c7 c8 c9 f1 f2 f3 hq hr hp hx hy hx1 hy1 hQ hR hP hM hN hu hv hd hd' hy0 hg
    clear x y
    go_enter Tryd.func10, Tryd.ntmps10
    go_wp2_with fail
    refine (HS.out).mono ?_
    rintro e w0 ⟨rfl, rfl⟩
    have hb0 : Below w.heap.size w (w.alloc (.cells #[.string s1, .string s2] 22)) := below1 w _
    generalize w.alloc (.cells #[.string s1, .string s2] 22) = w0 at *
    go_wp2_with fail
    refine (H1.out _ (HT.out.keep hb0)).mono ?_
    rintro e w1 ⟨rfl, hc1⟩
    have hb1 : Below w.heap.size w w1 := hb0.trans (hc1.mono hb0.size)
    clear hb0 hc1
    go_wp2_with fail
    refine (H2.out _ (HT.out.keep hb1)).mono ?_
    rintro e w2 ⟨rfl, hc2⟩
    have hb2 : Below w.heap.size w w2 := hb1.trans (hc2.mono hb1.size)
    clear hb1 hc2
    go_wp2_with fail
    refine (H3.out _ (HT.out.keep hb2)).mono ?_
    rintro e w3 ⟨rfl, hc3⟩
    have hb3 : Below w.heap.size w w3 := hb2.trans (hc3.mono hb2.size)
    clear hb2 hc3
    go_wp2_with fail
    refine (H4.out _ (HT.out.keep hb3)).mono ?_
    rintro e w4 ⟨rfl, hc4⟩
    have hb4 : Below w.heap.size w w4 := hb3.trans (hc4.mono hb3.size)
    clear hb3 hc4
    go_wp2_with fail
    refine (H5.out _).mono ?_
    rintro e w5 ⟨rfl, hc5⟩
    have hb5 : Below w.heap.size w w5 := hb4.trans (hc5.mono hb4.size)
    clear hb4 hc5
    go_wp2_with fail
    refine (H6.out _).mono ?_
    rintro e w6 ⟨rfl, hc6⟩
    have hb6 : Below w.heap.size w w6 := hb5.trans (hc6.mono hb5.size)
    clear hb5 hc6
    go_wp2_with fail
    refine (H7.out _ (HT.out.keep hb6)).mono ?_
    rintro e w7 ⟨rfl, hc7⟩
    have hb7 : Below w.heap.size w w7 := hb6.trans (hc7.mono hb6.size)
    clear hb6 hc7
    go_wp2_with fail
    refine (H8.out _ (HT.out.keep hb7)).mono ?_
    rintro e w8 ⟨rfl, hc8⟩
    have hb8 : Below w.heap.size w w8 := hb7.trans (hc8.mono hb7.size)
    clear hb7 hc8
    go_wp2_with fail
    refine (H9.out _).mono ?_
    rintro e w9 ⟨rfl, hc9⟩
    have hb9 : Below w.heap.size w w9 := hb8.trans (hc9.mono hb8.size)
    clear hb8 hc9
    cases hu0 : (u == 0) with
    | true =>
      have HU := Lib.hid hu0
      go_wp2_with fail
      refine (HAW.out _ (HT.out.keep hb9)).mono ?_
      rintro e w10 ⟨rfl, hc10⟩
      go_wp2
      go_ret
      exact ⟨rfl, hb9.trans (hc10.mono hb9.size)⟩
    | false =>
      have huv : (u == v) = true := by
        have := HGU.out
        rwa [hu0, Bool.false_or] at this
      go_wp2_with fail
      refine (HAW.out _ (HT.out.keep hb9)).mono ?_
      rintro e w10 ⟨rfl, hc10⟩
      go_wp2
      go_ret
      exact ⟨rfl, hb9.trans (hc10.mono hb9.size)⟩

theorem rests_any (HA : Awake) (s1 s2 : ByteArray) (w : World) (hT : Tab w) :
    Calls Tryd.prog 10 #[.string s1, .string s2] w fun e w' => e = .returned (.bool true) ∧ Below w.heap.size w w' := by
  cases h : [s1, s2].all smallB with
  | false => exact rests_no HA s1 s2 h w hT
  | true => exact rests_yes HA s1 s2 h w hT
end Go.Proofs.YtbmonfbbkmpdhaaDoor
