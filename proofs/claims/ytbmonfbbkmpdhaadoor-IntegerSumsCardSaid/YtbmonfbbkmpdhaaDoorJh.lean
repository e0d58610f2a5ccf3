/- Walks of the laws: sums, differences and orders are those of the reference. -/
import Derived.Test.YtbmonfbbkmpdhaaDoorEh
import Derived.Test.YtbmonfbbkmpdhaaDoorUb
import Derived.Test.YtbmonfbbkmpdhaaDoorUc
namespace Go.Proofs.YtbmonfbbkmpdhaaDoor
open Go.RowKit Go.Proofs.Num

/-- Hands back a text and an error. -/
def OutE (w : World) (S : ByteArray) (c : Nat) (e : Ending) (w' : World) : Prop := e = .returned (.tuple #[.string S, .int .i64 ((c : Nat) : Int)]) ∧ Below w.heap.size w w'

theorem cmpR_any (s r : ByteArray) (hs : s.size ≤ 9223372036854775807) (hr : r.size ≤ 9223372036854775807) (w : World) :
    Calls Tryd.prog 27 #[.string s, .string r] w (IntOut w (cmpR s.data.toList r.data.toList).1 (cmpR s.data.toList r.data.toList).2) := by
  unfold cmpR
  by_cases h : chk2 s.data.toList r.data.toList = 0
  · rw [if_neg (by rw [h]; simp)]
    obtain ⟨c1, c2⟩ := chk2_zero h
    exact cmp_ok s r hs hr c1 c2 w
  · rw [if_pos h]; exact cmp_err s r hs hr h w

set_option maxRecDepth 100000 in
theorem sums_long (HA : Awake) (s r : ByteArray) (h : 2048 < s.size ∨ 2048 < r.size) (w : World) (hT : Tab w) :
    Calls Tryd.prog 4 #[.string s, .string r] w fun e w' => e = .returned (.bool true) ∧ Below w.heap.size w w' := by
  have HT := Lib.hid hT
  have HAW := Lib.hid HA
  clear hT HA
  rcases (show 2048 < s.size ∨ (¬ 2048 < s.size ∧ 2048 < r.size) by omega) with h1 | ⟨h1, h2⟩
  all_goals
    clear h
    go_enter Tryd.func4, Tryd.ntmps4
    go_wp2_with fail
    refine (HAW.out _ HT.out).mono ?_
    rintro e w1 ⟨rfl, hb1⟩
    go_wp2
    go_ret
    exact ⟨rfl, hb1⟩

set_option maxHeartbeats 6400000 in
set_option maxRecDepth 100000 in
theorem sums_err (HA : Awake) (s r : ByteArray) (hs : ¬ 2048 < s.size) (hr : ¬ 2048 < r.size) (h0 : chk s.data.toList ≠ 0) (w : World) (hT : Tab w) :
    Calls Tryd.prog 4 #[.string s, .string r] w fun e w' => e = .returned (.bool true) ∧ Below w.heap.size w w' := by
  have hs' : s.size ≤ 9223372036854775807 := by omega
  have hr' : r.size ≤ 9223372036854775807 := by omega
  obtain ⟨S1, hS1⟩ : ∃ S : ByteArray, S = ⟨(op2 (· + ·) s.data.toList r.data.toList).1.toArray⟩ := ⟨_, rfl⟩
  obtain ⟨S2, hS2⟩ : ∃ S : ByteArray, S = ⟨(op2 (· - ·) s.data.toList r.data.toList).1.toArray⟩ := ⟨_, rfl⟩
  obtain ⟨x1, hx1⟩ : ∃ x, x = (op2 (· + ·) s.data.toList r.data.toList).2 := ⟨_, rfl⟩
  obtain ⟨x2, hx2⟩ : ∃ x, x = (op2 (· - ·) s.data.toList r.data.toList).2 := ⟨_, rfl⟩
  obtain ⟨i3, hi3⟩ : ∃ x, x = (cmpR s.data.toList r.data.toList).1 := ⟨_, rfl⟩
  obtain ⟨x3, hx3⟩ : ∃ x, x = (cmpR s.data.toList r.data.toList).2 := ⟨_, rfl⟩
  obtain ⟨k, hk⟩ : ∃ x, x = chk s.data.toList := ⟨_, rfl⟩
  have c1 : ∀ w, Tab w → Calls Tryd.prog 23 #[.string s, .string r] w (OutE w S1 x1) := fun w hT => by rw [hS1, hx1]; exact add_any s r hs' hr' w hT
  have c2 : ∀ w, Tab w → Calls Tryd.prog 24 #[.string s, .string r] w (OutE w S1 x1) := fun w _ => by rw [hS1, hx1]; exact radd_any s r hs' hr' w
  have c3 : ∀ w, Tab w → Calls Tryd.prog 25 #[.string s, .string r] w (OutE w S2 x2) := fun w hT => by rw [hS2, hx2]; exact sub_any s r hs' hr' w hT
  have c4 : ∀ w, Tab w → Calls Tryd.prog 26 #[.string s, .string r] w (OutE w S2 x2) := fun w _ => by rw [hS2, hx2]; exact rsub_any s r hs' hr' w
  have c5 : ∀ w, Tab w → Calls Tryd.prog 27 #[.string s, .string r] w (IntOut w i3 x3) := fun w _ => by rw [hi3, hx3]; exact cmpR_any s r hs' hr' w
  have c6 : ∀ w, Tab w → Calls Tryd.prog 18 #[.string s, .string r] w (IntOut w i3 x3) := fun w _ => by rw [hi3, hx3]; exact rcompare_any s r hs' hr' w
  have cK : ∀ w, Calls Tryd.prog 20 #[.string s] w fun e w' => e = .returned (.int .i64 ((k : Nat) : Int)) ∧ w = w' := fun w => by rw [hk]; exact rcheck_any s w hs'
  have H1 := Lib.hid c1; have H2 := Lib.hid c2; have H3 := Lib.hid c3; have H4 := Lib.hid c4; have H5 := Lib.hid c5; have H6 := Lib.hid c6
  have HT := Lib.hid hT
  have HAW := Lib.hid HA
  have c7 : ∀ w, Tab w → Calls Tryd.prog 28 #[.string s] w (OutE w ⟨#[]⟩ k) := fun w _ => by rw [hk]; exact neg_err s hs' h0 w
  have c8 : ∀ w, Tab w → Calls Tryd.prog 29 #[.string s] w (OutE w ⟨#[]⟩ k) := fun w _ => by rw [hk]; exact abs_err s hs' h0 w
  have H7 := Lib.hid c7; have H8 := Lib.hid c8
  rw [← hk] at h0
  have hk0 : ¬ ((k : Nat) : Int) = 0 := by omega
  have hk1 : ((k : Int) == 0) = false := beq_eq_false_iff_ne.2 hk0
  have HK := Lib.hid cK
  clear c1 c2 c3 c4 c5 c6 cK hS1 hS2 hx1 hx2 hi3 hx3 hk hT HA hs' hr'
  clear h0
  clear c7 c8
  go_enter Tryd.func4, Tryd.ntmps4
  go_wp2_with fail
  refine (H1.out _ HT.out).mono ?_
  rintro e w1 ⟨rfl, hc1⟩
  have hb1 : Below w.heap.size w w1 := hc1
  clear hc1
  go_wp2_with fail
  refine (H2.out _ (HT.out.keep hb1)).mono ?_
  rintro e w2 ⟨rfl, hc2⟩
  have hb2 : Below w.heap.size w w2 := hb1.trans (hc2.mono hb1.size)
  clear hb1 hc2
  go_wp2_with fail
  refine (H3.out _ (HT.out.keep hb2)).mono ?_
  rintro e w3 ⟨rfl, hc3⟩
  have hb3 : Below w.heap.size w w3 := hb2.trans (hc3.mono hb2.size)
  clear hb2 hc3
  go_wp2_with fail
  refine (H4.out _ (HT.out.keep hb3)).mono ?_
  rintro e w4 ⟨rfl, hc4⟩
  have hb4 : Below w.heap.size w w4 := hb3.trans (hc4.mono hb3.size)
  clear hb3 hc4
  go_wp2_with fail
  refine (H5.out _ (HT.out.keep hb4)).mono ?_
  rintro e w5 ⟨rfl, hc5⟩
  have hb5 : Below w.heap.size w w5 := hb4.trans (hc5.mono hb4.size)
  clear hb4 hc5
  go_wp2_with fail
  refine (H6.out _ (HT.out.keep hb5)).mono ?_
  rintro e w6 ⟨rfl, hc6⟩
  have hb6 : Below w.heap.size w w6 := hb5.trans (hc6.mono hb5.size)
  clear hb5 hc6
  go_wp2_with fail
  refine (H7.out _ (HT.out.keep hb6)).mono ?_
  rintro e w7 ⟨rfl, hc7⟩
  have hb7 : Below w.heap.size w w7 := hb6.trans (hc7.mono hb6.size)
  clear hb6 hc7
  go_wp2_with fail
  refine (H8.out _ (HT.out.keep hb7)).mono ?_
  rintro e w8 ⟨rfl, hc8⟩
  have hb8 : Below w.heap.size w w8 := hb7.trans (hc8.mono hb7.size)
  clear hb7 hc8
  go_wp2_with fail
  refine (HK.out _).mono ?_
  rintro e w8' ⟨rfl, rfl⟩
  go_wp2_with fail
  refine (HAW.out _ (HT.out.keep hb8)).mono ?_
  rintro e w9 ⟨rfl, hc9⟩
  have hb9 : Below w.heap.size w w9 := hb8.trans (hc9.mono hb8.size)
  clear hb8 hc9
  go_wp2
  go_ret
  exact ⟨rfl, hb9⟩

set_option maxHeartbeats 6400000 in
set_option maxRecDepth 100000 in
theorem sums_ok (HA : Awake) (s r : ByteArray) (hs : ¬ 2048 < s.size) (hr : ¬ 2048 < r.size) (h0 : chk s.data.toList = 0) (w : World) (hT : Tab w) :
    Calls Tryd.prog 4 #[.string s, .string r] w fun e w' => e = .returned (.bool true) ∧ Below w.heap.size w w' := by
  have hs' : s.size ≤ 9223372036854775807 := by omega
  have hr' : r.size ≤ 9223372036854775807 := by omega
  obtain ⟨S1, hS1⟩ : ∃ S : ByteArray, S = ⟨(op2 (· + ·) s.data.toList r.data.toList).1.toArray⟩ := ⟨_, rfl⟩
  obtain ⟨S2, hS2⟩ : ∃ S : ByteArray, S = ⟨(op2 (· - ·) s.data.toList r.data.toList).1.toArray⟩ := ⟨_, rfl⟩
  obtain ⟨x1, hx1⟩ : ∃ x, x = (op2 (· + ·) s.data.toList r.data.toList).2 := ⟨_, rfl⟩
  obtain ⟨x2, hx2⟩ : ∃ x, x = (op2 (· - ·) s.data.toList r.data.toList).2 := ⟨_, rfl⟩
  obtain ⟨i3, hi3⟩ : ∃ x, x = (cmpR s.data.toList r.data.toList).1 := ⟨_, rfl⟩
  obtain ⟨x3, hx3⟩ : ∃ x, x = (cmpR s.data.toList r.data.toList).2 := ⟨_, rfl⟩
  obtain ⟨k, hk⟩ : ∃ x, x = chk s.data.toList := ⟨_, rfl⟩
  have c1 : ∀ w, Tab w → Calls Tryd.prog 23 #[.string s, .string r] w (OutE w S1 x1) := fun w hT => by rw [hS1, hx1]; exact add_any s r hs' hr' w hT
  have c2 : ∀ w, Tab w → Calls Tryd.prog 24 #[.string s, .string r] w (OutE w S1 x1) := fun w _ => by rw [hS1, hx1]; exact radd_any s r hs' hr' w
  have c3 : ∀ w, Tab w → Calls Tryd.prog 25 #[.string s, .string r] w (OutE w S2 x2) := fun w hT => by rw [hS2, hx2]; exact sub_any s r hs' hr' w hT
  have c4 : ∀ w, Tab w → Calls Tryd.prog 26 #[.string s, .string r] w (OutE w S2 x2) := fun w _ => by rw [hS2, hx2]; exact rsub_any s r hs' hr' w
  have c5 : ∀ w, Tab w → Calls Tryd.prog 27 #[.string s, .string r] w (IntOut w i3 x3) := fun w _ => by rw [hi3, hx3]; exact cmpR_any s r hs' hr' w
  have c6 : ∀ w, Tab w → Calls Tryd.prog 18 #[.string s, .string r] w (IntOut w i3 x3) := fun w _ => by rw [hi3, hx3]; exact rcompare_any s r hs' hr' w
  have cK : ∀ w, Calls Tryd.prog 20 #[.string s] w fun e w' => e = .returned (.int .i64 ((k : Nat) : Int)) ∧ w = w' := fun w => by rw [hk]; exact rcheck_any s w hs'
  have H1 := Lib.hid c1; have H2 := Lib.hid c2; have H3 := Lib.hid c3; have H4 := Lib.hid c4; have H5 := Lib.hid c5; have H6 := Lib.hid c6
  have HT := Lib.hid hT
  have HAW := Lib.hid HA
  obtain ⟨z, d, hz1, hz2, hd1, hd2, hz⟩ := canon s h0
  obtain ⟨S4, hS4⟩ : ∃ S, S = T (-z) := ⟨_, rfl⟩
  obtain ⟨S5, hS5⟩ : ∃ S, S = T ((z.natAbs : Nat) : Int) := ⟨_, rfl⟩
  have hzn : Few d ((z.natAbs : Nat) : Int) := by unfold Few at hz ⊢; rw [Int.natAbs_natCast]; exact hz
  have c7 : ∀ w, Tab w → Calls Tryd.prog 28 #[.string s] w (OutE w S4 0) := fun w hT => by
    have h := neg_ok s hs' h0 w hT
    rw [← hz2, hz.neg.tx hd1 (by omega), hz.neg.te hd1 (by omega)] at h
    rw [hS4]; exact h
  have c8 : ∀ w, Tab w → Calls Tryd.prog 29 #[.string s] w (OutE w S5 0) := fun w hT => by
    have h := abs_ok s hs' h0 w hT
    rw [← hz2, hzn.tx hd1 (by omega), hzn.te hd1 (by omega)] at h
    rw [hS5]; exact h
  have c9 : ∀ w, Tab w → Calls Tryd.prog 30 #[.string s] w (OutR w S4) := fun w hT => by
    rw [hS4, hz1]; exact turned_any z hz hd1 (by omega) w
  have c10 : ∀ w, Tab w → Calls Tryd.prog 31 #[.string s] w (OutR w S5) := fun w hT => by
    rw [hS5, hz1]; exact positive_any z hz hd1 (by omega) w
  have H7 := Lib.hid c7; have H8 := Lib.hid c8; have H9 := Lib.hid c9; have H10 := Lib.hid c10
  rw [← hk] at h0
  subst h0
  have HK := Lib.hid cK
  clear c1 c2 c3 c4 c5 c6 cK hS1 hS2 hx1 hx2 hi3 hx3 hk hT HA hs' hr'
  clear c7 c8 c9 c10 hz hzn hz1 hz2 hd1 hd2 hS4 hS5
  have hsi : ¬ (2048 : Int) < ((s.size : Nat) : Int) := by omega
  have hri : ¬ (2048 : Int) < ((r.size : Nat) : Int) := by omega
  have hds : decide ((2048 : Int) < ((s.size : Nat) : Int)) = false := decide_eq_false hsi
  have hdr : decide ((2048 : Int) < ((r.size : Nat) : Int)) = false := decide_eq_false hri
  clear z d
  go_enter Tryd.func4, Tryd.ntmps4
  go_wp2_with fail
  refine (H1.out _ HT.out).mono ?_
  rintro e w1 ⟨rfl, hc1⟩
  have hb1 : Below w.heap.size w w1 := hc1
  clear hc1
  go_wp2_with fail
  refine (H2.out _ (HT.out.keep hb1)).mono ?_
  rintro e w2 ⟨rfl, hc2⟩
  have hb2 : Below w.heap.size w w2 := hb1.trans (hc2.mono hb1.size)
  clear hb1 hc2
  go_wp2_with fail
  refine (H3.out _ (HT.out.keep hb2)).mono ?_
  rintro e w3 ⟨rfl, hc3⟩
  have hb3 : Below w.heap.size w w3 := hb2.trans (hc3.mono hb2.size)
  clear hb2 hc3
  go_wp2_with fail
  refine (H4.out _ (HT.out.keep hb3)).mono ?_
  rintro e w4 ⟨rfl, hc4⟩
  have hb4 : Below w.heap.size w w4 := hb3.trans (hc4.mono hb3.size)
  clear hb3 hc4
  go_wp2_with fail
  refine (H5.out _ (HT.out.keep hb4)).mono ?_
  rintro e w5 ⟨rfl, hc5⟩
  have hb5 : Below w.heap.size w w5 := hb4.trans (hc5.mono hb4.size)
  clear hb4 hc5
  go_wp2_with fail
  refine (H6.out _ (HT.out.keep hb5)).mono ?_
  rintro e w6 ⟨rfl, hc6⟩
  have hb6 : Below w.heap.size w w6 := hb5.trans (hc6.mono hb5.size)
  clear hb5 hc6
  go_wp2_with fail
  refine (H7.out _ (HT.out.keep hb6)).mono ?_
  rintro e w7 ⟨rfl, hc7⟩
  have hb7 : Below w.heap.size w w7 := hb6.trans (hc7.mono hb6.size)
  clear hb6 hc7
  go_wp2_with fail
  refine (H8.out _ (HT.out.keep hb7)).mono ?_
  rintro e w8 ⟨rfl, hc8⟩
  have hb8 : Below w.heap.size w w8 := hb7.trans (hc8.mono hb7.size)
  clear hb7 hc8
  go_wp2_with fail
  refine (HK.out _).mono ?_
  rintro e w8' ⟨rfl, rfl⟩
  go_wp2_with fail
  refine (H9.out _ (HT.out.keep hb8)).mono ?_
  rintro e w9 ⟨rfl, hc9⟩
  have hb9 : Below w.heap.size w w9 := hb8.trans (hc9.mono hb8.size)
  clear hb8 hc9
  go_wp2_with fail
  refine (H10.out _ (HT.out.keep hb9)).mono ?_
  rintro e w10 ⟨rfl, hc10⟩
  have hb10 : Below w.heap.size w w10 := hb9.trans (hc10.mono hb9.size)
  clear hb9 hc10
  go_wp2_with fail
  refine (HAW.out _ (HT.out.keep hb10)).mono ?_
  rintro e w11 ⟨rfl, hc11⟩
  have hb11 : Below w.heap.size w w11 := hb10.trans (hc11.mono hb10.size)
  clear hb10 hc11
  go_wp2
  go_ret
  exact ⟨rfl, hb11⟩

theorem sums_any (HA : Awake) (s r : ByteArray) (w : World) (hT : Tab w) :
    Calls Tryd.prog 4 #[.string s, .string r] w fun e w' => e = .returned (.bool true) ∧ Below w.heap.size w w' := by
  by_cases h : 2048 < s.size ∨ 2048 < r.size
  · exact sums_long HA s r h w hT
  · by_cases h0 : chk s.data.toList = 0
    · exact sums_ok HA s r (by omega) (by omega) h0 w hT
    · exact sums_err HA s r (by omega) (by omega) h0 w hT
end Go.Proofs.YtbmonfbbkmpdhaaDoor
