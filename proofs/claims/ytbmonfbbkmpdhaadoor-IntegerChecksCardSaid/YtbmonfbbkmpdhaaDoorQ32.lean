/- Walks: the text of an int, and a text as an int. And: Walks: a text as an int, where it has an error or is out of range. And: Walks of the laws: Check, Small, Sign and Of are those of the reference. -/
import Derived.Test.YtbmonfbbkmpdhaaDoorQ01
import Derived.Test.YtbmonfbbkmpdhaaDoorQ25
import Derived.Test.YtbmonfbbkmpdhaaDoorQ20
import Derived.Lib.SmallJoins
import Derived.Lib.AtoiAllCases
import Derived.Test.YtbmonfbbkmpdhaaDoorQ28
import Derived.Test.YtbmonfbbkmpdhaaDoorQ27
namespace Go.Proofs.YtbmonfbbkmpdhaaDoor
open Go.RowKit Go.Proofs.Num

theorem parse10 : ∀ (l : List UInt8) (acc : Nat), (∀ c ∈ l, isDig c = true) → acc * 10 ^ l.length + dv l < 18446744073709551616 → Lib.parseUint10 acc l = .ok (acc * 10 ^ l.length + dv l)
  | [], acc, _, _ => by simp [Lib.parseUint10, dv]
  | c :: r, acc, hd, h => by
    have hc := dig_bound (hd c (by simp))
    have e1 : dv (c :: r) = (c.toNat - 48) * 10 ^ r.length + dv r := by
      have := dv_append [c] r
      simpa [dv] using this
    have e2 : acc * 10 ^ (c :: r).length + dv (c :: r) = (acc * 10 + (c.toNat - 48)) * 10 ^ r.length + dv r := by
      rw [e1, List.length_cons, Nat.pow_succ, Nat.add_mul, Nat.mul_comm (10 ^ r.length) 10, Nat.mul_assoc]; omega
    rw [e2] at h ⊢
    have hp : 0 < 10 ^ r.length := Nat.pow_pos (by omega)
    have h3 : acc * 10 + (c.toNat - 48) ≤ (acc * 10 + (c.toNat - 48)) * 10 ^ r.length := Nat.le_mul_of_pos_right _ hp
    rw [Lib.parseUint10, if_pos hc, if_neg (by omega), if_neg (by omega)]
    exact parse10 r _ (fun x hx => hd x (by simp [hx])) h

theorem parseMag_dec (u : Nat) (hu : u < 18446744073709551616) : Lib.parseMag (Lib.decDigits u) = .ok u := by
  obtain ⟨h1, h2, h3, -⟩ := decDigits_facts u
  have h := parse10 (Lib.decDigits u) 0 h2 (by rw [h1]; omega)
  rw [h1] at h
  unfold Lib.parseMag
  rw [if_neg h3, h]
  congr 1; omega

theorem atoi_itoa (z : Int) (h0 : -9223372036854775808 ≤ z) (h1 : z ≤ 9223372036854775807) : Lib.atoiAll (Lib.itoa z) = .ok z := by
  unfold Lib.itoa
  by_cases hz : z < 0
  · rw [if_pos hz, Lib.atoiAll_minus, parseMag_dec _ (by omega)]
    show (if 9223372036854775808 < z.natAbs then _ else _) = _
    rw [if_neg (by omega)]
    congr 1; omega
  · rw [if_neg hz]
    obtain ⟨-, h2, h3, -⟩ := decDigits_facts z.toNat
    have hm := parseMag_dec z.toNat (by omega)
    generalize Lib.decDigits z.toNat = l at *
    cases l with
    | nil => exact absurd rfl h3
    | cons c r =>
      have hc := dig_bound (h2 c (by simp))
      rw [Lib.atoiAll_plain c r (by omega) (by omega), hm]
      show (if 9223372036854775808 ≤ z.toNat then _ else _) = _
      rw [if_neg (by omega)]
      congr 1; omega

theorem below_grow (w : World) (k : Nat) (os : Array Obj) : Below w.heap.size w (Go.Sort.grow (w.drewN k) os) :=
  ⟨rfl, rfl, rfl, by simp [Go.Sort.grow, World.drewN], fun k hk => by simp [Go.Sort.grow, World.drewN, Array.getElem?_append, hk]⟩

set_option maxRecDepth 100000 in
theorem of_ok (n : Int) (h0 : -9223372036854775808 ≤ n) (h1 : n ≤ 9223372036854775807) (w : World) (hT : Tab w) :
    Calls Tryd.prog 21 #[.int .i64 n] w fun e w' => e = .returned (.string (T n)) ∧ Below w.heap.size w w' := by
  have h : Calls Tryd.prog 56 #[.int .i64 n] w fun e w' => e = .returned (.string (T n)) ∧ Below w.heap.size w w' :=
    (Tryd.strconv_Itoa n h0 h1 w hT).mono fun e w' ⟨he, k, os, hw⟩ => ⟨he, by rw [hw]; exact below_grow w k os⟩
  have H := Lib.hid h
  clear h h0 h1 hT
  go_enter Tryd.func21, Tryd.ntmps21
  go_wp2_with fail
  refine (H.out).mono ?_
  rintro e w1 ⟨rfl, hb⟩
  go_wp2
  go_ret
  exact ⟨rfl, hb⟩

set_option maxRecDepth 100000 in
theorem small_int (s : ByteArray) (z : Int) (hz : s.data.toList = Lib.itoa z) (h0 : -9223372036854775808 ≤ z) (h1 : z ≤ 9223372036854775807) (hs : s.size ≤ 9223372036854775806) (hc : chk s.data.toList = 0) (w : World) :
    Calls Tryd.prog 15 #[.string s] w fun e w' => e = .returned (.tuple #[.int .i64 z, .int .i64 0]) ∧ Below w.heap.size w w' := by
  have c1 := check_any s w (by omega)
  rw [hc] at c1
  have c2 : Calls Tryd.prog 47 #[.string s] w fun e w' => e = .returned (.tuple #[.int .i64 z, .nilIface]) ∧ Below w.heap.size w w' :=
    (Tryd.strconv_Atoi_ok s hs z (by rw [hz]; exact atoi_itoa z h0 h1) w).mono fun e w' ⟨he, hw⟩ => ⟨he, by
      rcases hw with rfl | ⟨t, rfl⟩
      · exact Below.refl _ _
      · exact Joins.below_bytesWorld _ _ _ _ (Nat.le_refl _)⟩
  have H1 := Lib.hid c1
  have H2 := Lib.hid c2
  clear c1 c2 hc hs h0 h1 hz
  go_enter Tryd.func15, Tryd.ntmps15
  go_wp2_with fail
  refine (H1.out).mono ?_
  rintro e w1 ⟨rfl, rfl⟩
  go_wp2_with fail
  refine (H2.out).mono ?_
  rintro e w2 ⟨rfl, hb⟩
  go_wp2
  go_ret2
  exact ⟨rfl, hb⟩
end Go.Proofs.YtbmonfbbkmpdhaaDoor

namespace Go.Proofs.YtbmonfbbkmpdhaaDoor
open Go.RowKit Go.Proofs.Num

theorem parse10_range : ∀ (l : List UInt8) (acc : Nat), (∀ c ∈ l, isDig c = true) → acc < 18446744073709551616 → 18446744073709551616 ≤ acc * 10 ^ l.length + dv l → Lib.parseUint10 acc l = .range
  | [], acc, _, ha, h => by simp [dv] at h; omega
  | c :: r, acc, hd, ha, h => by
    have hc := dig_bound (hd c (by simp))
    have e1 : dv (c :: r) = (c.toNat - 48) * 10 ^ r.length + dv r := by
      have := dv_append [c] r
      simpa [dv] using this
    have e2 : acc * 10 ^ (c :: r).length + dv (c :: r) = (acc * 10 + (c.toNat - 48)) * 10 ^ r.length + dv r := by
      rw [e1, List.length_cons, Nat.pow_succ, Nat.add_mul, Nat.mul_comm (10 ^ r.length) 10, Nat.mul_assoc]; omega
    rw [e2] at h
    rw [Lib.parseUint10, if_pos hc]
    by_cases k1 : 1844674407370955162 ≤ acc
    · rw [if_pos k1]
    · rw [if_neg k1]
      by_cases k2 : 18446744073709551616 ≤ acc * 10 + (c.toNat - 48)
      · rw [if_pos k2]
      · rw [if_neg k2]
        exact parse10_range r _ (fun x hx => hd x (by simp [hx])) (by omega) h

theorem parseMag_out (u : Nat) (hu : 18446744073709551616 ≤ u) : Lib.parseMag (Lib.decDigits u) = .range := by
  obtain ⟨h1, h2, h3, -⟩ := decDigits_facts u
  unfold Lib.parseMag
  rw [if_neg h3]
  exact parse10_range _ 0 h2 (by omega) (by rw [h1]; omega)

theorem atoi_out (z : Int) (h : z < -9223372036854775808 ∨ 9223372036854775807 < z) : Lib.atoiAll (Lib.itoa z) = .range := by
  unfold Lib.itoa
  by_cases hz : z < 0
  · rw [if_pos hz, Lib.atoiAll_minus]
    by_cases hb : z.natAbs < 18446744073709551616
    · rw [parseMag_dec _ hb]
      show (if 9223372036854775808 < z.natAbs then _ else _) = _
      rw [if_pos (by omega)]
    · rw [parseMag_out _ (by omega)]; rfl
  · rw [if_neg hz]
    obtain ⟨-, h2, h3, -⟩ := decDigits_facts z.toNat
    have hm : Lib.parseMag (Lib.decDigits z.toNat) = if z.toNat < 18446744073709551616 then .ok z.toNat else .range := by
      by_cases hb : z.toNat < 18446744073709551616
      · rw [if_pos hb, parseMag_dec _ hb]
      · rw [if_neg hb, parseMag_out _ (by omega)]
    generalize Lib.decDigits z.toNat = l at *
    cases l with
    | nil => exact absurd rfl h3
    | cons c r =>
      have hc := dig_bound (h2 c (by simp))
      rw [Lib.atoiAll_plain c r (by omega) (by omega), hm]
      by_cases hb : z.toNat < 18446744073709551616
      · rw [if_pos hb]
        show (if 9223372036854775808 ≤ z.toNat then _ else _) = _
        rw [if_pos (by omega)]
      · rw [if_neg hb]; rfl

set_option maxRecDepth 100000 in
theorem small_err (s : ByteArray) (hs : s.size ≤ 9223372036854775807) (h0 : chk s.data.toList ≠ 0) (w : World) :
    Calls Tryd.prog 15 #[.string s] w fun e w' => e = .returned (.tuple #[.int .i64 0, .int .i64 ((chk s.data.toList : Nat) : Int)]) ∧ Below w.heap.size w w' := by
  have H := Lib.hid (fun w => check_any s w hs)
  generalize chk s.data.toList = c at *
  have hx : ¬ ((c : Nat) : Int) = 0 := by omega
  have hx1 : ((c : Int) == 0) = false := beq_eq_false_iff_ne.2 hx
  go_enter Tryd.func15, Tryd.ntmps15
  go_wp2_with fail
  refine (H.out _).mono ?_
  rintro e w1 ⟨rfl, rfl⟩
  go_wp2
  go_ret2
  exact ⟨rfl, Below.refl _ _⟩

set_option maxRecDepth 100000 in
theorem small_out (s : ByteArray) (z : Int) (hz : s.data.toList = Lib.itoa z) (h : z < -9223372036854775808 ∨ 9223372036854775807 < z) (hs : s.size ≤ 281474976710656) (hc : chk s.data.toList = 0) (w : World)
    (tp : TypeId) (p : Value) (hv : w.var? Tryd.prog "strconv.ErrRange" = some #[.iface tp p]) :
    Calls Tryd.prog 15 #[.string s] w fun e w' => e = .returned (.tuple #[.int .i64 0, .int .i64 2]) ∧ Below w.heap.size w w' := by
  have c1 := check_any s w (by omega)
  rw [hc] at c1
  have c2 := Tryd.strconv_Atoi_range_var s hs (by rw [hz]; exact atoi_out z h) tp p w hv
  have H1 := Lib.hid c1
  have H2 := Lib.hid c2
  clear c1 c2 hc hs h hz hv
  go_enter Tryd.func15, Tryd.ntmps15
  go_wp2_with fail
  refine (H1.out).mono ?_
  rintro e w1 ⟨rfl, rfl⟩
  go_wp2_with fail
  refine (H2.out).mono ?_
  rintro e w2 ⟨N, rfl, -, -, hb⟩
  go_wp2
  go_ret2
  exact ⟨rfl, hb⟩
end Go.Proofs.YtbmonfbbkmpdhaaDoor

namespace Go.Proofs.YtbmonfbbkmpdhaaDoor
open Go.RowKit Go.Proofs.Num

theorem sgn_cmp (z : Int) : sgn z = cmpZ z 0 := rfl

/-- Small of both, whatever the text. -/
theorem small_both (s : ByteArray) (hs : s.size ≤ 2048) (w : World) (tp : TypeId) (p : Value) (hv : w.var? Tryd.prog "strconv.ErrRange" = some #[.iface tp p]) :
    ∃ (k : Int) (c : Nat), Calls Tryd.prog 15 #[.string s] w (IntOut w k c) ∧ ∀ w, Calls Tryd.prog 16 #[.string s] w (IntOut w k c) := by
  by_cases h0 : chk s.data.toList = 0
  · have hz := (chk_cases _ h0).1.symm
    by_cases h : parse s.data.toList < -9223372036854775808 ∨ 9223372036854775807 < parse s.data.toList
    · exact ⟨0, 2, small_out s _ hz h (by omega) h0 w tp p hv, fun w => rsmall_out s h h0 (by omega) w⟩
    · exact ⟨_, 0, small_int s _ hz (by omega) (by omega) (by omega) h0 w, fun w => rsmall_in s (by omega) (by omega) h0 (by omega) w⟩
  · exact ⟨0, _, small_err s (by omega) h0 w, fun w => rsmall_err s (by omega) h0 w⟩

theorem sign_both (s : ByteArray) (hs : s.size ≤ 2048) : ∃ (k : Int) (c : Nat), (∀ w, Calls Tryd.prog 17 #[.string s] w (IntOut w k c)) ∧ ∀ w, Calls Tryd.prog 18 #[.string s, .string ⟨#[48]⟩] w (IntOut w k c) := by
  have hr := fun w => rcompare_any s ⟨#[48]⟩ (by omega) (by decide) w
  have hp : parse (⟨#[48]⟩ : ByteArray).data.toList = 0 := by decide +kernel
  have hc : chk (⟨#[48]⟩ : ByteArray).data.toList = 0 := by decide +kernel
  unfold cmpR chk2 at hr
  rw [hp, hc] at hr
  by_cases h0 : chk s.data.toList = 0
  · rw [h0] at hr
    have e : (if (if (0 : Nat) ≠ 0 then (0 : Nat) else 0) ≠ 0 then ((0 : Int), (if (0 : Nat) ≠ 0 then (0 : Nat) else 0)) else (cmpZ (parse s.data.toList) 0, 0)) = (cmpZ (parse s.data.toList) 0, 0) := by simp
    rw [e] at hr
    exact ⟨_, 0, fun w => sgn_ok s (by omega) h0 w, fun w => hr w⟩
  · rw [if_pos h0, if_pos h0] at hr
    exact ⟨0, _, fun w => sgn_err s (by omega) h0 w, fun w => hr w⟩

set_option maxRecDepth 100000 in
theorem checks_long (HA : Awake) (s : ByteArray) (n : Int) (h : 2048 < s.size) (w : World) (hT : Tab w) :
    Calls Tryd.prog 3 #[.string s, .int .i64 n] w fun e w' => e = .returned (.bool true) ∧ Below w.heap.size w w' := by
  have HT := Lib.hid hT
  have HAW := Lib.hid HA
  have hsi : (2048 : Int) < ((s.size : Nat) : Int) := by omega
  clear hT HA
  go_enter Tryd.func3, Tryd.ntmps3
  go_wp2_with fail
  refine (HAW.out _ HT.out).mono ?_
  rintro e w1 ⟨rfl, hb1⟩
  go_wp2
  go_ret
  exact ⟨rfl, hb1⟩

set_option maxHeartbeats 6400000 in
set_option maxRecDepth 100000 in
theorem checks_short (HA : Awake) (s : ByteArray) (n : Int) (hs : s.size ≤ 2048) (h0 : -9223372036854775808 ≤ n) (h1 : n ≤ 9223372036854775807) (w : World) (hT : Tab w) (tp : TypeId) (p : Value) (hv : w.var? Tryd.prog "strconv.ErrRange" = some #[.iface tp p]) :
    Calls Tryd.prog 3 #[.string s, .int .i64 n] w fun e w' => e = .returned (.bool true) ∧ Below w.heap.size w w' := by
  obtain ⟨k1, x1, c1, c2⟩ := small_both s hs w tp p hv
  obtain ⟨k2, x2, c3, c4⟩ := sign_both s hs
  obtain ⟨S, hS⟩ : ∃ S, S = T n := ⟨_, rfl⟩
  obtain ⟨x3, hx3⟩ : ∃ x, x = chk s.data.toList := ⟨_, rfl⟩
  have cA : ∀ w, Calls Tryd.prog 19 #[.string s] w fun e w' => e = .returned (.int .i64 ((x3 : Nat) : Int)) ∧ w = w' := fun w => by rw [hx3]; exact check_any s w (by omega)
  have cB : ∀ w, Calls Tryd.prog 20 #[.string s] w fun e w' => e = .returned (.int .i64 ((x3 : Nat) : Int)) ∧ w = w' := fun w => by rw [hx3]; exact rcheck_any s w (by omega)
  have c5 : ∀ w, Tab w → Calls Tryd.prog 21 #[.int .i64 n] w (OutR w S) := fun w hT => by rw [hS]; exact of_ok n h0 h1 w hT
  have c6 : ∀ w, Tab w → Calls Tryd.prog 22 #[.int .i64 n] w (OutR w S) := fun w hT => by rw [hS]; exact rof_any n h0 h1 w
  have H1 := Lib.hid c1
  have H2 := Lib.hid (fun w (_ : Tab w) => c2 w); have H3 := Lib.hid (fun w (_ : Tab w) => c3 w); have H4 := Lib.hid (fun w (_ : Tab w) => c4 w)
  have H5 := Lib.hid c5; have H6 := Lib.hid c6; have HCA := Lib.hid cA; have HCB := Lib.hid cB
  have HT := Lib.hid hT
  have HAW := Lib.hid HA
  have hsi : ¬ (2048 : Int) < ((s.size : Nat) : Int) := by omega
  have hds : decide ((2048 : Int) < ((s.size : Nat) : Int)) = false := decide_eq_false hsi
  clear c1 c2 c3 c4 c5 c6 cA cB hS hx3 hT HA hv h0 h1
  go_enter Tryd.func3, Tryd.ntmps3
  go_wp2_with fail
  refine (H1.out).mono ?_
  rintro e w1 ⟨rfl, hc1⟩
  have hb1 : Below w.heap.size w w1 := hc1
  clear hc1
  go_wp2_with fail
  refine (H2.out _ (HT.out.keep hb1)).mono ?_
  rintro e w2 ⟨rfl, hc2⟩
  have hb2 : Below w.heap.size w w2 := hb1.trans (hc2.mono hb1.size)
  clear hb1 hc2
  go_wp2_with fail
  refine (H3.out _ (HT.out.keep hb2)).mono ?_
  rintro e w3 ⟨rfl, hc3⟩
  have hb3 : Below w.heap.size w w3 := hb2.trans (hc3.mono hb2.size)
  clear hb2 hc3
  go_wp2_with fail
  refine (H4.out _ (HT.out.keep hb3)).mono ?_
  rintro e w4 ⟨rfl, hc4⟩
  have hb4 : Below w.heap.size w w4 := hb3.trans (hc4.mono hb3.size)
  clear hb3 hc4
  go_wp2_with fail
  refine (HCA.out _).mono ?_
  rintro e w4' ⟨rfl, rfl⟩
  go_wp2_with fail
  refine (HCB.out _).mono ?_
  rintro e w4' ⟨rfl, rfl⟩
  go_wp2_with fail
  refine (H5.out _ (HT.out.keep hb4)).mono ?_
  rintro e w5 ⟨rfl, hc5⟩
  have hb5 : Below w.heap.size w w5 := hb4.trans (hc5.mono hb4.size)
  clear hb4 hc5
  go_wp2_with fail
  refine (H6.out _ (HT.out.keep hb5)).mono ?_
  rintro e w6 ⟨rfl, hc6⟩
  have hb6 : Below w.heap.size w w6 := hb5.trans (hc6.mono hb5.size)
  clear hb5 hc6
  go_wp2_with fail
  refine (HAW.out _ (HT.out.keep hb6)).mono ?_
  rintro e w7 ⟨rfl, hc7⟩
  have hb7 : Below w.heap.size w w7 := hb6.trans (hc7.mono hb6.size)
  clear hb6 hc7
  go_wp2
  go_ret
  exact ⟨rfl, hb7⟩
end Go.Proofs.YtbmonfbbkmpdhaaDoor
