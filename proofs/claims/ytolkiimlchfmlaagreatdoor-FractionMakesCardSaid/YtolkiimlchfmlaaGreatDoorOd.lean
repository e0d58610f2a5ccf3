/- Walks of the reference: a text as an int; and: Walks of the reference: a text as an int, in range. -/
import Derived.Test.YtolkiimlchfmlaaGreatDoorQ23
import Derived.Test.YtolkiimlchfmlaaGreatDoorQ08
namespace Go.Proofs.YtolkiimlchfmlaaGreatDoor
open Go.RowKit Go.Proofs.Num

abbrev maxS : ByteArray := ⟨#[57, 50, 50, 51, 51, 55, 50, 48, 51, 54, 56, 53, 52, 55, 55, 53, 56, 48, 55]⟩
abbrev minS : ByteArray := ⟨#[45, 57, 50, 50, 51, 51, 55, 50, 48, 51, 54, 56, 53, 52, 55, 55, 53, 56, 48, 56]⟩
theorem T_max : T 9223372036854775807 = maxS := by
  have h := of_chk maxS (by decide +kernel)
  rw [show parse maxS.data.toList = 9223372036854775807 by decide +kernel] at h
  exact h.symm
theorem T_min : T (-9223372036854775808) = minS := by
  have h := of_chk minS (by decide +kernel)
  rw [show parse minS.data.toList = -9223372036854775808 by decide +kernel] at h
  exact h.symm

set_option maxRecDepth 100000 in
theorem rsmall_err (s : ByteArray) (hs : s.size ≤ 9223372036854775807) (h0 : chk s.data.toList ≠ 0) (w : World) :
    Calls Tryz.prog 25 #[.string s] w fun e w' => e = .returned (.tuple #[.int .i64 0, .int .i64 ((chk s.data.toList : Nat) : Int)]) ∧ Below w.heap.size w w' := by
  have H := Lib.hid (fun w => rcheck_any s w hs)
  generalize chk s.data.toList = c at *
  have hx : ¬ ((c : Nat) : Int) = 0 := by omega
  have hx1 : ((c : Int) == 0) = false := beq_eq_false_iff_ne.2 hx
  go_enter Tryz.func25, Tryz.ntmps25
  go_wp2_with fail
  refine (H.out _).mono ?_
  rintro e w1 ⟨rfl, rfl⟩
  go_wp2
  go_ret2
  exact ⟨rfl, Below.refl _ _⟩

theorem few_max : Few 19 9223372036854775807 := by unfold Few; decide +kernel
theorem few_min : Few 19 (-9223372036854775808) := by unfold Few; decide +kernel

set_option maxRecDepth 100000 in
theorem rsmall_out (s : ByteArray) (h : parse s.data.toList < -9223372036854775808 ∨ 9223372036854775807 < parse s.data.toList) (hc : chk s.data.toList = 0) (hs : s.size ≤ 9223372036854775807) (w : World) :
    Calls Tryz.prog 25 #[.string s] w fun e w' => e = .returned (.tuple #[.int .i64 0, .int .i64 2]) ∧ Below w.heap.size w w' := by
  have H := Lib.hid (fun w => rcheck_any s w hs)
  obtain ⟨z, d, hz1, hz2, hd1, hd2, hz⟩ := canon s hc
  rw [hc] at H
  rw [← hz2] at h
  have O1 := fun w => rorderT z 9223372036854775807 hz (few_max.le (by omega)) hd1 (by omega) w
  have O2 := fun w => rorderT z (-9223372036854775808) hz (few_min.le (by omega)) hd1 (by omega) w
  rw [← hz1, T_max] at O1
  rw [← hz1, T_min] at O2
  rcases (show 9223372036854775807 < z ∨ (z ≤ 9223372036854775807 ∧ z < -9223372036854775808) by omega) with k | ⟨k1, k2⟩
  · have e1 : cmpZ z 9223372036854775807 = 1 := by unfold cmpZ; rw [if_neg (by omega), if_pos k]
    rw [e1] at O1
    have H1 := Lib.hid O1
    clear O1 O2 e1 h hc hz hz1 hz2 hd1 hd2 k
    go_enter Tryz.func25, Tryz.ntmps25
    go_wp2_with fail
    refine (H.out _).mono ?_
    rintro e w1 ⟨rfl, rfl⟩
    go_wp2_with fail
    refine (H1.out _).mono ?_
    rintro e w1 ⟨rfl, hb1⟩
    go_wp2
    go_ret2
    exact ⟨rfl, hb1⟩
  · obtain ⟨c, hcc⟩ : ∃ c, c = cmpZ z 9223372036854775807 := ⟨_, rfl⟩
    have hc1 : c ≤ 0 := by rw [hcc]; unfold cmpZ; split <;> (try split) <;> omega
    have hc0 : ¬ 0 < c := by omega
    have e2 : cmpZ z (-9223372036854775808) = -1 := by unfold cmpZ; rw [if_pos k2]
    rw [← hcc] at O1
    rw [e2] at O2
    have H1 := Lib.hid O1
    have H2 := Lib.hid O2
    have hd0 : decide (0 < c) = false := decide_eq_false hc0
    clear O1 O2 e2 h hc hz hz1 hz2 hd1 hd2 k1 k2 hcc
    go_enter Tryz.func25, Tryz.ntmps25
    go_wp2_with fail
    refine (H.out _).mono ?_
    rintro e w1 ⟨rfl, rfl⟩
    go_wp2_with fail
    refine (H1.out _).mono ?_
    rintro e w1 ⟨rfl, hb1⟩
    go_wp2_with fail
    refine (H2.out _).mono ?_
    rintro e w2 ⟨rfl, hb2⟩
    go_wp2
    go_ret2
    exact ⟨rfl, hb1.trans (hb2.mono hb1.size)⟩
end Go.Proofs.YtolkiimlchfmlaaGreatDoor

namespace Go.Proofs.YtolkiimlchfmlaaGreatDoor
open Go.RowKit Go.Proofs.Num

theorem val_drop_le10 (l : List Nat) (k : Nat) : val 10 (l.drop k) ≤ val 10 l := by
  have h := val_append 10 (l.take k) (l.drop k)
  rw [List.take_append_drop] at h
  have h2 : val 10 (l.drop k) ≤ 10 ^ (l.take k).length * val 10 (l.drop k) := Nat.le_mul_of_pos_left _ (Nat.pow_pos (by omega))
  omega

set_option maxHeartbeats 1600000 in
set_option maxRecDepth 100000 in
theorem rsmall_in (s : ByteArray) (h0 : -9223372036854775808 ≤ parse s.data.toList) (h1 : parse s.data.toList ≤ 9223372036854775807) (hc : chk s.data.toList = 0) (hs : s.size ≤ 9223372036854775807) (w : World) :
    Calls Tryz.prog 25 #[.string s] w fun e w' => e = .returned (.tuple #[.int .i64 (parse s.data.toList), .int .i64 0]) ∧ Below w.heap.size w w' := by
  have H := Lib.hid (fun w => rcheck_any s w hs)
  obtain ⟨z, d, hz1, hz2, hd1, hd2, hz⟩ := canon s hc
  rw [hc] at H
  rw [← hz2] at h0 h1 ⊢
  have O1 := fun w => rorderT z 9223372036854775807 hz (few_max.le (by omega)) hd1 (by omega) w
  have O2 := fun w => rorderT z (-9223372036854775808) hz (few_min.le (by omega)) hd1 (by omega) w
  have HD := Lib.hid (fun w => digits_T hz hd1 (by omega) w)
  have HM := Lib.hid (fun w => minus_any z w)
  have HL : Hid ((dig 10 z.natAbs).length ≤ 1024) := by have := few_len hz; unfold Hid; omega
  rw [← hz1, T_max] at O1
  rw [← hz1, T_min] at O2
  rw [← hz1] at HD HM
  obtain ⟨c, hcc⟩ : ∃ c, c = cmpZ z 9223372036854775807 := ⟨_, rfl⟩
  obtain ⟨c', hcc'⟩ : ∃ c, c = cmpZ z (-9223372036854775808) := ⟨_, rfl⟩
  have e1 : ¬ 0 < c := by rw [hcc]; unfold cmpZ; split <;> (try split) <;> omega
  have e2 : ¬ c' < 0 := by rw [hcc']; unfold cmpZ; split <;> (try split) <;> omega
  have d1 : decide (0 < c) = false := decide_eq_false e1
  have d2 : decide (c' < 0) = false := decide_eq_false e2
  rw [← hcc] at O1
  rw [← hcc'] at O2
  have H1 := Lib.hid O1
  have H2 := Lib.hid O2
  have HV := Lib.hid (val_dig10 z.natAbs)
  have HLT := Lib.hid (dig10_lt z.natAbs)
  clear O1 O2 hc hz hz1 hz2 hd1 hd2 hcc hcc'
  obtain ⟨n, hn⟩ : ∃ n, n = z.natAbs := ⟨_, rfl⟩
  unfold GivesDg Dg at HD
  rw [← hn] at HD HL HV HLT
  generalize hLL : dig 10 n = L at *
  by_cases hneg : z < 0
  · rw [decide_eq_true hneg] at HM
    have hzn : z = -(n : Int) := by omega
    have hnb : n ≤ 9223372036854775808 := by omega
    have HZ := Lib.hid hzn
    clear hneg hn h0 h1 hzn
    go_enter Tryz.func25, Tryz.ntmps25
    go_wp2_with fail
    refine (H.out _).mono ?_
    rintro e w1 ⟨rfl, rfl⟩
    go_wp2_with fail
    refine (H1.out _).mono ?_
    rintro e w1 ⟨rfl, hb1⟩
    go_wp2_with fail
    refine (H2.out _).mono ?_
    rintro e w2 ⟨rfl, hb2⟩
    have hB2 : Below w.heap.size w w2 := hb1.trans (hb2.mono hb1.size)
    clear hb1 hb2
    go_wp2_with fail
    refine (HD.out _).mono ?_
    rintro e w3 ⟨v, rfl, hv, hb3⟩
    obtain ⟨a, cap, rfl, hat⟩ := Rd.at hv
    have hB3 : Below w.heap.size w w3 := hB2.trans (hb3.mono hB2.size)
    have HA := Lib.hid hat
    have hLlen := HL.out
    clear hB2 hb3 hv hat
    go_wp2
    go_loopw [5, 7] (fun m i wr => ∃ j : Nat, j ≤ L.length ∧ i = .int .i64 ((j : Int) - 1) ∧ m = .int .i64 (-((val 10 (L.drop j) : Nat) : Int)) ∧ wr = w3) (fun _ i _ => (intOf i + 1).toNat)
    case atStart => exact ⟨L.length, Nat.le_refl _, rfl, by rw [List.drop_length]; rfl, rfl⟩
    case round =>
      obtain ⟨j, hj, rfl, rfl, rfl⟩ := hrel
      rcases j with _ | k
      · rw [show (((0 : Nat) : Int) - 1) = -1 by omega, List.drop_zero, HV.out]
        go_wp2
        go_ret2
        exact ⟨by rw [HZ.out]; rfl, hB3⟩
      · rw [show (((k + 1 : Nat) : Int) - 1) = (k : Int) by omega]
        have hkl : k < L.length := by omega
        obtain ⟨b1, o1, rfl, hb1, hcell⟩ := HA.out k hkl
        have hvd := val_drop 10 L k hkl
        have hle := val_drop_le10 L k
        have hx := nth_lt (b := 10) (by omega) L HLT.out k
        rw [HV.out, hvd] at hle
        have HVD := Lib.hid hvd
        clear hvd
        generalize nth L k = x at *
        generalize val 10 (L.drop (k + 1)) = V at *
        have E := Lib.hid (show -((x + 10 * V : Nat) : Int) = (10 * -(V : Int) - (x : Int)) by omega)
        go_wp2_with fail
        refine (HM.out _).mono ?_
        rintro e w4 ⟨rfl, rfl⟩
        go_wp2
        go_roundw
        case rel => exact ⟨k, by omega, rfl, by rw [HVD.out, E.out], trivial⟩
        case measure => simp [intOf]
  · rw [decide_eq_false hneg] at HM
    have hzn : z = (n : Int) := by omega
    have hnb : n ≤ 9223372036854775807 := by omega
    have HZ := Lib.hid hzn
    clear hneg hn h0 h1 hzn
    go_enter Tryz.func25, Tryz.ntmps25
    go_wp2_with fail
    refine (H.out _).mono ?_
    rintro e w1 ⟨rfl, rfl⟩
    go_wp2_with fail
    refine (H1.out _).mono ?_
    rintro e w1 ⟨rfl, hb1⟩
    go_wp2_with fail
    refine (H2.out _).mono ?_
    rintro e w2 ⟨rfl, hb2⟩
    have hB2 : Below w.heap.size w w2 := hb1.trans (hb2.mono hb1.size)
    clear hb1 hb2
    go_wp2_with fail
    refine (HD.out _).mono ?_
    rintro e w3 ⟨v, rfl, hv, hb3⟩
    obtain ⟨a, cap, rfl, hat⟩ := Rd.at hv
    have hB3 : Below w.heap.size w w3 := hB2.trans (hb3.mono hB2.size)
    have HA := Lib.hid hat
    have hLlen := HL.out
    clear hB2 hb3 hv hat
    go_wp2
    go_loopw [5, 7] (fun m i wr => ∃ j : Nat, j ≤ L.length ∧ i = .int .i64 ((j : Int) - 1) ∧ m = .int .i64 (((val 10 (L.drop j) : Nat) : Int)) ∧ wr = w3) (fun _ i _ => (intOf i + 1).toNat)
    case atStart => exact ⟨L.length, Nat.le_refl _, rfl, by rw [List.drop_length]; rfl, rfl⟩
    case round =>
      obtain ⟨j, hj, rfl, rfl, rfl⟩ := hrel
      rcases j with _ | k
      · rw [show (((0 : Nat) : Int) - 1) = -1 by omega, List.drop_zero, HV.out]
        go_wp2
        go_ret2
        exact ⟨by rw [HZ.out]; rfl, hB3⟩
      · rw [show (((k + 1 : Nat) : Int) - 1) = (k : Int) by omega]
        have hkl : k < L.length := by omega
        obtain ⟨b1, o1, rfl, hb1, hcell⟩ := HA.out k hkl
        have hvd := val_drop 10 L k hkl
        have hle := val_drop_le10 L k
        have hx := nth_lt (b := 10) (by omega) L HLT.out k
        rw [HV.out, hvd] at hle
        have HVD := Lib.hid hvd
        clear hvd
        generalize nth L k = x at *
        generalize val 10 (L.drop (k + 1)) = V at *
        have E := Lib.hid (show ((x + 10 * V : Nat) : Int) = (10 * (V : Int) + (x : Int)) by omega)
        go_wp2_with fail
        refine (HM.out _).mono ?_
        rintro e w4 ⟨rfl, rfl⟩
        go_wp2
        go_roundw
        case rel => exact ⟨k, by omega, rfl, by rw [HVD.out, E.out], trivial⟩
        case measure => simp [intOf]
end Go.Proofs.YtolkiimlchfmlaaGreatDoor
