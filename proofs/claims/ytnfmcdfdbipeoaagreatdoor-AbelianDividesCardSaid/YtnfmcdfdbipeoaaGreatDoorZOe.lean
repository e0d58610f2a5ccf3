/- Walks of the reference: the text of an int. -/
import Derived.Test.YtnfmcdfdbipeoaaGreatDoorQ23
namespace Go.Proofs.YtnfmcdfdbipeoaaGreatDoor
open Go.RowKit Go.Proofs.Num

theorem dig_digit {m N : Nat} {o : List Nat} (h : o ++ dig 10 m = dig 10 N) (hm : m ≠ 0) : (o ++ [m % 10]) ++ dig 10 (m / 10) = dig 10 N := by
  rw [← h, dig_pos (by omega) hm]; simp

set_option maxHeartbeats 1600000 in
set_option maxRecDepth 100000 in
theorem rof_pos (N : Nat) (h : N ≤ 9223372036854775807) (w : World) : Calls Tryz.prog 28 #[.int .i64 (N : Int)] w (OutR w (T (N : Int))) := by
  obtain ⟨i0, hi, hz0, hz1, hz2⟩ := info_parts info3
  have hl : (dig 10 N).length ≤ 19 := dig_length_le (by omega) 19 N (by omega)
  have HX := Lib.hid (fun (v : Value) (w : World) (h : Dg w v N) => text_R v N false (N : Int) w h (by omega) rfl)
  obtain ⟨S, hS⟩ : ∃ S, S = T (N : Int) := ⟨_, rfl⟩
  rw [← hS] at HX ⊢
  clear hS
  have hneg : ¬ ((N : Nat) : Int) < 0 := by omega
  go_enter Tryz.func28, Tryz.ntmps28
  go_wp2
  go_loopw [0, 4] (fun n l wr => ∃ (m : Nat) (o : List Nat), m ≤ N ∧ n = .int .i64 m ∧ wr.ownsRow w.heap.size 3 1 l o.length (cellsOf .i64 o) ∧ o ++ dig 10 m = dig 10 N ∧ Below w.heap.size w wr)
    (fun n _ _ => (intOf n).toNat)
  case atStart => exact ⟨N, [], Nat.le_refl _, rfl, World.ownsRow_nil _ _ _ _, rfl, Below.refl _ _⟩
  case round =>
    obtain ⟨m, o, hm, rfl, hown, hd, hB⟩ := hrel
    have hol : o.length ≤ 19 := by
      have := congrArg List.length hd
      rw [List.length_append] at this; omega
    by_cases h0 : m = 0
    · subst h0
      rw [dig_zero, List.append_nil] at hd
      subst hd
      have hrd := Rd.of_own hown
      obtain ⟨a', c', rfl⟩ := Rd.shape hrd
      go_wp2_with fail
      refine (HX.out _ _ hrd).mono ?_
      rintro e w1 ⟨rfl, hb1⟩
      go_wp2
      go_ret
      exact ⟨rfl, hB.trans (hb1.mono hB.size)⟩
    · have HD := Lib.hid (dig_digit hd h0)
      have hm0 : ¬ ((m : Nat) : Int) = 0 := by omega
      have hd0 : ¬ ((m : Nat) : Int) % 10 < 0 := by omega
      have E1 := Lib.hid (show ((m % 10 : Nat) : Int) = (m : Int) % 10 by omega)
      have E2 := Lib.hid (show ((m / 10 : Nat) : Int) = (m : Int) / 10 by omega)
      clear hd
      go_wp2_with (at_builtin; refine wpList_append_own _ rfl _ _ 80 rfl w.heap.size 3 i0 (.int .i64 0) 1 8 Tryz.underlying80 hi hz0 hz1 hz2 rfl (by decide) u4 o.length _ rfl (hown.alloc _) ⟨wr.heap.size, 0, none⟩ 1 1 [_] rfl rfl (cell_one_new _ _ _) (by simp [Value.oneCell']) (by unfold maxLen; omega) (by omega) (by have := hB.size; rw [World.size_alloc]; omega) ?_; intro v' w1 hown1 hgrow1 _)
      go_roundw
      case rel =>
        refine ⟨m / 10, _, by omega, by rw [E2.out], ?_, HD.out, row_below hB hown hgrow1⟩
        rw [List.length_append, cellsOf_append, cellsOf_one, E1.out]
        exact hown1
      case measure => simp [intOf]; omega

theorem neg_mod (m : Nat) : (-(m : Int)).tmod 10 = -((m % 10 : Nat) : Int) := by
  rw [Int.neg_tmod, Int.tmod_eq_emod_of_nonneg (by omega), Int.natCast_emod]; rfl
theorem neg_div (m : Nat) : (-(m : Int)).tdiv 10 = -((m / 10 : Nat) : Int) := by
  rw [Int.neg_tdiv, Int.tdiv_eq_ediv_of_nonneg (by omega), Int.natCast_ediv]; rfl

set_option maxHeartbeats 1600000 in
set_option maxRecDepth 100000 in
theorem rof_neg (N : Nat) (hN : 0 < N) (h : N ≤ 9223372036854775808) (w : World) : Calls Tryz.prog 28 #[.int .i64 (-(N : Int))] w (OutR w (T (-(N : Int)))) := by
  obtain ⟨i0, hi, hz0, hz1, hz2⟩ := info_parts info3
  have hl : (dig 10 N).length ≤ 19 := dig_length_le (by omega) 19 N (by omega)
  have hne : (dig 10 N).length ≠ 0 := by
    intro h0
    have := (dig_eq_nil (b := 10) (by omega) N).1 (List.length_eq_zero_iff.1 h0)
    omega
  have HX := Lib.hid (fun (v : Value) (w : World) (h : Dg w v N) => text_R v N true (-(N : Int)) w h (by omega) rfl)
  obtain ⟨S, hS⟩ : ∃ S, S = T (-(N : Int)) := ⟨_, rfl⟩
  rw [← hS] at HX ⊢
  clear hS
  obtain ⟨x, hx⟩ : ∃ x : Int, x = -(N : Int) := ⟨_, rfl⟩
  have hneg : x < 0 := by omega
  rw [← hx]
  have HXX := Lib.hid hx
  clear hx
  go_enter Tryz.func28, Tryz.ntmps28
  go_wp2
  go_loopw [0, 4, 5] (fun n l d wr => ∃ (m : Nat) (o : List Nat), m ≤ N ∧ n = .int .i64 (-(m : Int)) ∧ wr.ownsRow w.heap.size 3 1 l o.length (cellsOf .i64 o) ∧ o ++ dig 10 m = dig 10 N ∧ Below w.heap.size w wr)
    (fun n _ _ _ => (-(intOf n)).toNat)
  case atStart => exact ⟨N, [], Nat.le_refl _, by rw [HXX.out], World.ownsRow_nil _ _ _ _, rfl, Below.refl _ _⟩
  case round =>
    obtain ⟨m, o, hm, rfl, hown, hd, hB⟩ := hrel
    have hol : o.length ≤ 19 := by
      have := congrArg List.length hd
      rw [List.length_append] at this; omega
    by_cases h0 : m = 0
    · subst h0
      rw [dig_zero, List.append_nil] at hd
      rw [← hd] at hne
      have hrd0 := Rd.of_own hown
      have hrd := Lib.hid hrd0
      rw [hd] at hrd
      obtain ⟨a', c', rfl⟩ := Rd.shape hrd0
      have hl0 : ((o.length : Int) == 0) = false := beq_eq_false_iff_ne.2 (by omega)
      clear hd hrd0
      go_wp2_with fail
      refine (HX.out _ _ hrd.out).mono ?_
      rintro e w1 ⟨rfl, hb1⟩
      go_wp2
      go_ret
      exact ⟨rfl, hB.trans (hb1.mono hB.size)⟩
    · have HD := Lib.hid (dig_digit hd h0)
      obtain ⟨y, hy⟩ : ∃ y : Int, y = -(m : Int) := ⟨_, rfl⟩
      obtain ⟨q, hq⟩ : ∃ q : Nat, q = m % 10 := ⟨_, rfl⟩
      obtain ⟨p, hp⟩ : ∃ q : Nat, q = m / 10 := ⟨_, rfl⟩
      have t1 : y.tmod 10 = -(q : Int) := by rw [hy, hq]; exact neg_mod m
      have t2 : y.tdiv 10 = -(p : Int) := by rw [hy, hp]; exact neg_div m
      have hy0 : ¬ y = 0 := by omega
      have hyl : -9223372036854775808 ≤ y := by omega
      have hyu : y ≤ 0 := by omega
      have hq9 : q ≤ 9 := by omega
      have hpm : p < m := by omega
      have hM := Lib.hid (show (-(y)).toNat = m by omega)
      rw [← hq, ← hp] at HD
      rw [← hy]
      clear hd hy hq hp
      rcases (show q = 0 ∨ 0 < q by omega) with hq0 | hq0
      · subst hq0
        have t1' : y.tmod 10 = 0 := by rw [t1]; rfl
        clear t1
        go_wp2_with (at_builtin; refine wpList_append_own _ rfl _ _ 80 rfl w.heap.size 3 i0 (.int .i64 0) 1 8 Tryz.underlying80 hi hz0 hz1 hz2 rfl (by decide) u4 o.length _ rfl (hown.alloc _) ⟨wr.heap.size, 0, none⟩ 1 1 [_] rfl rfl (cell_one_new _ _ _) (by simp [Value.oneCell']) (by unfold maxLen; omega) (by omega) (by have := hB.size; rw [World.size_alloc]; omega) ?_; intro v' w1 hown1 hgrow1 _)
        go_roundw
        case rel =>
          refine ⟨p, _, by omega, rfl, ?_, HD.out, row_below hB hown hgrow1⟩
          rw [List.length_append, cellsOf_append, cellsOf_one]
          exact hown1
        case measure => simp [intOf]; have := hM.out; omega
      · have hqn : -(q : Int) < 0 := by omega
        go_wp2_with (at_builtin; refine wpList_append_own _ rfl _ _ 80 rfl w.heap.size 3 i0 (.int .i64 0) 1 8 Tryz.underlying80 hi hz0 hz1 hz2 rfl (by decide) u4 o.length _ rfl (hown.alloc _) ⟨wr.heap.size, 0, none⟩ 1 1 [_] rfl rfl (cell_one_new _ _ _) (by simp [Value.oneCell']) (by unfold maxLen; omega) (by omega) (by have := hB.size; rw [World.size_alloc]; omega) ?_; intro v' w1 hown1 hgrow1 _)
        go_roundw
        case rel =>
          refine ⟨p, _, by omega, rfl, ?_, HD.out, row_below hB hown hgrow1⟩
          rw [List.length_append, cellsOf_append, cellsOf_one]
          exact hown1
        case measure => simp [intOf]; have := hM.out; omega
end Go.Proofs.YtnfmcdfdbipeoaaGreatDoor
