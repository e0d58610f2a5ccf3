/- How many effective divisors there are, by both. -/
import Derived.Test.YtalbdggpghkcfaaCu
import Derived.Lib.MinMax
namespace Go.Proofs.Ytalbdggpghkcfaa
open Go.RowKit Go.Proofs.Gr Go.Proofs.Cp
attribute [local go_sem] Oper.semAt_some

set_option maxRecDepth 100000 in
theorem make_ints (n : Nat) (hn : n ≤ 10000000) (w : World) : (Instr.makeSlice 22 (.int .i64 (n : Int)) (.int .i64 (n : Int))).run Try.prog w = .ok (.slice (some ⟨w.heap.size, 0, none⟩) n n) (w.alloc (.cells (flat encI (List.replicate n 0)).toArray 3)) := by
  obtain ⟨i0, hi0, hz0, hz1, hz2⟩ := info_parts infoI
  have h := run_make (P := Try.prog) w 22 3 i0 (.int .i64 0) Try.underlying22 hi0 hz0 .i64 .i64 n n (by omega) (by omega) (by rw [hz2]; omega) (by omega)
  rw [h]
  simp only [Int.toNat_natCast, hz1, Nat.mul_one]
  rw [flat_rep encI 0 (.int .i64 0) 1 rfl]
  congr 2
  refine congrArg (fun c => Obj.cells c 3) (Array.toList_inj.1 ?_)
  rw [show (Value.int .i64 0).cells = #[.int .i64 0] from rfl, toList_madeCells_one]; simp
/-- A list by its numbers. -/
def fnL (n : Nat) (h : Nat → Int) : List Int := (List.range n).map h
theorem fnL_len (n : Nat) (h : Nat → Int) : (fnL n h).length = n := by simp [fnL]
theorem fnL_at (n : Nat) (h : Nat → Int) (j : Nat) (hj : j < n) : iAt (fnL n h) j = h j := by
  unfold fnL iAt; rw [List.getD_eq_getElem?_getD, List.getElem?_map, List.getElem?_range hj]; rfl
theorem fnL_set (n : Nat) (h : Nat → Int) (i : Nat) (v : Int) (hi : i < n) : (fnL n h).set i v = fnL n (fun j => if j = i then v else h j) := by
  refine eq_of_at (by rw [List.length_set, fnL_len, fnL_len]) fun j hj => ?_
  rw [List.length_set, fnL_len] at hj
  rw [iAt_set _ _ _ _ (by rw [fnL_len]; exact hi), fnL_at _ _ _ hj, fnL_at _ _ _ hj]
  by_cases e : i = j
  · rw [if_pos e, if_pos e.symm]
  · rw [if_neg e, if_neg (fun e' => e e'.symm)]
theorem fnL_congr {n : Nat} {h h' : Nat → Int} (e : ∀ j, j < n → h j = h' j) : fnL n h = fnL n h' := by
  refine eq_of_at (by rw [fnL_len, fnL_len]) fun j hj => ?_
  rw [fnL_len] at hj
  rw [fnL_at _ _ _ hj, fnL_at _ _ _ hj, e j hj]
/-- At most one more than are listed. -/
def capN (m k : Nat) : Int := min (cnt m k : Int) 16385
def mixL (k m i : Nat) : List Int := fnL (k + 1) fun j => if j < i then capN (m + 1) j else capN m j
def onesL (k i : Nat) : List Int := fnL (k + 1) fun j => if j < i then 1 else 0
theorem cap_step (m j : Nat) : min (capN m (j + 1) + capN (m + 1) j) 16385 = capN (m + 1) (j + 1) := by
  unfold capN; rw [cnt_ss]; omega
theorem mix_one (k m : Nat) : mixL k m 1 = fnL (k + 1) (capN m) := fnL_congr fun j _ => by
  by_cases h : j < 1
  · obtain rfl : j = 0 := by omega
    rw [if_pos h]; unfold capN; rw [cnt_zero, cnt_zero]
  · rw [if_neg h]
theorem mix_all (k m : Nat) : mixL k m (k + 1) = fnL (k + 1) (capN (m + 1)) := fnL_congr fun j hj => by rw [if_pos hj]
theorem mix_set (k m i : Nat) (hi : i < k) : (mixL k m (i + 1)).set (i + 1) (capN (m + 1) (i + 1)) = mixL k m (i + 2) := by
  unfold mixL
  rw [fnL_set _ _ _ _ (by omega)]
  refine fnL_congr fun j hj => ?_
  by_cases e : j = i + 1
  · subst e; rw [if_pos rfl, if_pos (by omega)]
  · rw [if_neg e]
    by_cases h : j < i + 1
    · rw [if_pos h, if_pos (by omega)]
    · rw [if_neg h, if_neg (by omega)]
theorem mix_new (k m i : Nat) (hi : i < k) : iAt (mixL k m (i + 1)) (i + 1) = capN m (i + 1) := by
  unfold mixL; rw [fnL_at _ _ _ (by omega), if_neg (by omega)]
theorem mix_old (k m i : Nat) (hi : i < k) : iAt (mixL k m (i + 1)) i = capN (m + 1) i := by
  unfold mixL; rw [fnL_at _ _ _ (by omega), if_pos (by omega)]
theorem mix_len (k m i : Nat) : (mixL k m i).length = k + 1 := fnL_len _ _
theorem ones_len (k i : Nat) : (onesL k i).length = k + 1 := fnL_len _ _
theorem ones_zero (k : Nat) : onesL k 0 = List.replicate (k + 1) 0 := by
  refine eq_of_at (by rw [ones_len, List.length_replicate]) fun j hj => ?_
  rw [ones_len] at hj
  unfold onesL
  rw [fnL_at _ _ _ hj, if_neg (by omega), iAt_rep]
theorem ones_set (k i : Nat) (hi : i < k + 1) : (onesL k i).set i 1 = onesL k (i + 1) := by
  unfold onesL
  rw [fnL_set _ _ _ _ hi]
  refine fnL_congr fun j hj => ?_
  by_cases e : j = i
  · subst e; rw [if_pos rfl, if_pos (by omega)]
  · rw [if_neg e]
    by_cases h : j < i
    · rw [if_pos h, if_pos (by omega)]
    · rw [if_neg h, if_neg (by omega)]
theorem ones_all (k : Nat) : onesL k (k + 1) = mixL k 0 1 := by
  rw [mix_one]
  refine fnL_congr fun j hj => ?_
  rw [if_pos hj]; rfl
theorem cap_bd (m k : Nat) : 1 ≤ capN m k ∧ capN m k ≤ 16385 := by
  unfold capN; have := cnt_pos m k; omega
theorem cnt_one (k : Nat) : cnt 1 k = k + 1 := by
  induction k with
  | zero => rfl
  | succ k ih => rw [cnt_ss, ih, cnt_0]; omega
theorem cap_large (m k : Nat) (h : 16384 < k) : capN (m + 1) k = 16385 := by
  unfold capN
  have h1 := cnt_mono' k (i := 1) (j := m + 1) (by omega)
  rw [cnt_one] at h1
  omega
/-- More than are listed. -/
def manyB (N k : Nat) : Bool := decide (16384 < cnt N k)
theorem many_cap (N k : Nat) : decide ((16384 : Int) < capN N k) = manyB N k := by
  unfold capN manyB
  by_cases h : 16384 < cnt N k
  · rw [decide_eq_true h, decide_eq_true (by omega)]
  · rw [decide_eq_false h, decide_eq_false (by omega)]
set_option maxHeartbeats 12800000 in
set_option maxRecDepth 100000 in
theorem pmany_any (N k : Nat) (hN : N < 12) (hk : k ≤ 1048576) (w : World) :
    Calls Try.prog 75 #[.int .i64 ((N + 1 : Nat) : Int), .int .i64 (k : Int)] w (fun e w' => e = .returned (.bool (manyB N k)) ∧ w = w') := by
  have HC0 : Hid (cnt 0 k = 1) := Lib.hid rfl
  have HCS : Hid (∀ i : Nat, ((cnt i k : Int) * ((k : Int) + ((i : Int) + 1))).tdiv ((i : Int) + 1) = (cnt (i + 1) k : Int)) := Lib.hid fun i => by
    have h := (cnt_both i).2 k
    have e : (cnt i k : Int) * ((k : Int) + ((i : Int) + 1)) = (cnt (i + 1) k : Int) * ((i : Int) + 1) := by
      have := congrArg (fun z : Nat => (z : Int)) h
      simp only [Int.natCast_mul, Int.natCast_add] at this
      rw [show (k : Int) + ((i : Int) + 1) = (k : Int) + (i : Int) + 1 by omega]
      exact this.symm
    rw [e]
    exact Int.mul_tdiv_cancel _ (by omega)
  have HBD : Hid (∀ i, i ≤ N → cnt i k ≤ 16384 → cnt (i + 1) k ≤ 20000000000) := Lib.hid fun i hi h => by
    have h1 := (cnt_both i).2 k
    have h2 : cnt i k * (k + i + 1) ≤ 16384 * 1048600 := Nat.mul_le_mul h (by omega)
    have h3 : cnt (i + 1) k ≤ cnt (i + 1) k * (i + 1) := Nat.le_mul_of_pos_right _ (by omega)
    omega
  have HMP : Hid (∀ i : Nat, i ≤ N → cnt i k ≤ 16384 → 0 ≤ (cnt i k : Int) * ((k : Int) + ((i : Int) + 1)) ∧ (cnt i k : Int) * ((k : Int) + ((i : Int) + 1)) ≤ 20000000000) := Lib.hid fun i hi h => by
    have h2 : cnt i k * (k + i + 1) ≤ 16384 * 1048600 := Nat.mul_le_mul h (by omega)
    have h4 : ((cnt i k * (k + i + 1) : Nat) : Int) = (cnt i k : Int) * ((k : Int) + ((i : Int) + 1)) := by
      simp only [Int.natCast_mul, Int.natCast_add]
      rw [show (k : Int) + ((i : Int) + 1) = (k : Int) + (i : Int) + ((1 : Nat) : Int) by omega]
    omega
  have HEND : Hid (manyB N k = decide ((16384 : Int) < (cnt N k : Int))) := Lib.hid (by
    unfold manyB
    by_cases h : 16384 < cnt N k
    · rw [decide_eq_true h, decide_eq_true (by omega)]
    · rw [decide_eq_false h, decide_eq_false (by omega)])
  have HMO : Hid (∀ i, i ≤ N → 16384 < cnt i k → manyB N k = true) := Lib.hid fun i hi h => decide_eq_true (Nat.lt_of_lt_of_le h (cnt_mono' k hi))
  generalize manyB N k = R at *
  obtain ⟨C, hC⟩ : ∃ C : Nat → Nat, C = fun i => cnt i k := ⟨_, rfl⟩
  have HC0' : Hid (C 0 = 1) := Lib.hid (by rw [hC]; exact HC0.out)
  have HCS' : Hid (∀ i : Nat, ((C i : Int) * ((k : Int) + ((i : Int) + 1))).tdiv ((i : Int) + 1) = (C (i + 1) : Int)) := Lib.hid (by rw [hC]; exact HCS.out)
  have HBD' : Hid (∀ i, i ≤ N → C i ≤ 16384 → C (i + 1) ≤ 20000000000) := Lib.hid (by rw [hC]; exact HBD.out)
  have HMP' : Hid (∀ i : Nat, i ≤ N → C i ≤ 16384 → 0 ≤ (C i : Int) * ((k : Int) + ((i : Int) + 1)) ∧ (C i : Int) * ((k : Int) + ((i : Int) + 1)) ≤ 20000000000) := Lib.hid (by rw [hC]; exact HMP.out)
  have HEND' : Hid (R = decide ((16384 : Int) < (C N : Int))) := Lib.hid (by rw [hC]; exact HEND.out)
  have HMO' : Hid (∀ i, i ≤ N → 16384 < C i → R = true) := Lib.hid (by rw [hC]; exact HMO.out)
  clear HC0 HCS HBD HMP HEND HMO hC
  go_enter Try.func75, Try.ntmps75
  go_wp2
  go_loop [5, 6] (fun s x => ∃ i : Nat, i ≤ N ∧ x = .int .i64 ((i + 1 : Nat) : Int) ∧ s = .int .i64 (C i) ∧ C i ≤ 20000000000) (fun _ x => N + 1 - (intOf x).toNat)
  case atStart => exact ⟨0, by omega, by go_num, by rw [HC0'.out]; rfl, by rw [HC0'.out]; omega⟩
  case round =>
    obtain ⟨i, hi, rfl, rfl, hb⟩ := hrel
    by_cases h16 : C i ≤ 16384
    · by_cases hlt : i < N
      · have i1 : ((i + 1 : Nat) : Int) < ((N + 1 : Nat) : Int) := by omega
        have i2 : (C i : Int) ≤ 16384 := by omega
        have m1 := HMP'.out i (by omega) h16
        have m2 := HCS'.out i
        have HB2 := Lib.hid (HBD'.out i (by omega) h16)
        have m3 : (0 : Int) ≤ (C (i + 1) : Int) ∧ (C (i + 1) : Int) ≤ 20000000000 := by have := HB2.out; omega
        go_wp2
        go_round
        case rel => exact ⟨i + 1, by omega, by go_num, by go_num, HB2.out⟩
        case measure => simp [intOf]; omega
      · obtain rfl : i = N := by omega
        have i1 : decide (((i + 1 : Nat) : Int) < ((i + 1 : Nat) : Int)) = false := by simp
        have HE := HEND'
        go_wp2
        go_ret
        exact ⟨by rw [HE.out]; rfl, rfl⟩
    · have HR := Lib.hid (HMO'.out i hi (by omega))
      have i2 : decide ((C i : Int) ≤ 16384) = false := by rw [decide_eq_false_iff_not]; omega
      have i3 : (16384 : Int) < (C i : Int) := by omega
      by_cases hlt : i < N
      · have i1 : ((i + 1 : Nat) : Int) < ((N + 1 : Nat) : Int) := by omega
        go_wp2
        go_ret
        exact ⟨by rw [HR.out]; rfl, rfl⟩
      · have i1 : decide (((i + 1 : Nat) : Int) < ((N + 1 : Nat) : Int)) = false := by rw [decide_eq_false_iff_not]; omega
        go_wp2
        go_ret
        exact ⟨by rw [HR.out]; rfl, rfl⟩
end Go.Proofs.Ytalbdggpghkcfaa
