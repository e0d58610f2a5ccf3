/- Walks of the functions on texts: writing. -/
import Derived.Test.YtnfmcdfdbipeoaaGreatDoorQ05
import Derived.Test.YtnfmcdfdbipeoaaGreatDoorQ12
import Derived.Lib.AppendIntMem
import Derived.Maps.AppendAt
namespace Go.Proofs.YtnfmcdfdbipeoaaGreatDoor
open Go.RowKit Go.Proofs.Num

theorem info5 : (Tryz.prog.info? 5).map (fun i => (i.zero, i.size, i.bytes)) = some (some (.int .u8 0), 1, 1) := by kernel_rfl

/-- The unit behind i steps. -/
def unit (i : Nat) : Nat := 100000000 / 10 ^ i
theorem unit_facts : ∀ i, i ≤ 9 → unit i ≤ 100000000 ∧ (i < 9 → 0 < unit i ∧ unit i = 10 ^ (8 - i)) ∧ (i = 9 → unit i = 0) ∧ unit (i + 1) = unit i / 10 := by
  intro i hi
  rcases (show i = 0 ∨ i = 1 ∨ i = 2 ∨ i = 3 ∨ i = 4 ∨ i = 5 ∨ i = 6 ∨ i = 7 ∨ i = 8 ∨ i = 9 by omega) with rfl | rfl | rfl | rfl | rfl | rfl | rfl | rfl | rfl | rfl <;> decide

theorem byteCells_append (l m : List UInt8) : Lib.byteCells (l ++ m) = Lib.byteCells l ++ Lib.byteCells m := by simp [Lib.byteCells]
theorem byteCells_len (l : List UInt8) : (Lib.byteCells l).length = l.length := by simp [Lib.byteCells]
theorem byteCells_dig (u : Nat) (h : u < 10) : Lib.byteCells [UInt8.ofNat (48 + u)] = [.int .u8 ((48 : Int) + u)] := by
  have e := toNat_ofNat_dig h
  show [Value.int .u8 (((UInt8.ofNat (48 + u)).toNat : Nat) : Int)] = _
  rw [e]; rfl

set_option maxHeartbeats 1600000 in
set_option maxRecDepth 100000 in
/-- appendGroup -/
theorem appendGroup_any (B n x : Nat) (sv : Value) (xs : List Value) (w : World) (hown : w.ownsRow B 5 1 sv n xs) (hBw : B ≤ w.heap.size) (hx : x < 1000000000) (hn : n ≤ 4294967295) :
    Calls Tryz.prog 130 #[sv, .int .u64 x] w fun e w' => ∃ v', e = .returned v' ∧ w'.ownsRow B 5 1 v' (n + 9) (xs ++ Lib.byteCells (padk 9 x)) ∧ Below B w w' := by
  obtain ⟨i0, hi, hz0, hz1, hz2⟩ := info_parts info5
  go_enter Tryz.func130, Tryz.ntmps130
  go_wp2
  go_loopw [0, 5] (fun v u wr => ∃ i : Nat, i ≤ 9 ∧ u = .int .u64 (unit i) ∧ wr.ownsRow B 5 1 v (n + i) (xs ++ Lib.byteCells (padT x i)) ∧ Below B w wr)
    (fun _ u _ => (intOf u).toNat)
  case atStart => exact ⟨0, by omega, by go_num, by simpa [padT, Lib.byteCells] using hown, Below.refl _ _⟩
  case round =>
    obtain ⟨i, hi9, rfl, hrow, hB⟩ := hrel
    obtain ⟨h1, h2, h3, h4⟩ := unit_facts i hi9
    generalize hu : unit i = u at *
    by_cases hlt : i < 9
    · obtain ⟨h5, h6⟩ := h2 hlt
      have hd := byteCells_dig (x / u % 10) (Nat.mod_lt _ (by omega))
      have H4 : Hid (unit (i + 1) = u / 10 ∧ u = 10 ^ (8 - i) ∧ Lib.byteCells [UInt8.ofNat (48 + x / u % 10)] = [.int .u8 ((48 : Int) + ((x / u % 10 : Nat) : Int))]) := ⟨h4, h6, hd⟩
      have hq0 : 0 ≤ (x : Int) / (u : Int) := by rw [← Int.natCast_ediv]; exact Int.natCast_nonneg _
      have hq1 : (x : Int) / (u : Int) ≤ 1000000000 := by
        rw [← Int.natCast_ediv]
        have := Nat.div_le_self x u
        generalize x / u = q at *
        omega
      have hune : ((u : Int) == 0) = false := by simp; omega
      clear h2 h3 h4 h6 hu hd
      go_wp2_with (at_builtin; refine wpList_append_own _ rfl _ _ 119 rfl B 5 i0 (.int .u8 0) 1 1 Tryz.underlying119 hi hz0 hz1 hz2 rfl (by decide) u0 (n + i) _ rfl (hrow.alloc _) ⟨wr.heap.size, 0, none⟩ 1 1 [_] rfl rfl (cell_one_new _ _ _) (by simp [Value.oneCell']) (by unfold maxLen; omega) (by omega) (by have := hB.size; simp; omega) ?_; intro v' w1 hown1 hgrow1 _)
      have hrl := hrow.lt
      have hcst : ((x / u % 10 : Nat) : Int) = (x : Int) / (u : Int) % 10 := by rw [Int.natCast_emod, Int.natCast_ediv]; rfl
      go_roundw
      case rel =>
        refine ⟨i + 1, by omega, by rw [H4.out.1]; go_num, ?_, (hB.alloc (Nat.le_trans hBw hB.size) _).grown hgrow1 (Nat.le_trans (Nat.le_trans hBw hB.size) (by rw [World.size_alloc]; omega)) (fun k hk => (hrl k hk).1)⟩
        rw [padT_succ, byteCells_append, ← H4.out.2.1, H4.out.2.2, hcst, ← List.append_assoc]
        exact hown1
      case measure => simp [intOf]; omega
    · obtain rfl : i = 9 := by omega
      have hu0 : u = 0 := h3 rfl
      subst hu0
      rw [padT_nine] at hrow
      clear h1 h2 h3 h4 hu
      go_wp2
      go_ret
      exact ⟨u0, rfl, hrow, hB⟩

/-- The table of powers of ten that strconv reads. -/
abbrev Tab (w : World) : Prop := Lib.TabIs Tryz.prog w "internal/strconv.uint64pow10" .u64 Lib.pow10Tab

set_option maxHeartbeats 1600000 in
/-- strconv.AppendUint with the base 10. -/
theorem appendUint_any (B n u : Nat) (hu64 : u < 18446744073709551616) (sv : Value) (xs : List Value) (w : World) (hown : w.ownsRow B 5 1 sv n xs) (hBw : B ≤ w.heap.size) (hlim : n + 20 ≤ 140737488355328) (htab : Tab w) :
    Calls Tryz.prog 129 #[sv, .int .u64 u, .int .i64 10] w fun e w' => ∃ v', e = .returned v' ∧ w'.ownsRow B 5 1 v' (n + (Lib.decDigits u).length) (xs ++ Lib.byteCells (Lib.decDigits u)) ∧ Below B w w' := by
  have hc : Calls Tryz.prog 148 #[sv, .int .u64 u, .int .i64 10] w fun e w' => ∃ v', e = .returned v' ∧ w'.ownsRow B 5 1 v' (n + (Lib.decDigits u).length) (xs ++ Lib.byteCells (Lib.decDigits u)) ∧ Below B w w' := by
    rcases Nat.lt_or_ge u 100 with h | h
    · exact (Tryz.internal_strconv_AppendUint_10_small B n u h sv xs w hown hBw hlim).mono fun e w' ⟨v, h1, h2, h3, _⟩ => ⟨v, h1, h2, h3⟩
    · exact (Tryz.internal_strconv_AppendUint_10_big B n u h hu64 sv xs w hown hBw hlim htab).mono fun e w' ⟨v, h1, h2, h3, _⟩ => ⟨v, h1, h2, h3⟩
  have HC := Lib.hid hc
  clear hc htab hown
  go_enter Tryz.func129, Tryz.ntmps129
  go_wp2_with fail
  refine HC.out.mono ?_
  rintro e w' ⟨v, rfl, h1, h2⟩
  go_wp2
  go_ret
  exact ⟨v, rfl, h1, h2⟩
end Go.Proofs.YtnfmcdfdbipeoaaGreatDoor
