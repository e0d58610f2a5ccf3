/- The reference: how many sizes; lines, crossings. -/
import Derived.Test.YtgfbihdnjidodaaQ18
namespace Go.Proofs.Ytgfbihdnjidodaa
open Go.RowKit Go.Shelf Go.Proofs.Gr
attribute [local go_sem] Oper.semAt_some

/-- Hands back pairs of its own. -/
def GivesPO (w : World) (P : List (Int × Int)) (e : Ending) (x : World) : Prop := ∃ v, e = .returned v ∧ x.ownsRow w.heap.size 56 2 v P.length (flat encP P) ∧ Below w.heap.size w x
/-- How many sizes, or the error. -/
def szI (z : Int) : Int := if z < 0 ∨ 8 < z then 0 else if z = 8 then 3 else if 6 ≤ z then 2 else 1
def szE (z : Int) : Nat := if z < 0 ∨ 8 < z then 1 else 0
set_option maxHeartbeats 12800000 in
set_option maxRecDepth 100000 in
theorem rsizes_any (z : Int) (w : World) : Calls Try.prog 11 #[.int .i64 z] w (fun e x => e = .returned (.tuple #[.int .i64 (szI z), .int .i64 (szE z : Nat)]) ∧ Below w.heap.size w x) := by
  by_cases h1 : z < 0
  · have HE : Hid (szI z = 0 ∧ szE z = 1) := Lib.hid (by unfold szI szE; constructor <;> (repeat' split) <;> omega)
    have HB := Lib.hid (Below.refl w.heap.size w)
    go_enter Try.func11, Try.ntmps11
    go_wp2
    go_ret2
    exact ⟨by rw [HE.out.1, HE.out.2]; rfl, HB.out⟩
  · by_cases h2 : 8 < z
    · have HE : Hid (szI z = 0 ∧ szE z = 1) := Lib.hid (by unfold szI szE; constructor <;> (repeat' split) <;> omega)
      have HB := Lib.hid (Below.refl w.heap.size w)
      go_enter Try.func11, Try.ntmps11
      go_wp2
      go_ret2
      exact ⟨by rw [HE.out.1, HE.out.2]; rfl, HB.out⟩
    · by_cases h3 : z = 8
      · have t3 : (z == 8) = true := by rw [beq_iff_eq]; exact h3
        have HE : Hid (szI z = 3 ∧ szE z = 0) := Lib.hid (by unfold szI szE; constructor <;> (repeat' split) <;> omega)
        have HB := Lib.hid (Below.refl w.heap.size w)
        clear h3
        go_enter Try.func11, Try.ntmps11
        go_wp2
        go_ret2
        exact ⟨by rw [HE.out.1, HE.out.2]; rfl, HB.out⟩
      · have t3 : (z == 8) = false := by rw [beq_eq_false_iff_ne]; exact h3
        by_cases h4 : 6 ≤ z
        · have HE : Hid (szI z = 2 ∧ szE z = 0) := Lib.hid (by unfold szI szE; constructor <;> (repeat' split) <;> omega)
          have HB := Lib.hid (Below.refl w.heap.size w)
          go_enter Try.func11, Try.ntmps11
          go_wp2
          go_ret2
          exact ⟨by rw [HE.out.1, HE.out.2]; rfl, HB.out⟩
        · have HE : Hid (szI z = 1 ∧ szE z = 0) := Lib.hid (by unfold szI szE; constructor <;> (repeat' split) <;> omega)
          have HB := Lib.hid (Below.refl w.heap.size w)
          go_enter Try.func11, Try.ntmps11
          go_wp2
          go_ret2
          exact ⟨by rw [HE.out.1, HE.out.2]; rfl, HB.out⟩
theorem lineR_len (a : Int) (c : Nat) : (lineR a c).length = c := by simp [lineR]
theorem lineR_succ (a : Int) (c : Nat) : lineR a (c + 1) = lineR a c ++ [(a + (c : Int), a + (c : Int) + 1)] := by simp [lineR, List.range_succ]
theorem crossK_len (i : Nat) (m : Int) (n : Nat) : (crossK i m n).length = n := by simp [crossK]
theorem crossK_succ (i : Nat) (m : Int) (n : Nat) : crossK i m (n + 1) = crossK i m n ++ [((i : Int), m + (n : Int))] := by simp [crossK, List.range_succ]
/-- Crossings under way. -/
def crossO (m n i : Nat) : List (Int × Int) := (List.range i).flatMap fun i : Nat => crossK i m n
def crossX (m n i j : Nat) : List (Int × Int) := crossO m n i ++ crossK i m j
theorem crossX_zero (m n i : Nat) : crossX m n i 0 = crossO m n i := by simp [crossX, crossK]
theorem crossX_succ (m n i j : Nat) : crossX m n i (j + 1) = crossX m n i j ++ [((i : Int), (m : Int) + (j : Int))] := by rw [crossX, crossX, crossK_succ, List.append_assoc]
theorem crossX_last (m n i : Nat) : crossX m n i n = crossO m n (i + 1) := by simp [crossX, crossO, List.range_succ]
theorem crossO_len (m n i : Nat) : (crossO m n i).length = n * i := by
  induction i with
  | zero => simp [crossO]
  | succ i ih => rw [← crossX_last, crossX, List.length_append, ih, crossK_len, Nat.mul_succ]
set_option maxHeartbeats 12800000 in
set_option maxRecDepth 100000 in
theorem rline_any (a b : Int) (c : Nat) (hc : c ≤ 100) (ha : 0 ≤ a ∧ a ≤ 100) (hb : a + (c : Int) = b) (w : World) : Calls Try.prog 73 #[.int .i64 a, .int .i64 b] w (GivesPO w (lineR a c)) := by
  obtain ⟨i0, hi0, hz0, hz1, hz2⟩ := info_parts infoP
  have HL0 : Hid (lineR a 0 = []) := Lib.hid rfl
  have HLS := Lib.hid (lineR_succ a)
  have HLL := Lib.hid (lineR_len a)
  unfold GivesPO
  generalize lineR a = Q at *
  go_enter Try.func73, Try.ntmps73
  go_wp2
  go_loopw [5, 6] (fun s x wr => ∃ i : Nat, i ≤ c ∧ x = .int .i64 (a + (i : Int)) ∧ wr.ownsRow w.heap.size 56 2 s (Q i).length (flat encP (Q i)) ∧ Below w.heap.size w wr) (fun _ x _ => c - (intOf x - a).toNat)
  case atStart => exact ⟨0, by omega, by simp, by rw [HL0.out]; exact World.ownsRow_nil _ _ _ _, Below.refl _ _⟩
  case round =>
    obtain ⟨i, hi, rfl, hown, hbw⟩ := hrel
    have HOW := Lib.hid hown
    have HBR := Lib.hid hbw
    by_cases hlt : i < c
    · have i1 : a + (i : Int) < b := by omega
      have hll := HLL.out i
      have HSn := Lib.hid (HLS.out i)
      generalize Q i = PP at *
      obtain ⟨y, hy⟩ : ∃ y, y = a + (i : Int) := ⟨_, rfl⟩
      rw [← hy] at HSn i1
      have HY := Lib.hid hy
      have hyr : 0 ≤ y ∧ y ≤ 1000 := by omega
      rw [← hy]
      clear hown hbw hy hb
      go_wp2_with (at_builtin; refine wpList_append_own _ rfl _ _ 54 rfl w.heap.size 56 i0 (.agg #[.int .i64 0, .int .i64 0]) 2 16 Try.underlying54 hi0 hz0 hz1 hz2 rfl (by decide) _ _ _ rfl (HOW.out.alloc _) ⟨wr.heap.size, 0, none⟩ 1 1 [.int .i64 y, .int .i64 (y + 1)] rfl rfl (lit_row _ _ _) (by simp [Value.oneCell']) (by unfold maxLen; omega) (by omega) (by rw [World.size_alloc]; have := HBR.out.size; omega) ?_; intro v1 w3 hown1 hgrow1 hnil; clear hnil; have HO3 : Hid (w3.ownsRow w.heap.size 56 2 v1 (PP ++ [(y, (y + 1))]).length (flat encP (PP ++ [(y, (y + 1))]))) := Lib.hid (by rw [List.length_append, flatP_snoc]; exact hown1); have HB3 : Hid (Below w.heap.size w w3) := Lib.hid (below_push (w := w) HBR.out (fun k hk => (HOW.out.lt k hk).1) hgrow1); clear hown1 hgrow1)
      go_roundw
      case rel => exact ⟨i + 1, by omega, by rw [HY.out]; go_num, by rw [HSn.out]; exact HO3.out, HB3.out⟩
      case measure => simp [intOf]; have := HY.out; omega
    · obtain rfl : i = c := by omega
      have i1 : ¬ a + (i : Int) < b := by omega
      clear hown hbw hb
      go_wp2
      go_ret
      exact ⟨_, rfl, HOW.out, HBR.out⟩
set_option maxHeartbeats 12800000 in
set_option maxRecDepth 100000 in
theorem rcrossed_any (m n : Nat) (hm : m ≤ 50) (hn : n ≤ 50) (w : World) : Calls Try.prog 74 #[.int .i64 m, .int .i64 n] w (GivesPO w (crossR m n)) := by
  obtain ⟨i0, hi0, hz0, hz1, hz2⟩ := info_parts infoP
  have HO0 : Hid (crossO m n 0 = []) := Lib.hid rfl
  have HX0 := Lib.hid (crossX_zero m n)
  have HXS := Lib.hid (crossX_succ m n)
  have HXL := Lib.hid (crossX_last m n)
  have HE : Hid (crossO m n m = crossR m n) := Lib.hid rfl
  have HLL : Hid (∀ i j, i < m → j ≤ n → (crossX m n i j).length ≤ 10000) := Lib.hid (fun i j hi hj => by
    unfold crossX
    rw [List.length_append, crossO_len, crossK_len]
    have := Nat.mul_le_mul hn (show i ≤ 50 by omega)
    omega)
  unfold GivesPO
  generalize crossO m n = O at *
  generalize crossX m n = X at *
  go_enter Try.func74, Try.ntmps74
  go_wp2
  go_loopw [5, 6] (fun s x wr => ∃ i : Nat, i ≤ m ∧ x = .int .i64 i ∧ wr.ownsRow w.heap.size 56 2 s (O i).length (flat encP (O i)) ∧ Below w.heap.size w wr) (fun _ x _ => m - (intOf x).toNat)
  case atStart => exact ⟨0, by omega, rfl, by rw [HO0.out]; exact World.ownsRow_nil _ _ _ _, Below.refl _ _⟩
  case round =>
    obtain ⟨i, hi, rfl, hown, hbw⟩ := hrel
    by_cases hlt : i < m
    · have i1 : (i : Int) < (m : Int) := by omega
      have HOW0 := Lib.hid hown
      have HBR0 := Lib.hid hbw
      clear hown hbw
      go_wp2
      go_loopw [5, 7] (fun s y wr => ∃ j : Nat, j ≤ n ∧ y = .int .i64 j ∧ wr.ownsRow w.heap.size 56 2 s (X i j).length (flat encP (X i j)) ∧ Below w.heap.size w wr) (fun _ y _ => n - (intOf y).toNat)
      case atStart => exact ⟨0, by omega, rfl, by rw [HX0.out]; exact HOW0.out, HBR0.out⟩
      case round =>
        obtain ⟨j, hj, rfl, hown, hbw⟩ := hrel
        have HOW := Lib.hid hown
        have HBR := Lib.hid hbw
        by_cases hjl : j < n
        · have j1 : (j : Int) < (n : Int) := by omega
          have hll := HLL.out i j hlt hj
          have HSn := Lib.hid (HXS.out i j)
          generalize X i j = PP at *
          clear hown hbw
          go_wp2_with (at_builtin; refine wpList_append_own _ rfl _ _ 54 rfl w.heap.size 56 i0 (.agg #[.int .i64 0, .int .i64 0]) 2 16 Try.underlying54 hi0 hz0 hz1 hz2 rfl (by decide) _ _ _ rfl (HOW.out.alloc _) ⟨wr.heap.size, 0, none⟩ 1 1 [.int .i64 (i : Int), .int .i64 ((m : Int) + (j : Int))] rfl rfl (lit_row _ _ _) (by simp [Value.oneCell']) (by unfold maxLen; omega) (by omega) (by rw [World.size_alloc]; have := HBR.out.size; omega) ?_; intro v1 w3 hown1 hgrow1 hnil; clear hnil; have HO3 : Hid (w3.ownsRow w.heap.size 56 2 v1 (PP ++ [((i : Int), ((m : Int) + (j : Int)))]).length (flat encP (PP ++ [((i : Int), ((m : Int) + (j : Int)))]))) := Lib.hid (by rw [List.length_append, flatP_snoc]; exact hown1); have HB3 : Hid (Below w.heap.size w w3) := Lib.hid (below_push (w := w) HBR.out (fun k hk => (HOW.out.lt k hk).1) hgrow1); clear hown1 hgrow1)
          go_roundw
          case rel => exact ⟨j + 1, by omega, by go_num, by rw [HSn.out]; exact HO3.out, HB3.out⟩
          case measure => simp [intOf]; omega
        · obtain rfl : j = n := by omega
          have j1 : ¬ (j : Int) < (j : Int) := by omega
          have HOW4 := Lib.hid (by rw [HXL.out] at hown; exact hown : wr.ownsRow w.heap.size 56 2 _ (O (i + 1)).length (flat encP (O (i + 1))))
          clear hown hbw
          go_wp2
          go_roundw
          case rel => exact ⟨i + 1, by omega, by go_num, HOW4.out, HBR.out⟩
          case measure => simp [intOf]; omega
    · obtain rfl : i = m := by omega
      have i1 : ¬ (i : Int) < (i : Int) := by omega
      have HOW4 := Lib.hid (by rw [HE.out] at hown; exact hown : wr.ownsRow w.heap.size 56 2 _ (crossR i n).length (flat encP (crossR i n)))
      have HBR := Lib.hid hbw
      clear hown hbw
      go_wp2
      go_ret
      exact ⟨_, rfl, HOW4.out, HBR.out⟩
end Go.Proofs.Ytgfbihdnjidodaa
