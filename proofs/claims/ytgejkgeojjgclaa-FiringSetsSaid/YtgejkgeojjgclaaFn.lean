/- Min, Max and greater of the program. -/
import Derived.Test.YtgejkgeojjgclaaFm
import Derived.Lib.MinMax
namespace Go.Proofs.Ytgejkgeojjgclaa
open Go.RowKit Go.Proofs.Gr Go.Proofs.Cp
attribute [local go_sem] Oper.semAt_some

/-- The least and the greatest of the first numbers. -/
def minT (S : List Int) : Nat → Int
  | 0 => iAt S 0
  | k + 1 => min (minT S k) (iAt S (k + 1))
def maxT (S : List Int) : Nat → Int
  | 0 => iAt S 0
  | k + 1 => max (maxT S k) (iAt S (k + 1))
/-- The places of the greater numbers. -/
def grT (S : List Int) (m : Int) : Nat → List Int
  | 0 => []
  | k + 1 => grT S m k ++ (if m < iAt S k then [(k : Int)] else [])
theorem grT_len (S : List Int) (m : Int) (k : Nat) : (grT S m k).length ≤ k := by
  induction k with
  | zero => simp [grT]
  | succ k ih => rw [grT, List.length_append]; split <;> simp <;> omega
set_option maxHeartbeats 12800000 in
set_option maxRecDepth 100000 in
theorem sMin_any (a : Option Addr) (c : Nat) (S : List Int) (h0 : 1 ≤ S.length) (hS : S.length ≤ 1000) (w : World) (h : IsAt w a S) :
    Calls Try.prog 71 #[.slice a S.length c] w (fun e w' => e = .returned (.int .i64 (minT S (S.length - 1))) ∧ Below w.heap.size w w') := by
  have HE := Lib.hid h
  have HZ : Hid (minT S 0 = iAt S 0) := Lib.hid rfl
  have HN : Hid (∀ i, 1 ≤ i → minT S (i - 1 + 1) = min (minT S (i - 1)) (iAt S i)) := Lib.hid fun i hi => by
    obtain ⟨j, rfl⟩ : ∃ j, i = j + 1 := ⟨i - 1, by omega⟩
    rfl
  obtain ⟨b1, o1, hb1, q1, x1⟩ := h.one 0 (by omega)
  subst hb1
  rw [Nat.add_zero] at x1
  rw [← HZ.out] at x1
  generalize minT S = Z at *
  have n1 : ¬ (S.length : Int) < 1 := by omega
  have n2 : (0 : Int) < (S.length : Int) := by omega
  clear h
  go_enter Try.func71, Try.ntmps71
  go_wp2
  go_loopw [3, 4] (fun s x wr => ∃ i : Nat, 1 ≤ i ∧ i ≤ S.length ∧ x = .int .i64 i ∧ s = .int .i64 (Z (i - 1)) ∧ Below w.heap.size w wr) (fun _ x _ => S.length - (intOf x).toNat)
  case atStart => exact ⟨1, by omega, by omega, rfl, rfl, Below.refl _ _⟩
  case round =>
    obtain ⟨i, hi1, hi, rfl, rfl, hb⟩ := hrel
    have HB := Lib.hid hb
    by_cases hlt : i < S.length
    · have i1 : (i : Int) < (S.length : Int) := by omega
      have i2 : (0 : Int) ≤ (i : Int) := by omega
      obtain ⟨b2, o2, hb2, q2, x2⟩ := (HE.out.keep hb).one i hlt
      injection hb2 with hb2
      injection hb2 with e1 e2
      subst e1 e2
      have HM := Lib.hid (HN.out i hi1)
      generalize iAt S i = z at *
      generalize hy : Z (i - 1) = y at *
      have HY := Lib.hid hy
      clear hy hb x1
      go_wp2
      go_roundw
      case rel => exact ⟨i + 1, by omega, by omega, by go_num, by rw [show i + 1 - 1 = i - 1 + 1 by omega, HM.out], HB.out⟩
      case measure => simp [intOf]; omega
    · obtain rfl : i = S.length := by omega
      have i1 : ¬ (S.length : Int) < (S.length : Int) := by omega
      clear hb x1
      go_wp2
      go_ret
      exact ⟨rfl, HB.out⟩
set_option maxHeartbeats 12800000 in
set_option maxRecDepth 100000 in
theorem sMax_any (a : Option Addr) (c : Nat) (S : List Int) (h0 : 1 ≤ S.length) (hS : S.length ≤ 1000) (w : World) (h : IsAt w a S) :
    Calls Try.prog 72 #[.slice a S.length c] w (fun e w' => e = .returned (.int .i64 (maxT S (S.length - 1))) ∧ Below w.heap.size w w') := by
  have HE := Lib.hid h
  have HZ : Hid (maxT S 0 = iAt S 0) := Lib.hid rfl
  have HN : Hid (∀ i, 1 ≤ i → maxT S (i - 1 + 1) = max (maxT S (i - 1)) (iAt S i)) := Lib.hid fun i hi => by
    obtain ⟨j, rfl⟩ : ∃ j, i = j + 1 := ⟨i - 1, by omega⟩
    rfl
  obtain ⟨b1, o1, hb1, q1, x1⟩ := h.one 0 (by omega)
  subst hb1
  rw [Nat.add_zero] at x1
  rw [← HZ.out] at x1
  generalize maxT S = Z at *
  have n1 : ¬ (S.length : Int) < 1 := by omega
  have n2 : (0 : Int) < (S.length : Int) := by omega
  clear h
  go_enter Try.func72, Try.ntmps72
  go_wp2
  go_loopw [3, 4] (fun s x wr => ∃ i : Nat, 1 ≤ i ∧ i ≤ S.length ∧ x = .int .i64 i ∧ s = .int .i64 (Z (i - 1)) ∧ Below w.heap.size w wr) (fun _ x _ => S.length - (intOf x).toNat)
  case atStart => exact ⟨1, by omega, by omega, rfl, rfl, Below.refl _ _⟩
  case round =>
    obtain ⟨i, hi1, hi, rfl, rfl, hb⟩ := hrel
    have HB := Lib.hid hb
    by_cases hlt : i < S.length
    · have i1 : (i : Int) < (S.length : Int) := by omega
      have i2 : (0 : Int) ≤ (i : Int) := by omega
      obtain ⟨b2, o2, hb2, q2, x2⟩ := (HE.out.keep hb).one i hlt
      injection hb2 with hb2
      injection hb2 with e1 e2
      subst e1 e2
      have HM := Lib.hid (HN.out i hi1)
      generalize iAt S i = z at *
      generalize hy : Z (i - 1) = y at *
      have HY := Lib.hid hy
      clear hy hb x1
      go_wp2
      go_roundw
      case rel => exact ⟨i + 1, by omega, by omega, by go_num, by rw [show i + 1 - 1 = i - 1 + 1 by omega, HM.out], HB.out⟩
      case measure => simp [intOf]; omega
    · obtain rfl : i = S.length := by omega
      have i1 : ¬ (S.length : Int) < (S.length : Int) := by omega
      clear hb x1
      go_wp2
      go_ret
      exact ⟨rfl, HB.out⟩
set_option maxHeartbeats 12800000 in
set_option maxRecDepth 100000 in
theorem pgreater_any (a : Option Addr) (c : Nat) (S : List Int) (hS : S.length ≤ 1000) (m : Int) (w : World) (h : IsAt w a S) :
    Calls Try.prog 73 #[.slice a S.length c, .int .i64 m] w (fun e w' => ∃ p q, e = .returned (.slice p (grT S m S.length).length q) ∧ IsAt w' p (grT S m S.length) ∧ (∀ x, p = some x → w.heap.size ≤ x.block) ∧ Below w.heap.size w w') := by
  obtain ⟨i0, hi0, hz0, hz1, hz2⟩ := info_parts infoI
  have HE := Lib.hid h
  have HS0 : Hid (grT S m 0 = []) := Lib.hid rfl
  have HSS : Hid (∀ k, grT S m (k + 1) = grT S m k ++ (if m < iAt S k then [(k : Int)] else [])) := Lib.hid fun _ => rfl
  have HSL := Lib.hid (fun k => grT_len S m k)
  generalize grT S m = Q at *
  clear h
  go_enter Try.func73, Try.ntmps73
  go_wp2
  go_loopw [5, 10] (fun s x wr => ∃ i : Nat, i ≤ S.length ∧ x = .int .i64 i ∧ wr.ownsRow w.heap.size 3 1 s (Q i).length (flat encI (Q i)) ∧ Below w.heap.size w wr) (fun _ x _ => S.length - (intOf x).toNat)
  case atStart => exact ⟨0, by omega, rfl, by rw [HS0.out]; exact World.ownsRow_nil _ _ _ _, Below.refl _ _⟩
  case round =>
    obtain ⟨i, hi, rfl, hown, hb⟩ := hrel
    have HOW := Lib.hid hown
    have HBR := Lib.hid hb
    have HBS := Lib.hid hb.size
    by_cases hlt : i < S.length
    · have i1 : (i : Int) < (S.length : Int) := by omega
      have i2 : (0 : Int) ≤ (i : Int) := by omega
      have hll := HSL.out i
      have hs := HSS.out i
      obtain ⟨b1, o1, hb1, q1, x1⟩ := (HE.out.keep hb).one i hlt
      subst hb1
      generalize Q i = PP at *
      generalize iAt S i = z at *
      by_cases hz : m < z
      · rw [if_pos hz] at hs
        have HSn := Lib.hid hs
        clear hs hown hb
        go_wp2_with (at_builtin; refine wpList_append_own _ rfl _ _ 25 rfl w.heap.size 3 i0 (.int .i64 0) 1 8 Try.underlying25 hi0 hz0 hz1 hz2 rfl (by decide) _ _ _ rfl (HOW.out.alloc _) ⟨wr.heap.size, 0, none⟩ 1 1 [.int .i64 (i : Int)] rfl rfl (lit_row _ _ _) (by simp [Value.oneCell']) (by unfold maxLen; omega) (by omega) (by rw [World.size_alloc]; have := HBS.out; omega) ?_; intro v1 w3 hown1 hgrow1 hnil; clear hnil; have HO3 : Hid (w3.ownsRow w.heap.size 3 1 v1 (PP ++ [(i : Int)]).length (flat encI (PP ++ [(i : Int)]))) := Lib.hid (by rw [List.length_append, flatI_snoc]; exact hown1); have HB3 : Hid (Below w.heap.size w w3) := Lib.hid (below_push (w := w) HBR.out (fun k hk => (HOW.out.lt k hk).1) hgrow1); clear hown1 hgrow1)
        go_roundw
        case rel => exact ⟨i + 1, by omega, by go_num, by rw [HSn.out]; exact HO3.out, HB3.out⟩
        case measure => simp [intOf]; omega
      · rw [if_neg hz, List.append_nil] at hs
        have HSn := Lib.hid hs
        have hz' : z ≤ m := by omega
        clear hs hz hown hb
        go_wp2
        go_roundw
        case rel => exact ⟨i + 1, by omega, by go_num, by rw [HSn.out]; exact HOW.out, HBR.out⟩
        case measure => simp [intOf]; omega
    · obtain rfl : i = S.length := by omega
      have i1 : ¬ (S.length : Int) < (S.length : Int) := by omega
      have HOA := Lib.hid (RowAt.of_own encI_len hown)
      have HLT : Hid (∀ k, u5.ownBlock = some k → w.heap.size ≤ k) := Lib.hid fun k hk => (hown.lt k hk).1
      clear hown hb
      obtain ⟨a9, c9, hv, hra⟩ := HOA.out
      subst hv
      have HRA := Lib.hid hra
      clear hra
      go_wp2
      go_ret
      exact ⟨a9, ⟨c9, rfl⟩, HRA.out, fun x hx => HLT.out x.block (by rw [hx]; rfl), HBR.out⟩
end Go.Proofs.Ytgejkgeojjgclaa
