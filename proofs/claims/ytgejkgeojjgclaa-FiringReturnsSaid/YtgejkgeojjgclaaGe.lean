/- Leaves: vertices, and the comparison of edges. -/
import Derived.Test.YtgejkgeojjgclaaGd
import Derived.Test.YtgejkgeojjgclaaGb
import Derived.Deep.RegionHeld3
import Derived.Deep.QuietTactic
import Derived.BigQuiet
import Derived.Laws.NewBlocks
import Derived.Laws.Build
namespace Go.Proofs.Ytgejkgeojjgclaa
open Go.RowKit Go.Proofs.Gr

theorem below_drewN {B : Nat} {a w : World} (h : Below B a w) (n : Nat) : Below B a (w.drewN n) := ⟨h.os, h.tape, h.output, h.size, h.block⟩
set_option maxHeartbeats 3200000 in
set_option maxRecDepth 100000 in
theorem isVertex_any (n : Int) (a : Option Addr) (l cap : Nat) (v : Int) (w : World) :
    Calls Try.prog 91 #[gv n a l cap, .int .i64 v] w (fun e w' => e = .returned (.bool (isV n v)) ∧ Below w.heap.size w w') := by
  have hE : Hid (isV n v = (decide (0 ≤ v) && decide (v < n))) := Lib.hid rfl
  have HB := Lib.hid ((Below.refl _ w).alloc (Nat.le_refl _) (Obj.cells #[.int .i64 n, .slice a l cap] 24))
  have hc := (Blk.new w 24 #[.int .i64 n, .slice a l cap]).cell 0
  generalize isV n v = E at *
  unfold gv
  by_cases h1 : 0 ≤ v
  · have d1 : decide (0 ≤ v) = true := decide_eq_true h1
    by_cases h2 : v < n
    · have d2 : decide (v < n) = true := decide_eq_true h2
      have hE' : Hid (E = true) := Lib.hid (by rw [hE.out, d1, d2]; rfl)
      clear hE
      go_enter Try.func91, Try.ntmps91
      go_wp2
      go_ret
      exact ⟨by rw [hE'.out]; rfl, HB.out⟩
    · have d2 : decide (v < n) = false := decide_eq_false h2
      have hE' : Hid (E = false) := Lib.hid (by rw [hE.out, d1, d2]; rfl)
      clear hE
      go_enter Try.func91, Try.ntmps91
      go_wp2
      go_ret
      exact ⟨by rw [hE'.out]; rfl, HB.out⟩
  · have d1 : decide (0 ≤ v) = false := decide_eq_false h1
    have hE' : Hid (E = false) := Lib.hid (by rw [hE.out, d1]; rfl)
    clear hE
    go_enter Try.func91, Try.ntmps91
    go_wp2
    go_ret
    exact ⟨by rw [hE'.out]; rfl, HB.out⟩
set_option maxHeartbeats 3200000 in
set_option maxRecDepth 100000 in
theorem vertex_any (n : Int) (a : Option Addr) (l cap : Nat) (v : Int) (w : World) :
    Calls Try.prog 59 #[gv n a l cap, .int .i64 v] w (fun e w' => e = .returned (.bool (isV n v)) ∧ Below w.heap.size w w') := by
  have hE : Hid (isV n v = (decide (0 ≤ v) && decide (v < n))) := Lib.hid rfl
  have HB := Lib.hid ((Below.refl _ w).alloc (Nat.le_refl _) (Obj.cells #[.int .i64 n, .slice a l cap] 24))
  have hc := (Blk.new w 24 #[.int .i64 n, .slice a l cap]).cell 0
  generalize isV n v = E at *
  unfold gv
  by_cases h1 : 0 ≤ v
  · have d1 : decide (0 ≤ v) = true := decide_eq_true h1
    by_cases h2 : v < n
    · have d2 : decide (v < n) = true := decide_eq_true h2
      have hE' : Hid (E = true) := Lib.hid (by rw [hE.out, d1, d2]; rfl)
      clear hE
      go_enter Try.func59, Try.ntmps59
      go_wp2
      go_ret
      exact ⟨by rw [hE'.out]; rfl, HB.out⟩
    · have d2 : decide (v < n) = false := decide_eq_false h2
      have hE' : Hid (E = false) := Lib.hid (by rw [hE.out, d1, d2]; rfl)
      clear hE
      go_enter Try.func59, Try.ntmps59
      go_wp2
      go_ret
      exact ⟨by rw [hE'.out]; rfl, HB.out⟩
  · have d1 : decide (0 ≤ v) = false := decide_eq_false h1
    have hE' : Hid (E = false) := Lib.hid (by rw [hE.out, d1]; rfl)
    clear hE
    go_enter Try.func59, Try.ntmps59
    go_wp2
    go_ret
    exact ⟨by rw [hE'.out]; rfl, HB.out⟩
theorem isNaN_any (v : Int) (w : World) : Calls Try.prog 103 #[.int .i64 v] w (fun e w' => e = .returned (.bool false) ∧ w = w') := by
  go_enter Try.func103, Try.ntmps103
  go_wp2
  go_ret
  exact ⟨by simp, rfl⟩
/-- The sign of a comparison. -/
def cmpZ (x y : Int) : Int := if x < y then -1 else if y < x then 1 else 0
set_option maxHeartbeats 3200000 in
set_option maxRecDepth 100000 in
theorem cmpI_any (x y : Int) (w : World) : Calls Try.prog 100 #[.int .i64 x, .int .i64 y] w (fun e w' => e = .returned (.int .i64 (cmpZ x y)) ∧ w = w') := by
  have HN := Lib.hid (fun v w => isNaN_any v w)
  have hE : Hid (cmpZ x y = if x < y then -1 else if y < x then 1 else 0) := Lib.hid rfl
  generalize cmpZ x y = E at *
  by_cases h1 : x < y
  · have hE' : Hid (E = -1) := Lib.hid (by rw [hE.out, if_pos h1])
    clear hE
    go_enter Try.func100, Try.ntmps100
    go_wp2_with (go_at_call 103; refine (HN.out _ _).mono ?_; rintro e wz ⟨rfl, rfl⟩)
    go_ret
    exact ⟨by rw [hE'.out]; rfl, rfl⟩
  · by_cases h2 : y < x
    · have hE' : Hid (E = 1) := Lib.hid (by rw [hE.out, if_neg h1, if_pos h2])
      clear hE
      go_enter Try.func100, Try.ntmps100
      go_wp2_with (go_at_call 103; refine (HN.out _ _).mono ?_; rintro e wz ⟨rfl, rfl⟩)
      go_ret
      exact ⟨by rw [hE'.out]; rfl, rfl⟩
    · have hE' : Hid (E = 0) := Lib.hid (by rw [hE.out, if_neg h1, if_neg h2])
      clear hE
      go_enter Try.func100, Try.ntmps100
      go_wp2_with (go_at_call 103; refine (HN.out _ _).mono ?_; rintro e wz ⟨rfl, rfl⟩)
      go_ret
      exact ⟨by rw [hE'.out]; rfl, rfl⟩
/-- The first of two numbers that is not 0. -/
def orZ (x y : Int) : Int := if x ≠ 0 then x else y
set_option maxHeartbeats 3200000 in
set_option maxRecDepth 100000 in
theorem or_any (x y : Int) (b c : Nat) (w : World) (h0 : w.cell? ⟨b, 0, none⟩ = some (.int .i64 x)) (h1 : w.cell? ⟨b, 1, none⟩ = some (.int .i64 y)) :
    Calls Try.prog 99 #[.slice (some ⟨b, 0, none⟩) 2 c] w (fun e w' => e = .returned (.int .i64 (orZ x y)) ∧ w = w') := by
  have hE : Hid (orZ x y = if x ≠ 0 then x else y) := Lib.hid rfl
  generalize orZ x y = E at *
  by_cases hx : x = 0
  · subst hx
    by_cases hy : y = 0
    · subst hy
      have hE' : Hid (E = 0) := Lib.hid (by rw [hE.out]; rfl)
      clear hE
      go_enter Try.func99, Try.ntmps99
      go_wp2
      refine wp_loop_rounds 3 ?_
      rw [rounds_succ]
      go_wp2
      rw [rounds_succ]
      go_wp2
      rw [rounds_succ]
      go_wp2
      go_ret
      exact ⟨by rw [hE'.out]; rfl, rfl⟩
    · have hE' : Hid (E = y) := Lib.hid (by rw [hE.out]; rfl)
      clear hE
      go_enter Try.func99, Try.ntmps99
      go_wp2
      refine wp_loop_rounds 3 ?_
      rw [rounds_succ]
      go_wp2
      rw [rounds_succ]
      go_wp2
      go_ret
      exact ⟨by rw [hE'.out]; rfl, rfl⟩
  · have hE' : Hid (E = x) := Lib.hid (by rw [hE.out, if_pos hx])
    clear hE
    go_enter Try.func99, Try.ntmps99
    go_wp2
    refine wp_loop_rounds 3 ?_
    rw [rounds_succ]
    go_wp2
    go_ret
    exact ⟨by rw [hE'.out]; rfl, rfl⟩
end Go.Proofs.Ytgejkgeojjgclaa
