/- Signed of the program at the chapter's examples. -/
import Derived.Test.YtffcahhnaomegaaDoorLo
namespace Go.Proofs.YtffcahhnaomegaaDoor
open Go.RowKit Go.Proofs.Lx

set_option maxHeartbeats 3200000 in
set_option maxRecDepth 100000 in
theorem is_minus (pos : Int) (w : World) :
    Calls Tryd.prog 25 #[.agg #[.int .i64 2, .string (bt [45]), .int .i64 pos], .string ⟨#[45]⟩] w (fun e w' => e = .returned (.bool true) ∧ Below w.heap.size w w') := by
  go_enter Tryd.func25, Tryd.ntmps25
  go_wp2
  go_ret
  exact ⟨rfl, (Below.refl _ _).alloc (Nat.le_refl _) _⟩

set_option maxHeartbeats 3200000 in
set_option maxRecDepth 100000 in
theorem natural_12 (w : World) :
    Calls Tryd.prog 26 #[.string (bt [49, 50])] w (fun e w' => e = .returned (.tuple #[.int .i64 12, .int .i64 0]) ∧ w = w') := by
  have H := Lib.hid (fun w => isNumber_any (bt [49, 50]) (by decide) w)
  rw [show numB (bl (bt [49, 50])) = true from by decide] at H
  go_enter Tryd.func26, Tryd.ntmps26
  go_wp2_with fail
  refine (H.out _).mono ?_
  rintro e w1 ⟨rfl, rfl⟩
  go_wp2
  refine wp_loop_rounds 3 ?_
  rw [rounds_succ]
  go_wp2
  rw [rounds_succ]
  go_wp2
  rw [rounds_succ]
  go_wp2
  go_ret2
  exact ⟨rfl, rfl⟩

set_option maxHeartbeats 3200000 in
set_option maxRecDepth 100000 in
theorem signed_12 (a : Option Addr) (cap : Nat) (L : List Tk) (k : Nat) (hk : k + 1 < L.length) (hL : L.length ≤ 100000) (p q : Int) (h1 : L[k] = ⟨2, [45], p⟩) (h2 : L[k + 1] = ⟨1, [49, 50], q⟩) (w : World) (h : TkAt w a L) :
    Calls Tryd.prog 11 #[.slice a L.length cap, .int .i64 (k : Nat)] w (fun e w' => e = .returned (.tuple #[.int .i64 (-12), .int .i64 ((k + 2 : Nat) : Int), .int .i64 0]) ∧ Below w.heap.size w w') := by
  obtain ⟨b1, o1, rfl, q1, x1, x2, x3⟩ := h.three k (by omega) _ h1
  have HI := Lib.hid (fun w => is_minus p w)
  have HN := Lib.hid (fun w => natural_12 w)
  have H := Lib.hid h
  have H2 := Lib.hid h2
  clear h h1 h2
  have g1 : (0 : Int) ≤ (k : Int) := by omega
  have g2 : (k : Int) < ((L.length : Nat) : Int) := by omega
  have g3 : (k : Int) + 1 < ((L.length : Nat) : Int) := by omega
  have d1 : decide ((k : Int) < 0) = false := decide_eq_false (by omega)
  have d2 : decide ((L.length : Int) ≤ (k : Int)) = false := decide_eq_false (by omega)
  have d3 : ((k : Int) + 1 == ((L.length : Nat) : Int)) = false := by rw [beq_eq_false_iff_ne]; omega
  go_enter Tryd.func11, Tryd.ntmps11
  go_wp2_with fail
  refine (HI.out _).mono ?_
  rintro e w1 ⟨rfl, hb⟩
  have Hb := Lib.hid hb
  obtain ⟨b2, o2, ha, q2, y1, y2, y3⟩ := (H.out.keep hb).three (k + 1) hk _ H2.out
  simp only [Option.some.injEq, Addr.mk.injEq, and_true] at ha
  obtain ⟨rfl, rfl⟩ := ha
  clear hb x1 x2 x3
  go_wp2_with fail
  refine (HN.out _).mono ?_
  rintro e w2 ⟨rfl, rfl⟩
  go_wp2
  go_ret3
  exact ⟨rfl, Hb.out⟩

set_option maxHeartbeats 3200000 in
set_option maxRecDepth 100000 in
theorem signed_0 (a : Option Addr) (cap : Nat) (L : List Tk) (k : Nat) (hk : k + 1 < L.length) (hL : L.length ≤ 100000) (p q : Int) (h1 : L[k] = ⟨2, [45], p⟩) (h2 : L[k + 1] = ⟨1, [48], q⟩) (w : World) (h : TkAt w a L) :
    Calls Tryd.prog 11 #[.slice a L.length cap, .int .i64 (k : Nat)] w (fun e w' => e = .returned (.tuple #[.int .i64 0, .int .i64 0, .int .i64 4]) ∧ Below w.heap.size w w') := by
  obtain ⟨b1, o1, rfl, q1, x1, x2, x3⟩ := h.three k (by omega) _ h1
  have HI := Lib.hid (fun w => is_minus p w)
  have H := Lib.hid h
  have H2 := Lib.hid h2
  clear h h1 h2
  have g1 : (0 : Int) ≤ (k : Int) := by omega
  have g2 : (k : Int) < ((L.length : Nat) : Int) := by omega
  have g3 : (k : Int) + 1 < ((L.length : Nat) : Int) := by omega
  have d1 : decide ((k : Int) < 0) = false := decide_eq_false (by omega)
  have d2 : decide ((L.length : Int) ≤ (k : Int)) = false := decide_eq_false (by omega)
  have d3 : ((k : Int) + 1 == ((L.length : Nat) : Int)) = false := by rw [beq_eq_false_iff_ne]; omega
  go_enter Tryd.func11, Tryd.ntmps11
  go_wp2_with fail
  refine (HI.out _).mono ?_
  rintro e w1 ⟨rfl, hb⟩
  have Hb := Lib.hid hb
  obtain ⟨b2, o2, ha, q2, y1, y2, y3⟩ := (H.out.keep hb).three (k + 1) hk _ H2.out
  simp only [Option.some.injEq, Addr.mk.injEq, and_true] at ha
  obtain ⟨rfl, rfl⟩ := ha
  clear hb x1 x2 x3
  go_wp2
  go_ret3
  exact ⟨rfl, Hb.out⟩
end Go.Proofs.YtffcahhnaomegaaDoor
