/- Lists of tokens that are the same compare so. -/
import Derived.Test.YtffcahhnaomegaaDoorLe
import Derived.Deep.QuietTactic
import Derived.BigQuiet
namespace Go.Proofs.YtffcahhnaomegaaDoor
open Go.RowKit Go.Proofs.Lx

theorem below_drewN {B : Nat} {a w : World} (h : Below B a w) (n : Nat) : Below B a (w.drewN n) := ⟨h.os, h.tape, h.output, h.size, h.block⟩
theorem TkAt.three {w : World} {a : Option Addr} {L : List Tk} (h : TkAt w a L) (j : Nat) (hj : j < L.length) (T : Tk) (hT : L[j] = T) : ∃ b off, a = some ⟨b, off, none⟩ ∧ b < w.heap.size ∧ w.cell? ⟨b, off + j * 3, none⟩ = some (.int .i64 T.kind) ∧ w.cell? ⟨b, off + j * 3 + 1, none⟩ = some (.string (bt T.text)) ∧ w.cell? ⟨b, off + j * 3 + 2, none⟩ = some (.int .i64 T.pos) := by
  subst hT
  exact h j hj

set_option maxHeartbeats 3200000 in
set_option maxRecDepth 100000 in
theorem equal_true (a b : Option Addr) (c1 c2 : Nat) (L : List Tk) (hl : L.length ≤ 4611686018427387904) (w : World) (h1 : TkAt w a L) (h2 : TkAt w b L) :
    Calls Tryd.prog 10 #[.slice a L.length c1, .slice b L.length c2] w (fun e w' => e = .returned (.bool true) ∧ Below w.heap.size w w') := by
  have H1 := Lib.hid h1
  have H2 := Lib.hid h2
  clear h1 h2
  go_enter Tryd.func10, Tryd.ntmps10
  go_wp2
  go_loopw [13] (fun v wr => ∃ j : Nat, j ≤ L.length ∧ v = .int .i64 j ∧ Below w.heap.size w wr) (fun v _ => L.length - (intOf v).toNat)
  case atStart => exact ⟨0, by omega, rfl, Below.refl _ _⟩
  case round =>
    obtain ⟨j, hj, rfl, hb⟩ := hrel
    have Hb := Lib.hid hb
    clear hb
    by_cases hlt : j < L.length
    · obtain ⟨T, hT⟩ : ∃ T, L[j] = T := ⟨_, rfl⟩
      obtain ⟨b1, o1, rfl, q1, x1, x2, x3⟩ := (H1.out.keep Hb.out).three j hlt T hT
      obtain ⟨b2, o2, rfl, q2, y1, y2, y3⟩ := (H2.out.keep Hb.out).three j hlt T hT
      clear hT
      have g1 : (0 : Int) ≤ (j : Int) := by omega
      have g2 : (j : Int) < ((L.length : Nat) : Int) := by omega
      go_wp2
      go_quiet (fail)
      go_wp2
      go_roundw
      case rel => exact ⟨j + 1, by omega, by go_num, below_drewN Hb.out _⟩
      case measure => simp [intOf]; omega
    · obtain rfl : j = L.length := by omega
      go_wp2
      go_ret
      exact ⟨rfl, Hb.out⟩
end Go.Proofs.YtffcahhnaomegaaDoor
