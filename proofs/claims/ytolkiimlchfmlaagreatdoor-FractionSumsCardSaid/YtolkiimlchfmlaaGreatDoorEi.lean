/- Walks of the reference: texts that are short, or out of form and not too long. -/
import Derived.Test.YtolkiimlchfmlaaGreatDoorQ23
namespace Go.Proofs.YtolkiimlchfmlaaGreatDoor
open Go.RowKit Go.Proofs.Num

/-- A text is short, or no canonical integer and not too long. -/
def fewB (s : ByteArray) : Bool := decide (s.size ≤ 60) || (decide (s.size ≤ 2048) && decide (chk s.data.toList = 3))

set_option maxRecDepth 100000 in
theorem rfew_any (s : ByteArray) (hs : s.size ≤ 9223372036854775807) (w : World) : Calls Tryz.prog 20 #[.string s] w fun e w' => e = .returned (.bool (fewB s)) ∧ w = w' := by
  have HK := Lib.hid (fun w => rcheck_any s w hs)
  unfold fewB
  generalize chk s.data.toList = c at *
  rcases (show s.size ≤ 60 ∨ (¬ s.size ≤ 60 ∧ s.size ≤ 2048) ∨ (¬ s.size ≤ 60 ∧ ¬ s.size ≤ 2048) by omega) with h | ⟨h1, h2⟩ | ⟨h1, h2⟩
  · rw [decide_eq_true h, Bool.true_or]
    have hd1 : decide (((s.size : Nat) : Int) ≤ 60) = true := decide_eq_true (by omega)
    go_enter Tryz.func20, Tryz.ntmps20
    go_wp2
    go_ret
    exact ⟨rfl, rfl⟩
  · rw [decide_eq_false h1, decide_eq_true h2, Bool.false_or, Bool.true_and]
    have hd1 : decide (((s.size : Nat) : Int) ≤ 60) = false := decide_eq_false (by omega)
    have hd2 : decide (((s.size : Nat) : Int) ≤ 2048) = true := decide_eq_true (by omega)
    by_cases h3 : c = 3
    · subst h3
      go_enter Tryz.func20, Tryz.ntmps20
      go_wp2_with fail
      refine (HK.out _).mono ?_
      rintro e w1 ⟨rfl, rfl⟩
      go_wp2
      go_ret
      exact ⟨rfl, rfl⟩
    · rw [decide_eq_false h3]
      have hc0 : ((c : Int) == 3) = false := beq_eq_false_iff_ne.2 (by omega)
      clear h3
      go_enter Tryz.func20, Tryz.ntmps20
      go_wp2_with fail
      refine (HK.out _).mono ?_
      rintro e w1 ⟨rfl, rfl⟩
      go_wp2
      go_ret
      exact ⟨rfl, rfl⟩
  · rw [decide_eq_false h1, decide_eq_false h2, Bool.false_or, Bool.false_and]
    have hd1 : decide (((s.size : Nat) : Int) ≤ 60) = false := decide_eq_false (by omega)
    have hd2 : decide (((s.size : Nat) : Int) ≤ 2048) = false := decide_eq_false (by omega)
    go_enter Tryz.func20, Tryz.ntmps20
    go_wp2
    go_ret
    exact ⟨rfl, rfl⟩

end Go.Proofs.YtolkiimlchfmlaaGreatDoor
