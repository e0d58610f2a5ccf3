/- Walks of the laws: quotients, remainders, divisors and coefficients are those of the reference. -/
import Derived.Test.YtolkiimlchfmlaaGreatDoorMg
import Derived.Test.YtolkiimlchfmlaaGreatDoorEi
import Derived.Test.YtolkiimlchfmlaaGreatDoorQ23
import Derived.Test.YtolkiimlchfmlaaGreatDoorJk
namespace Go.Proofs.YtolkiimlchfmlaaGreatDoor
open Go.RowKit Go.Proofs.Num

/-- Hands back two texts and an error. -/
def Out2E (w : World) (A B : ByteArray) (c : Nat) (e : Ending) (w' : World) : Prop := e = .returned (.tuple #[.string A, .string B, .int .i64 ((c : Nat) : Int)]) ∧ Below w.heap.size w w'

set_option maxRecDepth 100000 in
set_option maxHeartbeats 1600000 in
theorem gcd_err (s r : ByteArray) (hs : s.size ≤ 9223372036854775807) (hr : r.size ≤ 9223372036854775807) (h0 : chk2 s.data.toList r.data.toList ≠ 0) (w : World) :
    Calls Tryz.prog 54 #[.string s, .string r] w (OutE w ⟨#[]⟩ (chk2 s.data.toList r.data.toList)) := by
  obtain ⟨c, hcc⟩ : ∃ c, c = chk2 s.data.toList r.data.toList := ⟨_, rfl⟩
  have hne : ((c : Int) == 0) = false := by simp; omega
  have hne2 : ((c : Int) != 0) = true := by simp; omega
  rw [← hcc]
  have HC := Lib.hid hcc
  clear hcc h0
  go_enter Tryz.func54, Tryz.ntmps54
  go_wp2_with fail
  refine (readTwo_any s r hs hr _).mono ?_
  rintro e w1 ⟨v1, v2, rfl, hb, ⟨b, a, k, p, rfl⟩, ⟨b', a', k', p', rfl⟩, -⟩
  rw [← HC.out]
  go_wp2
  go_ret2
  exact ⟨rfl, (hb.alloc hb.size _).alloc (by have := hb.size; simp; omega) _⟩

theorem fewB_canon (s : ByteArray) (h : fewB s = true) (h0 : chk s.data.toList = 0) : ∃ x d, s = T x ∧ d = 60 ∧ Few d x := by
  refine small_T s ?_
  unfold fewB at h
  unfold smallB
  rw [h0] at h ⊢
  simpa using h

end Go.Proofs.YtolkiimlchfmlaaGreatDoor
