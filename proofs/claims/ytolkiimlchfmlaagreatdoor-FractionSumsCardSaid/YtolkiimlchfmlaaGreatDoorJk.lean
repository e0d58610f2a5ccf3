/- Walks of the laws: products and powers are those of the reference. -/
import Derived.Test.YtolkiimlchfmlaaGreatDoorQ23
import Derived.Test.YtolkiimlchfmlaaGreatDoorEi
namespace Go.Proofs.YtolkiimlchfmlaaGreatDoor
open Go.RowKit Go.Proofs.Num

theorem fewB_size (s : ByteArray) (h : fewB s = true) : s.size ≤ 2048 := by
  unfold fewB at h
  simp only [Bool.or_eq_true, Bool.and_eq_true, decide_eq_true_eq] at h
  omega

end Go.Proofs.YtolkiimlchfmlaaGreatDoor
