/- Walks of the reference: Bezout. -/
import Derived.Test.YtolkiimlchfmlaaGreatDoorQ29
import Derived.Test.YtolkiimlchfmlaaGreatDoorOc
namespace Go.Proofs.YtolkiimlchfmlaaGreatDoor
open Go.RowKit Go.Proofs.Num

/-- Hands back three texts and an error. -/
def Out3E (w : World) (A B C : ByteArray) (c : Nat) (e : Ending) (w' : World) : Prop := e = .returned (.tuple #[.string A, .string B, .string C, .int .i64 ((c : Nat) : Int)]) ∧ Below w.heap.size w w'

theorem few_abs {d : Nat} {z : Int} (h : Few d z) : Few d ((z.natAbs : Nat) : Int) := few_nat h
theorem few_zero (d : Nat) : Few d 0 := Nat.pow_pos (by omega)
theorem few_in {d : Nat} {z M : Int} (hM : Few d M) (h : ((z.natAbs : Nat) : Int) ≤ M) : Few d z := hM.of_le (by omega)

end Go.Proofs.YtolkiimlchfmlaaGreatDoor
