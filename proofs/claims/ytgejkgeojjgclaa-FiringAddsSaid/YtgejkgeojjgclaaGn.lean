/- Cut of the reference. -/
import Derived.Test.YtgejkgeojjgclaaGm
namespace Go.Proofs.Ytgejkgeojjgclaa
open Go.RowKit Go.Proofs.Gr

/-- The numbers with a property, in order. -/
def cutI (f : Nat → Bool) : Nat → List Int
  | 0 => []
  | e + 1 => cutI f e ++ (if f e then [(e : Int)] else [])
theorem cutI_le (f : Nat → Bool) (n : Nat) : (cutI f n).length ≤ n := by
  induction n with
  | zero => simp [cutI]
  | succ n ih => rw [cutI, List.length_append]; split <;> simp <;> omega
/-- A single edge leads out of a set. -/
def outB (S : List Int) (p : Int × Int) : Bool := S.contains p.1 != S.contains p.2
/-- The cut of a set. -/
def cutG (L : List E) (S : List Int) : List Int := cutI (fun e => outB S (pAt (endsG L) e)) (endsG L).length
theorem ends_all {n : Int} {L : List E} (h : Right n L) : (endsG L).length ≤ 50 * L.length := by
  have := ends_le h L.length
  rwa [List.take_length] at this

end Go.Proofs.Ytgejkgeojjgclaa
