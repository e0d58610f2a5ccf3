/- The tied row's frame: a world that holds the listed tables, the last step of a row. -/
import Derived.Test.YtffcahhnaomegaaDoorCards
import Derived.Test.YtffcahhnaomegaaDoorTie
import Derived.Test.YtffcahhnaomegaaDoorFr
import Derived.WalkKit
import Derived.Deep.DeepHandedRow
namespace Go.Proofs.YtffcahhnaomegaaDoor
open Go.ChangeShapes Go.WideShapes Go.ChangeAt Go.RowKit

def litCell : DataW Unit → Option Value
  | .lit (.int k n) => some (.int k n)
  | _ => none
def litsOf1 : DataW Unit → List Value
  | .agg l => l.filterMap litCell
  | d => (litCell d).toList
def litsOf : DataW Unit → Array Value
  | .agg l => (l.flatMap litsOf1).toArray
  | _ => #[]
def setBlock (a : Array Value) : Obj → Obj
  | .cells _ t frozen => .cells a t frozen
  | o => o
/-- A world for the witness: the settled one, the tables holding what they hold when the program starts. -/
noncomputable def laidWorld (os : Os) : World :=
  { World.holding Tryd.prog os ⟨#[], #[], []⟩ with heap := ((World.holding Tryd.prog os ⟨#[], #[], []⟩).heap.modify 0 (setBlock (litsOf Rows.laid_unicode_utf8_first))).modify 1 (setBlock (litsOf Rows.laid_unicode_utf8_acceptRanges)) }
end Go.Proofs.YtffcahhnaomegaaDoor
