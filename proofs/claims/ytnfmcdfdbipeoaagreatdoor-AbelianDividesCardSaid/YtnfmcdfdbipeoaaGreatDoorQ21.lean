/- Walks of the laws' helpers: small. -/
import Derived.Test.YtnfmcdfdbipeoaaGreatDoorQ06
namespace Go.Proofs.YtnfmcdfdbipeoaaGreatDoor
open Go.RowKit Go.Proofs.Num

/-- Canonical and short. -/
def smallB (s : ByteArray) : Bool := decide (s.size ≤ 60) && (chk s.data.toList == 0)

end Go.Proofs.YtnfmcdfdbipeoaaGreatDoor
