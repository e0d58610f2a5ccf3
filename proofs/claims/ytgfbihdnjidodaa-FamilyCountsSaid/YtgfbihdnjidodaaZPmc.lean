/- Small bipartite graphs. -/
import Derived.Test.YtgfbihdnjidodaaZPma
namespace Go.Proofs.Ytgfbihdnjidodaa
open Go.RowKit Go.Shelf Go.Proofs.Gr

set_option maxRecDepth 100000 in
theorem t6 : ∀ m n : Fin 12, m.1 = 0 ∨ n.1 = 0 ∨ 12 < m.1 + n.1 ∨ coT 6 [(m.1 : Int), (n.1 : Int)] = true := by decide +kernel
end Go.Proofs.Ytgfbihdnjidodaa
