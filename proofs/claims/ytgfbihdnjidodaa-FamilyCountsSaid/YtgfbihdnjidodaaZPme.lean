/- Small theta graphs. -/
import Derived.Test.YtgfbihdnjidodaaZPma
namespace Go.Proofs.Ytgfbihdnjidodaa
open Go.RowKit Go.Shelf Go.Proofs.Gr

set_option maxRecDepth 100000 in
theorem t8_1_2 : ∀ m n : Fin 12, m.1 < 2 ∨ 2 < m.1 ∨ n.1 = 0 ∨ 13 < 1 + m.1 + n.1 ∨ coT 8 [((1 : Nat) : Int), (m.1 : Int), (n.1 : Int)] = true := by decide +kernel
end Go.Proofs.Ytgfbihdnjidodaa
