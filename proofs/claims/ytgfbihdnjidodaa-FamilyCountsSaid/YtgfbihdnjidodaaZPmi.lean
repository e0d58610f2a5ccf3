/- Small theta graphs. -/
import Derived.Test.YtgfbihdnjidodaaZPma
namespace Go.Proofs.Ytgfbihdnjidodaa
open Go.RowKit Go.Shelf Go.Proofs.Gr

set_option maxRecDepth 100000 in
theorem t8_3_1 : ∀ m n : Fin 12, m.1 < 1 ∨ 11 < m.1 ∨ n.1 = 0 ∨ 13 < 3 + m.1 + n.1 ∨ coT 8 [((3 : Nat) : Int), (m.1 : Int), (n.1 : Int)] = true := by decide +kernel
set_option maxRecDepth 100000 in
theorem t8_5_1 : ∀ m n : Fin 12, m.1 < 1 ∨ 11 < m.1 ∨ n.1 = 0 ∨ 13 < 5 + m.1 + n.1 ∨ coT 8 [((5 : Nat) : Int), (m.1 : Int), (n.1 : Int)] = true := by decide +kernel
end Go.Proofs.Ytgfbihdnjidodaa
