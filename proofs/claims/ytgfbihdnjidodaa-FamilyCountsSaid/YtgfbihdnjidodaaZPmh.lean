/- Small theta graphs. -/
import Derived.Test.YtgfbihdnjidodaaZPma
namespace Go.Proofs.Ytgfbihdnjidodaa
open Go.RowKit Go.Shelf Go.Proofs.Gr

set_option maxRecDepth 100000 in
theorem t8_2_3 : ∀ m n : Fin 12, m.1 < 3 ∨ 11 < m.1 ∨ n.1 = 0 ∨ 13 < 2 + m.1 + n.1 ∨ coT 8 [((2 : Nat) : Int), (m.1 : Int), (n.1 : Int)] = true := by decide +kernel
set_option maxRecDepth 100000 in
theorem t8_4_1 : ∀ m n : Fin 12, m.1 < 1 ∨ 11 < m.1 ∨ n.1 = 0 ∨ 13 < 4 + m.1 + n.1 ∨ coT 8 [((4 : Nat) : Int), (m.1 : Int), (n.1 : Int)] = true := by decide +kernel
end Go.Proofs.Ytgfbihdnjidodaa
