/- Small theta graphs. -/
import Derived.Test.YtgfbihdnjidodaaZPma
namespace Go.Proofs.Ytgfbihdnjidodaa
open Go.RowKit Go.Shelf Go.Proofs.Gr

set_option maxRecDepth 100000 in
theorem t8_6_1 : ∀ m n : Fin 12, m.1 < 1 ∨ 11 < m.1 ∨ n.1 = 0 ∨ 13 < 6 + m.1 + n.1 ∨ coT 8 [((6 : Nat) : Int), (m.1 : Int), (n.1 : Int)] = true := by decide +kernel
set_option maxRecDepth 100000 in
theorem t8_7_1 : ∀ m n : Fin 12, m.1 < 1 ∨ 11 < m.1 ∨ n.1 = 0 ∨ 13 < 7 + m.1 + n.1 ∨ coT 8 [((7 : Nat) : Int), (m.1 : Int), (n.1 : Int)] = true := by decide +kernel
set_option maxRecDepth 100000 in
theorem t8_8_1 : ∀ m n : Fin 12, m.1 < 1 ∨ 11 < m.1 ∨ n.1 = 0 ∨ 13 < 8 + m.1 + n.1 ∨ coT 8 [((8 : Nat) : Int), (m.1 : Int), (n.1 : Int)] = true := by decide +kernel
set_option maxRecDepth 100000 in
theorem t8_9_1 : ∀ m n : Fin 12, m.1 < 1 ∨ 11 < m.1 ∨ n.1 = 0 ∨ 13 < 9 + m.1 + n.1 ∨ coT 8 [((9 : Nat) : Int), (m.1 : Int), (n.1 : Int)] = true := by decide +kernel
set_option maxRecDepth 100000 in
theorem t8_10_1 : ∀ m n : Fin 12, m.1 < 1 ∨ 11 < m.1 ∨ n.1 = 0 ∨ 13 < 10 + m.1 + n.1 ∨ coT 8 [((10 : Nat) : Int), (m.1 : Int), (n.1 : Int)] = true := by decide +kernel
set_option maxRecDepth 100000 in
theorem t8_11_1 : ∀ m n : Fin 12, m.1 < 1 ∨ 11 < m.1 ∨ n.1 = 0 ∨ 13 < 11 + m.1 + n.1 ∨ coT 8 [((11 : Nat) : Int), (m.1 : Int), (n.1 : Int)] = true := by decide +kernel
end Go.Proofs.Ytgfbihdnjidodaa
