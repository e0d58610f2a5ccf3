/- Small graphs of one or two sizes. -/
import Derived.Test.YtgfbihdnjidodaaZPma
namespace Go.Proofs.Ytgfbihdnjidodaa
open Go.RowKit Go.Shelf Go.Proofs.Gr

set_option maxRecDepth 100000 in
theorem t0 : ∀ n : Fin 13, n.1 = 0 ∨ coT 0 [(n.1 : Int)] = true := by decide +kernel
set_option maxRecDepth 100000 in
theorem t1 : ∀ n : Fin 13, n.1 = 0 ∨ coT 1 [(n.1 : Int)] = true := by decide +kernel
set_option maxRecDepth 100000 in
theorem t2 : ∀ n : Fin 12, n.1 = 0 ∨ coT 2 [(n.1 : Int)] = true := by decide +kernel
set_option maxRecDepth 100000 in
theorem t3 : ∀ n : Fin 13, n.1 = 0 ∨ coT 3 [(n.1 : Int)] = true := by decide +kernel
set_option maxRecDepth 100000 in
theorem t4 : ∀ n : Fin 51, n.1 = 0 ∨ coT 4 [(n.1 : Int)] = true := by decide +kernel
set_option maxRecDepth 100000 in
theorem t5 : ∀ n : Fin 12, n.1 = 0 ∨ coT 5 [(n.1 : Int)] = true := by decide +kernel
set_option maxRecDepth 100000 in
theorem t7 : ∀ m n : Fin 13, m.1 = 0 ∨ n.1 = 0 ∨ 12 < m.1 * n.1 ∨ coT 7 [(m.1 : Int), (n.1 : Int)] = true := by decide +kernel
end Go.Proofs.Ytgfbihdnjidodaa
