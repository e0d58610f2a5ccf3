/- The range of small words. -/
import Derived.Test.YtalbdggpghkcfaaFr
namespace Go.Proofs.Ytalbdggpghkcfaa
open Go.RowKit Go.Proofs.Gr

theorem lit_rng {k : IntKind} {n : Int} (h : (Lit.int k n).wf = true) : k.min ≤ n ∧ n ≤ k.max := by simpa [Lit.wf] using h
theorem u8_lo {n : Int} (h : (Lit.int .u8 n).wf = true) : 0 ≤ n := Int.le_trans (by decide) (lit_rng h).1
theorem u8_hi {n : Int} (h : (Lit.int .u8 n).wf = true) : n ≤ 255 := Int.le_trans (lit_rng h).2 (by decide)
theorem u16_lo {n : Int} (h : (Lit.int .u16 n).wf = true) : 0 ≤ n := Int.le_trans (by decide) (lit_rng h).1
theorem u16_hi {n : Int} (h : (Lit.int .u16 n).wf = true) : n ≤ 65535 := Int.le_trans (lit_rng h).2 (by decide)
end Go.Proofs.Ytalbdggpghkcfaa
