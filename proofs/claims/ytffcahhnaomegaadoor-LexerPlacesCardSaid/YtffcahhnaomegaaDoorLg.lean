/- Walks of the reference's leaves: letters, digits, signs. -/
import Derived.Test.YtffcahhnaomegaaDoorLe
namespace Go.Proofs.YtffcahhnaomegaaDoor
open Go.RowKit Go.Proofs.Lx
/-- All bytes have a property, and there are some. -/
def allB (p : UInt8 → Bool) (l : List UInt8) : Bool := l.all p && decide (0 < l.length)

theorem all_upto {p : UInt8 → Bool} {l : List UInt8} {k : Nat} (hk : k < l.length) : (l.take (k + 1)).all p = ((l.take k).all p && p l[k]) := by
  rw [List.take_succ_eq_append_getElem hk, List.all_append]; simp

theorem sb_index (j : Nat) (hp : j < SB.size) (w : World) : (Instr.index 9 (.string ⟨#[44, 59, 58, 40, 41, 123, 125, 91, 93, 61, 43, 45, 42, 47, 60, 62, 46]⟩) (.int .i64 (j : Nat))).run Tryd.prog w = .ok (.int .u8 (((SB[j]'hp).toNat : Nat) : Int)) w := by
  have hj : j < 17 := hp
  have h := @run_index_string Tryd.prog w 9 SB .i64 (j : Nat) Tryd.underlying9
  refine h.trans ?_
  have h1 : (0 : Int) ≤ ((j : Nat) : Int) := by omega
  have h2 : ((j : Nat) : Int) < ((SB.size : Nat) : Int) := by show ((j : Nat) : Int) < 17; omega
  simp [h1, hp]
end Go.Proofs.YtffcahhnaomegaaDoor
