/- Walks of the reference: words, numbers, runs. -/
import Derived.Test.YtffcahhnaomegaaDoorLg
namespace Go.Proofs.YtffcahhnaomegaaDoor
open Go.RowKit Go.Proofs.Lx
/-- The error of a word. -/
def wordE (l : List UInt8) : Nat := if allB isLet l then (if 24 < l.length then 19 else 0) else 3
/-- The error of the digits of a number. -/
def numE (l : List UInt8) : Nat := if allB isDig l then (if 1024 < l.length then 11 else if 1 < l.length ∧ l[0]? = some 48 then 3 else 0) else 3

theorem head_48 (s : ByteArray) (h : 0 < s.size) : ((bl s)[0]? = some 48) ↔ ((s[0].toNat : Int) == 48) = true := by
  have hl : 0 < (bl s).length := by simpa using h
  rw [List.getElem?_eq_getElem hl, Option.some_inj, beq_iff_eq]
  constructor
  · intro e
    have : s[0] = 48 := e
    rw [this]; rfl
  · intro e
    exact UInt8.toNat_inj.1 (by show s[0].toNat = 48; omega)

end Go.Proofs.YtffcahhnaomegaaDoor
