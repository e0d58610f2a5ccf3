/- Families: the spanning trees of small graphs, by tables. -/
import Derived.Test.YtgfbihdnjidodaaZPl
namespace Go.Proofs.Ytgfbihdnjidodaa
open Go.RowKit Go.Shelf Go.Proofs.Gr

/-- The graph of some single edges. -/
def mkW (N : Nat) (P : List (Int × Int)) (l : List Int) : List E := joinT (cntT (selP P l l.length) (selP P l l.length).length) N N
/-- How many subsets are spanning trees, among the first. -/
def enuN (N : Nat) (P : List (Int × Int)) (s : Nat) : Nat → Nat
  | 0 => 0
  | u + 1 => enuN N P s u + if (subL u s).length + 1 = N ∧ decide (compsU (N : Nat) (mkW N P (subL u s)) = 1) = true then 1 else 0
theorem enuN_le (N : Nat) (P : List (Int × Int)) (s u : Nat) : enuN N P s u ≤ u := by
  induction u with
  | zero => simp [enuN]
  | succ u ih => rw [enuN]; split <;> omega
/-- Small graphs have as many spanning trees as their orders say. -/
def coT (kind : Nat) (L : List Int) : Bool := decide (kind = 7) || (decide (10 < sizeG (famJ kind L)) || (decide (7 < famN kind L) ||
  (decide (((endsG (famJ kind L)).length : Int) = sizeG (famJ kind L)) && ((endsG (famJ kind L)).all (fun p => decide ((0 ≤ p.1 ∧ p.1 < (famN kind L : Nat)) ∧ 0 ≤ p.2 ∧ p.2 < (famN kind L : Nat))) &&
    decide (((enuN (famN kind L) (endsG (famJ kind L)) (endsG (famJ kind L)).length (2 ^ (endsG (famJ kind L)).length) : Nat) : Int) = prodI (cycM kind L) (cycM kind L).length)))))
end Go.Proofs.Ytgfbihdnjidodaa
