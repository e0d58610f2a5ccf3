/- The parts of a divisor, by both. -/
import Derived.Test.YtalbdggpghkcfaaCk
namespace Go.Proofs.Ytalbdggpghkcfaa
open Go.RowKit Go.Proofs.Gr Go.Proofs.Cp
attribute [local go_sem] Oper.semAt_some

/-- The positive part and the negative part, under way and whole. -/
def posT (D : List Int) : Nat → List Int
  | 0 => List.replicate D.length 0
  | k + 1 => (posT D k).set k (max (iAt D k) 0)
def negT (D : List Int) : Nat → List Int
  | 0 => List.replicate D.length 0
  | k + 1 => (negT D k).set k (max (-iAt D k) 0)
theorem posT_len (D : List Int) (k : Nat) : (posT D k).length = D.length := by
  induction k with
  | zero => simp [posT]
  | succ k ih => rw [posT, List.length_set, ih]
theorem negT_len (D : List Int) (k : Nat) : (negT D k).length = D.length := by
  induction k with
  | zero => simp [negT]
  | succ k ih => rw [negT, List.length_set, ih]
def posD (D : List Int) : List Int := D.map fun z => max z 0
def negD (D : List Int) : List Int := D.map fun z => max (-z) 0
theorem posT_at (D : List Int) (k j : Nat) (hk : k ≤ D.length) (hj : j < D.length) : (posT D k)[j]? = some (if j < k then max (iAt D j) 0 else 0) := by
  induction k with
  | zero => rw [posT, List.getElem?_replicate, if_pos hj, if_neg (by omega)]
  | succ k ih =>
    rw [posT]
    by_cases e : k = j
    · subst e
      rw [List.getElem?_set_self (by rw [posT_len]; omega), if_pos (by omega)]
    · rw [List.getElem?_set_ne e, ih (by omega)]
      by_cases h : j < k
      · rw [if_pos h, if_pos (by omega)]
      · rw [if_neg h, if_neg (by omega)]
theorem negT_at (D : List Int) (k j : Nat) (hk : k ≤ D.length) (hj : j < D.length) : (negT D k)[j]? = some (if j < k then max (-iAt D j) 0 else 0) := by
  induction k with
  | zero => rw [negT, List.getElem?_replicate, if_pos hj, if_neg (by omega)]
  | succ k ih =>
    rw [negT]
    by_cases e : k = j
    · subst e
      rw [List.getElem?_set_self (by rw [negT_len]; omega), if_pos (by omega)]
    · rw [List.getElem?_set_ne e, ih (by omega)]
      by_cases h : j < k
      · rw [if_pos h, if_pos (by omega)]
      · rw [if_neg h, if_neg (by omega)]
theorem posT_all (D : List Int) : posT D D.length = posD D := by
  refine List.ext_getElem? fun j => ?_
  unfold posD
  by_cases hj : j < D.length
  · rw [posT_at D _ j (Nat.le_refl _) hj, if_pos hj, List.getElem?_map, List.getElem?_eq_getElem hj, iAt_get D j hj]; rfl
  · rw [List.getElem?_eq_none (by rw [posT_len]; omega), List.getElem?_eq_none (by rw [List.length_map]; omega)]
theorem negT_all (D : List Int) : negT D D.length = negD D := by
  refine List.ext_getElem? fun j => ?_
  unfold negD
  by_cases hj : j < D.length
  · rw [negT_at D _ j (Nat.le_refl _) hj, if_pos hj, List.getElem?_map, List.getElem?_eq_getElem hj, iAt_get D j hj]; rfl
  · rw [List.getElem?_eq_none (by rw [negT_len]; omega), List.getElem?_eq_none (by rw [List.length_map]; omega)]
def posV (D : List Int) : List Int := if ownD D = 0 then posD D else []
def negV (D : List Int) : List Int := if ownD D = 0 then negD D else []
/-- Hands back two lists, or an error. -/
def GivesIIE (w : World) (X Y : List Int) (k : Nat) (e : Ending) (x : World) : Prop := ∃ a c b d, e = .returned (.tuple #[.slice a X.length c, .slice b Y.length d, .int .i64 (k : Nat)]) ∧ IsAt x a X ∧ IsAt x b Y ∧ Below w.heap.size w x
/-- Both lists, in two new blocks. -/
structure TwoB (W V : World) (g1 g2 : Nat) (P N : List Int) : Prop where
  p : RowB encI 3 V g1 P
  n : RowB encI 3 V g2 N
  ne : g1 ≠ g2
  g1 : W.heap.size ≤ g1
  g2 : W.heap.size ≤ g2
  b : Below W.heap.size W V
theorem TwoB.set {W V : World} {g1 g2 : Nat} {P N : List Int} (h : TwoB W V g1 g2 P N) (i : Nat) (x y : Int) : TwoB W ((V.setCell ⟨g1, i, none⟩ (.int .i64 x)).setCell ⟨g2, i, none⟩ (.int .i64 y)) g1 g2 (P.set i x) (N.set i y) :=
  ⟨(h.p.set i x).far h.ne _, (h.n.far (p := ⟨g1, i, none⟩) h.ne.symm _).set i y, h.ne, h.g1, h.g2, (h.b.setCell (p := ⟨g1, i, none⟩) h.g1 _).setCell (p := ⟨g2, i, none⟩) h.g2 _⟩
theorem TwoB.drew {W V : World} {g1 g2 : Nat} {P N : List Int} (h : TwoB W V g1 g2 P N) : TwoB W V.drew g1 g2 P N := ⟨h.p, h.n, h.ne, h.g1, h.g2, h.b.drew⟩
theorem TwoB.set' {W V : World} {g1 g2 : Nat} {P N : List Int} (h : TwoB W V g1 g2 P N) (i : Nat) (x y : Int) : TwoB W ((V.setCell ⟨g2, i, none⟩ (.int .i64 y)).setCell ⟨g1, i, none⟩ (.int .i64 x)) g1 g2 (P.set i x) (N.set i y) :=
  ⟨(h.p.far (p := ⟨g2, i, none⟩) h.ne _).set i x, (h.n.set i y).far h.ne.symm _, h.ne, h.g1, h.g2, (h.b.setCell (p := ⟨g2, i, none⟩) h.g2 _).setCell (p := ⟨g1, i, none⟩) h.g1 _⟩
end Go.Proofs.Ytalbdggpghkcfaa
