/- Families in numbers: walks, ends, how many vertices. And: Families of few vertices: the ends of the program and those of the reference are the same. And: The errors of kinds and sizes in numbers. -/
import Derived.Test.YtgfbihdnjidodaaQ06
namespace Go.Proofs.Ytgfbihdnjidodaa
open Go.RowKit Go.Proofs.Gr

/-- The way through new vertices. -/
def lastP (x nx : Int) (j : Nat) : Int := if j = 0 then x else nx + j - 1
def wayP (x nx : Int) : Nat → List (Int × Int)
  | 0 => []
  | j + 1 => wayP x nx j ++ [(lastP x nx j, nx + j)]
theorem wayP_len (x nx : Int) (j : Nat) : (wayP x nx j).length = j := by
  induction j with
  | zero => rfl
  | succ j ih => rw [wayP, List.length_append, ih]; rfl
theorem lastP_succ (x nx : Int) (j : Nat) : lastP x nx (j + 1) = nx + j := by unfold lastP; rw [if_neg (by omega)]; omega
/-- Some ints at equal distances. -/
def rowL (a : Int) (c : Nat) (d : Int) : List Int := (List.range c).map fun (i : Nat) => a + (i : Int) * d
theorem rowL_len (a : Int) (c : Nat) (d : Int) : (rowL a c d).length = c := by simp [rowL]
theorem rowL_at (a : Int) (c : Nat) (d : Int) (i : Nat) (h : i < c) : iAt (rowL a c d) i = a + i * d := by
  rw [← iAt_get _ i (by rw [rowL_len]; exact h)]; simp [rowL]
theorem rowL_succ (a : Int) (c : Nat) (d : Int) : rowL a (c + 1) d = rowL a c d ++ [a + c * d] := by simp [rowL, List.range_succ]
/-- The greater number. -/
def mxI (a b : Int) : Int := if a < b then b else a
/-- The vertices, and the ends, behind a number of rounds of a walk. -/
def vI (V : Int) (l : List Int) : Nat → Int
  | 0 => V
  | i + 1 => mxI (vI V l i) (iAt l i + 1)
def wI (l : List Int) : Nat → List (Int × Int)
  | 0 => []
  | i + 1 => if i = 0 then [] else wI l i ++ [(iAt l (i - 1), iAt l i)]
theorem wI_len (l : List Int) (i : Nat) : (wI l i).length = i - 1 := by
  induction i with
  | zero => rfl
  | succ i ih =>
    unfold wI
    split
    · simp; omega
    · rw [List.length_append, ih]; simp; omega
theorem vI_low (V : Int) (l : List Int) (i : Nat) : V ≤ vI V l i := by
  induction i with
  | zero => exact Int.le_refl _
  | succ i ih => unfold vI mxI; split <;> omega
theorem vI_at (V : Int) (l : List Int) (i j : Nat) (h : j < i) : iAt l j + 1 ≤ vI V l i := by
  induction i with
  | zero => omega
  | succ i ih =>
    unfold vI mxI
    by_cases e : j = i
    · subst e; split <;> omega
    · have := ih (by omega); split <;> omega
theorem vI_up (V : Int) (l : List Int) (B : Int) (hV : V ≤ B) (h : ∀ j, j < l.length → iAt l j + 1 ≤ B) (i : Nat) (hi : i ≤ l.length) : vI V l i ≤ B := by
  induction i with
  | zero => exact hV
  | succ i ih =>
    unfold vI mxI
    have := h i (by omega)
    have := ih (by omega)
    split <;> omega
def wV (V : Int) (l : List Int) : Int := vI V l l.length
def wP (l : List Int) : List (Int × Int) := wI l l.length
/-- The vertices and the ends behind some walks. -/
def seqV (V : Int) : List (List Int) → Int
  | [] => V
  | l :: S => seqV (wV V l) S
def seqP : List (List Int) → List (Int × Int)
  | [] => []
  | l :: S => wP l ++ seqP S
theorem seqV_app (V : Int) (S T : List (List Int)) : seqV V (S ++ T) = seqV (seqV V S) T := by
  induction S generalizing V with
  | nil => rfl
  | cons l S ih => exact ih _
theorem seqP_app (S T : List (List Int)) : seqP (S ++ T) = seqP S ++ seqP T := by
  induction S with
  | nil => rfl
  | cons l S ih => simp [seqP, ih, List.append_assoc]
theorem seqV_snoc (V : Int) (S : List (List Int)) (l : List Int) : seqV V (S ++ [l]) = wV (seqV V S) l := by rw [seqV_app]; rfl
theorem seqP_snoc (S : List (List Int)) (l : List Int) : seqP (S ++ [l]) = seqP S ++ wP l := by rw [seqP_app]; simp [seqP]
theorem seqV_low (V : Int) (S : List (List Int)) : V ≤ seqV V S := by
  induction S generalizing V with
  | nil => exact Int.le_refl _
  | cons l S ih => exact Int.le_trans (vI_low V l _) (ih _)
theorem seqV_at (V : Int) (S : List (List Int)) (l : List Int) (hl : l ∈ S) (x : Int) (hx : x ∈ l) : x + 1 ≤ seqV V S := by
  induction S generalizing V with
  | nil => cases hl
  | cons m S ih =>
    rcases List.mem_cons.1 hl with e | e
    · subst e
      obtain ⟨j, hj, rfl⟩ := List.getElem_of_mem hx
      rw [iAt_get l j hj]
      exact Int.le_trans (vI_at V l _ j hj) (seqV_low _ S)
    · exact ih _ e
theorem seqV_up (V : Int) (S : List (List Int)) (B : Int) (hV : V ≤ B) (h : ∀ l, l ∈ S → ∀ x, x ∈ l → x + 1 ≤ B) : seqV V S ≤ B := by
  induction S generalizing V with
  | nil => exact hV
  | cons m S ih =>
    refine ih _ (vI_up V m B hV (fun j hj => ?_) _ (Nat.le_refl _)) (fun l hl => h l (List.mem_cons_of_mem _ hl))
    rw [← iAt_get m j hj]
    exact h m List.mem_cons_self _ (List.getElem_mem _)
/-- The walks of the kinds. -/
def pathS (n : Nat) : List (List Int) := [rowL 0 n 1]
def cycleS (n : Nat) : List (List Int) := [rowL 0 n 1 ++ [0]]
def starS (n : Nat) : List (List Int) := (List.range n).map fun (i : Nat) => [0, 1 + (i : Int) * 1]
def compR (v : Nat) (w : Nat) : List (List Int) := (List.range w).map fun (i : Nat) => [(i : Int), (v : Int)]
def completeS (n : Nat) : List (List Int) := (List.range n).flatMap fun (v : Nat) => [(v : Int)] :: compR v v
def bananaS (n : Nat) : List (List Int) := List.replicate n [0, 1]
def wheelS (n : Nat) : List (List Int) := starS n ++ [rowL 1 n 1 ++ [1]]
def bipR (m : Nat) (v : Nat) (n : Nat) : List (List Int) := (List.range n).map fun (j : Nat) => [(v : Int), (m : Int) + (j : Int) * 1]
def bipS (m n : Nat) : List (List Int) := (List.range m).flatMap fun (v : Nat) => bipR m v n
def gridS1 (n : Nat) (m : Nat) : List (List Int) := (List.range m).map fun (i : Nat) => rowL ((i : Int) * n) n 1
def gridS2 (m n : Nat) (k : Nat) : List (List Int) := (List.range k).map fun (j : Nat) => rowL (j : Int) m n
def gridS (m n : Nat) : List (List Int) := gridS1 n m ++ gridS2 m n n
def thN (L : List Int) : Nat → Int
  | 0 => 2
  | i + 1 => thN L i + (iAt L i - 1)
def thS (L : List Int) : Nat → List (List Int)
  | 0 => []
  | i + 1 => thS L i ++ [(0 :: rowL (thN L i) (iAt L i - 1).toNat 1) ++ [1]]
def seqS (kind : Nat) (L : List Int) : List (List Int) :=
  match kind with
  | 0 => pathS (iAt L 0).toNat
  | 1 => cycleS (iAt L 0).toNat
  | 2 => starS (iAt L 0).toNat
  | 3 => completeS (iAt L 0).toNat
  | 4 => bananaS (iAt L 0).toNat
  | 5 => wheelS (iAt L 0).toNat
  | 6 => bipS (iAt L 0).toNat (iAt L 1).toNat
  | 7 => gridS (iAt L 0).toNat (iAt L 1).toNat
  | _ => thS L 3
/-- How many sizes a kind has. -/
def sizK (kind : Nat) : Nat := if kind < 6 then 1 else if kind < 8 then 2 else 3
/-- The reference's ends. -/
def lineR (a : Int) (c : Nat) : List (Int × Int) := (List.range c).map fun (i : Nat) => (a + (i : Int), a + (i : Int) + 1)
def crossK (i : Nat) (m : Int) (n : Nat) : List (Int × Int) := (List.range n).map fun (k : Nat) => ((i : Int), m + (k : Int))
def crossR (m n : Nat) : List (Int × Int) := (List.range m).flatMap fun (i : Nat) => crossK i m n
def gridK (m n : Nat) (i : Nat) (j : Nat) : List (Int × Int) := (List.range j).flatMap fun (j : Nat) => (if j + 1 < n then [((i : Int) * n + j, (i : Int) * n + j + 1)] else []) ++ (if i + 1 < m then [((i : Int) * n + j, (i : Int) * n + n + j)] else [])
def gridR (m n : Nat) : List (Int × Int) := (List.range m).flatMap fun (i : Nat) => gridK m n i n
def thR (L : List Int) : Nat → List (Int × Int)
  | 0 => []
  | i + 1 => thR L i ++ wayP 0 (thN L i) (iAt L i - 1).toNat ++ [(lastP 0 (thN L i) (iAt L i - 1).toNat, 1)]
def compK (a : Nat) (c : Nat) : List (Int × Int) := (List.range c).map fun (i : Nat) => ((a : Int), (a : Int) + 1 + (i : Int))
def compRR (n : Nat) : List (Int × Int) := (List.range n).flatMap fun (a : Nat) => compK a (n - a - 1)
def banR (n : Nat) : List (Int × Int) := List.replicate n (0, 1)
def endsR (kind : Nat) (L : List Int) : List (Int × Int) :=
  let n := (iAt L 0).toNat
  match kind with
  | 0 => lineR 0 (n - 1)
  | 1 => lineR 0 (n - 1) ++ [((n : Int) - 1, 0)]
  | 2 => crossR 1 n
  | 3 => compRR n
  | 4 => banR n
  | 5 => crossR 1 n ++ lineR 1 (n - 1) ++ [((n : Int), 1)]
  | 6 => crossR n (iAt L 1).toNat
  | 7 => gridR n (iAt L 1).toNat
  | _ => thR L 3
/-- The number of vertices, or 13. -/
def vertK (kind : Nat) (L : List Int) : Int :=
  if kind = 4 then (if 50 < iAt L 0 then 13 else 2)
  else if L.any (fun x => decide (13 < x)) = true then 13
  else if kind = 2 ∨ kind = 5 then iAt L 0 + 1
  else if kind = 6 then iAt L 0 + iAt L 1
  else if kind = 7 then iAt L 0 * iAt L 1
  else if kind = 8 then iAt L 0 + iAt L 1 + iAt L 2 - 1
  else iAt L 0
/-- The pair of a single edge in numbers. -/
def keyP (p : Int × Int) : Nat × Nat := ((mnP p).toNat, (mxP p).toNat)
theorem cntT_take (P : List (Int × Int)) (i x y : Nat) (hi : i ≤ P.length) : cntT P i x y = (((P.take i).map keyP).count (x, y) : Nat) := by
  induction i with
  | zero => simp [cntT]
  | succ i ih =>
    show (if x = (mnP (pAt P i)).toNat ∧ y = (mxP (pAt P i)).toNat then cntT P i x y + 1 else cntT P i x y) = _
    rw [ih (by omega), List.take_succ_eq_append_getElem (by omega), pAt_get, List.map_append, List.count_append]
    by_cases h : x = (mnP (pAt P i)).toNat ∧ y = (mxP (pAt P i)).toNat
    · rw [if_pos h]
      have : keyP (pAt P i) = (x, y) := by unfold keyP; rw [← h.1, ← h.2]
      simp [this]
    · rw [if_neg h]
      have : keyP (pAt P i) ≠ (x, y) := fun e => h (by unfold keyP at e; injection e with e1 e2; exact ⟨e1.symm, e2.symm⟩)
      simp [this]
theorem cntT_count (P : List (Int × Int)) (x y : Nat) : cntT P P.length x y = ((P.map keyP).count (x, y) : Nat) := by rw [cntT_take P _ x y (Nat.le_refl _), List.take_length]
/-- What is asked of the ends that the program and the reference make. -/
def goodP (N : Nat) (P R : List (Int × Int)) : Bool :=
  P.all (fun p => decide (0 ≤ p.1) && decide (p.1 < N) && decide (0 ≤ p.2) && decide (p.2 < N)) && (R.all (fun p => decide (0 ≤ p.1) && decide (p.1 < N) && decide (0 ≤ p.2) && decide (p.2 < N)) && ((P.map keyP).all (fun q => decide ((P.map keyP).count q ≤ 50)) && (List.isPerm (P.map keyP) (R.map keyP) && decide (P.length ≤ 4096))))
theorem goodP_of {N : Nat} {P R : List (Int × Int)} (h : goodP N P R = true) : (∀ p ∈ P, (0 ≤ p.1 ∧ p.1 < N) ∧ 0 ≤ p.2 ∧ p.2 < N) ∧ (∀ p ∈ R, (0 ≤ p.1 ∧ p.1 < N) ∧ 0 ≤ p.2 ∧ p.2 < N) ∧ P.length ≤ 4096 ∧ R.length ≤ 4096 ∧ (∀ x y, cntT P P.length x y ≤ 50) ∧ (∀ x y, cntT R R.length x y ≤ 50) ∧ cntT P P.length = cntT R R.length := by
  unfold goodP at h
  simp only [Bool.and_eq_true, List.all_eq_true, decide_eq_true_eq] at h
  obtain ⟨h1, h2, h3, h4, h5⟩ := h
  have hp : (P.map keyP).Perm (R.map keyP) := List.isPerm_iff.1 h4
  have hl : P.length = R.length := by have := hp.length_eq; simpa using this
  have hc : ∀ x y, cntT P P.length x y ≤ 50 := fun x y => by
    rw [cntT_count]
    by_cases hm : (x, y) ∈ P.map keyP
    · have := h3 _ hm; omega
    · rw [List.count_eq_zero_of_not_mem hm]; decide
  have he : cntT P P.length = cntT R R.length := by
    funext x y; rw [cntT_count, cntT_count, hp.count_eq]
  refine ⟨fun p hp => ?_, fun p hp => ?_, h5, by omega, hc, fun x y => by rw [← he]; exact hc x y, he⟩
  · have := h1 p hp; omega
  · have := h2 p hp; omega
end Go.Proofs.Ytgfbihdnjidodaa

namespace Go.Proofs.Ytgfbihdnjidodaa
open Go.RowKit Go.Proofs.Gr
set_option maxRecDepth 100000
theorem g0 : ∀ n : Fin 13, n.1 = 0 ∨ (goodP n.1 (seqP (seqS 0 [(n.1 : Int)])) (endsR 0 [(n.1 : Int)]) = true ∧ seqV 0 (seqS 0 [(n.1 : Int)]) = n.1) := by decide +kernel
theorem g1 : ∀ n : Fin 13, n.1 = 0 ∨ (goodP n.1 (seqP (seqS 1 [(n.1 : Int)])) (endsR 1 [(n.1 : Int)]) = true ∧ seqV 0 (seqS 1 [(n.1 : Int)]) = n.1) := by decide +kernel
theorem g2 : ∀ n : Fin 12, n.1 = 0 ∨ (goodP (n.1+1) (seqP (seqS 2 [(n.1 : Int)])) (endsR 2 [(n.1 : Int)]) = true ∧ seqV 0 (seqS 2 [(n.1 : Int)]) = n.1 + 1) := by decide +kernel
theorem g3 : ∀ n : Fin 13, n.1 = 0 ∨ (goodP n.1 (seqP (seqS 3 [(n.1 : Int)])) (endsR 3 [(n.1 : Int)]) = true ∧ seqV 0 (seqS 3 [(n.1 : Int)]) = n.1) := by decide +kernel
theorem g4 : ∀ n : Fin 51, n.1 = 0 ∨ (goodP 2 (seqP (seqS 4 [(n.1 : Int)])) (endsR 4 [(n.1 : Int)]) = true ∧ seqV 0 (seqS 4 [(n.1 : Int)]) = 2) := by decide +kernel
theorem g5 : ∀ n : Fin 12, n.1 = 0 ∨ (goodP (n.1+1) (seqP (seqS 5 [(n.1 : Int)])) (endsR 5 [(n.1 : Int)]) = true ∧ seqV 0 (seqS 5 [(n.1 : Int)]) = n.1 + 1) := by decide +kernel
theorem g6 : ∀ m n : Fin 12, m.1 = 0 ∨ n.1 = 0 ∨ 12 < m.1 + n.1 ∨ (goodP (m.1+n.1) (seqP (seqS 6 [(m.1 : Int), (n.1 : Int)])) (endsR 6 [(m.1 : Int), (n.1 : Int)]) = true ∧ seqV 0 (seqS 6 [(m.1 : Int), (n.1 : Int)]) = m.1 + n.1) := by decide +kernel
theorem g7 : ∀ m n : Fin 13, m.1 = 0 ∨ n.1 = 0 ∨ 12 < m.1 * n.1 ∨ (goodP (m.1*n.1) (seqP (seqS 7 [(m.1 : Int), (n.1 : Int)])) (endsR 7 [(m.1 : Int), (n.1 : Int)]) = true ∧ seqV 0 (seqS 7 [(m.1 : Int), (n.1 : Int)]) = (m.1 : Int) * n.1) := by decide +kernel
theorem g8 : ∀ k m n : Fin 12, k.1 = 0 ∨ m.1 = 0 ∨ n.1 = 0 ∨ 13 < k.1 + m.1 + n.1 ∨ (goodP (k.1+m.1+n.1-1) (seqP (seqS 8 [(k.1 : Int), (m.1 : Int), (n.1 : Int)])) (endsR 8 [(k.1 : Int), (m.1 : Int), (n.1 : Int)]) = true ∧ seqV 0 (seqS 8 [(k.1 : Int), (m.1 : Int), (n.1 : Int)]) = (k.1 : Int) + m.1 + n.1 - 1) := by decide +kernel
end Go.Proofs.Ytgfbihdnjidodaa

namespace Go.Proofs.Ytgfbihdnjidodaa
open Go.RowKit Go.Proofs.Gr

/-- The error of a kind's sizes. -/
def famE (kind : Nat) (L : List Int) : Nat := if L.length ≠ sizK kind then 8 else if L.any (fun x => decide (x < 1)) = true then 2 else if 12 < vertK kind L then 5 else 0
theorem famE_zero {kind : Nat} {L : List Int} (h : famE kind L = 0) : L.length = sizK kind ∧ (∀ x ∈ L, 1 ≤ x) ∧ vertK kind L ≤ 12 := by
  unfold famE at h
  by_cases h1 : L.length ≠ sizK kind
  · rw [if_pos h1] at h; omega
  rw [if_neg h1] at h
  by_cases h2 : L.any (fun x => decide (x < 1)) = true
  · rw [if_pos h2] at h; omega
  rw [if_neg h2] at h
  by_cases h3 : 12 < vertK kind L
  · rw [if_pos h3] at h; omega
  refine ⟨by omega, fun x hx => ?_, by omega⟩
  have : ¬ x < 1 := fun hh => h2 (List.any_eq_true.2 ⟨x, hx, by simpa using hh⟩)
  omega
theorem one_of {L : List Int} (h : L.length = 1) : ∃ x, L = [x] := by
  match L, h with
  | [x], _ => exact ⟨x, rfl⟩
theorem two_of {L : List Int} (h : L.length = 2) : ∃ x y, L = [x, y] := by
  match L, h with
  | [x, y], _ => exact ⟨x, y, rfl⟩
theorem three_of {L : List Int} (h : L.length = 3) : ∃ x y z, L = [x, y, z] := by
  match L, h with
  | [x, y, z], _ => exact ⟨x, y, z, rfl⟩
theorem fam_good (kind : Nat) (hk : kind ≤ 8) (L : List Int) (h : famE kind L = 0) : ∃ N : Nat, 1 ≤ N ∧ N ≤ 12 ∧ vertK kind L = N ∧ seqV 0 (seqS kind L) = N ∧ goodP N (seqP (seqS kind L)) (endsR kind L) = true := by
  obtain ⟨h1, h2, h3⟩ := famE_zero h
  clear h
  have K : kind = 0 ∨ kind = 1 ∨ kind = 2 ∨ kind = 3 ∨ kind = 4 ∨ kind = 5 ∨ kind = 6 ∨ kind = 7 ∨ kind = 8 := by omega
  rcases K with rfl | rfl | rfl | rfl | rfl | rfl | rfl | rfl | rfl
  · obtain ⟨x, rfl⟩ := one_of h1
    have hx := h2 x (by simp)
    obtain ⟨n, rfl⟩ : ∃ n : Nat, x = n := ⟨x.toNat, by omega⟩
    have hv : vertK 0 [(n : Int)] = (if 13 < (n : Int) then 13 else (n : Int)) := by unfold vertK; simp [iAt]
    rw [hv] at h3 ⊢
    have hn : n ≤ 12 := by split at h3 <;> omega
    rw [if_neg (by omega)]
    rcases g0 ⟨n, by omega⟩ with hz | ⟨ga, gb⟩
    · simp only at hz; omega
    · exact ⟨n, by omega, by omega, rfl, gb, ga⟩
  · obtain ⟨x, rfl⟩ := one_of h1
    have hx := h2 x (by simp)
    obtain ⟨n, rfl⟩ : ∃ n : Nat, x = n := ⟨x.toNat, by omega⟩
    have hv : vertK 1 [(n : Int)] = (if 13 < (n : Int) then 13 else (n : Int)) := by unfold vertK; simp [iAt]
    rw [hv] at h3 ⊢
    have hn : n ≤ 12 := by split at h3 <;> omega
    rw [if_neg (by omega)]
    rcases g1 ⟨n, by omega⟩ with hz | ⟨ga, gb⟩
    · simp only at hz; omega
    · exact ⟨n, by omega, by omega, rfl, gb, ga⟩
  · obtain ⟨x, rfl⟩ := one_of h1
    have hx := h2 x (by simp)
    obtain ⟨n, rfl⟩ : ∃ n : Nat, x = n := ⟨x.toNat, by omega⟩
    have hv : vertK 2 [(n : Int)] = (if 13 < (n : Int) then 13 else (n : Int) + 1) := by unfold vertK; simp [iAt]
    rw [hv] at h3 ⊢
    have hn : n ≤ 11 := by split at h3 <;> omega
    rw [if_neg (by omega)]
    rcases g2 ⟨n, by omega⟩ with hz | ⟨ga, gb⟩
    · simp only at hz; omega
    · exact ⟨n + 1, by omega, by omega, by omega, by rw [gb]; simp, ga⟩
  · obtain ⟨x, rfl⟩ := one_of h1
    have hx := h2 x (by simp)
    obtain ⟨n, rfl⟩ : ∃ n : Nat, x = n := ⟨x.toNat, by omega⟩
    have hv : vertK 3 [(n : Int)] = (if 13 < (n : Int) then 13 else (n : Int)) := by unfold vertK; simp [iAt]
    rw [hv] at h3 ⊢
    have hn : n ≤ 12 := by split at h3 <;> omega
    rw [if_neg (by omega)]
    rcases g3 ⟨n, by omega⟩ with hz | ⟨ga, gb⟩
    · simp only at hz; omega
    · exact ⟨n, by omega, by omega, rfl, gb, ga⟩
  · obtain ⟨x, rfl⟩ := one_of h1
    have hx := h2 x (by simp)
    obtain ⟨n, rfl⟩ : ∃ n : Nat, x = n := ⟨x.toNat, by omega⟩
    have hv : vertK 4 [(n : Int)] = (if 50 < (n : Int) then 13 else 2) := by unfold vertK; simp [iAt]
    rw [hv] at h3 ⊢
    have hn : n ≤ 50 := by split at h3 <;> omega
    rw [if_neg (by omega)]
    rcases g4 ⟨n, by omega⟩ with hz | ⟨ga, gb⟩
    · simp only at hz; omega
    · exact ⟨2, by omega, by omega, rfl, gb, ga⟩
  · obtain ⟨x, rfl⟩ := one_of h1
    have hx := h2 x (by simp)
    obtain ⟨n, rfl⟩ : ∃ n : Nat, x = n := ⟨x.toNat, by omega⟩
    have hv : vertK 5 [(n : Int)] = (if 13 < (n : Int) then 13 else (n : Int) + 1) := by unfold vertK; simp [iAt]
    rw [hv] at h3 ⊢
    have hn : n ≤ 11 := by split at h3 <;> omega
    rw [if_neg (by omega)]
    rcases g5 ⟨n, by omega⟩ with hz | ⟨ga, gb⟩
    · simp only at hz; omega
    · exact ⟨n + 1, by omega, by omega, by omega, by rw [gb]; simp, ga⟩
  · obtain ⟨x, y, rfl⟩ := two_of h1
    have hx := h2 x (by simp)
    have hy := h2 y (by simp)
    obtain ⟨m, rfl⟩ : ∃ n : Nat, x = n := ⟨x.toNat, by omega⟩
    obtain ⟨n, rfl⟩ : ∃ n : Nat, y = n := ⟨y.toNat, by omega⟩
    have hv : vertK 6 [(m : Int), (n : Int)] = (if 13 < (m : Int) ∨ 13 < (n : Int) then 13 else (m : Int) + n) := by unfold vertK; simp [iAt]
    rw [hv] at h3 ⊢
    have hn : m + n ≤ 12 := by split at h3 <;> omega
    rw [if_neg (by omega)]
    rcases g6 ⟨m, by omega⟩ ⟨n, by omega⟩ with hz | hz | hz | ⟨ga, gb⟩
    · simp only at hz; omega
    · simp only at hz; omega
    · simp only at hz; omega
    · exact ⟨m + n, by omega, by omega, by omega, by rw [gb]; simp, ga⟩
  · obtain ⟨x, y, rfl⟩ := two_of h1
    have hx := h2 x (by simp)
    have hy := h2 y (by simp)
    obtain ⟨m, rfl⟩ : ∃ n : Nat, x = n := ⟨x.toNat, by omega⟩
    obtain ⟨n, rfl⟩ : ∃ n : Nat, y = n := ⟨y.toNat, by omega⟩
    have hv : vertK 7 [(m : Int), (n : Int)] = (if 13 < (m : Int) ∨ 13 < (n : Int) then 13 else (m : Int) * n) := by unfold vertK; simp [iAt]
    rw [hv] at h3 ⊢
    have ht : ¬ (13 < (m : Int) ∨ 13 < (n : Int)) := fun ht => by rw [if_pos ht] at h3; omega
    rw [if_neg ht] at h3 ⊢
    have hn : m * n ≤ 12 := by
      rw [← Int.natCast_mul] at h3; omega
    have hm1 : m ≤ m * n := Nat.le_mul_of_pos_right _ (by omega)
    have hn1 : n ≤ m * n := Nat.le_mul_of_pos_left _ (by omega)
    rcases g7 ⟨m, by omega⟩ ⟨n, by omega⟩ with hz | hz | hz | ⟨ga, gb⟩
    · simp only at hz; omega
    · simp only at hz; omega
    · simp only at hz; omega
    · exact ⟨m * n, by omega, by omega, by simp, by rw [gb]; simp, ga⟩
  · obtain ⟨x, y, z, rfl⟩ := three_of h1
    have hx := h2 x (by simp)
    have hy := h2 y (by simp)
    have hz' := h2 z (by simp)
    obtain ⟨k, rfl⟩ : ∃ n : Nat, x = n := ⟨x.toNat, by omega⟩
    obtain ⟨m, rfl⟩ : ∃ n : Nat, y = n := ⟨y.toNat, by omega⟩
    obtain ⟨n, rfl⟩ : ∃ n : Nat, z = n := ⟨z.toNat, by omega⟩
    have hv : vertK 8 [(k : Int), (m : Int), (n : Int)] = (if 13 < (k : Int) ∨ 13 < (m : Int) ∨ 13 < (n : Int) then 13 else (k : Int) + m + n - 1) := by unfold vertK; simp [iAt]
    rw [hv] at h3 ⊢
    have hn : k + m + n ≤ 13 := by split at h3 <;> omega
    rw [if_neg (by omega)]
    rcases g8 ⟨k, by omega⟩ ⟨m, by omega⟩ ⟨n, by omega⟩ with hz | hz | hz | hz | ⟨ga, gb⟩
    · simp only at hz; omega
    · simp only at hz; omega
    · simp only at hz; omega
    · simp only at hz; omega
    · exact ⟨k + m + n - 1, by omega, by omega, by omega, by rw [gb]; simp only; omega, ga⟩
theorem rowL_mem (a : Int) (c : Nat) (d : Int) (i : Nat) (h : i < c) : a + (i : Int) * d ∈ rowL a c d := List.mem_map.2 ⟨i, List.mem_range.2 h, rfl⟩
theorem fam_many (kind : Nat) (hk : kind ≤ 8) (L : List Int) (h1 : L.length = sizK kind) (h2 : ∀ x ∈ L, 1 ≤ x) (h5 : ∀ x ∈ L, x ≤ 50) (h3 : 12 < vertK kind L) : 12 < seqV 0 (seqS kind L) := by
  have K : kind = 0 ∨ kind = 1 ∨ kind = 2 ∨ kind = 3 ∨ kind = 4 ∨ kind = 5 ∨ kind = 6 ∨ kind = 7 ∨ kind = 8 := by omega
  rcases K with rfl | rfl | rfl | rfl | rfl | rfl | rfl | rfl | rfl
  · obtain ⟨x, rfl⟩ := one_of h1
    have hx := h2 x (by simp)
    obtain ⟨n, rfl⟩ : ∃ n : Nat, x = n := ⟨x.toNat, by omega⟩
    have hv : vertK 0 [(n : Int)] = (if 13 < (n : Int) then 13 else (n : Int)) := by unfold vertK; simp [iAt]
    rw [hv] at h3
    have hn : 13 ≤ n := by split at h3 <;> omega
    have := seqV_at 0 (seqS 0 [(n : Int)]) (rowL 0 n 1) (by simp [seqS, pathS, iAt]) _ (rowL_mem 0 n 1 (n - 1) (by omega))
    omega
  · obtain ⟨x, rfl⟩ := one_of h1
    have hx := h2 x (by simp)
    obtain ⟨n, rfl⟩ : ∃ n : Nat, x = n := ⟨x.toNat, by omega⟩
    have hv : vertK 1 [(n : Int)] = (if 13 < (n : Int) then 13 else (n : Int)) := by unfold vertK; simp [iAt]
    rw [hv] at h3
    have hn : 13 ≤ n := by split at h3 <;> omega
    have := seqV_at 0 (seqS 1 [(n : Int)]) (rowL 0 n 1 ++ [0]) (by simp [seqS, cycleS, iAt]) _ (List.mem_append_left _ (rowL_mem 0 n 1 (n - 1) (by omega)))
    omega
  · obtain ⟨x, rfl⟩ := one_of h1
    have hx := h2 x (by simp)
    obtain ⟨n, rfl⟩ : ∃ n : Nat, x = n := ⟨x.toNat, by omega⟩
    have hv : vertK 2 [(n : Int)] = (if 13 < (n : Int) then 13 else (n : Int) + 1) := by unfold vertK; simp [iAt]
    rw [hv] at h3
    have hn : 12 ≤ n := by split at h3 <;> omega
    have := seqV_at 0 (seqS 2 [(n : Int)]) [0, 1 + ((n - 1 : Nat) : Int) * 1] (by simp only [seqS, starS, iAt]; exact List.mem_map.2 ⟨n - 1, List.mem_range.2 (by simp; omega), rfl⟩) (1 + ((n - 1 : Nat) : Int) * 1) (by simp)
    omega
  · obtain ⟨x, rfl⟩ := one_of h1
    have hx := h2 x (by simp)
    obtain ⟨n, rfl⟩ : ∃ n : Nat, x = n := ⟨x.toNat, by omega⟩
    have hv : vertK 3 [(n : Int)] = (if 13 < (n : Int) then 13 else (n : Int)) := by unfold vertK; simp [iAt]
    rw [hv] at h3
    have hn : 13 ≤ n := by split at h3 <;> omega
    have := seqV_at 0 (seqS 3 [(n : Int)]) [((n - 1 : Nat) : Int)] (by simp only [seqS, completeS, iAt]; exact List.mem_flatMap.2 ⟨n - 1, List.mem_range.2 (by simp; omega), List.mem_cons_self⟩) _ (List.mem_cons_self)
    omega
  · obtain ⟨x, rfl⟩ := one_of h1
    have hx := h5 x (by simp)
    have hv : vertK 4 [x] = (if 50 < x then 13 else 2) := by unfold vertK; simp [iAt]
    rw [hv, if_neg (by omega)] at h3
    omega
  · obtain ⟨x, rfl⟩ := one_of h1
    have hx := h2 x (by simp)
    obtain ⟨n, rfl⟩ : ∃ n : Nat, x = n := ⟨x.toNat, by omega⟩
    have hv : vertK 5 [(n : Int)] = (if 13 < (n : Int) then 13 else (n : Int) + 1) := by unfold vertK; simp [iAt]
    rw [hv] at h3
    have hn : 12 ≤ n := by split at h3 <;> omega
    have := seqV_at 0 (seqS 5 [(n : Int)]) [0, 1 + ((n - 1 : Nat) : Int) * 1] (by simp only [seqS, wheelS, starS, iAt]; exact List.mem_append_left _ (List.mem_map.2 ⟨n - 1, List.mem_range.2 (by simp; omega), rfl⟩)) (1 + ((n - 1 : Nat) : Int) * 1) (by simp)
    omega
  · obtain ⟨x, y, rfl⟩ := two_of h1
    have hx := h2 x (by simp)
    have hy := h2 y (by simp)
    obtain ⟨m, rfl⟩ : ∃ n : Nat, x = n := ⟨x.toNat, by omega⟩
    obtain ⟨n, rfl⟩ : ∃ n : Nat, y = n := ⟨y.toNat, by omega⟩
    have hv : vertK 6 [(m : Int), (n : Int)] = (if 13 < (m : Int) ∨ 13 < (n : Int) then 13 else (m : Int) + n) := by unfold vertK; simp [iAt]
    rw [hv] at h3
    have hn : 13 ≤ m + n := by split at h3 <;> omega
    have := seqV_at 0 (seqS 6 [(m : Int), (n : Int)]) [((0 : Nat) : Int), (m : Int) + ((n - 1 : Nat) : Int) * 1] (by simp only [seqS, bipS, iAt]; exact List.mem_flatMap.2 ⟨0, List.mem_range.2 (by simp; omega), List.mem_map.2 ⟨n - 1, List.mem_range.2 (by simp; omega), by simp⟩⟩) ((m : Int) + ((n - 1 : Nat) : Int) * 1) (by simp)
    omega
  · obtain ⟨x, y, rfl⟩ := two_of h1
    have hx := h2 x (by simp)
    have hy := h2 y (by simp)
    obtain ⟨m, rfl⟩ : ∃ n : Nat, x = n := ⟨x.toNat, by omega⟩
    obtain ⟨n, rfl⟩ : ∃ n : Nat, y = n := ⟨y.toNat, by omega⟩
    have hv : vertK 7 [(m : Int), (n : Int)] = (if 13 < (m : Int) ∨ 13 < (n : Int) then 13 else (m : Int) * n) := by unfold vertK; simp [iAt]
    rw [hv] at h3
    have hm1 : m ≤ m * n := Nat.le_mul_of_pos_right _ (by omega)
    have hn1 : n ≤ m * n := Nat.le_mul_of_pos_left _ (by omega)
    have hn : 13 ≤ m * n := by
      split at h3
      · omega
      · rw [← Int.natCast_mul] at h3; omega
    have e : ((m - 1 : Nat) : Int) * (n : Int) = (m : Int) * n - n := by
      rw [Int.natCast_sub (by omega : 1 ≤ m), Int.sub_mul]; simp
    have h9 := seqV_at 0 (seqS 7 [(m : Int), (n : Int)]) (rowL (((m - 1 : Nat) : Int) * n) n 1) (by simp only [seqS, gridS, gridS1, iAt]; exact List.mem_append_left _ (List.mem_map.2 ⟨m - 1, List.mem_range.2 (by simp; omega), by simp⟩)) _ (rowL_mem _ n 1 (n - 1) (by omega))
    rw [e] at h9
    have h10 : (13 : Int) ≤ (m : Int) * n := by rw [← Int.natCast_mul]; omega
    generalize (m : Int) * n = q at *
    omega
  · obtain ⟨x, y, z, rfl⟩ := three_of h1
    have hx := h2 x (by simp)
    have hy := h2 y (by simp)
    have hz' := h2 z (by simp)
    obtain ⟨k, rfl⟩ : ∃ n : Nat, x = n := ⟨x.toNat, by omega⟩
    obtain ⟨m, rfl⟩ : ∃ n : Nat, y = n := ⟨y.toNat, by omega⟩
    obtain ⟨n, rfl⟩ : ∃ n : Nat, z = n := ⟨z.toNat, by omega⟩
    have hv : vertK 8 [(k : Int), (m : Int), (n : Int)] = (if 13 < (k : Int) ∨ 13 < (m : Int) ∨ 13 < (n : Int) then 13 else (k : Int) + m + n - 1) := by unfold vertK; simp [iAt]
    rw [hv] at h3
    have hn : 14 ≤ k + m + n := by split at h3 <;> omega
    have hs : seqS 8 [(k : Int), (m : Int), (n : Int)] = [(0 :: rowL 2 ((k : Int) - 1).toNat 1) ++ [1], (0 :: rowL (2 + ((k : Int) - 1)) ((m : Int) - 1).toNat 1) ++ [1], (0 :: rowL (2 + ((k : Int) - 1) + ((m : Int) - 1)) ((n : Int) - 1).toNat 1) ++ [1]] := rfl
    rw [hs]
    obtain ⟨A, hA⟩ : ∃ A, A = (0 :: rowL 2 ((k : Int) - 1).toNat 1) ++ [1] := ⟨_, rfl⟩
    obtain ⟨B, hB⟩ : ∃ B, B = (0 :: rowL (2 + ((k : Int) - 1)) ((m : Int) - 1).toNat 1) ++ [1] := ⟨_, rfl⟩
    obtain ⟨C, hC⟩ : ∃ C, C = (0 :: rowL (2 + ((k : Int) - 1) + ((m : Int) - 1)) ((n : Int) - 1).toNat 1) ++ [1] := ⟨_, rfl⟩
    rw [← hA, ← hB, ← hC]
    by_cases hn1 : 1 < n
    · have h9 := seqV_at 0 [A, B, C] C (by simp) _ (by rw [hC]; exact List.mem_append_left _ (List.mem_cons_of_mem _ (rowL_mem _ _ 1 (((n : Int) - 1).toNat - 1) (by omega))))
      omega
    · by_cases hm1 : 1 < m
      · have h9 := seqV_at 0 [A, B, C] B (by simp) _ (by rw [hB]; exact List.mem_append_left _ (List.mem_cons_of_mem _ (rowL_mem _ _ 1 (((m : Int) - 1).toNat - 1) (by omega))))
        omega
      · have h9 := seqV_at 0 [A, B, C] A (by simp) _ (by rw [hA]; exact List.mem_append_left _ (List.mem_cons_of_mem _ (rowL_mem _ _ 1 (((k : Int) - 1).toNat - 1) (by omega))))
        omega
end Go.Proofs.Ytgfbihdnjidodaa
