/- Sizes, the edges around a vertex, checks of vertices. -/
import Derived.Test.YtgejkgeojjgclaaGh
namespace Go.Proofs.Ytgejkgeojjgclaa
open Go.RowKit Go.Proofs.Gr

theorem sum_bound {f : E → Int} {L : List E} (h : ∀ e ∈ L, 0 ≤ f e ∧ f e ≤ 50) (i : Nat) : 0 ≤ sumL f (L.take i) ∧ sumL f (L.take i) ≤ 50 * i := by
  induction L generalizing i with
  | nil => simp [sumL]; omega
  | cons e r ih =>
    cases i with
    | zero => simp [sumL]
    | succ i =>
      rw [List.take_succ_cons, sumL]
      have h1 := h e List.mem_cons_self
      have h2 := ih (fun x hx => h x (List.mem_cons_of_mem _ hx)) i
      omega
theorem take_all {f : E → Int} (L : List E) : sumL f (L.take L.length) = sumL f L := by rw [List.take_length]
/-- Hands back a number and an error's number. -/
def GivesNE (w : World) (z : Int) (k : Nat) (e : Ending) (w' : World) : Prop := e = .returned (.tuple #[.int .i64 z, .int .i64 (k : Nat)]) ∧ Below w.heap.size w w'

/-- The error of a graph and some vertices. -/
def chkV (n : Int) (L : List E) (Vs : List Int) : Nat := if chkG n L ≠ 0 then chkG n L else if Vs.all (isV n) then 0 else 2
theorem all_split (n : Int) (Vs : List Int) (i : Nat) (hi : i < Vs.length) (hz : isV n (iAt Vs i) = false) : Vs.all (isV n) = false := by
  rw [List.all_eq_false]
  exact ⟨Vs[i], List.getElem_mem hi, by rw [iAt_get Vs i hi, hz]; simp⟩
theorem all_full (n : Int) (Vs : List Int) (h : ∀ j, j < Vs.length → isV n (iAt Vs j) = true) : Vs.all (isV n) = true := by
  rw [List.all_eq_true]
  intro x hx
  obtain ⟨i, hi, rfl⟩ := List.mem_iff_getElem.1 hx
  rw [iAt_get Vs i hi]; exact h i hi
end Go.Proofs.Ytgejkgeojjgclaa
