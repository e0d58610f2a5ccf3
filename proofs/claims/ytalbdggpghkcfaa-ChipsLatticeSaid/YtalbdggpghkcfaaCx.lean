/- Lists of divisors of one's own. -/
import Derived.Test.YtalbdggpghkcfaaCw
import Derived.Deep.AppendLies
namespace Go.Proofs.Ytalbdggpghkcfaa
open Go.RowKit Go.Proofs.Gr Go.Proofs.Cp
attribute [local go_sem] Oper.semAt_some

/-- The error of a number of vertices and a degree, and the list. -/
def allK (n k : Int) : Nat := if n < 1 ∨ 12 < n ∨ k < 0 ∨ 1048576 < k then 2 else if manyB (n - 1).toNat k.toNat = true then 12 else 0
def allL (n k : Int) : List (List Int) := if allK n k = 0 then allE (n - 1).toNat k.toNat else []
/-- Hands back divisors, or an error. -/
def GivesLE (w : World) (M : List (List Int)) (k : Nat) (e : Ending) (x : World) : Prop := ∃ p c, e = .returned (.tuple #[.slice p M.length c, .int .i64 (k : Nat)]) ∧ LsAt x p M ∧ Below w.heap.size w x
def GivesL (w : World) (M : List (List Int)) (e : Ending) (x : World) : Prop := ∃ p c, e = .returned (.slice p M.length c) ∧ LsAt x p M ∧ Below w.heap.size w x
theorem RowAt.grown {α : Type} {k : Nat} {enc : α → List Value} {w w' : World} {a : Option Addr} {L : List α} (h : RowAt k enc w a L) {row : Option Nat} (hg : w.grownBy w' row) (hr : ∀ p, a = some p → some p.block ≠ row) : RowAt k enc w' a L := by
  intro j hj
  obtain ⟨b, off, rfl, hlt, h1⟩ := h j hj
  refine ⟨b, off, rfl, Nat.lt_of_lt_of_le hlt hg.size, fun i hi => ?_⟩
  rw [← h1 i hi]
  exact World.cell?_of_block (hg.block b hlt (hr _ rfl))
/-- A list of divisors of one's own. -/
structure OL (base : Nat) (V : World) (v : Value) (X : List DX) : Prop where
  own : V.ownsRow base 23 1 v X.length (flat encD X)
  els : ∀ y ∈ X, 1 ≤ y.b.length ∧ IsAt V y.a y.b ∧ ∀ p, y.a = some p → v.ownBlock ≠ some p.block
theorem OL.keep {base : Nat} {V V' : World} {v : Value} {X : List DX} (h : OL base V v X) (hb : Below V.heap.size V V') : OL base V' v X :=
  ⟨own_keep h.own hb, fun y hy => ⟨(h.els y hy).1, (h.els y hy).2.1.keep hb, (h.els y hy).2.2⟩⟩
theorem OL.nil (base : Nat) (V : World) : OL base V (.slice none 0 0) [] := ⟨World.ownsRow_nil _ _ _ _, fun y hy => by simp at hy⟩
theorem IsAt.low {w : World} {p : Addr} {L : List Int} (h : IsAt w (some p) L) (h1 : 1 ≤ L.length) : p.block < w.heap.size := by
  obtain ⟨b, o, e, hlt, _⟩ := h 0 h1
  injection e with e
  subst e
  exact hlt
theorem OL.push {base g cap : Nat} {V V' : World} {o : Obj} {v : Value} {X : List DX} (h : OL base V v X) (y : DX) (h1 : 1 ≤ y.b.length) (h2 : IsAt V y.a y.b) (h3 : ∀ p, y.a = some p → v.ownBlock ≠ some p.block)
    (hown : V'.ownsRow base 23 1 (.slice (some ⟨g, 0, none⟩) (X.length + 1) cap) (X.length + 1) (flat encD X ++ encD y)) (hg : (V.alloc o).grownBy V' v.ownBlock) (hl : v.ownBlock = some g ∨ g = V.heap.size + 1) :
    OL base V' (.slice (some ⟨g, 0, none⟩) (X.length + 1) cap) (X ++ [y]) ∧ IsAt V' y.a y.b ∧ ∀ p, y.a = some p → some g ≠ some p.block := by
  have key : ∀ z : DX, 1 ≤ z.b.length → IsAt V z.a z.b → (∀ p, z.a = some p → v.ownBlock ≠ some p.block) → IsAt V' z.a z.b ∧ ∀ p, z.a = some p → some g ≠ some p.block := by
    intro z hz1 hz2 hz3
    refine ⟨RowAt.grown (hz2.keep ((Below.refl _ V).alloc (Nat.le_refl _) o)) hg (fun p hp e => hz3 p hp e.symm), fun p hp e => ?_⟩
    injection e with e
    rcases hl with hl | hl
    · exact hz3 p hp (by rw [hl, e])
    · rw [hp] at hz2
      have := IsAt.low hz2 hz1
      omega
  refine ⟨⟨?_, fun z hz => ?_⟩, key y h1 h2 h3⟩
  · rw [List.length_append, List.length_singleton, flat_append, flat_one]; exact hown
  · rcases List.mem_append.1 hz with hz | hz
    · obtain ⟨a1, a2, a3⟩ := h.els z hz
      exact ⟨a1, (key z a1 a2 a3).1, (key z a1 a2 a3).2⟩
    · rw [List.mem_singleton] at hz
      subst hz
      exact ⟨h1, (key z h1 h2 h3).1, (key z h1 h2 h3).2⟩
theorem OL.done {base : Nat} {V : World} {v : Value} {X : List DX} (h : OL base V v X) : ∃ p c, v = .slice p (X.map DX.b).length c ∧ LsAt V p (X.map DX.b) := by
  obtain ⟨p, c, hv, hr⟩ := RowAt.of_own encD_len h.own
  exact ⟨p, c, by rw [List.length_map]; exact hv, X, rfl, hr, fun y hy => (h.els y hy).2.1⟩
/-- The elements are right. -/
theorem allE_eff {m k : Nat} (hm : m < 12) (hk : k ≤ 1048576) {D : List Int} (h : D ∈ allE m k) : Eff D := by
  obtain ⟨h1, h2, h3⟩ := allE_mem h
  refine ⟨by omega, by omega, fun j hj => ?_⟩
  have hle : ∀ (L : List Int), (∀ z ∈ L, 0 ≤ z) → 0 ≤ sumD L ∧ ∀ z ∈ L, z ≤ sumD L := by
    intro L hL
    induction L with
    | nil => exact ⟨Int.le_refl _, fun z hz => by simp at hz⟩
    | cons x L ih =>
      obtain ⟨a, b⟩ := ih fun z hz => hL z (List.mem_cons_of_mem _ hz)
      have hx := hL x (List.mem_cons_self ..)
      rw [sumD]
      refine ⟨by omega, fun z hz => ?_⟩
      rcases List.mem_cons.1 hz with rfl | hz
      · omega
      · have := b z hz; omega
  have hm2 : iAt D j ∈ D := by rw [← iAt_get D j hj]; exact List.getElem_mem hj
  have := h2 _ hm2
  have := (hle D h2).2 _ hm2
  omega
def lAt (M : List (List Int)) (i : Nat) : List Int := M.getD i []
theorem lAt_get (M : List (List Int)) (i : Nat) (h : i < M.length) : M[i]? = some (lAt M i) := by
  unfold lAt; rw [List.getD_eq_getElem?_getD, List.getElem?_eq_getElem h]; rfl
theorem take_lAt (M : List (List Int)) (i : Nat) (h : i < M.length) : M.take (i + 1) = M.take i ++ [lAt M i] := by
  rw [List.take_add_one, lAt_get M i h]; rfl
theorem allE_at {m k : Nat} (i : Nat) (h : i + 1 < cnt m k) : nxt (lAt (allE m k) i) = some (lAt (allE m k) (i + 1)) := by
  obtain ⟨D, D', h1, h2, h3⟩ := allE_next m k i h
  have e1 := lAt_get (allE m k) i (by rw [allE_len]; omega)
  have e2 := lAt_get (allE m k) (i + 1) (by rw [allE_len]; omega)
  rw [h1] at e1
  rw [h2] at e2
  injection e1 with e1
  injection e2 with e2
  rw [← e1, ← e2, h3]
theorem allE_end {m k : Nat} (i : Nat) (h : i + 1 = cnt m k) : nxt (lAt (allE m k) i) = none := by
  have h1 := allE_last m k
  have e1 := lAt_get (allE m k) i (by rw [allE_len]; omega)
  rw [show cnt m k - 1 = i by omega, e1] at h1
  injection h1 with h1
  rw [h1, nxt_last]
theorem allE_first (m k : Nat) : lAt (allE m k) 0 = fstD m k := by
  have h1 := allE_head m k
  rw [lAt_get _ 0 (by rw [allE_len]; exact cnt_pos _ _)] at h1
  injection h1
theorem fst_set (m k : Nat) : fstD m k = (List.replicate (m + 1) 0).set m (k : Int) := by
  unfold fstD
  induction m with
  | zero => rfl
  | succ m ih => rw [List.replicate_succ, List.cons_append, ih]; rfl
theorem infoDv : (Try.prog.info? 23).map (fun i => (i.zero, i.size, i.bytes)) = some (some (.slice none 0 0), 1, 24) := by kernel_rfl
def lenOf : Value → Nat
  | .slice _ n _ => n
  | _ => 0
theorem OL.len {base : Nat} {V : World} {v : Value} {X : List DX} (h : OL base V v X) : lenOf v = X.length := by
  obtain ⟨p, c, hv, -⟩ := RowAt.of_own encD_len h.own
  rw [hv]; rfl
theorem n2_some {w : World} {r : Option (List Int)} {e : Ending} {x : World} (h : GivesN2 w r e x) {E : List Int} {N : Nat} (hr : r = some E) (hE : E.length = N + 1) : ∃ p c, e = .returned (.tuple #[.slice (some p) (N + 1) c, .bool true]) ∧ N + 1 ≤ c ∧ w.heap.size ≤ p.block ∧ IsAt x (some p) E ∧ Below w.heap.size w x := by
  rcases h with ⟨E2, a, c, h1, rfl, hc, hf, hr2, hb⟩ | ⟨h1, -⟩
  · rw [hr] at h1
    injection h1 with h1
    subst h1
    obtain ⟨b, o, rfl⟩ := IsAt.ne hr2 (by omega)
    exact ⟨⟨b, o, none⟩, c, by rw [hE], by omega, hf _ rfl, hr2, hb⟩
  · rw [hr] at h1; cases h1
theorem n2_none {w : World} {r : Option (List Int)} {e : Ending} {x : World} (h : GivesN2 w r e x) (hr : r = none) : e = .returned (.tuple #[.slice none 0 0, .bool false]) ∧ Below w.heap.size w x := by
  rcases h with ⟨E2, a, c, h1, -⟩ | ⟨-, h2, h3⟩
  · rw [hr] at h1; cases h1
  · exact ⟨h2, h3⟩
end Go.Proofs.Ytalbdggpghkcfaa
