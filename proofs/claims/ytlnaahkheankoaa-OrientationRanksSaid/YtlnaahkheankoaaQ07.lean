/- Graphs without loops. And: Graphs without loops, with few parallel edges: the reference's. And: Graphs in which two vertices are joined at most once. And: Light graphs, right graphs. And: Tables of numbers. And: The graph of a table. And: Stores into tables; the graph on a set of vertices. And: New numbers of vertices. And: Made lists, and stores into them. And: Orientations packed into a word, at the triangle. And: Arcs and indegrees, by the program. And: Indegrees, divisors and sources of orientations, by the program. -/
import Derived.Test.YtlnaahkheankoaaQ06
import Derived.Deep.Onto
import Derived.Laws.OwnMore
import Derived.Test.YtlnaahkheankoaaQ00
import Derived.OneCell
import Derived.BigQuiet
import Derived.Deep.QuietTactic
import Derived.LoopN
namespace Go.Proofs.Ytlnaahkheankoaa
open Go.RowKit Go.Shelf Go.Proofs.Gr
attribute [local go_sem] Oper.semAt_some

/-- Hands back a graph and an error's number. -/
def GivesGE (w : World) (n : Int) (L : List E) (k : Nat) (e : Ending) (w' : World) : Prop := ∃ a c, e = .returned (.tuple #[gv n a L.length c, .int .i64 (k : Nat)]) ∧ EsAt w' a L ∧ w'.ownsRow w.heap.size 79 3 (.slice a L.length c) L.length (flat encE L) ∧ Below w.heap.size w w'
/-- Hands back a graph. -/
def GivesG (w : World) (n : Int) (L : List E) (e : Ending) (w' : World) : Prop := ∃ a c, e = .returned (gv n a L.length c) ∧ EsAt w' a L ∧ w'.ownsRow w.heap.size 79 3 (.slice a L.length c) L.length (flat encE L) ∧ Below w.heap.size w w'
theorem infoE : (Try.prog.info? 79).map (fun i => (i.zero, i.size, i.bytes)) = some (some (.agg #[.int .i64 0, .int .i64 0, .int .i64 0]), 3, 24) := by kernel_rfl
theorem encE_len3 (x : E) : (encE x).length = 3 := rfl
theorem flatE_snoc (l : List E) (z : E) : flat encE (l ++ [z]) = flat encE l ++ [.int .i64 z.a, .int .i64 z.b, .int .i64 z.m] := by rw [flat_append, flat_one]; rfl
/-- The edges that are no loops. -/
def noL (L : List E) : List E := L.filter fun e => decide (¬ e.a = e.b)
theorem noL_take (L : List E) (i : Nat) (h : i < L.length) : noL (L.take (i + 1)) = noL (L.take i) ++ (if (eAt L i).a = (eAt L i).b then [] else [eAt L i]) := by
  unfold noL
  rw [List.take_succ_eq_append_getElem h, List.filter_append, eAt_get]
  congr 1
  by_cases e : (eAt L i).a = (eAt L i).b
  · rw [if_pos e]; simp [e]
  · rw [if_neg e]; simp [e]
theorem noL_le (L : List E) : (noL L).length ≤ L.length := List.length_filter_le _ _
/-- An edge appended to the list in a graph's box. -/
theorem kept_push {V w3 : World} {KB : Nat} {n : Int} {s s' : Value} {k k' : Nat} {xs ys : List Value} {o : Obj} (hT : Blk V KB 24 #[.int .i64 n, s])
    (hrow : V.ownsRow (KB + 1) 79 3 s k xs) (hg : (V.alloc o).grownBy w3 s.ownBlock) (hown : w3.ownsRow (KB + 1) 79 3 s' k' ys) :
    Blk w3 KB 24 #[.int .i64 n, s] ∧ Blk (w3.setCell ⟨KB, 1, none⟩ s') KB 24 #[.int .i64 n, s'] ∧ (w3.setCell ⟨KB, 1, none⟩ s').ownsRow (KB + 1) 79 3 s' k' ys ∧ Below KB V (w3.setCell ⟨KB, 1, none⟩ s') := by
  have h1 : Blk w3 KB 24 #[.int .i64 n, s] := (hT.alloc o).grown hg fun e => by
    have := (hrow.lt KB e.symm).1; omega
  refine ⟨h1, h1.set_ 1 s', ownsRow_setCell_below hown (a := ⟨KB, 1, none⟩) (Nat.lt_succ_self _) s', ?_⟩
  have hlt := hT.lt
  exact (((Below.refl KB V).alloc (by omega) o).grown hg (by simp; omega) (fun j hj => by have := (hrow.lt j hj).1; omega)).setCell (p := ⟨KB, 1, none⟩) (Nat.le_refl _) s'

end Go.Proofs.Ytlnaahkheankoaa

namespace Go.Proofs.Ytlnaahkheankoaa
open Go.RowKit Go.Shelf Go.Proofs.Gr
attribute [local go_sem] Oper.semAt_some

/-- The edges that are no loops, with few parallel ones. -/
def limE (most : Int) (e : E) : E := ⟨e.a, e.b, if most < e.m then most else e.m⟩
def limL (most : Int) (L : List E) : List E := (noL L).map (limE most)
theorem limL_take (most : Int) (L : List E) (i : Nat) (h : i < L.length) : limL most (L.take (i + 1)) = limL most (L.take i) ++ (if (eAt L i).a = (eAt L i).b then [] else [⟨(eAt L i).a, (eAt L i).b, if most < (eAt L i).m then most else (eAt L i).m⟩]) := by
  unfold limL
  rw [noL_take L i h, List.map_append]
  congr 1
  split <;> rfl
theorem limL_le (most : Int) (L : List E) : (limL most L).length ≤ L.length := by unfold limL; rw [List.length_map]; exact noL_le L
theorem limL_id (most : Int) (L : List E) (h : ∀ e ∈ L, e.m ≤ most) : limL most L = noL L := by
  unfold limL
  have h2 : ∀ e ∈ noL L, limE most e = id e := fun e he => by
    have := h e ((List.mem_filter.1 he).1)
    unfold limE
    rw [if_neg (by omega)]; rfl
  rw [List.map_congr_left h2, List.map_id]
theorem limL_one (L : List E) (h : ∀ e ∈ L, 1 ≤ e.m) : limL 1 L = (noL L).map fun e => ⟨e.a, e.b, 1⟩ := by
  unfold limL
  refine List.map_congr_left fun e he => ?_
  have := h e ((List.mem_filter.1 he).1)
  unfold limE
  by_cases e1 : 1 < e.m
  · rw [if_pos e1]
  · rw [if_neg e1, show e.m = 1 by omega]

end Go.Proofs.Ytlnaahkheankoaa

namespace Go.Proofs.Ytlnaahkheankoaa
open Go.RowKit Go.Shelf Go.Proofs.Gr
attribute [local go_sem] Oper.semAt_some

/-- The first of a list's edges are single. -/
def oneL : Nat → List E → List E
  | 0, L => L
  | _ + 1, [] => []
  | i + 1, e :: r => ⟨e.a, e.b, 1⟩ :: oneL i r
theorem oneL_len (i : Nat) (L : List E) : (oneL i L).length = L.length := by
  induction L generalizing i with
  | nil => cases i <;> rfl
  | cons e r ih => cases i with
    | zero => rfl
    | succ i => rw [oneL, List.length_cons, ih, List.length_cons]
theorem oneL_all (L : List E) : oneL L.length L = L.map fun e => ⟨e.a, e.b, 1⟩ := by
  induction L with
  | nil => rfl
  | cons e r ih => rw [List.length_cons, oneL, ih, List.map_cons]
theorem oneL_set (L : List E) (i : Nat) (h : i < L.length) : (flat encE (oneL i L)).set (i * 3 + 2) (.int .i64 1) = flat encE (oneL (i + 1) L) := by
  induction L generalizing i with
  | nil => simp at h
  | cons e r ih =>
    cases i with
    | zero => rfl
    | succ i =>
      have h2 := ih i (by simpa using h)
      rw [oneL, flat_cons]
      show _ = flat encE (⟨e.a, e.b, 1⟩ :: oneL (i + 1) r)
      rw [flat_cons, ← h2, List.set_append_right _ _ (by rw [encE_len3, Nat.succ_mul]; omega), encE_len3]
      congr 2
      rw [Nat.succ_mul]; omega
theorem of_own_len {α : Type} {k : Nat} {enc : α → List Value} (hk : ∀ x, (enc x).length = k) {w : World} {base : Nat} {e : TypeId} {v : Value} {n : Nat} {L : List α} (h : w.ownsRow base e k v n (flat enc L)) (hn : n = L.length) : ∃ a cap, v = .slice a n cap ∧ RowAt k enc w a L := by
  subst hn
  exact RowAt.of_own hk h
theorem own_pos {w : World} {base : Nat} {e : TypeId} {size : Nat} {v : Value} {n : Nat} {xs : List Value} (h : w.ownsRow base e size v n xs) (hn : 0 < n) : ∃ g c, v = .slice (some ⟨g, 0, none⟩) n c := by
  rcases h.2 with ⟨_, h0⟩ | ⟨g, c, cur, hv, _⟩
  · omega
  · exact ⟨g, c, hv⟩

end Go.Proofs.Ytlnaahkheankoaa

namespace Go.Proofs.Ytlnaahkheankoaa
open Go.RowKit Go.Shelf Go.Proofs.Gr

/-- Hands back a truth value. -/
def GivesB (w : World) (b : Bool) (e : Ending) (w' : World) : Prop := e = .returned (.bool b) ∧ Below w.heap.size w w'
def lightG (n : Int) (L : List E) : Bool := decide (L.length ≤ 40) && (decide (chkG n L ≠ 0) || decide (sizeG L ≤ 400))
def rightG (n : Int) (L : List E) : Bool := lightG n L && decide (chkG n L = 0)
end Go.Proofs.Ytlnaahkheankoaa

namespace Go.Proofs.Ytlnaahkheankoaa
open Go.RowKit Go.Shelf Go.Proofs.Gr

/-- A row of numbers. -/
def enR (n : Nat) (f : Nat → Int) : Array Value := ((List.range n).map fun k : Nat => Value.int .i64 (f k)).toArray
theorem enR_at (n : Nat) (f : Nat → Int) (k : Nat) (h : k < n) : (enR n f)[k]? = some (.int .i64 (f k)) := by
  unfold enR
  rw [List.getElem?_toArray, List.getElem?_map, List.getElem?_range h]; rfl
theorem enR_set (n : Nat) (f g : Nat → Int) (m : Nat) (z : Int) (h : ∀ v, g v = if v = m then z else f v) : (enR n f).setIfInBounds m (.int .i64 z) = enR n g := by
  unfold enR
  rw [List.setIfInBounds_toArray]
  congr 1
  refine List.ext_getElem (by simp) fun j h1 h2 => ?_
  rw [List.getElem_set]
  simp only [List.getElem_map, List.getElem_range]
  by_cases e : m = j
  · subst e; simp [h]
  · rw [if_neg e, h, if_neg (fun e' => e e'.symm)]
theorem enR_zero (n : Nat) : enR n (fun _ => 0) = Array.replicate n (.int .i64 0) := by
  unfold enR
  refine Array.ext (by simp) fun j h1 h2 => by simp
def rowV (n : Nat) (g : Nat) : Value := .slice (some ⟨g, 0, none⟩) n n
/-- A table of rows of n numbers: its rows' blocks are G. -/
structure Tab (w : World) (base : Nat) (v : Value) (n : Nat) (G : List Nat) (t : Nat → Nat → Int) : Prop where
  own : w.ownsRow base 28 1 v G.length (G.map (rowV n))
  row : ∀ j (h : j < G.length), Blk w G[j] 3 (enR n (t j)) ∧ base ≤ G[j]
  srt : G.Pairwise (· < ·)

theorem Tab.push {wr w3 : World} {base : Nat} {v v1 : Value} {n : Nat} {G : List Nat} {t : Nat → Nat → Int} (h : Tab wr base v n G t) (hb : base ≤ wr.heap.size) (f : Nat → Int) (hf : t G.length = f) (o : Obj)
    (hg : ((wr.alloc (.cells (enR n f) 3)).alloc o).grownBy w3 v.ownBlock) (hown : w3.ownsRow base 28 1 v1 (G.length + 1) (G.map (rowV n) ++ [rowV n wr.heap.size])) : Tab w3 base v1 n (G ++ [wr.heap.size]) t := by
  have hk : ∀ g cs, Blk (wr.alloc (.cells (enR n f) 3)) g 3 cs → Blk w3 g 3 cs := fun g cs hB =>
    (hB.alloc o).grown hg (own_blk_ne ((h.own.alloc _).alloc o) (hB.alloc o) (by decide))
  refine ⟨by rw [List.length_append, List.map_append]; exact hown, fun j hj => ?_, ?_⟩
  · by_cases e : j < G.length
    · rw [List.getElem_append_left e]
      exact ⟨hk _ _ ((h.row j e).1.alloc _), (h.row j e).2⟩
    · have e2 : j = G.length := by rw [List.length_append, List.length_singleton] at hj; omega
      subst e2
      rw [List.getElem_append_right (Nat.le_refl _)]
      simp only [Nat.sub_self, List.getElem_cons_zero]
      rw [hf]
      exact ⟨hk _ _ (Blk.new _ _ _), hb⟩
  · rw [List.pairwise_append]
    refine ⟨h.srt, List.pairwise_singleton _ _, fun x hx y hy => ?_⟩
    obtain rfl : y = wr.heap.size := by simpa using hy
    obtain ⟨j, hj, rfl⟩ := List.mem_iff_getElem.1 hx
    exact (h.row j hj).1.lt
theorem infoR : (Try.prog.info? 28).map (fun i => (i.zero, i.size, i.bytes)) = some (some (.slice none 0 0), 1, 24) := by kernel_rfl
set_option maxRecDepth 100000 in
theorem make_row (n : Nat) (hn : n ≤ 100) (w : World) : (Instr.makeSlice 28 (.int .i64 (n : Int)) (.int .i64 (n : Int))).run Try.prog w = .ok (.slice (some ⟨w.heap.size, 0, none⟩) n n) (w.alloc (.cells (enR n fun _ => 0) 3)) := by
  obtain ⟨i0, hi0, hz0, hz1, hz2⟩ := info_parts infoI
  have h := run_make (P := Try.prog) w 28 3 i0 (.int .i64 0) Try.underlying28 hi0 hz0 .i64 .i64 n n (by omega) (by omega) (by rw [hz2]; omega) (by omega)
  rw [h]
  simp only [Int.toNat_natCast, hz1, Nat.mul_one]
  rw [enR_zero]
  congr 2
  refine congrArg (fun c => Obj.cells c 3) (Array.toList_inj.1 ?_)
  rw [show (Value.int .i64 0).cells = #[.int .i64 0] from rfl, toList_madeCells_one]; simp
end Go.Proofs.Ytlnaahkheankoaa

namespace Go.Proofs.Ytlnaahkheankoaa
open Go.RowKit Go.Shelf Go.Proofs.Gr
attribute [local go_sem] Oper.semAt_some

theorem rowJ_low (t : Nat → Nat → Int) (a b : Nat) (h : b ≤ a) : rowJ t a b = [] := by
  induction b with
  | zero => rfl
  | succ b ih => rw [rowJ, ih (by omega), if_neg (by omega)]; rfl
theorem rowJ_len (t : Nat → Nat → Int) (a b : Nat) : (rowJ t a b).length ≤ b := by
  induction b with
  | zero => simp [rowJ]
  | succ b ih => rw [rowJ, List.length_append]; split <;> simp <;> omega
theorem joinT_len (t : Nat → Nat → Int) (n k : Nat) : (joinT t n k).length ≤ k * n := by
  induction k with
  | zero => simp [joinT]
  | succ k ih => rw [joinT, List.length_append, Nat.succ_mul]; have := rowJ_len t k n; omega
theorem Tab.keep {w w' : World} {base : Nat} {v : Value} {n : Nat} {G : List Nat} {t : Nat → Nat → Int} (h : Tab w base v n G t) (hb : Below w.heap.size w w') : Tab w' base v n G t :=
  ⟨own_keep h.own hb, fun j hj => ⟨(h.row j hj).1.below hb (h.row j hj).1.lt, (h.row j hj).2⟩, h.srt⟩
theorem Tab.at {w : World} {base : Nat} {v : Value} {n : Nat} {G : List Nat} {t : Nat → Nat → Int} (h : Tab w base v n G t) (hG : G.length = n) (a b : Nat) (ha : a < n) (hb : b < n) :
    ∃ gb c g, v = .slice (some ⟨gb, 0, none⟩) n c ∧ gb < w.heap.size ∧ g < w.heap.size ∧ w.cell? ⟨gb, a, none⟩ = some (.slice (some ⟨g, 0, none⟩) n n) ∧ w.cell? ⟨g, b, none⟩ = some (.int .i64 (t a b)) := by
  obtain ⟨gb, c, hv⟩ := own_pos h.own (by omega)
  have ho := h.own
  subst hv
  have h1 := (ho.lt gb rfl).2
  have h2 := h.row a (by omega)
  refine ⟨gb, c, G[a]'(by omega), by rw [hG], h1, h2.1.lt, ?_, (h2.1.cell b).trans (enR_at n _ b hb)⟩
  rw [ho.cellAt a (by omega), List.getElem?_map, List.getElem?_eq_getElem (by omega)]; rfl

end Go.Proofs.Ytlnaahkheankoaa

namespace Go.Proofs.Ytlnaahkheankoaa
open Go.RowKit Go.Shelf Go.Proofs.Gr
attribute [local go_sem] Oper.semAt_some

theorem enR_eq (n : Nat) (f g : Nat → Int) (h : ∀ k, k < n → g k = f k) : enR n f = enR n g := by
  unfold enR
  refine congrArg List.toArray (List.map_congr_left fun k hk => ?_)
  rw [h k (List.mem_range.1 hk)]
theorem Tab.congr {w : World} {base : Nat} {v : Value} {n : Nat} {G : List Nat} {t s : Nat → Nat → Int} (h : Tab w base v n G t) (hG : G.length = n) (ht : ∀ x y, x < n → y < n → s x y = t x y) : Tab w base v n G s :=
  ⟨h.own, fun j hj => ⟨by rw [← enR_eq n (t j) (s j) (fun k hk => ht j k (by omega) hk)]; exact (h.row j hj).1, (h.row j hj).2⟩, h.srt⟩
/-- A store into a table's row. -/
theorem Tab.set {w : World} {base : Nat} {v : Value} {n : Nat} {G : List Nat} {t : Nat → Nat → Int} (h : Tab w base v n G t) (a b : Nat) (ha : a < G.length) (z : Int) :
    Tab (w.setCell ⟨G[a], b, none⟩ (.int .i64 z)) base v n G (fun x y => if x = a ∧ y = b then z else t x y) := by
  refine ⟨ownsRow_setCell_other h.own (a := ⟨G[a], b, none⟩) (fun e => own_blk_ne h.own (h.row a ha).1 (by decide) e.symm) _, fun j hj => ⟨?_, (h.row j hj).2⟩, h.srt⟩
  by_cases e : j = a
  · subst e
    have h1 := (h.row j ha).1.set_ b (.int .i64 z)
    rw [enR_set n (t j) (fun y => if j = j ∧ y = b then z else t j y) b z (fun y => by simp)] at h1
    exact h1
  · have hne : G[j] ≠ G[a] := fun e2 => by
      rcases Nat.lt_or_ge j a with h3 | h3
      · exact Nat.lt_irrefl _ (e2 ▸ (List.pairwise_iff_getElem.1 h.srt) j a hj ha h3)
      · exact Nat.lt_irrefl _ (e2 ▸ (List.pairwise_iff_getElem.1 h.srt) a j ha hj (by omega))
    have h1 := (h.row j hj).1.far (p := ⟨G[a], b, none⟩) hne (.int .i64 z)
    rw [enR_eq n (t j) (fun y => if j = a ∧ y = b then z else t j y) (fun k _ => by rw [if_neg (fun h => e h.1)])] at h1
    exact h1
/-- What a table's place is, and that it may be written. -/
theorem Tab.at2 {w : World} {base : Nat} {v : Value} {n : Nat} {G : List Nat} {t : Nat → Nat → Int} (h : Tab w base v n G t) (hG : G.length = n) (a b : Nat) (ha : a < n) (hb : b < n) :
    ∃ gb c, ∃ g, v = .slice (some ⟨gb, 0, none⟩) n c ∧ gb < w.heap.size ∧ g < w.heap.size ∧ base ≤ g ∧ w.cell? ⟨gb, a, none⟩ = some (.slice (some ⟨g, 0, none⟩) n n) ∧ w.cell? ⟨g, b, none⟩ = some (.int .i64 (t a b)) ∧ w.frozen? ⟨g, b, none⟩ = false ∧
      ∀ z, Tab (w.setCell ⟨g, b, none⟩ (.int .i64 z)) base v n G (fun x y => if x = a ∧ y = b then z else t x y) := by
  obtain ⟨gb, c, hv⟩ := own_pos h.own (by omega)
  have ho := h.own
  have hset := fun z => h.set a b (by omega) z
  subst hv
  have h1 := (ho.lt gb rfl).2
  have h2 := h.row a (by omega)
  refine ⟨gb, c, G[a]'(by omega), by rw [hG], h1, h2.1.lt, h2.2, ?_, (h2.1.cell b).trans (enR_at n _ b hb), h2.1.frozen b, hset⟩
  rw [ho.cellAt a (by omega), List.getElem?_map, List.getElem?_eq_getElem (by omega)]; rfl

/-- A table filled as far as a place. -/
def partT (t : Nat → Nat → Int) (i k : Nat) : Nat → Nat → Int := fun x y => if (x < i ∨ (x = i ∧ y < k)) ∧ x ≤ y then t x y else 0
theorem partT_zero (t : Nat → Nat → Int) (x y : Nat) : partT t 0 0 x y = 0 := by unfold partT; rw [if_neg (by omega)]
theorem partT_set (t : Nat → Nat → Int) (i k : Nat) (h : i ≤ k) (x y : Nat) : partT t i (k + 1) x y = if x = i ∧ y = k then t i k else partT t i k x y := by
  unfold partT
  by_cases e : x = i ∧ y = k
  · obtain ⟨rfl, rfl⟩ := e
    rw [if_pos ⟨Or.inr ⟨rfl, by omega⟩, h⟩, if_pos ⟨rfl, rfl⟩]
  · rw [if_neg e]
    by_cases h1 : (x < i ∨ (x = i ∧ y < k)) ∧ x ≤ y
    · rw [if_pos h1, if_pos (by omega)]
    · rw [if_neg h1, if_neg (by omega)]
theorem partT_next (t : Nat → Nat → Int) (n i x y : Nat) (hy : y < n) : partT t (i + 1) (i + 1) x y = partT t i n x y := by
  unfold partT
  by_cases h1 : (x < i ∨ (x = i ∧ y < n)) ∧ x ≤ y
  · rw [if_pos h1, if_pos (by omega)]
  · rw [if_neg h1, if_neg (by omega)]
theorem rowJ_congr (s t : Nat → Nat → Int) (a n : Nat) (h : ∀ b, a ≤ b → b < n → s a b = t a b) : rowJ s a n = rowJ t a n := by
  induction n with
  | zero => rfl
  | succ n ih =>
    rw [rowJ, rowJ, ih (fun b h1 h2 => h b h1 (by omega))]
    congr 1
    by_cases e : a ≤ n
    · rw [h n e (by omega)]
    · rw [if_neg (fun h => e h.1), if_neg (fun h => e h.1)]
theorem joinT_congr (s t : Nat → Nat → Int) (n k : Nat) (h : ∀ a b, a < k → a ≤ b → b < n → s a b = t a b) : joinT s n k = joinT t n k := by
  induction k with
  | zero => rfl
  | succ k ih => rw [joinT, joinT, ih (fun a b h1 => h a b (by omega)), rowJ_congr s t k n (fun b h1 h2 => h k b (by omega) h1 h2)]
/-- The graph on a set. -/
def indG (L : List E) (S : List Int) : List E := joinT (fun x y => betw (iAt S x) (iAt S y) L) S.length S.length
theorem indG_part (L : List E) (S : List Int) : joinT (partT (fun x y => betw (iAt S x) (iAt S y) L) S.length S.length) S.length S.length = indG L S :=
  joinT_congr _ _ _ _ fun a b h1 h2 _ => by unfold partT; rw [if_pos ⟨Or.inl h1, h2⟩]

end Go.Proofs.Ytlnaahkheankoaa

namespace Go.Proofs.Ytlnaahkheankoaa
open Go.RowKit Go.Shelf Go.Proofs.Gr

theorem RowAt.take {α : Type} {k : Nat} {enc : α → List Value} {w : World} {a : Option Addr} {L : List α} (h : RowAt k enc w a L) (i : Nat) : RowAt k enc w a (L.take i) := by
  intro j hj
  have hj2 : j < L.length := by rw [List.length_take] at hj; omega
  obtain ⟨b, off, h1, h2, h3⟩ := h j hj2
  exact ⟨b, off, h1, h2, fun i hi => by rw [h3 i hi, List.getElem_take]⟩
/-- The error of a new number. -/
def nErr (n : Int) (S : List Int) (i : Nat) : Nat := if iAt S i < 0 ∨ n ≤ iAt S i then 2 else if (S.take i).contains (iAt S i) = true then 7 else 0
def renE (n : Int) (S : List Int) : Nat := if (S.length : Int) ≠ n then 8 else firstE (nErr n S) S.length
set_option maxHeartbeats 12800000 in
set_option maxRecDepth 100000 in
theorem rrenaming_any (n : Int) (b : Option Addr) (c : Nat) (S : List Int) (hS : S.length ≤ 100000) (hc : S.length ≤ c) (w : World) (hv : IsAt w b S) :
    Calls Try.prog 46 #[.int .i64 n, .slice b S.length c] w (GivesN w (renE n S : Nat)) := by
  have HH := Lib.hid (fun v w i h => holds_any b c (S.take i) (by rw [List.length_take]; omega) v w h)
  have HVs := Lib.hid hv
  unfold GivesN
  by_cases hn : (S.length : Int) = n
  · subst hn
    have HR : Hid (renE S.length S = firstE (nErr S.length S) S.length) := Lib.hid (by unfold renE; rw [if_neg (fun h => h rfl)])
    generalize renE S.length S = R at *
    clear hv
    go_enter Try.func46, Try.ntmps46
    go_wp2
    go_loopw [5] (fun v wr => ∃ i : Nat, i ≤ S.length ∧ v = .int .i64 i ∧ (∀ j, j < i → nErr S.length S j = 0) ∧ Below w.heap.size w wr) (fun v _ => S.length - (intOf v).toNat)
    case atStart => exact ⟨0, by omega, rfl, fun j hj => by omega, Below.refl _ _⟩
    case round =>
      obtain ⟨i, hi, rfl, hz, hb⟩ := hrel
      have HBr := Lib.hid hb
      have HZ := Lib.hid hz
      by_cases hlt : i < S.length
      · have HVr := Lib.hid ((HVs.out.keep hb).take i)
        obtain ⟨b1, o1, hbb, q1, x1⟩ := (HVs.out.keep hb).one i hlt
        subst hbb
        have i1 : (i : Int) < ((S.length : Nat) : Int) := by omega
        have i0 : (0 : Int) ≤ (i : Int) := by omega
        have HEr : Hid (nErr S.length S i = if iAt S i < 0 ∨ (S.length : Int) ≤ iAt S i then 2 else if (S.take i).contains (iAt S i) = true then 7 else 0) := Lib.hid rfl
        have HFI : Hid (nErr S.length S i ≠ 0 → R = nErr S.length S i) := Lib.hid (fun hne => by rw [HR.out]; exact firstE_at HZ.out hne hlt)
        have HNX : Hid (nErr S.length S i = 0 → ∀ j, j < i + 1 → nErr S.length S j = 0) := Lib.hid (fun h0 j hj => by
          by_cases e : j = i
          · subst e; exact h0
          · exact HZ.out j (by omega))
        have HHi : Hid (∀ v w, IsAt w (some ⟨b1, o1, none⟩) (S.take i) → Calls Try.prog 80 #[.slice (some ⟨b1, o1, none⟩) i c, .int .i64 v] w (fun e w' => e = .returned (.bool ((S.take i).contains v)) ∧ w = w')) := Lib.hid fun v w h => by
          have h9 := HH.out v w i h
          rwa [List.length_take, Nat.min_eq_left hi] at h9
        generalize nErr S.length S i = er at *
        generalize iAt S i = z at *
        generalize hr : (S.take i).contains z = r at *
        have hHz : Hid (∀ w, IsAt w (some ⟨b1, o1, none⟩) (S.take i) → Calls Try.prog 80 #[.slice (some ⟨b1, o1, none⟩) i c, .int .i64 z] w (fun e w' => e = .returned (.bool r) ∧ w = w')) := Lib.hid fun w h => by
          have h9 := HHi.out z w h
          rwa [hr] at h9
        clear hb hz hr
        by_cases hz0 : z < 0
        · have HEr' : er = 2 := by rw [HEr.out, if_pos (Or.inl hz0)]
          have p0 : decide (z < 0) = true := decide_eq_true hz0
          go_wp2
          go_ret
          exact ⟨by rw [HFI.out (by rw [HEr']; omega), HEr']; rfl, HBr.out⟩
        · by_cases hz1 : (S.length : Int) ≤ z
          · have HEr' : er = 2 := by rw [HEr.out, if_pos (Or.inr hz1)]
            have p0 : decide (z < 0) = false := decide_eq_false hz0
            have p1 : decide ((S.length : Int) ≤ z) = true := decide_eq_true hz1
            go_wp2
            go_ret
            exact ⟨by rw [HFI.out (by rw [HEr']; omega), HEr']; rfl, HBr.out⟩
          · have HEr2 : Hid (er = if r = true then 7 else 0) := Lib.hid (by rw [HEr.out, if_neg (fun h => h.elim hz0 hz1)])
            have p0 : decide (z < 0) = false := decide_eq_false hz0
            have p1 : decide ((S.length : Int) ≤ z) = false := decide_eq_false hz1
            have ic : i ≤ c := by omega
            have ic2 : (i : Int) ≤ (c : Int) := by omega
            have HS : Hid (∀ x, Below wr.heap.size wr x → (Below wr.heap.size wr x ∧ x.cell? ⟨b1, o1 + i, none⟩ = some (.int .i64 z))) := fun x hx => ⟨hx, (hx.cell (p := ⟨b1, o1 + i, none⟩) q1).trans x1⟩
            cases r
            · have HEr' : er = 0 := by rw [HEr2.out]; rfl
              go_wp2
              have hk2 : Below wr.heap.size wr wr.drew := (Below.refl _ _).drew
              obtain ⟨_, f0⟩ := HS.out _ hk2
              go_region_held3 (fun x => Below wr.heap.size wr x ∧ x.cell? ⟨b1, o1 + i, none⟩ = some (.int .i64 z))
                (first | exact HS.out _ (by assumption) | exact HS.out _ (Below.drew (by assumption)))
                (first | (go_at_call 80; refine (hHz.out _ (HVr.out.keep hk2)).mono ?_; rintro e wz ⟨rfl, rfl⟩))
              have HB2 := Lib.hid (HBr.out.trans (hk2.mono HBr.out.size))
              clear hk2 f0
              go_wp2
              go_roundw
              case rel => exact ⟨i + 1, by omega, by go_num, HNX.out HEr', HB2.out⟩
              case measure => simp [intOf]; omega
            · have HEr' : er = 7 := by rw [HEr2.out]; rfl
              go_wp2
              have hk2 : Below wr.heap.size wr wr.drew := (Below.refl _ _).drew
              obtain ⟨_, f0⟩ := HS.out _ hk2
              go_region_held3 (fun x => Below wr.heap.size wr x ∧ x.cell? ⟨b1, o1 + i, none⟩ = some (.int .i64 z))
                (first | exact HS.out _ (by assumption) | exact HS.out _ (Below.drew (by assumption)))
                (first | (go_at_call 80; refine (hHz.out _ (HVr.out.keep hk2)).mono ?_; rintro e wz ⟨rfl, rfl⟩))
              have HB2 := Lib.hid (HBr.out.trans (hk2.mono HBr.out.size))
              clear hk2 f0
              go_wp2
              go_ret
              exact ⟨by rw [HFI.out (by rw [HEr']; omega), HEr']; rfl, HB2.out⟩
      · obtain rfl : i = S.length := by omega
        have HRZ : Hid (R = 0) := Lib.hid (by rw [HR.out]; exact firstE_zero HZ.out)
        clear hb hz
        go_wp2
        go_ret
        exact ⟨by rw [HRZ.out]; rfl, HBr.out⟩
  · have HRE : Hid (renE n S = 8) := Lib.hid (by unfold renE; rw [if_pos hn])
    have p0 : (((S.length : Nat) : Int) != n) = true := bne_iff_ne.2 hn
    clear hv hn
    go_enter Try.func46, Try.ntmps46
    go_wp2
    go_ret
    exact ⟨by rw [HRE.out]; rfl, Below.refl _ _⟩
end Go.Proofs.Ytlnaahkheankoaa

namespace Go.Proofs.Ytlnaahkheankoaa
open Go.RowKit Go.Proofs.Gr

/-- A block of cells, as a list. -/
theorem RowAt.of_blk {α : Type} {k : Nat} {enc : α → List Value} (hk : ∀ x, (enc x).length = k) {w : World} {g : Nat} {t : TypeId} {cs : Array Value} {L : List α} (h : Blk w g t cs) (hc : cs.toList = flat enc L) : RowAt k enc w (some ⟨g, 0, none⟩) L := by
  intro j hj
  refine ⟨g, 0, rfl, h.lt, fun i hi => ?_⟩
  rw [Nat.zero_add, h.cell, ← Array.getElem?_toList, hc, flat_at hk L j i hj hi]
/-- A block that holds a list. -/
def RowB {α : Type} (enc : α → List Value) (t : TypeId) (w : World) (g : Nat) (L : List α) : Prop := Blk w g t (flat enc L).toArray
theorem RowB.row {α : Type} {enc : α → List Value} {k : Nat} (hk : ∀ x, (enc x).length = k) {t : TypeId} {w : World} {g : Nat} {L : List α} (h : RowB enc t w g L) : RowAt k enc w (some ⟨g, 0, none⟩) L :=
  RowAt.of_blk hk h rfl
theorem RowB.cell {t : TypeId} {w : World} {g : Nat} {L : List Int} (h : RowB encI t w g L) (i : Nat) (hi : i < L.length) : w.cell? ⟨g, i, none⟩ = some (.int .i64 (iAt L i)) := by
  rw [Blk.cell h i, List.getElem?_toArray]
  have := flat_at (k := 1) (enc := encI) encI_len L i 0 hi (by decide)
  rw [Nat.mul_one, Nat.add_zero] at this
  rw [this, iAt_get L i hi]; rfl
theorem flatI_map (L : List Int) : flat encI L = L.map fun z => Value.int .i64 z := by
  induction L with
  | nil => rfl
  | cons z L ih => rw [flat_cons, ih]; rfl
theorem RowB.set {t : TypeId} {w : World} {g : Nat} {L : List Int} (h : RowB encI t w g L) (i : Nat) (v : Int) : RowB encI t (w.setCell ⟨g, i, none⟩ (.int .i64 v)) g (L.set i v) := by
  have := Blk.set_ h i (.int .i64 v)
  unfold RowB
  rw [flatI_map] at this ⊢
  rw [List.map_set]
  simpa using this
theorem RowB.cellP {t : TypeId} {w : World} {g : Nat} {L : List (Int × Int)} (h : RowB encP t w g L) (i : Nat) (hi : i < L.length) : w.cell? ⟨g, i * 2, none⟩ = some (.int .i64 (pAt L i).1) ∧ w.cell? ⟨g, i * 2 + 1, none⟩ = some (.int .i64 (pAt L i).2) := by
  have a0 := flat_at (k := 2) (enc := encP) encP_len L i 0 hi (by decide)
  have a1 := flat_at (k := 2) (enc := encP) encP_len L i 1 hi (by decide)
  rw [Nat.add_zero] at a0
  rw [Blk.cell h, List.getElem?_toArray, a0, Blk.cell h, List.getElem?_toArray, a1, pAt_get L i hi]
  exact ⟨rfl, rfl⟩
theorem flat_setP (Q : List (Int × Int)) (i : Nat) (h : i < Q.length) (a b : Int) : ((flat encP Q).set (i * 2) (.int .i64 a)).set (i * 2 + 1) (.int .i64 b) = flat encP (Q.set i (a, b)) := by
  induction Q generalizing i with
  | nil => simp at h
  | cons t Q ih =>
    obtain ⟨x, y⟩ := t
    cases i with
    | zero => rfl
    | succ i =>
      rw [List.set_cons_succ, flat_cons, flat_cons, ← ih i (by simpa using h), Nat.succ_mul]
      rfl
theorem RowB.setP {t : TypeId} {w : World} {g : Nat} {L : List (Int × Int)} (h : RowB encP t w g L) (i : Nat) (hi : i < L.length) (x y : Int) : RowB encP t ((w.setCell ⟨g, i * 2, none⟩ (.int .i64 x)).setCell ⟨g, i * 2 + 1, none⟩ (.int .i64 y)) g (L.set i (x, y)) := by
  have := Blk.set_ (Blk.set_ h (i * 2) (.int .i64 x)) (i * 2 + 1) (.int .i64 y)
  unfold RowB
  rw [← flat_setP L i hi]
  simpa using this
theorem RowB.new {α : Type} (enc : α → List Value) (w : World) (t : TypeId) (L : List α) : RowB enc t (w.alloc (.cells (flat enc L).toArray t)) w.heap.size L := Blk.new _ _ _
theorem flat_rep {α : Type} (enc : α → List Value) (z : α) (v : Value) (k : Nat) (h : enc z = List.replicate k v) (n : Nat) : flat enc (List.replicate n z) = List.replicate (n * k) v := by
  induction n with
  | zero => simp [flat]
  | succ n ih => rw [List.replicate_succ, flat_cons, ih, h, List.replicate_append_replicate]; congr 1; rw [Nat.succ_mul, Nat.add_comm]
set_option maxRecDepth 100000 in
theorem make_ints (n : Nat) (hn : n ≤ 10000000) (w : World) : (Instr.makeSlice 28 (.int .i64 (n : Int)) (.int .i64 (n : Int))).run Try.prog w = .ok (.slice (some ⟨w.heap.size, 0, none⟩) n n) (w.alloc (.cells (flat encI (List.replicate n 0)).toArray 3)) := by
  obtain ⟨i0, hi0, hz0, hz1, hz2⟩ := info_parts infoI
  have h := run_make (P := Try.prog) w 28 3 i0 (.int .i64 0) Try.underlying28 hi0 hz0 .i64 .i64 n n (by omega) (by omega) (by rw [hz2]; omega) (by omega)
  rw [h]
  simp only [Int.toNat_natCast, hz1, Nat.mul_one]
  rw [flat_rep encI 0 (.int .i64 0) 1 rfl]
  congr 2
  refine congrArg (fun c => Obj.cells c 3) (Array.toList_inj.1 ?_)
  rw [show (Value.int .i64 0).cells = #[.int .i64 0] from rfl, toList_madeCells_one]; simp
set_option maxRecDepth 100000 in
theorem make_divs (n : Nat) (hn : n ≤ 10000000) (w : World) : (Instr.makeSlice 34 (.int .i64 (n : Int)) (.int .i64 (n : Int))).run Try.prog w = .ok (.slice (some ⟨w.heap.size, 0, none⟩) n n) (w.alloc (.cells (flat encI (List.replicate n 0)).toArray 3)) := by
  obtain ⟨i0, hi0, hz0, hz1, hz2⟩ := info_parts infoI
  have h := run_make (P := Try.prog) w 34 3 i0 (.int .i64 0) Try.underlying34 hi0 hz0 .i64 .i64 n n (by omega) (by omega) (by rw [hz2]; omega) (by omega)
  rw [h]
  simp only [Int.toNat_natCast, hz1, Nat.mul_one]
  rw [flat_rep encI 0 (.int .i64 0) 1 rfl]
  congr 2
  refine congrArg (fun c => Obj.cells c 3) (Array.toList_inj.1 ?_)
  rw [show (Value.int .i64 0).cells = #[.int .i64 0] from rfl, toList_madeCells_one]; simp
theorem made_pairs (n : Nat) : (madeCells #[Value.int .i64 0, Value.int .i64 0] n).toList = List.replicate n (.int .i64 0) := by
  apply List.ext_getElem?
  intro j
  by_cases hj : j < n
  · have : j % 2 = 0 ∨ j % 2 = 1 := by omega
    rcases this with h | h <;> simp [madeCells, hj, h]
  · simp [madeCells, hj]
set_option maxRecDepth 100000 in
theorem make_pairs (n : Nat) (hn : n ≤ 10000000) (w : World) : (Instr.makeSlice 83 (.int .i64 (n : Int)) (.int .i64 (n : Int))).run Try.prog w = .ok (.slice (some ⟨w.heap.size, 0, none⟩) n n) (w.alloc (.cells (flat encP (List.replicate n (0, 0))).toArray 85)) := by
  obtain ⟨i0, hi0, hz0, hz1, hz2⟩ := info_parts infoP
  have h := run_make (P := Try.prog) w 83 85 i0 (.agg #[.int .i64 0, .int .i64 0]) Try.underlying83 hi0 hz0 .i64 .i64 n n (by omega) (by omega) (by rw [hz2]; omega) (by omega)
  rw [h]
  simp only [Int.toNat_natCast, hz1]
  rw [flat_rep encP (0, 0) (.int .i64 0) 2 rfl]
  congr 2
  refine congrArg (fun c => Obj.cells c 85) (Array.toList_inj.1 ?_)
  rw [show (Value.agg #[.int .i64 0, .int .i64 0]).cells = #[.int .i64 0, .int .i64 0] from rfl, made_pairs]
theorem grown_set (w : World) (b i : Nat) (v : Value) : w.grownBy (w.setCell ⟨b, i, none⟩ v) (some b) :=
  ⟨rfl, rfl, rfl, by simp [World.setCell], fun k _ hne => Below.heap_setCell w ⟨b, i, none⟩ v k (fun e => hne (by rw [e]))⟩
theorem RowAt.cells {α : Type} {k : Nat} (hk0 : 0 < k) {enc : α → List Value} (hk : ∀ x, (enc x).length = k) {w : World} {b o : Nat} {L : List α} (h : RowAt k enc w (some ⟨b, o, none⟩) L) (j : Nat) (v : Value) (hj : (flat enc L)[j]? = some v) : w.cell? ((⟨b, o, none⟩ : Addr).add j) = some v := by
  have hl : j < L.length * k := by
    have := (List.getElem?_eq_some_iff.1 hj).1
    rwa [flat_len hk] at this
  have h1 : j / k < L.length := Nat.div_lt_of_lt_mul (by rwa [Nat.mul_comm] at hl)
  have h2 : j % k < k := Nat.mod_lt _ hk0
  have h3 : j / k * k + j % k = j := by rw [Nat.mul_comm]; exact Nat.div_add_mod j k
  obtain ⟨b', o', e, _, hc⟩ := h (j / k) h1
  injection e with e
  injection e with e1 e2
  subst e1 e2
  have h4 := flat_at hk L (j / k) (j % k) h1 h2
  rw [h3, hj] at h4
  have h5 := hc (j % k) h2
  rw [← h4, Nat.add_assoc, h3] at h5
  have e3 : Addr.add ⟨b, o, none⟩ j = ⟨b, o + j, none⟩ := by unfold Addr.add; split <;> simp_all
  rw [e3]; exact h5
theorem infoB : (Try.prog.info? 4).map (fun i => (i.zero, i.size, i.bytes)) = some (some (.bool false), 1, 1) := by kernel_rfl
theorem encB_len (z : Bool) : (encB z).length = 1 := rfl
abbrev BsAt := RowAt 1 encB
theorem RowAt.bit {w : World} {a : Option Addr} {O : List Bool} (h : BsAt w a O) (j : Nat) (hj : j < O.length) : ∃ b off, a = some ⟨b, off, none⟩ ∧ b < w.heap.size ∧ w.cell? ⟨b, off + j, none⟩ = some (.bool (bAt O j)) := by
  obtain ⟨b, off, h1, h2, h3⟩ := h j hj
  rw [bAt_get O j hj] at h3
  exact ⟨b, off, h1, h2, by have := h3 0 (by omega); simpa [encB] using this⟩
theorem flatB_map (L : List Bool) : flat encB L = L.map fun z => Value.bool z := by
  induction L with
  | nil => rfl
  | cons z L ih => rw [flat_cons, ih]; rfl
theorem flatB_len (l : List Bool) : (flat encB l).length = l.length := by rw [flat_len (k := 1) encB_len]; omega
theorem flatB_snoc (l : List Bool) (z : Bool) : flat encB (l ++ [z]) = flat encB l ++ [.bool z] := by rw [flat_append, flat_one]; rfl
theorem RowB.bcell {t : TypeId} {w : World} {g : Nat} {L : List Bool} (h : RowB encB t w g L) (i : Nat) (hi : i < L.length) : w.cell? ⟨g, i, none⟩ = some (.bool (bAt L i)) := by
  rw [Blk.cell h i, List.getElem?_toArray]
  have := flat_at (k := 1) (enc := encB) encB_len L i 0 hi (by decide)
  rw [Nat.mul_one, Nat.add_zero] at this
  rw [this, bAt_get L i hi]; rfl
theorem RowB.bset {t : TypeId} {w : World} {g : Nat} {L : List Bool} (h : RowB encB t w g L) (i : Nat) (v : Bool) : RowB encB t (w.setCell ⟨g, i, none⟩ (.bool v)) g (L.set i v) := by
  have := Blk.set_ h i (.bool v)
  unfold RowB
  rw [flatB_map] at this ⊢
  rw [List.map_set]
  simpa using this
set_option maxRecDepth 100000 in
theorem make_bits (n : Nat) (hn : n ≤ 10000000) (w : World) : (Instr.makeSlice 25 (.int .i64 (n : Int)) (.int .i64 (n : Int))).run Try.prog w = .ok (.slice (some ⟨w.heap.size, 0, none⟩) n n) (w.alloc (.cells (flat encB (List.replicate n false)).toArray 4)) := by
  obtain ⟨i0, hi0, hz0, hz1, hz2⟩ := info_parts infoB
  have h := run_make (P := Try.prog) w 25 4 i0 (.bool false) Try.underlying25 hi0 hz0 .i64 .i64 n n (by omega) (by omega) (by rw [hz2]; omega) (by omega)
  rw [h]
  simp only [Int.toNat_natCast, hz1, Nat.mul_one]
  rw [flat_rep encB false (.bool false) 1 rfl]
  congr 2
  refine congrArg (fun c => Obj.cells c 4) (Array.toList_inj.1 ?_)
  rw [show (Value.bool false).cells = #[.bool false] from rfl, toList_madeCells_one]; simp
/-- What is kept of a block of one's own. -/
theorem RowB.keep {α : Type} {enc : α → List Value} {t : TypeId} {w w' : World} {g : Nat} {L : List α} (h : RowB enc t w g L) (hb : Below w.heap.size w w') : RowB enc t w' g L := Blk.below h hb h.lt
theorem RowB.far {α : Type} {enc : α → List Value} {t : TypeId} {w : World} {g : Nat} {L : List α} (h : RowB enc t w g L) {p : Addr} (hp : g ≠ p.block) (u : Value) : RowB enc t (w.setCell p u) g L := Blk.far h hp u
theorem iAt_set (l : List Int) (i j : Nat) (v : Int) (h : i < l.length) : iAt (l.set i v) j = if i = j then v else iAt l j := by
  unfold iAt
  rw [List.getD_eq_getElem?_getD, List.getD_eq_getElem?_getD, List.getElem?_set]
  by_cases e : i = j
  · rw [if_pos e, if_pos e, if_pos h]; rfl
  · rw [if_neg e, if_neg e]
end Go.Proofs.Ytlnaahkheankoaa

namespace Go.Proofs.Ytlnaahkheankoaa
open Go.RowKit Go.Shelf Go.Proofs.Gr
attribute [local go_sem] Oper.semAt_some

set_option maxHeartbeats 12800000 in
set_option maxRecDepth 100000 in
theorem packed_a (B : Nat) (w : World) (h : Blk w B 4 #[.bool true, .bool false, .bool true]) :
    Calls Try.prog 83 #[.slice (some ⟨B, 0, none⟩) 3 3] w (fun e x => e = .returned (.int .u64 5) ∧ w = x) := by
  have x0 : w.cell? ⟨B, 0, none⟩ = some (.bool true) := h.cell 0
  have x1 : w.cell? ⟨B, 1, none⟩ = some (.bool false) := h.cell 1
  have x2 : w.cell? ⟨B, 2, none⟩ = some (.bool true) := h.cell 2
  clear h
  go_enter Try.func83, Try.ntmps83
  go_wp2
  refine wp_loop_rounds 4 ?_
  rw [rounds_succ]; go_wp2
  rw [rounds_succ]; go_wp2
  rw [rounds_succ]; go_wp2
  rw [rounds_succ]; go_wp2
  go_ret
  exact ⟨rfl, rfl⟩
set_option maxHeartbeats 12800000 in
set_option maxRecDepth 100000 in
theorem packed_b (B : Nat) (w : World) (h : Blk w B 4 #[.bool false, .bool true, .bool false]) :
    Calls Try.prog 83 #[.slice (some ⟨B, 0, none⟩) 3 3] w (fun e x => e = .returned (.int .u64 2) ∧ w = x) := by
  have x0 : w.cell? ⟨B, 0, none⟩ = some (.bool false) := h.cell 0
  have x1 : w.cell? ⟨B, 1, none⟩ = some (.bool true) := h.cell 1
  have x2 : w.cell? ⟨B, 2, none⟩ = some (.bool false) := h.cell 2
  clear h
  go_enter Try.func83, Try.ntmps83
  go_wp2
  refine wp_loop_rounds 4 ?_
  rw [rounds_succ]; go_wp2
  rw [rounds_succ]; go_wp2
  rw [rounds_succ]; go_wp2
  rw [rounds_succ]; go_wp2
  go_ret
  exact ⟨rfl, rfl⟩
end Go.Proofs.Ytlnaahkheankoaa

namespace Go.Proofs.Ytlnaahkheankoaa
open Go.RowKit Go.Shelf Go.Proofs.Gr
attribute [local go_sem] Oper.semAt_some

/-- Hands back a list of its own, of pairs, of ints. -/
def GivesPB (w : World) (A : List (Int × Int)) (e : Ending) (x : World) : Prop := ∃ g, w.heap.size ≤ g ∧ e = .returned (.slice (some ⟨g, 0, none⟩) A.length A.length) ∧ RowB encP 85 x g A ∧ Below w.heap.size w x
def GivesIB (w : World) (A : List Int) (e : Ending) (x : World) : Prop := ∃ g, w.heap.size ≤ g ∧ e = .returned (.slice (some ⟨g, 0, none⟩) A.length A.length) ∧ RowB encI 3 x g A ∧ Below w.heap.size w x
set_option maxHeartbeats 12800000 in
set_option maxRecDepth 100000 in
theorem pled_any (p : Option Addr) (cp : Nat) (P : List (Int × Int)) (hP : P.length ≤ 5000000) (b : Option Addr) (c : Nat) (O : List Bool) (hl : P.length = O.length) (w : World) (hp : PsAt w p P) (ho : BsAt w b O) :
    Calls Try.prog 70 #[.slice p P.length cp, .slice b O.length c] w (GivesPB w (arcs P O)) := by
  have HPA := Lib.hid hp
  have HOB := Lib.hid ho
  have HOL := Lib.hid hl
  have HL0 : Hid (ledL P O 0 = List.replicate P.length (0, 0)) := Lib.hid rfl
  have HLS : Hid (∀ k, ledL P O (k + 1) = (ledL P O k).set k (arcP P O k)) := Lib.hid fun _ => rfl
  have HAP : Hid (∀ k, arcP P O k = if bAt O k = true then pAt P k else ((pAt P k).2, (pAt P k).1)) := Lib.hid fun _ => rfl
  have HLL := Lib.hid (ledL_len P O)
  have HLA := Lib.hid (ledL_all P O)
  have HAL := Lib.hid (arcs_len P O)
  unfold GivesPB
  generalize ledL P O = LD at *
  generalize arcs P O = A at *
  generalize arcP P O = AP at *
  clear hp ho hl
  have hmk : (Instr.makeSlice 83 (.int .i64 (P.length : Int)) (.int .i64 (P.length : Int))).run Try.prog w = .ok (.slice (some ⟨w.heap.size, 0, none⟩) P.length P.length) (w.alloc (.cells (flat encP (List.replicate P.length (0, 0))).toArray 85)) := make_pairs P.length (by omega) _
  obtain ⟨W, hW⟩ : ∃ v, v = w.alloc (.cells (flat encP (List.replicate P.length (0, 0))).toArray 85) := ⟨_, rfl⟩
  obtain ⟨g, hg⟩ : ∃ v, v = w.heap.size := ⟨_, rfl⟩
  have hrbg : RowB encP 85 W g (LD 0) := by rw [hW, hg, HL0.out]; exact RowB.new _ _ _ _
  have hblg : Below w.heap.size w W := by rw [hW]; exact (Below.refl _ _).alloc (Nat.le_refl _) _
  rw [← hW, ← hg] at hmk
  have HRBg := Lib.hid hrbg
  have HBLg := Lib.hid hblg
  have HGEg := Lib.hid hg
  clear hrbg hblg hW hg
  have HGB : Hid (w.heap.size ≤ g) := Lib.hid (by rw [HGEg.out]; exact Nat.le_refl _)
  go_enter Try.func70, Try.ntmps70
  go_wp2
  clear hmk
  go_loopw [13] (fun x wr => ∃ i : Nat, i ≤ P.length ∧ x = .int .i64 i ∧ RowB encP 85 wr g (LD i) ∧ Below w.heap.size w wr) (fun x _ => P.length - (intOf x).toNat)
  case atStart => exact ⟨0, by omega, rfl, HRBg.out, HBLg.out⟩
  case round =>
    obtain ⟨i, hi, rfl, hrb, hb⟩ := hrel
    by_cases hlt : i < P.length
    · have i1 : (i : Int) < (P.length : Int) := by omega
      have i2 : (0 : Int) ≤ (i : Int) := by omega
      have i4 : i < O.length := by rw [← HOL.out]; exact hlt
      have i3 : (i : Int) < (O.length : Int) := by omega
      obtain ⟨b1, o1, hb1, q1, x1, x2⟩ := (HPA.out.keep hb).two i hlt
      obtain ⟨b2, o2, hb2, q2, y1⟩ := (HOB.out.keep hb).bit i i4
      subst hb1 hb2
      obtain ⟨Q, hQ⟩ : ∃ Q, Q = LD i := ⟨_, rfl⟩
      have HQL : Hid (i < Q.length) := Lib.hid (by rw [hQ, HLL.out]; exact hlt)
      obtain ⟨pa, hpa⟩ : ∃ t, t = (pAt P i).1 := ⟨_, rfl⟩
      obtain ⟨pb, hpb⟩ : ∃ t, t = (pAt P i).2 := ⟨_, rfl⟩
      have hpv : pAt P i = (pa, pb) := by rw [hpa, hpb]
      rw [← hpa] at x1
      rw [← hpb] at x2
      obtain ⟨bv, hbv⟩ : ∃ t, bAt O i = t := ⟨_, rfl⟩
      rw [hbv] at y1
      rw [← hQ] at hrb
      have HQ := Lib.hid hQ.symm
      have hrv : RowB encP 85 (wr.alloc (Obj.cells #[.int .i64 pa, .int .i64 pb] 85)) g Q := hrb.keep ((Below.refl _ _).alloc (Nat.le_refl _) _)
      have HRV := Lib.hid hrv
      have HBV := Lib.hid (hb.alloc hb.size (Obj.cells #[.int .i64 pa, .int .i64 pb] 85))
      have y2 : (wr.alloc (Obj.cells #[.int .i64 pa, .int .i64 pb] 85)).cell? ⟨b2, o2 + i, none⟩ = some (.bool bv) := (((Below.refl wr.heap.size wr).alloc (Nat.le_refl _) (Obj.cells #[.int .i64 pa, .int .i64 pb] 85)).cell (p := ⟨b2, o2 + i, none⟩) q2).trans y1
      obtain ⟨z1, z2⟩ := hrv.cellP i HQL.out
      have z3 : (wr.alloc (Obj.cells #[.int .i64 pa, .int .i64 pb] 85)).frozen? ⟨g, i * 2, none⟩ = false := Blk.frozen hrv _
      have z4 : (wr.alloc (Obj.cells #[.int .i64 pa, .int .i64 pb] 85)).frozen? ⟨g, i * 2 + 1, none⟩ = false := Blk.frozen hrv _
      clear hrv hrb hb hpa hpb hQ
      cases bv
      · have HNX : Hid (LD (i + 1) = Q.set i (pb, pa)) := Lib.hid (by rw [HLS.out, HQ.out, HAP.out i]; rw [hbv, hpv]; rfl)
        have HRN : Hid (RowB encP 85 (((wr.alloc (Obj.cells #[.int .i64 pa, .int .i64 pb] 85)).setCell ⟨g, i * 2, none⟩ (.int .i64 pb)).setCell ⟨g, i * 2 + 1, none⟩ (.int .i64 pa)) g (LD (i + 1))) := Lib.hid (by rw [HNX.out]; exact HRV.out.setP i HQL.out pb pa)
        have HBN : Hid (Below w.heap.size w (((wr.alloc (Obj.cells #[.int .i64 pa, .int .i64 pb] 85)).setCell ⟨g, i * 2, none⟩ (.int .i64 pb)).setCell ⟨g, i * 2 + 1, none⟩ (.int .i64 pa))) := Lib.hid ((HBV.out.setCell (p := ⟨g, i * 2, none⟩) HGB.out _).setCell (p := ⟨g, i * 2 + 1, none⟩) HGB.out _)
        clear hbv hpv
        go_wp2
        go_roundw
        case rel => exact ⟨i + 1, by omega, by go_num, HRN.out, HBN.out⟩
        case measure => simp [intOf]; omega
      · have HNX : Hid (LD (i + 1) = Q.set i (pa, pb)) := Lib.hid (by rw [HLS.out, HQ.out, HAP.out i]; rw [hbv, hpv]; rfl)
        have HRN : Hid (RowB encP 85 (((wr.alloc (Obj.cells #[.int .i64 pa, .int .i64 pb] 85)).setCell ⟨g, i * 2, none⟩ (.int .i64 pa)).setCell ⟨g, i * 2 + 1, none⟩ (.int .i64 pb)) g (LD (i + 1))) := Lib.hid (by rw [HNX.out]; exact HRV.out.setP i HQL.out pa pb)
        have HBN : Hid (Below w.heap.size w (((wr.alloc (Obj.cells #[.int .i64 pa, .int .i64 pb] 85)).setCell ⟨g, i * 2, none⟩ (.int .i64 pa)).setCell ⟨g, i * 2 + 1, none⟩ (.int .i64 pb))) := Lib.hid ((HBV.out.setCell (p := ⟨g, i * 2, none⟩) HGB.out _).setCell (p := ⟨g, i * 2 + 1, none⟩) HGB.out _)
        clear hbv hpv
        go_wp2
        go_roundw
        case rel => exact ⟨i + 1, by omega, by go_num, HRN.out, HBN.out⟩
        case measure => simp [intOf]; omega
    · obtain rfl : i = P.length := by omega
      have i1 : ¬ (P.length : Int) < (P.length : Int) := by omega
      have HEND := Lib.hid hb
      have HRE := Lib.hid hrb
      clear hrb hb
      go_wp2
      go_ret
      exact ⟨g, HGB.out, by rw [HAL.out]; rfl, by rw [← HLA.out]; exact HRE.out, HEND.out⟩
set_option maxHeartbeats 12800000 in
set_option maxRecDepth 100000 in
theorem pindeg_any (N : Nat) (hN : N ≤ 1000) (p : Option Addr) (cp : Nat) (A : List (Int × Int)) (hA : A.length ≤ 5000000) (hr : ∀ j, j < A.length → 0 ≤ (pAt A j).2 ∧ (pAt A j).2 < N) (w : World) (hp : PsAt w p A) :
    Calls Try.prog 58 #[.int .i64 N, .slice p A.length cp] w (GivesIB w (inL A N A.length)) := by
  have HPA := Lib.hid hp
  have HR := Lib.hid hr
  have HL0 := Lib.hid (inL_zero A N)
  have HLS := Lib.hid (fun k v h1 h2 => inL_succ A N k v h1 h2)
  have HLL := Lib.hid (inL_len A N)
  have HLB : Hid (∀ k v : Nat, v < N → 0 ≤ iAt (inL A N k) v ∧ iAt (inL A N k) v ≤ k) := Lib.hid (fun k v hv => by
    rw [inL_at A N k v hv]
    have := hdN_le A (v : Int) k
    omega)
  unfold GivesIB
  generalize inL A N = LD at *
  clear hp hr
  have hmk : (Instr.makeSlice 28 (.int .i64 (N : Int)) (.int .i64 (N : Int))).run Try.prog w = .ok (.slice (some ⟨w.heap.size, 0, none⟩) N N) (w.alloc (.cells (flat encI (List.replicate N 0)).toArray 3)) := make_ints N (by omega) _
  obtain ⟨W, hW⟩ : ∃ v, v = w.alloc (.cells (flat encI (List.replicate N 0)).toArray 3) := ⟨_, rfl⟩
  obtain ⟨g, hg⟩ : ∃ v, v = w.heap.size := ⟨_, rfl⟩
  have hrbg : RowB encI 3 W g (LD 0) := by rw [hW, hg, HL0.out]; exact RowB.new _ _ _ _
  have hblg : Below w.heap.size w W := by rw [hW]; exact (Below.refl _ _).alloc (Nat.le_refl _) _
  rw [← hW, ← hg] at hmk
  have HRBg := Lib.hid hrbg
  have HBLg := Lib.hid hblg
  have HGEg := Lib.hid hg
  clear hrbg hblg hW hg
  have HGB : Hid (w.heap.size ≤ g) := Lib.hid (by rw [HGEg.out]; exact Nat.le_refl _)
  go_enter Try.func58, Try.ntmps58
  go_wp2
  clear hmk
  go_loopw [12] (fun x wr => ∃ i : Nat, i ≤ A.length ∧ x = .int .i64 i ∧ RowB encI 3 wr g (LD i) ∧ Below w.heap.size w wr) (fun x _ => A.length - (intOf x).toNat)
  case atStart => exact ⟨0, by omega, rfl, HRBg.out, HBLg.out⟩
  case round =>
    obtain ⟨i, hi, rfl, hrb, hb⟩ := hrel
    by_cases hlt : i < A.length
    · have i1 : (i : Int) < (A.length : Int) := by omega
      have i2 : (0 : Int) ≤ (i : Int) := by omega
      obtain ⟨b1, o1, hb1, q1, x1, x2⟩ := (HPA.out.keep hb).two i hlt
      subst hb1
      obtain ⟨hr1, hr2⟩ := HR.out i hlt
      obtain ⟨t, ht⟩ : ∃ t : Nat, (pAt A i).2 = t := ⟨(pAt A i).2.toNat, by omega⟩
      have HNX := Lib.hid (HLS.out i t (by omega) ht)
      have hbd := HLB.out i t (by omega)
      obtain ⟨Q, hQ⟩ : ∃ Q, Q = LD i := ⟨_, rfl⟩
      have HQL : Hid (t < Q.length) := Lib.hid (by rw [hQ, HLL.out]; omega)
      rw [ht] at x2 hr2
      obtain ⟨pa, hpa⟩ : ∃ t, t = (pAt A i).1 := ⟨_, rfl⟩
      rw [← hpa] at x1
      rw [← hQ] at hrb HNX hbd
      obtain ⟨z, hz⟩ : ∃ z, z = iAt Q t := ⟨_, rfl⟩
      rw [← hz] at HNX hbd
      have t1 : (t : Int) < (N : Int) := by omega
      have t2 : (0 : Int) ≤ (t : Int) := by omega
      have hrv : RowB encI 3 (wr.alloc (Obj.cells #[.int .i64 pa, .int .i64 t] 85)) g Q := hrb.keep ((Below.refl _ _).alloc (Nat.le_refl _) _)
      have z1 : (wr.alloc (Obj.cells #[.int .i64 pa, .int .i64 t] 85)).cell? ⟨g, t, none⟩ = some (.int .i64 z) := by rw [hz]; exact hrv.cell t HQL.out
      have z2 : (wr.alloc (Obj.cells #[.int .i64 pa, .int .i64 t] 85)).frozen? ⟨g, t, none⟩ = false := Blk.frozen hrv t
      have HRN : Hid (RowB encI 3 ((wr.alloc (Obj.cells #[.int .i64 pa, .int .i64 t] 85)).setCell ⟨g, t, none⟩ (.int .i64 (z + 1))) g (LD (i + 1))) := Lib.hid (by rw [HNX.out]; exact hrv.set t _)
      have HBN : Hid (Below w.heap.size w ((wr.alloc (Obj.cells #[.int .i64 pa, .int .i64 t] 85)).setCell ⟨g, t, none⟩ (.int .i64 (z + 1)))) := Lib.hid ((hb.alloc hb.size _).setCell (p := ⟨g, t, none⟩) HGB.out _)
      clear hrv hrb hb hpa hQ hz ht hr1 hr2
      go_wp2
      go_roundw
      case rel => exact ⟨i + 1, by omega, by go_num, HRN.out, HBN.out⟩
      case measure => simp [intOf]; omega
    · obtain rfl : i = A.length := by omega
      have i1 : ¬ (A.length : Int) < (A.length : Int) := by omega
      have HEND := Lib.hid hb
      have HRE := Lib.hid hrb
      have HLN := Lib.hid (HLL.out A.length)
      clear hrb hb
      go_wp2
      go_ret
      exact ⟨g, HGB.out, by rw [HLN.out]; rfl, HRE.out, HEND.out⟩
end Go.Proofs.Ytlnaahkheankoaa

namespace Go.Proofs.Ytlnaahkheankoaa
open Go.RowKit Go.Shelf Go.Proofs.Gr
attribute [local go_sem] Oper.semAt_some

theorem ends_rng {n : Int} {L : List E} (h : Right n L) (j : Nat) (hj : j < (endsG L).length) : (0 ≤ (pAt (endsG L) j).1 ∧ (pAt (endsG L) j).1 < n) ∧ (0 ≤ (pAt (endsG L) j).2 ∧ (pAt (endsG L) j).2 < n) := by
  have h1 : pAt (endsG L) j ∈ endsG L := by rw [← pAt_get _ j hj]; exact List.getElem_mem hj
  have h2 : ∀ q ∈ endsG L, (0 ≤ q.1 ∧ q.1 < n) ∧ (0 ≤ q.2 ∧ q.2 < n) := by
    intro q hq
    unfold endsG at hq
    obtain ⟨e, he, hr⟩ := List.mem_flatMap.1 hq
    have h3 := h.rng e he
    obtain ⟨-, rfl⟩ := List.mem_replicate.1 hr
    simp only
    omega
  exact h2 _ h1
theorem arcs_rng {n : Int} {L : List E} (h : Right n L) (O : List Bool) (j : Nat) (hj : j < (arcs (endsG L) O).length) : (0 ≤ (pAt (arcs (endsG L) O) j).1 ∧ (pAt (arcs (endsG L) O) j).1 < n) ∧ (0 ≤ (pAt (arcs (endsG L) O) j).2 ∧ (pAt (arcs (endsG L) O) j).2 < n) := by
  rw [arcs_len] at hj
  rw [arcs_at _ _ _ hj]
  have := ends_rng h j hj
  unfold arcP
  split
  · exact this
  · exact ⟨this.2, this.1⟩
/-- The indegrees, the divisor, the sources of an orientation, and what comes with an error. -/
def inO (n : Int) (L : List E) (O : List Bool) : List Int := inL (arcs (endsG L) O) n.toNat (arcs (endsG L) O).length
def okL {α : Type} (k : Nat) (l : List α) : List α := if k = 0 then l else []
theorem okL_pos {α : Type} {k : Nat} (l : List α) (h : k = 0) : okL k l = l := by unfold okL; rw [if_pos h]
theorem okL_neg {α : Type} {k : Nat} (l : List α) (h : k ≠ 0) : okL k l = [] := by unfold okL; rw [if_neg h]
theorem inO_len (n : Int) (L : List E) (O : List Bool) : (inO n L O).length = n.toNat := inL_len _ _ _
set_option maxHeartbeats 12800000 in
set_option maxRecDepth 100000 in
theorem pcheckO_any (n : Int) (a : Option Addr) (cap : Nat) (L : List E) (hL : L.length ≤ 100000) (b : Option Addr) (c : Nat) (O : List Bool) (hO : O.length ≤ 100000000) (w : World) (h : EsAt w a L) (ho : BsAt w b O) :
    Calls Try.prog 20 #[gv n a L.length cap, .slice b O.length c] w (GivesN w (chkO n L O : Nat)) := by
  have HOL := Lib.hid hO
  have HS := Lib.hid (fun w h => pSize_any n a cap L hL w h)
  have HC : Hid (chkO n L O = if chkG n L ≠ 0 then chkG n L else if (O.length : Int) = sizeG L then 0 else 8) := Lib.hid rfl
  unfold GivesN
  unfold GivesNE gv at *
  generalize chkO n L O = R at *
  generalize chkG n L = k at *
  generalize sizeG L = S at *
  obtain ⟨W, hW⟩ : ∃ W, W = w.alloc (Obj.cells #[.int .i64 n, .slice a L.length cap] 24) := ⟨_, rfl⟩
  have hB0 : Below w.heap.size w W := by rw [hW]; exact (Below.refl _ w).alloc (Nat.le_refl _) _
  have hG : Blk W w.heap.size 24 #[.int .i64 n, .slice a L.length cap] := by rw [hW]; exact Blk.new _ _ _
  have hWs : W.heap.size = w.heap.size + 1 := by rw [hW]; simp
  have HW := Lib.hid hW
  have HWS := Lib.hid hWs
  have HB0 := Lib.hid hB0
  have HE := Lib.hid (h.keep hB0)
  have HF : Hid (∀ u, Below W.heap.size W u → u.cell? ⟨w.heap.size, 0, none⟩ = some (.int .i64 n) ∧ u.cell? ⟨w.heap.size, 1, none⟩ = some (.slice a L.length cap)) := Lib.hid fun u hu => ⟨(hG.below hu hG.lt).cell 0, (hG.below hu hG.lt).cell 1⟩
  obtain ⟨g0, g1⟩ := HF.out W (Below.refl _ _)
  have HO := Lib.hid (ho.keep hB0)
  clear ho hB0 hG hW hWs h
  go_enter Try.func20, Try.ntmps20
  go_wp2_with fail
  rw [← HW.out]
  refine (HS.out _ HE.out).mono ?_
  rintro e w1 ⟨rfl, hb⟩
  have HEND := Lib.hid (HB0.out.trans (hb.mono HB0.out.size))
  clear hb g0 g1
  by_cases hk : k ≠ 0
  · have d1 : (((k : Nat) : Int) == 0) = false := by rw [beq_eq_false_iff_ne]; omega
    have HR : Hid (R = k) := Lib.hid (by rw [HC.out, if_pos hk])
    go_wp2
    go_ret
    exact ⟨by rw [HR.out]; rfl, HEND.out⟩
  · obtain rfl : k = 0 := by omega
    rw [if_pos rfl]
    by_cases hs : (O.length : Int) = S
    · have d2 : ((O.length : Int) != S) = false := by rw [bne_eq_false_iff_eq]; exact hs
      have HR : Hid (R = 0) := Lib.hid (by rw [HC.out, if_neg (by omega), if_pos hs])
      clear hs hk
      go_wp2
      go_ret
      exact ⟨by rw [HR.out]; rfl, HEND.out⟩
    · have d2 : ((O.length : Int) != S) = true := by rw [bne_iff_ne]; exact hs
      have HR : Hid (R = 8) := Lib.hid (by rw [HC.out, if_neg (by omega), if_neg hs])
      clear hs hk
      go_wp2
      go_ret
      exact ⟨by rw [HR.out]; rfl, HEND.out⟩
set_option maxHeartbeats 12800000 in
set_option maxRecDepth 100000 in
theorem parcsOf_any (n : Int) (a : Option Addr) (cap : Nat) (L : List E) (hL : L.length ≤ 100000) (b : Option Addr) (c : Nat) (O : List Bool) (hO : O.length ≤ 100000000) (w : World) (h : EsAt w a L) (ho : BsAt w b O) :
    Calls Try.prog 57 #[gv n a L.length cap, .slice b O.length c] w (GivesPE w (okL (chkO n L O) (arcs (endsG L) O)) (chkO n L O)) := by
  have HC := Lib.hid (fun w h ho => pcheckO_any n a cap L hL b c O hO w h ho)
  have HEN := Lib.hid (fun w h => pends_any n a cap L hL w h)
  have HLD : Hid (chkO n L O = 0 → ∀ p cp w, PsAt w p (endsG L) → BsAt w b O → Calls Try.prog 70 #[.slice p (endsG L).length cp, .slice b O.length c] w (GivesPB w (arcs (endsG L) O))) := Lib.hid fun hz p cp w hp ho => by
    have := ends_all (right_of (chkO_zero hz).1)
    exact pled_any p cp (endsG L) (by omega) b c O (chkO_len hz) w hp ho
  have HG0 : Hid (chkO n L O = 0 → chkG n L = 0) := Lib.hid fun hz => (chkO_zero hz).1
  have HAL := Lib.hid (arcs_len (endsG L) O)
  have HX1 := Lib.hid (fun h => okL_pos (k := chkO n L O) (arcs (endsG L) O) h)
  have HX2 := Lib.hid (fun h => okL_neg (k := chkO n L O) (arcs (endsG L) O) h)
  unfold GivesPE at *
  unfold GivesN GivesPB gv at *
  generalize okL (chkO n L O) (arcs (endsG L) O) = X at *
  generalize chkO n L O = k at *
  generalize chkG n L = kg at *
  generalize arcs (endsG L) O = A at *
  generalize endsG L = P at *
  obtain ⟨W, hW⟩ : ∃ W, W = w.alloc (Obj.cells #[.int .i64 n, .slice a L.length cap] 24) := ⟨_, rfl⟩
  have hB0 : Below w.heap.size w W := by rw [hW]; exact (Below.refl _ w).alloc (Nat.le_refl _) _
  have hG : Blk W w.heap.size 24 #[.int .i64 n, .slice a L.length cap] := by rw [hW]; exact Blk.new _ _ _
  have hWs : W.heap.size = w.heap.size + 1 := by rw [hW]; simp
  have HW := Lib.hid hW
  have HWS := Lib.hid hWs
  have HB0 := Lib.hid hB0
  have HE := Lib.hid (h.keep hB0)
  have HF : Hid (∀ u, Below W.heap.size W u → u.cell? ⟨w.heap.size, 0, none⟩ = some (.int .i64 n) ∧ u.cell? ⟨w.heap.size, 1, none⟩ = some (.slice a L.length cap)) := Lib.hid fun u hu => ⟨(hG.below hu hG.lt).cell 0, (hG.below hu hG.lt).cell 1⟩
  obtain ⟨g0, g1⟩ := HF.out W (Below.refl _ _)
  have HO := Lib.hid (ho.keep hB0)
  clear ho hB0 hG hW hWs h
  go_enter Try.func57, Try.ntmps57
  go_wp2_with fail
  rw [← HW.out]
  refine (HC.out _ HE.out HO.out).mono ?_
  rintro e w1 ⟨rfl, hb⟩
  by_cases hk : k = 0
  · have HLD1 := Lib.hid (HLD.out hk)
    rw [HG0.out hk] at HEN
    rw [if_pos rfl] at HEN
    have HXA := Lib.hid (HX1.out hk)
    subst hk
    clear g0 g1
    obtain ⟨g0, g1⟩ := HF.out w1 hb
    go_wp2_with fail
    refine (HEN.out _ (HE.out.keep hb)).mono ?_
    rintro e w2 ⟨p, cp, rfl, hp, hb2⟩
    have hk2 : Below W.heap.size W w2 := hb.trans (hb2.mono hb.size)
    have ho2 := HO.out.keep hk2
    have HBE := Lib.hid (HB0.out.trans (hk2.mono HB0.out.size))
    clear hb2 hk2 hb g0 g1
    go_wp2_with fail
    refine (HLD1.out p cp _ hp ho2).mono ?_
    rintro e w3 ⟨g, -, rfl, hr, hb3⟩
    have HEND := Lib.hid (HBE.out.trans (hb3.mono HBE.out.size))
    have HPR : Hid (PsAt w3 (some ⟨g, 0, none⟩) A) := Lib.hid (hr.row encP_len)
    clear hr hb3 hp ho2
    go_wp2
    go_ret2
    exact ⟨_, _, by rw [HXA.out]; rfl, by rw [HXA.out]; exact HPR.out, HEND.out⟩
  · have q0 : (((k : Nat) : Int) != 0) = true := by rw [bne_iff_ne]; omega
    have HEND := Lib.hid (HB0.out.trans (hb.mono HB0.out.size))
    have HXA := Lib.hid (HX2.out hk)
    clear hb g0 g1 hk
    go_wp2
    go_ret2
    exact ⟨none, 0, by rw [HXA.out]; rfl, by rw [HXA.out]; exact RowAt.nil _ _ _ _, HEND.out⟩
/-- Hands back ints of its own, or an error. -/
def GivesIBE (w : World) (D : List Int) (k : Nat) (e : Ending) (x : World) : Prop := (k = 0 ∧ ∃ g, w.heap.size ≤ g ∧ e = .returned (.tuple #[.slice (some ⟨g, 0, none⟩) D.length D.length, .int .i64 0]) ∧ RowB encI 3 x g D ∧ Below w.heap.size w x) ∨ (k ≠ 0 ∧ e = .returned (.tuple #[.slice none 0 0, .int .i64 (k : Nat)]) ∧ Below w.heap.size w x)
theorem GivesIBE.weak {w : World} {D : List Int} {k : Nat} {e : Ending} {x : World} (h : GivesIBE w D k e x) : GivesIE w (okL k D) k e x := by
  rcases h with ⟨rfl, g, -, rfl, hr, hb⟩ | ⟨hk, rfl, hb⟩
  · exact ⟨_, _, rfl, hr.row encI_len, hb⟩
  · unfold okL; rw [if_neg hk]; exact ⟨none, 0, rfl, RowAt.nil _ _ _ _, hb⟩
set_option maxHeartbeats 12800000 in
set_option maxRecDepth 100000 in
theorem pindegrees_any (n : Int) (a : Option Addr) (cap : Nat) (L : List E) (hL : L.length ≤ 100000) (b : Option Addr) (c : Nat) (O : List Bool) (hO : O.length ≤ 100000000) (w : World) (h : EsAt w a L) (ho : BsAt w b O) :
    Calls Try.prog 14 #[gv n a L.length cap, .slice b O.length c] w (GivesIBE w (inO n L O) (chkO n L O)) := by
  have HAO := Lib.hid (fun w h ho => parcsOf_any n a cap L hL b c O hO w h ho)
  have hn1 : chkO n L O = 0 → 1 ≤ n ∧ n ≤ 12 := fun hz => chkG_n (chkO_zero hz).1
  have har : chkO n L O = 0 → ∀ j, j < (arcs (endsG L) O).length → (0 ≤ (pAt (arcs (endsG L) O) j).1 ∧ (pAt (arcs (endsG L) O) j).1 < n) ∧ (0 ≤ (pAt (arcs (endsG L) O) j).2 ∧ (pAt (arcs (endsG L) O) j).2 < n) := fun hz => arcs_rng (right_of (chkO_zero hz).1) O
  have hal : chkO n L O = 0 → (arcs (endsG L) O).length ≤ 5000000 := fun hz => by have := ends_all (right_of (chkO_zero hz).1); rw [arcs_len]; omega
  have HI : Hid (chkO n L O = 0 → ∀ p cp w, PsAt w p (arcs (endsG L) O) → Calls Try.prog 58 #[.int .i64 n, .slice p (arcs (endsG L) O).length cp] w (GivesIB w (inO n L O))) := Lib.hid fun hz p cp w hp => by
    have h1 := hn1 hz
    have h2 := pindeg_any n.toNat (by omega) p cp (arcs (endsG L) O) (hal hz) (fun j hj => ⟨(har hz j hj).2.1, by have := (har hz j hj).2.2; omega⟩) w hp
    rw [show ((n.toNat : Nat) : Int) = n by omega] at h2
    exact h2
  clear hn1 har hal
  have HX1 := Lib.hid (fun h => okL_pos (k := chkO n L O) (arcs (endsG L) O) h)
  unfold GivesPE at *
  unfold GivesIB gv at *
  generalize okL (chkO n L O) (arcs (endsG L) O) = X at *
  generalize chkO n L O = k at *
  generalize inO n L O = D at *
  generalize arcs (endsG L) O = A at *
  obtain ⟨W, hW⟩ : ∃ W, W = w.alloc (Obj.cells #[.int .i64 n, .slice a L.length cap] 24) := ⟨_, rfl⟩
  have hB0 : Below w.heap.size w W := by rw [hW]; exact (Below.refl _ w).alloc (Nat.le_refl _) _
  have hG : Blk W w.heap.size 24 #[.int .i64 n, .slice a L.length cap] := by rw [hW]; exact Blk.new _ _ _
  have hWs : W.heap.size = w.heap.size + 1 := by rw [hW]; simp
  have HW := Lib.hid hW
  have HWS := Lib.hid hWs
  have HB0 := Lib.hid hB0
  have HE := Lib.hid (h.keep hB0)
  have HF : Hid (∀ u, Below W.heap.size W u → u.cell? ⟨w.heap.size, 0, none⟩ = some (.int .i64 n) ∧ u.cell? ⟨w.heap.size, 1, none⟩ = some (.slice a L.length cap)) := Lib.hid fun u hu => ⟨(hG.below hu hG.lt).cell 0, (hG.below hu hG.lt).cell 1⟩
  obtain ⟨g0, g1⟩ := HF.out W (Below.refl _ _)
  have HO := Lib.hid (ho.keep hB0)
  clear ho hB0 hG hW hWs h
  go_enter Try.func14, Try.ntmps14
  go_wp2_with fail
  rw [← HW.out]
  refine (HAO.out _ HE.out HO.out).mono ?_
  rintro e w1 ⟨p, cp, rfl, hp, hb⟩
  by_cases hk : k = 0
  · have HI1 := Lib.hid (HI.out hk)
    have hX := HX1.out hk
    subst hk hX
    clear g0 g1
    obtain ⟨g0, g1⟩ := HF.out w1 hb
    have HBE := Lib.hid (HB0.out.trans (hb.mono HB0.out.size))
    clear hb
    go_wp2_with fail
    refine (HI1.out p cp _ hp).mono ?_
    rintro e w3 ⟨g, hg, rfl, hr, hb3⟩
    have HEND := Lib.hid (HBE.out.trans (hb3.mono HBE.out.size))
    have HG9 : Hid (w.heap.size ≤ g) := Lib.hid (by have := HBE.out.size; omega)
    have HPR := Lib.hid hr
    clear hr hb3 hp hg g0 g1
    go_wp2
    go_ret2
    exact .inl ⟨rfl, g, HG9.out, rfl, HPR.out, HEND.out⟩
  · have q0 : (((k : Nat) : Int) != 0) = true := by rw [bne_iff_ne]; omega
    have HEND := Lib.hid (HB0.out.trans (hb.mono HB0.out.size))
    have HKN := Lib.hid hk
    clear hb g0 g1 hp hk
    go_wp2
    go_ret2
    exact .inr ⟨HKN.out, rfl, HEND.out⟩
set_option maxHeartbeats 12800000 in
set_option maxRecDepth 100000 in
theorem pdivisor_any (n : Int) (a : Option Addr) (cap : Nat) (L : List E) (hL : L.length ≤ 100000) (b : Option Addr) (c : Nat) (O : List Bool) (hO : O.length ≤ 100000000) (w : World) (h : EsAt w a L) (ho : BsAt w b O) :
    Calls Try.prog 16 #[gv n a L.length cap, .slice b O.length c] w (GivesIE w (okL (chkO n L O) (lessL (inO n L O))) (chkO n L O)) := by
  have HI := Lib.hid (fun w h ho => pindegrees_any n a cap L hL b c O hO w h ho)
  have hll := inO_len n L O
  have HHN : Hid (chkO n L O = 0 → (inO n L O).length ≤ 12) := Lib.hid fun hz => by have := chkG_n (chkO_zero hz).1; omega
  have HBD : Hid (∀ j, j < (inO n L O).length → 0 ≤ iAt (inO n L O) j ∧ (chkO n L O = 0 → iAt (inO n L O) j ≤ 5000000)) := Lib.hid fun j hj => by
    unfold inO at *
    rw [inL_len] at hj
    rw [inL_at _ _ _ _ hj]
    have h1 := hdN_le (arcs (endsG L) O) (j : Int) (arcs (endsG L) O).length
    refine ⟨by omega, fun hz => ?_⟩
    have := ends_all (right_of (chkO_zero hz).1)
    rw [arcs_len] at *
    omega
  have HD0 : Hid (decA (inO n L O) 0 = inO n L O) := Lib.hid rfl
  have HDS : Hid (∀ k, decA (inO n L O) (k + 1) = (decA (inO n L O) k).set k (iAt (inO n L O) k - 1)) := Lib.hid fun _ => rfl
  have HDL := Lib.hid (fun k => decA_len (inO n L O) k)
  have HDO := Lib.hid (fun k hk => decA_on (inO n L O) k hk)
  have HDA := Lib.hid (decA_all (inO n L O))
  have HLS := Lib.hid (lessL_len (inO n L O))
  clear hll
  have HX1 := Lib.hid (fun h => okL_pos (k := chkO n L O) (lessL (inO n L O)) h)
  have HX2 := Lib.hid (fun h => okL_neg (k := chkO n L O) (lessL (inO n L O)) h)
  unfold GivesIE
  unfold GivesIBE gv at *
  generalize okL (chkO n L O) (lessL (inO n L O)) = X at *
  generalize chkO n L O = k at *
  generalize decA (inO n L O) = DA at *
  generalize lessL (inO n L O) = LS at *
  generalize inO n L O = D at *
  obtain ⟨W, hW⟩ : ∃ W, W = w.alloc (Obj.cells #[.int .i64 n, .slice a L.length cap] 24) := ⟨_, rfl⟩
  have hB0 : Below w.heap.size w W := by rw [hW]; exact (Below.refl _ w).alloc (Nat.le_refl _) _
  have hG : Blk W w.heap.size 24 #[.int .i64 n, .slice a L.length cap] := by rw [hW]; exact Blk.new _ _ _
  have hWs : W.heap.size = w.heap.size + 1 := by rw [hW]; simp
  have HW := Lib.hid hW
  have HWS := Lib.hid hWs
  have HB0 := Lib.hid hB0
  have HE := Lib.hid (h.keep hB0)
  have HF : Hid (∀ u, Below W.heap.size W u → u.cell? ⟨w.heap.size, 0, none⟩ = some (.int .i64 n) ∧ u.cell? ⟨w.heap.size, 1, none⟩ = some (.slice a L.length cap)) := Lib.hid fun u hu => ⟨(hG.below hu hG.lt).cell 0, (hG.below hu hG.lt).cell 1⟩
  obtain ⟨g0, g1⟩ := HF.out W (Below.refl _ _)
  have HO := Lib.hid (ho.keep hB0)
  clear ho hB0 hG hW hWs h
  go_enter Try.func16, Try.ntmps16
  go_wp2_with fail
  rw [← HW.out]
  refine (HI.out _ HE.out HO.out).mono ?_
  rintro e w1 (⟨hk, g, hg, rfl, hr, hb⟩ | ⟨hk, rfl, hb⟩)
  · have HDn := Lib.hid (HHN.out hk)
    have HBd := Lib.hid (fun j hj => (HBD.out j hj).2 hk)
    have HXA := Lib.hid (HX1.out hk)
    subst hk
    have HR0 := Lib.hid hr
    have HBE := Lib.hid (HB0.out.trans (hb.mono HB0.out.size))
    have HG9 : Hid (w.heap.size ≤ g) := Lib.hid (by have := HB0.out.size; omega)
    clear hr hb hg g0 g1
    go_wp2
    go_loopw [17] (fun x wr => ∃ i : Nat, i ≤ D.length ∧ x = .int .i64 i ∧ RowB encI 3 wr g (DA i) ∧ Below w.heap.size w wr) (fun x _ => D.length - (intOf x).toNat)
    case atStart => exact ⟨0, by omega, rfl, by rw [HD0.out]; exact HR0.out, HBE.out⟩
    case round =>
      obtain ⟨i, hi, rfl, hrb, hb⟩ := hrel
      by_cases hlt : i < D.length
      · have i1 : (i : Int) < (D.length : Int) := by omega
        have i2 : (0 : Int) ≤ (i : Int) := by omega
        have hd := HDn.out
        obtain ⟨z, hz⟩ : ∃ z, iAt D i = z := ⟨_, rfl⟩
        have hz0 := (HBD.out i hlt).1
        have hz1 := HBd.out i hlt
        have HNX := Lib.hid (HDS.out i)
        have HON := HDO.out i hlt
        rw [hz] at hz0 hz1 HNX HON
        have y1 : wr.cell? ⟨g, i, none⟩ = some (.int .i64 z) := by rw [← HON]; exact hrb.cell i (by rw [HDL.out]; exact hlt)
        have y2 : wr.frozen? ⟨g, i, none⟩ = false := Blk.frozen hrb i
        have HRN : Hid (RowB encI 3 (wr.setCell ⟨g, i, none⟩ (.int .i64 (z - 1))) g (DA (i + 1))) := Lib.hid (by rw [HNX.out]; exact hrb.set i _)
        have HBN : Hid (Below w.heap.size w (wr.setCell ⟨g, i, none⟩ (.int .i64 (z - 1)))) := Lib.hid (hb.setCell (p := ⟨g, i, none⟩) HG9.out _)
        clear hrb hb hz HON
        go_wp2
        go_roundw
        case rel => exact ⟨i + 1, by omega, by go_num, HRN.out, HBN.out⟩
        case measure => simp [intOf]; omega
      · obtain rfl : i = D.length := by omega
        have i1 : ¬ (D.length : Int) < (D.length : Int) := by omega
        have HEND := Lib.hid hb
        have HRE : Hid (IsAt wr (some ⟨g, 0, none⟩) LS) := Lib.hid (by rw [← HDA.out]; exact hrb.row encI_len)
        clear hrb hb
        go_wp2
        refine bodyPost_ret (v := .tuple #[.slice (some ⟨g, 0, none⟩) D.length D.length, .int .i64 0]) (by simp [results, Try.results16, go_sem]) rfl ?_
        exact ⟨some ⟨g, 0, none⟩, ⟨D.length, by rw [HXA.out, HLS.out]⟩, by rw [HXA.out]; exact HRE.out, HEND.out⟩
  · have HEND := Lib.hid (HB0.out.trans (hb.mono HB0.out.size))
    have HXA := Lib.hid (HX2.out hk)
    clear hb g0 g1 hk
    go_wp2
    go_loopw [17] (fun x wr => x = .int .i64 0 ∧ Below w.heap.size w wr) (fun x _ => 0)
    case atStart => exact ⟨rfl, HEND.out⟩
    case round =>
      obtain ⟨rfl, hb⟩ := hrel
      have HEND2 := Lib.hid hb
      clear hb
      go_wp2
      go_ret2
      first | exact ⟨none, ⟨0, by rw [HXA.out]; rfl⟩, by rw [HXA.out]; exact RowAt.nil _ _ _ _, HEND2.out⟩ | exact ⟨none, 0, by rw [HXA.out]; rfl, by rw [HXA.out]; exact RowAt.nil _ _ _ _, HEND2.out⟩
end Go.Proofs.Ytlnaahkheankoaa
