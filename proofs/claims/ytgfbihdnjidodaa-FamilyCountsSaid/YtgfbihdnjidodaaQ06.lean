/- Graphs without loops. And: Graphs without loops, with few parallel edges: the reference's. And: Graphs in which two vertices are joined at most once. And: Light graphs, right graphs. And: Tables of numbers. And: The graph of a table. And: Stores into tables; the graph on a set of vertices. And: New numbers of vertices. And: Which vertices are reached. And: The number of components, by the reference; its genus. And: The graph made from ends, by the reference. And: The components by relabelling are the parts by reaching, in numbers. And: Made lists of ints, and stores into them. -/
import Derived.Test.YtgfbihdnjidodaaQ05
import Derived.Deep.Onto
import Derived.Laws.OwnMore
import Derived.Test.YtgfbihdnjidodaaQ01
import Derived.OneCell
import Derived.BigQuiet
import Derived.Deep.QuietTactic
namespace Go.Proofs.Ytgfbihdnjidodaa
open Go.RowKit Go.Shelf Go.Proofs.Gr
attribute [local go_sem] Oper.semAt_some

/-- Hands back a graph and an error's number. -/
def GivesGE (w : World) (n : Int) (L : List E) (k : Nat) (e : Ending) (w' : World) : Prop := ∃ a c, e = .returned (.tuple #[gv n a L.length c, .int .i64 (k : Nat)]) ∧ EsAt w' a L ∧ w'.ownsRow w.heap.size 66 3 (.slice a L.length c) L.length (flat encE L) ∧ Below w.heap.size w w'
/-- Hands back a graph. -/
def GivesG (w : World) (n : Int) (L : List E) (e : Ending) (w' : World) : Prop := ∃ a c, e = .returned (gv n a L.length c) ∧ EsAt w' a L ∧ w'.ownsRow w.heap.size 66 3 (.slice a L.length c) L.length (flat encE L) ∧ Below w.heap.size w w'
theorem infoE : (Try.prog.info? 66).map (fun i => (i.zero, i.size, i.bytes)) = some (some (.agg #[.int .i64 0, .int .i64 0, .int .i64 0]), 3, 24) := by kernel_rfl
theorem encE_len3 (x : E) : (encE x).length = 3 := rfl
theorem flatE_snoc (l : List E) (z : E) : flat encE (l ++ [z]) = flat encE l ++ [.int .i64 z.a, .int .i64 z.b, .int .i64 z.m] := by rw [flat_append, flat_one]; rfl
/-- The edges that are no loops. -/
def noL (L : List E) : List E := L.filter fun e => decide (¬ e.a = e.b)
theorem noL_take (L : List E) (i : Nat) (h : i < L.length) : noL (L.take (i + 1)) = noL (L.take i) ++ (if (eAt L i).a = (eAt L i).b then [] else [eAt L i]) := by
  unfold noL
  rw [List.take_succ_eq_append_getElem h, List.filter_append, eAt_get]
  congr 1
  by_cases e : (eAt L i).a = (eAt L i).b
  · rw [if_pos e]; simp [e]
  · rw [if_neg e]; simp [e]
theorem noL_le (L : List E) : (noL L).length ≤ L.length := List.length_filter_le _ _
/-- An edge appended to the list in a graph's box. -/
theorem kept_push {V w3 : World} {KB : Nat} {n : Int} {s s' : Value} {k k' : Nat} {xs ys : List Value} {o : Obj} (hT : Blk V KB 31 #[.int .i64 n, s])
    (hrow : V.ownsRow (KB + 1) 66 3 s k xs) (hg : (V.alloc o).grownBy w3 s.ownBlock) (hown : w3.ownsRow (KB + 1) 66 3 s' k' ys) :
    Blk w3 KB 31 #[.int .i64 n, s] ∧ Blk (w3.setCell ⟨KB, 1, none⟩ s') KB 31 #[.int .i64 n, s'] ∧ (w3.setCell ⟨KB, 1, none⟩ s').ownsRow (KB + 1) 66 3 s' k' ys ∧ Below KB V (w3.setCell ⟨KB, 1, none⟩ s') := by
  have h1 : Blk w3 KB 31 #[.int .i64 n, s] := (hT.alloc o).grown hg fun e => by
    have := (hrow.lt KB e.symm).1; omega
  refine ⟨h1, h1.set_ 1 s', ownsRow_setCell_below hown (a := ⟨KB, 1, none⟩) (Nat.lt_succ_self _) s', ?_⟩
  have hlt := hT.lt
  exact (((Below.refl KB V).alloc (by omega) o).grown hg (by simp; omega) (fun j hj => by have := (hrow.lt j hj).1; omega)).setCell (p := ⟨KB, 1, none⟩) (Nat.le_refl _) s'

end Go.Proofs.Ytgfbihdnjidodaa

namespace Go.Proofs.Ytgfbihdnjidodaa
open Go.RowKit Go.Shelf Go.Proofs.Gr
attribute [local go_sem] Oper.semAt_some

/-- The edges that are no loops, with few parallel ones. -/
def limE (most : Int) (e : E) : E := ⟨e.a, e.b, if most < e.m then most else e.m⟩
def limL (most : Int) (L : List E) : List E := (noL L).map (limE most)
theorem limL_take (most : Int) (L : List E) (i : Nat) (h : i < L.length) : limL most (L.take (i + 1)) = limL most (L.take i) ++ (if (eAt L i).a = (eAt L i).b then [] else [⟨(eAt L i).a, (eAt L i).b, if most < (eAt L i).m then most else (eAt L i).m⟩]) := by
  unfold limL
  rw [noL_take L i h, List.map_append]
  congr 1
  split <;> rfl
theorem limL_le (most : Int) (L : List E) : (limL most L).length ≤ L.length := by unfold limL; rw [List.length_map]; exact noL_le L
theorem limL_id (most : Int) (L : List E) (h : ∀ e ∈ L, e.m ≤ most) : limL most L = noL L := by
  unfold limL
  have h2 : ∀ e ∈ noL L, limE most e = id e := fun e he => by
    have := h e ((List.mem_filter.1 he).1)
    unfold limE
    rw [if_neg (by omega)]; rfl
  rw [List.map_congr_left h2, List.map_id]
theorem limL_one (L : List E) (h : ∀ e ∈ L, 1 ≤ e.m) : limL 1 L = (noL L).map fun e => ⟨e.a, e.b, 1⟩ := by
  unfold limL
  refine List.map_congr_left fun e he => ?_
  have := h e ((List.mem_filter.1 he).1)
  unfold limE
  by_cases e1 : 1 < e.m
  · rw [if_pos e1]
  · rw [if_neg e1, show e.m = 1 by omega]

end Go.Proofs.Ytgfbihdnjidodaa

namespace Go.Proofs.Ytgfbihdnjidodaa
open Go.RowKit Go.Shelf Go.Proofs.Gr
attribute [local go_sem] Oper.semAt_some

/-- The first of a list's edges are single. -/
def oneL : Nat → List E → List E
  | 0, L => L
  | _ + 1, [] => []
  | i + 1, e :: r => ⟨e.a, e.b, 1⟩ :: oneL i r
theorem oneL_len (i : Nat) (L : List E) : (oneL i L).length = L.length := by
  induction L generalizing i with
  | nil => cases i <;> rfl
  | cons e r ih => cases i with
    | zero => rfl
    | succ i => rw [oneL, List.length_cons, ih, List.length_cons]
theorem oneL_all (L : List E) : oneL L.length L = L.map fun e => ⟨e.a, e.b, 1⟩ := by
  induction L with
  | nil => rfl
  | cons e r ih => rw [List.length_cons, oneL, ih, List.map_cons]
theorem oneL_set (L : List E) (i : Nat) (h : i < L.length) : (flat encE (oneL i L)).set (i * 3 + 2) (.int .i64 1) = flat encE (oneL (i + 1) L) := by
  induction L generalizing i with
  | nil => simp at h
  | cons e r ih =>
    cases i with
    | zero => rfl
    | succ i =>
      have h2 := ih i (by simpa using h)
      rw [oneL, flat_cons]
      show _ = flat encE (⟨e.a, e.b, 1⟩ :: oneL (i + 1) r)
      rw [flat_cons, ← h2, List.set_append_right _ _ (by rw [encE_len3, Nat.succ_mul]; omega), encE_len3]
      congr 2
      rw [Nat.succ_mul]; omega
theorem of_own_len {α : Type} {k : Nat} {enc : α → List Value} (hk : ∀ x, (enc x).length = k) {w : World} {base : Nat} {e : TypeId} {v : Value} {n : Nat} {L : List α} (h : w.ownsRow base e k v n (flat enc L)) (hn : n = L.length) : ∃ a cap, v = .slice a n cap ∧ RowAt k enc w a L := by
  subst hn
  exact RowAt.of_own hk h
theorem own_pos {w : World} {base : Nat} {e : TypeId} {size : Nat} {v : Value} {n : Nat} {xs : List Value} (h : w.ownsRow base e size v n xs) (hn : 0 < n) : ∃ g c, v = .slice (some ⟨g, 0, none⟩) n c := by
  rcases h.2 with ⟨_, h0⟩ | ⟨g, c, cur, hv, _⟩
  · omega
  · exact ⟨g, c, hv⟩

end Go.Proofs.Ytgfbihdnjidodaa

namespace Go.Proofs.Ytgfbihdnjidodaa
open Go.RowKit Go.Shelf Go.Proofs.Gr

/-- Hands back a truth value. -/
def GivesB (w : World) (b : Bool) (e : Ending) (w' : World) : Prop := e = .returned (.bool b) ∧ Below w.heap.size w w'
def lightG (n : Int) (L : List E) : Bool := decide (L.length ≤ 40) && (decide (chkG n L ≠ 0) || decide (sizeG L ≤ 400))
def rightG (n : Int) (L : List E) : Bool := lightG n L && decide (chkG n L = 0)
end Go.Proofs.Ytgfbihdnjidodaa

namespace Go.Proofs.Ytgfbihdnjidodaa
open Go.RowKit Go.Shelf Go.Proofs.Gr

/-- A row of numbers. -/
def enR (n : Nat) (f : Nat → Int) : Array Value := ((List.range n).map fun k : Nat => Value.int .i64 (f k)).toArray
theorem enR_at (n : Nat) (f : Nat → Int) (k : Nat) (h : k < n) : (enR n f)[k]? = some (.int .i64 (f k)) := by
  unfold enR
  rw [List.getElem?_toArray, List.getElem?_map, List.getElem?_range h]; rfl
theorem enR_set (n : Nat) (f g : Nat → Int) (m : Nat) (z : Int) (h : ∀ v, g v = if v = m then z else f v) : (enR n f).setIfInBounds m (.int .i64 z) = enR n g := by
  unfold enR
  rw [List.setIfInBounds_toArray]
  congr 1
  refine List.ext_getElem (by simp) fun j h1 h2 => ?_
  rw [List.getElem_set]
  simp only [List.getElem_map, List.getElem_range]
  by_cases e : m = j
  · subst e; simp [h]
  · rw [if_neg e, h, if_neg (fun e' => e e'.symm)]
theorem enR_zero (n : Nat) : enR n (fun _ => 0) = Array.replicate n (.int .i64 0) := by
  unfold enR
  refine Array.ext (by simp) fun j h1 h2 => by simp
def rowV (n : Nat) (g : Nat) : Value := .slice (some ⟨g, 0, none⟩) n n
/-- A table of rows of n numbers: its rows' blocks are G. -/
structure Tab (w : World) (base : Nat) (v : Value) (n : Nat) (G : List Nat) (t : Nat → Nat → Int) : Prop where
  own : w.ownsRow base 22 1 v G.length (G.map (rowV n))
  row : ∀ j (h : j < G.length), Blk w G[j] 3 (enR n (t j)) ∧ base ≤ G[j]
  srt : G.Pairwise (· < ·)

theorem Tab.push {wr w3 : World} {base : Nat} {v v1 : Value} {n : Nat} {G : List Nat} {t : Nat → Nat → Int} (h : Tab wr base v n G t) (hb : base ≤ wr.heap.size) (f : Nat → Int) (hf : t G.length = f) (o : Obj)
    (hg : ((wr.alloc (.cells (enR n f) 3)).alloc o).grownBy w3 v.ownBlock) (hown : w3.ownsRow base 22 1 v1 (G.length + 1) (G.map (rowV n) ++ [rowV n wr.heap.size])) : Tab w3 base v1 n (G ++ [wr.heap.size]) t := by
  have hk : ∀ g cs, Blk (wr.alloc (.cells (enR n f) 3)) g 3 cs → Blk w3 g 3 cs := fun g cs hB =>
    (hB.alloc o).grown hg (own_blk_ne ((h.own.alloc _).alloc o) (hB.alloc o) (by decide))
  refine ⟨by rw [List.length_append, List.map_append]; exact hown, fun j hj => ?_, ?_⟩
  · by_cases e : j < G.length
    · rw [List.getElem_append_left e]
      exact ⟨hk _ _ ((h.row j e).1.alloc _), (h.row j e).2⟩
    · have e2 : j = G.length := by rw [List.length_append, List.length_singleton] at hj; omega
      subst e2
      rw [List.getElem_append_right (Nat.le_refl _)]
      simp only [Nat.sub_self, List.getElem_cons_zero]
      rw [hf]
      exact ⟨hk _ _ (Blk.new _ _ _), hb⟩
  · rw [List.pairwise_append]
    refine ⟨h.srt, List.pairwise_singleton _ _, fun x hx y hy => ?_⟩
    obtain rfl : y = wr.heap.size := by simpa using hy
    obtain ⟨j, hj, rfl⟩ := List.mem_iff_getElem.1 hx
    exact (h.row j hj).1.lt
theorem infoR : (Try.prog.info? 22).map (fun i => (i.zero, i.size, i.bytes)) = some (some (.slice none 0 0), 1, 24) := by kernel_rfl
set_option maxRecDepth 100000 in
theorem make_row (n : Nat) (hn : n ≤ 100) (w : World) : (Instr.makeSlice 22 (.int .i64 (n : Int)) (.int .i64 (n : Int))).run Try.prog w = .ok (.slice (some ⟨w.heap.size, 0, none⟩) n n) (w.alloc (.cells (enR n fun _ => 0) 3)) := by
  obtain ⟨i0, hi0, hz0, hz1, hz2⟩ := info_parts infoI
  have h := run_make (P := Try.prog) w 22 3 i0 (.int .i64 0) Try.underlying22 hi0 hz0 .i64 .i64 n n (by omega) (by omega) (by rw [hz2]; omega) (by omega)
  rw [h]
  simp only [Int.toNat_natCast, hz1, Nat.mul_one]
  rw [enR_zero]
  congr 2
  refine congrArg (fun c => Obj.cells c 3) (Array.toList_inj.1 ?_)
  rw [show (Value.int .i64 0).cells = #[.int .i64 0] from rfl, toList_madeCells_one]; simp
set_option maxHeartbeats 12800000 in
set_option maxRecDepth 100000 in
theorem rtable_any (n : Nat) (hn : n ≤ 100) (w : World) :
    Calls Try.prog 71 #[.int .i64 n] w (fun e w' => ∃ v G, e = .returned v ∧ G.length = n ∧ Tab w' w.heap.size v n G (fun _ _ => 0) ∧ Below w.heap.size w w') := by
  obtain ⟨i0, hi0, hz0, hz1, hz2⟩ := info_parts infoR
  have n1 : (0 : Int) ≤ (n : Int) := by omega
  go_enter Try.func71, Try.ntmps71
  go_wp2
  go_loopw [3, 4] (fun s v wr => ∃ (i : Nat) (G : List Nat), i ≤ n ∧ v = .int .i64 i ∧ G.length = i ∧ Tab wr w.heap.size s n G (fun _ _ => 0) ∧ Below w.heap.size w wr) (fun _ v _ => n - (intOf v).toNat)
  case atStart => exact ⟨0, [], by omega, rfl, rfl, ⟨World.ownsRow_nil _ _ _ _, fun j h => by simp at h, List.Pairwise.nil⟩, Below.refl _ _⟩
  case round =>
    obtain ⟨i, G, hi, rfl, hG, hT, hb⟩ := hrel
    have HT := Lib.hid hT
    have HBr := Lib.hid hb
    clear hT hb
    by_cases hlt : i < n
    · have i1 : (i : Int) < (n : Int) := by omega
      have hmk : (Instr.makeSlice 22 (.int .i64 (n : Int)) (.int .i64 (n : Int))).run Try.prog wr = .ok (.slice (some ⟨wr.heap.size, 0, none⟩) n n) (wr.alloc (.cells (enR n fun _ => 0) 3)) := make_row n hn wr
      have hp := HT.out
      have HOV : Hid ((wr.alloc (.cells (enR n fun _ => 0) 3)).ownsRow w.heap.size 22 1 u3 G.length (G.map (rowV n))) := Lib.hid (hp.own.alloc _)
      have HBV : Hid (Below w.heap.size w (wr.alloc (.cells (enR n fun _ => 0) 3))) := Lib.hid (HBr.out.alloc HBr.out.size _)
      have hlen : G.length = i := hG
      clear hp
      go_wp2_with (at_builtin; refine wpList_append_own _ rfl _ _ 92 rfl w.heap.size 22 i0 (.slice none 0 0) 1 24 Try.underlying92 hi0 hz0 hz1 hz2 rfl (by decide) _ _ _ rfl (HOV.out.alloc _) ⟨wr.heap.size + 1, 0, none⟩ 1 1 [rowV n wr.heap.size] rfl rfl (by have h9 := lit_row (wr.alloc (.cells (enR n fun _ => 0) 3)) [rowV n wr.heap.size] 22; rwa [World.size_alloc] at h9) (by simp [Value.oneCell', rowV]) (by unfold maxLen; omega) (by omega) (by rw [World.size_alloc]; have := HBV.out.size; omega) ?_; intro v1 w3 hown1 hgrow1 _; have HX1 := Lib.hid (HT.out.push HBr.out.size _ rfl _ hgrow1 hown1); have HX2 : Hid (Below w.heap.size w w3) := Lib.hid (below_push (w := w) HBV.out (fun k hk => (HOV.out.lt k hk).1) hgrow1); clear hown1 hgrow1)
      go_wp2
      go_roundw
      case rel => exact ⟨i + 1, _, by omega, by go_num, by rw [List.length_append, hG]; rfl, HX1.out, HX2.out⟩
      case measure => simp [intOf]; omega
    · obtain rfl : i = n := by omega
      go_wp2
      go_ret
      exact ⟨_, G, rfl, hG, HT.out, HBr.out⟩
end Go.Proofs.Ytgfbihdnjidodaa

namespace Go.Proofs.Ytgfbihdnjidodaa
open Go.RowKit Go.Shelf Go.Proofs.Gr
attribute [local go_sem] Oper.semAt_some

theorem rowJ_low (t : Nat → Nat → Int) (a b : Nat) (h : b ≤ a) : rowJ t a b = [] := by
  induction b with
  | zero => rfl
  | succ b ih => rw [rowJ, ih (by omega), if_neg (by omega)]; rfl
theorem rowJ_len (t : Nat → Nat → Int) (a b : Nat) : (rowJ t a b).length ≤ b := by
  induction b with
  | zero => simp [rowJ]
  | succ b ih => rw [rowJ, List.length_append]; split <;> simp <;> omega
theorem joinT_len (t : Nat → Nat → Int) (n k : Nat) : (joinT t n k).length ≤ k * n := by
  induction k with
  | zero => simp [joinT]
  | succ k ih => rw [joinT, List.length_append, Nat.succ_mul]; have := rowJ_len t k n; omega
theorem Tab.keep {w w' : World} {base : Nat} {v : Value} {n : Nat} {G : List Nat} {t : Nat → Nat → Int} (h : Tab w base v n G t) (hb : Below w.heap.size w w') : Tab w' base v n G t :=
  ⟨own_keep h.own hb, fun j hj => ⟨(h.row j hj).1.below hb (h.row j hj).1.lt, (h.row j hj).2⟩, h.srt⟩
theorem Tab.at {w : World} {base : Nat} {v : Value} {n : Nat} {G : List Nat} {t : Nat → Nat → Int} (h : Tab w base v n G t) (hG : G.length = n) (a b : Nat) (ha : a < n) (hb : b < n) :
    ∃ gb c g, v = .slice (some ⟨gb, 0, none⟩) n c ∧ gb < w.heap.size ∧ g < w.heap.size ∧ w.cell? ⟨gb, a, none⟩ = some (.slice (some ⟨g, 0, none⟩) n n) ∧ w.cell? ⟨g, b, none⟩ = some (.int .i64 (t a b)) := by
  obtain ⟨gb, c, hv⟩ := own_pos h.own (by omega)
  have ho := h.own
  subst hv
  have h1 := (ho.lt gb rfl).2
  have h2 := h.row a (by omega)
  refine ⟨gb, c, G[a]'(by omega), by rw [hG], h1, h2.1.lt, ?_, (h2.1.cell b).trans (enR_at n _ b hb)⟩
  rw [ho.cellAt a (by omega), List.getElem?_map, List.getElem?_eq_getElem (by omega)]; rfl

set_option maxHeartbeats 12800000 in
set_option maxRecDepth 100000 in
theorem rjoined_any (n : Nat) (hn : n ≤ 100) (v : Value) (base : Nat) (G : List Nat) (t : Nat → Nat → Int) (hG : G.length = n) (w : World) (h : Tab w base v n G t) :
    Calls Try.prog 72 #[.int .i64 n, v] w (GivesG w n (joinT t n n)) := by
  obtain ⟨i0, hi0, hz0, hz1, hz2⟩ := info_parts infoE
  unfold GivesG gv
  have HJ0 : Hid (joinT t n 0 = []) := Lib.hid rfl
  have HJS : Hid (∀ a, joinT t n (a + 1) = joinT t n a ++ rowJ t a n) := Lib.hid fun a => rfl
  have HRS : Hid (∀ a b, rowJ t a (b + 1) = rowJ t a b ++ (if a ≤ b ∧ 0 < t a b then [⟨a, b, t a b⟩] else [])) := Lib.hid fun a b => rfl
  have HR0 : Hid (∀ a, rowJ t a a = []) := Lib.hid fun a => rowJ_low t a a (Nat.le_refl _)
  have HJL : Hid (∀ a b, a ≤ n → b ≤ n → (joinT t n a ++ rowJ t a b).length ≤ 20000) := Lib.hid fun a b ha hb => by
    have h1 := joinT_len t n a
    have h2 := rowJ_len t a b
    have h3 : a * n ≤ 100 * 100 := Nat.mul_le_mul (by omega) hn
    rw [List.length_append]; omega
  obtain ⟨W, hW⟩ : ∃ W, W = w.alloc (Obj.cells #[.int .i64 0, .slice none 0 0] 31) := ⟨_, rfl⟩
  have hB0 : Below w.heap.size w W := by rw [hW]; exact (Below.refl _ w).alloc (Nat.le_refl _) _
  have hR : Blk W w.heap.size 31 #[.int .i64 0, .slice none 0 0] := by rw [hW]; exact Blk.new _ _ _
  have hs : W.heap.size = w.heap.size + 1 := by rw [hW]; simp
  have HWS := Lib.hid hs
  have HW := Lib.hid hW
  have HB0 := Lib.hid hB0
  have HR1 := Lib.hid hR
  have HT1 := Lib.hid (h.keep hB0)
  have HK0 : Hid (Blk (W.alloc (Obj.cells #[.int .i64 n, .slice none 0 0] 31)) (w.heap.size + 1) 31 #[.int .i64 n, .slice none 0 0]) := Lib.hid (by rw [← hs]; exact Blk.new _ _ _)
  have HBK : Hid (Below W.heap.size W (W.alloc (Obj.cells #[.int .i64 n, .slice none 0 0] 31))) := Lib.hid ((Below.refl _ _).alloc (Nat.le_refl _) _)
  clear hB0 hR hW h hs
  go_enter Try.func72, Try.ntmps72
  go_wp2
  rw [← HW.out]
  go_loopw [6] (fun x wr => ∃ (a : Nat) (s : Value), a ≤ n ∧ x = .int .i64 a ∧ Blk wr (w.heap.size + 1) 31 #[.int .i64 n, s] ∧ wr.ownsRow (w.heap.size + 2) 66 3 s (joinT t n a).length (flat encE (joinT t n a)) ∧ Below W.heap.size W wr) (fun x _ => n - (intOf x).toNat)
  case atStart => exact ⟨0, _, by omega, rfl, HK0.out, by rw [HJ0.out]; exact World.ownsRow_nil _ _ _ _, HBK.out⟩
  case round =>
    obtain ⟨a, s, ha, rfl, hK, hown, hb⟩ := hrel
    by_cases hlt : a < n
    · have i1 : (a : Int) < (n : Int) := by omega
      have HK := Lib.hid hK
      have HOW : Hid (wr.ownsRow (w.heap.size + 2) 66 3 s (joinT t n a ++ rowJ t a a).length (flat encE (joinT t n a ++ rowJ t a a))) := Lib.hid (by rw [HR0.out, List.append_nil]; exact hown)
      have HBr := Lib.hid hb
      have HJS2 := Lib.hid (HJS.out a)
      clear hK hown hb
      go_wp2
      go_loopw [7] (fun x wr => ∃ (b : Nat) (s : Value), a ≤ b ∧ b ≤ n ∧ x = .int .i64 b ∧ Blk wr (w.heap.size + 1) 31 #[.int .i64 n, s] ∧ wr.ownsRow (w.heap.size + 2) 66 3 s (joinT t n a ++ rowJ t a b).length (flat encE (joinT t n a ++ rowJ t a b)) ∧ Below W.heap.size W wr) (fun x _ => n - (intOf x).toNat)
      case atStart => exact ⟨a, _, by omega, by omega, rfl, HK.out, HOW.out, HBr.out⟩
      case round =>
        obtain ⟨b, s, hab, hbn, rfl, hK, hown, hb⟩ := hrel
        by_cases hlb : b < n
        · have hJL := HJL.out a b (by omega) (by omega)
          have hRS := HRS.out a b
          obtain ⟨gb, c, g, hv, q1, q2, x1, x2⟩ := HT1.out.at hG a b hlt hlb
          have y1 := (hb.cell (p := ⟨gb, a, none⟩) q1).trans x1
          have y2 := (hb.cell (p := ⟨g, b, none⟩) q2).trans x2
          subst hv
          have j1 : (b : Int) < (n : Int) := by omega
          have j2 : (0 : Int) ≤ (b : Int) := by omega
          have j3 : (0 : Int) ≤ (a : Int) := by omega
          generalize t a b = T at *
          have HK := Lib.hid hK
          have HB2 := Lib.hid hb
          obtain ⟨J, hJ⟩ : ∃ J, J = joinT t n a ++ rowJ t a b := ⟨_, rfl⟩
          rw [← hJ] at hown hJL
          have HJN : Hid (joinT t n a ++ rowJ t a (b + 1) = J ++ (if a ≤ b ∧ 0 < T then [⟨a, b, T⟩] else [])) := Lib.hid (by rw [hRS, hJ, List.append_assoc])
          have HOW := Lib.hid hown
          by_cases hT : 0 < T
          · have HJ2 : Hid (joinT t n a ++ rowJ t a (b + 1) = J ++ [⟨a, b, T⟩]) := Lib.hid (by rw [HJN.out, if_pos ⟨hab, hT⟩])
            have k1 : wr.cell? ⟨w.heap.size + 1, 1, none⟩ = some s := hK.cell 1
            have HAB := Lib.hid hab
            clear hK hb hown hRS hJ x1 x2 hab
            go_wp2
            have HS : Hid (∀ x, Below wr.heap.size wr x → (x.cell? ⟨w.heap.size + 1, 1, none⟩ = some s ∧ x.cell? ⟨gb, a, none⟩ = some (.slice (some ⟨g, 0, none⟩) n n) ∧ x.cell? ⟨g, b, none⟩ = some (.int .i64 T))) := Lib.hid fun x hx => ⟨(hx.cell (p := ⟨w.heap.size + 1, 1, none⟩) HK.out.lt).trans k1, (hx.cell (p := ⟨gb, a, none⟩) (Nat.lt_of_lt_of_le q1 HB2.out.size)).trans y1, (hx.cell (p := ⟨g, b, none⟩) (Nat.lt_of_lt_of_le q2 HB2.out.size)).trans y2⟩
            have hk2 : Below wr.heap.size wr wr.drew := (Below.refl _ _).drew
            have hSd := HS.out _ hk2
            clear y1 y2 k1
            refine wp_region_late (S := fun u => u.cell? ⟨w.heap.size + 1, 1, none⟩ = some s ∧ u.cell? ⟨gb, a, none⟩ = some (.slice (some ⟨g, 0, none⟩) n n) ∧ u.cell? ⟨g, b, none⟩ = some (.int .i64 T)) (X := [13, 15]) (by kernel_rfl) ?_
            refine wpAnyL_pureD (i := 0) 29 (.pointer (some ⟨w.heap.size + 1, 1, none⟩)) rfl rfl (by kernel_rfl) (by kernel_rfl) (by kernel_rfl) (fun _ _ _ h => h) (Or.inl ⟨by rfl, fun u _ => ?_⟩) ?_
            · go_simp
            try simp only [Act.put, List.setIfInBounds_toArray, List.set_cons_zero, List.set_cons_succ]
            refine wpAnyL_takeD (i := 1) 30 s rfl rfl (by kernel_rfl) (by kernel_rfl) (by kernel_rfl) (by kernel_rfl) (by kernel_rfl) (fun _ _ _ h => h) hSd (Or.inl ⟨by rfl, fun u hu => ?_⟩) ?_
            · obtain ⟨z0, z1, z2⟩ := hu
              go_simp
            try simp only [Act.put, List.setIfInBounds_toArray, List.set_cons_zero, List.set_cons_succ]
            refine wpAnyL_pureD (i := 2) 31 (.int .i64 (a : Int)) rfl rfl (by kernel_rfl) (by kernel_rfl) (by kernel_rfl) (fun _ _ _ h => h) (Or.inl ⟨by rfl, fun u _ => ?_⟩) ?_
            · go_simp
            try simp only [Act.put, List.setIfInBounds_toArray, List.set_cons_zero, List.set_cons_succ]
            refine wpAnyL_pureD (i := 3) 32 (.int .i64 (b : Int)) rfl rfl (by kernel_rfl) (by kernel_rfl) (by kernel_rfl) (fun _ _ _ h => h) (Or.inl ⟨by rfl, fun u _ => ?_⟩) ?_
            · go_simp
            try simp only [Act.put, List.setIfInBounds_toArray, List.set_cons_zero, List.set_cons_succ]
            refine wpAnyL_pureD (i := 4) 33 (.slice (some ⟨gb, 0, none⟩) n c) rfl rfl (by kernel_rfl) (by kernel_rfl) (by kernel_rfl) (fun _ _ _ h => h) (Or.inl ⟨by rfl, fun u _ => ?_⟩) ?_
            · go_simp
            try simp only [Act.put, List.setIfInBounds_toArray, List.set_cons_zero, List.set_cons_succ]
            refine wpAnyL_pureD (i := 5) 34 (.int .i64 (a : Int)) rfl rfl (by kernel_rfl) (by kernel_rfl) (by kernel_rfl) (fun _ _ _ h => h) (Or.inl ⟨by rfl, fun u _ => ?_⟩) ?_
            · go_simp
            try simp only [Act.put, List.setIfInBounds_toArray, List.set_cons_zero, List.set_cons_succ]
            refine wpAnyL_pureD (i := 6) 35 (.pointer (some ⟨gb, a, none⟩)) rfl rfl (by kernel_rfl) (by kernel_rfl) (by kernel_rfl) (fun _ _ _ h => h) (Or.inl ⟨by rfl, fun u _ => ?_⟩) ?_
            · go_simp
            try simp only [Act.put, List.setIfInBounds_toArray, List.set_cons_zero, List.set_cons_succ]
            refine wpAnyL_takeD (i := 7) 36 (.slice (some ⟨g, 0, none⟩) n n) rfl rfl (by kernel_rfl) (by kernel_rfl) (by kernel_rfl) (by kernel_rfl) (by kernel_rfl) (fun _ _ _ h => h) hSd (Or.inl ⟨by rfl, fun u hu => ?_⟩) ?_
            · obtain ⟨z0, z1, z2⟩ := hu
              go_simp
            try simp only [Act.put, List.setIfInBounds_toArray, List.set_cons_zero, List.set_cons_succ]
            refine wpAnyL_pureD (i := 8) 37 (.int .i64 (b : Int)) rfl rfl (by kernel_rfl) (by kernel_rfl) (by kernel_rfl) (fun _ _ _ h => h) (Or.inl ⟨by rfl, fun u _ => ?_⟩) ?_
            · go_simp
            try simp only [Act.put, List.setIfInBounds_toArray, List.set_cons_zero, List.set_cons_succ]
            refine wpAnyL_pureD (i := 9) 38 (.pointer (some ⟨g, b, none⟩)) rfl rfl (by kernel_rfl) (by kernel_rfl) (by kernel_rfl) (fun _ _ _ h => h) (Or.inl ⟨by rfl, fun u _ => ?_⟩) ?_
            · go_simp
            try simp only [Act.put, List.setIfInBounds_toArray, List.set_cons_zero, List.set_cons_succ]
            refine wpAnyL_takeD (i := 10) 39 (.int .i64 T) rfl rfl (by kernel_rfl) (by kernel_rfl) (by kernel_rfl) (by kernel_rfl) (by kernel_rfl) (fun _ _ _ h => h) hSd (Or.inl ⟨by rfl, fun u hu => ?_⟩) ?_
            · obtain ⟨z0, z1, z2⟩ := hu
              go_simp
            try simp only [Act.put, List.setIfInBounds_toArray, List.set_cons_zero, List.set_cons_succ]
            refine wpAnyL_pureD (i := 11) 40 (.agg #[.int .i64 (a : Int), .int .i64 (b : Int), .int .i64 T]) rfl rfl (by kernel_rfl) (by kernel_rfl) (by kernel_rfl) (fun _ _ _ h => h) (Or.inl ⟨by rfl, fun u _ => ?_⟩) ?_
            · go_simp
            try simp only [Act.put, List.setIfInBounds_toArray, List.set_cons_zero, List.set_cons_succ]
            refine wpAnyL_one (i := 12) (by kernel_rfl) rfl (fun K hK => ?_)
            go_simp
            refine hK.out _ _ (fun _ _ => HS.out _ ((Below.refl _ wr).alloc (Nat.le_refl _) _).drew) ?_
            clear hK K
            refine wpAnyL_one (i := 13) (by kernel_rfl) rfl (fun K hK => ?_)
            rw [if_pos (by kernel_rfl)]
            have hKd : Blk wr.drew (w.heap.size + 1) 31 #[.int .i64 n, s] := HK.out
            have hOd : wr.drew.ownsRow (w.heap.size + 2) 66 3 s J.length (flat encE J) := HOW.out
            have hsz : w.heap.size + 2 ≤ wr.heap.size := HK.out.lt
            refine wp_append_own _ _ _ 29 rfl (w.heap.size + 2) 66 i0 (.agg #[.int .i64 0, .int .i64 0, .int .i64 0]) 3 24 Try.underlying29 hi0 hz0 hz1 hz2 rfl (by decide) s _ _ (by rfl) ((HOW.out.alloc (Obj.cells #[.int .i64 (a : Int), .int .i64 (b : Int), .int .i64 T] 66)).drew) ⟨wr.heap.size, 0, none⟩ 1 1 [.int .i64 (a : Int), .int .i64 (b : Int), .int .i64 T] (by rfl) rfl (lit_row wr _ _) (by simp [Value.oneCell']) (by unfold maxLen; omega) (by omega) (by show w.heap.size + 2 ≤ (wr.alloc _).heap.size; rw [World.size_alloc]; omega) ?_
            intro v1 w3 hown1 hgrow1 _
            obtain ⟨g', cap', rfl⟩ := own_succ hown1
            obtain ⟨h31, h32, h33, h34⟩ := kept_push (V := wr.drew) hKd hOd hgrow1 hown1
            have hc1 : w3.cell? ⟨w.heap.size + 1, 1, none⟩ = some s := h31.cell 1
            have hf1 : w3.frozen? ⟨w.heap.size + 1, 1, none⟩ = false := h31.frozen 1
            have HX2 := Lib.hid h32
            have HX3 := Lib.hid h33
            have HX4 : Hid (Below W.heap.size W (w3.setCell ⟨w.heap.size + 1, 1, none⟩ (.slice (some ⟨g', 0, none⟩) (J.length + 1) cap'))) := Lib.hid (HB2.out.drew.trans (by rw [HWS.out]; exact h34))
            clear h31 h32 h33 h34 hown1 hgrow1 hKd hOd hSd hsz
            refine hK.out _ _ (fun h => absurd (by decide) h) ?_
            clear hK K
            refine wpAnyL_one (i := 14) (by kernel_rfl) rfl (fun K hK => ?_)
            go_simp
            refine hK.out _ _ (fun _ h => h) ?_
            clear hK K
            refine wpAnyL_one (i := 15) (by kernel_rfl) rfl (fun K hK => ?_)
            go_simp
            refine hK.out _ _ (fun h => absurd (by decide) h) ?_
            clear hK K
            refine wpAnyL_done (by kernel_rfl) ?_ _
            go_wp2
            go_roundw
            case rel => exact ⟨b + 1, _, by have := HAB.out; omega, by omega, by go_num, HX2.out, by rw [HJ2.out, List.length_append, flatE_snoc]; exact HX3.out, HX4.out⟩
            case measure => simp [intOf]; omega
          · have HJ2 : Hid (joinT t n a ++ rowJ t a (b + 1) = J) := Lib.hid (by rw [HJN.out, if_neg (fun h => hT h.2), List.append_nil])
            clear hK hb hown hRS hJ x1 x2
            go_wp2
            go_roundw
            case rel => exact ⟨b + 1, _, by omega, by omega, by go_num, HK.out, by rw [HJ2.out]; exact HOW.out, HB2.out⟩
            case measure => simp [intOf]; omega
        · obtain rfl : b = n := by omega
          have HK := Lib.hid hK
          have HOW := Lib.hid hown
          have HB2 := Lib.hid hb
          clear hK hown hb
          go_wp2
          go_roundw
          case rel => exact ⟨a + 1, _, by omega, by go_num, HK.out, by rw [HJS2.out]; exact HOW.out, HB2.out⟩
          case measure => simp [intOf]; omega
    · obtain rfl : a = n := by omega
      generalize hM : joinT t a a = M at *
      obtain ⟨sa, sc, rfl, -⟩ := RowAt.of_own encE_len3 hown
      have e0 := (ownsRow_setCell_below (ownsRow_setCell_below hown (a := ⟨w.heap.size, 0, none⟩) (by show w.heap.size < w.heap.size + 2; omega) (.int .i64 a)) (a := ⟨w.heap.size, 1, none⟩) (by show w.heap.size < w.heap.size + 2; omega) (.slice sa M.length sc))
      have E3 := Lib.hid (e0.mono (base' := w.heap.size) (by omega))
      obtain ⟨a', c', e1, e2⟩ := RowAt.of_own encE_len3 e0
      clear e0
      have E1 := Lib.hid e1
      have E2 := Lib.hid e2
      have hRr : Blk wr w.heap.size 31 #[.int .i64 0, .slice none 0 0] := HR1.out.below hb HR1.out.lt
      have r1 : wr.cell? ⟨w.heap.size, 0, none⟩ = some (.int .i64 0) := hRr.cell 0
      have r3 : wr.frozen? ⟨w.heap.size, 0, none⟩ = false := hRr.frozen 0
      have r2 : (wr.setCell ⟨w.heap.size, 0, none⟩ (.int .i64 a)).cell? ⟨w.heap.size, 1, none⟩ = some (.slice none 0 0) := (hRr.set_ 0 (.int .i64 a)).cell 1
      have r4 : (wr.setCell ⟨w.heap.size, 0, none⟩ (.int .i64 a)).frozen? ⟨w.heap.size, 1, none⟩ = false := (hRr.set_ 0 (.int .i64 a)).frozen 1
      have k2 : wr.cell? ⟨w.heap.size + 1, 0, none⟩ = some (.int .i64 a) := hK.cell 0
      have k3 : wr.cell? ⟨w.heap.size + 1, 1, none⟩ = some (.slice sa M.length sc) := hK.cell 1
      have hRf := (hRr.set_ 0 (.int .i64 a)).set_ 1 (.slice sa M.length sc)
      have r5 : ((wr.setCell ⟨w.heap.size, 0, none⟩ (.int .i64 a)).setCell ⟨w.heap.size, 1, none⟩ (.slice sa M.length sc)).cell? ⟨w.heap.size, 0, none⟩ = some (.int .i64 a) := hRf.cell 0
      have r6 : ((wr.setCell ⟨w.heap.size, 0, none⟩ (.int .i64 a)).setCell ⟨w.heap.size, 1, none⟩ (.slice sa M.length sc)).cell? ⟨w.heap.size, 1, none⟩ = some (.slice sa M.length sc) := hRf.cell 1
      have HBF : Hid (Below w.heap.size w ((wr.setCell ⟨w.heap.size, 0, none⟩ (.int .i64 a)).setCell ⟨w.heap.size, 1, none⟩ (.slice sa M.length sc))) := Lib.hid (((HB0.out.trans (hb.mono HB0.out.size)).setCell (p := ⟨w.heap.size, 0, none⟩) (Nat.le_refl _) _).setCell (p := ⟨w.heap.size, 1, none⟩) (Nat.le_refl _) _)
      clear hb hK hown hRr hRf e1 e2
      go_wp2
      refine bodyPost_ret (v := .agg #[.int .i64 a, .slice sa M.length sc]) (by simp [results, Try.results72, go_sem, r5, r6]) rfl ?_
      injection E1.out with q1 q2 q3
      have hq := E2.out
      rw [← q1] at hq
      exact ⟨sa, sc, by rw [hM], by rw [hM]; exact hq, by rw [hM]; exact E3.out, HBF.out⟩
end Go.Proofs.Ytgfbihdnjidodaa

namespace Go.Proofs.Ytgfbihdnjidodaa
open Go.RowKit Go.Shelf Go.Proofs.Gr
attribute [local go_sem] Oper.semAt_some

theorem enR_eq (n : Nat) (f g : Nat → Int) (h : ∀ k, k < n → g k = f k) : enR n f = enR n g := by
  unfold enR
  refine congrArg List.toArray (List.map_congr_left fun k hk => ?_)
  rw [h k (List.mem_range.1 hk)]
theorem Tab.congr {w : World} {base : Nat} {v : Value} {n : Nat} {G : List Nat} {t s : Nat → Nat → Int} (h : Tab w base v n G t) (hG : G.length = n) (ht : ∀ x y, x < n → y < n → s x y = t x y) : Tab w base v n G s :=
  ⟨h.own, fun j hj => ⟨by rw [← enR_eq n (t j) (s j) (fun k hk => ht j k (by omega) hk)]; exact (h.row j hj).1, (h.row j hj).2⟩, h.srt⟩
/-- A store into a table's row. -/
theorem Tab.set {w : World} {base : Nat} {v : Value} {n : Nat} {G : List Nat} {t : Nat → Nat → Int} (h : Tab w base v n G t) (a b : Nat) (ha : a < G.length) (z : Int) :
    Tab (w.setCell ⟨G[a], b, none⟩ (.int .i64 z)) base v n G (fun x y => if x = a ∧ y = b then z else t x y) := by
  refine ⟨ownsRow_setCell_other h.own (a := ⟨G[a], b, none⟩) (fun e => own_blk_ne h.own (h.row a ha).1 (by decide) e.symm) _, fun j hj => ⟨?_, (h.row j hj).2⟩, h.srt⟩
  by_cases e : j = a
  · subst e
    have h1 := (h.row j ha).1.set_ b (.int .i64 z)
    rw [enR_set n (t j) (fun y => if j = j ∧ y = b then z else t j y) b z (fun y => by simp)] at h1
    exact h1
  · have hne : G[j] ≠ G[a] := fun e2 => by
      rcases Nat.lt_or_ge j a with h3 | h3
      · exact Nat.lt_irrefl _ (e2 ▸ (List.pairwise_iff_getElem.1 h.srt) j a hj ha h3)
      · exact Nat.lt_irrefl _ (e2 ▸ (List.pairwise_iff_getElem.1 h.srt) a j ha hj (by omega))
    have h1 := (h.row j hj).1.far (p := ⟨G[a], b, none⟩) hne (.int .i64 z)
    rw [enR_eq n (t j) (fun y => if j = a ∧ y = b then z else t j y) (fun k _ => by rw [if_neg (fun h => e h.1)])] at h1
    exact h1
/-- What a table's place is, and that it may be written. -/
theorem Tab.at2 {w : World} {base : Nat} {v : Value} {n : Nat} {G : List Nat} {t : Nat → Nat → Int} (h : Tab w base v n G t) (hG : G.length = n) (a b : Nat) (ha : a < n) (hb : b < n) :
    ∃ gb c, ∃ g, v = .slice (some ⟨gb, 0, none⟩) n c ∧ gb < w.heap.size ∧ g < w.heap.size ∧ base ≤ g ∧ w.cell? ⟨gb, a, none⟩ = some (.slice (some ⟨g, 0, none⟩) n n) ∧ w.cell? ⟨g, b, none⟩ = some (.int .i64 (t a b)) ∧ w.frozen? ⟨g, b, none⟩ = false ∧
      ∀ z, Tab (w.setCell ⟨g, b, none⟩ (.int .i64 z)) base v n G (fun x y => if x = a ∧ y = b then z else t x y) := by
  obtain ⟨gb, c, hv⟩ := own_pos h.own (by omega)
  have ho := h.own
  have hset := fun z => h.set a b (by omega) z
  subst hv
  have h1 := (ho.lt gb rfl).2
  have h2 := h.row a (by omega)
  refine ⟨gb, c, G[a]'(by omega), by rw [hG], h1, h2.1.lt, h2.2, ?_, (h2.1.cell b).trans (enR_at n _ b hb), h2.1.frozen b, hset⟩
  rw [ho.cellAt a (by omega), List.getElem?_map, List.getElem?_eq_getElem (by omega)]; rfl

/-- A table filled as far as a place. -/
def partT (t : Nat → Nat → Int) (i k : Nat) : Nat → Nat → Int := fun x y => if (x < i ∨ (x = i ∧ y < k)) ∧ x ≤ y then t x y else 0
theorem partT_zero (t : Nat → Nat → Int) (x y : Nat) : partT t 0 0 x y = 0 := by unfold partT; rw [if_neg (by omega)]
theorem partT_set (t : Nat → Nat → Int) (i k : Nat) (h : i ≤ k) (x y : Nat) : partT t i (k + 1) x y = if x = i ∧ y = k then t i k else partT t i k x y := by
  unfold partT
  by_cases e : x = i ∧ y = k
  · obtain ⟨rfl, rfl⟩ := e
    rw [if_pos ⟨Or.inr ⟨rfl, by omega⟩, h⟩, if_pos ⟨rfl, rfl⟩]
  · rw [if_neg e]
    by_cases h1 : (x < i ∨ (x = i ∧ y < k)) ∧ x ≤ y
    · rw [if_pos h1, if_pos (by omega)]
    · rw [if_neg h1, if_neg (by omega)]
theorem partT_next (t : Nat → Nat → Int) (n i x y : Nat) (hy : y < n) : partT t (i + 1) (i + 1) x y = partT t i n x y := by
  unfold partT
  by_cases h1 : (x < i ∨ (x = i ∧ y < n)) ∧ x ≤ y
  · rw [if_pos h1, if_pos (by omega)]
  · rw [if_neg h1, if_neg (by omega)]
theorem rowJ_congr (s t : Nat → Nat → Int) (a n : Nat) (h : ∀ b, a ≤ b → b < n → s a b = t a b) : rowJ s a n = rowJ t a n := by
  induction n with
  | zero => rfl
  | succ n ih =>
    rw [rowJ, rowJ, ih (fun b h1 h2 => h b h1 (by omega))]
    congr 1
    by_cases e : a ≤ n
    · rw [h n e (by omega)]
    · rw [if_neg (fun h => e h.1), if_neg (fun h => e h.1)]
theorem joinT_congr (s t : Nat → Nat → Int) (n k : Nat) (h : ∀ a b, a < k → a ≤ b → b < n → s a b = t a b) : joinT s n k = joinT t n k := by
  induction k with
  | zero => rfl
  | succ k ih => rw [joinT, joinT, ih (fun a b h1 => h a b (by omega)), rowJ_congr s t k n (fun b h1 h2 => h k b (by omega) h1 h2)]
/-- The graph on a set. -/
def indG (L : List E) (S : List Int) : List E := joinT (fun x y => betw (iAt S x) (iAt S y) L) S.length S.length
theorem indG_part (L : List E) (S : List Int) : joinT (partT (fun x y => betw (iAt S x) (iAt S y) L) S.length S.length) S.length S.length = indG L S :=
  joinT_congr _ _ _ _ fun a b h1 h2 _ => by unfold partT; rw [if_pos ⟨Or.inl h1, h2⟩]

end Go.Proofs.Ytgfbihdnjidodaa

namespace Go.Proofs.Ytgfbihdnjidodaa
open Go.RowKit Go.Shelf Go.Proofs.Gr

theorem RowAt.take {α : Type} {k : Nat} {enc : α → List Value} {w : World} {a : Option Addr} {L : List α} (h : RowAt k enc w a L) (i : Nat) : RowAt k enc w a (L.take i) := by
  intro j hj
  have hj2 : j < L.length := by rw [List.length_take] at hj; omega
  obtain ⟨b, off, h1, h2, h3⟩ := h j hj2
  exact ⟨b, off, h1, h2, fun i hi => by rw [h3 i hi, List.getElem_take]⟩
/-- The error of a new number. -/
def nErr (n : Int) (S : List Int) (i : Nat) : Nat := if iAt S i < 0 ∨ n ≤ iAt S i then 2 else if (S.take i).contains (iAt S i) = true then 7 else 0
def renE (n : Int) (S : List Int) : Nat := if (S.length : Int) ≠ n then 8 else firstE (nErr n S) S.length
end Go.Proofs.Ytgfbihdnjidodaa

namespace Go.Proofs.Ytgfbihdnjidodaa
open Go.RowKit Go.Shelf Go.Proofs.Gr
attribute [local go_sem] Oper.semAt_some

/-- A row of truth values. -/
def enB (n : Nat) (f : Nat → Bool) : Array Value := ((List.range n).map fun k : Nat => Value.bool (f k)).toArray
theorem enB_at (n : Nat) (f : Nat → Bool) (k : Nat) (h : k < n) : (enB n f)[k]? = some (.bool (f k)) := by
  unfold enB
  rw [List.getElem?_toArray, List.getElem?_map, List.getElem?_range h]; rfl
theorem enB_set (n : Nat) (f g : Nat → Bool) (m : Nat) (z : Bool) (h : ∀ v, g v = if v = m then z else f v) : (enB n f).setIfInBounds m (.bool z) = enB n g := by
  unfold enB
  rw [List.setIfInBounds_toArray]
  congr 1
  refine List.ext_getElem (by simp) fun j h1 h2 => ?_
  rw [List.getElem_set]
  simp only [List.getElem_map, List.getElem_range]
  by_cases e : m = j
  · subst e; simp [h]
  · rw [if_neg e, h, if_neg (fun e' => e e'.symm)]
theorem enB_eq (n : Nat) (f g : Nat → Bool) (h : ∀ v, g v = f v) : enB n f = enB n g := by rw [show g = f from funext h]
theorem enB_false (n : Nat) : enB n (fun _ => false) = Array.replicate n (.bool false) := by
  unfold enB
  refine Array.ext (by simp) fun j h1 h2 => by simp
theorem infoB : (Try.prog.info? 4).map (fun i => (i.zero, i.size, i.bytes)) = some (some (.bool false), 1, 1) := by kernel_rfl
set_option maxRecDepth 100000 in
theorem make_bools (n : Nat) (hn : n ≤ 100) (w : World) : (Instr.makeSlice 85 (.int .i64 (n : Int)) (.int .i64 (n : Int))).run Try.prog w = .ok (.slice (some ⟨w.heap.size, 0, none⟩) n n) (w.alloc (.cells (enB n fun _ => false) 4)) := by
  obtain ⟨i0, hi0, hz0, hz1, hz2⟩ := info_parts infoB
  have h := run_make (P := Try.prog) w 85 4 i0 (.bool false) Try.underlying85 hi0 hz0 .i64 .i64 n n (by omega) (by omega) (by rw [hz2]; omega) (by omega)
  rw [h]
  simp only [Int.toNat_natCast, hz1, Nat.mul_one]
  rw [enB_false]
  congr 2
  refine congrArg (fun c => Obj.cells c 4) (Array.toList_inj.1 ?_)
  rw [show (Value.bool false).cells = #[.bool false] from rfl, toList_madeCells_one]; simp
/-- One step: b is reached from a. -/
def stepR (e : Nat → Nat → Bool) (t : Nat → Bool) (a b : Nat) : Nat → Bool := fun v => if v = b then (t b || (t a && e a b)) else t v
def inR (e : Nat → Nat → Bool) (a : Nat) : Nat → (Nat → Bool) → Nat → Bool
  | 0, t => t
  | b + 1, t => stepR e (inR e a b t) a b
def midR (e : Nat → Nat → Bool) (n : Nat) : Nat → (Nat → Bool) → Nat → Bool
  | 0, t => t
  | a + 1, t => inR e a n (midR e n a t)
def outR (e : Nat → Nat → Bool) (n : Nat) : Nat → (Nat → Bool) → Nat → Bool
  | 0, t => t
  | r + 1, t => midR e n n (outR e n r t)
/-- What is reached from a vertex. -/
def reachR (L : List E) (n v : Nat) : Nat → Bool := outR (fun a b : Nat => decide (0 < betw (a : Int) (b : Int) L)) n n (fun x => decide (x = v))
theorem stepR_no (e : Nat → Nat → Bool) (t : Nat → Bool) (a b : Nat) (h : (t a && e a b) = false) (v : Nat) : stepR e t a b v = t v := by
  unfold stepR
  rw [h, Bool.or_false]
  split
  · subst_vars; rfl
  · rfl
theorem stepR_yes (e : Nat → Nat → Bool) (t : Nat → Bool) (a b : Nat) (h : (t a && e a b) = true) (v : Nat) : stepR e t a b v = if v = b then true else t v := by
  unfold stepR
  rw [h, Bool.or_true]

set_option maxHeartbeats 12800000 in
set_option maxRecDepth 100000 in
theorem rreached_any (n : Nat) (hn : n ≤ 100) (a : Option Addr) (cap : Nat) (L : List E) (hL : L.length ≤ 100000) (hs : L.Pairwise (fun x y => ltE x y = true)) (v : Nat) (hv : v < n) (w : World) (h : EsAt w a L) :
    Calls Try.prog 51 #[gv n a L.length cap, .int .i64 v] w (fun e w' => ∃ g, e = .returned (.slice (some ⟨g, 0, none⟩) n n) ∧ w.heap.size ≤ g ∧ Blk w' g 4 (enB n (reachR L n v)) ∧ Below w.heap.size w w') := by
  have HBT := Lib.hid (fun u v w h => rbetween_any n a cap L hL hs u v w h)
  obtain ⟨e, he⟩ : ∃ e : Nat → Nat → Bool, e = fun a b : Nat => decide (0 < betw (a : Int) (b : Int) L) := ⟨_, rfl⟩
  have HEV : Hid (∀ x y : Nat, e x y = decide (0 < betw x y L)) := Lib.hid fun x y => by rw [he]
  have HRR : Hid (reachR L n v = outR e n n (fun x => decide (x = v))) := Lib.hid (by rw [he]; rfl)
  have HIS : Hid (∀ a b t, inR e a (b + 1) t = stepR e (inR e a b t) a b) := Lib.hid fun a b t => rfl
  have HMS : Hid (∀ a t, midR e n (a + 1) t = inR e a n (midR e n a t)) := Lib.hid fun a t => rfl
  have HOS : Hid (∀ r t, outR e n (r + 1) t = midR e n n (outR e n r t)) := Lib.hid fun a t => rfl
  have HI0 : Hid (∀ a t, inR e a 0 t = t) := Lib.hid fun a t => rfl
  have HM0 : Hid (∀ t, midR e n 0 t = t) := Lib.hid fun t => rfl
  have HO0 : Hid (∀ t, outR e n 0 t = t) := Lib.hid fun t => rfl
  generalize reachR L n v = R at *
  clear he
  unfold GivesN gv at *
  obtain ⟨W, hW⟩ : ∃ W, W = w.alloc (Obj.cells #[.int .i64 n, .slice a L.length cap] 31) := ⟨_, rfl⟩
  have hB0 : Below w.heap.size w W := by rw [hW]; exact (Below.refl _ w).alloc (Nat.le_refl _) _
  have hG : Blk W w.heap.size 31 #[.int .i64 n, .slice a L.length cap] := by rw [hW]; exact Blk.new _ _ _
  have hWs : W.heap.size = w.heap.size + 1 := by rw [hW]; simp
  have HWS := Lib.hid hWs
  have HW := Lib.hid hW
  have HB0 := Lib.hid hB0
  have HG := Lib.hid hG
  have HE := Lib.hid (h.keep hB0)
  have g0 : W.cell? ⟨w.heap.size, 0, none⟩ = some (.int .i64 n) := hG.cell 0
  have hmk : (Instr.makeSlice 85 (.int .i64 (n : Int)) (.int .i64 (n : Int))).run Try.prog (w.alloc (Obj.cells #[.int .i64 n, .slice a L.length cap] 31)) = .ok (.slice (some ⟨w.heap.size + 1, 0, none⟩) n n) (W.alloc (.cells (enB n fun _ => false) 4)) := by rw [← hW, ← hWs]; exact make_bools n hn W
  have hT0 : Blk (W.alloc (.cells (enB n fun _ => false) 4)) (w.heap.size + 1) 4 (enB n fun _ => false) := by rw [← hWs]; exact Blk.new _ _ _
  have y1 : (W.alloc (.cells (enB n fun _ => false) 4)).cell? ⟨w.heap.size + 1, v, none⟩ = some (.bool false) := (hT0.cell v).trans (enB_at n _ v hv)
  have y2 : (W.alloc (.cells (enB n fun _ => false) 4)).frozen? ⟨w.heap.size + 1, v, none⟩ = false := hT0.frozen v
  have v1 : (v : Int) < (n : Int) := by omega
  have v0 : (0 : Int) ≤ (v : Int) := by omega
  have n0 : (0 : Int) ≤ (n : Int) := by omega
  have HN0 : Hid (Blk ((W.alloc (.cells (enB n fun _ => false) 4)).setCell ⟨w.heap.size + 1, v, none⟩ (.bool true)) (w.heap.size + 1) 4 (enB n fun x => decide (x = v))) := Lib.hid (by
    rw [← enB_set n (fun _ => false) (fun x => decide (x = v)) v true (fun x => by by_cases e : x = v <;> simp [e])]
    exact hT0.set_ v _)
  have HBN0 : Hid (Below W.heap.size W ((W.alloc (.cells (enB n fun _ => false) 4)).setCell ⟨w.heap.size + 1, v, none⟩ (.bool true))) := Lib.hid (((Below.refl _ _).alloc (Nat.le_refl _) _).setCell (p := ⟨w.heap.size + 1, v, none⟩) (Nat.le_of_eq hWs) _)
  clear hB0 hG hW hWs h hT0
  go_enter Try.func51, Try.ntmps51
  go_wp2
  clear y1 y2 hmk g0
  go_loopw [6] (fun x wr => ∃ r : Nat, r ≤ n ∧ x = .int .i64 r ∧ Blk wr (w.heap.size + 1) 4 (enB n (outR e n r (fun x => decide (x = v)))) ∧ Below W.heap.size W wr) (fun x _ => n - (intOf x).toNat)
  case atStart => exact ⟨0, by omega, rfl, by rw [HO0.out]; exact HN0.out, HBN0.out⟩
  case round =>
    obtain ⟨r, hr, rfl, hT, hb⟩ := hrel
    have g0 : wr.cell? ⟨w.heap.size, 0, none⟩ = some (.int .i64 n) := (HG.out.below hb HG.out.lt).cell 0
    have HOS2 := Lib.hid (HOS.out r (fun x => decide (x = v)))
    generalize hTe : outR e n r (fun x => decide (x = v)) = T1 at *
    have HTE := Lib.hid hTe
    clear hTe
    have HT1 := Lib.hid hT
    have HB1 := Lib.hid hb
    clear hT hb
    by_cases hlr : r < n
    · have r1 : (r : Int) < (n : Int) := by omega
      go_wp2
      clear g0
      go_loopw [7] (fun x wr => ∃ c : Nat, c ≤ n ∧ x = .int .i64 c ∧ Blk wr (w.heap.size + 1) 4 (enB n (midR e n c T1)) ∧ Below W.heap.size W wr) (fun x _ => n - (intOf x).toNat)
      case atStart => exact ⟨0, by omega, rfl, by rw [HM0.out]; exact HT1.out, HB1.out⟩
      case round =>
        obtain ⟨c, hc, rfl, hT, hb⟩ := hrel
        have g0 : wr.cell? ⟨w.heap.size, 0, none⟩ = some (.int .i64 n) := (HG.out.below hb HG.out.lt).cell 0
        have HMS2 := Lib.hid (HMS.out c T1)
        by_cases hlc : c < n
        · generalize midR e n c T1 = T2 at *
          have HT2 := Lib.hid hT
          have HB2 := Lib.hid hb
          clear hT hb
          have c1 : (c : Int) < (n : Int) := by omega
          have c0 : (0 : Int) ≤ (c : Int) := by omega
          go_wp2
          clear g0
          go_loopw [8] (fun x wr => ∃ d : Nat, d ≤ n ∧ x = .int .i64 d ∧ Blk wr (w.heap.size + 1) 4 (enB n (inR e c d T2)) ∧ Below W.heap.size W wr) (fun x _ => n - (intOf x).toNat)
          case atStart => exact ⟨0, by omega, rfl, by rw [HI0.out]; exact HT2.out, HB2.out⟩
          case round =>
            obtain ⟨d, hd, rfl, hT, hb⟩ := hrel
            have hg := HG.out.below hb HG.out.lt
            have g0 : wr.cell? ⟨w.heap.size, 0, none⟩ = some (.int .i64 n) := hg.cell 0
            have g1 : wr.cell? ⟨w.heap.size, 1, none⟩ = some (.slice a L.length cap) := hg.cell 1
            clear hg
            have HIS2 := Lib.hid (HIS.out c d T2)
            by_cases hld : d < n
            · generalize inR e c d T2 = T3 at *
              have d1 : (d : Int) < (n : Int) := by omega
              have d0 : (0 : Int) ≤ (d : Int) := by omega
              have z1 : wr.cell? ⟨w.heap.size + 1, c, none⟩ = some (.bool (T3 c)) := (hT.cell c).trans (enB_at n T3 c hlc)
              have HT3 := Lib.hid hT
              have HB3 := Lib.hid hb
              have HEr := Lib.hid (HE.out.keep hb)
              clear hT hb
              by_cases ht : T3 c = true
              · rw [ht] at z1
                have HT := Lib.hid ht
                have HBT2 := Lib.hid (fun w h => HBT.out (c : Int) (d : Int) w h)
                have HEd := Lib.hid (HEV.out c d)
                generalize betw (c : Int) (d : Int) L = B at *
                clear ht
                go_wp2_with fail
                refine (HBT2.out _ HEr.out).mono ?_
                rintro e' w2 ⟨rfl, hb2⟩
                have HB4 := Lib.hid (HB3.out.trans (hb2.mono HB3.out.size))
                have hT4 : Blk w2 (w.heap.size + 1) 4 (enB n T3) := HT3.out.below hb2 HT3.out.lt
                clear hb2
                by_cases hB : 0 < B
                · have z2 : w2.cell? ⟨w.heap.size + 1, d, none⟩ = some (.bool (T3 d)) := (hT4.cell d).trans (enB_at n T3 d hld)
                  have z3 : w2.frozen? ⟨w.heap.size + 1, d, none⟩ = false := hT4.frozen d
                  have HN : Hid (Blk (w2.setCell ⟨w.heap.size + 1, d, none⟩ (.bool true)) (w.heap.size + 1) 4 (enB n (inR e c (d + 1) T2))) := Lib.hid (by
                    rw [HIS2.out, ← enB_set n T3 _ d true (fun x => stepR_yes e T3 c d (by rw [HT.out, HEd.out, decide_eq_true hB]; rfl) x)]
                    exact hT4.set_ d _)
                  have HBN : Hid (Below W.heap.size W (w2.setCell ⟨w.heap.size + 1, d, none⟩ (.bool true))) := Lib.hid (HB4.out.setCell (p := ⟨w.heap.size + 1, d, none⟩) (Nat.le_of_eq HWS.out) _)
                  generalize T3 d = q at *
                  clear hT4
                  go_wp2
                  go_roundw
                  case rel => exact ⟨d + 1, by omega, by go_num, HN.out, HBN.out⟩
                  case measure => simp [intOf]; omega
                · have HN : Hid (Blk w2 (w.heap.size + 1) 4 (enB n (inR e c (d + 1) T2))) := Lib.hid (by
                    rw [HIS2.out, ← enB_eq n T3 _ (fun x => stepR_no e T3 c d (by rw [HT.out, HEd.out, decide_eq_false hB]; rfl) x)]
                    exact hT4)
                  clear hT4
                  go_wp2
                  go_roundw
                  case rel => exact ⟨d + 1, by omega, by go_num, HN.out, HB4.out⟩
                  case measure => simp [intOf]; omega
              · have ht' : T3 c = false := by simpa using ht
                rw [ht'] at z1
                have HN : Hid (Blk wr (w.heap.size + 1) 4 (enB n (inR e c (d + 1) T2))) := Lib.hid (by
                  rw [HIS2.out, ← enB_eq n T3 _ (fun x => stepR_no e T3 c d (by rw [ht']; rfl) x)]
                  exact HT3.out)
                clear ht ht'
                go_wp2
                go_roundw
                case rel => exact ⟨d + 1, by omega, by go_num, HN.out, HB3.out⟩
                case measure => simp [intOf]; omega
            · obtain rfl : d = n := by omega
              have HN := Lib.hid hT
              have HBN := Lib.hid hb
              clear hT hb
              go_wp2
              go_roundw
              case rel => exact ⟨c + 1, by omega, by go_num, by rw [HMS2.out]; exact HN.out, HBN.out⟩
              case measure => simp [intOf]; omega
        · obtain rfl : c = n := by omega
          have HN := Lib.hid hT
          have HBN := Lib.hid hb
          clear hT hb
          go_wp2
          go_roundw
          case rel => exact ⟨r + 1, by omega, by go_num, by rw [HOS2.out]; exact HN.out, HBN.out⟩
          case measure => simp [intOf]; omega
    · obtain rfl : r = n := by omega
      go_wp2
      go_ret
      exact ⟨w.heap.size + 1, rfl, by omega, by rw [HRR.out, HTE.out]; exact HT1.out, HB0.out.trans (HB1.out.mono HB0.out.size)⟩
end Go.Proofs.Ytgfbihdnjidodaa

namespace Go.Proofs.Ytgfbihdnjidodaa
open Go.RowKit Go.Shelf Go.Proofs.Gr
attribute [local go_sem] Oper.semAt_some

/-- The first u hold what either table holds. -/
def orT (t r : Nat → Bool) (u : Nat) : Nat → Bool := fun v => if v < u then (t v || r v) else t v
theorem orT_zero (t r : Nat → Bool) (v : Nat) : orT t r 0 v = t v := by unfold orT; rw [if_neg (by omega)]
theorem orT_at (t r : Nat → Bool) (u : Nat) : orT t r u u = t u := by unfold orT; rw [if_neg (by omega)]
theorem orT_set (t r : Nat → Bool) (u v : Nat) : orT t r (u + 1) v = if v = u then (t u || r u) else orT t r u v := by
  unfold orT
  by_cases e : v = u
  · subst e; rw [if_pos (by omega), if_pos rfl]
  · rw [if_neg e]
    by_cases h : v < u
    · rw [if_pos h, if_pos (by omega)]
    · rw [if_neg h, if_neg (by omega)]
/-- What has been seen, and the number of parts. -/
def psR (L : List E) (n : Nat) : Nat → (Nat → Bool) × Nat
  | 0 => (fun _ => false, 0)
  | c + 1 => if (psR L n c).1 c = true then psR L n c else (orT (psR L n c).1 (reachR L n c) n, (psR L n c).2 + 1)
def partsR (L : List E) (n : Nat) : Nat := (psR L n n).2
theorem psR_le (L : List E) (n c : Nat) : (psR L n c).2 ≤ c := by
  induction c with
  | zero => simp [psR]
  | succ c ih =>
    rw [psR]
    split
    · omega
    · show (psR L n c).2 + 1 ≤ c + 1; omega

set_option maxHeartbeats 12800000 in
set_option maxRecDepth 100000 in
theorem rparts_any (n : Nat) (hn : n ≤ 100) (a : Option Addr) (cap : Nat) (L : List E) (hL : L.length ≤ 100000) (hs : L.Pairwise (fun x y => ltE x y = true)) (w : World) (h : EsAt w a L) :
    Calls Try.prog 37 #[gv n a L.length cap] w (GivesN w (partsR L n : Nat)) := by
  have HRE := Lib.hid (fun v hv w h => rreached_any n hn a cap L hL hs v hv w h)
  have HPR : Hid (partsR L n = (psR L n n).2) := Lib.hid rfl
  have HP0 : Hid (psR L n 0 = (fun _ => false, 0)) := Lib.hid rfl
  have HPS : Hid (∀ c, psR L n (c + 1) = if (psR L n c).1 c = true then psR L n c else (orT (psR L n c).1 (reachR L n c) n, (psR L n c).2 + 1)) := Lib.hid fun c => rfl
  have HPL := Lib.hid (fun c => psR_le L n c)
  generalize partsR L n = R at *
  unfold GivesN gv at *
  obtain ⟨W, hW⟩ : ∃ W, W = w.alloc (Obj.cells #[.int .i64 n, .slice a L.length cap] 31) := ⟨_, rfl⟩
  have hB0 : Below w.heap.size w W := by rw [hW]; exact (Below.refl _ w).alloc (Nat.le_refl _) _
  have hG : Blk W w.heap.size 31 #[.int .i64 n, .slice a L.length cap] := by rw [hW]; exact Blk.new _ _ _
  have hWs : W.heap.size = w.heap.size + 1 := by rw [hW]; simp
  have HWS := Lib.hid hWs
  have HW := Lib.hid hW
  have HB0 := Lib.hid hB0
  have HG := Lib.hid hG
  have HE := Lib.hid (h.keep hB0)
  have hmk : (Instr.makeSlice 85 (.int .i64 (n : Int)) (.int .i64 (n : Int))).run Try.prog (w.alloc (Obj.cells #[.int .i64 n, .slice a L.length cap] 31)) = .ok (.slice (some ⟨w.heap.size + 1, 0, none⟩) n n) (W.alloc (.cells (enB n fun _ => false) 4)) := by rw [← hW, ← hWs]; exact make_bools n hn W
  have HN0 : Hid (Blk (W.alloc (.cells (enB n fun _ => false) 4)) (w.heap.size + 1) 4 (enB n fun _ => false)) := Lib.hid (by rw [← hWs]; exact Blk.new _ _ _)
  have HBN0 : Hid (Below W.heap.size W (W.alloc (.cells (enB n fun _ => false) 4))) := Lib.hid ((Below.refl _ _).alloc (Nat.le_refl _) _)
  have n0 : (0 : Int) ≤ (n : Int) := by omega
  clear hB0 hG hW hWs h
  go_enter Try.func37, Try.ntmps37
  go_wp2
  clear hmk
  go_loopw [3, 5] (fun y x wr => ∃ c : Nat, c ≤ n ∧ x = .int .i64 c ∧ y = .int .i64 ((psR L n c).2 : Nat) ∧ Blk wr (w.heap.size + 1) 4 (enB n (psR L n c).1) ∧ Below W.heap.size W wr) (fun _ x _ => n - (intOf x).toNat)
  case atStart => exact ⟨0, by omega, rfl, rfl, HN0.out, HBN0.out⟩
  case round =>
    obtain ⟨c, hc, rfl, rfl, hT, hb⟩ := hrel
    have hg := HG.out.below hb HG.out.lt
    have g0 : wr.cell? ⟨w.heap.size, 0, none⟩ = some (.int .i64 n) := hg.cell 0
    have g1 : wr.cell? ⟨w.heap.size, 1, none⟩ = some (.slice a L.length cap) := hg.cell 1
    clear hg
    have hpl := HPL.out c
    have HPS2 := Lib.hid (HPS.out c)
    by_cases hlc : c < n
    · generalize psR L n c = st at *
      obtain ⟨T, q⟩ := st
      simp only at hT hpl HPS2
      have c1 : (c : Int) < (n : Int) := by omega
      have c0 : (0 : Int) ≤ (c : Int) := by omega
      have z1 : wr.cell? ⟨w.heap.size + 1, c, none⟩ = some (.bool (T c)) := (hT.cell c).trans (enB_at n T c hlc)
      have HT := Lib.hid hT
      have HBr := Lib.hid hb
      have HEr := Lib.hid (HE.out.keep hb)
      clear hT hb
      by_cases ht : T c = true
      · rw [ht] at z1
        have HPS3 : Hid (psR L n (c + 1) = (T, q)) := Lib.hid (by rw [HPS2.out, if_pos ht])
        clear ht hpl
        go_wp2
        go_roundw
        case rel => exact ⟨c + 1, by omega, by go_num, by rw [HPS3.out], by rw [HPS3.out]; exact HT.out, HBr.out⟩
        case measure => simp [intOf]; omega
      · have HPS3 : Hid (psR L n (c + 1) = (orT T (reachR L n c) n, q + 1)) := Lib.hid (by rw [HPS2.out, if_neg ht])
        have ht' : T c = false := by simpa using ht
        rw [ht'] at z1
        have HQ : Hid (IntKind.i64.wrap ((q : Int) + 1) = (q : Int) + 1) := Lib.hid (IntWalk.i64_in _ (by omega))
        have hq1 := HQ.out
        clear ht ht' hpl
        go_wp2_with fail
        refine (HRE.out c hlc _ HEr.out).mono ?_
        rintro e' w2 ⟨g, rfl, hgw, hR, hb2⟩
        generalize reachR L n c = r at *
        have HT2 : Hid (Blk w2 (w.heap.size + 1) 4 (enB n (orT T r 0))) := Lib.hid (by rw [← enB_eq n T _ (fun v => orT_zero T r v)]; exact HT.out.below hb2 HT.out.lt)
        have HR2 := Lib.hid hR
        have HB2 := Lib.hid (HBr.out.trans (hb2.mono HBr.out.size))
        have HNE : Hid (g ≠ w.heap.size + 1) := Lib.hid (by have := HT.out.lt; omega)
        clear hb2 hR hgw g0 g1 z1
        go_wp2
        go_loopw [7] (fun x wr => ∃ d : Nat, d ≤ n ∧ x = .int .i64 d ∧ Blk wr (w.heap.size + 1) 4 (enB n (orT T r d)) ∧ Blk wr g 4 (enB n r) ∧ Below W.heap.size W wr) (fun x _ => n - (intOf x).toNat)
        case atStart => exact ⟨0, by omega, rfl, HT2.out, HR2.out, HB2.out⟩
        case round =>
          obtain ⟨d, hd, rfl, hT, hR, hb⟩ := hrel
          have g0 : wr.cell? ⟨w.heap.size, 0, none⟩ = some (.int .i64 n) := (HG.out.below hb HG.out.lt).cell 0
          by_cases hld : d < n
          · have d1 : (d : Int) < (n : Int) := by omega
            have d0 : (0 : Int) ≤ (d : Int) := by omega
            have z1 : wr.cell? ⟨w.heap.size + 1, d, none⟩ = some (.bool (T d)) := (hT.cell d).trans ((enB_at n _ d hld).trans (by rw [orT_at]))
            have z2 : wr.cell? ⟨g, d, none⟩ = some (.bool (r d)) := (hR.cell d).trans (enB_at n r d hld)
            have z3 : wr.frozen? ⟨w.heap.size + 1, d, none⟩ = false := hT.frozen d
            have HN : Hid (∀ b, b = (T d || r d) → Blk (wr.setCell ⟨w.heap.size + 1, d, none⟩ (.bool b)) (w.heap.size + 1) 4 (enB n (orT T r (d + 1))) ∧ Blk (wr.setCell ⟨w.heap.size + 1, d, none⟩ (.bool b)) g 4 (enB n r) ∧ Below W.heap.size W (wr.setCell ⟨w.heap.size + 1, d, none⟩ (.bool b))) := Lib.hid fun b hbb => by
              refine ⟨?_, hR.far (p := ⟨w.heap.size + 1, d, none⟩) HNE.out _, hb.setCell (p := ⟨w.heap.size + 1, d, none⟩) (Nat.le_of_eq HWS.out) _⟩
              rw [← enB_set n (orT T r d) _ d b (fun v => by rw [hbb]; exact orT_set T r d v)]
              exact hT.set_ d _
            generalize T d = td at *
            generalize r d = rd at *
            clear hT hR hb
            cases td
            · have HN1 := Lib.hid (HN.out rd rfl)
              go_wp2
              go_roundw
              case rel => exact ⟨d + 1, by omega, by go_num, HN1.out.1, HN1.out.2.1, HN1.out.2.2⟩
              case measure => simp [intOf]; omega
            · have HN1 := Lib.hid (HN.out true rfl)
              go_wp2
              go_roundw
              case rel => exact ⟨d + 1, by omega, by go_num, HN1.out.1, HN1.out.2.1, HN1.out.2.2⟩
              case measure => simp [intOf]; omega
          · obtain rfl : d = n := by omega
            have HN := Lib.hid hT
            have HBN := Lib.hid hb
            clear hT hb hR
            go_wp2
            go_roundw
            case rel => exact ⟨c + 1, by omega, by go_num, by rw [HPS3.out]; rfl, by rw [HPS3.out]; exact HN.out, HBN.out⟩
            case measure => simp [intOf]; omega
    · obtain rfl : c = n := by omega
      have HBN := Lib.hid hb
      rw [← HPR.out]
      clear hb hT hpl
      go_wp2
      go_ret
      exact ⟨rfl, HB0.out.trans (HBN.out.mono HB0.out.size)⟩
end Go.Proofs.Ytgfbihdnjidodaa

namespace Go.Proofs.Ytgfbihdnjidodaa
open Go.RowKit Go.Shelf Go.Proofs.Gr
attribute [local go_sem] Oper.semAt_some

/-- The lesser and the greater end. -/
def mnP (p : Int × Int) : Int := if p.2 < p.1 then p.2 else p.1
def mxP (p : Int × Int) : Int := if p.1 < p.2 then p.2 else p.1
/-- How often the first pairs join two vertices. -/
def cntT (P : List (Int × Int)) : Nat → Nat → Nat → Int
  | 0 => fun _ _ => 0
  | i + 1 => fun x y => if x = (mnP (pAt P i)).toNat ∧ y = (mxP (pAt P i)).toNat then cntT P i x y + 1 else cntT P i x y
theorem cntT_le (P : List (Int × Int)) (i x y : Nat) : 0 ≤ cntT P i x y ∧ cntT P i x y ≤ i := by
  induction i with
  | zero => simp [cntT]
  | succ i ih =>
    show 0 ≤ (if x = (mnP (pAt P i)).toNat ∧ y = (mxP (pAt P i)).toNat then cntT P i x y + 1 else cntT P i x y) ∧ (if x = (mnP (pAt P i)).toNat ∧ y = (mxP (pAt P i)).toNat then cntT P i x y + 1 else cntT P i x y) ≤ ((i + 1 : Nat) : Int)
    split <;> omega
def pErr (n : Int) (P : List (Int × Int)) (i : Nat) : Nat := if isV n (pAt P i).1 = true ∧ isV n (pAt P i).2 = true then 0 else 2
set_option maxHeartbeats 12800000 in
set_option maxRecDepth 100000 in
theorem rmake_ok (n : Nat) (hn0 : 1 ≤ n) (hn : n ≤ 12) (b : Option Addr) (cp : Nat) (P : List (Int × Int)) (hP : P.length ≤ 4096) (w : World) (hp : PsAt w b P) :
    Calls Try.prog 45 #[.int .i64 n, .slice b P.length cp] w (fun e w' => ∃ k, GivesGE w (if k = 0 then n else 0) (if k = 0 then joinT (cntT P P.length) n n else []) k e w' ∧
      ((k = 2 ∧ ∃ j, j < P.length ∧ pErr n P j ≠ 0) ∨ (k = 5 ∧ (∀ j, j < P.length → pErr n P j = 0) ∧ ∃ x y, x < n ∧ y < n ∧ 50 < cntT P P.length x y) ∨ (k = 0 ∧ (∀ j, j < P.length → pErr n P j = 0) ∧ ∀ x y, x < n → y < n → cntT P P.length x y ≤ 50))) := by
  have HTB := Lib.hid (fun w => rtable_any n (by omega) w)
  have HJO := Lib.hid (fun v base G t hG w h => rjoined_any n (by omega) v base G t hG w h)
  have HCS : Hid (∀ i x y, cntT P (i + 1) x y = if x = (mnP (pAt P i)).toNat ∧ y = (mxP (pAt P i)).toNat then cntT P i x y + 1 else cntT P i x y) := Lib.hid fun i x y => rfl
  have HCL := Lib.hid (fun i x y => cntT_le P i x y)
  have HC0 : Hid (∀ x y, cntT P 0 x y = 0) := Lib.hid fun x y => rfl
  unfold GivesGE
  unfold GivesG gv at *
  obtain ⟨W, hW⟩ : ∃ W, W = w.alloc (Obj.cells #[.int .i64 0, .slice none 0 0] 31) := ⟨_, rfl⟩
  have hB0 : Below w.heap.size w W := by rw [hW]; exact (Below.refl _ w).alloc (Nat.le_refl _) _
  have hR : Blk W w.heap.size 31 #[.int .i64 0, .slice none 0 0] := by rw [hW]; exact Blk.new _ _ _
  have HW := Lib.hid hW
  have HB0 := Lib.hid hB0
  have HR1 := Lib.hid hR
  have HPs := Lib.hid (hp.keep hB0)
  have a1 : decide ((n : Int) < 1) = false := decide_eq_false (by omega)
  have a2 : decide (12 < (n : Int)) = false := decide_eq_false (by omega)
  have a3 : decide (4096 < ((P.length : Nat) : Int)) = false := decide_eq_false (by omega)
  clear hB0 hR hW hp
  go_enter Try.func45, Try.ntmps45
  go_wp2_with fail
  rw [← HW.out]
  refine (HTB.out W).mono ?_
  rintro e w1 ⟨v, G, rfl, hG, hT, hb⟩
  have HT0 : Hid (Tab w1 W.heap.size v n G (cntT P 0)) := Lib.hid (hT.congr hG fun x y _ _ => HC0.out x y)
  have HB1 := Lib.hid hb
  clear hT hb a1 a2 a3
  go_wp2
  go_loopw [7] (fun x wr => ∃ i : Nat, i ≤ P.length ∧ x = .int .i64 i ∧ (∀ j, j < i → pErr n P j = 0) ∧ Tab wr W.heap.size v n G (cntT P i) ∧ Below W.heap.size W wr) (fun x _ => P.length - (intOf x).toNat)
  case atStart => exact ⟨0, by omega, rfl, fun j hj => by omega, HT0.out, HB1.out⟩
  case round =>
    obtain ⟨i, hi, rfl, hz, hT, hb⟩ := hrel
    have HZ := Lib.hid hz
    by_cases hlt : i < P.length
    · obtain ⟨b1, o1, rfl, q1, x1, x2⟩ := (HPs.out.keep hb).two i hlt
      have HEr : Hid (pErr n P i = if isV n (pAt P i).1 = true ∧ isV n (pAt P i).2 = true then 0 else 2) := Lib.hid rfl
      have HC1 := Lib.hid (fun x y => HCS.out i x y)
      have hcl := HCL.out i
      generalize hTp : pAt P i = T at *
      obtain ⟨ta, tb⟩ := T
      simp only at x1 x2
      have i1 : (i : Int) < ((P.length : Nat) : Int) := by omega
      have i0 : (0 : Int) ≤ (i : Int) := by omega
      have HTr := Lib.hid hT
      have HBr := Lib.hid hb
      clear hTp hz hT hb
      by_cases hok : (0 ≤ ta ∧ ta < n) ∧ (0 ≤ tb ∧ tb < n)
      · have HE0 : Hid (pErr n P i = 0) := Lib.hid (by rw [HEr.out, if_pos]; simp [isV]; omega)
        obtain ⟨p, hp⟩ : ∃ p : Nat, (if tb < ta then tb else ta) = (p : Int) := ⟨(if tb < ta then tb else ta).toNat, by split <;> omega⟩
        obtain ⟨q, hq⟩ : ∃ q : Nat, (if ta < tb then tb else ta) = (q : Int) := ⟨(if ta < tb then tb else ta).toNat, by split <;> omega⟩
        have hpn : p < n := by split at hp <;> omega
        have hqn : q < n := by split at hq <;> omega
        have HM : Hid (mnP (ta, tb) = p ∧ mxP (ta, tb) = q) := Lib.hid ⟨hp, hq⟩
        obtain ⟨gb, c, g, hv, q2, q3, q4, y1, y2, y3, hset⟩ := HTr.out.at2 hG p q hpn hqn
        subst hv
        have hcb := hcl p q
        have w1' : IntKind.i64.wrap (cntT P i p q + 1) = cntT P i p q + 1 := IntWalk.i64_in _ (by omega)
        have HN : Hid (Tab (wr.setCell ⟨g, q, none⟩ (.int .i64 (cntT P i p q + 1))) W.heap.size (.slice (some ⟨gb, 0, none⟩) n c) n G (cntT P (i + 1))) := Lib.hid ((hset _).congr hG fun x y _ _ => by
          rw [HC1.out, HM.out.1, HM.out.2, Int.toNat_natCast, Int.toNat_natCast]
          by_cases e : x = p ∧ y = q
          · rw [if_pos e, if_pos e, e.1, e.2]
          · rw [if_neg e, if_neg e])
        have HBN : Hid (Below W.heap.size W (wr.setCell ⟨g, q, none⟩ (.int .i64 (cntT P i p q + 1)))) := Lib.hid (HBr.out.setCell (p := ⟨g, q, none⟩) q4 _)
        generalize cntT P i p q = cv at *
        have a1 : decide (ta < 0) = false := decide_eq_false (by omega)
        have a2 : decide ((n : Int) ≤ ta) = false := decide_eq_false (by omega)
        have a3 : decide (tb < 0) = false := decide_eq_false (by omega)
        have a4 : decide ((n : Int) ≤ tb) = false := decide_eq_false (by omega)
        have p1 : (p : Int) < (n : Int) := by omega
        have p0 : (0 : Int) ≤ (p : Int) := by omega
        have q1' : (q : Int) < (n : Int) := by omega
        have q0' : (0 : Int) ≤ (q : Int) := by omega
        have HNX : Hid (∀ j, j < i + 1 → pErr n P j = 0) := Lib.hid (fun j hj => by
          by_cases e : j = i
          · subst e; exact HE0.out
          · exact HZ.out j (by omega))
        clear hset hcb hcl hok
        go_wp2
        go_quiet (fail)
        go_wp2
        go_roundw
        case rel => exact ⟨i + 1, by omega, by go_num, HNX.out, ⟨HN.out.own, HN.out.row, HN.out.srt⟩, (below_drewN HBr.out _).setCell (p := ⟨g, q, none⟩) q4 _⟩
        case measure => simp [intOf]; omega
      · have HE2 : Hid (pErr n P i ≠ 0) := Lib.hid (by rw [HEr.out, if_neg]; omega; simp [isV]; omega)
        by_cases h1 : ta < 0
        · have a1 : decide (ta < 0) = true := decide_eq_true h1
          have HLT := Lib.hid hlt
          clear hok hcl
          go_wp2
          go_quiet (fail)
          have hbq : Below W.heap.size W (wr.drewN nq) := below_drewN HBr.out nq
          have hRr : Blk (wr.drewN nq) w.heap.size 31 #[.int .i64 0, .slice none 0 0] := HR1.out.below hbq HR1.out.lt
          have r1 : (wr.drewN nq).cell? ⟨w.heap.size, 0, none⟩ = some (.int .i64 0) := hRr.cell 0
          have r3 : (wr.drewN nq).frozen? ⟨w.heap.size, 0, none⟩ = false := hRr.frozen 0
          have r2 : ((wr.drewN nq).setCell ⟨w.heap.size, 0, none⟩ (.int .i64 0)).cell? ⟨w.heap.size, 1, none⟩ = some (.slice none 0 0) := (hRr.set_ 0 (.int .i64 0)).cell 1
          have r4 : ((wr.drewN nq).setCell ⟨w.heap.size, 0, none⟩ (.int .i64 0)).frozen? ⟨w.heap.size, 1, none⟩ = false := (hRr.set_ 0 (.int .i64 0)).frozen 1
          have hRf := (hRr.set_ 0 (.int .i64 0)).set_ 1 (.slice none 0 0)
          have r5 : (((wr.drewN nq).setCell ⟨w.heap.size, 0, none⟩ (.int .i64 0)).setCell ⟨w.heap.size, 1, none⟩ (.slice none 0 0)).cell? ⟨w.heap.size, 0, none⟩ = some (.int .i64 0) := hRf.cell 0
          have r6 : (((wr.drewN nq).setCell ⟨w.heap.size, 0, none⟩ (.int .i64 0)).setCell ⟨w.heap.size, 1, none⟩ (.slice none 0 0)).cell? ⟨w.heap.size, 1, none⟩ = some (.slice none 0 0) := hRf.cell 1
          have HBF : Hid (Below w.heap.size w (((wr.drewN nq).setCell ⟨w.heap.size, 0, none⟩ (.int .i64 0)).setCell ⟨w.heap.size, 1, none⟩ (.slice none 0 0))) := Lib.hid (((HB0.out.trans (hbq.mono HB0.out.size)).setCell (p := ⟨w.heap.size, 0, none⟩) (Nat.le_refl _) _).setCell (p := ⟨w.heap.size, 1, none⟩) (Nat.le_refl _) _)
          clear hRr hRf
          clear hbq
          go_wp2
          refine bodyPost_ret (v := .tuple #[.agg #[.int .i64 0, .slice none 0 0], .int .i64 2]) (by simp [results, Try.results45, go_sem, r5, r6]) rfl ?_
          exact ⟨2, ⟨none, 0, rfl, RowAt.nil _ _ _ _, World.ownsRow_nil _ _ _ _, HBF.out⟩, Or.inl ⟨rfl, i, HLT.out, HE2.out⟩⟩
        · skip
          by_cases h2 : (n : Int) ≤ ta
          · have a1 : decide (ta < 0) = false := decide_eq_false h1
            have a2 : decide ((n : Int) ≤ ta) = true := decide_eq_true h2
            have HLT := Lib.hid hlt
            clear hok hcl
            go_wp2
            go_quiet (fail)
            have hbq : Below W.heap.size W (wr.drewN nq) := below_drewN HBr.out nq
            have hRr : Blk (wr.drewN nq) w.heap.size 31 #[.int .i64 0, .slice none 0 0] := HR1.out.below hbq HR1.out.lt
            have r1 : (wr.drewN nq).cell? ⟨w.heap.size, 0, none⟩ = some (.int .i64 0) := hRr.cell 0
            have r3 : (wr.drewN nq).frozen? ⟨w.heap.size, 0, none⟩ = false := hRr.frozen 0
            have r2 : ((wr.drewN nq).setCell ⟨w.heap.size, 0, none⟩ (.int .i64 0)).cell? ⟨w.heap.size, 1, none⟩ = some (.slice none 0 0) := (hRr.set_ 0 (.int .i64 0)).cell 1
            have r4 : ((wr.drewN nq).setCell ⟨w.heap.size, 0, none⟩ (.int .i64 0)).frozen? ⟨w.heap.size, 1, none⟩ = false := (hRr.set_ 0 (.int .i64 0)).frozen 1
            have hRf := (hRr.set_ 0 (.int .i64 0)).set_ 1 (.slice none 0 0)
            have r5 : (((wr.drewN nq).setCell ⟨w.heap.size, 0, none⟩ (.int .i64 0)).setCell ⟨w.heap.size, 1, none⟩ (.slice none 0 0)).cell? ⟨w.heap.size, 0, none⟩ = some (.int .i64 0) := hRf.cell 0
            have r6 : (((wr.drewN nq).setCell ⟨w.heap.size, 0, none⟩ (.int .i64 0)).setCell ⟨w.heap.size, 1, none⟩ (.slice none 0 0)).cell? ⟨w.heap.size, 1, none⟩ = some (.slice none 0 0) := hRf.cell 1
            have HBF : Hid (Below w.heap.size w (((wr.drewN nq).setCell ⟨w.heap.size, 0, none⟩ (.int .i64 0)).setCell ⟨w.heap.size, 1, none⟩ (.slice none 0 0))) := Lib.hid (((HB0.out.trans (hbq.mono HB0.out.size)).setCell (p := ⟨w.heap.size, 0, none⟩) (Nat.le_refl _) _).setCell (p := ⟨w.heap.size, 1, none⟩) (Nat.le_refl _) _)
            clear hRr hRf
            clear hbq
            go_wp2
            refine bodyPost_ret (v := .tuple #[.agg #[.int .i64 0, .slice none 0 0], .int .i64 2]) (by simp [results, Try.results45, go_sem, r5, r6]) rfl ?_
            exact ⟨2, ⟨none, 0, rfl, RowAt.nil _ _ _ _, World.ownsRow_nil _ _ _ _, HBF.out⟩, Or.inl ⟨rfl, i, HLT.out, HE2.out⟩⟩
          · skip
            by_cases h3 : tb < 0
            · have a1 : decide (ta < 0) = false := decide_eq_false h1
              have a2 : decide ((n : Int) ≤ ta) = false := decide_eq_false h2
              have a3 : decide (tb < 0) = true := decide_eq_true h3
              have HLT := Lib.hid hlt
              clear hok hcl
              go_wp2
              go_quiet (fail)
              have hbq : Below W.heap.size W (wr.drewN nq) := below_drewN HBr.out nq
              have hRr : Blk (wr.drewN nq) w.heap.size 31 #[.int .i64 0, .slice none 0 0] := HR1.out.below hbq HR1.out.lt
              have r1 : (wr.drewN nq).cell? ⟨w.heap.size, 0, none⟩ = some (.int .i64 0) := hRr.cell 0
              have r3 : (wr.drewN nq).frozen? ⟨w.heap.size, 0, none⟩ = false := hRr.frozen 0
              have r2 : ((wr.drewN nq).setCell ⟨w.heap.size, 0, none⟩ (.int .i64 0)).cell? ⟨w.heap.size, 1, none⟩ = some (.slice none 0 0) := (hRr.set_ 0 (.int .i64 0)).cell 1
              have r4 : ((wr.drewN nq).setCell ⟨w.heap.size, 0, none⟩ (.int .i64 0)).frozen? ⟨w.heap.size, 1, none⟩ = false := (hRr.set_ 0 (.int .i64 0)).frozen 1
              have hRf := (hRr.set_ 0 (.int .i64 0)).set_ 1 (.slice none 0 0)
              have r5 : (((wr.drewN nq).setCell ⟨w.heap.size, 0, none⟩ (.int .i64 0)).setCell ⟨w.heap.size, 1, none⟩ (.slice none 0 0)).cell? ⟨w.heap.size, 0, none⟩ = some (.int .i64 0) := hRf.cell 0
              have r6 : (((wr.drewN nq).setCell ⟨w.heap.size, 0, none⟩ (.int .i64 0)).setCell ⟨w.heap.size, 1, none⟩ (.slice none 0 0)).cell? ⟨w.heap.size, 1, none⟩ = some (.slice none 0 0) := hRf.cell 1
              have HBF : Hid (Below w.heap.size w (((wr.drewN nq).setCell ⟨w.heap.size, 0, none⟩ (.int .i64 0)).setCell ⟨w.heap.size, 1, none⟩ (.slice none 0 0))) := Lib.hid (((HB0.out.trans (hbq.mono HB0.out.size)).setCell (p := ⟨w.heap.size, 0, none⟩) (Nat.le_refl _) _).setCell (p := ⟨w.heap.size, 1, none⟩) (Nat.le_refl _) _)
              clear hRr hRf
              clear hbq
              go_wp2
              refine bodyPost_ret (v := .tuple #[.agg #[.int .i64 0, .slice none 0 0], .int .i64 2]) (by simp [results, Try.results45, go_sem, r5, r6]) rfl ?_
              exact ⟨2, ⟨none, 0, rfl, RowAt.nil _ _ _ _, World.ownsRow_nil _ _ _ _, HBF.out⟩, Or.inl ⟨rfl, i, HLT.out, HE2.out⟩⟩
            · skip
              have a1 : decide (ta < 0) = false := decide_eq_false h1
              have a2 : decide ((n : Int) ≤ ta) = false := decide_eq_false h2
              have a3 : decide (tb < 0) = false := decide_eq_false h3
              have a4 : decide ((n : Int) ≤ tb) = true := decide_eq_true (by omega)
              have HLT := Lib.hid hlt
              clear hok hcl
              go_wp2
              go_quiet (fail)
              have hbq : Below W.heap.size W (wr.drewN nq) := below_drewN HBr.out nq
              have hRr : Blk (wr.drewN nq) w.heap.size 31 #[.int .i64 0, .slice none 0 0] := HR1.out.below hbq HR1.out.lt
              have r1 : (wr.drewN nq).cell? ⟨w.heap.size, 0, none⟩ = some (.int .i64 0) := hRr.cell 0
              have r3 : (wr.drewN nq).frozen? ⟨w.heap.size, 0, none⟩ = false := hRr.frozen 0
              have r2 : ((wr.drewN nq).setCell ⟨w.heap.size, 0, none⟩ (.int .i64 0)).cell? ⟨w.heap.size, 1, none⟩ = some (.slice none 0 0) := (hRr.set_ 0 (.int .i64 0)).cell 1
              have r4 : ((wr.drewN nq).setCell ⟨w.heap.size, 0, none⟩ (.int .i64 0)).frozen? ⟨w.heap.size, 1, none⟩ = false := (hRr.set_ 0 (.int .i64 0)).frozen 1
              have hRf := (hRr.set_ 0 (.int .i64 0)).set_ 1 (.slice none 0 0)
              have r5 : (((wr.drewN nq).setCell ⟨w.heap.size, 0, none⟩ (.int .i64 0)).setCell ⟨w.heap.size, 1, none⟩ (.slice none 0 0)).cell? ⟨w.heap.size, 0, none⟩ = some (.int .i64 0) := hRf.cell 0
              have r6 : (((wr.drewN nq).setCell ⟨w.heap.size, 0, none⟩ (.int .i64 0)).setCell ⟨w.heap.size, 1, none⟩ (.slice none 0 0)).cell? ⟨w.heap.size, 1, none⟩ = some (.slice none 0 0) := hRf.cell 1
              have HBF : Hid (Below w.heap.size w (((wr.drewN nq).setCell ⟨w.heap.size, 0, none⟩ (.int .i64 0)).setCell ⟨w.heap.size, 1, none⟩ (.slice none 0 0))) := Lib.hid (((HB0.out.trans (hbq.mono HB0.out.size)).setCell (p := ⟨w.heap.size, 0, none⟩) (Nat.le_refl _) _).setCell (p := ⟨w.heap.size, 1, none⟩) (Nat.le_refl _) _)
              clear hRr hRf
              clear hbq
              go_wp2
              refine bodyPost_ret (v := .tuple #[.agg #[.int .i64 0, .slice none 0 0], .int .i64 2]) (by simp [results, Try.results45, go_sem, r5, r6]) rfl ?_
              exact ⟨2, ⟨none, 0, rfl, RowAt.nil _ _ _ _, World.ownsRow_nil _ _ _ _, HBF.out⟩, Or.inl ⟨rfl, i, HLT.out, HE2.out⟩⟩
    · obtain rfl : i = P.length := by omega
      obtain ⟨t, ht⟩ : ∃ t : Nat → Nat → Int, t = cntT P P.length := ⟨_, rfl⟩
      rw [← ht] at hT
      have HTE := Lib.hid ht
      have HTS := Lib.hid hT
      have HBS := Lib.hid hb
      clear hT hb hz ht
      go_wp2
      go_loopw [10] (fun z wr => ∃ x : Nat, x ≤ n ∧ z = .int .i64 x ∧ (∀ a b, a < x → b < n → t a b ≤ 50) ∧ Tab wr W.heap.size v n G t ∧ Below W.heap.size W wr) (fun z _ => n - (intOf z).toNat)
      case atStart => exact ⟨0, by omega, rfl, fun a b ha => by omega, HTS.out, HBS.out⟩
      case round =>
        obtain ⟨x, hx, rfl, hl, hT, hb⟩ := hrel
        by_cases hlx : x < n
        · have x1 : (x : Int) < (n : Int) := by omega
          have x0 : (0 : Int) ≤ (x : Int) := by omega
          have HLS := Lib.hid hl
          have HTx := Lib.hid hT
          have HBx := Lib.hid hb
          clear hT hb hl
          go_wp2
          go_loopw [11] (fun z wr => ∃ y : Nat, y ≤ n ∧ z = .int .i64 y ∧ (∀ b, b < y → t x b ≤ 50) ∧ Tab wr W.heap.size v n G t ∧ Below W.heap.size W wr) (fun z _ => n - (intOf z).toNat)
          case atStart => exact ⟨0, by omega, rfl, fun b hb => by omega, HTx.out, HBx.out⟩
          case round =>
            obtain ⟨y, hy, rfl, hl, hT, hb⟩ := hrel
            by_cases hly : y < n
            · obtain ⟨gb, c, g, hv, q2, q3, q4, y1, y2, -, -⟩ := hT.at2 hG x y hlx hly
              have HLY := Lib.hid hl
              have HTy := Lib.hid hT
              have HBy := Lib.hid hb
              have j1 : (y : Int) < (n : Int) := by omega
              have j0 : (0 : Int) ≤ (y : Int) := by omega
              subst hv
              by_cases h50 : 50 < t x y
              · have HBIG : Hid (∃ x y, x < n ∧ y < n ∧ 50 < t x y) := Lib.hid ⟨x, y, hlx, hly, h50⟩
                generalize t x y = z at *
                have hRr : Blk wr w.heap.size 31 #[.int .i64 0, .slice none 0 0] := HR1.out.below hb HR1.out.lt
                have r1 : wr.cell? ⟨w.heap.size, 0, none⟩ = some (.int .i64 0) := hRr.cell 0
                have r3 : wr.frozen? ⟨w.heap.size, 0, none⟩ = false := hRr.frozen 0
                have r2 : (wr.setCell ⟨w.heap.size, 0, none⟩ (.int .i64 0)).cell? ⟨w.heap.size, 1, none⟩ = some (.slice none 0 0) := (hRr.set_ 0 (.int .i64 0)).cell 1
                have r4 : (wr.setCell ⟨w.heap.size, 0, none⟩ (.int .i64 0)).frozen? ⟨w.heap.size, 1, none⟩ = false := (hRr.set_ 0 (.int .i64 0)).frozen 1
                have hRf := (hRr.set_ 0 (.int .i64 0)).set_ 1 (.slice none 0 0)
                have r5 : ((wr.setCell ⟨w.heap.size, 0, none⟩ (.int .i64 0)).setCell ⟨w.heap.size, 1, none⟩ (.slice none 0 0)).cell? ⟨w.heap.size, 0, none⟩ = some (.int .i64 0) := hRf.cell 0
                have r6 : ((wr.setCell ⟨w.heap.size, 0, none⟩ (.int .i64 0)).setCell ⟨w.heap.size, 1, none⟩ (.slice none 0 0)).cell? ⟨w.heap.size, 1, none⟩ = some (.slice none 0 0) := hRf.cell 1
                have HBF : Hid (Below w.heap.size w ((wr.setCell ⟨w.heap.size, 0, none⟩ (.int .i64 0)).setCell ⟨w.heap.size, 1, none⟩ (.slice none 0 0))) := Lib.hid (((HB0.out.trans (hb.mono HB0.out.size)).setCell (p := ⟨w.heap.size, 0, none⟩) (Nat.le_refl _) _).setCell (p := ⟨w.heap.size, 1, none⟩) (Nat.le_refl _) _)
                clear hRr hRf
                clear hb hl hT
                go_wp2
                refine bodyPost_ret (v := .tuple #[.agg #[.int .i64 0, .slice none 0 0], .int .i64 5]) (by simp [results, Try.results45, go_sem, r5, r6]) rfl ?_
                exact ⟨5, ⟨none, 0, rfl, RowAt.nil _ _ _ _, World.ownsRow_nil _ _ _ _, HBF.out⟩, Or.inr (Or.inl ⟨rfl, HZ.out, by rw [← HTE.out]; exact HBIG.out⟩)⟩
              · have HLN : Hid (∀ b, b < y + 1 → t x b ≤ 50) := Lib.hid fun b hb => by
                  by_cases e : b = y
                  · subst e; omega
                  · exact HLY.out b (by omega)
                generalize t x y = z at *
                clear hb hl hT
                go_wp2
                go_roundw
                case rel => exact ⟨y + 1, by omega, by go_num, HLN.out, HTy.out, HBy.out⟩
                case measure => simp [intOf]; omega
            · obtain rfl : y = n := by omega
              have HLN : Hid (∀ a b, a < x + 1 → b < y → t a b ≤ 50) := Lib.hid fun a b ha hb => by
                by_cases e : a = x
                · subst e; exact hl b hb
                · exact HLS.out a b (by omega) hb
              have HTy := Lib.hid hT
              have HBy := Lib.hid hb
              clear hb hl hT
              go_wp2
              go_roundw
              case rel => exact ⟨x + 1, by omega, by go_num, HLN.out, HTy.out, HBy.out⟩
              case measure => simp [intOf]; omega
        · obtain rfl : x = n := by omega
          have HLX := Lib.hid hl
          have HTr := Lib.hid hT
          have HBr := Lib.hid hb
          have HRr := Lib.hid (HR1.out.below hb HR1.out.lt)
          clear hT hb hl
          go_wp2_with fail
          refine (HJO.out _ _ _ _ hG _ HTr.out).mono ?_
          rintro e w2 ⟨a2, c2, rfl, -, he2, hb2⟩
          generalize hMM : joinT t x x = M at *
          have hlt := HRr.out.lt
          have e0 := ownsRow_setCell_below (ownsRow_setCell_below he2 (a := ⟨w.heap.size, 0, none⟩) hlt (.int .i64 (x : Nat))) (a := ⟨w.heap.size, 1, none⟩) hlt (.slice a2 M.length c2)
          have E3 := Lib.hid (e0.mono (base' := w.heap.size) (by omega))
          obtain ⟨a', c', e1, e2⟩ := RowAt.of_own encE_len3 e0
          have E1 := Lib.hid e1
          have E2 := Lib.hid e2
          have hbW : Below W.heap.size W w2 := HBr.out.trans (hb2.mono HBr.out.size)
          have hRr : Blk w2 w.heap.size 31 #[.int .i64 0, .slice none 0 0] := HR1.out.below hbW HR1.out.lt
          have r1 : w2.cell? ⟨w.heap.size, 0, none⟩ = some (.int .i64 0) := hRr.cell 0
          have r3 : w2.frozen? ⟨w.heap.size, 0, none⟩ = false := hRr.frozen 0
          have r2 : (w2.setCell ⟨w.heap.size, 0, none⟩ (.int .i64 x)).cell? ⟨w.heap.size, 1, none⟩ = some (.slice none 0 0) := (hRr.set_ 0 (.int .i64 x)).cell 1
          have r4 : (w2.setCell ⟨w.heap.size, 0, none⟩ (.int .i64 x)).frozen? ⟨w.heap.size, 1, none⟩ = false := (hRr.set_ 0 (.int .i64 x)).frozen 1
          have hRf := (hRr.set_ 0 (.int .i64 x)).set_ 1 (.slice a2 M.length c2)
          have r5 : ((w2.setCell ⟨w.heap.size, 0, none⟩ (.int .i64 x)).setCell ⟨w.heap.size, 1, none⟩ (.slice a2 M.length c2)).cell? ⟨w.heap.size, 0, none⟩ = some (.int .i64 x) := hRf.cell 0
          have r6 : ((w2.setCell ⟨w.heap.size, 0, none⟩ (.int .i64 x)).setCell ⟨w.heap.size, 1, none⟩ (.slice a2 M.length c2)).cell? ⟨w.heap.size, 1, none⟩ = some (.slice a2 M.length c2) := hRf.cell 1
          have HBF : Hid (Below w.heap.size w ((w2.setCell ⟨w.heap.size, 0, none⟩ (.int .i64 x)).setCell ⟨w.heap.size, 1, none⟩ (.slice a2 M.length c2))) := Lib.hid (((HB0.out.trans (hbW.mono HB0.out.size)).setCell (p := ⟨w.heap.size, 0, none⟩) (Nat.le_refl _) _).setCell (p := ⟨w.heap.size, 1, none⟩) (Nat.le_refl _) _)
          clear hRr hRf
          clear hb2 he2 e0 e1 e2 hlt hbW
          go_wp2
          refine bodyPost_ret (v := .tuple #[.agg #[.int .i64 (x : Nat), .slice a2 M.length c2], .int .i64 0]) (by simp [results, Try.results45, go_sem, r5, r6]) rfl ?_
          injection E1.out with q1 q2 q3
          have hq := E2.out
          rw [← q1] at hq
          refine ⟨0, ?_, Or.inr (Or.inr ⟨rfl, HZ.out, by rw [← HTE.out]; exact fun a b ha hb => HLX.out a b ha hb⟩)⟩
          rw [if_pos rfl, if_pos rfl, ← HTE.out, hMM]
          exact ⟨a2, c2, rfl, hq, E3.out, HBF.out⟩
set_option maxHeartbeats 12800000 in
set_option maxRecDepth 100000 in
theorem rmake_n0 (n : Int) (hn : n < 1) (b : Option Addr) (cp : Nat) (P : List (Int × Int))  (w : World) :
    Calls Try.prog 45 #[.int .i64 n, .slice b P.length cp] w (GivesGE w 0 [] 2) := by
  unfold GivesGE gv
  obtain ⟨W, hW⟩ : ∃ W, W = w.alloc (Obj.cells #[.int .i64 0, .slice none 0 0] 31) := ⟨_, rfl⟩
  have hB0 : Below w.heap.size w W := by rw [hW]; exact (Below.refl _ w).alloc (Nat.le_refl _) _
  have hR : Blk W w.heap.size 31 #[.int .i64 0, .slice none 0 0] := by rw [hW]; exact Blk.new _ _ _
  have HW := Lib.hid hW
  have HB0 := Lib.hid hB0
  have HR1 := Lib.hid hR
  have hbr := Below.refl W.heap.size W
  have a1 : decide (n < 1) = true := decide_eq_true hn
  have hRr : Blk W w.heap.size 31 #[.int .i64 0, .slice none 0 0] := HR1.out.below hbr HR1.out.lt
  have r1 : W.cell? ⟨w.heap.size, 0, none⟩ = some (.int .i64 0) := hRr.cell 0
  have r3 : W.frozen? ⟨w.heap.size, 0, none⟩ = false := hRr.frozen 0
  have r2 : (W.setCell ⟨w.heap.size, 0, none⟩ (.int .i64 0)).cell? ⟨w.heap.size, 1, none⟩ = some (.slice none 0 0) := (hRr.set_ 0 (.int .i64 0)).cell 1
  have r4 : (W.setCell ⟨w.heap.size, 0, none⟩ (.int .i64 0)).frozen? ⟨w.heap.size, 1, none⟩ = false := (hRr.set_ 0 (.int .i64 0)).frozen 1
  have hRf := (hRr.set_ 0 (.int .i64 0)).set_ 1 (.slice none 0 0)
  have r5 : ((W.setCell ⟨w.heap.size, 0, none⟩ (.int .i64 0)).setCell ⟨w.heap.size, 1, none⟩ (.slice none 0 0)).cell? ⟨w.heap.size, 0, none⟩ = some (.int .i64 0) := hRf.cell 0
  have r6 : ((W.setCell ⟨w.heap.size, 0, none⟩ (.int .i64 0)).setCell ⟨w.heap.size, 1, none⟩ (.slice none 0 0)).cell? ⟨w.heap.size, 1, none⟩ = some (.slice none 0 0) := hRf.cell 1
  have HBF : Hid (Below w.heap.size w ((W.setCell ⟨w.heap.size, 0, none⟩ (.int .i64 0)).setCell ⟨w.heap.size, 1, none⟩ (.slice none 0 0))) := Lib.hid (((HB0.out.trans (hbr.mono HB0.out.size)).setCell (p := ⟨w.heap.size, 0, none⟩) (Nat.le_refl _) _).setCell (p := ⟨w.heap.size, 1, none⟩) (Nat.le_refl _) _)
  clear hRr hRf
  clear hbr hB0 hR
  rw [hW] at r1 r2 r3 r4 r5 r6 HBF
  clear hW
  go_enter Try.func45, Try.ntmps45
  go_wp2
  refine bodyPost_ret (v := .tuple #[.agg #[.int .i64 0, .slice none 0 0], .int .i64 2]) (by simp [results, Try.results45, go_sem]) rfl ?_
  exact ⟨none, 0, rfl, RowAt.nil _ _ _ _, World.ownsRow_nil _ _ _ _, (Below.refl _ w).alloc (Nat.le_refl _) _⟩
set_option maxHeartbeats 12800000 in
set_option maxRecDepth 100000 in
theorem rmake_n1 (n : Int) (hn : 12 < n) (b : Option Addr) (cp : Nat) (P : List (Int × Int))  (w : World) :
    Calls Try.prog 45 #[.int .i64 n, .slice b P.length cp] w (GivesGE w 0 [] 2) := by
  unfold GivesGE gv
  obtain ⟨W, hW⟩ : ∃ W, W = w.alloc (Obj.cells #[.int .i64 0, .slice none 0 0] 31) := ⟨_, rfl⟩
  have hB0 : Below w.heap.size w W := by rw [hW]; exact (Below.refl _ w).alloc (Nat.le_refl _) _
  have hR : Blk W w.heap.size 31 #[.int .i64 0, .slice none 0 0] := by rw [hW]; exact Blk.new _ _ _
  have HW := Lib.hid hW
  have HB0 := Lib.hid hB0
  have HR1 := Lib.hid hR
  have hbr := Below.refl W.heap.size W
  have a1 : decide (n < 1) = false := decide_eq_false (by omega)
  have a2 : decide (12 < n) = true := decide_eq_true hn
  have hRr : Blk W w.heap.size 31 #[.int .i64 0, .slice none 0 0] := HR1.out.below hbr HR1.out.lt
  have r1 : W.cell? ⟨w.heap.size, 0, none⟩ = some (.int .i64 0) := hRr.cell 0
  have r3 : W.frozen? ⟨w.heap.size, 0, none⟩ = false := hRr.frozen 0
  have r2 : (W.setCell ⟨w.heap.size, 0, none⟩ (.int .i64 0)).cell? ⟨w.heap.size, 1, none⟩ = some (.slice none 0 0) := (hRr.set_ 0 (.int .i64 0)).cell 1
  have r4 : (W.setCell ⟨w.heap.size, 0, none⟩ (.int .i64 0)).frozen? ⟨w.heap.size, 1, none⟩ = false := (hRr.set_ 0 (.int .i64 0)).frozen 1
  have hRf := (hRr.set_ 0 (.int .i64 0)).set_ 1 (.slice none 0 0)
  have r5 : ((W.setCell ⟨w.heap.size, 0, none⟩ (.int .i64 0)).setCell ⟨w.heap.size, 1, none⟩ (.slice none 0 0)).cell? ⟨w.heap.size, 0, none⟩ = some (.int .i64 0) := hRf.cell 0
  have r6 : ((W.setCell ⟨w.heap.size, 0, none⟩ (.int .i64 0)).setCell ⟨w.heap.size, 1, none⟩ (.slice none 0 0)).cell? ⟨w.heap.size, 1, none⟩ = some (.slice none 0 0) := hRf.cell 1
  have HBF : Hid (Below w.heap.size w ((W.setCell ⟨w.heap.size, 0, none⟩ (.int .i64 0)).setCell ⟨w.heap.size, 1, none⟩ (.slice none 0 0))) := Lib.hid (((HB0.out.trans (hbr.mono HB0.out.size)).setCell (p := ⟨w.heap.size, 0, none⟩) (Nat.le_refl _) _).setCell (p := ⟨w.heap.size, 1, none⟩) (Nat.le_refl _) _)
  clear hRr hRf
  clear hbr hB0 hR
  rw [hW] at r1 r2 r3 r4 r5 r6 HBF
  clear hW
  go_enter Try.func45, Try.ntmps45
  go_wp2
  refine bodyPost_ret (v := .tuple #[.agg #[.int .i64 0, .slice none 0 0], .int .i64 2]) (by simp [results, Try.results45, go_sem]) rfl ?_
  exact ⟨none, 0, rfl, RowAt.nil _ _ _ _, World.ownsRow_nil _ _ _ _, (Below.refl _ w).alloc (Nat.le_refl _) _⟩
set_option maxHeartbeats 12800000 in
set_option maxRecDepth 100000 in
theorem rmake_many (n : Int) (hn0 : 1 ≤ n) (hn : n ≤ 12) (b : Option Addr) (cp : Nat) (P : List (Int × Int)) (hP : 4096 < P.length) (w : World) :
    Calls Try.prog 45 #[.int .i64 n, .slice b P.length cp] w (GivesGE w 0 [] 5) := by
  unfold GivesGE gv
  obtain ⟨W, hW⟩ : ∃ W, W = w.alloc (Obj.cells #[.int .i64 0, .slice none 0 0] 31) := ⟨_, rfl⟩
  have hB0 : Below w.heap.size w W := by rw [hW]; exact (Below.refl _ w).alloc (Nat.le_refl _) _
  have hR : Blk W w.heap.size 31 #[.int .i64 0, .slice none 0 0] := by rw [hW]; exact Blk.new _ _ _
  have HW := Lib.hid hW
  have HB0 := Lib.hid hB0
  have HR1 := Lib.hid hR
  have hbr := Below.refl W.heap.size W
  have a1 : decide (n < 1) = false := decide_eq_false (by omega)
  have a2 : decide (12 < n) = false := decide_eq_false (by omega)
  have a3 : decide (4096 < ((P.length : Nat) : Int)) = true := decide_eq_true (by omega)
  have hRr : Blk W w.heap.size 31 #[.int .i64 0, .slice none 0 0] := HR1.out.below hbr HR1.out.lt
  have r1 : W.cell? ⟨w.heap.size, 0, none⟩ = some (.int .i64 0) := hRr.cell 0
  have r3 : W.frozen? ⟨w.heap.size, 0, none⟩ = false := hRr.frozen 0
  have r2 : (W.setCell ⟨w.heap.size, 0, none⟩ (.int .i64 0)).cell? ⟨w.heap.size, 1, none⟩ = some (.slice none 0 0) := (hRr.set_ 0 (.int .i64 0)).cell 1
  have r4 : (W.setCell ⟨w.heap.size, 0, none⟩ (.int .i64 0)).frozen? ⟨w.heap.size, 1, none⟩ = false := (hRr.set_ 0 (.int .i64 0)).frozen 1
  have hRf := (hRr.set_ 0 (.int .i64 0)).set_ 1 (.slice none 0 0)
  have r5 : ((W.setCell ⟨w.heap.size, 0, none⟩ (.int .i64 0)).setCell ⟨w.heap.size, 1, none⟩ (.slice none 0 0)).cell? ⟨w.heap.size, 0, none⟩ = some (.int .i64 0) := hRf.cell 0
  have r6 : ((W.setCell ⟨w.heap.size, 0, none⟩ (.int .i64 0)).setCell ⟨w.heap.size, 1, none⟩ (.slice none 0 0)).cell? ⟨w.heap.size, 1, none⟩ = some (.slice none 0 0) := hRf.cell 1
  have HBF : Hid (Below w.heap.size w ((W.setCell ⟨w.heap.size, 0, none⟩ (.int .i64 0)).setCell ⟨w.heap.size, 1, none⟩ (.slice none 0 0))) := Lib.hid (((HB0.out.trans (hbr.mono HB0.out.size)).setCell (p := ⟨w.heap.size, 0, none⟩) (Nat.le_refl _) _).setCell (p := ⟨w.heap.size, 1, none⟩) (Nat.le_refl _) _)
  clear hRr hRf
  clear hbr hB0 hR
  rw [hW] at r1 r2 r3 r4 r5 r6 HBF
  clear hW
  go_enter Try.func45, Try.ntmps45
  go_wp2
  refine bodyPost_ret (v := .tuple #[.agg #[.int .i64 0, .slice none 0 0], .int .i64 5]) (by simp [results, Try.results45, go_sem]) rfl ?_
  exact ⟨none, 0, rfl, RowAt.nil _ _ _ _, World.ownsRow_nil _ _ _ _, (Below.refl _ w).alloc (Nat.le_refl _) _⟩
end Go.Proofs.Ytgfbihdnjidodaa

namespace Go.Proofs.Ytgfbihdnjidodaa
open Go.Proofs.Gr

/-- Joined by a way. -/
inductive Cn (e : Nat → Nat → Bool) (n : Nat) (u : Nat) : Nat → Prop
  | refl : Cn e n u u
  | step {v w : Nat} : Cn e n u v → v < n → w < n → e v w = true → Cn e n u w
theorem Cn.trans {e : Nat → Nat → Bool} {n u v w : Nat} (h : Cn e n u v) (k : Cn e n v w) : Cn e n u w := by
  induction k with
  | refl => exact h
  | step _ h1 h2 h3 ih => exact .step ih h1 h2 h3
theorem Cn.symm {e : Nat → Nat → Bool} (hs : ∀ a b, e a b = e b a) {n u v : Nat} (h : Cn e n u v) : Cn e n v u := by
  induction h with
  | refl => exact .refl
  | step _ h1 h2 h3 ih => exact Cn.trans (.step .refl h2 h1 (by rw [hs]; exact h3)) ih
theorem Cn.lt {e : Nat → Nat → Bool} {n u v : Nat} (h : Cn e n u v) (hu : u < n) : v < n := by
  cases h with
  | refl => exact hu
  | step _ _ h2 _ => exact h2
/-- How many of the first n fulfil p. -/
def cntB (p : Nat → Bool) : Nat → Nat
  | 0 => 0
  | n + 1 => cntB p n + (if p n = true then 1 else 0)
theorem cntB_le (p : Nat → Bool) (n : Nat) : cntB p n ≤ n := by
  induction n with
  | zero => exact Nat.le_refl _
  | succ n ih => rw [cntB]; split <;> omega
theorem cntB_mono (p q : Nat → Bool) (n : Nat) (h : ∀ v, v < n → p v = true → q v = true) : cntB p n ≤ cntB q n := by
  induction n with
  | zero => exact Nat.le_refl _
  | succ n ih =>
    have h1 := ih fun v hv => h v (by omega)
    rw [cntB, cntB]
    by_cases e : p n = true
    · rw [if_pos e, if_pos (h n (by omega) e)]; omega
    · rw [if_neg e]; omega
theorem cntB_lt (p q : Nat → Bool) (n b : Nat) (h : ∀ v, v < n → p v = true → q v = true) (hb : b < n) (h1 : p b = false) (h2 : q b = true) : cntB p n < cntB q n := by
  induction n with
  | zero => omega
  | succ n ih =>
    rw [cntB, cntB]
    by_cases e : b = n
    · subst e
      have := cntB_mono p q b fun v hv => h v (by omega)
      rw [h1, h2]; simp; omega
    · have h3 := ih (fun v hv => h v (by omega)) (by omega)
      by_cases e : p n = true
      · rw [if_pos e, if_pos (h n (by omega) e)]; omega
      · rw [if_neg e]; omega
theorem cntB_congr (p q : Nat → Bool) (n : Nat) (h : ∀ v, v < n → p v = q v) : cntB p n = cntB q n := by
  induction n with
  | zero => rfl
  | succ n ih => rw [cntB, cntB, ih fun v hv => h v (by omega), h n (by omega)]
theorem cntB_but (p q : Nat → Bool) (n j : Nat) (hj : j < n) (hp : p j = true) (h : ∀ v, v < n → q v = (p v && decide (v ≠ j))) : cntB p n = cntB q n + 1 := by
  induction n with
  | zero => omega
  | succ n ih =>
    rw [cntB, cntB, h n (by omega)]
    by_cases e : j = n
    · subst e
      rw [cntB_congr p q j fun v hv => by rw [h v (by omega), decide_eq_true (by omega), Bool.and_true]]
      simp [hp]
    · have e2 : decide (n ≠ j) = true := by rw [decide_eq_true_eq]; omega
      rw [ih (by omega) fun v hv => h v (by omega), e2, Bool.and_true]
      omega
theorem cntB_one (p : Nat → Bool) (n j : Nat) (hj : j < n) (hp : p j = true) : 1 ≤ cntB p n := by
  induction n with
  | zero => omega
  | succ n ih =>
    rw [cntB]
    by_cases e : j = n
    · subst e; rw [if_pos hp]; omega
    · have := ih (by omega); omega
theorem cntB_filter (p : Nat → Bool) (n : Nat) : cntB p n = ((List.range n).filter p).length := by
  induction n with
  | zero => rfl
  | succ n ih =>
    rw [cntB, ih, List.range_succ, List.filter_append, List.length_append]
    by_cases e : p n = true
    · simp [e]
    · simp [e]

/-- Reaching. -/
theorem stepR_mono (e : Nat → Nat → Bool) (t : Nat → Bool) (a b v : Nat) (h : t v = true) : stepR e t a b v = true := by
  unfold stepR; split
  · subst_vars; rw [h]; rfl
  · exact h
theorem inR_mono (e : Nat → Nat → Bool) (a c : Nat) (t : Nat → Bool) (v : Nat) (h : t v = true) : inR e a c t v = true := by
  induction c with
  | zero => exact h
  | succ c ih => exact stepR_mono e _ a c v ih
theorem inR_mono2 (e : Nat → Nat → Bool) (a b c : Nat) (t : Nat → Bool) (v : Nat) (h : inR e a b t v = true) (hb : b ≤ c) : inR e a c t v = true := by
  induction c with
  | zero => obtain rfl : b = 0 := by omega
            exact h
  | succ c ih =>
    by_cases e' : b = c + 1
    · subst e'; exact h
    · exact stepR_mono e _ a c v (ih (by omega))
theorem midR_mono (e : Nat → Nat → Bool) (n c : Nat) (t : Nat → Bool) (v : Nat) (h : t v = true) : midR e n c t v = true := by
  induction c with
  | zero => exact h
  | succ c ih => exact inR_mono e c n _ v ih
theorem midR_mono2 (e : Nat → Nat → Bool) (n b c : Nat) (t : Nat → Bool) (v : Nat) (h : midR e n b t v = true) (hb : b ≤ c) : midR e n c t v = true := by
  induction c with
  | zero => obtain rfl : b = 0 := by omega
            exact h
  | succ c ih =>
    by_cases e' : b = c + 1
    · subst e'; exact h
    · exact inR_mono e c n _ v (ih (by omega))
theorem outR_mono (e : Nat → Nat → Bool) (n r : Nat) (t : Nat → Bool) (v : Nat) (h : t v = true) : outR e n r t v = true := by
  induction r with
  | zero => exact h
  | succ r ih => exact midR_mono e n n _ v ih
theorem midR_next (e : Nat → Nat → Bool) (n : Nat) (t : Nat → Bool) (a b : Nat) (ha : a < n) (hb : b < n) (h : t a = true) (he : e a b = true) : midR e n n t b = true := by
  refine midR_mono2 e n (a + 1) n t b ?_ (by omega)
  rw [midR]
  refine inR_mono2 e a (b + 1) n _ b ?_ (by omega)
  rw [inR]
  unfold stepR
  rw [if_pos rfl, inR_mono e a b _ a (midR_mono e n a t a h), he]; simp
theorem inR_sound (e : Nat → Nat → Bool) (n : Nat) (P : Nat → Prop) (hP : ∀ a b, a < n → b < n → P a → e a b = true → P b) (a : Nat) (ha : a < n) (c : Nat) (hc : c ≤ n) (t : Nat → Bool) (ht : ∀ v, t v = true → P v) : ∀ v, inR e a c t v = true → P v := by
  induction c with
  | zero => exact ht
  | succ c ih =>
    have h1 := ih (by omega)
    intro v hv
    rw [inR] at hv
    unfold stepR at hv
    split at hv
    · subst_vars
      simp only [Bool.or_eq_true, Bool.and_eq_true] at hv
      rcases hv with hv | ⟨h2, h3⟩
      · exact h1 _ hv
      · exact hP a _ ha (by omega) (h1 a h2) h3
    · exact h1 v hv
theorem midR_sound (e : Nat → Nat → Bool) (n : Nat) (P : Nat → Prop) (hP : ∀ a b, a < n → b < n → P a → e a b = true → P b) (c : Nat) (hc : c ≤ n) (t : Nat → Bool) (ht : ∀ v, t v = true → P v) : ∀ v, midR e n c t v = true → P v := by
  induction c with
  | zero => exact ht
  | succ c ih => exact inR_sound e n P hP c (by omega) n (Nat.le_refl _) _ (ih (by omega))
theorem outR_sound (e : Nat → Nat → Bool) (n : Nat) (P : Nat → Prop) (hP : ∀ a b, a < n → b < n → P a → e a b = true → P b) (r : Nat) (t : Nat → Bool) (ht : ∀ v, t v = true → P v) : ∀ v, outR e n r t v = true → P v := by
  induction r with
  | zero => exact ht
  | succ r ih => exact midR_sound e n P hP n (Nat.le_refl _) _ ih
def Closed (e : Nat → Nat → Bool) (n : Nat) (t : Nat → Bool) : Prop := ∀ a b, a < n → b < n → t a = true → e a b = true → t b = true
theorem outR_closed (e : Nat → Nat → Bool) (n : Nat) (t : Nat → Bool) (h : 1 ≤ cntB t n) (r : Nat) : Closed e n (outR e n r t) ∨ r + 1 ≤ cntB (outR e n r t) n := by
  induction r with
  | zero => exact .inr h
  | succ r ih =>
    rw [outR]
    by_cases hc : Closed e n (outR e n r t)
    · left
      have h1 : ∀ v, midR e n n (outR e n r t) v = true → outR e n r t v = true := midR_sound e n (fun v => outR e n r t v = true) (fun a b ha hb h1 h2 => hc a b ha hb h1 h2) n (Nat.le_refl _) _ (fun v hv => hv)
      exact fun a b ha hb h2 h3 => midR_mono e n n _ b (hc a b ha hb (h1 a h2) h3)
    · right
      have h2 := ih.resolve_left hc
      obtain ⟨a, b, ha, hb, h3, h4, h5⟩ : ∃ a b, a < n ∧ b < n ∧ outR e n r t a = true ∧ e a b = true ∧ outR e n r t b = false := by
        refine Classical.byContradiction fun hn => hc fun a b ha hb h3 h4 => ?_
        refine Classical.byContradiction fun h5 => hn ⟨a, b, ha, hb, h3, h4, by simpa using h5⟩
      have := cntB_lt (outR e n r t) (midR e n n (outR e n r t)) n b (fun v _ hv => midR_mono e n n _ v hv) hb h5 (midR_next e n _ a b ha hb h3 h4)
      omega
/-- What a graph joins. -/
def eG (L : List E) (a b : Nat) : Bool := decide (0 < betw (a : Int) (b : Int) L)
theorem eG_symm (L : List E) (a b : Nat) : eG L a b = eG L b a := by unfold eG betw; rw [Int.min_comm, Int.max_comm]
theorem reachR_iff (L : List E) (n v u : Nat) (hv : v < n) : reachR L n v u = true ↔ Cn (eG L) n v u := by
  constructor
  · intro h
    exact outR_sound (eG L) n (fun u => Cn (eG L) n v u) (fun a b ha hb h1 h2 => .step h1 ha hb h2) n (fun x => decide (x = v)) (fun x hx => by rw [of_decide_eq_true hx]; exact .refl) u h
  · intro h
    have hc : Closed (eG L) n (reachR L n v) := by
      rcases outR_closed (eG L) n (fun x => decide (x = v)) (cntB_one _ n v hv (by simp)) n with h1 | h1
      · exact h1
      · have := cntB_le (outR (eG L) n n fun x => decide (x = v)) n
        omega
    induction h with
    | refl => exact outR_mono (eG L) n n _ v (by simp)
    | step _ h1 h2 h3 ih => exact hc _ _ h1 h2 ih h3
/-- The parts of the reference: the least vertices of their parts are counted. -/
theorem psR_spec (L : List E) (n c : Nat) (hc : c ≤ n) : (∀ u, u < n → ((psR L n c).1 u = true ↔ ∃ v, v < c ∧ Cn (eG L) n v u)) ∧ (psR L n c).2 = cntB (fun v => !(psR L n v).1 v) c := by
  induction c with
  | zero => exact ⟨fun u _ => by simp [psR], rfl⟩
  | succ c ih =>
    obtain ⟨h1, h2⟩ := ih (by omega)
    have hcn : c < n := by omega
    rw [psR]
    by_cases hs : (psR L n c).1 c = true
    · rw [if_pos hs]
      refine ⟨fun u hu => ?_, ?_⟩
      · rw [h1 u hu]
        obtain ⟨v0, hv0, hk0⟩ := (h1 c hcn).1 hs
        constructor
        · rintro ⟨v, hv, hk⟩; exact ⟨v, by omega, hk⟩
        · rintro ⟨v, hv, hk⟩
          by_cases e : v = c
          · subst e; exact ⟨v0, hv0, hk0.trans hk⟩
          · exact ⟨v, by omega, hk⟩
      · rw [cntB, hs, h2]; rfl
    · rw [if_neg hs]
      refine ⟨fun u hu => ?_, ?_⟩
      · show orT (psR L n c).1 (reachR L n c) n u = true ↔ _
        unfold orT
        rw [if_pos hu, Bool.or_eq_true, h1 u hu, reachR_iff L n c u hcn]
        constructor
        · rintro (⟨v, hv, hk⟩ | hk)
          · exact ⟨v, by omega, hk⟩
          · exact ⟨c, by omega, hk⟩
        · rintro ⟨v, hv, hk⟩
          by_cases e : v = c
          · subst e; exact .inr hk
          · exact .inl ⟨v, by omega, hk⟩
      · show (psR L n c).2 + 1 = _
        rw [cntB, h2, if_pos (by simpa using hs)]
theorem parts_least (L : List E) (n : Nat) : ∃ p : Nat → Bool, partsR L n = cntB p n ∧ ∀ v, v < n → (p v = true ↔ ∀ u, u < v → ¬ Cn (eG L) n u v) := by
  refine ⟨fun v => !(psR L n v).1 v, (psR_spec L n n (Nat.le_refl _)).2, fun v hv => ?_⟩
  have := (psR_spec L n v (by omega)).1 v hv
  simp only [Bool.not_eq_true', ← Bool.not_eq_true, this]
  constructor
  · intro h u hu hk; exact h ⟨u, hu, hk⟩
  · rintro h ⟨u, hu, hk⟩; exact h u hu hk
/-- The tables of union by relabelling. -/
structure Lab (L0 : List E) (n : Nat) (t : Nat → Int) (c : Int) (L : List E) : Prop where
  eq : ∀ x ∈ L, t x.a.toNat = t x.b.toNat
  con : ∀ u v, u < n → v < n → t u = t v → Cn (eG L0) n u v
  root : ∀ u, u < n → 0 ≤ t u ∧ t u < n ∧ t (t u).toNat = t u
  cnt : c = cntB (fun v => decide (t v = (v : Int))) n
theorem eG_of {n : Nat} {L : List E} (h : Right n L) {x : E} (hx : x ∈ L) : eG L x.a.toNat x.b.toNat = true := by
  have h1 := h.rng x hx
  unfold eG betw
  rw [decide_eq_true_eq, bet_pos h.rng]
  exact ⟨x, hx, by omega, by omega⟩
theorem lab_step {L0 : List E} {n : Nat} (hR : Right n L0) {t : Nat → Int} {c : Int} {L : List E} (h : Lab L0 n t c L) {x : E} (hx : x ∈ L0) (hL : ∀ y ∈ L, y ∈ L0) : Lab L0 n (uStep (t, c) x).1 (uStep (t, c) x).2 (L ++ [x]) := by
  have hr := hR.rng x hx
  have hn := hR.hi
  have he := eG_of hR hx
  unfold uStep
  by_cases hk : t x.a.toNat = t x.b.toNat
  · rw [if_pos hk]
    refine ⟨fun y hy => ?_, h.con, h.root, h.cnt⟩
    rcases List.mem_append.1 hy with hy | hy
    · exact h.eq y hy
    · obtain rfl : y = x := by simpa using hy
      exact hk
  · rw [if_neg hk]
    generalize hA : x.a.toNat = A at *
    generalize hB : x.b.toNat = B at *
    have hAn : A < n := by omega
    have hBn : B < n := by omega
    have hn12 : n ≤ 12 := by omega
    have rA := h.root A hAn
    have rB := h.root B hBn
    have hrel : ∀ v, v < n → relT t (t A) (t B) 12 v = if t v = t B then t A else t v := fun v hv => by
      unfold relT
      by_cases e : t v = t B
      · rw [if_pos ⟨by omega, e⟩, if_pos e]
      · rw [if_neg (fun h' => e h'.2), if_neg e]
    refine ⟨fun y hy => ?_, fun u v hu hv huv => ?_, fun u hu => ?_, ?_⟩
    · show relT t (t A) (t B) 12 y.a.toNat = relT t (t A) (t B) 12 y.b.toNat
      rcases List.mem_append.1 hy with hy | hy
      · have h2 := hR.rng y (hL y hy)
        rw [hrel _ (by omega), hrel _ (by omega), h.eq y hy]
      · obtain rfl : y = x := by simpa using hy
        rw [hA, hB, hrel A hAn, hrel B hBn, if_neg hk, if_pos rfl]
    · have hAB : Cn (eG L0) n A B := .step .refl hAn hBn he
      have hu' := hrel u hu
      have hv' := hrel v hv
      have huv' : relT t (t A) (t B) 12 u = relT t (t A) (t B) 12 v := huv
      rw [hu', hv'] at huv'
      by_cases e1 : t u = t B
      · rw [if_pos e1] at huv'
        by_cases e2 : t v = t B
        · exact h.con u v hu hv (e1.trans e2.symm)
        · rw [if_neg e2] at huv'
          exact ((h.con u B hu hBn e1).trans (hAB.symm (eG_symm L0))).trans (h.con A v hAn hv huv')
      · rw [if_neg e1] at huv'
        by_cases e2 : t v = t B
        · rw [if_pos e2] at huv'
          exact ((h.con u A hu hAn huv').trans hAB).trans (h.con B v hBn hv e2.symm)
        · rw [if_neg e2] at huv'
          exact h.con u v hu hv huv'
    · show 0 ≤ relT t (t A) (t B) 12 u ∧ relT t (t A) (t B) 12 u < n ∧ relT t (t A) (t B) 12 (relT t (t A) (t B) 12 u).toNat = relT t (t A) (t B) 12 u
      have ru := h.root u hu
      rw [hrel u hu]
      by_cases e1 : t u = t B
      · rw [if_pos e1]
        refine ⟨rA.1, rA.2.1, ?_⟩
        rw [hrel _ (by omega), rA.2.2, if_neg hk]
      · rw [if_neg e1]
        refine ⟨ru.1, ru.2.1, ?_⟩
        rw [hrel _ (by omega), ru.2.2, if_neg e1]
    · show c - 1 = (cntB (fun v => decide (relT t (t A) (t B) 12 v = (v : Int))) n : Int)
      have hc := h.cnt
      rw [cntB_but (fun v => decide (t v = (v : Int))) (fun v => decide (relT t (t A) (t B) 12 v = (v : Int))) n (t B).toNat (by omega) (by rw [decide_eq_true_eq, rB.2.2]; omega) ?_] at hc
      · omega
      · intro v hv
        rw [Bool.eq_iff_iff]
        simp only [decide_eq_true_eq, Bool.and_eq_true, ne_eq]
        rw [hrel v hv]
        by_cases e1 : t v = t B
        · rw [if_pos e1]
          constructor
          · intro h2
            have h3 : A < n := hAn
            have : v = (t A).toNat := by omega
            rw [this, rA.2.2] at e1
            exact absurd e1 hk
          · rintro ⟨h2, h3⟩; omega
        · rw [if_neg e1]
          constructor
          · intro h2
            refine ⟨h2, fun h3 => e1 ?_⟩
            rw [h3, rB.2.2]
          · exact fun h2 => h2.1
theorem lab_start (L0 : List E) (n : Nat) (hn : n ≤ 12) : Lab L0 n (idT 12) n [] := by
  have hid : ∀ v, v < n → idT 12 v = v := fun v hv => by unfold idT; rw [if_pos (by omega)]
  refine ⟨fun x hx => by simp at hx, fun u v hu hv huv => ?_, fun u hu => ?_, ?_⟩
  · rw [hid u hu, hid v hv] at huv
    obtain rfl : u = v := by omega
    exact .refl
  · rw [hid u hu]
    refine ⟨by omega, by omega, ?_⟩
    rw [Int.toNat_natCast, hid u hu]
  · have : ∀ m, m ≤ n → cntB (fun v => decide (idT 12 v = (v : Int))) m = m := by
      intro m hm
      induction m with
      | zero => rfl
      | succ m ih => rw [cntB, ih (by omega), if_pos (by rw [decide_eq_true_eq, hid m (by omega)])]
    rw [this n (Nat.le_refl _)]
theorem uni_lab {n : Nat} {L : List E} (hR : Right n L) (M : List E) (hM : ∀ y ∈ M, y ∈ L) : Lab L n (uni n M).1 (uni n M).2 M := by
  have hn : n ≤ 12 := by have := hR.hi; omega
  have : ∀ (K M' : List E), (∀ y ∈ M', y ∈ L) → (∀ y ∈ K, y ∈ L) → ∀ st : (Nat → Int) × Int, Lab L n st.1 st.2 K → Lab L n (M'.foldl uStep st).1 (M'.foldl uStep st).2 (K ++ M') := by
    intro K M'
    induction M' generalizing K with
    | nil => intro _ _ st h; simpa using h
    | cons x r ih =>
      intro h1 h2 st h
      have h3 := lab_step hR (t := st.1) (c := st.2) h (h1 x (by simp)) h2
      have h4 := ih (K ++ [x]) (fun y hy => h1 y (by simp [hy])) (fun y hy => by
        rcases List.mem_append.1 hy with hy | hy
        · exact h2 y hy
        · obtain rfl : y = x := by simpa using hy
          exact h1 y (by simp)) (uStep st x) h3
      simpa using h4
  have h5 := this [] M hM (by simp) (idT 12, (n : Int)) (lab_start L n hn)
  simpa [uni] using h5
theorem len_le {α : Type} [DecidableEq α] : ∀ (l m : List α), l.Pairwise (· ≠ ·) → (∀ x ∈ l, x ∈ m) → l.length ≤ m.length
  | [], m, _, _ => Nat.zero_le _
  | x :: l, m, h, k => by
    obtain ⟨h1, h2⟩ := List.pairwise_cons.1 h
    have hx : x ∈ m := k x (by simp)
    have := len_le l (m.erase x) h2 fun y hy => (List.mem_erase_of_ne (h1 y hy).symm).2 (k y (by simp [hy]))
    rw [List.length_erase_of_mem hx] at this
    have h3 : 0 < m.length := List.length_pos_of_mem hx
    rw [List.length_cons]; omega
/-- The number of components, by relabelling, is the number of parts. -/
theorem comps_parts {n : Nat} {L : List E} (hR : Right n L) : compsU n L = partsR L n := by
  have hL := uni_lab hR L (fun y hy => hy)
  obtain ⟨p, hp, hpl⟩ := parts_least L n
  unfold compsU
  rw [hL.cnt, hp]
  generalize (uni n L).1 = t at hL
  have hconv : ∀ u v, u < n → Cn (eG L) n u v → t u = t v := by
    intro u v hu h
    induction h with
    | refl => rfl
    | @step v w _ h1 h2 h3 ih =>
      rw [ih]
      unfold eG betw at h3
      rw [decide_eq_true_eq, bet_pos hR.rng] at h3
      obtain ⟨x, hx, h4, h5⟩ := h3
      have h6 := hL.eq x hx
      rcases Int.le_total (v : Int) (w : Int) with h7 | h7
      · rw [show x.a.toNat = v by omega, show x.b.toNat = w by omega] at h6; exact h6
      · rw [show x.a.toNat = w by omega, show x.b.toNat = v by omega] at h6; exact h6.symm
  have key : cntB (fun v => decide (t v = (v : Int))) n = cntB p n := by
    rw [cntB_filter, cntB_filter]
    have hmap : ∀ m, m ∈ (List.range n).filter p ↔ m < n ∧ p m = true := fun m => by simp
    have hroot : ∀ m, m ∈ (List.range n).filter (fun v => decide (t v = (v : Int))) ↔ m < n ∧ t m = (m : Int) := fun m => by simp
    refine Nat.le_antisymm ?_ ?_
    · rw [show ((List.range n).filter p).length = (((List.range n).filter p).map (fun m : Nat => (t m).toNat)).length from (List.length_map _).symm]
      refine len_le _ _ ((List.nodup_range (n := n)).filter _) fun r hr => ?_
      obtain ⟨hrn, hrt⟩ := (hroot r).1 hr
      have hex : ∃ m, m < n ∧ Cn (eG L) n m r ∧ ∀ u, u < m → ¬ Cn (eG L) n u r := by
        have : ∀ k, k ≤ r → (∃ m, m < n ∧ Cn (eG L) n m r ∧ ∀ u, u < m → ¬ Cn (eG L) n u r) ∨ ∀ u, u < k → ¬ Cn (eG L) n u r := by
          intro k hk
          induction k with
          | zero => exact .inr fun u hu => by omega
          | succ k ih =>
            rcases ih (by omega) with h1 | h1
            · exact .inl h1
            · by_cases h2 : Cn (eG L) n k r
              · exact .inl ⟨k, by omega, h2, h1⟩
              · refine .inr fun u hu => ?_
                by_cases e : u = k
                · subst e; exact h2
                · exact h1 u (by omega)
        rcases this r (Nat.le_refl _) with h1 | h1
        · exact h1
        · exact ⟨r, hrn, .refl, h1⟩
      obtain ⟨m, hmn, hmr, hml⟩ := hex
      refine List.mem_map.2 ⟨m, (hmap m).2 ⟨hmn, (hpl m hmn).2 fun u hu hk => hml u hu (hk.trans hmr)⟩, ?_⟩
      show (t m).toNat = r
      rw [hconv m r hmn hmr, hrt]; omega
    · rw [show ((List.range n).filter p).length = (((List.range n).filter p).map (fun m : Nat => (t m).toNat)).length from (List.length_map _).symm]
      refine len_le _ _ ?_ fun x hx => ?_
      · rw [List.pairwise_map]
        refine List.Pairwise.imp_of_mem ?_ ((List.pairwise_lt_range (n := n)).filter _)
        intro a b ha hb hab
        obtain ⟨ha1, ha2⟩ := (hmap a).1 ha
        obtain ⟨hb1, hb2⟩ := (hmap b).1 hb
        intro e
        have rA := hL.root a ha1
        have rB := hL.root b hb1
        exact (hpl b hb1).1 hb2 a hab (hL.con a b ha1 hb1 (by omega))
      · obtain ⟨m, hm, rfl⟩ := List.mem_map.1 hx
        obtain ⟨hm1, hm2⟩ := (hmap m).1 hm
        have rm := hL.root m hm1
        exact (hroot _).2 ⟨by omega, by rw [rm.2.2]; omega⟩
  rw [key]
end Go.Proofs.Ytgfbihdnjidodaa

namespace Go.Proofs.Ytgfbihdnjidodaa
open Go.RowKit Go.Proofs.Gr

theorem RowAt.of_blkF {α : Type} {k : Nat} {enc : α → List Value} (hk : ∀ x, (enc x).length = k) {w : World} {g : Nat} {t : TypeId} {cs : Array Value} {L : List α} (h : Blk w g t cs) (hc : cs.toList = flat enc L) : RowAt k enc w (some ⟨g, 0, none⟩) L := by
  intro j hj
  refine ⟨g, 0, rfl, h.lt, fun i hi => ?_⟩
  rw [Nat.zero_add, h.cell, ← Array.getElem?_toList, hc, flat_at hk L j i hj hi]
theorem RowAt.cellsF {α : Type} {k : Nat} (hk0 : 0 < k) {enc : α → List Value} (hk : ∀ x, (enc x).length = k) {w : World} {b o : Nat} {L : List α} (h : RowAt k enc w (some ⟨b, o, none⟩) L) (j : Nat) (v : Value) (hj : (flat enc L)[j]? = some v) : w.cell? ((⟨b, o, none⟩ : Addr).add j) = some v := by
  have hl : j < L.length * k := by
    have := (List.getElem?_eq_some_iff.1 hj).1
    rwa [flat_len hk] at this
  have h1 : j / k < L.length := Nat.div_lt_of_lt_mul (by rwa [Nat.mul_comm] at hl)
  have h2 : j % k < k := Nat.mod_lt _ hk0
  have h3 : j / k * k + j % k = j := by rw [Nat.mul_comm]; exact Nat.div_add_mod j k
  obtain ⟨b', o', e, _, hc⟩ := h (j / k) h1
  injection e with e
  injection e with e1 e2
  subst e1 e2
  have h4 := flat_at hk L (j / k) (j % k) h1 h2
  rw [h3, hj] at h4
  have h5 := hc (j % k) h2
  rw [← h4, Nat.add_assoc, h3] at h5
  have e3 : Addr.add ⟨b, o, none⟩ j = ⟨b, o + j, none⟩ := by unfold Addr.add; split <;> simp_all
  rw [e3]; exact h5
/-- A block that holds a list. -/
def RowB {α : Type} (enc : α → List Value) (t : TypeId) (w : World) (g : Nat) (L : List α) : Prop := Blk w g t (flat enc L).toArray
theorem RowB.row {α : Type} {enc : α → List Value} {k : Nat} (hk : ∀ x, (enc x).length = k) {t : TypeId} {w : World} {g : Nat} {L : List α} (h : RowB enc t w g L) : RowAt k enc w (some ⟨g, 0, none⟩) L :=
  RowAt.of_blkF hk h rfl
theorem RowB.cell {t : TypeId} {w : World} {g : Nat} {L : List Int} (h : RowB encI t w g L) (i : Nat) (hi : i < L.length) : w.cell? ⟨g, i, none⟩ = some (.int .i64 (iAt L i)) := by
  rw [Blk.cell h i, List.getElem?_toArray]
  have := flat_at (k := 1) (enc := encI) encI_len L i 0 hi (by decide)
  rw [Nat.mul_one, Nat.add_zero] at this
  rw [this, iAt_get L i hi]; rfl
theorem flatI_map (L : List Int) : flat encI L = L.map fun z => Value.int .i64 z := by
  induction L with
  | nil => rfl
  | cons z L ih => rw [flat_cons, ih]; rfl
theorem RowB.set {t : TypeId} {w : World} {g : Nat} {L : List Int} (h : RowB encI t w g L) (i : Nat) (v : Int) : RowB encI t (w.setCell ⟨g, i, none⟩ (.int .i64 v)) g (L.set i v) := by
  have := Blk.set_ h i (.int .i64 v)
  unfold RowB
  rw [flatI_map] at this ⊢
  rw [List.map_set]
  simpa using this
theorem RowB.cellP {t : TypeId} {w : World} {g : Nat} {L : List (Int × Int)} (h : RowB encP t w g L) (i : Nat) (hi : i < L.length) : w.cell? ⟨g, i * 2, none⟩ = some (.int .i64 (pAt L i).1) ∧ w.cell? ⟨g, i * 2 + 1, none⟩ = some (.int .i64 (pAt L i).2) := by
  have a0 := flat_at (k := 2) (enc := encP) encP_len L i 0 hi (by decide)
  have a1 := flat_at (k := 2) (enc := encP) encP_len L i 1 hi (by decide)
  rw [Nat.add_zero] at a0
  rw [Blk.cell h, List.getElem?_toArray, a0, Blk.cell h, List.getElem?_toArray, a1, pAt_get L i hi]
  exact ⟨rfl, rfl⟩
theorem flat_setP (Q : List (Int × Int)) (i : Nat) (h : i < Q.length) (a b : Int) : ((flat encP Q).set (i * 2) (.int .i64 a)).set (i * 2 + 1) (.int .i64 b) = flat encP (Q.set i (a, b)) := by
  induction Q generalizing i with
  | nil => simp at h
  | cons t Q ih =>
    obtain ⟨x, y⟩ := t
    cases i with
    | zero => rfl
    | succ i =>
      rw [List.set_cons_succ, flat_cons, flat_cons, ← ih i (by simpa using h), Nat.succ_mul]
      rfl
theorem RowB.setP {t : TypeId} {w : World} {g : Nat} {L : List (Int × Int)} (h : RowB encP t w g L) (i : Nat) (hi : i < L.length) (x y : Int) : RowB encP t ((w.setCell ⟨g, i * 2, none⟩ (.int .i64 x)).setCell ⟨g, i * 2 + 1, none⟩ (.int .i64 y)) g (L.set i (x, y)) := by
  have := Blk.set_ (Blk.set_ h (i * 2) (.int .i64 x)) (i * 2 + 1) (.int .i64 y)
  unfold RowB
  rw [← flat_setP L i hi]
  simpa using this
theorem RowB.new {α : Type} (enc : α → List Value) (w : World) (t : TypeId) (L : List α) : RowB enc t (w.alloc (.cells (flat enc L).toArray t)) w.heap.size L := Blk.new _ _ _
theorem flat_rep {α : Type} (enc : α → List Value) (z : α) (v : Value) (k : Nat) (h : enc z = List.replicate k v) (n : Nat) : flat enc (List.replicate n z) = List.replicate (n * k) v := by
  induction n with
  | zero => simp [flat]
  | succ n ih => rw [List.replicate_succ, flat_cons, ih, h, List.replicate_append_replicate]; congr 1; rw [Nat.succ_mul, Nat.add_comm]
set_option maxRecDepth 100000 in
theorem make_ints (n : Nat) (hn : n ≤ 10000000) (w : World) : (Instr.makeSlice 22 (.int .i64 (n : Int)) (.int .i64 (n : Int))).run Try.prog w = .ok (.slice (some ⟨w.heap.size, 0, none⟩) n n) (w.alloc (.cells (flat encI (List.replicate n 0)).toArray 3)) := by
  obtain ⟨i0, hi0, hz0, hz1, hz2⟩ := info_parts infoI
  have h := run_make (P := Try.prog) w 22 3 i0 (.int .i64 0) Try.underlying22 hi0 hz0 .i64 .i64 n n (by omega) (by omega) (by rw [hz2]; omega) (by omega)
  rw [h]
  simp only [Int.toNat_natCast, hz1, Nat.mul_one]
  rw [flat_rep encI 0 (.int .i64 0) 1 rfl]
  congr 2
  refine congrArg (fun c => Obj.cells c 3) (Array.toList_inj.1 ?_)
  rw [show (Value.int .i64 0).cells = #[.int .i64 0] from rfl, toList_madeCells_one]; simp
theorem RowB.own {w : World} {g base : Nat} {L : List Int} (h : RowB encI 3 w g L) (hb : base ≤ g) (hl : L.length ≤ 10000000) : w.ownsRow base 3 1 (.slice (some ⟨g, 0, none⟩) L.length L.length) L.length (flat encI L) := by
  refine ⟨by rw [flat_len (k := 1) (enc := encI) (fun _ => rfl)], .inr ⟨g, L.length, _, rfl, hb, h, Nat.le_refl _, by unfold maxLen; omega, by rw [List.size_toArray, flat_len (k := 1) (enc := encI) (fun _ => rfl)], ?_⟩⟩
  have := flat_len (k := 1) (enc := encI) (fun _ => rfl) L
  rw [show (flat encI L).toArray.toList = flat encI L from rfl, ← this, List.take_length]
end Go.Proofs.Ytgfbihdnjidodaa
