/- Ends of the program, in memory of its own. And: Graphs without loops. And: Graphs without loops, with few parallel edges: the reference's. And: Graphs in which two vertices are joined at most once. And: Light graphs, right graphs. And: Tables of numbers. And: The graph of a table. And: Stores into tables; the graph on a set of vertices. And: New numbers of vertices. And: Which vertices are reached. And: The number of components, by the reference; its genus. -/
import Derived.Test.YtndjjafpdiehdaaQ05
import Derived.Deep.Onto
import Derived.Laws.OwnMore
import Derived.Test.YtndjjafpdiehdaaQ01
import Derived.OneCell
import Derived.BigQuiet
import Derived.Deep.QuietTactic
namespace Go.Proofs.Ytndjjafpdiehdaa
open Go.RowKit Go.Shelf Go.Proofs.Gr
attribute [local go_sem] Oper.semAt_some

/-- Hands back pairs of its own and an error's number. -/
def GivesPO (w : World) (l : List (Int × Int)) (k : Nat) (e : Ending) (w' : World) : Prop := ∃ a c, e = .returned (.tuple #[.slice a l.length c, .int .i64 (k : Nat)]) ∧ PsAt w' a l ∧ w'.ownsRow w.heap.size 25 2 (.slice a l.length c) l.length (flat encP l) ∧ Below w.heap.size w w'
set_option maxRecDepth 100000 in
set_option maxHeartbeats 8000000 in
theorem pendsO_ok (nv : Int) (a : Option Addr) (cap : Nat) (L : List E) (hL : L.length ≤ 100000) (h0 : chkG nv L = 0) (w : World) (h : EsAt w a L) :
    CallsIn Fence.wide 3 Try.prog 52 #[gv nv a L.length cap] w (GivesPO w (endsG L) 0) := by
  obtain ⟨i0, hi0, hz0, hz1, hz2⟩ := info_parts infoP
  have HC := Lib.hid (fun w h => check_any nv a cap L (by omega) w h)
  rw [h0] at HC
  have HM := Lib.hid (right_of h0)
  have HLN : Hid ((endsG L).length ≤ 5000000) := Lib.hid (by have := ends_all (right_of h0); omega)
  obtain ⟨W, hW⟩ : ∃ W, W = w.alloc (Obj.cells #[.int .i64 nv, .slice a L.length cap] 24) := ⟨_, rfl⟩
  have hB0 : Below w.heap.size w W := by rw [hW]; exact (Below.refl _ w).alloc (Nat.le_refl _) _
  have hG : Blk W w.heap.size 24 #[.int .i64 nv, .slice a L.length cap] := by rw [hW]; exact Blk.new _ _ _
  have HW := Lib.hid hW
  have HB0 := Lib.hid hB0
  have HG := Lib.hid hG
  have HE := Lib.hid (h.keep hB0)
  unfold GivesPO
  unfold GivesN gv at *
  clear h hB0 hG hW h0
  refine callsIn_of_wp_marks Try.func52 rfl trivial ?_ rfl
  simp only [Try.ntmps52, List.size_toArray, List.length_cons, List.length_nil, Nat.reduceAdd, Nat.reduceSub, Array.replicate_succ, Array.replicate_zero, List.push_toArray, List.append_toArray, List.nil_append, List.cons_append]
  gi_wp2_with fail
  rw [← HW.out]
  refine ⟨trivial, ?_⟩
  refine (callsIn_wide.2 (HC.out _ HE.out)).mono ?_
  rintro e w1 ⟨rfl, hb⟩
  have g0' : w1.cell? ⟨w.heap.size, 0, none⟩ = some (.int .i64 nv) := (HG.out.below hb HG.out.lt).cell 0
  have g1' : w1.cell? ⟨w.heap.size, 1, none⟩ = some (.slice a L.length cap) := (HG.out.below hb HG.out.lt).cell 1
  have HB1 := Lib.hid (HB0.out.trans (hb.mono HB0.out.size))
  have HE1 := Lib.hid (HE.out.keep hb)
  have hG1 : Blk (w1.alloc (Obj.cells #[.slice none 0 0] 56)) w.heap.size 24 #[.int .i64 nv, .slice a L.length cap] := (HG.out.below hb HG.out.lt).alloc _
  have g2' : (w1.alloc (Obj.cells #[.slice none 0 0] 56)).cell? ⟨w.heap.size, 0, none⟩ = some (.int .i64 nv) := hG1.cell 0
  have g3' : (w1.alloc (Obj.cells #[.slice none 0 0] 56)).cell? ⟨w.heap.size, 1, none⟩ = some (.slice a L.length cap) := hG1.cell 1
  clear hb hG1
  gi_wp2_with fail
  refine ⟨trivial, ?_⟩
  refine (singles_in 2 nv a L.length cap _).mono ?_
  rintro e w' ⟨rfl, rfl⟩
  gi_wp2_with fail
  -- the world where the loop begins
  have hbW : Below w1.heap.size w1 ((w1.alloc (Obj.cells #[.slice none 0 0] 56)).alloc (Obj.cells #[.int .i64 nv, .slice a L.length cap] 24)) := (((Below.refl _ w1).alloc (Nat.le_refl _) _).alloc (by simp) _)
  have bS := (Boxed.new w1 56 (.slice none 0 0)).alloc (.cells #[.int .i64 nv, .slice a L.length cap] 24)
  have bG : Blk ((w1.alloc (Obj.cells #[.slice none 0 0] 56)).alloc (Obj.cells #[.int .i64 nv, .slice a L.length cap] 24)) (w1.heap.size + 1) 24 #[.int .i64 nv, .slice a L.length cap] := by
    have h9 := Blk.new (w1.alloc (Obj.cells #[.slice none 0 0] 56)) 24 #[.int .i64 nv, .slice a L.length cap]
    rwa [World.size_alloc] at h9
  have hsz : ((w1.alloc (Obj.cells #[.slice none 0 0] 56)).alloc (Obj.cells #[.int .i64 nv, .slice a L.length cap] 24)).heap.size = w1.heap.size + 2 := by simp
  obtain ⟨W0, hW0⟩ : ∃ W0, (w1.alloc (Obj.cells #[.slice none 0 0] 56)).alloc (Obj.cells #[.int .i64 nv, .slice a L.length cap] 24) = W0 := ⟨_, rfl⟩
  rw [hW0] at hbW bS bG hsz ⊢
  clear hW0 g0' g1' g2' g3'
  have hown0 : W0.ownsRow w1.heap.size 25 2 (.slice none 0 0) 0 [] := World.ownsRow_nil _ _ _ _
  refine wpIn_rangeFunc_ownH rfl (by omega) (gf := 97) (lb := #[.pointer (some ⟨w1.heap.size + 1, 0, none⟩)]) rfl trivial (enters_of Try.func97 (by kernel_rfl) rfl)
    (singles_stops 2 (by omega) (w1.heap.size + 1) w1.heap.size nv a cap L hL HM.out W0 (by omega) (by omega) bG (fun x hx => HE1.out.keep (hbW.trans hx))) KpE.t (KpE.b (by omega)) (Below.refl _ _) (fun _ => rfl)
    (fun pre W => (∃ v, Boxed W w1.heap.size 56 v ∧ W.ownsRow w1.heap.size 25 2 v pre.length (flat encP (pre.map fun x => x.1.2)) ∧ True) ∧ Below w1.heap.size w1 W)
    (fun _ _ _ => False)
    (OwnFrom.and (Own.from (holdsRow_own w1.heap.size w1.heap.size 56 25 2 (fun pre : List SE => pre.length) (fun pre => flat encP (pre.map fun x => x.1.2)) (fun _ _ => True)) _) (ownFrom_below (Nat.le_refl _) (by omega)))
    (fun _ _ _ _ _ hs _ _ => hs)
    ⟨⟨_, bS, hown0, trivial⟩, hbW⟩
    (fun x a' W => ∃ Bx, w1.heap.size ≤ Bx ∧ Blk W Bx 25 #[.int .i64 x.1.2.1, .int .i64 x.1.2.2] ∧ a' = { tmps := #[.agg #[.int .i64 nv, .slice a L.length cap], .pointer (some ⟨w.heap.size, 0, none⟩), .slice none 0 0, .int .i64 0, .int .i64 0, .pointer (some ⟨w1.heap.size, 0, none⟩), undef, .pointer (some ⟨Bx, 0, none⟩), .agg #[.int .i64 nv, .slice a L.length cap], .int .i64 0, .int .i64 0, .bool false, undef, .agg #[.int .i64 nv, .slice a L.length cap], .func (.func 97) #[] #[.pointer (some ⟨w1.heap.size + 1, 0, none⟩)], .int .i64 (x.1.1 : Nat), .agg #[.int .i64 x.1.2.1, .int .i64 x.1.2.2], undef, undef, undef, undef, undef], defers := [] })
    (fun x a' _ X Y row hs hg hr => by
      obtain ⟨Bx, h1, h2, h3⟩ := hs
      refine ⟨Bx, h1, h2.grown hg (fun e => ?_), h3⟩
      obtain ⟨-, o, ho, hc⟩ := hr Bx e.symm
      unfold Blk at h2
      rw [h2] at ho; cases ho; cases hc)
    ?assign ?body ?done ?stop
  case assign =>
    rintro l pre x W K ⟨⟨v, hv, hrow, -⟩, hB⟩ hK
    gi_wp2
    exact hK _ _ ((KeepsOthers.alloc _ _).from _) (KpE.alloc hB.size _) ⟨⟨v, hv.alloc _, hrow.alloc _, trivial⟩, hB.alloc hB.size _⟩ ⟨W.heap.size, hB.size, Blk.new W _ _, rfl⟩
  case body =>
    rintro l pre x a' W hl ⟨r, hr⟩ ⟨⟨v, hv, hrow, -⟩, hB⟩ ⟨Bx, hBx, bX, rfl⟩ hlt
    have hc := hv.cell
    have x0 : W.cell? ⟨Bx, 0, none⟩ = some (.int .i64 x.1.2.1) := bX.cell 0
    have x1 : W.cell? ⟨Bx, 1, none⟩ = some (.int .i64 x.1.2.2) := bX.cell 1
    have hln := HLN.out
    obtain ⟨⟨xk, xa, xb⟩, hxr⟩ := x
    simp only at x0 x1
    gi_wp2_with (gi_at_builtin; refine wpListIn_append_own _ rfl _ _ 56 rfl w1.heap.size 25 i0 (.agg #[.int .i64 0, .int .i64 0]) 2 16 Try.underlying56 hi0 hz0 hz1 hz2 rfl (by decide) _ _ _ rfl (hrow.alloc _) ⟨W.heap.size, 0, none⟩ 1 1 [.int .i64 xa, .int .i64 xb] rfl rfl (lit_row _ _ _) (by simp [Value.oneCell']) (by unfold maxLen; omega) (by omega) (by have := hB.size; simp; omega) ?_; intro v' w2 hown' hgrow _; obtain ⟨g', cap', rfl⟩ := own_succ hown'; obtain ⟨hv1, hv2, hr2, hk2, hb2⟩ := hv.appended (by decide) hrow hB.size (Nat.le_refl _) hown' hgrow; have hKE := ke_push hrow (by decide) hgrow; have hc1 := hv1.cell; have hf1 := hv1.frozen)
    refine ⟨hk2.from _, ⟨hb2, fun g cs hA => (hKE g cs hA).far (ke_ne hv1 (by decide) (hKE g cs hA)) _⟩, ⟨_, hv2, ?_⟩, hB.trans hb2⟩
    · rw [List.map_append, List.length_append]
      show World.ownsRow _ _ _ _ _ _ (flat encP ((pre.map fun x => x.1.2) ++ [(xa, xb)]))
      rw [flatP_snoc]
      exact hr2
  case done =>
    rintro D ys W hD hys ⟨⟨v, hv, hrow, -⟩, hB⟩ hK
    have hc := hv.cell
    have HE2 : Hid (∃ a' c', v = .slice a' (endsG L).length c' ∧ PsAt W a' (endsG L) ∧ W.ownsRow w1.heap.size 25 2 (.slice a' (endsG L).length c') (endsG L).length (flat encP (endsG L))) := by
      have h1 : (sg (endsG L) (endsG L).length).map Prod.snd = endsG L := by
        unfold sg
        rw [List.map_map]
        refine List.ext_getElem (by simp) fun j h1 h2 => ?_
        simp only [List.getElem_map, List.getElem_range, Function.comp]
        rw [pAt_get _ j h2]
      have h2 : (ys.map fun x => x.1.2) = endsG L := by
        rw [← h1, ← hys, List.map_map]; rfl
      have h3 : ys.length = (endsG L).length := by rw [← h2, List.length_map]
      rw [h2, h3] at hrow
      obtain ⟨a9, c9, hv9, hp9⟩ := RowAt.of_own encP_len hrow
      exact ⟨a9, c9, hv9, hp9, by rw [← hv9]; exact hrow⟩
    obtain ⟨a', c', hv2, hp, hw9⟩ := HE2.out
    subst hv2
    gi_wp2
    have hg := grownBy_putObj' W D (.deferred none)
    refine ⟨by simp, .inl ⟨_, _, rfl, run_takeDeferred hK, ?_⟩⟩
    refine ⟨.tuple #[.slice a' (endsG L).length c', .int .i64 0], by simp [results, Try.results52, go_sem], a', c', rfl, ?_, ?_, ?_⟩
    · exact RowAt.putObj encP_len hp hK rfl
    · have hne9 : (Value.slice a' (endsG L).length c').ownBlock = none ∨ (Value.slice a' (endsG L).length c').ownBlock ≠ some D := by
       by_cases hn9 : (Value.slice a' (endsG L).length c').ownBlock = none
       · exact .inl hn9
       · refine .inr fun e9 => ?_
         rcases hw9.2 with ⟨h8, -⟩ | ⟨g8, _, _, h8, -, h7, -⟩
         · rw [h8] at hn9; exact hn9 rfl
         · rw [h8] at e9
           have : g8 = D := by simpa [Value.ownBlock] using e9
           rw [← this, h7] at hK; cases hK
      have h59 : World.ownsRow (W.putObj D (.deferred none)) w1.heap.size 25 2 (.slice a' (endsG L).length c') (endsG L).length (flat encP (endsG L)) := hw9.kept hg hne9
      exact World.ownsRow.mono h59 HB1.out.size
    · exact HB1.out.trans ((hB.grown hg hB.size (fun k e => by cases e; omega)).mono HB1.out.size)
  case stop =>
    rintro D c pre W _ _ h _
    exact h.elim

set_option maxRecDepth 100000 in
set_option maxHeartbeats 8000000 in
theorem pendsO_err (nv : Int) (a : Option Addr) (cap : Nat) (L : List E) (hL : L.length ≤ 100000) (h0 : chkG nv L ≠ 0) (w : World) (h : EsAt w a L) :
    Calls Try.prog 52 #[gv nv a L.length cap] w (GivesPO w [] (chkG nv L)) := by
  have HC := Lib.hid (check_any nv a cap L (by omega) (w.alloc (Obj.cells #[.int .i64 nv, .slice a L.length cap] 24)) (h.keep ((Below.refl _ w).alloc (Nat.le_refl _) _)))
  have HB0 := Lib.hid ((Below.refl _ w).alloc (Nat.le_refl _) (Obj.cells #[.int .i64 nv, .slice a L.length cap] 24))
  unfold GivesPO
  unfold GivesN gv at *
  have q0 : (((chkG nv L : Nat) : Int) != 0) = true := by rw [bne_iff_ne]; omega
  generalize chkG nv L = k at *
  clear h h0
  go_enter Try.func52, Try.ntmps52
  go_wp2_with fail
  refine HC.out.mono ?_
  rintro e w1 ⟨rfl, hb⟩
  have HB1 := Lib.hid (HB0.out.trans (hb.mono HB0.out.size))
  clear hb
  go_wp2
  go_ret2
  exact ⟨none, 0, rfl, RowAt.nil _ _ _ _, World.ownsRow_nil _ _ _ _, HB1.out⟩
theorem pendsO_any (nv : Int) (a : Option Addr) (cap : Nat) (L : List E) (hL : L.length ≤ 100000) (w : World) (h : EsAt w a L) :
    Calls Try.prog 52 #[gv nv a L.length cap] w (GivesPO w (if chkG nv L = 0 then endsG L else []) (chkG nv L)) := by
  by_cases h0 : chkG nv L = 0
  · rw [if_pos h0, h0]
    exact callsIn_wide.1 (pendsO_ok nv a cap L hL h0 w h)
  · rw [if_neg h0]
    exact pendsO_err nv a cap L hL h0 w h
end Go.Proofs.Ytndjjafpdiehdaa

namespace Go.Proofs.Ytndjjafpdiehdaa
open Go.RowKit Go.Shelf Go.Proofs.Gr
attribute [local go_sem] Oper.semAt_some

/-- Hands back a graph and an error's number. -/
def GivesGE (w : World) (n : Int) (L : List E) (k : Nat) (e : Ending) (w' : World) : Prop := ∃ a c, e = .returned (.tuple #[gv n a L.length c, .int .i64 (k : Nat)]) ∧ EsAt w' a L ∧ w'.ownsRow w.heap.size 75 3 (.slice a L.length c) L.length (flat encE L) ∧ Below w.heap.size w w'
/-- Hands back a graph. -/
def GivesG (w : World) (n : Int) (L : List E) (e : Ending) (w' : World) : Prop := ∃ a c, e = .returned (gv n a L.length c) ∧ EsAt w' a L ∧ w'.ownsRow w.heap.size 75 3 (.slice a L.length c) L.length (flat encE L) ∧ Below w.heap.size w w'
theorem infoE : (Try.prog.info? 75).map (fun i => (i.zero, i.size, i.bytes)) = some (some (.agg #[.int .i64 0, .int .i64 0, .int .i64 0]), 3, 24) := by kernel_rfl
theorem encE_len3 (x : E) : (encE x).length = 3 := rfl
theorem flatE_snoc (l : List E) (z : E) : flat encE (l ++ [z]) = flat encE l ++ [.int .i64 z.a, .int .i64 z.b, .int .i64 z.m] := by rw [flat_append, flat_one]; rfl
/-- The edges that are no loops. -/
def noL (L : List E) : List E := L.filter fun e => decide (¬ e.a = e.b)
theorem noL_take (L : List E) (i : Nat) (h : i < L.length) : noL (L.take (i + 1)) = noL (L.take i) ++ (if (eAt L i).a = (eAt L i).b then [] else [eAt L i]) := by
  unfold noL
  rw [List.take_succ_eq_append_getElem h, List.filter_append, eAt_get]
  congr 1
  by_cases e : (eAt L i).a = (eAt L i).b
  · rw [if_pos e]; simp [e]
  · rw [if_neg e]; simp [e]
theorem noL_le (L : List E) : (noL L).length ≤ L.length := List.length_filter_le _ _
/-- An edge appended to the list in a graph's box. -/
theorem kept_push {V w3 : World} {KB : Nat} {n : Int} {s s' : Value} {k k' : Nat} {xs ys : List Value} {o : Obj} (hT : Blk V KB 24 #[.int .i64 n, s])
    (hrow : V.ownsRow (KB + 1) 75 3 s k xs) (hg : (V.alloc o).grownBy w3 s.ownBlock) (hown : w3.ownsRow (KB + 1) 75 3 s' k' ys) :
    Blk w3 KB 24 #[.int .i64 n, s] ∧ Blk (w3.setCell ⟨KB, 1, none⟩ s') KB 24 #[.int .i64 n, s'] ∧ (w3.setCell ⟨KB, 1, none⟩ s').ownsRow (KB + 1) 75 3 s' k' ys ∧ Below KB V (w3.setCell ⟨KB, 1, none⟩ s') := by
  have h1 : Blk w3 KB 24 #[.int .i64 n, s] := (hT.alloc o).grown hg fun e => by
    have := (hrow.lt KB e.symm).1; omega
  refine ⟨h1, h1.set_ 1 s', ownsRow_setCell_below hown (a := ⟨KB, 1, none⟩) (Nat.lt_succ_self _) s', ?_⟩
  have hlt := hT.lt
  exact (((Below.refl KB V).alloc (by omega) o).grown hg (by simp; omega) (fun j hj => by have := (hrow.lt j hj).1; omega)).setCell (p := ⟨KB, 1, none⟩) (Nat.le_refl _) s'

end Go.Proofs.Ytndjjafpdiehdaa

namespace Go.Proofs.Ytndjjafpdiehdaa
open Go.RowKit Go.Shelf Go.Proofs.Gr
attribute [local go_sem] Oper.semAt_some

/-- The edges that are no loops, with few parallel ones. -/
def limE (most : Int) (e : E) : E := ⟨e.a, e.b, if most < e.m then most else e.m⟩
def limL (most : Int) (L : List E) : List E := (noL L).map (limE most)
theorem limL_take (most : Int) (L : List E) (i : Nat) (h : i < L.length) : limL most (L.take (i + 1)) = limL most (L.take i) ++ (if (eAt L i).a = (eAt L i).b then [] else [⟨(eAt L i).a, (eAt L i).b, if most < (eAt L i).m then most else (eAt L i).m⟩]) := by
  unfold limL
  rw [noL_take L i h, List.map_append]
  congr 1
  split <;> rfl
theorem limL_le (most : Int) (L : List E) : (limL most L).length ≤ L.length := by unfold limL; rw [List.length_map]; exact noL_le L
theorem limL_id (most : Int) (L : List E) (h : ∀ e ∈ L, e.m ≤ most) : limL most L = noL L := by
  unfold limL
  have h2 : ∀ e ∈ noL L, limE most e = id e := fun e he => by
    have := h e ((List.mem_filter.1 he).1)
    unfold limE
    rw [if_neg (by omega)]; rfl
  rw [List.map_congr_left h2, List.map_id]
theorem limL_one (L : List E) (h : ∀ e ∈ L, 1 ≤ e.m) : limL 1 L = (noL L).map fun e => ⟨e.a, e.b, 1⟩ := by
  unfold limL
  refine List.map_congr_left fun e he => ?_
  have := h e ((List.mem_filter.1 he).1)
  unfold limE
  by_cases e1 : 1 < e.m
  · rw [if_pos e1]
  · rw [if_neg e1, show e.m = 1 by omega]

end Go.Proofs.Ytndjjafpdiehdaa

namespace Go.Proofs.Ytndjjafpdiehdaa
open Go.RowKit Go.Shelf Go.Proofs.Gr
attribute [local go_sem] Oper.semAt_some

/-- The first of a list's edges are single. -/
def oneL : Nat → List E → List E
  | 0, L => L
  | _ + 1, [] => []
  | i + 1, e :: r => ⟨e.a, e.b, 1⟩ :: oneL i r
theorem oneL_len (i : Nat) (L : List E) : (oneL i L).length = L.length := by
  induction L generalizing i with
  | nil => cases i <;> rfl
  | cons e r ih => cases i with
    | zero => rfl
    | succ i => rw [oneL, List.length_cons, ih, List.length_cons]
theorem oneL_all (L : List E) : oneL L.length L = L.map fun e => ⟨e.a, e.b, 1⟩ := by
  induction L with
  | nil => rfl
  | cons e r ih => rw [List.length_cons, oneL, ih, List.map_cons]
theorem oneL_set (L : List E) (i : Nat) (h : i < L.length) : (flat encE (oneL i L)).set (i * 3 + 2) (.int .i64 1) = flat encE (oneL (i + 1) L) := by
  induction L generalizing i with
  | nil => simp at h
  | cons e r ih =>
    cases i with
    | zero => rfl
    | succ i =>
      have h2 := ih i (by simpa using h)
      rw [oneL, flat_cons]
      show _ = flat encE (⟨e.a, e.b, 1⟩ :: oneL (i + 1) r)
      rw [flat_cons, ← h2, List.set_append_right _ _ (by rw [encE_len3, Nat.succ_mul]; omega), encE_len3]
      congr 2
      rw [Nat.succ_mul]; omega
theorem of_own_len {α : Type} {k : Nat} {enc : α → List Value} (hk : ∀ x, (enc x).length = k) {w : World} {base : Nat} {e : TypeId} {v : Value} {n : Nat} {L : List α} (h : w.ownsRow base e k v n (flat enc L)) (hn : n = L.length) : ∃ a cap, v = .slice a n cap ∧ RowAt k enc w a L := by
  subst hn
  exact RowAt.of_own hk h
theorem own_pos {w : World} {base : Nat} {e : TypeId} {size : Nat} {v : Value} {n : Nat} {xs : List Value} (h : w.ownsRow base e size v n xs) (hn : 0 < n) : ∃ g c, v = .slice (some ⟨g, 0, none⟩) n c := by
  rcases h.2 with ⟨_, h0⟩ | ⟨g, c, cur, hv, _⟩
  · omega
  · exact ⟨g, c, hv⟩

end Go.Proofs.Ytndjjafpdiehdaa

namespace Go.Proofs.Ytndjjafpdiehdaa
open Go.RowKit Go.Shelf Go.Proofs.Gr

/-- Hands back a truth value. -/
def GivesB (w : World) (b : Bool) (e : Ending) (w' : World) : Prop := e = .returned (.bool b) ∧ Below w.heap.size w w'
def lightG (n : Int) (L : List E) : Bool := decide (L.length ≤ 40) && (decide (chkG n L ≠ 0) || decide (sizeG L ≤ 400))
def rightG (n : Int) (L : List E) : Bool := lightG n L && decide (chkG n L = 0)
end Go.Proofs.Ytndjjafpdiehdaa

namespace Go.Proofs.Ytndjjafpdiehdaa
open Go.RowKit Go.Shelf Go.Proofs.Gr

/-- A row of numbers. -/
def enR (n : Nat) (f : Nat → Int) : Array Value := ((List.range n).map fun k : Nat => Value.int .i64 (f k)).toArray
theorem enR_at (n : Nat) (f : Nat → Int) (k : Nat) (h : k < n) : (enR n f)[k]? = some (.int .i64 (f k)) := by
  unfold enR
  rw [List.getElem?_toArray, List.getElem?_map, List.getElem?_range h]; rfl
theorem enR_set (n : Nat) (f g : Nat → Int) (m : Nat) (z : Int) (h : ∀ v, g v = if v = m then z else f v) : (enR n f).setIfInBounds m (.int .i64 z) = enR n g := by
  unfold enR
  rw [List.setIfInBounds_toArray]
  congr 1
  refine List.ext_getElem (by simp) fun j h1 h2 => ?_
  rw [List.getElem_set]
  simp only [List.getElem_map, List.getElem_range]
  by_cases e : m = j
  · subst e; simp [h]
  · rw [if_neg e, h, if_neg (fun e' => e e'.symm)]
theorem enR_zero (n : Nat) : enR n (fun _ => 0) = Array.replicate n (.int .i64 0) := by
  unfold enR
  refine Array.ext (by simp) fun j h1 h2 => by simp
def rowV (n : Nat) (g : Nat) : Value := .slice (some ⟨g, 0, none⟩) n n
/-- A table of rows of n numbers: its rows' blocks are G. -/
structure Tab (w : World) (base : Nat) (v : Value) (n : Nat) (G : List Nat) (t : Nat → Nat → Int) : Prop where
  own : w.ownsRow base 33 1 v G.length (G.map (rowV n))
  row : ∀ j (h : j < G.length), Blk w G[j] 3 (enR n (t j)) ∧ base ≤ G[j]
  srt : G.Pairwise (· < ·)

theorem Tab.push {wr w3 : World} {base : Nat} {v v1 : Value} {n : Nat} {G : List Nat} {t : Nat → Nat → Int} (h : Tab wr base v n G t) (hb : base ≤ wr.heap.size) (f : Nat → Int) (hf : t G.length = f) (o : Obj)
    (hg : ((wr.alloc (.cells (enR n f) 3)).alloc o).grownBy w3 v.ownBlock) (hown : w3.ownsRow base 33 1 v1 (G.length + 1) (G.map (rowV n) ++ [rowV n wr.heap.size])) : Tab w3 base v1 n (G ++ [wr.heap.size]) t := by
  have hk : ∀ g cs, Blk (wr.alloc (.cells (enR n f) 3)) g 3 cs → Blk w3 g 3 cs := fun g cs hB =>
    (hB.alloc o).grown hg (own_blk_ne ((h.own.alloc _).alloc o) (hB.alloc o) (by decide))
  refine ⟨by rw [List.length_append, List.map_append]; exact hown, fun j hj => ?_, ?_⟩
  · by_cases e : j < G.length
    · rw [List.getElem_append_left e]
      exact ⟨hk _ _ ((h.row j e).1.alloc _), (h.row j e).2⟩
    · have e2 : j = G.length := by rw [List.length_append, List.length_singleton] at hj; omega
      subst e2
      rw [List.getElem_append_right (Nat.le_refl _)]
      simp only [Nat.sub_self, List.getElem_cons_zero]
      rw [hf]
      exact ⟨hk _ _ (Blk.new _ _ _), hb⟩
  · rw [List.pairwise_append]
    refine ⟨h.srt, List.pairwise_singleton _ _, fun x hx y hy => ?_⟩
    obtain rfl : y = wr.heap.size := by simpa using hy
    obtain ⟨j, hj, rfl⟩ := List.mem_iff_getElem.1 hx
    exact (h.row j hj).1.lt
theorem infoR : (Try.prog.info? 33).map (fun i => (i.zero, i.size, i.bytes)) = some (some (.slice none 0 0), 1, 24) := by kernel_rfl
set_option maxRecDepth 100000 in
theorem make_row (n : Nat) (hn : n ≤ 100) (w : World) : (Instr.makeSlice 33 (.int .i64 (n : Int)) (.int .i64 (n : Int))).run Try.prog w = .ok (.slice (some ⟨w.heap.size, 0, none⟩) n n) (w.alloc (.cells (enR n fun _ => 0) 3)) := by
  obtain ⟨i0, hi0, hz0, hz1, hz2⟩ := info_parts infoI
  have h := run_make (P := Try.prog) w 33 3 i0 (.int .i64 0) Try.underlying33 hi0 hz0 .i64 .i64 n n (by omega) (by omega) (by rw [hz2]; omega) (by omega)
  rw [h]
  simp only [Int.toNat_natCast, hz1, Nat.mul_one]
  rw [enR_zero]
  congr 2
  refine congrArg (fun c => Obj.cells c 3) (Array.toList_inj.1 ?_)
  rw [show (Value.int .i64 0).cells = #[.int .i64 0] from rfl, toList_madeCells_one]; simp
set_option maxHeartbeats 12800000 in
set_option maxRecDepth 100000 in
theorem rtable_any (n : Nat) (hn : n ≤ 100) (w : World) :
    Calls Try.prog 89 #[.int .i64 n] w (fun e w' => ∃ v G, e = .returned v ∧ G.length = n ∧ Tab w' w.heap.size v n G (fun _ _ => 0) ∧ Below w.heap.size w w') := by
  obtain ⟨i0, hi0, hz0, hz1, hz2⟩ := info_parts infoR
  have n1 : (0 : Int) ≤ (n : Int) := by omega
  go_enter Try.func89, Try.ntmps89
  go_wp2
  go_loopw [3, 4] (fun s v wr => ∃ (i : Nat) (G : List Nat), i ≤ n ∧ v = .int .i64 i ∧ G.length = i ∧ Tab wr w.heap.size s n G (fun _ _ => 0) ∧ Below w.heap.size w wr) (fun _ v _ => n - (intOf v).toNat)
  case atStart => exact ⟨0, [], by omega, rfl, rfl, ⟨World.ownsRow_nil _ _ _ _, fun j h => by simp at h, List.Pairwise.nil⟩, Below.refl _ _⟩
  case round =>
    obtain ⟨i, G, hi, rfl, hG, hT, hb⟩ := hrel
    have HT := Lib.hid hT
    have HBr := Lib.hid hb
    clear hT hb
    by_cases hlt : i < n
    · have i1 : (i : Int) < (n : Int) := by omega
      have hmk : (Instr.makeSlice 33 (.int .i64 (n : Int)) (.int .i64 (n : Int))).run Try.prog wr = .ok (.slice (some ⟨wr.heap.size, 0, none⟩) n n) (wr.alloc (.cells (enR n fun _ => 0) 3)) := make_row n hn wr
      have hp := HT.out
      have HOV : Hid ((wr.alloc (.cells (enR n fun _ => 0) 3)).ownsRow w.heap.size 33 1 u3 G.length (G.map (rowV n))) := Lib.hid (hp.own.alloc _)
      have HBV : Hid (Below w.heap.size w (wr.alloc (.cells (enR n fun _ => 0) 3))) := Lib.hid (HBr.out.alloc HBr.out.size _)
      have hlen : G.length = i := hG
      clear hp
      go_wp2_with (at_builtin; refine wpList_append_own _ rfl _ _ 106 rfl w.heap.size 33 i0 (.slice none 0 0) 1 24 Try.underlying106 hi0 hz0 hz1 hz2 rfl (by decide) _ _ _ rfl (HOV.out.alloc _) ⟨wr.heap.size + 1, 0, none⟩ 1 1 [rowV n wr.heap.size] rfl rfl (by have h9 := lit_row (wr.alloc (.cells (enR n fun _ => 0) 3)) [rowV n wr.heap.size] 33; rwa [World.size_alloc] at h9) (by simp [Value.oneCell', rowV]) (by unfold maxLen; omega) (by omega) (by rw [World.size_alloc]; have := HBV.out.size; omega) ?_; intro v1 w3 hown1 hgrow1 _; have HX1 := Lib.hid (HT.out.push HBr.out.size _ rfl _ hgrow1 hown1); have HX2 : Hid (Below w.heap.size w w3) := Lib.hid (below_push (w := w) HBV.out (fun k hk => (HOV.out.lt k hk).1) hgrow1); clear hown1 hgrow1)
      go_wp2
      go_roundw
      case rel => exact ⟨i + 1, _, by omega, by go_num, by rw [List.length_append, hG]; rfl, HX1.out, HX2.out⟩
      case measure => simp [intOf]; omega
    · obtain rfl : i = n := by omega
      go_wp2
      go_ret
      exact ⟨_, G, rfl, hG, HT.out, HBr.out⟩
end Go.Proofs.Ytndjjafpdiehdaa

namespace Go.Proofs.Ytndjjafpdiehdaa
open Go.RowKit Go.Shelf Go.Proofs.Gr
attribute [local go_sem] Oper.semAt_some

theorem rowJ_low (t : Nat → Nat → Int) (a b : Nat) (h : b ≤ a) : rowJ t a b = [] := by
  induction b with
  | zero => rfl
  | succ b ih => rw [rowJ, ih (by omega), if_neg (by omega)]; rfl
theorem rowJ_len (t : Nat → Nat → Int) (a b : Nat) : (rowJ t a b).length ≤ b := by
  induction b with
  | zero => simp [rowJ]
  | succ b ih => rw [rowJ, List.length_append]; split <;> simp <;> omega
theorem joinT_len (t : Nat → Nat → Int) (n k : Nat) : (joinT t n k).length ≤ k * n := by
  induction k with
  | zero => simp [joinT]
  | succ k ih => rw [joinT, List.length_append, Nat.succ_mul]; have := rowJ_len t k n; omega
theorem Tab.keep {w w' : World} {base : Nat} {v : Value} {n : Nat} {G : List Nat} {t : Nat → Nat → Int} (h : Tab w base v n G t) (hb : Below w.heap.size w w') : Tab w' base v n G t :=
  ⟨own_keep h.own hb, fun j hj => ⟨(h.row j hj).1.below hb (h.row j hj).1.lt, (h.row j hj).2⟩, h.srt⟩
theorem Tab.at {w : World} {base : Nat} {v : Value} {n : Nat} {G : List Nat} {t : Nat → Nat → Int} (h : Tab w base v n G t) (hG : G.length = n) (a b : Nat) (ha : a < n) (hb : b < n) :
    ∃ gb c g, v = .slice (some ⟨gb, 0, none⟩) n c ∧ gb < w.heap.size ∧ g < w.heap.size ∧ w.cell? ⟨gb, a, none⟩ = some (.slice (some ⟨g, 0, none⟩) n n) ∧ w.cell? ⟨g, b, none⟩ = some (.int .i64 (t a b)) := by
  obtain ⟨gb, c, hv⟩ := own_pos h.own (by omega)
  have ho := h.own
  subst hv
  have h1 := (ho.lt gb rfl).2
  have h2 := h.row a (by omega)
  refine ⟨gb, c, G[a]'(by omega), by rw [hG], h1, h2.1.lt, ?_, (h2.1.cell b).trans (enR_at n _ b hb)⟩
  rw [ho.cellAt a (by omega), List.getElem?_map, List.getElem?_eq_getElem (by omega)]; rfl

set_option maxHeartbeats 12800000 in
set_option maxRecDepth 100000 in
theorem rjoined_any (n : Nat) (hn : n ≤ 100) (v : Value) (base : Nat) (G : List Nat) (t : Nat → Nat → Int) (hG : G.length = n) (w : World) (h : Tab w base v n G t) :
    Calls Try.prog 90 #[.int .i64 n, v] w (GivesG w n (joinT t n n)) := by
  obtain ⟨i0, hi0, hz0, hz1, hz2⟩ := info_parts infoE
  unfold GivesG gv
  have HJ0 : Hid (joinT t n 0 = []) := Lib.hid rfl
  have HJS : Hid (∀ a, joinT t n (a + 1) = joinT t n a ++ rowJ t a n) := Lib.hid fun a => rfl
  have HRS : Hid (∀ a b, rowJ t a (b + 1) = rowJ t a b ++ (if a ≤ b ∧ 0 < t a b then [⟨a, b, t a b⟩] else [])) := Lib.hid fun a b => rfl
  have HR0 : Hid (∀ a, rowJ t a a = []) := Lib.hid fun a => rowJ_low t a a (Nat.le_refl _)
  have HJL : Hid (∀ a b, a ≤ n → b ≤ n → (joinT t n a ++ rowJ t a b).length ≤ 20000) := Lib.hid fun a b ha hb => by
    have h1 := joinT_len t n a
    have h2 := rowJ_len t a b
    have h3 : a * n ≤ 100 * 100 := Nat.mul_le_mul (by omega) hn
    rw [List.length_append]; omega
  obtain ⟨W, hW⟩ : ∃ W, W = w.alloc (Obj.cells #[.int .i64 0, .slice none 0 0] 24) := ⟨_, rfl⟩
  have hB0 : Below w.heap.size w W := by rw [hW]; exact (Below.refl _ w).alloc (Nat.le_refl _) _
  have hR : Blk W w.heap.size 24 #[.int .i64 0, .slice none 0 0] := by rw [hW]; exact Blk.new _ _ _
  have hs : W.heap.size = w.heap.size + 1 := by rw [hW]; simp
  have HWS := Lib.hid hs
  have HW := Lib.hid hW
  have HB0 := Lib.hid hB0
  have HR1 := Lib.hid hR
  have HT1 := Lib.hid (h.keep hB0)
  have HK0 : Hid (Blk (W.alloc (Obj.cells #[.int .i64 n, .slice none 0 0] 24)) (w.heap.size + 1) 24 #[.int .i64 n, .slice none 0 0]) := Lib.hid (by rw [← hs]; exact Blk.new _ _ _)
  have HBK : Hid (Below W.heap.size W (W.alloc (Obj.cells #[.int .i64 n, .slice none 0 0] 24))) := Lib.hid ((Below.refl _ _).alloc (Nat.le_refl _) _)
  clear hB0 hR hW h hs
  go_enter Try.func90, Try.ntmps90
  go_wp2
  rw [← HW.out]
  go_loopw [6] (fun x wr => ∃ (a : Nat) (s : Value), a ≤ n ∧ x = .int .i64 a ∧ Blk wr (w.heap.size + 1) 24 #[.int .i64 n, s] ∧ wr.ownsRow (w.heap.size + 2) 75 3 s (joinT t n a).length (flat encE (joinT t n a)) ∧ Below W.heap.size W wr) (fun x _ => n - (intOf x).toNat)
  case atStart => exact ⟨0, _, by omega, rfl, HK0.out, by rw [HJ0.out]; exact World.ownsRow_nil _ _ _ _, HBK.out⟩
  case round =>
    obtain ⟨a, s, ha, rfl, hK, hown, hb⟩ := hrel
    by_cases hlt : a < n
    · have i1 : (a : Int) < (n : Int) := by omega
      have HK := Lib.hid hK
      have HOW : Hid (wr.ownsRow (w.heap.size + 2) 75 3 s (joinT t n a ++ rowJ t a a).length (flat encE (joinT t n a ++ rowJ t a a))) := Lib.hid (by rw [HR0.out, List.append_nil]; exact hown)
      have HBr := Lib.hid hb
      have HJS2 := Lib.hid (HJS.out a)
      clear hK hown hb
      go_wp2
      go_loopw [7] (fun x wr => ∃ (b : Nat) (s : Value), a ≤ b ∧ b ≤ n ∧ x = .int .i64 b ∧ Blk wr (w.heap.size + 1) 24 #[.int .i64 n, s] ∧ wr.ownsRow (w.heap.size + 2) 75 3 s (joinT t n a ++ rowJ t a b).length (flat encE (joinT t n a ++ rowJ t a b)) ∧ Below W.heap.size W wr) (fun x _ => n - (intOf x).toNat)
      case atStart => exact ⟨a, _, by omega, by omega, rfl, HK.out, HOW.out, HBr.out⟩
      case round =>
        obtain ⟨b, s, hab, hbn, rfl, hK, hown, hb⟩ := hrel
        by_cases hlb : b < n
        · have hJL := HJL.out a b (by omega) (by omega)
          have hRS := HRS.out a b
          obtain ⟨gb, c, g, hv, q1, q2, x1, x2⟩ := HT1.out.at hG a b hlt hlb
          have y1 := (hb.cell (p := ⟨gb, a, none⟩) q1).trans x1
          have y2 := (hb.cell (p := ⟨g, b, none⟩) q2).trans x2
          subst hv
          have j1 : (b : Int) < (n : Int) := by omega
          have j2 : (0 : Int) ≤ (b : Int) := by omega
          have j3 : (0 : Int) ≤ (a : Int) := by omega
          generalize t a b = T at *
          have HK := Lib.hid hK
          have HB2 := Lib.hid hb
          obtain ⟨J, hJ⟩ : ∃ J, J = joinT t n a ++ rowJ t a b := ⟨_, rfl⟩
          rw [← hJ] at hown hJL
          have HJN : Hid (joinT t n a ++ rowJ t a (b + 1) = J ++ (if a ≤ b ∧ 0 < T then [⟨a, b, T⟩] else [])) := Lib.hid (by rw [hRS, hJ, List.append_assoc])
          have HOW := Lib.hid hown
          by_cases hT : 0 < T
          · have HJ2 : Hid (joinT t n a ++ rowJ t a (b + 1) = J ++ [⟨a, b, T⟩]) := Lib.hid (by rw [HJN.out, if_pos ⟨hab, hT⟩])
            have k1 : wr.cell? ⟨w.heap.size + 1, 1, none⟩ = some s := hK.cell 1
            have HAB := Lib.hid hab
            clear hK hb hown hRS hJ x1 x2 hab
            go_wp2
            have HS : Hid (∀ x, Below wr.heap.size wr x → (x.cell? ⟨w.heap.size + 1, 1, none⟩ = some s ∧ x.cell? ⟨gb, a, none⟩ = some (.slice (some ⟨g, 0, none⟩) n n) ∧ x.cell? ⟨g, b, none⟩ = some (.int .i64 T))) := Lib.hid fun x hx => ⟨(hx.cell (p := ⟨w.heap.size + 1, 1, none⟩) HK.out.lt).trans k1, (hx.cell (p := ⟨gb, a, none⟩) (Nat.lt_of_lt_of_le q1 HB2.out.size)).trans y1, (hx.cell (p := ⟨g, b, none⟩) (Nat.lt_of_lt_of_le q2 HB2.out.size)).trans y2⟩
            have hk2 : Below wr.heap.size wr wr.drew := (Below.refl _ _).drew
            have hSd := HS.out _ hk2
            clear y1 y2 k1
            refine wp_region_late (S := fun u => u.cell? ⟨w.heap.size + 1, 1, none⟩ = some s ∧ u.cell? ⟨gb, a, none⟩ = some (.slice (some ⟨g, 0, none⟩) n n) ∧ u.cell? ⟨g, b, none⟩ = some (.int .i64 T)) (X := [13, 15]) (by kernel_rfl) ?_
            refine wpAnyL_pureD (i := 0) 29 (.pointer (some ⟨w.heap.size + 1, 1, none⟩)) rfl rfl (by kernel_rfl) (by kernel_rfl) (by kernel_rfl) (fun _ _ _ h => h) (Or.inl ⟨by rfl, fun u _ => ?_⟩) ?_
            · go_simp
            try simp only [Act.put, List.setIfInBounds_toArray, List.set_cons_zero, List.set_cons_succ]
            refine wpAnyL_takeD (i := 1) 30 s rfl rfl (by kernel_rfl) (by kernel_rfl) (by kernel_rfl) (by kernel_rfl) (by kernel_rfl) (fun _ _ _ h => h) hSd (Or.inl ⟨by rfl, fun u hu => ?_⟩) ?_
            · obtain ⟨z0, z1, z2⟩ := hu
              go_simp
            try simp only [Act.put, List.setIfInBounds_toArray, List.set_cons_zero, List.set_cons_succ]
            refine wpAnyL_pureD (i := 2) 31 (.int .i64 (a : Int)) rfl rfl (by kernel_rfl) (by kernel_rfl) (by kernel_rfl) (fun _ _ _ h => h) (Or.inl ⟨by rfl, fun u _ => ?_⟩) ?_
            · go_simp
            try simp only [Act.put, List.setIfInBounds_toArray, List.set_cons_zero, List.set_cons_succ]
            refine wpAnyL_pureD (i := 3) 32 (.int .i64 (b : Int)) rfl rfl (by kernel_rfl) (by kernel_rfl) (by kernel_rfl) (fun _ _ _ h => h) (Or.inl ⟨by rfl, fun u _ => ?_⟩) ?_
            · go_simp
            try simp only [Act.put, List.setIfInBounds_toArray, List.set_cons_zero, List.set_cons_succ]
            refine wpAnyL_pureD (i := 4) 33 (.slice (some ⟨gb, 0, none⟩) n c) rfl rfl (by kernel_rfl) (by kernel_rfl) (by kernel_rfl) (fun _ _ _ h => h) (Or.inl ⟨by rfl, fun u _ => ?_⟩) ?_
            · go_simp
            try simp only [Act.put, List.setIfInBounds_toArray, List.set_cons_zero, List.set_cons_succ]
            refine wpAnyL_pureD (i := 5) 34 (.int .i64 (a : Int)) rfl rfl (by kernel_rfl) (by kernel_rfl) (by kernel_rfl) (fun _ _ _ h => h) (Or.inl ⟨by rfl, fun u _ => ?_⟩) ?_
            · go_simp
            try simp only [Act.put, List.setIfInBounds_toArray, List.set_cons_zero, List.set_cons_succ]
            refine wpAnyL_pureD (i := 6) 35 (.pointer (some ⟨gb, a, none⟩)) rfl rfl (by kernel_rfl) (by kernel_rfl) (by kernel_rfl) (fun _ _ _ h => h) (Or.inl ⟨by rfl, fun u _ => ?_⟩) ?_
            · go_simp
            try simp only [Act.put, List.setIfInBounds_toArray, List.set_cons_zero, List.set_cons_succ]
            refine wpAnyL_takeD (i := 7) 36 (.slice (some ⟨g, 0, none⟩) n n) rfl rfl (by kernel_rfl) (by kernel_rfl) (by kernel_rfl) (by kernel_rfl) (by kernel_rfl) (fun _ _ _ h => h) hSd (Or.inl ⟨by rfl, fun u hu => ?_⟩) ?_
            · obtain ⟨z0, z1, z2⟩ := hu
              go_simp
            try simp only [Act.put, List.setIfInBounds_toArray, List.set_cons_zero, List.set_cons_succ]
            refine wpAnyL_pureD (i := 8) 37 (.int .i64 (b : Int)) rfl rfl (by kernel_rfl) (by kernel_rfl) (by kernel_rfl) (fun _ _ _ h => h) (Or.inl ⟨by rfl, fun u _ => ?_⟩) ?_
            · go_simp
            try simp only [Act.put, List.setIfInBounds_toArray, List.set_cons_zero, List.set_cons_succ]
            refine wpAnyL_pureD (i := 9) 38 (.pointer (some ⟨g, b, none⟩)) rfl rfl (by kernel_rfl) (by kernel_rfl) (by kernel_rfl) (fun _ _ _ h => h) (Or.inl ⟨by rfl, fun u _ => ?_⟩) ?_
            · go_simp
            try simp only [Act.put, List.setIfInBounds_toArray, List.set_cons_zero, List.set_cons_succ]
            refine wpAnyL_takeD (i := 10) 39 (.int .i64 T) rfl rfl (by kernel_rfl) (by kernel_rfl) (by kernel_rfl) (by kernel_rfl) (by kernel_rfl) (fun _ _ _ h => h) hSd (Or.inl ⟨by rfl, fun u hu => ?_⟩) ?_
            · obtain ⟨z0, z1, z2⟩ := hu
              go_simp
            try simp only [Act.put, List.setIfInBounds_toArray, List.set_cons_zero, List.set_cons_succ]
            refine wpAnyL_pureD (i := 11) 40 (.agg #[.int .i64 (a : Int), .int .i64 (b : Int), .int .i64 T]) rfl rfl (by kernel_rfl) (by kernel_rfl) (by kernel_rfl) (fun _ _ _ h => h) (Or.inl ⟨by rfl, fun u _ => ?_⟩) ?_
            · go_simp
            try simp only [Act.put, List.setIfInBounds_toArray, List.set_cons_zero, List.set_cons_succ]
            refine wpAnyL_one (i := 12) (by kernel_rfl) rfl (fun K hK => ?_)
            go_simp
            refine hK.out _ _ (fun _ _ => HS.out _ ((Below.refl _ wr).alloc (Nat.le_refl _) _).drew) ?_
            clear hK K
            refine wpAnyL_one (i := 13) (by kernel_rfl) rfl (fun K hK => ?_)
            rw [if_pos (by kernel_rfl)]
            have hKd : Blk wr.drew (w.heap.size + 1) 24 #[.int .i64 n, s] := HK.out
            have hOd : wr.drew.ownsRow (w.heap.size + 2) 75 3 s J.length (flat encE J) := HOW.out
            have hsz : w.heap.size + 2 ≤ wr.heap.size := HK.out.lt
            refine wp_append_own _ _ _ 22 rfl (w.heap.size + 2) 75 i0 (.agg #[.int .i64 0, .int .i64 0, .int .i64 0]) 3 24 Try.underlying22 hi0 hz0 hz1 hz2 rfl (by decide) s _ _ (by rfl) ((HOW.out.alloc (Obj.cells #[.int .i64 (a : Int), .int .i64 (b : Int), .int .i64 T] 75)).drew) ⟨wr.heap.size, 0, none⟩ 1 1 [.int .i64 (a : Int), .int .i64 (b : Int), .int .i64 T] (by rfl) rfl (lit_row wr _ _) (by simp [Value.oneCell']) (by unfold maxLen; omega) (by omega) (by show w.heap.size + 2 ≤ (wr.alloc _).heap.size; rw [World.size_alloc]; omega) ?_
            intro v1 w3 hown1 hgrow1 _
            obtain ⟨g', cap', rfl⟩ := own_succ hown1
            obtain ⟨h31, h32, h33, h34⟩ := kept_push (V := wr.drew) hKd hOd hgrow1 hown1
            have hc1 : w3.cell? ⟨w.heap.size + 1, 1, none⟩ = some s := h31.cell 1
            have hf1 : w3.frozen? ⟨w.heap.size + 1, 1, none⟩ = false := h31.frozen 1
            have HX2 := Lib.hid h32
            have HX3 := Lib.hid h33
            have HX4 : Hid (Below W.heap.size W (w3.setCell ⟨w.heap.size + 1, 1, none⟩ (.slice (some ⟨g', 0, none⟩) (J.length + 1) cap'))) := Lib.hid (HB2.out.drew.trans (by rw [HWS.out]; exact h34))
            clear h31 h32 h33 h34 hown1 hgrow1 hKd hOd hSd hsz
            refine hK.out _ _ (fun h => absurd (by decide) h) ?_
            clear hK K
            refine wpAnyL_one (i := 14) (by kernel_rfl) rfl (fun K hK => ?_)
            go_simp
            refine hK.out _ _ (fun _ h => h) ?_
            clear hK K
            refine wpAnyL_one (i := 15) (by kernel_rfl) rfl (fun K hK => ?_)
            go_simp
            refine hK.out _ _ (fun h => absurd (by decide) h) ?_
            clear hK K
            refine wpAnyL_done (by kernel_rfl) ?_ _
            go_wp2
            go_roundw
            case rel => exact ⟨b + 1, _, by have := HAB.out; omega, by omega, by go_num, HX2.out, by rw [HJ2.out, List.length_append, flatE_snoc]; exact HX3.out, HX4.out⟩
            case measure => simp [intOf]; omega
          · have HJ2 : Hid (joinT t n a ++ rowJ t a (b + 1) = J) := Lib.hid (by rw [HJN.out, if_neg (fun h => hT h.2), List.append_nil])
            clear hK hb hown hRS hJ x1 x2
            go_wp2
            go_roundw
            case rel => exact ⟨b + 1, _, by omega, by omega, by go_num, HK.out, by rw [HJ2.out]; exact HOW.out, HB2.out⟩
            case measure => simp [intOf]; omega
        · obtain rfl : b = n := by omega
          have HK := Lib.hid hK
          have HOW := Lib.hid hown
          have HB2 := Lib.hid hb
          clear hK hown hb
          go_wp2
          go_roundw
          case rel => exact ⟨a + 1, _, by omega, by go_num, HK.out, by rw [HJS2.out]; exact HOW.out, HB2.out⟩
          case measure => simp [intOf]; omega
    · obtain rfl : a = n := by omega
      generalize hM : joinT t a a = M at *
      obtain ⟨sa, sc, rfl, -⟩ := RowAt.of_own encE_len3 hown
      have e0 := (ownsRow_setCell_below (ownsRow_setCell_below hown (a := ⟨w.heap.size, 0, none⟩) (by show w.heap.size < w.heap.size + 2; omega) (.int .i64 a)) (a := ⟨w.heap.size, 1, none⟩) (by show w.heap.size < w.heap.size + 2; omega) (.slice sa M.length sc))
      have E3 := Lib.hid (e0.mono (base' := w.heap.size) (by omega))
      obtain ⟨a', c', e1, e2⟩ := RowAt.of_own encE_len3 e0
      clear e0
      have E1 := Lib.hid e1
      have E2 := Lib.hid e2
      have hRr : Blk wr w.heap.size 24 #[.int .i64 0, .slice none 0 0] := HR1.out.below hb HR1.out.lt
      have r1 : wr.cell? ⟨w.heap.size, 0, none⟩ = some (.int .i64 0) := hRr.cell 0
      have r3 : wr.frozen? ⟨w.heap.size, 0, none⟩ = false := hRr.frozen 0
      have r2 : (wr.setCell ⟨w.heap.size, 0, none⟩ (.int .i64 a)).cell? ⟨w.heap.size, 1, none⟩ = some (.slice none 0 0) := (hRr.set_ 0 (.int .i64 a)).cell 1
      have r4 : (wr.setCell ⟨w.heap.size, 0, none⟩ (.int .i64 a)).frozen? ⟨w.heap.size, 1, none⟩ = false := (hRr.set_ 0 (.int .i64 a)).frozen 1
      have k2 : wr.cell? ⟨w.heap.size + 1, 0, none⟩ = some (.int .i64 a) := hK.cell 0
      have k3 : wr.cell? ⟨w.heap.size + 1, 1, none⟩ = some (.slice sa M.length sc) := hK.cell 1
      have hRf := (hRr.set_ 0 (.int .i64 a)).set_ 1 (.slice sa M.length sc)
      have r5 : ((wr.setCell ⟨w.heap.size, 0, none⟩ (.int .i64 a)).setCell ⟨w.heap.size, 1, none⟩ (.slice sa M.length sc)).cell? ⟨w.heap.size, 0, none⟩ = some (.int .i64 a) := hRf.cell 0
      have r6 : ((wr.setCell ⟨w.heap.size, 0, none⟩ (.int .i64 a)).setCell ⟨w.heap.size, 1, none⟩ (.slice sa M.length sc)).cell? ⟨w.heap.size, 1, none⟩ = some (.slice sa M.length sc) := hRf.cell 1
      have HBF : Hid (Below w.heap.size w ((wr.setCell ⟨w.heap.size, 0, none⟩ (.int .i64 a)).setCell ⟨w.heap.size, 1, none⟩ (.slice sa M.length sc))) := Lib.hid (((HB0.out.trans (hb.mono HB0.out.size)).setCell (p := ⟨w.heap.size, 0, none⟩) (Nat.le_refl _) _).setCell (p := ⟨w.heap.size, 1, none⟩) (Nat.le_refl _) _)
      clear hb hK hown hRr hRf e1 e2
      go_wp2
      refine bodyPost_ret (v := .agg #[.int .i64 a, .slice sa M.length sc]) (by simp [results, Try.results90, go_sem, r5, r6]) rfl ?_
      injection E1.out with q1 q2 q3
      have hq := E2.out
      rw [← q1] at hq
      exact ⟨sa, sc, by rw [hM], by rw [hM]; exact hq, by rw [hM]; exact E3.out, HBF.out⟩
end Go.Proofs.Ytndjjafpdiehdaa

namespace Go.Proofs.Ytndjjafpdiehdaa
open Go.RowKit Go.Shelf Go.Proofs.Gr
attribute [local go_sem] Oper.semAt_some

theorem enR_eq (n : Nat) (f g : Nat → Int) (h : ∀ k, k < n → g k = f k) : enR n f = enR n g := by
  unfold enR
  refine congrArg List.toArray (List.map_congr_left fun k hk => ?_)
  rw [h k (List.mem_range.1 hk)]
theorem Tab.congr {w : World} {base : Nat} {v : Value} {n : Nat} {G : List Nat} {t s : Nat → Nat → Int} (h : Tab w base v n G t) (hG : G.length = n) (ht : ∀ x y, x < n → y < n → s x y = t x y) : Tab w base v n G s :=
  ⟨h.own, fun j hj => ⟨by rw [← enR_eq n (t j) (s j) (fun k hk => ht j k (by omega) hk)]; exact (h.row j hj).1, (h.row j hj).2⟩, h.srt⟩
/-- A store into a table's row. -/
theorem Tab.set {w : World} {base : Nat} {v : Value} {n : Nat} {G : List Nat} {t : Nat → Nat → Int} (h : Tab w base v n G t) (a b : Nat) (ha : a < G.length) (z : Int) :
    Tab (w.setCell ⟨G[a], b, none⟩ (.int .i64 z)) base v n G (fun x y => if x = a ∧ y = b then z else t x y) := by
  refine ⟨ownsRow_setCell_other h.own (a := ⟨G[a], b, none⟩) (fun e => own_blk_ne h.own (h.row a ha).1 (by decide) e.symm) _, fun j hj => ⟨?_, (h.row j hj).2⟩, h.srt⟩
  by_cases e : j = a
  · subst e
    have h1 := (h.row j ha).1.set_ b (.int .i64 z)
    rw [enR_set n (t j) (fun y => if j = j ∧ y = b then z else t j y) b z (fun y => by simp)] at h1
    exact h1
  · have hne : G[j] ≠ G[a] := fun e2 => by
      rcases Nat.lt_or_ge j a with h3 | h3
      · exact Nat.lt_irrefl _ (e2 ▸ (List.pairwise_iff_getElem.1 h.srt) j a hj ha h3)
      · exact Nat.lt_irrefl _ (e2 ▸ (List.pairwise_iff_getElem.1 h.srt) a j ha hj (by omega))
    have h1 := (h.row j hj).1.far (p := ⟨G[a], b, none⟩) hne (.int .i64 z)
    rw [enR_eq n (t j) (fun y => if j = a ∧ y = b then z else t j y) (fun k _ => by rw [if_neg (fun h => e h.1)])] at h1
    exact h1
/-- What a table's place is, and that it may be written. -/
theorem Tab.at2 {w : World} {base : Nat} {v : Value} {n : Nat} {G : List Nat} {t : Nat → Nat → Int} (h : Tab w base v n G t) (hG : G.length = n) (a b : Nat) (ha : a < n) (hb : b < n) :
    ∃ gb c, ∃ g, v = .slice (some ⟨gb, 0, none⟩) n c ∧ gb < w.heap.size ∧ g < w.heap.size ∧ base ≤ g ∧ w.cell? ⟨gb, a, none⟩ = some (.slice (some ⟨g, 0, none⟩) n n) ∧ w.cell? ⟨g, b, none⟩ = some (.int .i64 (t a b)) ∧ w.frozen? ⟨g, b, none⟩ = false ∧
      ∀ z, Tab (w.setCell ⟨g, b, none⟩ (.int .i64 z)) base v n G (fun x y => if x = a ∧ y = b then z else t x y) := by
  obtain ⟨gb, c, hv⟩ := own_pos h.own (by omega)
  have ho := h.own
  have hset := fun z => h.set a b (by omega) z
  subst hv
  have h1 := (ho.lt gb rfl).2
  have h2 := h.row a (by omega)
  refine ⟨gb, c, G[a]'(by omega), by rw [hG], h1, h2.1.lt, h2.2, ?_, (h2.1.cell b).trans (enR_at n _ b hb), h2.1.frozen b, hset⟩
  rw [ho.cellAt a (by omega), List.getElem?_map, List.getElem?_eq_getElem (by omega)]; rfl

/-- A table filled as far as a place. -/
def partT (t : Nat → Nat → Int) (i k : Nat) : Nat → Nat → Int := fun x y => if (x < i ∨ (x = i ∧ y < k)) ∧ x ≤ y then t x y else 0
theorem partT_zero (t : Nat → Nat → Int) (x y : Nat) : partT t 0 0 x y = 0 := by unfold partT; rw [if_neg (by omega)]
theorem partT_set (t : Nat → Nat → Int) (i k : Nat) (h : i ≤ k) (x y : Nat) : partT t i (k + 1) x y = if x = i ∧ y = k then t i k else partT t i k x y := by
  unfold partT
  by_cases e : x = i ∧ y = k
  · obtain ⟨rfl, rfl⟩ := e
    rw [if_pos ⟨Or.inr ⟨rfl, by omega⟩, h⟩, if_pos ⟨rfl, rfl⟩]
  · rw [if_neg e]
    by_cases h1 : (x < i ∨ (x = i ∧ y < k)) ∧ x ≤ y
    · rw [if_pos h1, if_pos (by omega)]
    · rw [if_neg h1, if_neg (by omega)]
theorem partT_next (t : Nat → Nat → Int) (n i x y : Nat) (hy : y < n) : partT t (i + 1) (i + 1) x y = partT t i n x y := by
  unfold partT
  by_cases h1 : (x < i ∨ (x = i ∧ y < n)) ∧ x ≤ y
  · rw [if_pos h1, if_pos (by omega)]
  · rw [if_neg h1, if_neg (by omega)]
theorem rowJ_congr (s t : Nat → Nat → Int) (a n : Nat) (h : ∀ b, a ≤ b → b < n → s a b = t a b) : rowJ s a n = rowJ t a n := by
  induction n with
  | zero => rfl
  | succ n ih =>
    rw [rowJ, rowJ, ih (fun b h1 h2 => h b h1 (by omega))]
    congr 1
    by_cases e : a ≤ n
    · rw [h n e (by omega)]
    · rw [if_neg (fun h => e h.1), if_neg (fun h => e h.1)]
theorem joinT_congr (s t : Nat → Nat → Int) (n k : Nat) (h : ∀ a b, a < k → a ≤ b → b < n → s a b = t a b) : joinT s n k = joinT t n k := by
  induction k with
  | zero => rfl
  | succ k ih => rw [joinT, joinT, ih (fun a b h1 => h a b (by omega)), rowJ_congr s t k n (fun b h1 h2 => h k b (by omega) h1 h2)]
/-- The graph on a set. -/
def indG (L : List E) (S : List Int) : List E := joinT (fun x y => betw (iAt S x) (iAt S y) L) S.length S.length
theorem indG_part (L : List E) (S : List Int) : joinT (partT (fun x y => betw (iAt S x) (iAt S y) L) S.length S.length) S.length S.length = indG L S :=
  joinT_congr _ _ _ _ fun a b h1 h2 _ => by unfold partT; rw [if_pos ⟨Or.inl h1, h2⟩]

end Go.Proofs.Ytndjjafpdiehdaa

namespace Go.Proofs.Ytndjjafpdiehdaa
open Go.RowKit Go.Shelf Go.Proofs.Gr

theorem RowAt.take {α : Type} {k : Nat} {enc : α → List Value} {w : World} {a : Option Addr} {L : List α} (h : RowAt k enc w a L) (i : Nat) : RowAt k enc w a (L.take i) := by
  intro j hj
  have hj2 : j < L.length := by rw [List.length_take] at hj; omega
  obtain ⟨b, off, h1, h2, h3⟩ := h j hj2
  exact ⟨b, off, h1, h2, fun i hi => by rw [h3 i hi, List.getElem_take]⟩
/-- The error of a new number. -/
def nErr (n : Int) (S : List Int) (i : Nat) : Nat := if iAt S i < 0 ∨ n ≤ iAt S i then 2 else if (S.take i).contains (iAt S i) = true then 7 else 0
def renE (n : Int) (S : List Int) : Nat := if (S.length : Int) ≠ n then 8 else firstE (nErr n S) S.length
end Go.Proofs.Ytndjjafpdiehdaa

namespace Go.Proofs.Ytndjjafpdiehdaa
open Go.RowKit Go.Shelf Go.Proofs.Gr
attribute [local go_sem] Oper.semAt_some

/-- A row of truth values. -/
def enB (n : Nat) (f : Nat → Bool) : Array Value := ((List.range n).map fun k : Nat => Value.bool (f k)).toArray
theorem enB_at (n : Nat) (f : Nat → Bool) (k : Nat) (h : k < n) : (enB n f)[k]? = some (.bool (f k)) := by
  unfold enB
  rw [List.getElem?_toArray, List.getElem?_map, List.getElem?_range h]; rfl
theorem enB_set (n : Nat) (f g : Nat → Bool) (m : Nat) (z : Bool) (h : ∀ v, g v = if v = m then z else f v) : (enB n f).setIfInBounds m (.bool z) = enB n g := by
  unfold enB
  rw [List.setIfInBounds_toArray]
  congr 1
  refine List.ext_getElem (by simp) fun j h1 h2 => ?_
  rw [List.getElem_set]
  simp only [List.getElem_map, List.getElem_range]
  by_cases e : m = j
  · subst e; simp [h]
  · rw [if_neg e, h, if_neg (fun e' => e e'.symm)]
theorem enB_eq (n : Nat) (f g : Nat → Bool) (h : ∀ v, g v = f v) : enB n f = enB n g := by rw [show g = f from funext h]
theorem enB_false (n : Nat) : enB n (fun _ => false) = Array.replicate n (.bool false) := by
  unfold enB
  refine Array.ext (by simp) fun j h1 h2 => by simp
theorem infoB : (Try.prog.info? 4).map (fun i => (i.zero, i.size, i.bytes)) = some (some (.bool false), 1, 1) := by kernel_rfl
set_option maxRecDepth 100000 in
theorem make_bools (n : Nat) (hn : n ≤ 100) (w : World) : (Instr.makeSlice 61 (.int .i64 (n : Int)) (.int .i64 (n : Int))).run Try.prog w = .ok (.slice (some ⟨w.heap.size, 0, none⟩) n n) (w.alloc (.cells (enB n fun _ => false) 4)) := by
  obtain ⟨i0, hi0, hz0, hz1, hz2⟩ := info_parts infoB
  have h := run_make (P := Try.prog) w 61 4 i0 (.bool false) Try.underlying61 hi0 hz0 .i64 .i64 n n (by omega) (by omega) (by rw [hz2]; omega) (by omega)
  rw [h]
  simp only [Int.toNat_natCast, hz1, Nat.mul_one]
  rw [enB_false]
  congr 2
  refine congrArg (fun c => Obj.cells c 4) (Array.toList_inj.1 ?_)
  rw [show (Value.bool false).cells = #[.bool false] from rfl, toList_madeCells_one]; simp
/-- One step: b is reached from a. -/
def stepR (e : Nat → Nat → Bool) (t : Nat → Bool) (a b : Nat) : Nat → Bool := fun v => if v = b then (t b || (t a && e a b)) else t v
def inR (e : Nat → Nat → Bool) (a : Nat) : Nat → (Nat → Bool) → Nat → Bool
  | 0, t => t
  | b + 1, t => stepR e (inR e a b t) a b
def midR (e : Nat → Nat → Bool) (n : Nat) : Nat → (Nat → Bool) → Nat → Bool
  | 0, t => t
  | a + 1, t => inR e a n (midR e n a t)
def outR (e : Nat → Nat → Bool) (n : Nat) : Nat → (Nat → Bool) → Nat → Bool
  | 0, t => t
  | r + 1, t => midR e n n (outR e n r t)
/-- What is reached from a vertex. -/
def reachR (L : List E) (n v : Nat) : Nat → Bool := outR (fun a b : Nat => decide (0 < betw (a : Int) (b : Int) L)) n n (fun x => decide (x = v))
theorem stepR_no (e : Nat → Nat → Bool) (t : Nat → Bool) (a b : Nat) (h : (t a && e a b) = false) (v : Nat) : stepR e t a b v = t v := by
  unfold stepR
  rw [h, Bool.or_false]
  split
  · subst_vars; rfl
  · rfl
theorem stepR_yes (e : Nat → Nat → Bool) (t : Nat → Bool) (a b : Nat) (h : (t a && e a b) = true) (v : Nat) : stepR e t a b v = if v = b then true else t v := by
  unfold stepR
  rw [h, Bool.or_true]

set_option maxHeartbeats 12800000 in
set_option maxRecDepth 100000 in
theorem rreached_any (n : Nat) (hn : n ≤ 100) (a : Option Addr) (cap : Nat) (L : List E) (hL : L.length ≤ 100000) (hs : L.Pairwise (fun x y => ltE x y = true)) (v : Nat) (hv : v < n) (w : World) (h : EsAt w a L) :
    Calls Try.prog 96 #[gv n a L.length cap, .int .i64 v] w (fun e w' => ∃ g, e = .returned (.slice (some ⟨g, 0, none⟩) n n) ∧ w.heap.size ≤ g ∧ Blk w' g 4 (enB n (reachR L n v)) ∧ Below w.heap.size w w') := by
  have HBT := Lib.hid (fun u v w h => rbetween_any n a cap L hL hs u v w h)
  obtain ⟨e, he⟩ : ∃ e : Nat → Nat → Bool, e = fun a b : Nat => decide (0 < betw (a : Int) (b : Int) L) := ⟨_, rfl⟩
  have HEV : Hid (∀ x y : Nat, e x y = decide (0 < betw x y L)) := Lib.hid fun x y => by rw [he]
  have HRR : Hid (reachR L n v = outR e n n (fun x => decide (x = v))) := Lib.hid (by rw [he]; rfl)
  have HIS : Hid (∀ a b t, inR e a (b + 1) t = stepR e (inR e a b t) a b) := Lib.hid fun a b t => rfl
  have HMS : Hid (∀ a t, midR e n (a + 1) t = inR e a n (midR e n a t)) := Lib.hid fun a t => rfl
  have HOS : Hid (∀ r t, outR e n (r + 1) t = midR e n n (outR e n r t)) := Lib.hid fun a t => rfl
  have HI0 : Hid (∀ a t, inR e a 0 t = t) := Lib.hid fun a t => rfl
  have HM0 : Hid (∀ t, midR e n 0 t = t) := Lib.hid fun t => rfl
  have HO0 : Hid (∀ t, outR e n 0 t = t) := Lib.hid fun t => rfl
  generalize reachR L n v = R at *
  clear he
  unfold GivesN gv at *
  obtain ⟨W, hW⟩ : ∃ W, W = w.alloc (Obj.cells #[.int .i64 n, .slice a L.length cap] 24) := ⟨_, rfl⟩
  have hB0 : Below w.heap.size w W := by rw [hW]; exact (Below.refl _ w).alloc (Nat.le_refl _) _
  have hG : Blk W w.heap.size 24 #[.int .i64 n, .slice a L.length cap] := by rw [hW]; exact Blk.new _ _ _
  have hWs : W.heap.size = w.heap.size + 1 := by rw [hW]; simp
  have HWS := Lib.hid hWs
  have HW := Lib.hid hW
  have HB0 := Lib.hid hB0
  have HG := Lib.hid hG
  have HE := Lib.hid (h.keep hB0)
  have g0 : W.cell? ⟨w.heap.size, 0, none⟩ = some (.int .i64 n) := hG.cell 0
  have hmk : (Instr.makeSlice 61 (.int .i64 (n : Int)) (.int .i64 (n : Int))).run Try.prog (w.alloc (Obj.cells #[.int .i64 n, .slice a L.length cap] 24)) = .ok (.slice (some ⟨w.heap.size + 1, 0, none⟩) n n) (W.alloc (.cells (enB n fun _ => false) 4)) := by rw [← hW, ← hWs]; exact make_bools n hn W
  have hT0 : Blk (W.alloc (.cells (enB n fun _ => false) 4)) (w.heap.size + 1) 4 (enB n fun _ => false) := by rw [← hWs]; exact Blk.new _ _ _
  have y1 : (W.alloc (.cells (enB n fun _ => false) 4)).cell? ⟨w.heap.size + 1, v, none⟩ = some (.bool false) := (hT0.cell v).trans (enB_at n _ v hv)
  have y2 : (W.alloc (.cells (enB n fun _ => false) 4)).frozen? ⟨w.heap.size + 1, v, none⟩ = false := hT0.frozen v
  have v1 : (v : Int) < (n : Int) := by omega
  have v0 : (0 : Int) ≤ (v : Int) := by omega
  have n0 : (0 : Int) ≤ (n : Int) := by omega
  have HN0 : Hid (Blk ((W.alloc (.cells (enB n fun _ => false) 4)).setCell ⟨w.heap.size + 1, v, none⟩ (.bool true)) (w.heap.size + 1) 4 (enB n fun x => decide (x = v))) := Lib.hid (by
    rw [← enB_set n (fun _ => false) (fun x => decide (x = v)) v true (fun x => by by_cases e : x = v <;> simp [e])]
    exact hT0.set_ v _)
  have HBN0 : Hid (Below W.heap.size W ((W.alloc (.cells (enB n fun _ => false) 4)).setCell ⟨w.heap.size + 1, v, none⟩ (.bool true))) := Lib.hid (((Below.refl _ _).alloc (Nat.le_refl _) _).setCell (p := ⟨w.heap.size + 1, v, none⟩) (Nat.le_of_eq hWs) _)
  clear hB0 hG hW hWs h hT0
  go_enter Try.func96, Try.ntmps96
  go_wp2
  clear y1 y2 hmk g0
  go_loopw [6] (fun x wr => ∃ r : Nat, r ≤ n ∧ x = .int .i64 r ∧ Blk wr (w.heap.size + 1) 4 (enB n (outR e n r (fun x => decide (x = v)))) ∧ Below W.heap.size W wr) (fun x _ => n - (intOf x).toNat)
  case atStart => exact ⟨0, by omega, rfl, by rw [HO0.out]; exact HN0.out, HBN0.out⟩
  case round =>
    obtain ⟨r, hr, rfl, hT, hb⟩ := hrel
    have g0 : wr.cell? ⟨w.heap.size, 0, none⟩ = some (.int .i64 n) := (HG.out.below hb HG.out.lt).cell 0
    have HOS2 := Lib.hid (HOS.out r (fun x => decide (x = v)))
    generalize hTe : outR e n r (fun x => decide (x = v)) = T1 at *
    have HTE := Lib.hid hTe
    clear hTe
    have HT1 := Lib.hid hT
    have HB1 := Lib.hid hb
    clear hT hb
    by_cases hlr : r < n
    · have r1 : (r : Int) < (n : Int) := by omega
      go_wp2
      clear g0
      go_loopw [7] (fun x wr => ∃ c : Nat, c ≤ n ∧ x = .int .i64 c ∧ Blk wr (w.heap.size + 1) 4 (enB n (midR e n c T1)) ∧ Below W.heap.size W wr) (fun x _ => n - (intOf x).toNat)
      case atStart => exact ⟨0, by omega, rfl, by rw [HM0.out]; exact HT1.out, HB1.out⟩
      case round =>
        obtain ⟨c, hc, rfl, hT, hb⟩ := hrel
        have g0 : wr.cell? ⟨w.heap.size, 0, none⟩ = some (.int .i64 n) := (HG.out.below hb HG.out.lt).cell 0
        have HMS2 := Lib.hid (HMS.out c T1)
        by_cases hlc : c < n
        · generalize midR e n c T1 = T2 at *
          have HT2 := Lib.hid hT
          have HB2 := Lib.hid hb
          clear hT hb
          have c1 : (c : Int) < (n : Int) := by omega
          have c0 : (0 : Int) ≤ (c : Int) := by omega
          go_wp2
          clear g0
          go_loopw [8] (fun x wr => ∃ d : Nat, d ≤ n ∧ x = .int .i64 d ∧ Blk wr (w.heap.size + 1) 4 (enB n (inR e c d T2)) ∧ Below W.heap.size W wr) (fun x _ => n - (intOf x).toNat)
          case atStart => exact ⟨0, by omega, rfl, by rw [HI0.out]; exact HT2.out, HB2.out⟩
          case round =>
            obtain ⟨d, hd, rfl, hT, hb⟩ := hrel
            have hg := HG.out.below hb HG.out.lt
            have g0 : wr.cell? ⟨w.heap.size, 0, none⟩ = some (.int .i64 n) := hg.cell 0
            have g1 : wr.cell? ⟨w.heap.size, 1, none⟩ = some (.slice a L.length cap) := hg.cell 1
            clear hg
            have HIS2 := Lib.hid (HIS.out c d T2)
            by_cases hld : d < n
            · generalize inR e c d T2 = T3 at *
              have d1 : (d : Int) < (n : Int) := by omega
              have d0 : (0 : Int) ≤ (d : Int) := by omega
              have z1 : wr.cell? ⟨w.heap.size + 1, c, none⟩ = some (.bool (T3 c)) := (hT.cell c).trans (enB_at n T3 c hlc)
              have HT3 := Lib.hid hT
              have HB3 := Lib.hid hb
              have HEr := Lib.hid (HE.out.keep hb)
              clear hT hb
              by_cases ht : T3 c = true
              · rw [ht] at z1
                have HT := Lib.hid ht
                have HBT2 := Lib.hid (fun w h => HBT.out (c : Int) (d : Int) w h)
                have HEd := Lib.hid (HEV.out c d)
                generalize betw (c : Int) (d : Int) L = B at *
                clear ht
                go_wp2_with fail
                refine (HBT2.out _ HEr.out).mono ?_
                rintro e' w2 ⟨rfl, hb2⟩
                have HB4 := Lib.hid (HB3.out.trans (hb2.mono HB3.out.size))
                have hT4 : Blk w2 (w.heap.size + 1) 4 (enB n T3) := HT3.out.below hb2 HT3.out.lt
                clear hb2
                by_cases hB : 0 < B
                · have z2 : w2.cell? ⟨w.heap.size + 1, d, none⟩ = some (.bool (T3 d)) := (hT4.cell d).trans (enB_at n T3 d hld)
                  have z3 : w2.frozen? ⟨w.heap.size + 1, d, none⟩ = false := hT4.frozen d
                  have HN : Hid (Blk (w2.setCell ⟨w.heap.size + 1, d, none⟩ (.bool true)) (w.heap.size + 1) 4 (enB n (inR e c (d + 1) T2))) := Lib.hid (by
                    rw [HIS2.out, ← enB_set n T3 _ d true (fun x => stepR_yes e T3 c d (by rw [HT.out, HEd.out, decide_eq_true hB]; rfl) x)]
                    exact hT4.set_ d _)
                  have HBN : Hid (Below W.heap.size W (w2.setCell ⟨w.heap.size + 1, d, none⟩ (.bool true))) := Lib.hid (HB4.out.setCell (p := ⟨w.heap.size + 1, d, none⟩) (Nat.le_of_eq HWS.out) _)
                  generalize T3 d = q at *
                  clear hT4
                  go_wp2
                  go_roundw
                  case rel => exact ⟨d + 1, by omega, by go_num, HN.out, HBN.out⟩
                  case measure => simp [intOf]; omega
                · have HN : Hid (Blk w2 (w.heap.size + 1) 4 (enB n (inR e c (d + 1) T2))) := Lib.hid (by
                    rw [HIS2.out, ← enB_eq n T3 _ (fun x => stepR_no e T3 c d (by rw [HT.out, HEd.out, decide_eq_false hB]; rfl) x)]
                    exact hT4)
                  clear hT4
                  go_wp2
                  go_roundw
                  case rel => exact ⟨d + 1, by omega, by go_num, HN.out, HB4.out⟩
                  case measure => simp [intOf]; omega
              · have ht' : T3 c = false := by simpa using ht
                rw [ht'] at z1
                have HN : Hid (Blk wr (w.heap.size + 1) 4 (enB n (inR e c (d + 1) T2))) := Lib.hid (by
                  rw [HIS2.out, ← enB_eq n T3 _ (fun x => stepR_no e T3 c d (by rw [ht']; rfl) x)]
                  exact HT3.out)
                clear ht ht'
                go_wp2
                go_roundw
                case rel => exact ⟨d + 1, by omega, by go_num, HN.out, HB3.out⟩
                case measure => simp [intOf]; omega
            · obtain rfl : d = n := by omega
              have HN := Lib.hid hT
              have HBN := Lib.hid hb
              clear hT hb
              go_wp2
              go_roundw
              case rel => exact ⟨c + 1, by omega, by go_num, by rw [HMS2.out]; exact HN.out, HBN.out⟩
              case measure => simp [intOf]; omega
        · obtain rfl : c = n := by omega
          have HN := Lib.hid hT
          have HBN := Lib.hid hb
          clear hT hb
          go_wp2
          go_roundw
          case rel => exact ⟨r + 1, by omega, by go_num, by rw [HOS2.out]; exact HN.out, HBN.out⟩
          case measure => simp [intOf]; omega
    · obtain rfl : r = n := by omega
      go_wp2
      go_ret
      exact ⟨w.heap.size + 1, rfl, by omega, by rw [HRR.out, HTE.out]; exact HT1.out, HB0.out.trans (HB1.out.mono HB0.out.size)⟩
end Go.Proofs.Ytndjjafpdiehdaa

namespace Go.Proofs.Ytndjjafpdiehdaa
open Go.RowKit Go.Shelf Go.Proofs.Gr
attribute [local go_sem] Oper.semAt_some

/-- The first u hold what either table holds. -/
def orT (t r : Nat → Bool) (u : Nat) : Nat → Bool := fun v => if v < u then (t v || r v) else t v
theorem orT_zero (t r : Nat → Bool) (v : Nat) : orT t r 0 v = t v := by unfold orT; rw [if_neg (by omega)]
theorem orT_at (t r : Nat → Bool) (u : Nat) : orT t r u u = t u := by unfold orT; rw [if_neg (by omega)]
theorem orT_set (t r : Nat → Bool) (u v : Nat) : orT t r (u + 1) v = if v = u then (t u || r u) else orT t r u v := by
  unfold orT
  by_cases e : v = u
  · subst e; rw [if_pos (by omega), if_pos rfl]
  · rw [if_neg e]
    by_cases h : v < u
    · rw [if_pos h, if_pos (by omega)]
    · rw [if_neg h, if_neg (by omega)]
/-- What has been seen, and the number of parts. -/
def psR (L : List E) (n : Nat) : Nat → (Nat → Bool) × Nat
  | 0 => (fun _ => false, 0)
  | c + 1 => if (psR L n c).1 c = true then psR L n c else (orT (psR L n c).1 (reachR L n c) n, (psR L n c).2 + 1)
def partsR (L : List E) (n : Nat) : Nat := (psR L n n).2
theorem psR_le (L : List E) (n c : Nat) : (psR L n c).2 ≤ c := by
  induction c with
  | zero => simp [psR]
  | succ c ih =>
    rw [psR]
    split
    · omega
    · show (psR L n c).2 + 1 ≤ c + 1; omega

set_option maxHeartbeats 12800000 in
set_option maxRecDepth 100000 in
theorem rparts_any (n : Nat) (hn : n ≤ 100) (a : Option Addr) (cap : Nat) (L : List E) (hL : L.length ≤ 100000) (hs : L.Pairwise (fun x y => ltE x y = true)) (w : World) (h : EsAt w a L) :
    Calls Try.prog 79 #[gv n a L.length cap] w (GivesN w (partsR L n : Nat)) := by
  have HRE := Lib.hid (fun v hv w h => rreached_any n hn a cap L hL hs v hv w h)
  have HPR : Hid (partsR L n = (psR L n n).2) := Lib.hid rfl
  have HP0 : Hid (psR L n 0 = (fun _ => false, 0)) := Lib.hid rfl
  have HPS : Hid (∀ c, psR L n (c + 1) = if (psR L n c).1 c = true then psR L n c else (orT (psR L n c).1 (reachR L n c) n, (psR L n c).2 + 1)) := Lib.hid fun c => rfl
  have HPL := Lib.hid (fun c => psR_le L n c)
  generalize partsR L n = R at *
  unfold GivesN gv at *
  obtain ⟨W, hW⟩ : ∃ W, W = w.alloc (Obj.cells #[.int .i64 n, .slice a L.length cap] 24) := ⟨_, rfl⟩
  have hB0 : Below w.heap.size w W := by rw [hW]; exact (Below.refl _ w).alloc (Nat.le_refl _) _
  have hG : Blk W w.heap.size 24 #[.int .i64 n, .slice a L.length cap] := by rw [hW]; exact Blk.new _ _ _
  have hWs : W.heap.size = w.heap.size + 1 := by rw [hW]; simp
  have HWS := Lib.hid hWs
  have HW := Lib.hid hW
  have HB0 := Lib.hid hB0
  have HG := Lib.hid hG
  have HE := Lib.hid (h.keep hB0)
  have hmk : (Instr.makeSlice 61 (.int .i64 (n : Int)) (.int .i64 (n : Int))).run Try.prog (w.alloc (Obj.cells #[.int .i64 n, .slice a L.length cap] 24)) = .ok (.slice (some ⟨w.heap.size + 1, 0, none⟩) n n) (W.alloc (.cells (enB n fun _ => false) 4)) := by rw [← hW, ← hWs]; exact make_bools n hn W
  have HN0 : Hid (Blk (W.alloc (.cells (enB n fun _ => false) 4)) (w.heap.size + 1) 4 (enB n fun _ => false)) := Lib.hid (by rw [← hWs]; exact Blk.new _ _ _)
  have HBN0 : Hid (Below W.heap.size W (W.alloc (.cells (enB n fun _ => false) 4))) := Lib.hid ((Below.refl _ _).alloc (Nat.le_refl _) _)
  have n0 : (0 : Int) ≤ (n : Int) := by omega
  clear hB0 hG hW hWs h
  go_enter Try.func79, Try.ntmps79
  go_wp2
  clear hmk
  go_loopw [3, 5] (fun y x wr => ∃ c : Nat, c ≤ n ∧ x = .int .i64 c ∧ y = .int .i64 ((psR L n c).2 : Nat) ∧ Blk wr (w.heap.size + 1) 4 (enB n (psR L n c).1) ∧ Below W.heap.size W wr) (fun _ x _ => n - (intOf x).toNat)
  case atStart => exact ⟨0, by omega, rfl, rfl, HN0.out, HBN0.out⟩
  case round =>
    obtain ⟨c, hc, rfl, rfl, hT, hb⟩ := hrel
    have hg := HG.out.below hb HG.out.lt
    have g0 : wr.cell? ⟨w.heap.size, 0, none⟩ = some (.int .i64 n) := hg.cell 0
    have g1 : wr.cell? ⟨w.heap.size, 1, none⟩ = some (.slice a L.length cap) := hg.cell 1
    clear hg
    have hpl := HPL.out c
    have HPS2 := Lib.hid (HPS.out c)
    by_cases hlc : c < n
    · generalize psR L n c = st at *
      obtain ⟨T, q⟩ := st
      simp only at hT hpl HPS2
      have c1 : (c : Int) < (n : Int) := by omega
      have c0 : (0 : Int) ≤ (c : Int) := by omega
      have z1 : wr.cell? ⟨w.heap.size + 1, c, none⟩ = some (.bool (T c)) := (hT.cell c).trans (enB_at n T c hlc)
      have HT := Lib.hid hT
      have HBr := Lib.hid hb
      have HEr := Lib.hid (HE.out.keep hb)
      clear hT hb
      by_cases ht : T c = true
      · rw [ht] at z1
        have HPS3 : Hid (psR L n (c + 1) = (T, q)) := Lib.hid (by rw [HPS2.out, if_pos ht])
        clear ht hpl
        go_wp2
        go_roundw
        case rel => exact ⟨c + 1, by omega, by go_num, by rw [HPS3.out], by rw [HPS3.out]; exact HT.out, HBr.out⟩
        case measure => simp [intOf]; omega
      · have HPS3 : Hid (psR L n (c + 1) = (orT T (reachR L n c) n, q + 1)) := Lib.hid (by rw [HPS2.out, if_neg ht])
        have ht' : T c = false := by simpa using ht
        rw [ht'] at z1
        have HQ : Hid (IntKind.i64.wrap ((q : Int) + 1) = (q : Int) + 1) := Lib.hid (IntWalk.i64_in _ (by omega))
        have hq1 := HQ.out
        clear ht ht' hpl
        go_wp2_with fail
        refine (HRE.out c hlc _ HEr.out).mono ?_
        rintro e' w2 ⟨g, rfl, hgw, hR, hb2⟩
        generalize reachR L n c = r at *
        have HT2 : Hid (Blk w2 (w.heap.size + 1) 4 (enB n (orT T r 0))) := Lib.hid (by rw [← enB_eq n T _ (fun v => orT_zero T r v)]; exact HT.out.below hb2 HT.out.lt)
        have HR2 := Lib.hid hR
        have HB2 := Lib.hid (HBr.out.trans (hb2.mono HBr.out.size))
        have HNE : Hid (g ≠ w.heap.size + 1) := Lib.hid (by have := HT.out.lt; omega)
        clear hb2 hR hgw g0 g1 z1
        go_wp2
        go_loopw [7] (fun x wr => ∃ d : Nat, d ≤ n ∧ x = .int .i64 d ∧ Blk wr (w.heap.size + 1) 4 (enB n (orT T r d)) ∧ Blk wr g 4 (enB n r) ∧ Below W.heap.size W wr) (fun x _ => n - (intOf x).toNat)
        case atStart => exact ⟨0, by omega, rfl, HT2.out, HR2.out, HB2.out⟩
        case round =>
          obtain ⟨d, hd, rfl, hT, hR, hb⟩ := hrel
          have g0 : wr.cell? ⟨w.heap.size, 0, none⟩ = some (.int .i64 n) := (HG.out.below hb HG.out.lt).cell 0
          by_cases hld : d < n
          · have d1 : (d : Int) < (n : Int) := by omega
            have d0 : (0 : Int) ≤ (d : Int) := by omega
            have z1 : wr.cell? ⟨w.heap.size + 1, d, none⟩ = some (.bool (T d)) := (hT.cell d).trans ((enB_at n _ d hld).trans (by rw [orT_at]))
            have z2 : wr.cell? ⟨g, d, none⟩ = some (.bool (r d)) := (hR.cell d).trans (enB_at n r d hld)
            have z3 : wr.frozen? ⟨w.heap.size + 1, d, none⟩ = false := hT.frozen d
            have HN : Hid (∀ b, b = (T d || r d) → Blk (wr.setCell ⟨w.heap.size + 1, d, none⟩ (.bool b)) (w.heap.size + 1) 4 (enB n (orT T r (d + 1))) ∧ Blk (wr.setCell ⟨w.heap.size + 1, d, none⟩ (.bool b)) g 4 (enB n r) ∧ Below W.heap.size W (wr.setCell ⟨w.heap.size + 1, d, none⟩ (.bool b))) := Lib.hid fun b hbb => by
              refine ⟨?_, hR.far (p := ⟨w.heap.size + 1, d, none⟩) HNE.out _, hb.setCell (p := ⟨w.heap.size + 1, d, none⟩) (Nat.le_of_eq HWS.out) _⟩
              rw [← enB_set n (orT T r d) _ d b (fun v => by rw [hbb]; exact orT_set T r d v)]
              exact hT.set_ d _
            generalize T d = td at *
            generalize r d = rd at *
            clear hT hR hb
            cases td
            · have HN1 := Lib.hid (HN.out rd rfl)
              go_wp2
              go_roundw
              case rel => exact ⟨d + 1, by omega, by go_num, HN1.out.1, HN1.out.2.1, HN1.out.2.2⟩
              case measure => simp [intOf]; omega
            · have HN1 := Lib.hid (HN.out true rfl)
              go_wp2
              go_roundw
              case rel => exact ⟨d + 1, by omega, by go_num, HN1.out.1, HN1.out.2.1, HN1.out.2.2⟩
              case measure => simp [intOf]; omega
          · obtain rfl : d = n := by omega
            have HN := Lib.hid hT
            have HBN := Lib.hid hb
            clear hT hb hR
            go_wp2
            go_roundw
            case rel => exact ⟨c + 1, by omega, by go_num, by rw [HPS3.out]; rfl, by rw [HPS3.out]; exact HN.out, HBN.out⟩
            case measure => simp [intOf]; omega
    · obtain rfl : c = n := by omega
      have HBN := Lib.hid hb
      rw [← HPR.out]
      clear hb hT hpl
      go_wp2
      go_ret
      exact ⟨rfl, HB0.out.trans (HBN.out.mono HB0.out.size)⟩
set_option maxHeartbeats 12800000 in
set_option maxRecDepth 100000 in
theorem rgenus_any (n : Nat) (hn : n ≤ 100) (a : Option Addr) (cap : Nat) (L : List E) (hL : L.length ≤ 100000) (hR : Right n L) (w : World) (h : EsAt w a L) :
    Calls Try.prog 36 #[gv n a L.length cap] w (GivesN w (sizeG L - n + (partsR L n : Nat))) := by
  have HSZ := Lib.hid (fun w h => rsize_any n a cap L hL hR w h)
  have HPA := Lib.hid (fun w h => rparts_any n hn a cap L hL hR.srt w h)
  have h2 := psR_le L n n
  have h3 := sum_bound (f := fun e => e.m) (L := L) (fun e he => by have := hR.rng e he; omega) L.length
  rw [take_all] at h3
  have h4 : sizeG L = sumL (fun e => e.m) L := rfl
  have h5 : partsR L n = (psR L n n).2 := rfl
  rw [← h4] at h3
  rw [← h5] at h2
  unfold GivesN gv at *
  obtain ⟨W, hW⟩ : ∃ W, W = w.alloc (Obj.cells #[.int .i64 n, .slice a L.length cap] 24) := ⟨_, rfl⟩
  have hB0 : Below w.heap.size w W := by rw [hW]; exact (Below.refl _ w).alloc (Nat.le_refl _) _
  have hG : Blk W w.heap.size 24 #[.int .i64 n, .slice a L.length cap] := by rw [hW]; exact Blk.new _ _ _
  have HW := Lib.hid hW
  have HB0 := Lib.hid hB0
  have HG := Lib.hid hG
  have HE := Lib.hid (h.keep hB0)
  clear hB0 hG hW h h4 h5
  generalize sizeG L = S at *
  generalize partsR L n = C at *
  have c1 : IntKind.i64.wrap (S - n) = S - n := IntWalk.i64_in _ (by omega)
  have c2 : IntKind.i64.wrap (S - n + C) = S - n + C := IntWalk.i64_in _ (by omega)
  have HS : Hid (∀ x, Below W.heap.size W x → (Below W.heap.size W x ∧ x.cell? ⟨w.heap.size, 0, none⟩ = some (.int .i64 (n : Nat)) ∧ x.cell? ⟨w.heap.size, 1, none⟩ = some (.slice a L.length cap))) := fun x hx => ⟨hx, (HG.out.below hx HG.out.lt).cell 0, (HG.out.below hx HG.out.lt).cell 1⟩
  clear hR h2 h3
  go_enter Try.func36, Try.ntmps36
  go_wp2
  rw [← HW.out]
  have hk2 : Below W.heap.size W W.drew := (Below.refl _ _).drew
  obtain ⟨_, f0, f1⟩ := HS.out _ hk2
  go_region_held3 (fun x => Below W.heap.size W x ∧ x.cell? ⟨w.heap.size, 0, none⟩ = some (.int .i64 (n : Nat)) ∧ x.cell? ⟨w.heap.size, 1, none⟩ = some (.slice a L.length cap))
    (first | exact HS.out _ (by assumption) | exact HS.out _ (Below.drew (by assumption)))
    (first | (go_at_call 35; refine (HSZ.out _ (HE.out.keep hk2)).mono ?_; rintro e wz ⟨rfl, hbz⟩; have hk3 := hk2.trans (hbz.mono hk2.size); clear hbz hk2; have hk2 := hk3; clear hk3) | (go_at_call 79; refine (HPA.out _ (HE.out.keep hk2)).mono ?_; rintro e wz ⟨rfl, hbz⟩; have hk3 := hk2.trans (hbz.mono hk2.size); clear hbz hk2; have hk2 := hk3; clear hk3))
  rename_i hHeldz
  clear hHeldz
  go_wp2
  go_ret
  exact ⟨rfl, HB0.out.trans (hk2.mono HB0.out.size)⟩
end Go.Proofs.Ytndjjafpdiehdaa
