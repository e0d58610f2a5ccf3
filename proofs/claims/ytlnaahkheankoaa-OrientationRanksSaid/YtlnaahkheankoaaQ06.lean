/- The iterator over the single edges. And: Ends of the program. And: Orientations in numbers: arcs, heads, sources, orders. No program is named. And: Cut of the program. And: The number of components, the genus. -/
import Derived.RangeFuncNested
import Derived.RangeFuncBound
import Derived.RangeFuncCalls
import Derived.RangeFuncLeaves
import Derived.RangeFuncBox
import Derived.Shelf.Abstract
import Derived.OwnWalkIn
import Derived.TacticsInMore
import Derived.LoopNIn
import Derived.LoopIn
import Derived.Maps.AppendAt
import Derived.Test.YtlnaahkheankoaaQ05
import Derived.BigQuiet
import Derived.Deep.QuietTactic
namespace Go.Proofs.Ytlnaahkheankoaa
open Go.RowKit Go.Shelf Go.Proofs.Gr
attribute [local go_sem] Oper.semAt_some

/-- Ends that may be vertices. -/
def InR (x : Nat × (Int × Int)) : Prop := 0 ≤ x.2.1 ∧ x.2.1 < 12 ∧ 0 ≤ x.2.2 ∧ x.2.2 < 12
/-- The first single edges with their numbers. -/
def sg (P : List (Int × Int)) (k : Nat) : List (Nat × (Int × Int)) := (List.range k).map fun j => (j, pAt P j)
theorem sg_succ (P : List (Int × Int)) (k : Nat) : sg P (k + 1) = sg P k ++ [(k, pAt P k)] := by simp [sg, List.range_succ]
theorem sg_len (P : List (Int × Int)) (k : Nat) : (sg P k).length = k := by simp [sg]
/-- What the body of a loop over the single edges must keep: what lay below, and the boxes of edges. -/
def KpE (n₀ : Nat) (A B : World) : Prop := Below n₀ A B ∧ ∀ g cs, Blk A g 79 cs → Blk B g 79 cs
theorem KpE.t {n₀ : Nat} {A B C : World} (h : KpE n₀ A B) (k : KpE n₀ B C) : KpE n₀ A C := ⟨h.1.trans k.1, fun g cs hA => k.2 g cs (h.2 g cs hA)⟩
theorem KpE.b {n₀ : Nat} {w : World} (hn : n₀ ≤ w.heap.size) (W : World) (l : Nat) (o o' : Obj) (hl : w.heap.size ≤ l) (h : W.heap[l]? = some o) (hc : o.isCells = false) (hw : o.isWalk = false) : KpE n₀ W (W.putObj l o') :=
  ⟨belowK_b hn W l o o' hl h hc hw, fun g cs hA => by
    unfold Blk at *
    have hne : g ≠ l := by rintro rfl; rw [h] at hA; cases hA; cases hc
    rw [World.putObj_heap_other hne]; exact hA⟩
/-- The ends behind the first edges. -/
theorem ends_split (L : List E) (i : Nat) (h : i < L.length) (k : Nat) (hk : (k : Int) < (eAt L i).m) : pAt (endsG L) ((endsG (L.take i)).length + k) = ((eAt L i).a, (eAt L i).b) ∧ (endsG (L.take i)).length + k < (endsG L).length := by
  have h1 : endsG L = endsG (L.take (i + 1)) ++ endsG (L.drop (i + 1)) := by
    unfold endsG; rw [← List.flatMap_append, List.take_append_drop]
  rw [h1, endsG_take L i h]
  have h2 : k < (List.replicate (eAt L i).m.toNat ((eAt L i).a, (eAt L i).b)).length := by rw [List.length_replicate]; omega
  constructor
  · unfold pAt
    rw [List.getD_eq_getElem?_getD, List.append_assoc, List.getElem?_append_right (by omega), List.getElem?_append_left (by rw [Nat.add_sub_cancel_left]; exact h2), Nat.add_sub_cancel_left, List.getElem?_eq_getElem h2]
    simp
  · rw [List.length_append, List.length_append]; omega
theorem ends_next (L : List E) (i : Nat) (h : i < L.length) (hm : 0 ≤ (eAt L i).m) : ((endsG (L.take (i + 1))).length : Int) = (endsG (L.take i)).length + (eAt L i).m := by
  rw [endsG_take L i h, List.length_append, List.length_replicate]; omega

set_option maxRecDepth 100000 in
set_option maxHeartbeats 8000000 in
theorem singles1_in (n : Nat) (hn : 1 ≤ n) (l Bg n₀ : Nat) (nv : Int) (a : Option Addr) (cap : Nat) (L : List E) (hL : L.length ≤ 100000) (hm : ∀ e ∈ L, 0 ≤ e.m ∧ e.m ≤ 50) (hr : ∀ e ∈ L, 0 ≤ e.a ∧ e.a < 12 ∧ 0 ≤ e.b ∧ e.b < 12) (J Jx : List (Nat × (Int × Int)) → World → Prop) (W : World) (hJ : AbidesFrom W.heap.size J)
    (hY : ∀ pre (x : Nat × (Int × Int)) W1, InR x → J pre W1 → pre.length < (endsG L).length → YieldAt Fence.wide (n - 1) Try.prog l #[.int .i64 (x.1 : Nat), .agg #[.int .i64 x.2.1, .int .i64 x.2.2]] W1 fun e W' =>
      (e = .returned (.bool true) ∧ J (pre ++ [x]) W' ∧ KpE n₀ W1 W') ∨ (e = .returned (.bool false) ∧ Jx (pre ++ [x]) W'))
    (hn₀ : n₀ ≤ W.heap.size) (hG : Blk W Bg 24 #[.int .i64 nv, .slice a L.length cap]) (hE : ∀ x, Below n₀ W x → EsAt x a L) (h0 : J [] W) :
    CallsIn Fence.wide n Try.prog 112 #[.func (.yield l) #[] #[], .pointer (some ⟨Bg, 0, none⟩)] W fun e W' => (∃ v, e = .returned v) ∧
      ((∃ ys, ys = sg (endsG L) (endsG L).length ∧ J ys W') ∨ (∃ pre, (∃ k, k ≤ (endsG L).length ∧ pre = sg (endsG L) k) ∧ Jx pre W')) := by
  have HSP := Lib.hid (fun i h k hk => ends_split L i h k hk)
  have HNX := Lib.hid (fun i h hm => ends_next L i h hm)
  have HM : Hid (∀ i, i < L.length → 0 ≤ (eAt L i).m ∧ (eAt L i).m ≤ 50) := Lib.hid fun i hi => hm _ (by rw [← eAt_get L i hi]; exact List.getElem_mem hi)
  have HR : Hid (∀ i, i < L.length → 0 ≤ (eAt L i).a ∧ (eAt L i).a < 12 ∧ 0 ≤ (eAt L i).b ∧ (eAt L i).b < 12) := Lib.hid fun i hi => hr _ (by rw [← eAt_get L i hi]; exact List.getElem_mem hi)
  have HZ0 : Hid (sg (endsG L) (endsG (L.take 0)).length = []) := Lib.hid rfl
  have HSG := Lib.hid (fun k => sg_succ (endsG L) k)
  have HSL := Lib.hid (fun k => sg_len (endsG L) k)
  have HALL : Hid ((endsG L).length = (endsG (L.take L.length)).length) := Lib.hid (by rw [List.take_length])
  have HLT : Hid (∀ i, (endsG (L.take i)).length ≤ (endsG L).length ∧ (endsG (L.take i)).length ≤ 5000000) := Lib.hid fun i => by
    have h1 : endsG L = endsG (L.take i) ++ endsG (L.drop i) := by unfold endsG; rw [← List.flatMap_append, List.take_append_drop]
    have h2 : ∀ M : List E, (∀ e ∈ M, 0 ≤ e.m ∧ e.m ≤ 50) → (endsG M).length ≤ 50 * M.length := by
      intro M hM
      induction M with
      | nil => simp [endsG]
      | cons e r ih =>
        have h3 := ih (fun x hx => hM x (List.mem_cons_of_mem _ hx))
        have h4 := hM e List.mem_cons_self
        unfold endsG at *
        rw [List.flatMap_cons, List.length_append, List.length_replicate, List.length_cons]
        omega
    have h5 := h2 (L.take i) (fun e he => hm e (List.mem_of_mem_take he))
    have h6 : (L.take i).length ≤ L.length := by rw [List.length_take]; omega
    rw [h1, List.length_append]; omega
  have HG := Lib.hid hG
  have HE := Lib.hid hE
  have HJ := Lib.hid hJ
  have HYY := Lib.hid hY
  have g1 : W.cell? ⟨Bg, 1, none⟩ = some (.slice a L.length cap) := hG.cell 1
  generalize endsG L = P at *
  clear hm hr hE hG hJ hY
  refine callsIn_of_wp Try.func112 rfl trivial ?_ rfl
  simp only [Try.ntmps112, List.size_toArray, List.length_cons, List.length_nil, Nat.reduceAdd, Nat.reduceSub, Array.replicate_succ, Array.replicate_zero, List.push_toArray, List.append_toArray, List.nil_append, List.cons_append]
  gi_wp2
  gi_loopw [3, 9] (fun u v wr => ∃ i : Nat, i ≤ L.length ∧ v = .int .i64 i ∧ u = .int .i64 ((endsG (L.take i)).length : Nat) ∧ J (sg P (endsG (L.take i)).length) wr ∧ Below n₀ W wr) (fun _ v _ => L.length - (intOf v).toNat)
  case atStart => exact ⟨0, by omega, rfl, rfl, by rw [HZ0.out]; exact h0, Below.refl _ _⟩
  case round =>
    obtain ⟨i, hi, rfl, rfl, hJs, hb⟩ := hrel
    by_cases hlt : i < L.length
    · obtain ⟨b1, o1, ha, q1, x1, x2, x3⟩ := (HE.out wr hb).three i hlt
      subst ha
      have hsp := HSP.out i hlt
      have hm1 := HM.out i hlt
      have hnx := HNX.out i hlt hm1.1
      have hlt2 := (HLT.out i).2
      have hrg := HR.out i hlt
      generalize eAt L i = T at *
      obtain ⟨ta, tb, tm⟩ := T
      simp only at x1 x2 x3 hsp hm1 hnx hrg
      have HRG : Hid (∀ u : Nat, InR (u, (ta, tb))) := Lib.hid fun u => hrg
      obtain ⟨M, hM⟩ : ∃ M : Nat, tm = M := ⟨tm.toNat, by omega⟩
      subst hM
      generalize (endsG (L.take i)).length = c0 at *
      generalize hc1 : (endsG (L.take (i + 1))).length = c1 at *
      have hc2 : c1 = c0 + M := by omega
      have HC2 := Lib.hid hc2
      have HC1 := Lib.hid hc1
      have hn2 : n₀ ≤ wr.heap.size := Nat.le_trans hn₀ hb.size
      have hq1 : W.heap.size ≤ wr.heap.size := hb.size
      have HBX : Hid (J (sg P c0) (wr.alloc (Obj.cells #[.int .i64 ta, .int .i64 tb, .int .i64 (M : Nat)] 79))) := Lib.hid (HJ.out _ _ _ none hJs (World.grownBy_alloc wr _ none) (fun r e => by cases e))
      have HBB : Hid (Below n₀ W (wr.alloc (Obj.cells #[.int .i64 ta, .int .i64 tb, .int .i64 (M : Nat)] 79))) := Lib.hid (hb.alloc hn2 _)
      have HQ0 : Hid (Blk (wr.alloc (Obj.cells #[.int .i64 ta, .int .i64 tb, .int .i64 (M : Nat)] 79)) wr.heap.size 79 #[.int .i64 ta, .int .i64 tb, .int .i64 (M : Nat)]) := Lib.hid (Blk.new _ _ _)
      have HSPs := Lib.hid hsp
      have i1 : (i : Int) < ((L.length : Nat) : Int) := by omega
      have hm50 : M ≤ 50 := by omega
      obtain ⟨q, hq⟩ : ∃ q, q = wr.heap.size := ⟨_, rfl⟩
      have HQ := Lib.hid hq
      clear hb hJs hnx hm1 hsp hc1 hc2 hq hrg
      gi_wp2
      rw [← HQ.out]
      gi_loopw [3, 15] (fun u v wr => ∃ k : Nat, k ≤ M ∧ v = .int .i64 k ∧ u = .int .i64 ((c0 + k : Nat) : Int) ∧ J (sg P (c0 + k)) wr ∧ Below n₀ W wr ∧ Blk wr q 79 #[.int .i64 ta, .int .i64 tb, .int .i64 (M : Nat)]) (fun _ v _ => M - (intOf v).toNat)
      case atStart => exact ⟨0, by omega, rfl, rfl, HBX.out, HBB.out, by rw [HQ.out]; exact HQ0.out⟩
      case round =>
        obtain ⟨k, hk, rfl, rfl, hJs, hb, hQ⟩ := hrel
        obtain ⟨u, hu⟩ : ∃ u, u = c0 + k := ⟨_, rfl⟩
        rw [← hu] at hJs ⊢
        by_cases hkm : k < M
        · obtain ⟨hx1, hx2⟩ := HSPs.out k (by omega)
          rw [← hu] at hx1 hx2
          have k1 : (k : Int) < ((M : Nat) : Int) := by omega
          have y1 : wr.cell? ⟨q, 0, none⟩ = some (.int .i64 ta) := hQ.cell 0
          have y2 : wr.cell? ⟨q, 1, none⟩ = some (.int .i64 tb) := hQ.cell 1
          obtain ⟨fn, tmps, assign, body, hy, hR⟩ := HYY.out (sg P u) (u, (ta, tb)) wr (HRG.out u) hJs (by rw [HSL.out]; exact hx2)
          have HX : Hid (sg P u ++ [(u, (ta, tb))] = sg P (c0 + (k + 1))) := Lib.hid (by rw [← Nat.add_assoc, ← hu, HSG.out, hx1])
          have HLE : Hid (c0 + (k + 1) ≤ P.length) := Lib.hid (by omega)
          have HBr := Lib.hid hb
          have HQr := Lib.hid hQ
          have c9 : IntKind.i64.wrap ((u : Int) + 1) = (u : Int) + 1 := IntWalk.i64_in _ (by omega)
          have HU := Lib.hid hu
          simp only at hy
          clear hJs hb hQ hx1 hx2 hu
          gi_wp2
          refine hR.mono ?_
          rintro e' W3 (⟨rfl, hJ3, hk3⟩ | ⟨rfl, hJx3⟩)
          · rw [HX.out] at hJ3
            have HJ3 := Lib.hid hJ3
            have HB3 := Lib.hid (HBr.out.trans hk3.1)
            have HQ3 := Lib.hid (hk3.2 _ _ HQr.out)
            clear hJ3 hk3
            gi_wp2
            go_roundw
            case rel => exact ⟨k + 1, by omega, by go_num, by have := HU.out; go_num, HJ3.out, HB3.out, HQ3.out⟩
            case measure => simp [intOf]; omega
          · rw [HX.out] at hJx3
            gi_wp2
            refine bodyPost_ret (results_none rfl _ _ _) rfl ?_
            exact ⟨⟨_, rfl⟩, .inr ⟨_, ⟨_, HLE.out, rfl⟩, hJx3⟩⟩
        · obtain rfl : k = M := by omega
          have HJs := Lib.hid hJs
          have HBr := Lib.hid hb
          have HU := Lib.hid hu
          clear hJs hb hQ hu
          gi_wp2
          go_roundw
          case rel => exact ⟨i + 1, by omega, by go_num, by rw [HC1.out, HC2.out, HU.out], by rw [HC1.out, HC2.out, ← HU.out]; exact HJs.out, HBr.out⟩
          case measure => simp [intOf]; omega
    · obtain rfl : i = L.length := by omega
      have HJs := Lib.hid hJs
      clear hJs
      gi_wp2
      go_end0
      exact ⟨⟨_, rfl⟩, .inl ⟨_, by rw [← HALL.out], HJs.out⟩⟩

set_option maxHeartbeats 1000000 in
/-- singles: the graph is boxed; the function value captures the box. -/
theorem singles_in (n : Nat) (nv : Int) (a : Option Addr) (len cap : Nat) (w : World) :
    CallsIn Fence.wide n Try.prog 100 #[gv nv a len cap] w fun e w' => e = .returned (.func (.func 112) #[] #[.pointer (some ⟨w.heap.size, 0, none⟩)]) ∧ w' = w.alloc (.cells #[.int .i64 nv, .slice a len cap] 24) := by
  unfold gv
  refine callsIn_of_wp Try.func100 rfl trivial ?_ rfl
  simp only [Try.ntmps100, List.size_toArray, List.length_cons, List.length_nil, Nat.reduceAdd, Nat.reduceSub, Array.replicate_succ, Array.replicate_zero, List.push_toArray, List.append_toArray, List.nil_append, List.cons_append]
  gi_wp2
  go_ret
  exact ⟨rfl, rfl⟩

/-- Single edges whose ends may be vertices. -/
abbrev SE := { x : Nat × (Int × Int) // InR x }
abbrev encS (x : SE) : Array Value := #[.int .i64 (x.1.1 : Nat), .agg #[.int .i64 x.1.2.1, .int .i64 x.1.2.2]]
/-- What singles hands back. -/
theorem singles_stops (n : Nat) (hn : 1 ≤ n) (Bg n₀ : Nat) (nv : Int) (a : Option Addr) (cap : Nat) (L : List E) (hL : L.length ≤ 100000) (hR : Right nv L) (w : World) (hBg : Bg < w.heap.size) (hn₀ : n₀ ≤ w.heap.size)
    (hG : Blk w Bg 24 #[.int .i64 nv, .slice a L.length cap]) (hE : ∀ x, Below n₀ w x → EsAt x a L) :
    SeqStopsK Fence.wide n Try.prog 112 #[.pointer (some ⟨Bg, 0, none⟩)] encS (KpE n₀) (fun ys => ys.map Subtype.val = sg (endsG L) (endsG L).length) (fun pre => ∃ k, k ≤ (endsG L).length ∧ pre.map Subtype.val = sg (endsG L) k) (endsG L).length w := by
  intro l J Jx W hW hJ _ hY h0
  refine (singles1_in n hn l Bg n₀ nv a cap L hL (fun e he => by have := hR.rng e he; omega) (fun e he => by have := hR.rng e he; have := hR.hi; omega) (fun pre W => ∃ p : List SE, p.map Subtype.val = pre ∧ J p W) (fun pre W => ∃ p : List SE, p.map Subtype.val = pre ∧ Jx p W) W
    (fun s A B row hs hg hr => by obtain ⟨p, h1, h2⟩ := hs; exact ⟨p, h1, hJ p A B row h2 hg hr⟩) ?_ (Nat.le_trans hn₀ hW.size) (hG.below hW hBg) (fun x hx => hE x ((hW.mono hn₀).trans hx)) ⟨[], rfl, h0⟩).mono ?_
  · rintro pre x W1 hx ⟨p, rfl, hp⟩ hlt
    refine (hY p ⟨x, hx⟩ W1 hp (by simpa using hlt)).mono ?_
    rintro e W' (⟨he, h1, h2⟩ | ⟨he, h1⟩)
    · exact .inl ⟨he, ⟨p ++ [⟨x, hx⟩], by simp, h1⟩, h2⟩
    · exact .inr ⟨he, ⟨p ++ [⟨x, hx⟩], by simp, h1⟩⟩
  · rintro e W' ⟨h1, h2⟩
    refine ⟨h1, ?_⟩
    rcases h2 with ⟨ys, rfl, p, hp, h3⟩ | ⟨pre, ⟨k, hk, rfl⟩, p, hp, h3⟩
    · exact .inl ⟨p, hp, h3⟩
    · exact .inr ⟨p, ⟨k, hk, hp⟩, h3⟩
end Go.Proofs.Ytlnaahkheankoaa

namespace Go.Proofs.Ytlnaahkheankoaa
open Go.RowKit Go.Shelf Go.Proofs.Gr
attribute [local go_sem] Oper.semAt_some

theorem KpE.alloc {n₀ : Nat} {W : World} (h : n₀ ≤ W.heap.size) (o : Obj) : KpE n₀ W (W.alloc o) := ⟨(Below.refl _ W).alloc h _, fun _ _ hA => hA.alloc _⟩
theorem own_succ {w : World} {base : Nat} {e : TypeId} {size : Nat} {v : Value} {n : Nat} {xs : List Value} (h : w.ownsRow base e size v (n + 1) xs) : ∃ g c, v = .slice (some ⟨g, 0, none⟩) (n + 1) c := by
  rcases h.2 with ⟨_, h0⟩ | ⟨g, c, cur, hv, _⟩
  · omega
  · exact ⟨g, c, hv⟩
theorem ke_push {W w2 : World} {o : Obj} {v : Value} {base n k : Nat} {xs : List Value} {e : TypeId} (hrow : W.ownsRow base e k v n xs) (he : e ≠ 79) (hg : (W.alloc o).grownBy w2 v.ownBlock) (g : Nat) (cs : Array Value) (hA : Blk W g 79 cs) : Blk w2 g 79 cs :=
  (hA.alloc o).grown hg (own_blk_ne (hrow.alloc o) (hA.alloc o) he)
theorem ke_ne {w2 : World} {B g : Nat} {t : TypeId} {v : Value} {cs : Array Value} (h9 : Boxed w2 B t v) (ht : t ≠ 79) (h8 : Blk w2 g 79 cs) : g ≠ B := by
  rintro rfl
  unfold Blk at h8
  have h9' : w2.heap[g]? = some (.cells #[v] t (0, 0)) := h9
  rw [h9'] at h8
  injection h8 with h8
  injection h8 with _ h8
  exact ht h8
theorem RowAt.putObj {α : Type} {k : Nat} {enc : α → List Value} (hk : ∀ x, (enc x).length = k) {W : World} {a : Option Addr} {L : List α} (h : RowAt k enc W a L) {D : Nat} {o o' : Obj} (hD : W.heap[D]? = some o) (hc : o.isCells = false) : RowAt k enc (W.putObj D o') a L := by
  intro j hj
  obtain ⟨b, off, h1, h2, h3⟩ := h j hj
  refine ⟨b, off, h1, by simpa [World.putObj] using h2, fun i hi => ?_⟩
  have h4 := h3 i hi
  have h5 : i < (enc L[j]).length := by rw [hk]; exact hi
  rw [List.getElem?_eq_getElem h5] at h4 ⊢
  exact cell_kept h4 (grownBy_putObj' W D o') (fun r e => by cases e; exact ⟨_, hD, hc⟩)
/-- Hands back pairs and an error's number. -/
def GivesPE (w : World) (l : List (Int × Int)) (k : Nat) (e : Ending) (w' : World) : Prop := ∃ a c, e = .returned (.tuple #[.slice a l.length c, .int .i64 (k : Nat)]) ∧ PsAt w' a l ∧ Below w.heap.size w w'

set_option maxRecDepth 100000 in
set_option maxHeartbeats 8000000 in
theorem pends_ok (nv : Int) (a : Option Addr) (cap : Nat) (L : List E) (hL : L.length ≤ 100000) (h0 : chkG nv L = 0) (w : World) (h : EsAt w a L) :
    CallsIn Fence.wide 3 Try.prog 69 #[gv nv a L.length cap] w (GivesPE w (endsG L) 0) := by
  obtain ⟨i0, hi0, hz0, hz1, hz2⟩ := info_parts infoP
  have HC := Lib.hid (fun w h => check_any nv a cap L (by omega) w h)
  rw [h0] at HC
  have HM := Lib.hid (right_of h0)
  have HLN : Hid ((endsG L).length ≤ 5000000) := Lib.hid (by have := ends_all (right_of h0); omega)
  obtain ⟨W, hW⟩ : ∃ W, W = w.alloc (Obj.cells #[.int .i64 nv, .slice a L.length cap] 24) := ⟨_, rfl⟩
  have hB0 : Below w.heap.size w W := by rw [hW]; exact (Below.refl _ w).alloc (Nat.le_refl _) _
  have hG : Blk W w.heap.size 24 #[.int .i64 nv, .slice a L.length cap] := by rw [hW]; exact Blk.new _ _ _
  have HW := Lib.hid hW
  have HB0 := Lib.hid hB0
  have HG := Lib.hid hG
  have HE := Lib.hid (h.keep hB0)
  unfold GivesPE
  unfold GivesN gv at *
  clear h hB0 hG hW h0
  refine callsIn_of_wp_marks Try.func69 rfl trivial ?_ rfl
  simp only [Try.ntmps69, List.size_toArray, List.length_cons, List.length_nil, Nat.reduceAdd, Nat.reduceSub, Array.replicate_succ, Array.replicate_zero, List.push_toArray, List.append_toArray, List.nil_append, List.cons_append]
  gi_wp2_with fail
  rw [← HW.out]
  refine ⟨trivial, ?_⟩
  refine (callsIn_wide.2 (HC.out _ HE.out)).mono ?_
  rintro e w1 ⟨rfl, hb⟩
  have g0' : w1.cell? ⟨w.heap.size, 0, none⟩ = some (.int .i64 nv) := (HG.out.below hb HG.out.lt).cell 0
  have g1' : w1.cell? ⟨w.heap.size, 1, none⟩ = some (.slice a L.length cap) := (HG.out.below hb HG.out.lt).cell 1
  have HB1 := Lib.hid (HB0.out.trans (hb.mono HB0.out.size))
  have HE1 := Lib.hid (HE.out.keep hb)
  have hG1 : Blk (w1.alloc (Obj.cells #[.slice none 0 0] 83)) w.heap.size 24 #[.int .i64 nv, .slice a L.length cap] := (HG.out.below hb HG.out.lt).alloc _
  have g2' : (w1.alloc (Obj.cells #[.slice none 0 0] 83)).cell? ⟨w.heap.size, 0, none⟩ = some (.int .i64 nv) := hG1.cell 0
  have g3' : (w1.alloc (Obj.cells #[.slice none 0 0] 83)).cell? ⟨w.heap.size, 1, none⟩ = some (.slice a L.length cap) := hG1.cell 1
  clear hb hG1
  gi_wp2_with fail
  refine ⟨trivial, ?_⟩
  refine (singles_in 2 nv a L.length cap _).mono ?_
  rintro e w' ⟨rfl, rfl⟩
  gi_wp2_with fail
  -- the world where the loop begins
  have hbW : Below w1.heap.size w1 ((w1.alloc (Obj.cells #[.slice none 0 0] 83)).alloc (Obj.cells #[.int .i64 nv, .slice a L.length cap] 24)) := (((Below.refl _ w1).alloc (Nat.le_refl _) _).alloc (by simp) _)
  have bS := (Boxed.new w1 83 (.slice none 0 0)).alloc (.cells #[.int .i64 nv, .slice a L.length cap] 24)
  have bG : Blk ((w1.alloc (Obj.cells #[.slice none 0 0] 83)).alloc (Obj.cells #[.int .i64 nv, .slice a L.length cap] 24)) (w1.heap.size + 1) 24 #[.int .i64 nv, .slice a L.length cap] := by
    have h9 := Blk.new (w1.alloc (Obj.cells #[.slice none 0 0] 83)) 24 #[.int .i64 nv, .slice a L.length cap]
    rwa [World.size_alloc] at h9
  have hsz : ((w1.alloc (Obj.cells #[.slice none 0 0] 83)).alloc (Obj.cells #[.int .i64 nv, .slice a L.length cap] 24)).heap.size = w1.heap.size + 2 := by simp
  obtain ⟨W0, hW0⟩ : ∃ W0, (w1.alloc (Obj.cells #[.slice none 0 0] 83)).alloc (Obj.cells #[.int .i64 nv, .slice a L.length cap] 24) = W0 := ⟨_, rfl⟩
  rw [hW0] at hbW bS bG hsz ⊢
  clear hW0 g0' g1' g2' g3'
  have hown0 : W0.ownsRow w1.heap.size 85 2 (.slice none 0 0) 0 [] := World.ownsRow_nil _ _ _ _
  refine wpIn_rangeFunc_ownH rfl (by omega) (gf := 112) (lb := #[.pointer (some ⟨w1.heap.size + 1, 0, none⟩)]) rfl trivial (enters_of Try.func112 (by kernel_rfl) rfl)
    (singles_stops 2 (by omega) (w1.heap.size + 1) w1.heap.size nv a cap L hL HM.out W0 (by omega) (by omega) bG (fun x hx => HE1.out.keep (hbW.trans hx))) KpE.t (KpE.b (by omega)) (Below.refl _ _) (fun _ => rfl)
    (fun pre W => (∃ v, Boxed W w1.heap.size 83 v ∧ W.ownsRow w1.heap.size 85 2 v pre.length (flat encP (pre.map fun x => x.1.2)) ∧ True) ∧ Below w1.heap.size w1 W)
    (fun _ _ _ => False)
    (OwnFrom.and (Own.from (holdsRow_own w1.heap.size w1.heap.size 83 85 2 (fun pre : List SE => pre.length) (fun pre => flat encP (pre.map fun x => x.1.2)) (fun _ _ => True)) _) (ownFrom_below (Nat.le_refl _) (by omega)))
    (fun _ _ _ _ _ hs _ _ => hs)
    ⟨⟨_, bS, hown0, trivial⟩, hbW⟩
    (fun x a' W => ∃ Bx, w1.heap.size ≤ Bx ∧ Blk W Bx 85 #[.int .i64 x.1.2.1, .int .i64 x.1.2.2] ∧ a' = { tmps := #[.agg #[.int .i64 nv, .slice a L.length cap], .pointer (some ⟨w.heap.size, 0, none⟩), .slice none 0 0, .int .i64 0, .int .i64 0, .pointer (some ⟨w1.heap.size, 0, none⟩), undef, .pointer (some ⟨Bx, 0, none⟩), .agg #[.int .i64 nv, .slice a L.length cap], .int .i64 0, .int .i64 0, .bool false, undef, .agg #[.int .i64 nv, .slice a L.length cap], .func (.func 112) #[] #[.pointer (some ⟨w1.heap.size + 1, 0, none⟩)], .int .i64 (x.1.1 : Nat), .agg #[.int .i64 x.1.2.1, .int .i64 x.1.2.2], undef, undef, undef, undef, undef], defers := [] })
    (fun x a' _ X Y row hs hg hr => by
      obtain ⟨Bx, h1, h2, h3⟩ := hs
      refine ⟨Bx, h1, h2.grown hg (fun e => ?_), h3⟩
      obtain ⟨-, o, ho, hc⟩ := hr Bx e.symm
      unfold Blk at h2
      rw [h2] at ho; cases ho; cases hc)
    ?assign ?body ?done ?stop
  case assign =>
    rintro l pre x W K ⟨⟨v, hv, hrow, -⟩, hB⟩ hK
    gi_wp2
    exact hK _ _ ((KeepsOthers.alloc _ _).from _) (KpE.alloc hB.size _) ⟨⟨v, hv.alloc _, hrow.alloc _, trivial⟩, hB.alloc hB.size _⟩ ⟨W.heap.size, hB.size, Blk.new W _ _, rfl⟩
  case body =>
    rintro l pre x a' W hl ⟨r, hr⟩ ⟨⟨v, hv, hrow, -⟩, hB⟩ ⟨Bx, hBx, bX, rfl⟩ hlt
    have hc := hv.cell
    have x0 : W.cell? ⟨Bx, 0, none⟩ = some (.int .i64 x.1.2.1) := bX.cell 0
    have x1 : W.cell? ⟨Bx, 1, none⟩ = some (.int .i64 x.1.2.2) := bX.cell 1
    have hln := HLN.out
    obtain ⟨⟨xk, xa, xb⟩, hxr⟩ := x
    simp only at x0 x1
    gi_wp2_with (gi_at_builtin; refine wpListIn_append_own _ rfl _ _ 83 rfl w1.heap.size 85 i0 (.agg #[.int .i64 0, .int .i64 0]) 2 16 Try.underlying83 hi0 hz0 hz1 hz2 rfl (by decide) _ _ _ rfl (hrow.alloc _) ⟨W.heap.size, 0, none⟩ 1 1 [.int .i64 xa, .int .i64 xb] rfl rfl (lit_row _ _ _) (by simp [Value.oneCell']) (by unfold maxLen; omega) (by omega) (by have := hB.size; simp; omega) ?_; intro v' w2 hown' hgrow _; obtain ⟨g', cap', rfl⟩ := own_succ hown'; obtain ⟨hv1, hv2, hr2, hk2, hb2⟩ := hv.appended (by decide) hrow hB.size (Nat.le_refl _) hown' hgrow; have hKE := ke_push hrow (by decide) hgrow; have hc1 := hv1.cell; have hf1 := hv1.frozen)
    refine ⟨hk2.from _, ⟨hb2, fun g cs hA => (hKE g cs hA).far (ke_ne hv1 (by decide) (hKE g cs hA)) _⟩, ⟨_, hv2, ?_⟩, hB.trans hb2⟩
    · rw [List.map_append, List.length_append]
      show World.ownsRow _ _ _ _ _ _ (flat encP ((pre.map fun x => x.1.2) ++ [(xa, xb)]))
      rw [flatP_snoc]
      exact hr2
  case done =>
    rintro D ys W hD hys ⟨⟨v, hv, hrow, -⟩, hB⟩ hK
    have hc := hv.cell
    have HE2 : Hid (∃ a' c', v = .slice a' (endsG L).length c' ∧ PsAt W a' (endsG L)) := by
      have h1 : (sg (endsG L) (endsG L).length).map Prod.snd = endsG L := by
        unfold sg
        rw [List.map_map]
        refine List.ext_getElem (by simp) fun j h1 h2 => ?_
        simp only [List.getElem_map, List.getElem_range, Function.comp]
        rw [pAt_get _ j h2]
      have h2 : (ys.map fun x => x.1.2) = endsG L := by
        rw [← h1, ← hys, List.map_map]; rfl
      have h3 : ys.length = (endsG L).length := by rw [← h2, List.length_map]
      rw [h2, h3] at hrow
      exact RowAt.of_own encP_len hrow
    obtain ⟨a', c', hv2, hp⟩ := HE2.out
    subst hv2
    gi_wp2
    have hg := grownBy_putObj' W D (.deferred none)
    refine ⟨by simp, .inl ⟨_, _, rfl, run_takeDeferred hK, ?_⟩⟩
    refine ⟨.tuple #[.slice a' (endsG L).length c', .int .i64 0], by simp [results, Try.results69, go_sem], a', c', rfl, ?_, ?_⟩
    · exact RowAt.putObj encP_len hp hK rfl
    · exact HB1.out.trans ((hB.grown hg hB.size (fun k e => by cases e; omega)).mono HB1.out.size)
  case stop =>
    rintro D c pre W _ _ h _
    exact h.elim

set_option maxRecDepth 100000 in
set_option maxHeartbeats 8000000 in
theorem pends_err (nv : Int) (a : Option Addr) (cap : Nat) (L : List E) (hL : L.length ≤ 100000) (h0 : chkG nv L ≠ 0) (w : World) (h : EsAt w a L) :
    Calls Try.prog 69 #[gv nv a L.length cap] w (GivesPE w [] (chkG nv L)) := by
  have HC := Lib.hid (check_any nv a cap L (by omega) (w.alloc (Obj.cells #[.int .i64 nv, .slice a L.length cap] 24)) (h.keep ((Below.refl _ w).alloc (Nat.le_refl _) _)))
  have HB0 := Lib.hid ((Below.refl _ w).alloc (Nat.le_refl _) (Obj.cells #[.int .i64 nv, .slice a L.length cap] 24))
  unfold GivesPE
  unfold GivesN gv at *
  have q0 : (((chkG nv L : Nat) : Int) != 0) = true := by rw [bne_iff_ne]; omega
  generalize chkG nv L = k at *
  clear h h0
  go_enter Try.func69, Try.ntmps69
  go_wp2_with fail
  refine HC.out.mono ?_
  rintro e w1 ⟨rfl, hb⟩
  have HB1 := Lib.hid (HB0.out.trans (hb.mono HB0.out.size))
  clear hb
  go_wp2
  go_ret2
  exact ⟨none, 0, rfl, RowAt.nil _ _ _ _, HB1.out⟩
theorem pends_any (nv : Int) (a : Option Addr) (cap : Nat) (L : List E) (hL : L.length ≤ 100000) (w : World) (h : EsAt w a L) :
    Calls Try.prog 69 #[gv nv a L.length cap] w (GivesPE w (if chkG nv L = 0 then endsG L else []) (chkG nv L)) := by
  by_cases h0 : chkG nv L = 0
  · rw [if_pos h0, h0]
    exact callsIn_wide.1 (pends_ok nv a cap L hL h0 w h)
  · rw [if_neg h0]
    exact pends_err nv a cap L hL h0 w h
end Go.Proofs.Ytlnaahkheankoaa

namespace Go.Proofs.Ytlnaahkheankoaa
open Go.RowKit Go.Proofs.Gr

def bAt (O : List Bool) (j : Nat) : Bool := O.getD j false
theorem bAt_get (O : List Bool) (j : Nat) (h : j < O.length) : O[j] = bAt O j := by
  unfold bAt; rw [List.getD_eq_getElem?_getD, List.getElem?_eq_getElem h]; rfl
/-- The error of an orientation. -/
def chkO (n : Int) (L : List E) (O : List Bool) : Nat := if chkG n L ≠ 0 then chkG n L else if (O.length : Int) = sizeG L then 0 else 8
theorem chkO_zero {n : Int} {L : List E} {O : List Bool} (h : chkO n L O = 0) : chkG n L = 0 ∧ (O.length : Int) = sizeG L := by
  unfold chkO at h
  by_cases h1 : chkG n L ≠ 0
  · rw [if_pos h1] at h; exact absurd h h1
  · rw [if_neg h1] at h
    by_cases h2 : (O.length : Int) = sizeG L
    · exact ⟨by omega, h2⟩
    · rw [if_neg h2] at h; omega
theorem chkO_len {n : Int} {L : List E} {O : List Bool} (h : chkO n L O = 0) : (endsG L).length = O.length := by
  obtain ⟨h1, h2⟩ := chkO_zero h
  have := endsG_len (right_of h1).rng
  omega
/-- The arc of a single edge. -/
def arcP (P : List (Int × Int)) (O : List Bool) (j : Nat) : Int × Int := if bAt O j = true then pAt P j else ((pAt P j).2, (pAt P j).1)
/-- The arcs. -/
def arcs (P : List (Int × Int)) (O : List Bool) : List (Int × Int) := (List.range P.length).map (arcP P O)
theorem arcs_len (P : List (Int × Int)) (O : List Bool) : (arcs P O).length = P.length := by simp [arcs]
theorem arcs_at (P : List (Int × Int)) (O : List Bool) (j : Nat) (h : j < P.length) : pAt (arcs P O) j = arcP P O j := by
  unfold pAt arcs
  rw [List.getD_eq_getElem?_getD, List.getElem?_map, List.getElem?_range h]; rfl
/-- The list under way: the first ones are arcs. -/
def ledL (P : List (Int × Int)) (O : List Bool) : Nat → List (Int × Int)
  | 0 => List.replicate P.length (0, 0)
  | k + 1 => (ledL P O k).set k (arcP P O k)
theorem ledL_len (P : List (Int × Int)) (O : List Bool) (k : Nat) : (ledL P O k).length = P.length := by
  induction k with
  | zero => simp [ledL]
  | succ k ih => rw [ledL, List.length_set, ih]
theorem ledL_at (P : List (Int × Int)) (O : List Bool) (k : Nat) (hk : k ≤ P.length) (j : Nat) (hj : j < P.length) : (ledL P O k)[j]? = some (if j < k then arcP P O j else (0, 0)) := by
  induction k with
  | zero => rw [ledL, List.getElem?_replicate, if_pos hj, if_neg (by omega)]
  | succ k ih =>
    rw [ledL]
    by_cases e : k = j
    · subst e
      rw [List.getElem?_set_self (by rw [ledL_len]; omega), if_pos (by omega)]
    · rw [List.getElem?_set_ne e, ih (by omega)]
      by_cases h : j < k
      · rw [if_pos h, if_pos (by omega)]
      · rw [if_neg h, if_neg (by omega)]
theorem ledL_all (P : List (Int × Int)) (O : List Bool) : ledL P O P.length = arcs P O := by
  refine List.ext_getElem? fun j => ?_
  by_cases hj : j < P.length
  · rw [ledL_at P O _ (Nat.le_refl _) j hj, if_pos hj]
    unfold arcs
    rw [List.getElem?_map, List.getElem?_range hj]; rfl
  · rw [List.getElem?_eq_none (by rw [ledL_len]; omega), List.getElem?_eq_none (by rw [arcs_len]; omega)]
/-- How many of the first arcs lead to a vertex. -/
def hdN (A : List (Int × Int)) (v : Int) : Nat → Nat
  | 0 => 0
  | k + 1 => hdN A v k + (if (pAt A k).2 = v then 1 else 0)
theorem hdN_le (A : List (Int × Int)) (v : Int) (k : Nat) : hdN A v k ≤ k := by
  induction k with
  | zero => exact Nat.le_refl _
  | succ k ih => rw [hdN]; split <;> omega
/-- The indegrees of n vertices by the first arcs. -/
def inL (A : List (Int × Int)) (n k : Nat) : List Int := (List.range n).map fun v : Nat => (hdN A (v : Int) k : Int)
theorem inL_len (A : List (Int × Int)) (n k : Nat) : (inL A n k).length = n := by simp [inL]
theorem inL_at (A : List (Int × Int)) (n k v : Nat) (h : v < n) : iAt (inL A n k) v = (hdN A (v : Int) k : Int) := by
  unfold iAt inL
  rw [List.getD_eq_getElem?_getD, List.getElem?_map, List.getElem?_range h]; rfl
theorem inL_zero (A : List (Int × Int)) (n : Nat) : inL A n 0 = List.replicate n 0 := by
  refine List.ext_getElem? fun j => ?_
  unfold inL
  by_cases h : j < n
  · rw [List.getElem?_map, List.getElem?_range h, List.getElem?_replicate, if_pos h]; rfl
  · rw [List.getElem?_eq_none (by simp; omega), List.getElem?_eq_none (by simp; omega)]
theorem inL_succ (A : List (Int × Int)) (n k : Nat) (v : Nat) (_ : v < n) (hA : (pAt A k).2 = (v : Int)) : inL A n (k + 1) = (inL A n k).set v (iAt (inL A n k) v + 1) := by
  refine List.ext_getElem? fun j => ?_
  by_cases h : j < n
  · by_cases e : v = j
    · subst e
      rw [List.getElem?_set_self (by rw [inL_len]; exact h), inL_at A n k v h]
      unfold inL
      rw [List.getElem?_map, List.getElem?_range h]
      simp only [Option.map_some]
      rw [hdN, if_pos hA]; simp
    · rw [List.getElem?_set_ne e]
      unfold inL
      rw [List.getElem?_map, List.getElem?_range h, List.getElem?_map, List.getElem?_range h]
      simp only [Option.map_some]
      rw [hdN, if_neg (by rw [hA]; omega)]; simp
  · rw [List.getElem?_eq_none (by rw [inL_len]; omega), List.getElem?_eq_none (by rw [List.length_set, inL_len]; omega)]
/-- The first vertices to which no arc leads, by their indegrees. -/
def srcL (D : List Int) : Nat → List Int
  | 0 => []
  | k + 1 => srcL D k ++ (if iAt D k = 0 then [(k : Int)] else [])
theorem srcL_len (D : List Int) (k : Nat) : (srcL D k).length ≤ k := by
  induction k with
  | zero => simp [srcL]
  | succ k ih => rw [srcL, List.length_append]; split <;> simp <;> omega
/-- Each number less 1. -/
def decA (D : List Int) : Nat → List Int
  | 0 => D
  | k + 1 => (decA D k).set k (iAt D k - 1)
theorem decA_len (D : List Int) (k : Nat) : (decA D k).length = D.length := by
  induction k with
  | zero => rfl
  | succ k ih => rw [decA, List.length_set, ih]
theorem decA_at (D : List Int) (k j : Nat) (hj : j < D.length) (hk : k ≤ D.length) : (decA D k)[j]? = some (if j < k then iAt D j - 1 else iAt D j) := by
  induction k with
  | zero => rw [decA, List.getElem?_eq_getElem hj, iAt_get D j hj, if_neg (by omega)]
  | succ k ih =>
    rw [decA]
    by_cases e : k = j
    · subst e; rw [List.getElem?_set_self (by rw [decA_len]; exact hj), if_pos (by omega)]
    · rw [List.getElem?_set_ne e, ih (by omega)]
      by_cases h : j < k
      · rw [if_pos h, if_pos (by omega)]
      · rw [if_neg h, if_neg (by omega)]
theorem decA_on (D : List Int) (k : Nat) (hk : k < D.length) : iAt (decA D k) k = iAt D k := by
  have := decA_at D k k hk (by omega)
  rw [if_neg (by omega)] at this
  unfold iAt at *
  rw [List.getD_eq_getElem?_getD, this]; rfl
def lessL (D : List Int) : List Int := D.map fun z => z - 1
theorem decA_all (D : List Int) : decA D D.length = lessL D := by
  refine List.ext_getElem? fun j => ?_
  by_cases hj : j < D.length
  · rw [decA_at D _ j hj (Nat.le_refl _), if_pos hj]
    unfold lessL
    rw [List.getElem?_map, List.getElem?_eq_getElem hj, iAt_get D j hj]; rfl
  · rw [List.getElem?_eq_none (by rw [decA_len]; omega), List.getElem?_eq_none (by simp [lessL]; omega)]
theorem lessL_len (D : List Int) : (lessL D).length = D.length := by simp [lessL]
/-- One is taken: the arcs that leave it are struck. -/
def strike (A : List (Int × Int)) (v : Int) (D : List Int) : Nat → List Int
  | 0 => D
  | k + 1 => if (pAt A k).1 = v then (strike A v D k).set (pAt A k).2.toNat (iAt (strike A v D k) (pAt A k).2.toNat - 1) else strike A v D k
theorem strike_len (A : List (Int × Int)) (v : Int) (D : List Int) (k : Nat) : (strike A v D k).length = D.length := by
  induction k with
  | zero => rfl
  | succ k ih => rw [strike]; split <;> simp [ih]
end Go.Proofs.Ytlnaahkheankoaa

namespace Go.Proofs.Ytlnaahkheankoaa
open Go.RowKit Go.Shelf Go.Proofs.Gr
attribute [local go_sem] Oper.semAt_some

theorem Blk.set_ {w : World} {g : Nat} {t : TypeId} {cs : Array Value} (h : Blk w g t cs) (i : Nat) (u : Value) : Blk (w.setCell ⟨g, i, none⟩ u) g t (cs.setIfInBounds i u) := by
  unfold Blk at *
  obtain ⟨hlt, hk⟩ := Array.getElem?_eq_some_iff.1 h
  show (w.heap.modify g _)[g]? = _
  rw [Array.getElem?_eq_getElem (by rw [Array.size_modify]; exact hlt), Array.getElem_modify_self, hk]
  rfl
/-- The table of a set. -/
def inA (S : List Int) : Array Value := ((List.range 12).map fun v : Nat => Value.bool (S.contains (v : Int))).toArray
theorem inA_at (S : List Int) (v : Nat) (h : v < 12) : (inA S)[v]? = some (.bool (S.contains (v : Int))) := by
  unfold inA
  rw [List.getElem?_toArray, List.getElem?_map, List.getElem?_range h]; rfl
theorem inA_set (S : List Int) (m : Nat) : (inA S).setIfInBounds m (.bool true) = inA (S ++ [(m : Int)]) := by
  unfold inA
  rw [List.setIfInBounds_toArray]
  congr 1
  refine List.ext_getElem (by simp) fun j h1 h2 => ?_
  rw [List.getElem_set]
  simp only [List.getElem_map, List.getElem_range]
  by_cases e : m = j
  · subst e; simp
  · rw [if_neg e]
    congr 1
    have : ¬ ((j : Int) = (m : Int)) := by omega
    simp [this]
theorem inA_nil : inA [] = Array.replicate 12 (.bool false) := by kernel_rfl
/-- The numbers of the single edges that lead out of a set. -/
def cutS (S : List Int) (pre : List SE) : List Int := pre.filterMap fun x => if outB S x.1.2 then some (x.1.1 : Int) else none
theorem cutS_snoc (S : List Int) (pre : List SE) (x : SE) : cutS S (pre ++ [x]) = cutS S pre ++ (if outB S x.1.2 then [(x.1.1 : Int)] else []) := by
  unfold cutS
  rw [List.filterMap_append]
  congr 1
  cases h : outB S x.1.2 <;> simp [h]
theorem cutS_le (S : List Int) (pre : List SE) : (cutS S pre).length ≤ pre.length := List.length_filterMap_le _ _
theorem cutS_all (S : List Int) (P : List (Int × Int)) (ys : List SE) (h : ys.map Subtype.val = sg P P.length) : cutS S ys = cutI (fun e => outB S (pAt P e)) P.length := by
  have h1 : cutS S ys = (ys.map Subtype.val).filterMap fun x => if outB S x.2 then some (x.1 : Int) else none := by
    unfold cutS; rw [List.filterMap_map]; rfl
  rw [h1, h]
  generalize P.length = n
  induction n with
  | zero => rfl
  | succ n ih =>
    rw [sg_succ, List.filterMap_append, ih, cutI]
    congr 1
    cases h : outB S (pAt P n) <;> simp [h]

theorem subE_at {n : Int} {S : List Int} (h : subE n S = 0) (i : Nat) (hi : i < S.length) : 0 ≤ iAt S i ∧ iAt S i < n := by
  have h1 := firstE_all h i hi
  unfold sErr at h1
  by_cases h2 : isV n (iAt S i) = false
  · rw [if_pos h2] at h1; omega
  · simpa [isV] using h2
end Go.Proofs.Ytlnaahkheankoaa

namespace Go.Proofs.Ytlnaahkheankoaa
open Go.RowKit Go.Shelf Go.Proofs.Gr
attribute [local go_sem] Oper.semAt_some

/-- A table of twelve numbers. -/
def enT (t : Nat → Int) : Array Value := ((List.range 12).map fun v : Nat => Value.int .i64 (t v)).toArray
theorem enT_at (t : Nat → Int) (v : Nat) (h : v < 12) : (enT t)[v]? = some (.int .i64 (t v)) := by
  unfold enT
  rw [List.getElem?_toArray, List.getElem?_map, List.getElem?_range h]; rfl
theorem enT_set (t s : Nat → Int) (m : Nat) (z : Int) (h : ∀ v, s v = if v = m then z else t v) : (enT t).setIfInBounds m (.int .i64 z) = enT s := by
  unfold enT
  rw [List.setIfInBounds_toArray]
  congr 1
  refine List.ext_getElem (by simp) fun j h1 h2 => ?_
  rw [List.getElem_set]
  simp only [List.getElem_map, List.getElem_range]
  by_cases e : m = j
  · subst e; simp [h]
  · rw [if_neg e, h, if_neg (fun e' => e e'.symm)]
theorem enT_eq (t s : Nat → Int) (h : ∀ v, s v = t v) : enT t = enT s := by rw [show s = t from funext h]
/-- The first k have their own numbers. -/
def idT (k : Nat) : Nat → Int := fun v => if v < k then (v : Int) else 0
theorem idT_nil : enT (idT 0) = Array.replicate 12 (.int .i64 0) := by kernel_rfl
theorem idT_set (k : Nat) : (enT (idT k)).setIfInBounds k (.int .i64 (k : Int)) = enT (idT (k + 1)) := enT_set _ _ _ _ fun v => by
  unfold idT
  by_cases e : v = k
  · subst e; rw [if_pos (by omega), if_pos rfl]
  · rw [if_neg e]
    by_cases h : v < k
    · rw [if_pos h, if_pos (by omega)]
    · rw [if_neg h, if_neg (by omega)]
/-- Among the first k, those of one number get another. -/
def relT (t : Nat → Int) (p j : Int) (k : Nat) : Nat → Int := fun v => if v < k ∧ t v = j then p else t v
theorem relT_zero (t : Nat → Int) (p j : Int) : enT t = enT (relT t p j 0) := enT_eq _ _ fun v => by
  unfold relT; rw [if_neg (by omega)]
theorem relT_at (t : Nat → Int) (p j : Int) (k : Nat) : relT t p j k k = t k := by
  unfold relT; rw [if_neg (by omega)]
theorem relT_set (t : Nat → Int) (p j : Int) (k : Nat) (h : t k = j) : (enT (relT t p j k)).setIfInBounds k (.int .i64 p) = enT (relT t p j (k + 1)) := enT_set _ _ _ _ fun v => by
  unfold relT
  by_cases e : v = k
  · subst e; rw [if_pos ⟨by omega, h⟩, if_pos rfl]
  · rw [if_neg e]
    by_cases h1 : v < k ∧ t v = j
    · rw [if_pos h1, if_pos ⟨by omega, h1.2⟩]
    · rw [if_neg h1, if_neg (fun h2 => h1 ⟨by omega, h2.2⟩)]
theorem relT_skip (t : Nat → Int) (p j : Int) (k : Nat) (h : ¬ t k = j) : enT (relT t p j k) = enT (relT t p j (k + 1)) := enT_eq _ _ fun v => by
  unfold relT
  by_cases e : v = k
  · subst e; rw [if_neg (fun h2 => h h2.2), if_neg (fun h2 => h h2.2)]
  · by_cases h1 : v < k ∧ t v = j
    · rw [if_pos h1, if_pos ⟨by omega, h1.2⟩]
    · rw [if_neg h1, if_neg (fun h2 => h1 ⟨by omega, h2.2⟩)]
/-- One edge joins two components. -/
def uStep (st : (Nat → Int) × Int) (e : E) : (Nat → Int) × Int :=
  if st.1 e.a.toNat = st.1 e.b.toNat then st else (relT st.1 (st.1 e.a.toNat) (st.1 e.b.toNat) 12, st.2 - 1)
def uni (n : Int) (L : List E) : (Nat → Int) × Int := L.foldl uStep (idT 12, n)
/-- The number of components. -/
def compsU (n : Int) (L : List E) : Int := (uni n L).2
theorem uni_succ (n : Int) (L : List E) (i : Nat) (h : i < L.length) : uni n (L.take (i + 1)) = uStep (uni n (L.take i)) (eAt L i) := by
  unfold uni
  rw [List.take_succ_eq_append_getElem h, List.foldl_append, eAt_get]; rfl
theorem uni_bound (n : Int) (L : List E) (i : Nat) (h : i ≤ L.length) : n - i ≤ (uni n (L.take i)).2 ∧ (uni n (L.take i)).2 ≤ n := by
  induction i with
  | zero => simp [uni]
  | succ i ih =>
    rw [uni_succ n L i (by omega)]
    have := ih (by omega)
    unfold uStep
    split
    · omega
    · show n - ((i + 1 : Nat) : Int) ≤ (uni n (L.take i)).2 - 1 ∧ (uni n (L.take i)).2 - 1 ≤ n
      omega

/-- The genus. -/
def genU (n : Int) (L : List E) : Int := sizeG L - n + compsU n L
end Go.Proofs.Ytlnaahkheankoaa
