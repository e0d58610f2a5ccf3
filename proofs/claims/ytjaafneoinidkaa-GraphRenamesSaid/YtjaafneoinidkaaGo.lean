/- The iterator over the single edges. -/
import Derived.RangeFuncNested
import Derived.RangeFuncBound
import Derived.RangeFuncCalls
import Derived.RangeFuncLeaves
import Derived.RangeFuncBox
import Derived.Shelf.Abstract
import Derived.OwnWalkIn
import Derived.TacticsInMore
import Derived.LoopNIn
import Derived.LoopIn
import Derived.Maps.AppendAt
import Derived.Test.YtjaafneoinidkaaGn
namespace Go.Proofs.Ytjaafneoinidkaa
open Go.RowKit Go.Shelf Go.Proofs.Gr
attribute [local go_sem] Oper.semAt_some

/-- Ends that may be vertices. -/
def InR (x : Nat × (Int × Int)) : Prop := 0 ≤ x.2.1 ∧ x.2.1 < 12 ∧ 0 ≤ x.2.2 ∧ x.2.2 < 12
/-- The first single edges with their numbers. -/
def sg (P : List (Int × Int)) (k : Nat) : List (Nat × (Int × Int)) := (List.range k).map fun j => (j, pAt P j)
theorem sg_succ (P : List (Int × Int)) (k : Nat) : sg P (k + 1) = sg P k ++ [(k, pAt P k)] := by simp [sg, List.range_succ]
theorem sg_len (P : List (Int × Int)) (k : Nat) : (sg P k).length = k := by simp [sg]
/-- What the body of a loop over the single edges must keep: what lay below, and the boxes of edges. -/
def KpE (n₀ : Nat) (A B : World) : Prop := Below n₀ A B ∧ ∀ g cs, Blk A g 71 cs → Blk B g 71 cs
theorem KpE.t {n₀ : Nat} {A B C : World} (h : KpE n₀ A B) (k : KpE n₀ B C) : KpE n₀ A C := ⟨h.1.trans k.1, fun g cs hA => k.2 g cs (h.2 g cs hA)⟩
theorem KpE.b {n₀ : Nat} {w : World} (hn : n₀ ≤ w.heap.size) (W : World) (l : Nat) (o o' : Obj) (hl : w.heap.size ≤ l) (h : W.heap[l]? = some o) (hc : o.isCells = false) (hw : o.isWalk = false) : KpE n₀ W (W.putObj l o') :=
  ⟨belowK_b hn W l o o' hl h hc hw, fun g cs hA => by
    unfold Blk at *
    have hne : g ≠ l := by rintro rfl; rw [h] at hA; cases hA; cases hc
    rw [World.putObj_heap_other hne]; exact hA⟩
/-- The ends behind the first edges. -/
theorem ends_split (L : List E) (i : Nat) (h : i < L.length) (k : Nat) (hk : (k : Int) < (eAt L i).m) : pAt (endsG L) ((endsG (L.take i)).length + k) = ((eAt L i).a, (eAt L i).b) ∧ (endsG (L.take i)).length + k < (endsG L).length := by
  have h1 : endsG L = endsG (L.take (i + 1)) ++ endsG (L.drop (i + 1)) := by
    unfold endsG; rw [← List.flatMap_append, List.take_append_drop]
  rw [h1, endsG_take L i h]
  have h2 : k < (List.replicate (eAt L i).m.toNat ((eAt L i).a, (eAt L i).b)).length := by rw [List.length_replicate]; omega
  constructor
  · unfold pAt
    rw [List.getD_eq_getElem?_getD, List.append_assoc, List.getElem?_append_right (by omega), List.getElem?_append_left (by rw [Nat.add_sub_cancel_left]; exact h2), Nat.add_sub_cancel_left, List.getElem?_eq_getElem h2]
    simp
  · rw [List.length_append, List.length_append]; omega
theorem ends_next (L : List E) (i : Nat) (h : i < L.length) (hm : 0 ≤ (eAt L i).m) : ((endsG (L.take (i + 1))).length : Int) = (endsG (L.take i)).length + (eAt L i).m := by
  rw [endsG_take L i h, List.length_append, List.length_replicate]; omega

set_option maxRecDepth 100000 in
set_option maxHeartbeats 8000000 in
theorem singles1_in (n : Nat) (hn : 1 ≤ n) (l Bg n₀ : Nat) (nv : Int) (a : Option Addr) (cap : Nat) (L : List E) (hL : L.length ≤ 100000) (hm : ∀ e ∈ L, 0 ≤ e.m ∧ e.m ≤ 50) (hr : ∀ e ∈ L, 0 ≤ e.a ∧ e.a < 12 ∧ 0 ≤ e.b ∧ e.b < 12) (J Jx : List (Nat × (Int × Int)) → World → Prop) (W : World) (hJ : AbidesFrom W.heap.size J)
    (hY : ∀ pre (x : Nat × (Int × Int)) W1, InR x → J pre W1 → pre.length < (endsG L).length → YieldAt Fence.wide (n - 1) Try.prog l #[.int .i64 (x.1 : Nat), .agg #[.int .i64 x.2.1, .int .i64 x.2.2]] W1 fun e W' =>
      (e = .returned (.bool true) ∧ J (pre ++ [x]) W' ∧ KpE n₀ W1 W') ∨ (e = .returned (.bool false) ∧ Jx (pre ++ [x]) W'))
    (hn₀ : n₀ ≤ W.heap.size) (hG : Blk W Bg 24 #[.int .i64 nv, .slice a L.length cap]) (hE : ∀ x, Below n₀ W x → EsAt x a L) (h0 : J [] W) :
    CallsIn Fence.wide n Try.prog 67 #[.func (.yield l) #[] #[], .pointer (some ⟨Bg, 0, none⟩)] W fun e W' => (∃ v, e = .returned v) ∧
      ((∃ ys, ys = sg (endsG L) (endsG L).length ∧ J ys W') ∨ (∃ pre, (∃ k, k ≤ (endsG L).length ∧ pre = sg (endsG L) k) ∧ Jx pre W')) := by
  have HSP := Lib.hid (fun i h k hk => ends_split L i h k hk)
  have HNX := Lib.hid (fun i h hm => ends_next L i h hm)
  have HM : Hid (∀ i, i < L.length → 0 ≤ (eAt L i).m ∧ (eAt L i).m ≤ 50) := Lib.hid fun i hi => hm _ (by rw [← eAt_get L i hi]; exact List.getElem_mem hi)
  have HR : Hid (∀ i, i < L.length → 0 ≤ (eAt L i).a ∧ (eAt L i).a < 12 ∧ 0 ≤ (eAt L i).b ∧ (eAt L i).b < 12) := Lib.hid fun i hi => hr _ (by rw [← eAt_get L i hi]; exact List.getElem_mem hi)
  have HZ0 : Hid (sg (endsG L) (endsG (L.take 0)).length = []) := Lib.hid rfl
  have HSG := Lib.hid (fun k => sg_succ (endsG L) k)
  have HSL := Lib.hid (fun k => sg_len (endsG L) k)
  have HALL : Hid ((endsG L).length = (endsG (L.take L.length)).length) := Lib.hid (by rw [List.take_length])
  have HLT : Hid (∀ i, (endsG (L.take i)).length ≤ (endsG L).length ∧ (endsG (L.take i)).length ≤ 5000000) := Lib.hid fun i => by
    have h1 : endsG L = endsG (L.take i) ++ endsG (L.drop i) := by unfold endsG; rw [← List.flatMap_append, List.take_append_drop]
    have h2 : ∀ M : List E, (∀ e ∈ M, 0 ≤ e.m ∧ e.m ≤ 50) → (endsG M).length ≤ 50 * M.length := by
      intro M hM
      induction M with
      | nil => simp [endsG]
      | cons e r ih =>
        have h3 := ih (fun x hx => hM x (List.mem_cons_of_mem _ hx))
        have h4 := hM e List.mem_cons_self
        unfold endsG at *
        rw [List.flatMap_cons, List.length_append, List.length_replicate, List.length_cons]
        omega
    have h5 := h2 (L.take i) (fun e he => hm e (List.mem_of_mem_take he))
    have h6 : (L.take i).length ≤ L.length := by rw [List.length_take]; omega
    rw [h1, List.length_append]; omega
  have HG := Lib.hid hG
  have HE := Lib.hid hE
  have HJ := Lib.hid hJ
  have HYY := Lib.hid hY
  have g1 : W.cell? ⟨Bg, 1, none⟩ = some (.slice a L.length cap) := hG.cell 1
  generalize endsG L = P at *
  clear hm hr hE hG hJ hY
  refine callsIn_of_wp Try.func67 rfl trivial ?_ rfl
  simp only [Try.ntmps67, List.size_toArray, List.length_cons, List.length_nil, Nat.reduceAdd, Nat.reduceSub, Array.replicate_succ, Array.replicate_zero, List.push_toArray, List.append_toArray, List.nil_append, List.cons_append]
  gi_wp2
  gi_loopw [3, 9] (fun u v wr => ∃ i : Nat, i ≤ L.length ∧ v = .int .i64 i ∧ u = .int .i64 ((endsG (L.take i)).length : Nat) ∧ J (sg P (endsG (L.take i)).length) wr ∧ Below n₀ W wr) (fun _ v _ => L.length - (intOf v).toNat)
  case atStart => exact ⟨0, by omega, rfl, rfl, by rw [HZ0.out]; exact h0, Below.refl _ _⟩
  case round =>
    obtain ⟨i, hi, rfl, rfl, hJs, hb⟩ := hrel
    by_cases hlt : i < L.length
    · obtain ⟨b1, o1, ha, q1, x1, x2, x3⟩ := (HE.out wr hb).three i hlt
      subst ha
      have hsp := HSP.out i hlt
      have hm1 := HM.out i hlt
      have hnx := HNX.out i hlt hm1.1
      have hlt2 := (HLT.out i).2
      have hrg := HR.out i hlt
      generalize eAt L i = T at *
      obtain ⟨ta, tb, tm⟩ := T
      simp only at x1 x2 x3 hsp hm1 hnx hrg
      have HRG : Hid (∀ u : Nat, InR (u, (ta, tb))) := Lib.hid fun u => hrg
      obtain ⟨M, hM⟩ : ∃ M : Nat, tm = M := ⟨tm.toNat, by omega⟩
      subst hM
      generalize (endsG (L.take i)).length = c0 at *
      generalize hc1 : (endsG (L.take (i + 1))).length = c1 at *
      have hc2 : c1 = c0 + M := by omega
      have HC2 := Lib.hid hc2
      have HC1 := Lib.hid hc1
      have hn2 : n₀ ≤ wr.heap.size := Nat.le_trans hn₀ hb.size
      have hq1 : W.heap.size ≤ wr.heap.size := hb.size
      have HBX : Hid (J (sg P c0) (wr.alloc (Obj.cells #[.int .i64 ta, .int .i64 tb, .int .i64 (M : Nat)] 71))) := Lib.hid (HJ.out _ _ _ none hJs (World.grownBy_alloc wr _ none) (fun r e => by cases e))
      have HBB : Hid (Below n₀ W (wr.alloc (Obj.cells #[.int .i64 ta, .int .i64 tb, .int .i64 (M : Nat)] 71))) := Lib.hid (hb.alloc hn2 _)
      have HQ0 : Hid (Blk (wr.alloc (Obj.cells #[.int .i64 ta, .int .i64 tb, .int .i64 (M : Nat)] 71)) wr.heap.size 71 #[.int .i64 ta, .int .i64 tb, .int .i64 (M : Nat)]) := Lib.hid (Blk.new _ _ _)
      have HSPs := Lib.hid hsp
      have i1 : (i : Int) < ((L.length : Nat) : Int) := by omega
      have hm50 : M ≤ 50 := by omega
      obtain ⟨q, hq⟩ : ∃ q, q = wr.heap.size := ⟨_, rfl⟩
      have HQ := Lib.hid hq
      clear hb hJs hnx hm1 hsp hc1 hc2 hq hrg
      gi_wp2
      rw [← HQ.out]
      gi_loopw [3, 15] (fun u v wr => ∃ k : Nat, k ≤ M ∧ v = .int .i64 k ∧ u = .int .i64 ((c0 + k : Nat) : Int) ∧ J (sg P (c0 + k)) wr ∧ Below n₀ W wr ∧ Blk wr q 71 #[.int .i64 ta, .int .i64 tb, .int .i64 (M : Nat)]) (fun _ v _ => M - (intOf v).toNat)
      case atStart => exact ⟨0, by omega, rfl, rfl, HBX.out, HBB.out, by rw [HQ.out]; exact HQ0.out⟩
      case round =>
        obtain ⟨k, hk, rfl, rfl, hJs, hb, hQ⟩ := hrel
        obtain ⟨u, hu⟩ : ∃ u, u = c0 + k := ⟨_, rfl⟩
        rw [← hu] at hJs ⊢
        by_cases hkm : k < M
        · obtain ⟨hx1, hx2⟩ := HSPs.out k (by omega)
          rw [← hu] at hx1 hx2
          have k1 : (k : Int) < ((M : Nat) : Int) := by omega
          have y1 : wr.cell? ⟨q, 0, none⟩ = some (.int .i64 ta) := hQ.cell 0
          have y2 : wr.cell? ⟨q, 1, none⟩ = some (.int .i64 tb) := hQ.cell 1
          obtain ⟨fn, tmps, assign, body, hy, hR⟩ := HYY.out (sg P u) (u, (ta, tb)) wr (HRG.out u) hJs (by rw [HSL.out]; exact hx2)
          have HX : Hid (sg P u ++ [(u, (ta, tb))] = sg P (c0 + (k + 1))) := Lib.hid (by rw [← Nat.add_assoc, ← hu, HSG.out, hx1])
          have HLE : Hid (c0 + (k + 1) ≤ P.length) := Lib.hid (by omega)
          have HBr := Lib.hid hb
          have HQr := Lib.hid hQ
          have c9 : IntKind.i64.wrap ((u : Int) + 1) = (u : Int) + 1 := IntWalk.i64_in _ (by omega)
          have HU := Lib.hid hu
          simp only at hy
          clear hJs hb hQ hx1 hx2 hu
          gi_wp2
          refine hR.mono ?_
          rintro e' W3 (⟨rfl, hJ3, hk3⟩ | ⟨rfl, hJx3⟩)
          · rw [HX.out] at hJ3
            have HJ3 := Lib.hid hJ3
            have HB3 := Lib.hid (HBr.out.trans hk3.1)
            have HQ3 := Lib.hid (hk3.2 _ _ HQr.out)
            clear hJ3 hk3
            gi_wp2
            go_roundw
            case rel => exact ⟨k + 1, by omega, by go_num, by have := HU.out; go_num, HJ3.out, HB3.out, HQ3.out⟩
            case measure => simp [intOf]; omega
          · rw [HX.out] at hJx3
            gi_wp2
            refine bodyPost_ret (results_none rfl _ _ _) rfl ?_
            exact ⟨⟨_, rfl⟩, .inr ⟨_, ⟨_, HLE.out, rfl⟩, hJx3⟩⟩
        · obtain rfl : k = M := by omega
          have HJs := Lib.hid hJs
          have HBr := Lib.hid hb
          have HU := Lib.hid hu
          clear hJs hb hQ hu
          gi_wp2
          go_roundw
          case rel => exact ⟨i + 1, by omega, by go_num, by rw [HC1.out, HC2.out, HU.out], by rw [HC1.out, HC2.out, ← HU.out]; exact HJs.out, HBr.out⟩
          case measure => simp [intOf]; omega
    · obtain rfl : i = L.length := by omega
      have HJs := Lib.hid hJs
      clear hJs
      gi_wp2
      go_end0
      exact ⟨⟨_, rfl⟩, .inl ⟨_, by rw [← HALL.out], HJs.out⟩⟩

set_option maxHeartbeats 1000000 in
/-- singles: the graph is boxed; the function value captures the box. -/
theorem singles_in (n : Nat) (nv : Int) (a : Option Addr) (len cap : Nat) (w : World) :
    CallsIn Fence.wide n Try.prog 54 #[gv nv a len cap] w fun e w' => e = .returned (.func (.func 67) #[] #[.pointer (some ⟨w.heap.size, 0, none⟩)]) ∧ w' = w.alloc (.cells #[.int .i64 nv, .slice a len cap] 24) := by
  unfold gv
  refine callsIn_of_wp Try.func54 rfl trivial ?_ rfl
  simp only [Try.ntmps54, List.size_toArray, List.length_cons, List.length_nil, Nat.reduceAdd, Nat.reduceSub, Array.replicate_succ, Array.replicate_zero, List.push_toArray, List.append_toArray, List.nil_append, List.cons_append]
  gi_wp2
  go_ret
  exact ⟨rfl, rfl⟩

/-- Single edges whose ends may be vertices. -/
abbrev SE := { x : Nat × (Int × Int) // InR x }
abbrev encS (x : SE) : Array Value := #[.int .i64 (x.1.1 : Nat), .agg #[.int .i64 x.1.2.1, .int .i64 x.1.2.2]]
/-- What singles hands back. -/
theorem singles_stops (n : Nat) (hn : 1 ≤ n) (Bg n₀ : Nat) (nv : Int) (a : Option Addr) (cap : Nat) (L : List E) (hL : L.length ≤ 100000) (hR : Right nv L) (w : World) (hBg : Bg < w.heap.size) (hn₀ : n₀ ≤ w.heap.size)
    (hG : Blk w Bg 24 #[.int .i64 nv, .slice a L.length cap]) (hE : ∀ x, Below n₀ w x → EsAt x a L) :
    SeqStopsK Fence.wide n Try.prog 67 #[.pointer (some ⟨Bg, 0, none⟩)] encS (KpE n₀) (fun ys => ys.map Subtype.val = sg (endsG L) (endsG L).length) (fun pre => ∃ k, k ≤ (endsG L).length ∧ pre.map Subtype.val = sg (endsG L) k) (endsG L).length w := by
  intro l J Jx W hW hJ _ hY h0
  refine (singles1_in n hn l Bg n₀ nv a cap L hL (fun e he => by have := hR.rng e he; omega) (fun e he => by have := hR.rng e he; have := hR.hi; omega) (fun pre W => ∃ p : List SE, p.map Subtype.val = pre ∧ J p W) (fun pre W => ∃ p : List SE, p.map Subtype.val = pre ∧ Jx p W) W
    (fun s A B row hs hg hr => by obtain ⟨p, h1, h2⟩ := hs; exact ⟨p, h1, hJ p A B row h2 hg hr⟩) ?_ (Nat.le_trans hn₀ hW.size) (hG.below hW hBg) (fun x hx => hE x ((hW.mono hn₀).trans hx)) ⟨[], rfl, h0⟩).mono ?_
  · rintro pre x W1 hx ⟨p, rfl, hp⟩ hlt
    refine (hY p ⟨x, hx⟩ W1 hp (by simpa using hlt)).mono ?_
    rintro e W' (⟨he, h1, h2⟩ | ⟨he, h1⟩)
    · exact .inl ⟨he, ⟨p ++ [⟨x, hx⟩], by simp, h1⟩, h2⟩
    · exact .inr ⟨he, ⟨p ++ [⟨x, hx⟩], by simp, h1⟩⟩
  · rintro e W' ⟨h1, h2⟩
    refine ⟨h1, ?_⟩
    rcases h2 with ⟨ys, rfl, p, hp, h3⟩ | ⟨pre, ⟨k, hk, rfl⟩, p, hp, h3⟩
    · exact .inl ⟨p, hp, h3⟩
    · exact .inr ⟨p, ⟨k, hk, hp⟩, h3⟩
end Go.Proofs.Ytjaafneoinidkaa
