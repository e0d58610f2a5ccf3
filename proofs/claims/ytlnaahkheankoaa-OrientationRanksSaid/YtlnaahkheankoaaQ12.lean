/- Cycles of the triangle. And: A range over a function whose iterator keeps a state of its own in cells. And: Lists that are the same; small graphs of the laws. And: Regions that draw their order inside a round, by the laws for those outside. And: Directed sets, by the reference. And: Orientations turned whole: numbers. And: Cuts that are reversed, in numbers. And: The law of cuts, in numbers. -/
import Derived.Test.YtlnaahkheankoaaQ11
import Derived.Test.YtlnaahkheankoaaQ09
import Derived.RangeFuncNested
import Derived.RangeFuncBound
import Derived.RangeFuncCalls
import Derived.RangeFuncLeaves
import Derived.RangeFuncBox
import Derived.Shelf.Abstract
import Derived.OwnWalkIn
import Derived.TacticsInMore
import Derived.LoopNIn
import Derived.LoopIn
import Derived.Maps.AppendAt
import Derived.Test.YtlnaahkheankoaaQ00
namespace Go.Proofs.Ytlnaahkheankoaa
open Go.RowKit Go.Shelf Go.Proofs.Gr
attribute [local go_sem] Oper.semAt_some

theorem run_store_funcW {P : Program} {w : World} {a : Addr} {m : Mode} (fn : Fn) (x y : Array Value) : (store a (.func fn x y) m).run P w = stored P w a (.func fn x y) m := run_store P w a _ m rfl
attribute [local go_sem] run_store_funcW
set_option maxHeartbeats 12800000 in
set_option maxRecDepth 100000 in
theorem cycles_tri (p : Option Addr) (cp : Nat) (w : World) (hp : PsAt w p triP) :
    Calls Try.prog 85 #[.int .i64 3, .slice p 3 cp] w (fun e u => ∃ v, e = .returned v ∧ u.ownsRow (w.heap.size + 3) 136 2 v 2 (flat encT [(7, 5), (7, 2)]) ∧ Below w.heap.size w u) := by
  obtain ⟨pb, po, hp0, hpl, -, -⟩ := hp.two 0 (by decide)
  subst hp0
  obtain ⟨W, hW⟩ : ∃ W, W = ((w.alloc (Obj.cells #[.slice (some ⟨pb, po, none⟩) 3 cp] 83)).alloc (Obj.cells #[.slice none 0 0] 115)).alloc (Obj.cells #[(.func (.func 106) #[] #[.pointer (some ⟨w.heap.size, 0, none⟩), .pointer (some ⟨w.heap.size + 1, 0, none⟩), .pointer (some ⟨w.heap.size + 2, 0, none⟩)])] 138) := ⟨_, rfl⟩
  have hbW : Below w.heap.size w W := by rw [hW]; exact (((Below.refl _ w).alloc (Nat.le_refl _) _).alloc (by simp) _).alloc (by simp; omega) _
  have hz : W.heap.size = w.heap.size + 3 := by rw [hW]; simp
  have h3 : Blk W w.heap.size 83 #[.slice (some ⟨pb, po, none⟩) 3 cp] := by rw [hW]; exact ((Blk.new w 83 _).alloc _).alloc _
  have h5 : Blk W (w.heap.size + 1) 115 #[.slice none 0 0] := by
    rw [hW]
    have := Blk.new (w.alloc (Obj.cells #[.slice (some ⟨pb, po, none⟩) 3 cp] 83)) 115 #[.slice none 0 0]
    rw [World.size_alloc] at this
    exact this.alloc _
  have h6 : Blk W (w.heap.size + 2) 138 #[(.func (.func 106) #[] #[.pointer (some ⟨w.heap.size, 0, none⟩), .pointer (some ⟨w.heap.size + 1, 0, none⟩), .pointer (some ⟨w.heap.size + 2, 0, none⟩)])] := by
    rw [hW]
    have := Blk.new ((w.alloc (Obj.cells #[.slice (some ⟨pb, po, none⟩) 3 cp] 83)).alloc (Obj.cells #[.slice none 0 0] 115)) 138 #[(.func (.func 106) #[] #[.pointer (some ⟨w.heap.size, 0, none⟩), .pointer (some ⟨w.heap.size + 1, 0, none⟩), .pointer (some ⟨w.heap.size + 2, 0, none⟩)])]
    simp only [World.size_alloc] at this
    exact this
  have hst : StW w.heap.size (w.heap.size + 1) (w.heap.size + 2) (w.heap.size + 3) pb po cp W (.slice none 0 0) 0 [] :=
    ⟨h3, hp.keep hbW, h5, h6, World.ownsRow_nil _ _ _ _, by omega, by omega, by omega, by omega, by omega, by omega, by omega, by omega⟩
  have HST := Lib.hid hst
  have HBW := Lib.hid hbW
  have HZ := Lib.hid hz
  have f6 : W.cell? ⟨w.heap.size + 2, 0, none⟩ = some (.func (.func 106) #[] #[.pointer (some ⟨w.heap.size, 0, none⟩), .pointer (some ⟨w.heap.size + 1, 0, none⟩), .pointer (some ⟨w.heap.size + 2, 0, none⟩)]) := h6.cell 0
  clear hst hbW hz h3 h5 h6 hp
  go_enter Try.func85, Try.ntmps85
  go_wp2_with fail
  rw [← hW]
  clear hW
  refine wp_loop_rounds 4 ?_
  rw [rounds_succ]
  go_wp2_with fail
  refine (walk_0_0_0_0_0 _ _ _ _ pb po cp W _ _ _ (by simp) HST.out).mono ?_
  rintro e Z0 ⟨⟨r0, rfl⟩, u0, hs0, hk0⟩
  have f6 : Z0.cell? ⟨w.heap.size + 2, 0, none⟩ = some (.func (.func 106) #[] #[.pointer (some ⟨w.heap.size, 0, none⟩), .pointer (some ⟨w.heap.size + 1, 0, none⟩), .pointer (some ⟨w.heap.size + 2, 0, none⟩)]) := hs0.k6.cell 0
  have HS0 := Lib.hid hs0
  have HK0 := Lib.hid hk0
  have f5 : Z0.cell? ⟨w.heap.size + 1, 0, none⟩ = some u0 := hs0.k5.cell 0
  clear hs0 hk0
  go_wp2
  rw [rounds_succ]
  go_wp2_with fail
  refine (walk_1_1_0_0_0 _ _ _ _ pb po cp Z0 _ _ _ (by simp; try omega) HS0.out).mono ?_
  rintro e Z1 ⟨⟨r1, rfl⟩, u1, hs1, hk1⟩
  have f6 : Z1.cell? ⟨w.heap.size + 2, 0, none⟩ = some (.func (.func 106) #[] #[.pointer (some ⟨w.heap.size, 0, none⟩), .pointer (some ⟨w.heap.size + 1, 0, none⟩), .pointer (some ⟨w.heap.size + 2, 0, none⟩)]) := hs1.k6.cell 0
  have HS1 := Lib.hid hs1
  have HK1 := Lib.hid hk1
  have f5 : Z1.cell? ⟨w.heap.size + 1, 0, none⟩ = some u1 := hs1.k5.cell 0
  clear hs1 hk1
  go_wp2
  rw [rounds_succ]
  go_wp2_with fail
  refine (walk_2_2_0_0_0 _ _ _ _ pb po cp Z1 _ _ _ (by simp; try omega) HS1.out).mono ?_
  rintro e Z2 ⟨⟨r2, rfl⟩, u2, hs2, hk2⟩
  have f6 : Z2.cell? ⟨w.heap.size + 2, 0, none⟩ = some (.func (.func 106) #[] #[.pointer (some ⟨w.heap.size, 0, none⟩), .pointer (some ⟨w.heap.size + 1, 0, none⟩), .pointer (some ⟨w.heap.size + 2, 0, none⟩)]) := hs2.k6.cell 0
  have HS2 := Lib.hid hs2
  have HK2 := Lib.hid hk2
  have f5 : Z2.cell? ⟨w.heap.size + 1, 0, none⟩ = some u2 := hs2.k5.cell 0
  clear hs2 hk2
  go_wp2
  rw [rounds_succ]
  go_wp2
  go_ret
  have hkk := HK0.out.trans (HK1.out.trans HK2.out)
  have hlo : Below w.heap.size w Z2 := HBW.out.trans (hkk.low (by omega) (by rw [HZ.out]; omega) rfl)
  have how := HS2.out.own
  first | exact ⟨_, rfl, by simpa [flat, encT] using how, hlo⟩ | exact ⟨u2, rfl, how, hlo⟩
end Go.Proofs.Ytlnaahkheankoaa

namespace Go.Proofs.Ytlnaahkheankoaa
open Go.RowKit Go.Shelf Go.Proofs.Gr
attribute [local go_sem] Oper.semAt_some

/-- The blocks of a set that hold cells lie as they lay. -/
def KpT (T : Nat → Prop) (A A' : World) : Prop := A.heap.size ≤ A'.heap.size ∧ ∀ r o, T r → A.heap[r]? = some o → o.isCells = true → A'.heap[r]? = some o
theorem KpT.refl (T : Nat → Prop) (A : World) : KpT T A A := ⟨Nat.le_refl _, fun _ _ _ h _ => h⟩
theorem KpT.trans {T : Nat → Prop} {A A' A'' : World} (h : KpT T A A') (k : KpT T A' A'') : KpT T A A'' := ⟨Nat.le_trans h.1 k.1, fun r o h1 h3 h4 => k.2 r o h1 (h.2 r o h1 h3 h4) h4⟩
theorem KpT.putObj {T : Nat → Prop} {l : Nat} {W : World} {o o' : Obj} (hl : W.heap[l]? = some o) (hc : o.isCells = false) : KpT T W (W.putObj l o') :=
  ⟨by simp, fun r o2 _ h3 h4 => by
    have hne : r ≠ l := by rintro rfl; rw [h3] at hl; cases hl; rw [h4] at hc; cases hc
    exact (World.putObj_heap_other hne).trans h3⟩
theorem KpT.below {T : Nat → Prop} {A A' : World} (h : Below A.heap.size A A') : KpT T A A' := ⟨h.size, fun r _ _ h3 _ => (h.block r (Array.getElem?_eq_some_iff.1 h3).1).trans h3⟩
theorem KpT.mono {T T' : Nat → Prop} {A A' : World} (h : KpT T A A') (k : ∀ r, T' r → T r) : KpT T' A A' := ⟨h.1, fun r o h1 h3 h4 => h.2 r o (k r h1) h3 h4⟩
/-- The contract of an iterator that stores into blocks of its own: T is the set of those that are its own. -/
def SeqB {α : Type} (n : Nat) (P : Program) (g : Nat) (lb : Array Value) (encs : α → Array Value) (QQ : (Nat → Prop) → α → World → Prop) (rm : α → Nat → Prop) (T0 : Nat → Prop) (S : List α → Prop) (N : Nat) (w : World) : Prop :=
  ∀ (l : Nat) (J : (Nat → Prop) → List α → World → Prop) (W : World), Below w.heap.size w W →
    (∀ T s A A', J T s A → A.grownBy A' none → J (fun r => T r ∨ (A.heap.size ≤ r ∧ r < A'.heap.size)) s A') →
    (∀ T s A A' r, J T s A → T r → A.grownBy A' (some r) → J T s A') →
    (∀ T T' s A, J T s A → (∀ r, T' r → T r) → J T' s A) →
    (∀ T pre x W1, J T pre W1 → pre.length < N → QQ T x W1 → ∀ k, YieldAt Fence.wide k P l (encs x) W1 fun e W' => e = .returned (.bool true) ∧ J (fun r => T r ∧ ¬ rm x r) (pre ++ [x]) W' ∧ KpT T W1 W') →
    J T0 [] W →
    CallsIn Fence.wide n P g (#[.func (.yield l) #[] #[]] ++ lb) W fun e W' => (∃ v, e = .returned v) ∧ ∃ xs, S xs ∧ J T0 xs W'

theorem wpIn_rangeFunc_bits {α : Type} {n : Nat} {P : Program} {g : Operand} {ps : Array Tmp} {assign body : Code} {Q : Exit → Act → World → Prop} {a : Act} {w : World}
    (h1 : 1 ≤ n) {gf : Nat} {lb : Array Value} (hg : a.eval g = .func (.func gf) #[] lb) (eg : ∀ args w, (callFunc gf args).run P w = .ok (.enter gf args) w)
    {encs : α → Array Value} {QQ : (Nat → Prop) → α → World → Prop} {rm : α → Nat → Prop} {T0 : Nat → Prop} {S : List α → Prop} {N : Nat} {w0 : World} (hseq : SeqB (n - 1) P gf lb encs QQ rm T0 S N w0)
    (hT0 : ∀ r, T0 r → r < w.heap.size)
    (hb0 : Below w0.heap.size w0 w) (hps : ∀ x, (encs x).size = ps.size)
    (I : (Nat → Prop) → List α → World → Prop)
    (hI1 : ∀ T s A A', I T s A → A.grownBy A' none → I (fun r => T r ∨ (A.heap.size ≤ r ∧ r < A'.heap.size)) s A')
    (hI2 : ∀ T s A A' r, I T s A → T r → A.grownBy A' (some r) → I T s A')
    (hI0 : ∀ T T' s A, I T s A → (∀ r, T' r → T r) → I T' s A)
    (hI3 : ∀ T s A A' r o, I T s A → A.grownBy A' (some r) → w.heap.size ≤ r → r < w.heap.size + 2 → A.heap[r]? = some o → o.isCells = false → I T s A')
    (hQ3 : ∀ T x A A' r o, QQ T x A → A.grownBy A' (some r) → A.heap[r]? = some o → o.isCells = false → QQ T x A')
    (h0 : I T0 [] w) (a₁ : α → Act)
    (hassign : ∀ (l k : Nat) (x : α) (W : World) (K : Act → World → Prop), K (a₁ x) W →
      assign.wpIn (Fence.wide.inRound l) k P (Exit.then K (fun _ _ _ => False)) { tmps := (ps.zip (encs x)).foldl (fun t (p, v) => t.setIfInBounds p v) a.tmps, defers := [] } W)
    (hbody : ∀ (l k : Nat) (T : Nat → Prop) (pre : List α) (x : α) (W : World), I T pre W → pre.length < N → w.heap.size + 2 ≤ W.heap.size → ¬ T w.heap.size → ¬ T (w.heap.size + 1) → QQ T x W →
      body.wpIn (Fence.wide.inRound l) k P (fun e _ W' => e = .normal ∧ KeepsFrom w.heap.size W W' ∧ KpT T W W' ∧ I (fun r => T r ∧ ¬ rm x r) (pre ++ [x]) W') (a₁ x) W)
    (hdone : ∀ (D : Nat) (xs : List α) (W : World), w.heap.size ≤ D → S xs → I T0 xs W → W.heap[D]? = some (.deferred (some [])) → Q .normal { a with defers := { target := .collected D, args := #[] } :: a.defers } W) :
    (Code.rangeFunc g ps assign body).wpIn Fence.wide n P Q a w := by
  refine wpIn_rangeFunc ?_
  intro fn hfn
  show ∃ _, _
  obtain ⟨rec, hrec⟩ : ∃ rec : LoopState → Option Code → Loop, rec = fun st pe => { state := st, pending := pe, fn, tmps := a.tmps, params := ps, assign, body, defers := w.heap.size } := ⟨_, rfl⟩
  obtain ⟨W1, hW1⟩ : ∃ W1, (w.alloc (.deferred (some []))).alloc (.loop (rec .ready none)) = W1 := ⟨_, rfl⟩
  have hL1 : W1.heap[w.heap.size + 1]? = some (.loop (rec .ready none)) := by
    rw [← hW1]; have := World.alloc_heap_new (w.alloc (.deferred (some []))) (.loop (rec .ready none)); rwa [World.size_alloc] at this
  have hK1 : W1.heap[w.heap.size]? = some (.deferred (some [])) := by
    rw [← hW1]; exact (Below.heap_alloc _ _ _ (by simp)).trans (World.alloc_heap_new w _)
  have hz1 : W1.heap.size = w.heap.size + 2 := by rw [← hW1]; simp
  have hI1' : I T0 [] W1 := by rw [← hW1]; exact hI0 _ _ _ _ (hI1 _ _ _ _ (hI1 _ _ _ _ h0 (World.grownBy_alloc _ _ none)) (World.grownBy_alloc _ _ none)) (fun r hr => .inl (.inl hr))
  have hb1 : Below w0.heap.size w0 W1 := by
    rw [← hW1]; exact hb0.trans ((((Below.refl _ w).alloc (Nat.le_refl _) _).alloc (by simp) _).mono hb0.size)
  refine ⟨w.heap.size + 1, [{ target := .collected w.heap.size, args := #[] }], W1, { target := .fn (.func gf) lb, args := #[.func (.yield (w.heap.size + 1)) #[] #[]] }, W1, gf,
    #[.func (.yield (w.heap.size + 1)) #[] #[]] ++ lb, W1, ?_, ?_, ?_, ?_, fun _ => h1, ?_⟩
  · rw [← hW1, hrec]; exact run_enterLoop_outer _ _ _ _ _
  · simp only [resolve, hg]
    simp [go_sem]
  · intro f' hf'; trivial
  · simp [invoke, go_sem, eg]
  · refine (hseq (w.heap.size + 1)
      (fun T pre W => I T pre W ∧ W.heap[w.heap.size + 1]? = some (.loop (rec .ready none)) ∧ W.heap[w.heap.size]? = some (.deferred (some [])) ∧ ¬ T w.heap.size ∧ ¬ T (w.heap.size + 1))
      W1 hb1
      (fun T s A B hs hg' => ⟨hI1 T s A B hs.1 hg', (hg'.block _ (Array.getElem?_eq_some_iff.1 hs.2.1).1 (by simp)).trans hs.2.1, (hg'.block _ (Array.getElem?_eq_some_iff.1 hs.2.2.1).1 (by simp)).trans hs.2.2.1, by
        have h9 := (Array.getElem?_eq_some_iff.1 hs.2.1).1
        rintro (h | h)
        · exact hs.2.2.2.1 h
        · omega, by
        have h9 := (Array.getElem?_eq_some_iff.1 hs.2.1).1
        rintro (h | h)
        · exact hs.2.2.2.2 h
        · omega⟩)
      (fun T s A B r hs hr hg' => ⟨hI2 T s A B r hs.1 hr hg', (hg'.block _ (Array.getElem?_eq_some_iff.1 hs.2.1).1 (by intro e; injection e with e; subst e; exact hs.2.2.2.2 hr)).trans hs.2.1, (hg'.block _ (Array.getElem?_eq_some_iff.1 hs.2.2.1).1 (by intro e; injection e with e; subst e; exact hs.2.2.2.1 hr)).trans hs.2.2.1, hs.2.2.2.1, hs.2.2.2.2⟩)
      (fun T T' s A hs hT => ⟨hI0 T T' s A hs.1 hT, hs.2.1, hs.2.2.1, fun h => hs.2.2.2.1 (hT _ h), fun h => hs.2.2.2.2 (hT _ h)⟩)
      ?_ ⟨hI1', hL1, hK1, fun h => Nat.lt_irrefl _ (hT0 _ h), fun h => by have := hT0 _ h; omega⟩).mono ?_
    · rintro T pre x W ⟨hi, hl, hk, ht1, ht2⟩ hlen hq kk
      have hlt : w.heap.size + 1 < W.heap.size := (Array.getElem?_eq_some_iff.1 hl).1
      have hy := run_yield (P := P) (args := encs x) hl (by rw [hrec]; exact hps x)
      rw [hrec] at hy
      refine ⟨fn, _, assign, body, hy, roundIn_of_wpIn hfn (hassign _ kk x W _ ?_)⟩
      clear hy
      refine ⟨_, run_beginRound hl (by rw [hrec]), ?_⟩
      have hl2 : (W.putObj (w.heap.size + 1) (.loop { rec .ready none with state := .busy })).heap[w.heap.size + 1]? = some (.loop { rec .ready none with state := .busy }) := World.putObj_heap_same hlt
      have hk2 : (W.putObj (w.heap.size + 1) (.loop { rec .ready none with state := .busy })).heap[w.heap.size]? = some (.deferred (some [])) := (World.putObj_heap_other (by omega)).trans hk
      have hi2 := hI3 T pre W _ _ _ hi (grownBy_putObj' W (w.heap.size + 1) (.loop { rec .ready none with state := .busy })) (by omega) (by omega) hl rfl
      have hq2 := hQ3 T x W _ _ _ hq (grownBy_putObj' W (w.heap.size + 1) (.loop { rec .ready none with state := .busy })) hl rfl
      have hw2 : KpT T W (W.putObj (w.heap.size + 1) (.loop { rec .ready none with state := .busy })) := KpT.putObj hl rfl
      refine wpIn_mono (hbody _ kk T pre x _ hi2 hlen (by simp [World.putObj]; omega) ht1 ht2 hq2) ?_
      rintro e a3 W3 ⟨rfl, hk3, hkp3, hi3⟩
      have hl3 := hk3.same _ _ (by omega) hl2 rfl
      have hre := run_endRound (P := P) none hl3
      have hl4 : (W3.putObj (w.heap.size + 1) (.loop (rec .ready none))).heap[w.heap.size + 1]? = some (.loop (rec .ready none)) := World.putObj_heap_same (Array.getElem?_eq_some_iff.1 hl3).1
      have hk4 : (W3.putObj (w.heap.size + 1) (.loop (rec .ready none))).heap[w.heap.size]? = some (.deferred (some [])) := (World.putObj_heap_other (by omega)).trans (hk3.same _ _ (Nat.le_refl _) hk2 rfl)
      have hi4 := hI3 _ _ W3 _ _ _ hi3 (grownBy_putObj' W3 (w.heap.size + 1) (.loop (rec .ready none))) (by omega) (by omega) hl3 rfl
      rw [hrec] at hre hl4 hk4 hi4 ⊢
      refine ⟨_, _, hre, rfl, ⟨hi4, hl4, hk4, fun h => ht1 h.1, fun h => ht2 h.1⟩, ?_⟩
      have hw3 : KpT T W (W.putObj (w.heap.size + 1) (.loop { rec .ready none with state := .busy })) := hw2
      rw [hrec] at hw3 hkp3 hl3
      exact hw3.trans (hkp3.trans (KpT.putObj hl3 rfl))
    · rintro e W2 ⟨⟨v, rfl⟩, xs, hS, hi, hl, hk, -, -⟩
      refine ⟨none, _, by have := run_endLoop (P := P) hl (by rw [hrec]; simp); rw [hrec] at this; exact this, ?_⟩
      refine hdone _ xs _ (Nat.le_refl _) hS ?_ ((World.putObj_heap_other (by omega)).trans hk)
      exact hI3 _ _ _ _ _ _ hi (grownBy_putObj' _ _ _) (by omega) (by omega) hl rfl
end Go.Proofs.Ytlnaahkheankoaa

namespace Go.Proofs.Ytlnaahkheankoaa
open Go.RowKit Go.Shelf Go.Proofs.Gr
attribute [local go_sem] Oper.semAt_some

set_option maxHeartbeats 12800000 in
set_option maxRecDepth 100000 in
theorem rsameI_true (a b : Option Addr) (c d : Nat) (D : List Int) (hD : D.length ≤ 100000) (w : World) (h1 : IsAt w a D) (h2 : IsAt w b D) :
    Calls Try.prog 22 #[.slice a D.length c, .slice b D.length d] w (fun e w' => e = .returned (.bool true) ∧ Below w.heap.size w w') := by
  have d1 : ((D.length : Int) != (D.length : Int)) = false := by simp
  have H1 := Lib.hid h1
  have H2 := Lib.hid h2
  clear h1 h2
  go_enter Try.func22, Try.ntmps22
  go_wp2
  go_loopw [5] (fun x wr => ∃ i : Nat, i ≤ D.length ∧ x = .int .i64 i ∧ Below w.heap.size w wr) (fun x _ => D.length - (intOf x).toNat)
  case atStart => exact ⟨0, by omega, rfl, Below.refl _ _⟩
  case round =>
    obtain ⟨i, hi, rfl, hb⟩ := hrel
    by_cases hlt : i < D.length
    · have i1 : (i : Int) < (D.length : Int) := by omega
      have i2 : (0 : Int) ≤ (i : Int) := by omega
      obtain ⟨b1, o1, hb1, q1, x1⟩ := (H1.out.keep hb).one i hlt
      obtain ⟨b2, o2, hb2, q2, x2⟩ := (H2.out.keep hb).one i hlt
      subst hb1 hb2
      have HXY : Hid (∀ u, Below wr.heap.size wr u → u.cell? ⟨b1, o1 + i, none⟩ = some (.int .i64 (iAt D i)) ∧ u.cell? ⟨b2, o2 + i, none⟩ = some (.int .i64 (iAt D i))) := Lib.hid fun u hu => by
        obtain ⟨b3, o3, e1, -, y1⟩ := (H1.out.keep (hb.trans (hu.mono hb.size))).one i hlt
        obtain ⟨b4, o4, e2, -, y2⟩ := (H2.out.keep (hb.trans (hu.mono hb.size))).one i hlt
        injection e1 with e1; injection e1 with e3 e4
        injection e2 with e2; injection e2 with e5 e6
        subst e3 e4 e5 e6
        exact ⟨y1, y2⟩
      have HBr := Lib.hid hb
      clear hb x1 x2
      generalize iAt D i = z at *
      have d2 : (z != z) = false := by simp
      go_wp2
      have hj0 : Below wr.heap.size wr wr.drew := (Below.refl _ _).drew
      refine wp_region_late (S := fun u => Below wr.heap.size wr u) (X := []) (by kernel_rfl) ?_
      refine wpAnyL_pureD (i := 0) 17 (.slice (some ⟨b1, o1, none⟩) D.length c) rfl rfl (by kernel_rfl) (by kernel_rfl) (by kernel_rfl) (fun _ _ _ h => h) (Or.inl ⟨by rfl, fun u _ => ?_⟩) ?_
      · go_simp
      try simp only [Act.put, List.setIfInBounds_toArray, List.set_cons_zero, List.set_cons_succ]
      refine wpAnyL_pureD (i := 1) 18 (.int .i64 i) rfl rfl (by kernel_rfl) (by kernel_rfl) (by kernel_rfl) (fun _ _ _ h => h) (Or.inl ⟨by rfl, fun u _ => ?_⟩) ?_
      · go_simp
      try simp only [Act.put, List.setIfInBounds_toArray, List.set_cons_zero, List.set_cons_succ]
      refine wpAnyL_pureD (i := 2) 19 (.pointer (some ⟨b1, o1 + i, none⟩)) rfl rfl (by kernel_rfl) (by kernel_rfl) (by kernel_rfl) (fun _ _ _ h => h) (Or.inl ⟨by rfl, fun u _ => ?_⟩) ?_
      · go_simp
      try simp only [Act.put, List.setIfInBounds_toArray, List.set_cons_zero, List.set_cons_succ]
      refine wpAnyL_takeD (i := 3) 20 (.int .i64 z) rfl rfl (by kernel_rfl) (by kernel_rfl) (by kernel_rfl) (by kernel_rfl) (by kernel_rfl) (fun _ _ _ h => h) hj0 (Or.inl ⟨by rfl, fun u hu => ?_⟩) ?_
      · obtain ⟨t0, t1⟩ := HXY.out u hu
        go_simp
      try simp only [Act.put, List.setIfInBounds_toArray, List.set_cons_zero, List.set_cons_succ]
      refine wpAnyL_pureD (i := 4) 21 (.slice (some ⟨b2, o2, none⟩) D.length d) rfl rfl (by kernel_rfl) (by kernel_rfl) (by kernel_rfl) (fun _ _ _ h => h) (Or.inl ⟨by rfl, fun u _ => ?_⟩) ?_
      · go_simp
      try simp only [Act.put, List.setIfInBounds_toArray, List.set_cons_zero, List.set_cons_succ]
      refine wpAnyL_pureD (i := 5) 22 (.int .i64 i) rfl rfl (by kernel_rfl) (by kernel_rfl) (by kernel_rfl) (fun _ _ _ h => h) (Or.inl ⟨by rfl, fun u _ => ?_⟩) ?_
      · go_simp
      try simp only [Act.put, List.setIfInBounds_toArray, List.set_cons_zero, List.set_cons_succ]
      refine wpAnyL_pureD (i := 6) 23 (.pointer (some ⟨b2, o2 + i, none⟩)) rfl rfl (by kernel_rfl) (by kernel_rfl) (by kernel_rfl) (fun _ _ _ h => h) (Or.inl ⟨by rfl, fun u _ => ?_⟩) ?_
      · go_simp
      try simp only [Act.put, List.setIfInBounds_toArray, List.set_cons_zero, List.set_cons_succ]
      refine wpAnyL_takeD (i := 7) 24 (.int .i64 z) rfl rfl (by kernel_rfl) (by kernel_rfl) (by kernel_rfl) (by kernel_rfl) (by kernel_rfl) (fun _ _ _ h => h) hj0 (Or.inl ⟨by rfl, fun u hu => ?_⟩) ?_
      · obtain ⟨t0, t1⟩ := HXY.out u hu
        go_simp
      try simp only [Act.put, List.setIfInBounds_toArray, List.set_cons_zero, List.set_cons_succ]
      refine wpAnyL_pureD (i := 8) 25 (.bool false) rfl rfl (by kernel_rfl) (by kernel_rfl) (by kernel_rfl) (fun _ _ _ h => h) (Or.inl ⟨by rfl, fun u _ => ?_⟩) ?_
      · go_simp
      try simp only [Act.put, List.setIfInBounds_toArray, List.set_cons_zero, List.set_cons_succ]
      refine wpAnyL_done (by kernel_rfl) ?_ _
      try simp only [Act.put, List.setIfInBounds_toArray, List.set_cons_zero, List.set_cons_succ]
      have HBN := Lib.hid (HBr.out.trans (hj0.mono HBr.out.size))
      clear hj0
      go_wp2
      go_roundw
      case rel => exact ⟨i + 1, by omega, by go_num, HBN.out⟩
      case measure => simp [intOf]; omega
    · obtain rfl : i = D.length := by omega
      have i1 : ¬ (D.length : Int) < (D.length : Int) := by omega
      have HEND := Lib.hid hb
      clear hb
      go_wp2
      go_ret
      exact ⟨rfl, HEND.out⟩
set_option maxHeartbeats 12800000 in
set_option maxRecDepth 100000 in
theorem rsameD_true (a b : Option Addr) (c d : Nat) (D : List Int) (hD : D.length ≤ 100000) (w : World) (h1 : IsAt w a D) (h2 : IsAt w b D) :
    Calls Try.prog 23 #[.slice a D.length c, .slice b D.length d] w (fun e w' => e = .returned (.bool true) ∧ Below w.heap.size w w') := by
  have d1 : ((D.length : Int) != (D.length : Int)) = false := by simp
  have H1 := Lib.hid h1
  have H2 := Lib.hid h2
  clear h1 h2
  go_enter Try.func23, Try.ntmps23
  go_wp2
  go_loopw [5] (fun x wr => ∃ i : Nat, i ≤ D.length ∧ x = .int .i64 i ∧ Below w.heap.size w wr) (fun x _ => D.length - (intOf x).toNat)
  case atStart => exact ⟨0, by omega, rfl, Below.refl _ _⟩
  case round =>
    obtain ⟨i, hi, rfl, hb⟩ := hrel
    by_cases hlt : i < D.length
    · have i1 : (i : Int) < (D.length : Int) := by omega
      have i2 : (0 : Int) ≤ (i : Int) := by omega
      obtain ⟨b1, o1, hb1, q1, x1⟩ := (H1.out.keep hb).one i hlt
      obtain ⟨b2, o2, hb2, q2, x2⟩ := (H2.out.keep hb).one i hlt
      subst hb1 hb2
      have HXY : Hid (∀ u, Below wr.heap.size wr u → u.cell? ⟨b1, o1 + i, none⟩ = some (.int .i64 (iAt D i)) ∧ u.cell? ⟨b2, o2 + i, none⟩ = some (.int .i64 (iAt D i))) := Lib.hid fun u hu => by
        obtain ⟨b3, o3, e1, -, y1⟩ := (H1.out.keep (hb.trans (hu.mono hb.size))).one i hlt
        obtain ⟨b4, o4, e2, -, y2⟩ := (H2.out.keep (hb.trans (hu.mono hb.size))).one i hlt
        injection e1 with e1; injection e1 with e3 e4
        injection e2 with e2; injection e2 with e5 e6
        subst e3 e4 e5 e6
        exact ⟨y1, y2⟩
      have HBr := Lib.hid hb
      clear hb x1 x2
      generalize iAt D i = z at *
      have d2 : (z != z) = false := by simp
      go_wp2
      have hj0 : Below wr.heap.size wr wr.drew := (Below.refl _ _).drew
      refine wp_region_late (S := fun u => Below wr.heap.size wr u) (X := []) (by kernel_rfl) ?_
      refine wpAnyL_pureD (i := 0) 17 (.slice (some ⟨b1, o1, none⟩) D.length c) rfl rfl (by kernel_rfl) (by kernel_rfl) (by kernel_rfl) (fun _ _ _ h => h) (Or.inl ⟨by rfl, fun u _ => ?_⟩) ?_
      · go_simp
      try simp only [Act.put, List.setIfInBounds_toArray, List.set_cons_zero, List.set_cons_succ]
      refine wpAnyL_pureD (i := 1) 18 (.int .i64 i) rfl rfl (by kernel_rfl) (by kernel_rfl) (by kernel_rfl) (fun _ _ _ h => h) (Or.inl ⟨by rfl, fun u _ => ?_⟩) ?_
      · go_simp
      try simp only [Act.put, List.setIfInBounds_toArray, List.set_cons_zero, List.set_cons_succ]
      refine wpAnyL_pureD (i := 2) 19 (.pointer (some ⟨b1, o1 + i, none⟩)) rfl rfl (by kernel_rfl) (by kernel_rfl) (by kernel_rfl) (fun _ _ _ h => h) (Or.inl ⟨by rfl, fun u _ => ?_⟩) ?_
      · go_simp
      try simp only [Act.put, List.setIfInBounds_toArray, List.set_cons_zero, List.set_cons_succ]
      refine wpAnyL_takeD (i := 3) 20 (.int .i64 z) rfl rfl (by kernel_rfl) (by kernel_rfl) (by kernel_rfl) (by kernel_rfl) (by kernel_rfl) (fun _ _ _ h => h) hj0 (Or.inl ⟨by rfl, fun u hu => ?_⟩) ?_
      · obtain ⟨t0, t1⟩ := HXY.out u hu
        go_simp
      try simp only [Act.put, List.setIfInBounds_toArray, List.set_cons_zero, List.set_cons_succ]
      refine wpAnyL_pureD (i := 4) 21 (.slice (some ⟨b2, o2, none⟩) D.length d) rfl rfl (by kernel_rfl) (by kernel_rfl) (by kernel_rfl) (fun _ _ _ h => h) (Or.inl ⟨by rfl, fun u _ => ?_⟩) ?_
      · go_simp
      try simp only [Act.put, List.setIfInBounds_toArray, List.set_cons_zero, List.set_cons_succ]
      refine wpAnyL_pureD (i := 5) 22 (.int .i64 i) rfl rfl (by kernel_rfl) (by kernel_rfl) (by kernel_rfl) (fun _ _ _ h => h) (Or.inl ⟨by rfl, fun u _ => ?_⟩) ?_
      · go_simp
      try simp only [Act.put, List.setIfInBounds_toArray, List.set_cons_zero, List.set_cons_succ]
      refine wpAnyL_pureD (i := 6) 23 (.pointer (some ⟨b2, o2 + i, none⟩)) rfl rfl (by kernel_rfl) (by kernel_rfl) (by kernel_rfl) (fun _ _ _ h => h) (Or.inl ⟨by rfl, fun u _ => ?_⟩) ?_
      · go_simp
      try simp only [Act.put, List.setIfInBounds_toArray, List.set_cons_zero, List.set_cons_succ]
      refine wpAnyL_takeD (i := 7) 24 (.int .i64 z) rfl rfl (by kernel_rfl) (by kernel_rfl) (by kernel_rfl) (by kernel_rfl) (by kernel_rfl) (fun _ _ _ h => h) hj0 (Or.inl ⟨by rfl, fun u hu => ?_⟩) ?_
      · obtain ⟨t0, t1⟩ := HXY.out u hu
        go_simp
      try simp only [Act.put, List.setIfInBounds_toArray, List.set_cons_zero, List.set_cons_succ]
      refine wpAnyL_pureD (i := 8) 25 (.bool false) rfl rfl (by kernel_rfl) (by kernel_rfl) (by kernel_rfl) (fun _ _ _ h => h) (Or.inl ⟨by rfl, fun u _ => ?_⟩) ?_
      · go_simp
      try simp only [Act.put, List.setIfInBounds_toArray, List.set_cons_zero, List.set_cons_succ]
      refine wpAnyL_done (by kernel_rfl) ?_ _
      try simp only [Act.put, List.setIfInBounds_toArray, List.set_cons_zero, List.set_cons_succ]
      have HBN := Lib.hid (HBr.out.trans (hj0.mono HBr.out.size))
      clear hj0
      go_wp2
      go_roundw
      case rel => exact ⟨i + 1, by omega, by go_num, HBN.out⟩
      case measure => simp [intOf]; omega
    · obtain rfl : i = D.length := by omega
      have i1 : ¬ (D.length : Int) < (D.length : Int) := by omega
      have HEND := Lib.hid hb
      clear hb
      go_wp2
      go_ret
      exact ⟨rfl, HEND.out⟩
set_option maxHeartbeats 12800000 in
set_option maxRecDepth 100000 in
theorem pequalD_true (a b : Option Addr) (c d : Nat) (D : List Int) (hD : D.length ≤ 100000) (w : World) (h1 : IsAt w a D) (h2 : IsAt w b D) :
    Calls Try.prog 56 #[.slice a D.length c, .slice b D.length d] w (fun e w' => e = .returned (.bool true) ∧ Below w.heap.size w w') := by
  have d1 : ((D.length : Int) != (D.length : Int)) = false := by simp
  have H1 := Lib.hid h1
  have H2 := Lib.hid h2
  clear h1 h2
  go_enter Try.func56, Try.ntmps56
  go_wp2
  go_loopw [13] (fun x wr => ∃ i : Nat, i ≤ D.length ∧ x = .int .i64 i ∧ Below w.heap.size w wr) (fun x _ => D.length - (intOf x).toNat)
  case atStart => exact ⟨0, by omega, rfl, Below.refl _ _⟩
  case round =>
    obtain ⟨i, hi, rfl, hb⟩ := hrel
    by_cases hlt : i < D.length
    · have i1 : (i : Int) < (D.length : Int) := by omega
      have i2 : (0 : Int) ≤ (i : Int) := by omega
      obtain ⟨b1, o1, hb1, q1, x1⟩ := (H1.out.keep hb).one i hlt
      obtain ⟨b2, o2, hb2, q2, x2⟩ := (H2.out.keep hb).one i hlt
      subst hb1 hb2
      have HXY : Hid (∀ u, Below wr.heap.size wr u → u.cell? ⟨b1, o1 + i, none⟩ = some (.int .i64 (iAt D i)) ∧ u.cell? ⟨b2, o2 + i, none⟩ = some (.int .i64 (iAt D i))) := Lib.hid fun u hu => by
        obtain ⟨b3, o3, e1, -, y1⟩ := (H1.out.keep (hb.trans (hu.mono hb.size))).one i hlt
        obtain ⟨b4, o4, e2, -, y2⟩ := (H2.out.keep (hb.trans (hu.mono hb.size))).one i hlt
        injection e1 with e1; injection e1 with e3 e4
        injection e2 with e2; injection e2 with e5 e6
        subst e3 e4 e5 e6
        exact ⟨y1, y2⟩
      have HBr := Lib.hid hb
      clear hb x1 x2
      generalize iAt D i = z at *
      have d2 : (z != z) = false := by simp
      go_wp2
      have hj0 : Below wr.heap.size wr wr.drew := (Below.refl _ _).drew
      refine wp_region_late (S := fun u => Below wr.heap.size wr u) (X := []) (by kernel_rfl) ?_
      refine wpAnyL_pureD (i := 0) 16 (.slice (some ⟨b1, o1, none⟩) D.length c) rfl rfl (by kernel_rfl) (by kernel_rfl) (by kernel_rfl) (fun _ _ _ h => h) (Or.inl ⟨by rfl, fun u _ => ?_⟩) ?_
      · go_simp
      try simp only [Act.put, List.setIfInBounds_toArray, List.set_cons_zero, List.set_cons_succ]
      refine wpAnyL_pureD (i := 1) 17 (.int .i64 i) rfl rfl (by kernel_rfl) (by kernel_rfl) (by kernel_rfl) (fun _ _ _ h => h) (Or.inl ⟨by rfl, fun u _ => ?_⟩) ?_
      · go_simp
      try simp only [Act.put, List.setIfInBounds_toArray, List.set_cons_zero, List.set_cons_succ]
      refine wpAnyL_pureD (i := 2) 18 (.pointer (some ⟨b1, o1 + i, none⟩)) rfl rfl (by kernel_rfl) (by kernel_rfl) (by kernel_rfl) (fun _ _ _ h => h) (Or.inl ⟨by rfl, fun u _ => ?_⟩) ?_
      · go_simp
      try simp only [Act.put, List.setIfInBounds_toArray, List.set_cons_zero, List.set_cons_succ]
      refine wpAnyL_takeD (i := 3) 19 (.int .i64 z) rfl rfl (by kernel_rfl) (by kernel_rfl) (by kernel_rfl) (by kernel_rfl) (by kernel_rfl) (fun _ _ _ h => h) hj0 (Or.inl ⟨by rfl, fun u hu => ?_⟩) ?_
      · obtain ⟨t0, t1⟩ := HXY.out u hu
        go_simp
      try simp only [Act.put, List.setIfInBounds_toArray, List.set_cons_zero, List.set_cons_succ]
      refine wpAnyL_pureD (i := 4) 20 (.slice (some ⟨b2, o2, none⟩) D.length d) rfl rfl (by kernel_rfl) (by kernel_rfl) (by kernel_rfl) (fun _ _ _ h => h) (Or.inl ⟨by rfl, fun u _ => ?_⟩) ?_
      · go_simp
      try simp only [Act.put, List.setIfInBounds_toArray, List.set_cons_zero, List.set_cons_succ]
      refine wpAnyL_pureD (i := 5) 21 (.int .i64 i) rfl rfl (by kernel_rfl) (by kernel_rfl) (by kernel_rfl) (fun _ _ _ h => h) (Or.inl ⟨by rfl, fun u _ => ?_⟩) ?_
      · go_simp
      try simp only [Act.put, List.setIfInBounds_toArray, List.set_cons_zero, List.set_cons_succ]
      refine wpAnyL_pureD (i := 6) 22 (.pointer (some ⟨b2, o2 + i, none⟩)) rfl rfl (by kernel_rfl) (by kernel_rfl) (by kernel_rfl) (fun _ _ _ h => h) (Or.inl ⟨by rfl, fun u _ => ?_⟩) ?_
      · go_simp
      try simp only [Act.put, List.setIfInBounds_toArray, List.set_cons_zero, List.set_cons_succ]
      refine wpAnyL_takeD (i := 7) 23 (.int .i64 z) rfl rfl (by kernel_rfl) (by kernel_rfl) (by kernel_rfl) (by kernel_rfl) (by kernel_rfl) (fun _ _ _ h => h) hj0 (Or.inl ⟨by rfl, fun u hu => ?_⟩) ?_
      · obtain ⟨t0, t1⟩ := HXY.out u hu
        go_simp
      try simp only [Act.put, List.setIfInBounds_toArray, List.set_cons_zero, List.set_cons_succ]
      refine wpAnyL_pureD (i := 8) 24 (.bool false) rfl rfl (by kernel_rfl) (by kernel_rfl) (by kernel_rfl) (fun _ _ _ h => h) (Or.inl ⟨by rfl, fun u _ => ?_⟩) ?_
      · go_simp
      try simp only [Act.put, List.setIfInBounds_toArray, List.set_cons_zero, List.set_cons_succ]
      refine wpAnyL_done (by kernel_rfl) ?_ _
      try simp only [Act.put, List.setIfInBounds_toArray, List.set_cons_zero, List.set_cons_succ]
      have HBN := Lib.hid (HBr.out.trans (hj0.mono HBr.out.size))
      clear hj0
      go_wp2
      go_roundw
      case rel => exact ⟨i + 1, by omega, by go_num, HBN.out⟩
      case measure => simp [intOf]; omega
    · obtain rfl : i = D.length := by omega
      have i1 : ¬ (D.length : Int) < (D.length : Int) := by omega
      have HEND := Lib.hid hb
      clear hb
      go_wp2
      go_ret
      exact ⟨rfl, HEND.out⟩
def fewG (n : Int) (L : List E) : Bool := decide (L.length ≤ 40) && (decide (chkG n L ≠ 0) || (decide (n ≤ 6) && decide (sizeG L ≤ 9)))
theorem few_len {n : Int} {L : List E} (h : fewG n L = true) : L.length ≤ 40 := by
  unfold fewG at h
  simp only [Bool.and_eq_true, decide_eq_true_eq] at h
  exact h.1
theorem few_size {n : Int} {L : List E} (h : fewG n L = true) (hk : chkG n L = 0) : n ≤ 6 ∧ sizeG L ≤ 9 := by
  unfold fewG at h
  simp only [Bool.and_eq_true, Bool.or_eq_true, decide_eq_true_eq] at h
  rcases h.2 with h1 | h1
  · exact absurd hk h1
  · exact h1
set_option maxHeartbeats 12800000 in
set_option maxRecDepth 100000 in
theorem small_long (n : Int) (a : Option Addr) (cap : Nat) (L : List E) (hl : 40 < L.length) (w : World) (h : EsAt w a L) :
    Calls Try.prog 54 #[gv n a L.length cap, .int .i64 6, .int .i64 9] w (GivesB w false) := by
  unfold GivesB gv
  obtain ⟨W, hW⟩ : ∃ W, W = w.alloc (Obj.cells #[.int .i64 n, .slice a L.length cap] 24) := ⟨_, rfl⟩
  have hB0 : Below w.heap.size w W := by rw [hW]; exact (Below.refl _ w).alloc (Nat.le_refl _) _
  have hG : Blk W w.heap.size 24 #[.int .i64 n, .slice a L.length cap] := by rw [hW]; exact Blk.new _ _ _
  have HW := Lib.hid hW
  have HB0 := Lib.hid hB0
  have hEz : EsAt W a L := h.keep hB0
  have HF : Hid (∀ x, Below W.heap.size W x → x.cell? ⟨w.heap.size, 0, none⟩ = some (.int .i64 n) ∧ x.cell? ⟨w.heap.size, 1, none⟩ = some (.slice a L.length cap) ∧ EsAt x a L) := Lib.hid fun x hx => ⟨(hG.below hx hG.lt).cell 0, (hG.below hx hG.lt).cell 1, hEz.keep hx⟩
  have hk0 : Below W.heap.size W W := Below.refl _ _
  obtain ⟨g0, g1, -⟩ := HF.out W hk0
  clear hB0 hG hW hEz h
  have l1 : (40 : Int) < (L.length : Int) := by omega
  go_enter Try.func54, Try.ntmps54
  go_wp2
  rw [← HW.out]
  go_ret
  exact ⟨rfl, HB0.out⟩
set_option maxHeartbeats 12800000 in
set_option maxRecDepth 100000 in
theorem small_err (n : Int) (a : Option Addr) (cap : Nat) (L : List E) (hl : L.length ≤ 40) (k : Nat) (hk : k ≠ 0) (HC : Hid (∀ w, EsAt w a L → Calls Try.prog 25 #[.agg #[.int .i64 n, .slice a L.length cap]] w (fun e w' => e = .returned (.int .i64 (k : Int)) ∧ Below w.heap.size w w'))) (w : World) (h : EsAt w a L) :
    Calls Try.prog 54 #[gv n a L.length cap, .int .i64 6, .int .i64 9] w (GivesB w true) := by
  unfold GivesB gv
  obtain ⟨W, hW⟩ : ∃ W, W = w.alloc (Obj.cells #[.int .i64 n, .slice a L.length cap] 24) := ⟨_, rfl⟩
  have hB0 : Below w.heap.size w W := by rw [hW]; exact (Below.refl _ w).alloc (Nat.le_refl _) _
  have hG : Blk W w.heap.size 24 #[.int .i64 n, .slice a L.length cap] := by rw [hW]; exact Blk.new _ _ _
  have HW := Lib.hid hW
  have HB0 := Lib.hid hB0
  have hEz : EsAt W a L := h.keep hB0
  have HF : Hid (∀ x, Below W.heap.size W x → x.cell? ⟨w.heap.size, 0, none⟩ = some (.int .i64 n) ∧ x.cell? ⟨w.heap.size, 1, none⟩ = some (.slice a L.length cap) ∧ EsAt x a L) := Lib.hid fun x hx => ⟨(hG.below hx hG.lt).cell 0, (hG.below hx hG.lt).cell 1, hEz.keep hx⟩
  have hk0 : Below W.heap.size W W := Below.refl _ _
  obtain ⟨g0, g1, -⟩ := HF.out W hk0
  clear hB0 hG hW hEz h
  have l1 : ¬ (40 : Int) < (L.length : Int) := by omega
  have q0 : (((k : Nat) : Int) != 0) = true := by rw [bne_iff_ne]; omega
  go_enter Try.func54, Try.ntmps54
  go_wp2_with fail
  rw [← HW.out]
  refine (HC.out _ (HF.out W hk0).2.2).mono ?_
  rintro e x1 ⟨rfl, hb1⟩
  have hk1 : Below W.heap.size W x1 := hk0.trans (hb1.mono hk0.size)
  clear hb1 hk0 g0 g1
  obtain ⟨g0, g1, -⟩ := HF.out x1 hk1
  have HEND := Lib.hid (HB0.out.trans (hk1.mono HB0.out.size))
  clear hk1 g0 g1
  go_wp2
  go_ret
  exact ⟨rfl, HEND.out⟩
set_option maxHeartbeats 12800000 in
set_option maxRecDepth 100000 in
theorem small_many (n : Int) (a : Option Addr) (cap : Nat) (L : List E) (hl : L.length ≤ 40) (hn : 6 < n) (HC : Hid (∀ w, EsAt w a L → Calls Try.prog 25 #[.agg #[.int .i64 n, .slice a L.length cap]] w (fun e w' => e = .returned (.int .i64 0) ∧ Below w.heap.size w w'))) (w : World) (h : EsAt w a L) :
    Calls Try.prog 54 #[gv n a L.length cap, .int .i64 6, .int .i64 9] w (GivesB w false) := by
  unfold GivesB gv
  obtain ⟨W, hW⟩ : ∃ W, W = w.alloc (Obj.cells #[.int .i64 n, .slice a L.length cap] 24) := ⟨_, rfl⟩
  have hB0 : Below w.heap.size w W := by rw [hW]; exact (Below.refl _ w).alloc (Nat.le_refl _) _
  have hG : Blk W w.heap.size 24 #[.int .i64 n, .slice a L.length cap] := by rw [hW]; exact Blk.new _ _ _
  have HW := Lib.hid hW
  have HB0 := Lib.hid hB0
  have hEz : EsAt W a L := h.keep hB0
  have HF : Hid (∀ x, Below W.heap.size W x → x.cell? ⟨w.heap.size, 0, none⟩ = some (.int .i64 n) ∧ x.cell? ⟨w.heap.size, 1, none⟩ = some (.slice a L.length cap) ∧ EsAt x a L) := Lib.hid fun x hx => ⟨(hG.below hx hG.lt).cell 0, (hG.below hx hG.lt).cell 1, hEz.keep hx⟩
  have hk0 : Below W.heap.size W W := Below.refl _ _
  obtain ⟨g0, g1, -⟩ := HF.out W hk0
  clear hB0 hG hW hEz h
  have l1 : ¬ (40 : Int) < (L.length : Int) := by omega
  have l2 : decide (n ≤ 6) = false := decide_eq_false (by omega)
  go_enter Try.func54, Try.ntmps54
  go_wp2_with fail
  rw [← HW.out]
  refine (HC.out _ (HF.out W hk0).2.2).mono ?_
  rintro e x1 ⟨rfl, hb1⟩
  have hk1 : Below W.heap.size W x1 := hk0.trans (hb1.mono hk0.size)
  clear hb1 hk0 g0 g1
  obtain ⟨g0, g1, -⟩ := HF.out x1 hk1
  have HEND := Lib.hid (HB0.out.trans (hk1.mono HB0.out.size))
  clear hk1
  go_wp2
  go_ret
  exact ⟨rfl, HEND.out⟩
set_option maxHeartbeats 12800000 in
set_option maxRecDepth 100000 in
theorem small_ok (n : Int) (a : Option Addr) (cap : Nat) (L : List E) (hl : L.length ≤ 40) (hn : n ≤ 6) (S : Int) (HC : Hid (∀ w, EsAt w a L → Calls Try.prog 25 #[.agg #[.int .i64 n, .slice a L.length cap]] w (fun e w' => e = .returned (.int .i64 0) ∧ Below w.heap.size w w'))) (HZ : Hid (∀ w, EsAt w a L → Calls Try.prog 26 #[.agg #[.int .i64 n, .slice a L.length cap]] w (fun e w' => e = .returned (.int .i64 S) ∧ Below w.heap.size w w'))) (w : World) (h : EsAt w a L) :
    Calls Try.prog 54 #[gv n a L.length cap, .int .i64 6, .int .i64 9] w (GivesB w (decide (S ≤ 9))) := by
  unfold GivesB gv
  obtain ⟨W, hW⟩ : ∃ W, W = w.alloc (Obj.cells #[.int .i64 n, .slice a L.length cap] 24) := ⟨_, rfl⟩
  have hB0 : Below w.heap.size w W := by rw [hW]; exact (Below.refl _ w).alloc (Nat.le_refl _) _
  have hG : Blk W w.heap.size 24 #[.int .i64 n, .slice a L.length cap] := by rw [hW]; exact Blk.new _ _ _
  have HW := Lib.hid hW
  have HB0 := Lib.hid hB0
  have hEz : EsAt W a L := h.keep hB0
  have HF : Hid (∀ x, Below W.heap.size W x → x.cell? ⟨w.heap.size, 0, none⟩ = some (.int .i64 n) ∧ x.cell? ⟨w.heap.size, 1, none⟩ = some (.slice a L.length cap) ∧ EsAt x a L) := Lib.hid fun x hx => ⟨(hG.below hx hG.lt).cell 0, (hG.below hx hG.lt).cell 1, hEz.keep hx⟩
  have hk0 : Below W.heap.size W W := Below.refl _ _
  obtain ⟨g0, g1, -⟩ := HF.out W hk0
  clear hB0 hG hW hEz h
  have l1 : ¬ (40 : Int) < (L.length : Int) := by omega
  go_enter Try.func54, Try.ntmps54
  go_wp2_with fail
  rw [← HW.out]
  refine (HC.out _ (HF.out W hk0).2.2).mono ?_
  rintro e x1 ⟨rfl, hb1⟩
  have hk1 : Below W.heap.size W x1 := hk0.trans (hb1.mono hk0.size)
  clear hb1 hk0 g0 g1
  obtain ⟨g0, g1, -⟩ := HF.out x1 hk1
  go_wp2_with fail
  refine (HZ.out _ (HF.out x1 hk1).2.2).mono ?_
  rintro e x2 ⟨rfl, hb2⟩
  have hk2 : Below W.heap.size W x2 := hk1.trans (hb2.mono hk1.size)
  clear hb2 hk1 g0 g1
  obtain ⟨g0, g1, -⟩ := HF.out x2 hk2
  have HEND := Lib.hid (HB0.out.trans (hk2.mono HB0.out.size))
  clear hk2 g0 g1
  go_wp2
  go_ret
  exact ⟨rfl, HEND.out⟩
theorem small_any (n : Int) (a : Option Addr) (cap : Nat) (L : List E) (w : World) (h : EsAt w a L) :
    Calls Try.prog 54 #[gv n a L.length cap, .int .i64 6, .int .i64 9] w (GivesB w (fewG n L)) := by
  have HF : fewG n L = (decide (L.length ≤ 40) && (decide (chkG n L ≠ 0) || (decide (n ≤ 6) && decide (sizeG L ≤ 9)))) := rfl
  by_cases hl : L.length ≤ 40
  · rw [decide_eq_true hl, Bool.true_and] at HF
    by_cases hk : chkG n L = 0
    · have hR := right_of hk
      have HC : Hid (∀ w, EsAt w a L → Calls Try.prog 25 #[.agg #[.int .i64 n, .slice a L.length cap]] w (fun e w' => e = .returned (.int .i64 0) ∧ Below w.heap.size w w')) := Lib.hid fun w h => by have := rcheck_any n a cap L (by omega) w h; rw [hk] at this; exact this
      rw [decide_eq_false (by omega), Bool.false_or] at HF
      by_cases hn : n ≤ 6
      · rw [decide_eq_true hn, Bool.true_and] at HF
        rw [HF]
        exact small_ok n a cap L hl hn (sizeG L) HC (Lib.hid fun w h => rsize_any n a cap L (by omega) hR w h) w h
      · rw [decide_eq_false hn, Bool.false_and] at HF
        rw [HF]
        exact small_many n a cap L hl (by omega) HC w h
    · rw [decide_eq_true hk, Bool.true_or] at HF
      rw [HF]
      exact small_err n a cap L hl (chkG n L) hk (Lib.hid fun w h => rcheck_any n a cap L (by omega) w h) w h
  · rw [decide_eq_false hl, Bool.false_and] at HF
    rw [HF]
    exact small_long n a cap L (by omega) w h
set_option maxHeartbeats 12800000 in
set_option maxRecDepth 100000 in
theorem few_of (n : Int) (a : Option Addr) (cap : Nat) (L : List E) (R : Bool) (HS : Hid (∀ w, EsAt w a L → Calls Try.prog 54 #[.agg #[.int .i64 n, .slice a L.length cap], .int .i64 6, .int .i64 9] w (fun e w' => e = .returned (.bool R) ∧ Below w.heap.size w w'))) (w : World) (h : EsAt w a L) :
    Calls Try.prog 12 #[gv n a L.length cap] w (GivesB w R) := by
  unfold GivesB gv
  obtain ⟨W, hW⟩ : ∃ W, W = w.alloc (Obj.cells #[.int .i64 n, .slice a L.length cap] 24) := ⟨_, rfl⟩
  have hB0 : Below w.heap.size w W := by rw [hW]; exact (Below.refl _ w).alloc (Nat.le_refl _) _
  have hG : Blk W w.heap.size 24 #[.int .i64 n, .slice a L.length cap] := by rw [hW]; exact Blk.new _ _ _
  have HW := Lib.hid hW
  have HB0 := Lib.hid hB0
  have hEz : EsAt W a L := h.keep hB0
  have HF : Hid (∀ x, Below W.heap.size W x → x.cell? ⟨w.heap.size, 0, none⟩ = some (.int .i64 n) ∧ x.cell? ⟨w.heap.size, 1, none⟩ = some (.slice a L.length cap) ∧ EsAt x a L) := Lib.hid fun x hx => ⟨(hG.below hx hG.lt).cell 0, (hG.below hx hG.lt).cell 1, hEz.keep hx⟩
  have hk0 : Below W.heap.size W W := Below.refl _ _
  obtain ⟨g0, g1, -⟩ := HF.out W hk0
  clear hB0 hG hW hEz h
  go_enter Try.func12, Try.ntmps12
  go_wp2_with fail
  rw [← HW.out]
  refine (HS.out _ (HF.out W hk0).2.2).mono ?_
  rintro e x1 ⟨rfl, hb1⟩
  have hk1 : Below W.heap.size W x1 := hk0.trans (hb1.mono hk0.size)
  clear hb1 hk0 g0 g1
  obtain ⟨g0, g1, -⟩ := HF.out x1 hk1
  have HEND := Lib.hid (HB0.out.trans (hk1.mono HB0.out.size))
  clear hk1 g0 g1
  go_wp2
  go_ret
  exact ⟨rfl, HEND.out⟩
theorem few_any (n : Int) (a : Option Addr) (cap : Nat) (L : List E) (w : World) (h : EsAt w a L) :
    Calls Try.prog 12 #[gv n a L.length cap] w (GivesB w (fewG n L)) :=
  few_of n a cap L (fewG n L) (Lib.hid fun w h => small_any n a cap L w h) w h
theorem few_ends {n : Int} {L : List E} (hf : fewG n L = true) (hk : chkG n L = 0) : (endsG L).length ≤ 9 := by
  have h1 := endsG_len (right_of hk).rng
  have h2 := few_size hf hk
  omega
theorem FewHid {n : Int} {a : Option Addr} {cap : Nat} {L : List E} {b : Bool} (h : fewG n L = b) : Hid (∀ w, EsAt w a L → Calls Try.prog 12 #[.agg #[.int .i64 n, .slice a L.length cap]] w (fun e w' => e = .returned (.bool b) ∧ Below w.heap.size w w')) :=
  Lib.hid fun w hE => by have := few_any n a cap L w hE; rw [h] at this; exact this
theorem nat_of_right {n : Int} {L : List E} (hk : chkG n L = 0) : ∃ N : Nat, n = N ∧ 1 ≤ N ∧ N ≤ 12 := by
  have := chkG_n hk
  exact ⟨n.toNat, by omega, by omega, by omega⟩
end Go.Proofs.Ytlnaahkheankoaa

namespace Go.Proofs.Ytlnaahkheankoaa
open Go.RowKit

section
variable {P : Program} {ops : Array Oper} {Q : Exit → Act → World → Prop} {S : World → Prop} {X : List Nat} {l n : Nat}

theorem uponR {o : Oper} {a : Act} {K : Act → World → Prop} (r : Result Next) (h : o.upon P a K Q r) : o.uponIn (Fence.wide.inRound l) n P a K Q r := by
  unfold Oper.upon at h
  split at h
  · exact h
  · exact h
  · exact h
  · exact ⟨fun h9 => (by cases h9), CallsIn.inRound l (callsIn_wide.2 h)⟩
  · exact ⟨fun h9 => (by cases h9), fun c cs _ => let ⟨v, w', r, s⟩ := h c cs; ⟨v, w', r, stepsIn_wide.2 s⟩⟩
  · exact h
  · exact h.elim
theorem wpR {o : Oper} {a : Act} {w : World} {K : Act → World → Prop} (hd : ∀ c, o.op ≠ .defer c) (h : o.wp P a w K Q) : o.wpIn (Fence.wide.inRound l) n P a w K Q := by
  refine ⟨fun _ _ => trivial, ?_⟩
  rw [Oper.semAt_eq _ _ _ hd]
  exact uponR _ h
def noDefer (ops : Array Oper) : Bool := ops.all fun o => match o.op with | .defer _ => false | _ => true
theorem wpOpR {i : Nat} {a : Act} {w : World} {K : Act → World → Prop} (hd : noDefer ops = true) (hno : ∀ a w, ¬ Q .outgrown a w) (h : wpOp P ops Q i K a w) : wpOpIn (Fence.wide.inRound l) n P ops Q i K a w := by
  unfold wpOp at h
  unfold wpOpIn
  cases ho : ops[i]? with
  | none => rw [ho] at h; exact h
  | some o =>
    rw [ho] at h
    have h1 : ∀ c, o.op ≠ .defer c := by
      intro c hc
      have h2 := (Array.all_eq_true_iff_forall_mem.1 hd) o (Array.mem_of_getElem? ho)
      rw [hc] at h2; cases h2
    simp only at h ⊢
    split
    · rename_i hw
      rw [if_pos hw] at h
      rcases h with h | ⟨-, a9, w9, h9⟩
      · exact wpR h1 h
      · exact absurd h9 (hno _ _)
    · rename_i hw
      rw [if_neg hw] at h
      exact ⟨fun _ _ => trivial, h⟩
theorem wpAnyR {md : Region.Mode} (hd : noDefer ops = true) (hno : ∀ a w, ¬ Q .outgrown a w) : ∀ (fuel : Nat) (listed : Array Bool) (a : Act) (w : World), wpAny P md ops Q fuel listed a w → wpAnyIn (Fence.wide.inRound l) n P md ops Q fuel listed a w
  | 0, _, _, _, h => h
  | fuel + 1, _, _, _, h => ⟨h.1, fun i hi => wpOpR hd hno (wpOp_mono (fun a' w' h' => wpAnyR hd hno fuel _ a' w' h') (h.2 i hi))⟩
theorem wpIn_region_lateR {id : Nat} {a : Act} {w : World} (hm : P.follows .mixedOrders = true) (hd : noDefer ops = true) (hno : ∀ a w, ¬ Q .outgrown a w)
    (h : wpAnyL P .any ops Q S X ops.size (Array.replicate ops.size false) a w.drew) : (Code.region id ops true).wpIn (Fence.wide.inRound l) n P Q a w :=
  wpIn_region_any hm (wpAnyR hd hno _ _ _ _ (wpAny_of_late _ _ _ _ h))
end
end Go.Proofs.Ytlnaahkheankoaa

namespace Go.Proofs.Ytlnaahkheankoaa
open Go.RowKit Go.Shelf Go.Proofs.Gr
attribute [local go_sem] Oper.semAt_some

theorem cut_at (f : Nat → Bool) (m j : Nat) (hj : j < (cutI f m).length) : ∃ e : Nat, iAt (cutI f m) j = e ∧ e < m := by
  induction m with
  | zero => simp [cutI] at hj
  | succ m ih =>
    unfold cutI at hj ⊢
    by_cases h : j < (cutI f m).length
    · obtain ⟨e, h1, h2⟩ := ih h
      refine ⟨e, ?_, by omega⟩
      unfold iAt at *
      rw [List.getD_eq_getElem?_getD] at h1 ⊢
      rw [List.getElem?_append_left h]
      exact h1
    · by_cases hf : f m = true
      · rw [if_pos hf] at hj ⊢
        simp at hj
        have : j = (cutI f m).length := by omega
        refine ⟨m, ?_, by omega⟩
        unfold iAt
        rw [List.getD_eq_getElem?_getD, List.getElem?_append_right (by omega), this]
        simp
      · rw [if_neg hf] at hj
        simp at hj
        omega
/-- How many of a list's first ones are so. -/
def outN (t : Int → Bool) (C : List Int) (i : Nat) : Nat := (C.take i).countP t
theorem outN_succ (t : Int → Bool) (C : List Int) (i : Nat) (h : i < C.length) : outN t C (i + 1) = outN t C i + (if t (iAt C i) = true then 1 else 0) := by
  unfold outN
  rw [List.take_succ_eq_append_getElem h, List.countP_append, List.countP_singleton]
  have : C[i] = iAt C i := by unfold iAt; rw [List.getD_eq_getElem?_getD, List.getElem?_eq_getElem h]; rfl
  rw [this]
theorem outN_le (t : Int → Bool) (C : List Int) (i : Nat) : outN t C i ≤ i := by
  unfold outN
  exact Nat.le_trans List.countP_le_length (by rw [List.length_take]; omega)
def wayR (l o : Nat) : Int := if l = 0 ∨ (0 < o ∧ o < l) then 0 else if 0 < o then 1 else -1
theorem way_eq (o i : Nat) : wayR (o + i) o = wayN o i := by
  unfold wayR wayN
  by_cases h1 : 0 < o <;> by_cases h2 : 0 < i <;> simp [h1, h2] <;> omega
def tailS (P : List (Int × Int)) (O : List Bool) (S : List Int) (e : Int) : Bool := S.contains (arcP P O e.toNat).1
theorem cut_cnt (P : List (Int × Int)) (O : List Bool) (S : List Int) (m : Nat) (hm : m ≤ P.length) :
    (cutI (fun e => outB S (pAt P e)) m).length = cntB (outB2 S) (arcs P O) m + cntB (intB2 S) (arcs P O) m ∧ (cutI (fun e => outB S (pAt P e)) m).countP (tailS P O S) = cntB (outB2 S) (arcs P O) m := by
  induction m with
  | zero => exact ⟨rfl, rfl⟩
  | succ m ih =>
    obtain ⟨h1, h2⟩ := ih (by omega)
    have ha : pAt (arcs P O) m = arcP P O m := arcs_at _ _ _ (by omega)
    unfold cutI cntB
    rw [List.length_append, List.countP_append, h1, h2, ha]
    have ht : tailS P O S (m : Int) = S.contains (arcP P O m).1 := by unfold tailS; rw [Int.toNat_natCast]
    have hb : outB S (pAt P m) = (S.contains (arcP P O m).1 != S.contains (arcP P O m).2) := by
      unfold outB arcP
      split
      · rfl
      · simp only; cases S.contains (pAt P m).1 <;> cases S.contains (pAt P m).2 <;> rfl
    have ho : outB2 S (arcP P O m) = (S.contains (arcP P O m).1 && !S.contains (arcP P O m).2) := rfl
    have hi : intB2 S (arcP P O m) = (S.contains (arcP P O m).2 && !S.contains (arcP P O m).1) := rfl
    rw [hb, ho, hi]
    generalize cntB (outB2 S) (arcs P O) m = A
    generalize cntB (intB2 S) (arcs P O) m = B
    generalize S.contains (arcP P O m).1 = x at *
    generalize S.contains (arcP P O m).2 = y at *
    cases x <;> cases y <;> simp [ht] <;> omega
theorem way_dir (n : Int) (L : List E) (O : List Bool) (S : List Int) : wayR (cutG L S).length (outN (tailS (endsG L) O S) (cutG L S) (cutG L S).length) = dirV n L O S := by
  unfold dirV outN cutG
  rw [List.take_length]
  obtain ⟨h1, h2⟩ := cut_cnt (endsG L) O S (endsG L).length (Nat.le_refl _)
  rw [h1, h2, arcs_len, way_eq]
set_option maxHeartbeats 12800000 in
set_option maxRecDepth 100000 in
theorem rway_any (n : Int) (a : Option Addr) (cap : Nat) (L : List E) (hL : L.length ≤ 100000) (b : Option Addr) (c : Nat) (O : List Bool) (s : Option Addr) (d : Nat) (S : List Int) (hS : S.length ≤ 100000) (hk : chkO n L O = 0) (w : World) (h : EsAt w a L) (ho : BsAt w b O) (hs : IsAt w s S) :
    Calls Try.prog 78 #[gv n a L.length cap, .slice b O.length c, .slice s S.length d] w (GivesN w (dirV n L O S)) := by
  have hR := right_of (chkO_zero hk).1
  have HCU := Lib.hid (fun w h hs => rcut_any n a cap L hL hR s d S hS w h hs)
  have HEN := Lib.hid (fun w h => rends_any n a cap L hL hR w h)
  have HTL := Lib.hid (fun p q x w => rtail_any p q x w)
  have HHO := Lib.hid (fun v w h => holds_any s d S hS v w h)
  have hln := ends_all hR
  have HOL : Hid (O.length = (endsG L).length) := Lib.hid (chkO_len hk).symm
  have hcl : (cutG L S).length ≤ (endsG L).length := cutI_le _ _
  have HWD := Lib.hid (way_dir n L O S)
  have HCA : Hid (∀ j, j < (cutG L S).length → ∃ e : Nat, iAt (cutG L S) j = e ∧ e < (endsG L).length) := Lib.hid (fun j hj => cut_at _ _ j hj)
  have HTS : Hid (∀ e : Nat, tailS (endsG L) O S (e : Int) = S.contains (hdV (pAt (endsG L) e).1 (pAt (endsG L) e).2 (!bAt O e))) := Lib.hid (fun e => by unfold tailS; rw [Int.toNat_natCast, tlV_arc])
  have HNS := Lib.hid (fun i hi => outN_succ (tailS (endsG L) O S) (cutG L S) i hi)
  have HN0 : Hid (outN (tailS (endsG L) O S) (cutG L S) 0 = 0) := Lib.hid rfl
  have HNL := Lib.hid (fun i => outN_le (tailS (endsG L) O S) (cutG L S) i)
  unfold GivesN at *
  unfold GivesI GivesP at *
  unfold gv at *
  generalize tailS (endsG L) O S = TS at *
  generalize cutG L S = C at *
  generalize endsG L = P at *
  generalize outN TS C = ON at *
  generalize dirV n L O S = R at *
  obtain ⟨W, hW⟩ : ∃ W, W = w.alloc (Obj.cells #[.int .i64 n, .slice a L.length cap] 24) := ⟨_, rfl⟩
  have hb0 : Below w.heap.size w W := by rw [hW]; exact (Below.refl _ _).alloc (Nat.le_refl _) _
  have hg : Blk W w.heap.size 24 #[.int .i64 n, .slice a L.length cap] := by rw [hW]; exact Blk.new _ _ _
  have HB0 := Lib.hid hb0
  have HE := Lib.hid (h.keep hb0)
  have HO := Lib.hid (ho.keep hb0)
  have HS := Lib.hid (hs.keep hb0)
  have HG := Lib.hid hg
  have HW := Lib.hid hW
  have g0 : (w.alloc (Obj.cells #[.int .i64 n, .slice a L.length cap] 24)).cell? ⟨w.heap.size, 0, none⟩ = some (.int .i64 n) := by rw [← hW]; exact hg.cell 0
  have g1 : (w.alloc (Obj.cells #[.int .i64 n, .slice a L.length cap] 24)).cell? ⟨w.heap.size, 1, none⟩ = some (.slice a L.length cap) := by rw [← hW]; exact hg.cell 1
  clear hb0 hg hW h ho hs hk hR
  go_enter Try.func78, Try.ntmps78
  go_wp2_with fail
  rw [← HW.out]
  refine (HCU.out W HE.out HS.out).mono ?_
  rintro e x1 ⟨c1, cc, rfl, hc, hb⟩
  have HB1 := Lib.hid hb
  have HC1 := Lib.hid hc
  clear g0 g1 hc hb
  have g0 : x1.cell? ⟨w.heap.size, 0, none⟩ = some (.int .i64 n) := (HG.out.below HB1.out HG.out.lt).cell 0
  have g1 : x1.cell? ⟨w.heap.size, 1, none⟩ = some (.slice a L.length cap) := (HG.out.below HB1.out HG.out.lt).cell 1
  go_wp2_with fail
  refine (HEN.out x1 (HE.out.keep HB1.out)).mono ?_
  rintro e x2 ⟨p1, pc, rfl, hp, hb⟩
  have HP := Lib.hid hp
  have HC := Lib.hid (HC1.out.keep hb)
  have HB2 := Lib.hid (HB1.out.trans (hb.mono HB1.out.size))
  clear g0 g1 hp hb
  go_wp2
  go_loopw [9, 10] (fun x y wr => ∃ i : Nat, i ≤ C.length ∧ x = .int .i64 (ON i) ∧ y = .int .i64 i ∧ Below x2.heap.size x2 wr) (fun _ y _ => C.length - (intOf y).toNat)
  case atStart => exact ⟨0, by omega, by rw [HN0.out]; rfl, rfl, Below.refl _ _⟩
  case round =>
    obtain ⟨i, hi, rfl, rfl, hb⟩ := hrel
    by_cases hlt : i < C.length
    · have i1 : (i : Int) < (C.length : Int) := by omega
      have i2 : (0 : Int) ≤ (i : Int) := by omega
      obtain ⟨e, hce, hel⟩ := HCA.out i hlt
      have e1 : (e : Int) < (P.length : Int) := by omega
      have e2 : (0 : Int) ≤ (e : Int) := by omega
      have heo : e < O.length := by rw [HOL.out]; exact hel
      have e3 : (e : Int) < (O.length : Int) := by omega
      obtain ⟨b1, o1, hb1, q1, y1⟩ := (HC.out.keep hb).one i hlt
      obtain ⟨b2, o2, hb2, q2, y2, y3⟩ := (HP.out.keep hb).two e hel
      obtain ⟨b3, o3, hb3, q3, y4⟩ := ((HO.out.keep HB2.out).keep hb).bit e heo
      rw [hce] at y1
      subst hb1 hb2 hb3
      have HXY : Hid (∀ u, Below wr.heap.size wr u → u.cell? ⟨b1, o1 + i, none⟩ = some (.int .i64 e) ∧ u.cell? ⟨b2, o2 + e * 2, none⟩ = some (.int .i64 (pAt P e).1) ∧ u.cell? ⟨b2, o2 + e * 2 + 1, none⟩ = some (.int .i64 (pAt P e).2) ∧ u.cell? ⟨b3, o3 + e, none⟩ = some (.bool (bAt O e))) :=
        Lib.hid fun u hu => ⟨(hu.cell (p := ⟨b1, o1 + i, none⟩) q1).trans y1, (hu.cell (p := ⟨b2, o2 + e * 2, none⟩) q2).trans y2, (hu.cell (p := ⟨b2, o2 + e * 2 + 1, none⟩) q2).trans y3, (hu.cell (p := ⟨b3, o3 + e, none⟩) q3).trans y4⟩
      have HSW := Lib.hid ((HS.out.keep HB2.out).keep hb)
      have HBr := Lib.hid hb
      have HN := Lib.hid (HNS.out i hlt)
      have HTe := Lib.hid (HTS.out e)
      rw [hce] at HN
      have HNI := Lib.hid (HNL.out i)
      clear hb y1 y2 y3 y4 hce
      generalize (pAt P e).1 = pa at *
      generalize (pAt P e).2 = pb at *
      generalize bAt O e = bo at *
      go_wp2
      have hj0 : Below wr.heap.size wr wr.drew := (Below.refl _ _).drew
      refine wp_region_late (S := fun u => Below wr.heap.size wr u) (X := []) (by kernel_rfl) ?_
      refine wpAnyL_pureD (i := 0) 22 (.slice s S.length d) rfl rfl (by kernel_rfl) (by kernel_rfl) (by kernel_rfl) (fun _ _ _ h => h) (Or.inl ⟨by rfl, fun u _ => ?_⟩) ?_
      · go_simp
      try simp only [Act.put, List.setIfInBounds_toArray, List.set_cons_zero, List.set_cons_succ]
      refine wpAnyL_pureD (i := 1) 23 (.slice (some ⟨b2, o2, none⟩) P.length pc) rfl rfl (by kernel_rfl) (by kernel_rfl) (by kernel_rfl) (fun _ _ _ h => h) (Or.inl ⟨by rfl, fun u _ => ?_⟩) ?_
      · go_simp
      try simp only [Act.put, List.setIfInBounds_toArray, List.set_cons_zero, List.set_cons_succ]
      refine wpAnyL_pureD (i := 2) 24 (.slice (some ⟨b1, o1, none⟩) C.length cc) rfl rfl (by kernel_rfl) (by kernel_rfl) (by kernel_rfl) (fun _ _ _ h => h) (Or.inl ⟨by rfl, fun u _ => ?_⟩) ?_
      · go_simp
      try simp only [Act.put, List.setIfInBounds_toArray, List.set_cons_zero, List.set_cons_succ]
      refine wpAnyL_pureD (i := 3) 25 (.int .i64 i) rfl rfl (by kernel_rfl) (by kernel_rfl) (by kernel_rfl) (fun _ _ _ h => h) (Or.inl ⟨by rfl, fun u _ => ?_⟩) ?_
      · go_simp
      try simp only [Act.put, List.setIfInBounds_toArray, List.set_cons_zero, List.set_cons_succ]
      refine wpAnyL_pureD (i := 4) 26 (.pointer (some ⟨b1, o1 + i, none⟩)) rfl rfl (by kernel_rfl) (by kernel_rfl) (by kernel_rfl) (fun _ _ _ h => h) (Or.inl ⟨by rfl, fun u _ => ?_⟩) ?_
      · go_simp
      try simp only [Act.put, List.setIfInBounds_toArray, List.set_cons_zero, List.set_cons_succ]
      refine wpAnyL_takeD (i := 5) 27 (.int .i64 e) rfl rfl (by kernel_rfl) (by kernel_rfl) (by kernel_rfl) (by kernel_rfl) (by kernel_rfl) (fun _ _ _ h => h) hj0 (Or.inl ⟨by rfl, fun u hu => ?_⟩) ?_
      · obtain ⟨t0, t1, t2, t3⟩ := HXY.out u hu
        go_simp
      try simp only [Act.put, List.setIfInBounds_toArray, List.set_cons_zero, List.set_cons_succ]
      refine wpAnyL_pureD (i := 6) 28 (.pointer (some ⟨b2, o2 + e * 2, none⟩)) rfl rfl (by kernel_rfl) (by kernel_rfl) (by kernel_rfl) (fun _ _ _ h => h) (Or.inl ⟨by rfl, fun u _ => ?_⟩) ?_
      · go_simp
      try simp only [Act.put, List.setIfInBounds_toArray, List.set_cons_zero, List.set_cons_succ]
      refine wpAnyL_takeD (i := 7) 29 (.agg #[.int .i64 pa, .int .i64 pb]) rfl rfl (by kernel_rfl) (by kernel_rfl) (by kernel_rfl) (by kernel_rfl) (by kernel_rfl) (fun _ _ _ h => h) hj0 (Or.inl ⟨by rfl, fun u hu => ?_⟩) ?_
      · obtain ⟨t0, t1, t2, t3⟩ := HXY.out u hu
        go_simp
      try simp only [Act.put, List.setIfInBounds_toArray, List.set_cons_zero, List.set_cons_succ]
      refine wpAnyL_pureD (i := 8) 30 (.slice (some ⟨b3, o3, none⟩) O.length c) rfl rfl (by kernel_rfl) (by kernel_rfl) (by kernel_rfl) (fun _ _ _ h => h) (Or.inl ⟨by rfl, fun u _ => ?_⟩) ?_
      · go_simp
      try simp only [Act.put, List.setIfInBounds_toArray, List.set_cons_zero, List.set_cons_succ]
      refine wpAnyL_pureD (i := 9) 31 (.slice (some ⟨b1, o1, none⟩) C.length cc) rfl rfl (by kernel_rfl) (by kernel_rfl) (by kernel_rfl) (fun _ _ _ h => h) (Or.inl ⟨by rfl, fun u _ => ?_⟩) ?_
      · go_simp
      try simp only [Act.put, List.setIfInBounds_toArray, List.set_cons_zero, List.set_cons_succ]
      refine wpAnyL_pureD (i := 10) 32 (.int .i64 i) rfl rfl (by kernel_rfl) (by kernel_rfl) (by kernel_rfl) (fun _ _ _ h => h) (Or.inl ⟨by rfl, fun u _ => ?_⟩) ?_
      · go_simp
      try simp only [Act.put, List.setIfInBounds_toArray, List.set_cons_zero, List.set_cons_succ]
      refine wpAnyL_pureD (i := 11) 33 (.pointer (some ⟨b1, o1 + i, none⟩)) rfl rfl (by kernel_rfl) (by kernel_rfl) (by kernel_rfl) (fun _ _ _ h => h) (Or.inl ⟨by rfl, fun u _ => ?_⟩) ?_
      · go_simp
      try simp only [Act.put, List.setIfInBounds_toArray, List.set_cons_zero, List.set_cons_succ]
      refine wpAnyL_takeD (i := 12) 34 (.int .i64 e) rfl rfl (by kernel_rfl) (by kernel_rfl) (by kernel_rfl) (by kernel_rfl) (by kernel_rfl) (fun _ _ _ h => h) hj0 (Or.inl ⟨by rfl, fun u hu => ?_⟩) ?_
      · obtain ⟨t0, t1, t2, t3⟩ := HXY.out u hu
        go_simp
      try simp only [Act.put, List.setIfInBounds_toArray, List.set_cons_zero, List.set_cons_succ]
      refine wpAnyL_pureD (i := 13) 35 (.pointer (some ⟨b3, o3 + e, none⟩)) rfl rfl (by kernel_rfl) (by kernel_rfl) (by kernel_rfl) (fun _ _ _ h => h) (Or.inl ⟨by rfl, fun u _ => ?_⟩) ?_
      · go_simp
      try simp only [Act.put, List.setIfInBounds_toArray, List.set_cons_zero, List.set_cons_succ]
      refine wpAnyL_takeD (i := 14) 36 (.bool bo) rfl rfl (by kernel_rfl) (by kernel_rfl) (by kernel_rfl) (by kernel_rfl) (by kernel_rfl) (fun _ _ _ h => h) hj0 (Or.inl ⟨by rfl, fun u hu => ?_⟩) ?_
      · obtain ⟨t0, t1, t2, t3⟩ := HXY.out u hu
        go_simp
      try simp only [Act.put, List.setIfInBounds_toArray, List.set_cons_zero, List.set_cons_succ]
      refine wpAnyL_one (i := 15) (by kernel_rfl) rfl (fun K hK => ?_)
      go_simp
      go_at_call 104
      refine (HTL.out pa pb bo _).mono ?_
      rintro e9 y ⟨rfl, hb⟩
      have hj1 : Below wr.heap.size wr y := hj0.trans (hb.mono hj0.size)
      show K _ _
      refine hK.out _ _ (fun _ _ => hj1) ?_
      clear hK K
      try simp only [Act.put, List.setIfInBounds_toArray, List.set_cons_zero, List.set_cons_succ]
      refine wpAnyL_one (i := 16) (by kernel_rfl) rfl (fun K hK => ?_)
      go_simp
      go_at_call 80
      refine (HHO.out (hdV pa pb (!bo)) _ (HSW.out.keep hj1)).mono ?_
      rintro e9 y9 ⟨rfl, rfl⟩
      show K _ _
      refine hK.out _ _ (fun _ _ => hj1) ?_
      clear hK K
      try simp only [Act.put, List.setIfInBounds_toArray, List.set_cons_zero, List.set_cons_succ]
      refine wpAnyL_done (by kernel_rfl) ?_ _
      try simp only [Act.put, List.setIfInBounds_toArray, List.set_cons_zero, List.set_cons_succ]
      have HBN := Lib.hid (HBr.out.trans (hj1.mono HBr.out.size))
      clear hj0 hj1 hb
      rw [← HTe.out]
      have hni := HNI.out
      cases hq : TS (e : Int) with
      | true =>
        have HX : Hid (ON (i + 1) = ON i + 1) := Lib.hid (by rw [HN.out, hq]; rfl)
        go_wp2
        go_roundw
        case rel => exact ⟨i + 1, by omega, by rw [HX.out]; go_num, by go_num, HBN.out⟩
        case measure => simp [intOf]; omega
      | false =>
        have HX : Hid (ON (i + 1) = ON i) := Lib.hid (by rw [HN.out, hq]; rfl)
        go_wp2
        go_roundw
        case rel => exact ⟨i + 1, by omega, by rw [HX.out], by go_num, HBN.out⟩
        case measure => simp [intOf]; omega
    · obtain rfl : i = C.length := by omega
      have i1 : ¬ (C.length : Int) < (C.length : Int) := by omega
      have HEND := Lib.hid (HB0.out.trans ((HB2.out.trans (hb.mono HB2.out.size)).mono HB0.out.size))
      have hni := HNL.out C.length
      have hwd := HWD.out
      unfold wayR at hwd
      clear hb
      generalize ON C.length = o at *
      by_cases hc0 : C.length = 0
      · have k1 : ((C.length : Int) == 0) = true := by rw [hc0]; rfl
        rw [if_pos (.inl hc0)] at hwd
        have HR := Lib.hid hwd
        clear hwd
        go_wp2
        go_ret
        exact ⟨by rw [← HR.out]; rfl, HEND.out⟩
      · have k1 : ((C.length : Int) == 0) = false := by rw [beq_eq_false_iff_ne]; omega
        by_cases ho0 : 0 < o
        · have k2 : (0 : Int) < (o : Int) := by omega
          by_cases hoc : o < C.length
          · have k3 : (o : Int) < (C.length : Int) := by omega
            rw [if_pos (.inr ⟨ho0, hoc⟩)] at hwd
            have HR := Lib.hid hwd
            clear hwd
            go_wp2
            go_ret
            exact ⟨by rw [← HR.out]; rfl, HEND.out⟩
          · have k3 : ¬ (o : Int) < (C.length : Int) := by omega
            rw [if_neg (by omega), if_pos ho0] at hwd
            have HR := Lib.hid hwd
            clear hwd
            go_wp2
            go_ret
            exact ⟨by rw [← HR.out]; rfl, HEND.out⟩
        · have k2 : ¬ (0 : Int) < (o : Int) := by omega
          rw [if_neg (by omega), if_neg ho0] at hwd
          have HR := Lib.hid hwd
          clear hwd
          go_wp2
          go_ret
          exact ⟨by rw [← HR.out]; rfl, HEND.out⟩
set_option maxHeartbeats 12800000 in
set_option maxRecDepth 100000 in
theorem rdirected_any (n : Int) (a : Option Addr) (cap : Nat) (L : List E) (hL : L.length ≤ 100000) (b : Option Addr) (c : Nat) (O : List Bool) (hO : O.length ≤ 100000000) (s : Option Addr) (d : Nat) (S : List Int) (hS : S.length ≤ 100000) (w : World) (h : EsAt w a L) (ho : BsAt w b O) (hs : IsAt w s S) :
    Calls Try.prog 38 #[gv n a L.length cap, .slice b O.length c, .slice s S.length d] w (GivesNE w (okZ (dirE n L O S) (dirV n L O S)) (dirE n L O S)) := by
  have HCH := Lib.hid (fun w h ho => rcheckO_any n a cap L hL b c O hO w h ho)
  have HSU := Lib.hid (fun w h hs => rsubset_any n a cap L s d S hS w h hs)
  have HWY := Lib.hid (fun hk w h ho hs => rway_any n a cap L hL b c O s d S hS hk w h ho hs)
  have hde : dirE n L O S = if chkO n L O ≠ 0 then chkO n L O else subE n S := rfl
  unfold GivesNE
  unfold GivesN at *
  unfold gv at *
  obtain ⟨W, hW⟩ : ∃ W, W = w.alloc (Obj.cells #[.int .i64 n, .slice a L.length cap] 24) := ⟨_, rfl⟩
  have hb0 : Below w.heap.size w W := by rw [hW]; exact (Below.refl _ _).alloc (Nat.le_refl _) _
  have hg : Blk W w.heap.size 24 #[.int .i64 n, .slice a L.length cap] := by rw [hW]; exact Blk.new _ _ _
  have HB0 := Lib.hid hb0
  have HE := Lib.hid (h.keep hb0)
  have HO := Lib.hid (ho.keep hb0)
  have HS := Lib.hid (hs.keep hb0)
  have HG := Lib.hid hg
  have HW := Lib.hid hW
  have g0 : (w.alloc (Obj.cells #[.int .i64 n, .slice a L.length cap] 24)).cell? ⟨w.heap.size, 0, none⟩ = some (.int .i64 n) := by rw [← hW]; exact hg.cell 0
  have g1 : (w.alloc (Obj.cells #[.int .i64 n, .slice a L.length cap] 24)).cell? ⟨w.heap.size, 1, none⟩ = some (.slice a L.length cap) := by rw [← hW]; exact hg.cell 1
  clear hb0 hg hW h ho hs
  by_cases hk : chkO n L O = 0
  · rw [if_neg (by omega)] at hde
    by_cases hu : subE n S = 0
    · have HDE := Lib.hid (hde.trans hu)
      have HWk := Lib.hid (HWY.out hk)
      rw [hk] at HCH
      rw [hu] at HSU
      clear hde hk hu HWY
      rw [HDE.out, okZ_pos _ rfl]
      go_enter Try.func38, Try.ntmps38
      go_wp2_with fail
      rw [← HW.out]
      refine (HCH.out W HE.out HO.out).mono ?_
      rintro e x1 ⟨rfl, hb⟩
      have HB1 := Lib.hid hb
      clear g0 g1 hb
      have g0 : x1.cell? ⟨w.heap.size, 0, none⟩ = some (.int .i64 n) := (HG.out.below HB1.out HG.out.lt).cell 0
      have g1 : x1.cell? ⟨w.heap.size, 1, none⟩ = some (.slice a L.length cap) := (HG.out.below HB1.out HG.out.lt).cell 1
      go_wp2_with fail
      refine (HSU.out x1 (HE.out.keep HB1.out) (HS.out.keep HB1.out)).mono ?_
      rintro e x2 ⟨rfl, hb⟩
      have HB2 := Lib.hid (HB1.out.trans (hb.mono HB1.out.size))
      clear g0 g1 hb
      have g0 : x2.cell? ⟨w.heap.size, 0, none⟩ = some (.int .i64 n) := (HG.out.below HB2.out HG.out.lt).cell 0
      have g1 : x2.cell? ⟨w.heap.size, 1, none⟩ = some (.slice a L.length cap) := (HG.out.below HB2.out HG.out.lt).cell 1
      go_wp2_with fail
      refine (HWk.out x2 (HE.out.keep HB2.out) (HO.out.keep HB2.out) (HS.out.keep HB2.out)).mono ?_
      rintro e x3 ⟨rfl, hb⟩
      have HEND := Lib.hid (HB0.out.trans ((HB2.out.trans (hb.mono HB2.out.size)).mono HB0.out.size))
      clear g0 g1 hb
      go_wp2
      go_ret2
      exact ⟨rfl, HEND.out⟩
    · have HDE := Lib.hid hde
      rw [hk] at HCH
      have k1 : (((subE n S : Nat) : Int) != 0) = true := by simp; omega
      have HU := Lib.hid hu
      clear hde hk HWY
      rw [HDE.out, okZ_neg _ HU.out]
      generalize subE n S = k at *
      clear HDE hu HU
      go_enter Try.func38, Try.ntmps38
      go_wp2_with fail
      rw [← HW.out]
      refine (HCH.out W HE.out HO.out).mono ?_
      rintro e x1 ⟨rfl, hb⟩
      have HB1 := Lib.hid hb
      clear g0 g1 hb
      have g0 : x1.cell? ⟨w.heap.size, 0, none⟩ = some (.int .i64 n) := (HG.out.below HB1.out HG.out.lt).cell 0
      have g1 : x1.cell? ⟨w.heap.size, 1, none⟩ = some (.slice a L.length cap) := (HG.out.below HB1.out HG.out.lt).cell 1
      go_wp2_with fail
      refine (HSU.out x1 (HE.out.keep HB1.out) (HS.out.keep HB1.out)).mono ?_
      rintro e x2 ⟨rfl, hb⟩
      have HB2 := Lib.hid (HB1.out.trans (hb.mono HB1.out.size))
      clear g0 g1 hb
      have HEND := Lib.hid (HB0.out.trans (HB2.out.mono HB0.out.size))
      go_wp2
      go_ret2
      exact ⟨rfl, HEND.out⟩
  · rw [if_pos hk] at hde
    have HDE := Lib.hid hde
    have k1 : (((chkO n L O : Nat) : Int) != 0) = true := by simp; omega
    have HK := Lib.hid hk
    clear hde HWY HSU
    rw [HDE.out, okZ_neg _ HK.out]
    generalize chkO n L O = k at *
    clear HDE hk HK
    go_enter Try.func38, Try.ntmps38
    go_wp2_with fail
    rw [← HW.out]
    refine (HCH.out W HE.out HO.out).mono ?_
    rintro e x1 ⟨rfl, hb⟩
    have HB1 := Lib.hid hb
    clear g0 g1 hb
    have HEND := Lib.hid (HB0.out.trans (HB1.out.mono HB0.out.size))
    go_wp2
    go_ret2
    exact ⟨rfl, HEND.out⟩
end Go.Proofs.Ytlnaahkheankoaa

namespace Go.Proofs.Ytlnaahkheankoaa
open Go.RowKit Go.Shelf Go.Proofs.Gr

/-- The first numbers. -/
def upto (m : Nat) : List Int := (List.range m).map fun k : Nat => (k : Int)
theorem upto_len (m : Nat) : (upto m).length = m := by simp [upto]
theorem upto_at (m i : Nat) (h : i < m) : iAt (upto m) i = i := by
  unfold iAt upto
  rw [List.getD_eq_getElem?_getD, List.getElem?_map, List.getElem?_range h]; rfl
theorem upto_succ (m : Nat) : upto (m + 1) = upto m ++ [(m : Int)] := by
  unfold upto; rw [List.range_succ, List.map_append]; rfl
theorem bAt_set (l : List Bool) (i j : Nat) (v : Bool) (h : i < l.length) : bAt (l.set i v) j = if i = j then v else bAt l j := by
  unfold bAt
  rw [List.getD_eq_getElem?_getD, List.getElem?_set]
  by_cases e : i = j
  · rw [if_pos e, if_pos e, if_pos h]; rfl
  · rw [if_neg e, if_neg e, List.getD_eq_getElem?_getD]
/-- All that come are turned. -/
theorem rev_at (O : List Bool) (k : Nat) (hk : k ≤ O.length) (j : Nat) : bAt (revL O (upto O.length) k) j = if j < k then !bAt O j else bAt O j := by
  induction k with
  | zero => rw [if_neg (by omega)]; rfl
  | succ k ih =>
    have h1 := ih (by omega)
    have h2 := upto_at O.length k (by omega)
    rw [revL, h2, Int.toNat_natCast, bAt_set _ _ _ _ (by rw [revL_len]; omega)]
    by_cases e : k = j
    · subst e
      rw [if_pos rfl, if_pos (by omega), h1, if_neg (by omega)]
    · rw [if_neg e, h1]
      by_cases h3 : j < k
      · rw [if_pos h3, if_pos (by omega)]
      · rw [if_neg h3, if_neg (by omega)]
theorem list_bAt {l m : List Bool} (h : l.length = m.length) (hb : ∀ j, j < l.length → bAt l j = bAt m j) : l = m := by
  refine List.ext_getElem h fun j h1 h2 => ?_
  rw [bAt_get l j h1, bAt_get m j h2]
  exact hb j h1
theorem rev_all (O : List Bool) : revL O (upto O.length) (upto O.length).length = O.map (!·) := by
  rw [upto_len]
  refine list_bAt (by rw [revL_len, List.length_map]) fun j hj => ?_
  rw [revL_len] at hj
  rw [rev_at O _ (Nat.le_refl _), if_pos hj]
  unfold bAt
  rw [List.getD_eq_getElem?_getD, List.getD_eq_getElem?_getD, List.getElem?_map, List.getElem?_eq_getElem hj]; rfl
theorem rev_twice (O : List Bool) : revL (O.map (!·)) (upto O.length) (upto O.length).length = O := by
  have h := rev_all (O.map (!·))
  rw [List.length_map] at h
  rw [h, List.map_map]
  have : ((!·) ∘ (!·) : Bool → Bool) = id := by funext x; cases x <;> rfl
  rw [this, List.map_id]
theorem rev_err {n : Int} {L : List E} {O O2 : List Bool} (h : chkO n L O = 0) (hl : O2.length = O.length) : revE n L O2 (upto O.length) = 0 := by
  have h2 : chkO n L O2 = chkO n L O := by unfold chkO; rw [hl]
  unfold revE
  rw [h2, h, if_neg (fun h => h rfl)]
  refine firstE_zero fun j hj => ?_
  rw [upto_len] at hj
  unfold nErr
  rw [upto_at _ _ hj, if_neg (by omega), if_neg]
  intro hc
  rw [List.contains_iff_mem] at hc
  obtain ⟨i, hi, e⟩ := List.mem_iff_getElem.1 hc
  rw [List.length_take] at hi
  rw [List.getElem_take, iAt_get _ _ (by omega), upto_at _ _ (by rw [upto_len] at hi; omega)] at e
  omega
/-- An arc and its turned one end at the two ends of the edge. -/
theorem heads_both (P : List (Int × Int)) (O : List Bool) (hl : O.length = P.length) (v : Int) (k : Nat) (hk : k ≤ P.length) :
    hdN (arcs P O) v k + hdN (arcs P (O.map (!·))) v k = ((P.take k).countP fun p => p.1 == v) + ((P.take k).countP fun p => p.2 == v) := by
  induction k with
  | zero => rfl
  | succ k ih =>
    have h1 := ih (by omega)
    have e1 : pAt (arcs P O) k = arcP P O k := arcs_at _ _ _ (by omega)
    have e2 : pAt (arcs P (O.map (!·))) k = arcP P (O.map (!·)) k := arcs_at _ _ _ (by omega)
    have e3 : bAt (O.map (!·)) k = !bAt O k := by
      unfold bAt
      rw [List.getD_eq_getElem?_getD, List.getD_eq_getElem?_getD, List.getElem?_map, List.getElem?_eq_getElem (by omega)]; rfl
    unfold hdN
    rw [e1, e2, List.take_succ_eq_append_getElem (by omega), List.countP_append, List.countP_append, List.countP_singleton, List.countP_singleton, pAt_get P k (by omega)]
    have e4 : (arcP P O k).2 = if bAt O k = true then (pAt P k).2 else (pAt P k).1 := by unfold arcP; split <;> rfl
    have e5 : (arcP P (O.map (!·)) k).2 = if bAt O k = true then (pAt P k).1 else (pAt P k).2 := by unfold arcP; rw [e3]; cases bAt O k <;> rfl
    rw [e4, e5]
    cases bAt O k <;> simp only [beq_iff_eq, if_true, Bool.false_eq_true, if_false] <;> omega
/-- The degree of a vertex, by ends. -/
def degP : List (Int × Int) → Int → Int
  | [], _ => 0
  | p :: r, v => (if p.1 = v then 1 else 0) + (if p.2 = v then 1 else 0) + degP r v
theorem degP_append (A B : List (Int × Int)) (v : Int) : degP (A ++ B) v = degP A v + degP B v := by
  induction A with
  | nil => simp [degP]
  | cons p r ih => rw [List.cons_append, degP, degP, ih]; omega
theorem degP_ends {n : Int} {L : List E} (h : ∀ e ∈ L, 0 ≤ e.a ∧ e.a ≤ e.b ∧ e.b < n ∧ 1 ≤ e.m ∧ e.m ≤ 50) (v : Int) : degP (endsG L) v = sumL (othE v) L + 2 * sumL (loopE v) L := by
  induction L with
  | nil => rfl
  | cons e r ih =>
    have h1 := ih (fun x hx => h x (by simp [hx]))
    have h2 := h e (by simp)
    have e1 : endsG (e :: r) = List.replicate e.m.toNat (e.a, e.b) ++ endsG r := by unfold endsG; rw [List.flatMap_cons]
    have e2 : ∀ k : Nat, degP (List.replicate k (e.a, e.b)) v = ((if e.a = v then 1 else 0) + (if e.b = v then 1 else 0)) * (k : Int) := by
      intro k
      induction k with
      | zero => simp [degP]
      | succ k ik => rw [List.replicate_succ, degP, ik, Int.natCast_succ, Int.mul_add]; simp only; omega
    rw [e1, degP_append, h1, e2, sumL, sumL, Int.toNat_of_nonneg (by omega)]
    unfold othE loopE
    by_cases ha : e.a = v <;> by_cases hb : e.b = v <;> simp [ha, hb] <;> omega
theorem deg_cnt (P : List (Int × Int)) (v : Int) : degP P v = (((P.countP fun p => p.1 == v) + (P.countP fun p => p.2 == v) : Nat) : Int) := by
  induction P with
  | nil => rfl
  | cons p r ih =>
    rw [degP, ih, List.countP_cons, List.countP_cons]
    by_cases h1 : p.1 = v <;> by_cases h2 : p.2 = v <;> simp [h1, h2] <;> omega
theorem deg_ref {N : Nat} {L : List E} (hR : Right N L) (v : Int) : valZ v L N + 2 * betw v v L = degP (endsG L) v := by
  rw [degP_ends hR.rng, valZ_oth v L hR.rng]
  unfold betw
  rw [Int.min_self, Int.max_self, bet_loop]
/-- Sums of a list's first ones. -/
def sumN (f : Nat → Int) : Nat → Int
  | 0 => 0
  | k + 1 => sumN f k + f k
theorem sumN_add (f g : Nat → Int) (n : Nat) : sumN (fun v => f v + g v) n = sumN f n + sumN g n := by
  induction n with
  | zero => rfl
  | succ n ih => rw [sumN, sumN, sumN, ih]; omega
theorem sumN_congr {f g : Nat → Int} {n : Nat} (h : ∀ v, v < n → f v = g v) : sumN f n = sumN g n := by
  induction n with
  | zero => rfl
  | succ n ih => rw [sumN, sumN, ih (fun v hv => h v (by omega)), h n (by omega)]
theorem sumN_one (x : Int) (n : Nat) : sumN (fun v => if x = (v : Int) then 1 else 0) n = if 0 ≤ x ∧ x < n then 1 else 0 := by
  induction n with
  | zero => rw [sumN, if_neg (by omega)]
  | succ n ih =>
    rw [sumN, ih]
    by_cases h1 : 0 ≤ x ∧ x < (n : Int)
    · rw [if_pos h1, if_neg (by omega), if_pos (by omega)]; rfl
    · rw [if_neg h1]
      by_cases h2 : x = (n : Int)
      · rw [if_pos h2, if_pos (by omega)]; rfl
      · rw [if_neg h2, if_neg (by omega)]; rfl
theorem sum_heads (A : List (Int × Int)) (N k : Nat) (hr : ∀ j, j < k → 0 ≤ (pAt A j).2 ∧ (pAt A j).2 < N) : sumN (fun v => (hdN A (v : Int) k : Int)) N = k := by
  induction k with
  | zero =>
    have : ∀ n, sumN (fun v => (hdN A (v : Int) 0 : Int)) n = 0 := by
      intro n
      induction n with
      | zero => rfl
      | succ n ih => rw [sumN, ih]; rfl
    exact this N
  | succ k ih =>
    have h1 := ih (fun j hj => hr j (by omega))
    have h2 := hr k (by omega)
    have h3 : sumN (fun v => (hdN A (v : Int) (k + 1) : Int)) N = sumN (fun v => (hdN A (v : Int) k : Int) + (if (pAt A k).2 = (v : Int) then 1 else 0)) N :=
      sumN_congr fun v _ => by rw [hdN]; split <;> simp
    rw [h3, sumN_add, h1, sumN_one, if_pos h2]
    omega
theorem sum_in {n : Int} {L : List E} {O : List Bool} (h : chkO n L O = 0) : sumN (fun v => iAt (inO n L O) v) n.toNat = O.length := by
  have h2 := chkG_n (chkO_zero h).1
  have h1 := sum_heads (arcs (endsG L) O) n.toNat (arcs (endsG L) O).length (fun j hj => by
    have h1 := arcs_rng (right_of (chkO_zero h).1) O j hj
    omega)
  rw [show sumN (fun v => iAt (inO n L O) v) n.toNat = sumN (fun v => (hdN (arcs (endsG L) O) (v : Int) (arcs (endsG L) O).length : Int)) n.toNat from sumN_congr fun v hv => inL_at _ _ _ _ hv, h1, arcs_len, chkO_len h]
theorem in_out {N : Nat} {L : List E} {O : List Bool} (h : chkO (N : Int) L O = 0) (v : Nat) (hv : v < N) : iAt (inO N L O) v + iAt (inO N L (O.map (!·))) v = valZ (v : Int) L N + 2 * betw (v : Int) (v : Int) L := by
  have hR := right_of (chkO_zero h).1
  have hl := chkO_len h
  have h1 := heads_both (endsG L) O hl.symm (v : Int) (endsG L).length (Nat.le_refl _)
  rw [List.take_length] at h1
  rw [deg_ref hR, deg_cnt, ← h1]
  unfold inO
  rw [Int.toNat_natCast, inL_at _ _ _ _ hv, inL_at _ _ _ _ hv, arcs_len, arcs_len]
  omega
end Go.Proofs.Ytlnaahkheankoaa

namespace Go.Proofs.Ytlnaahkheankoaa
open Go.RowKit Go.Shelf Go.Proofs.Gr

theorem eq_of_at {A B : List Int} (hl : A.length = B.length) (h : ∀ j, j < A.length → iAt A j = iAt B j) : A = B := by
  refine List.ext_getElem hl fun j h1 h2 => ?_
  rw [iAt_get A j h1, iAt_get B j h2]; exact h j h1
theorem cutI_iff (f : Nat → Bool) (m : Nat) (z : Int) : z ∈ cutI f m ↔ ∃ j : Nat, z = j ∧ j < m ∧ f j = true := by
  induction m with
  | zero => simp [cutI]
  | succ m ih =>
    rw [cutI, List.mem_append, ih]
    constructor
    · rintro (⟨j, h1, h2, h3⟩ | h)
      · exact ⟨j, h1, by omega, h3⟩
      · by_cases hc : f m = true
        · rw [if_pos hc, List.mem_singleton] at h; exact ⟨m, h, by omega, hc⟩
        · rw [if_neg hc] at h; cases h
    · rintro ⟨j, h1, h2, h3⟩
      by_cases e : j = m
      · subst e; right; rw [if_pos h3, List.mem_singleton]; exact h1
      · left; exact ⟨j, h1, by omega, h3⟩
theorem cutI_asc (f : Nat → Bool) (m : Nat) : (cutI f m).Pairwise (· < ·) := by
  induction m with
  | zero => simp [cutI]
  | succ m ih =>
    rw [cutI, List.pairwise_append]
    refine ⟨ih, ?_, ?_⟩
    · split <;> simp
    · intro x hx y hy
      obtain ⟨j, rfl, hj, -⟩ := (cutI_iff f m x).1 hx
      split at hy
      · rw [List.mem_singleton] at hy; omega
      · cases hy
/-- An ascending list of numbers below m is distinct. -/
theorem nErr_asc {m : Int} {C : List Int} (h : C.Pairwise (· < ·)) (hr : ∀ z ∈ C, 0 ≤ z ∧ z < m) : firstE (nErr m C) C.length = 0 := by
  refine firstE_zero fun i hi => ?_
  unfold nErr
  have h1 := hr (iAt C i) (by rw [← iAt_get C i hi]; exact List.getElem_mem hi)
  rw [if_neg (by omega), if_neg]
  intro hc
  rw [List.contains_iff_mem] at hc
  obtain ⟨j, hj, e⟩ := List.getElem_of_mem hc
  rw [List.length_take] at hj
  rw [List.getElem_take] at e
  have h4 := List.pairwise_iff_getElem.1 h j i (by omega) hi (by omega)
  rw [e, iAt_get C i hi] at h4
  omega
/-- Turned edges. -/
theorem rev_cont (O : List Bool) (C : List Int) (h : C.Pairwise (· < ·)) (hr : ∀ z ∈ C, 0 ≤ z ∧ z < (O.length : Int)) (k : Nat) (hk : k ≤ C.length) (j : Nat) : bAt (revL O C k) j = if (C.take k).contains (j : Int) = true then !bAt O j else bAt O j := by
  induction k with
  | zero => simp [revL]
  | succ k ih =>
    have h1 := ih (by omega)
    have h2 := hr (iAt C k) (by rw [← iAt_get C k (by omega)]; exact List.getElem_mem _)
    rw [revL, bAt_set _ _ _ _ (by rw [revL_len]; omega), List.take_succ_eq_append_getElem (by omega), iAt_get C k (by omega)]
    by_cases e : (iAt C k).toNat = j
    · have e2 : iAt C k = (j : Int) := by omega
      have hn : (C.take k).contains (j : Int) = false := by
        cases hc : (C.take k).contains (j : Int) with
        | false => rfl
        | true =>
          rw [List.contains_iff_mem] at hc
          obtain ⟨i, hi, e3⟩ := List.getElem_of_mem hc
          rw [List.length_take] at hi
          rw [List.getElem_take] at e3
          have h4 := List.pairwise_iff_getElem.1 h i k (by omega) (by omega) (by omega)
          rw [e3, iAt_get C k (by omega)] at h4
          omega
      rw [hn, if_neg (by decide)] at h1
      rw [if_pos e, e, h1, if_pos (by rw [List.contains_iff_mem, e2]; simp)]
    · have e2 : ¬ (j : Int) = iAt C k := by omega
      rw [if_neg e, h1]
      by_cases hc : (C.take k).contains (j : Int) = true
      · rw [if_pos hc, if_pos (by rw [List.contains_iff_mem] at hc ⊢; simp [hc])]
      · rw [if_neg hc, if_neg (by rw [List.contains_iff_mem] at hc ⊢; simp [hc, e2])]
/-- Counts of arcs that are none. -/
theorem cntB_none {q : Int × Int → Bool} {A : List (Int × Int)} {k : Nat} (h : cntB q A k = 0) : ∀ j, j < k → q (pAt A j) = false := by
  induction k with
  | zero => intro j hj; omega
  | succ k ih =>
    intro j hj
    rw [cntB] at h
    by_cases e : j = k
    · subst e
      cases hq : q (pAt A j) with
      | false => rfl
      | true => rw [if_pos hq] at h; omega
    · exact ih (by omega) j (by omega)
theorem cntB_congr {q r : Int × Int → Bool} {A B : List (Int × Int)} {k : Nat} (h : ∀ j, j < k → q (pAt A j) = r (pAt B j)) : cntB q A k = cntB r B k := by
  induction k with
  | zero => rfl
  | succ k ih => rw [cntB, cntB, ih fun j hj => h j (by omega), h k (by omega)]
/-- What a cut edge brings to a vertex. -/
def sgC (A : List Int) (w : Int) (u v : Int) : Int := if u = v then (if A.contains u = true then w else -w) else 0
def dlC (P : List (Int × Int)) (A : List Int) (w v : Int) (j : Nat) : Int := sgC A w (pAt P j).1 v + sgC A w (pAt P j).2 v
def smC (P : List (Int × Int)) (A : List Int) (w v : Int) : Nat → Int
  | 0 => 0
  | k + 1 => smC P A w v k + (if outB A (pAt P k) = true then dlC P A w v k else 0)
def updC (A : List Int) (w : Int) (D : List Int) (v : Int) : List Int := D.set v.toNat (iAt D v.toNat + (if A.contains v = true then w else -w))
theorem updC_len (A : List Int) (w : Int) (D : List Int) (v : Int) : (updC A w D v).length = D.length := by unfold updC; simp
theorem updC_at (A : List Int) (w : Int) (D : List Int) (u : Int) (hu : 0 ≤ u ∧ u < D.length) (v : Nat) : iAt (updC A w D u) v = iAt D v + sgC A w u v := by
  unfold updC sgC
  have hlt : u.toNat < D.length := by omega
  rw [iAt_set _ _ _ _ hlt]
  by_cases e : u.toNat = v
  · rw [if_pos e, if_pos (show u = (v : Int) by omega), e]
  · rw [if_neg e, if_neg (show ¬ u = (v : Int) by omega)]; omega
def stC (P : List (Int × Int)) (A : List Int) (w : Int) (D : List Int) (x : Int) : List Int := updC A w (updC A w D (pAt P x.toNat).1) (pAt P x.toNat).2
def ctT (P : List (Int × Int)) (A : List Int) (w : Int) (D C : List Int) (i : Nat) : List Int := (C.take i).foldl (stC P A w) D
theorem ctT_zero (P : List (Int × Int)) (A : List Int) (w : Int) (D C : List Int) : ctT P A w D C 0 = D := rfl
theorem ctT_next (P : List (Int × Int)) (A : List Int) (w : Int) (D C : List Int) (i : Nat) (hi : i < C.length) : ctT P A w D C (i + 1) = stC P A w (ctT P A w D C i) (iAt C i) := by
  unfold ctT
  rw [List.take_succ_eq_append_getElem hi, List.foldl_append, iAt_get C i hi]; rfl
theorem ctT_len (P : List (Int × Int)) (A : List Int) (w : Int) (D C : List Int) (i : Nat) (hi : i ≤ C.length) : (ctT P A w D C i).length = D.length := by
  induction i with
  | zero => rfl
  | succ i ih => rw [ctT_next _ _ _ _ _ _ (by omega)]; unfold stC; rw [updC_len, updC_len, ih (by omega)]
def lsC (g : Nat → Int) : List Int → Int
  | [] => 0
  | x :: r => g x.toNat + lsC g r
theorem lsC_append (g : Nat → Int) (A B : List Int) : lsC g (A ++ B) = lsC g A + lsC g B := by
  induction A with
  | nil => simp [lsC]
  | cons x r ih => rw [List.cons_append, lsC, lsC, ih]; omega
theorem ctT_at {n : Nat} {P : List (Int × Int)} (hP : ∀ j, j < P.length → (0 ≤ (pAt P j).1 ∧ (pAt P j).1 < (n : Int)) ∧ (0 ≤ (pAt P j).2 ∧ (pAt P j).2 < (n : Int))) (A : List Int) (w : Int) (D C : List Int) (hD : D.length = n) (hC : ∀ z ∈ C, 0 ≤ z ∧ z < (P.length : Int)) (i : Nat) (hi : i ≤ C.length) (v : Nat) : iAt (ctT P A w D C i) v = iAt D v + lsC (dlC P A w v) (C.take i) := by
  induction i with
  | zero => rw [ctT_zero]; simp [lsC]
  | succ i ih =>
    have h1 := hC (iAt C i) (by rw [← iAt_get C i (by omega)]; exact List.getElem_mem _)
    have h2 := hP (iAt C i).toNat (by omega)
    have hl := ctT_len P A w D C i (by omega)
    rw [ctT_next _ _ _ _ _ _ (by omega)]
    unfold stC
    rw [updC_at _ _ _ _ (by rw [updC_len]; omega), updC_at _ _ _ _ (by omega), ih (by omega), List.take_succ_eq_append_getElem (by omega), lsC_append, iAt_get C i (by omega)]
    show _ = _ + (_ + (dlC P A w v (iAt C i).toNat + 0))
    unfold dlC
    omega
theorem lsC_cut (P : List (Int × Int)) (A : List Int) (w v : Int) (m : Nat) : lsC (dlC P A w v) (cutI (fun e => outB A (pAt P e)) m) = smC P A w v m := by
  induction m with
  | zero => rfl
  | succ m ih =>
    rw [cutI, lsC_append, ih, smC]
    by_cases h : outB A (pAt P m) = true
    · rw [if_pos h, if_pos h]
      show _ + (dlC P A w v (Int.toNat (m : Int)) + 0) = _
      rw [Int.toNat_natCast]; omega
    · rw [if_neg h, if_neg h]; rfl
/-- The cut of a directed set is reversed. -/
structure Rvd (P : List (Int × Int)) (A : List Int) (O O2 : List Bool) (w : Int) : Prop where
  bits : ∀ j, j < P.length → bAt O2 j = if outB A (pAt P j) = true then !bAt O j else bAt O j
  dir : (w = 1 ∧ ∀ j, j < P.length → intB2 A (arcP P O j) = false) ∨ (w = -1 ∧ ∀ j, j < P.length → outB2 A (arcP P O j) = false)
theorem Rvd.arc {P : List (Int × Int)} {A : List Int} {O O2 : List Bool} {w : Int} (h : Rvd P A O O2 w) (j : Nat) (hj : j < P.length) : arcP P O2 j = if outB A (pAt P j) = true then ((arcP P O j).2, (arcP P O j).1) else arcP P O j := by
  unfold arcP
  rw [h.bits j hj]
  by_cases hb : outB A (pAt P j) = true
  · rw [if_pos hb, if_pos hb]
    cases bAt O j <;> simp
  · rw [if_neg hb, if_neg hb]
theorem outB_arc (P : List (Int × Int)) (A : List Int) (O : List Bool) (j : Nat) : outB A (arcP P O j) = outB A (pAt P j) := by
  unfold arcP outB
  cases bAt O j
  · simp only [Bool.false_eq_true, if_false]
    cases A.contains (pAt P j).1 <;> cases A.contains (pAt P j).2 <;> rfl
  · simp only [if_true]
theorem dl_arc (P : List (Int × Int)) (A : List Int) (O : List Bool) (w v : Int) (j : Nat) : dlC P A w v j = sgC A w (arcP P O j).1 v + sgC A w (arcP P O j).2 v := by
  unfold arcP dlC
  cases bAt O j
  · simp only [Bool.false_eq_true, if_false]; omega
  · simp only [if_true]
theorem Rvd.heads {P : List (Int × Int)} {A : List Int} {O O2 : List Bool} {w : Int} (h : Rvd P A O O2 w) (v : Int) (k : Nat) (hk : k ≤ P.length) : (hdN (arcs P O2) v k : Int) = hdN (arcs P O) v k + smC P A w v k := by
  induction k with
  | zero => rfl
  | succ k ih =>
    have h1 := ih (by omega)
    have h2 := h.arc k (by omega)
    rw [hdN, hdN, smC, arcs_at _ _ _ (by omega), arcs_at _ _ _ (by omega), h2, Int.natCast_add, Int.natCast_add, h1]
    by_cases hb : outB A (pAt P k) = true
    · rw [if_pos hb, if_pos hb, dl_arc P A O]
      rw [← outB_arc P A O] at hb
      have hd0 : (w = 1 ∧ intB2 A (arcP P O k) = false) ∨ (w = -1 ∧ outB2 A (arcP P O k) = false) := by
        rcases h.dir with ⟨e, hx⟩ | ⟨e, hx⟩
        · exact .inl ⟨e, hx k (by omega)⟩
        · exact .inr ⟨e, hx k (by omega)⟩
      generalize arcP P O k = t at *
      obtain ⟨x, y⟩ := t
      have hd : (w = 1 ∧ A.contains x = true ∧ A.contains y = false) ∨ (w = -1 ∧ A.contains x = false ∧ A.contains y = true) := by
        unfold outB at hb
        unfold intB2 outB2 at hd0
        simp only at hb hd0
        cases hx : A.contains x <;> cases hy : A.contains y <;> simp_all
      unfold sgC
      simp only
      rcases hd with ⟨e, hx, hy⟩ | ⟨e, hx, hy⟩
      · rw [hx, hy, e]
        by_cases e1 : x = v
        · by_cases e2 : y = v
          · rw [e1] at hx; rw [e2] at hy; rw [hx] at hy; cases hy
          · rw [if_pos e1, if_neg e2, if_pos e1, if_neg e2]; simp; omega
        · by_cases e2 : y = v
          · rw [if_neg e1, if_pos e2, if_neg e1, if_pos e2]; simp; omega
          · rw [if_neg e1, if_neg e2, if_neg e1, if_neg e2]; simp
      · rw [hx, hy, e]
        by_cases e1 : x = v
        · by_cases e2 : y = v
          · rw [e1] at hx; rw [e2] at hy; rw [hx] at hy; cases hy
          · rw [if_pos e1, if_neg e2, if_pos e1, if_neg e2]; simp; omega
        · by_cases e2 : y = v
          · rw [if_neg e1, if_pos e2, if_neg e1, if_pos e2]; simp; omega
          · rw [if_neg e1, if_neg e2, if_neg e1, if_neg e2]; simp
    · rw [if_neg hb, if_neg hb]; omega
end Go.Proofs.Ytlnaahkheankoaa

namespace Go.Proofs.Ytlnaahkheankoaa
open Go.RowKit Go.Shelf Go.Proofs.Gr

theorem way_two {o i : Nat} (h : wayN o i ≠ 0) : (wayN o i = 1 ∧ i = 0) ∨ (wayN o i = -1 ∧ o = 0) := by
  unfold wayN at h ⊢
  by_cases h1 : 0 < o ∧ i = 0
  · rw [if_pos h1]; exact .inl ⟨rfl, h1.2⟩
  · rw [if_neg h1] at h ⊢
    by_cases h2 : 0 < i ∧ o = 0
    · rw [if_pos h2]; exact .inr ⟨rfl, h2.2⟩
    · rw [if_neg h2] at h; exact absurd rfl h
theorem way_neg (o i : Nat) : wayN i o = - wayN o i := by
  unfold wayN
  by_cases h1 : 0 < o <;> by_cases h2 : 0 < i <;> simp [h1, h2] <;> omega
structure CutS (n : Int) (L : List E) (O : List Bool) (A : List Int) : Prop where
  ok : chkO n L O = 0
  set : subE n A = 0
  way : dirV n L O A ≠ 0
theorem cutG_in {L : List E} {A : List Int} : ∀ z ∈ cutG L A, 0 ≤ z ∧ z < ((endsG L).length : Int) := fun z hz => by
  unfold cutG at hz
  obtain ⟨j, rfl, hj, -⟩ := (cutI_iff _ _ _).1 hz
  omega
theorem cutG_has (L : List E) (A : List Int) (j : Nat) (hj : j < (endsG L).length) : (cutG L A).contains (j : Int) = outB A (pAt (endsG L) j) := by
  cases h : outB A (pAt (endsG L) j) with
  | true =>
    rw [List.contains_iff_mem]
    exact (cutI_iff _ _ _).2 ⟨j, rfl, hj, h⟩
  | false =>
    cases hc : (cutG L A).contains (j : Int) with
    | false => rfl
    | true =>
      rw [List.contains_iff_mem] at hc
      obtain ⟨k, hk, -, h3⟩ := (cutI_iff _ _ _).1 hc
      obtain rfl : j = k := by omega
      rw [h] at h3; cases h3
def backO (L : List E) (O : List Bool) (A : List Int) : List Bool := revL O (cutG L A) (cutG L A).length
theorem backO_len (L : List E) (O : List Bool) (A : List Int) : (backO L O A).length = O.length := revL_len _ _ _
theorem CutS.rvd {n : Int} {L : List E} {O : List Bool} {A : List Int} (h : CutS n L O A) : Rvd (endsG L) A O (backO L O A) (dirV n L O A) := by
  have hl := chkO_len h.ok
  refine ⟨fun j hj => ?_, ?_⟩
  · unfold backO
    rw [rev_cont O (cutG L A) (cutI_asc _ _) (fun z hz => by rw [← hl]; exact cutG_in z hz) _ (Nat.le_refl _), List.take_length, cutG_has _ _ _ hj]
  · have hw := h.way
    unfold dirV at hw ⊢
    rcases way_two hw with ⟨e, h2⟩ | ⟨e, h2⟩
    · left
      refine ⟨e, fun j hj => ?_⟩
      have := cntB_none h2 j (by rw [arcs_len]; exact hj)
      rwa [arcs_at _ _ _ hj] at this
    · right
      refine ⟨e, fun j hj => ?_⟩
      have := cntB_none h2 j (by rw [arcs_len]; exact hj)
      rwa [arcs_at _ _ _ hj] at this
theorem CutS.rev {n : Int} {L : List E} {O : List Bool} {A : List Int} (h : CutS n L O A) : revE n L O (cutG L A) = 0 := by
  unfold revE
  rw [if_neg (by rw [h.ok]; decide)]
  have hl := chkO_len h.ok
  exact nErr_asc (cutI_asc _ _) fun z hz => by rw [← hl]; exact cutG_in z hz
theorem CutS.back {n : Int} {L : List E} {O : List Bool} {A : List Int} (h : CutS n L O A) : chkO n L (backO L O A) = 0 := by
  have h1 := h.ok
  unfold chkO at h1 ⊢
  rw [backO_len]; exact h1
theorem CutS.dirs {n : Int} {L : List E} {O : List Bool} {A : List Int} (h : CutS n L O A) : dirE n L O A = 0 ∧ dirE n L (backO L O A) A = 0 := by
  unfold dirE
  rw [if_neg (by rw [h.ok]; decide), if_neg (by rw [h.back]; decide)]
  exact ⟨h.set, h.set⟩
theorem CutS.turn {n : Int} {L : List E} {O : List Bool} {A : List Int} (h : CutS n L O A) : dirV n L (backO L O A) A = - dirV n L O A := by
  have hr := h.rvd
  have key : ∀ j, j < (endsG L).length → outB2 A (pAt (arcs (endsG L) (backO L O A)) j) = intB2 A (pAt (arcs (endsG L) O) j) ∧ intB2 A (pAt (arcs (endsG L) (backO L O A)) j) = outB2 A (pAt (arcs (endsG L) O) j) := fun j hj => by
    rw [arcs_at _ _ _ hj, arcs_at _ _ _ hj, hr.arc j hj, ← outB_arc (endsG L) A O]
    generalize arcP (endsG L) O j = t
    obtain ⟨x, y⟩ := t
    unfold outB outB2 intB2
    simp only
    cases hx : A.contains x <;> cases hy : A.contains y <;> simp_all
  unfold dirV
  rw [arcs_len, arcs_len, cntB_congr (r := intB2 A) (B := arcs (endsG L) O) (fun j hj => (key j hj).1), cntB_congr (r := outB2 A) (B := arcs (endsG L) O) (fun j hj => (key j hj).2), way_neg]
theorem CutS.all {n : Int} {L : List E} {O : List Bool} {A : List Int} (h : CutS n L O A) : ctT (endsG L) A (dirV n L O A) (inO n L O) (cutG L A) (cutG L A).length = inO n L (backO L O A) := by
  have hR := right_of (chkO_zero h.ok).1
  have h0 := hR.lo
  have hl : (inO n L O).length = n.toNat := inO_len _ _ _
  have hl2 : (inO n L (backO L O A)).length = n.toNat := inO_len _ _ _
  have hE : ∀ j, j < (endsG L).length → (0 ≤ (pAt (endsG L) j).1 ∧ (pAt (endsG L) j).1 < ((n.toNat : Nat) : Int)) ∧ (0 ≤ (pAt (endsG L) j).2 ∧ (pAt (endsG L) j).2 < ((n.toNat : Nat) : Int)) := fun j hj => by
    have := ends_rng hR j hj
    omega
  refine eq_of_at (by rw [ctT_len _ _ _ _ _ _ (Nat.le_refl _), hl, hl2]) fun v hv => ?_
  rw [ctT_len _ _ _ _ _ _ (Nat.le_refl _), hl] at hv
  rw [ctT_at (n := n.toNat) hE A _ _ _ hl cutG_in _ (Nat.le_refl _), List.take_length]
  have h1 : lsC (dlC (endsG L) A (dirV n L O A) v) (cutG L A) = smC (endsG L) A (dirV n L O A) v (endsG L).length := lsC_cut _ _ _ _ _
  have h2 := h.rvd.heads v (endsG L).length (Nat.le_refl _)
  have e1 : iAt (inO n L O) v = (hdN (arcs (endsG L) O) v (endsG L).length : Int) := by unfold inO; rw [inL_at _ _ _ _ hv, arcs_len]
  have e2 : iAt (inO n L (backO L O A)) v = (hdN (arcs (endsG L) (backO L O A)) v (endsG L).length : Int) := by unfold inO; rw [inL_at _ _ _ _ hv, arcs_len]
  rw [h1, e1, e2, h2]
theorem cut_bd {n : Int} {L : List E} {O : List Bool} {A : List Int} (h : CutS n L O A) (i : Nat) (hi : i ≤ (cutG L A).length) (v : Nat) (he : (endsG L).length ≤ 2000) (hc : (cutG L A).length ≤ 5000) : -20000 ≤ iAt (ctT (endsG L) A (dirV n L O A) (inO n L O) (cutG L A) i) v ∧ iAt (ctT (endsG L) A (dirV n L O A) (inO n L O) (cutG L A) i) v ≤ 20000 := by
  have hR := right_of (chkO_zero h.ok).1
  have h0 := hR.lo
  have hE : ∀ j, j < (endsG L).length → (0 ≤ (pAt (endsG L) j).1 ∧ (pAt (endsG L) j).1 < ((n.toNat : Nat) : Int)) ∧ (0 ≤ (pAt (endsG L) j).2 ∧ (pAt (endsG L) j).2 < ((n.toNat : Nat) : Int)) := fun j hj => by
    have := ends_rng hR j hj
    omega
  rw [ctT_at (n := n.toNat) hE A _ _ _ (inO_len _ _ _) cutG_in i hi]
  have hd : 0 ≤ iAt (inO n L O) v ∧ iAt (inO n L O) v ≤ 2000 := by
    by_cases hv : v < n.toNat
    · unfold inO
      rw [inL_at _ _ _ _ hv]
      have := hdN_le (arcs (endsG L) O) (v : Int) (arcs (endsG L) O).length
      rw [arcs_len] at this ⊢
      omega
    · unfold iAt
      rw [List.getD_eq_getElem?_getD, List.getElem?_eq_none (by rw [inO_len]; omega)]
      simp
  have hw : dirV n L O A = 1 ∨ dirV n L O A = -1 := by
    have h9 := h.way
    unfold dirV at h9 ⊢
    rcases way_two h9 with ⟨e, _⟩ | ⟨e, _⟩
    · exact .inl e
    · exact .inr e
  have hs : ∀ u : Int, -1 ≤ sgC A (dirV n L O A) u v ∧ sgC A (dirV n L O A) u v ≤ 1 := fun u => by
    unfold sgC
    split
    · split <;> omega
    · omega
  have key : ∀ C : List Int, -(2 * (C.length : Int)) ≤ lsC (dlC (endsG L) A (dirV n L O A) v) C ∧ lsC (dlC (endsG L) A (dirV n L O A) v) C ≤ 2 * (C.length : Int) := by
    intro C
    induction C with
    | nil => simp [lsC]
    | cons x r ih =>
      have h1 := hs (pAt (endsG L) x.toNat).1
      have h2 := hs (pAt (endsG L) x.toNat).2
      have e : dlC (endsG L) A (dirV n L O A) v x.toNat = sgC A (dirV n L O A) (pAt (endsG L) x.toNat).1 v + sgC A (dirV n L O A) (pAt (endsG L) x.toNat).2 v := rfl
      rw [lsC, List.length_cons, e]
      omega
  have h3 := key ((cutG L A).take i)
  rw [List.length_take] at h3
  omega
end Go.Proofs.Ytlnaahkheankoaa
