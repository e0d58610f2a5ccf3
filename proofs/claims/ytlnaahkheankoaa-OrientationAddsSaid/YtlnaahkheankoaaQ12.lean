/- Cycles of the triangle. And: A range over a function whose iterator keeps a state of its own in cells. And: Lists that are the same; small graphs of the laws. And: Regions that draw their order inside a round, by the laws for those outside. -/
import Derived.Test.YtlnaahkheankoaaQ11
import Derived.Test.YtlnaahkheankoaaQ09
import Derived.RangeFuncNested
import Derived.RangeFuncBound
import Derived.RangeFuncCalls
import Derived.RangeFuncLeaves
import Derived.RangeFuncBox
import Derived.Shelf.Abstract
import Derived.OwnWalkIn
import Derived.TacticsInMore
import Derived.LoopNIn
import Derived.LoopIn
import Derived.Maps.AppendAt
import Derived.Test.YtlnaahkheankoaaQ00
namespace Go.Proofs.Ytlnaahkheankoaa
open Go.RowKit Go.Shelf Go.Proofs.Gr
attribute [local go_sem] Oper.semAt_some

theorem run_store_funcW {P : Program} {w : World} {a : Addr} {m : Mode} (fn : Fn) (x y : Array Value) : (store a (.func fn x y) m).run P w = stored P w a (.func fn x y) m := run_store P w a _ m rfl
attribute [local go_sem] run_store_funcW
set_option maxHeartbeats 12800000 in
set_option maxRecDepth 100000 in
theorem cycles_tri (p : Option Addr) (cp : Nat) (w : World) (hp : PsAt w p triP) :
    Calls Try.prog 85 #[.int .i64 3, .slice p 3 cp] w (fun e u => ∃ v, e = .returned v ∧ u.ownsRow (w.heap.size + 3) 136 2 v 2 (flat encT [(7, 5), (7, 2)]) ∧ Below w.heap.size w u) := by
  obtain ⟨pb, po, hp0, hpl, -, -⟩ := hp.two 0 (by decide)
  subst hp0
  obtain ⟨W, hW⟩ : ∃ W, W = ((w.alloc (Obj.cells #[.slice (some ⟨pb, po, none⟩) 3 cp] 83)).alloc (Obj.cells #[.slice none 0 0] 115)).alloc (Obj.cells #[(.func (.func 106) #[] #[.pointer (some ⟨w.heap.size, 0, none⟩), .pointer (some ⟨w.heap.size + 1, 0, none⟩), .pointer (some ⟨w.heap.size + 2, 0, none⟩)])] 138) := ⟨_, rfl⟩
  have hbW : Below w.heap.size w W := by rw [hW]; exact (((Below.refl _ w).alloc (Nat.le_refl _) _).alloc (by simp) _).alloc (by simp; omega) _
  have hz : W.heap.size = w.heap.size + 3 := by rw [hW]; simp
  have h3 : Blk W w.heap.size 83 #[.slice (some ⟨pb, po, none⟩) 3 cp] := by rw [hW]; exact ((Blk.new w 83 _).alloc _).alloc _
  have h5 : Blk W (w.heap.size + 1) 115 #[.slice none 0 0] := by
    rw [hW]
    have := Blk.new (w.alloc (Obj.cells #[.slice (some ⟨pb, po, none⟩) 3 cp] 83)) 115 #[.slice none 0 0]
    rw [World.size_alloc] at this
    exact this.alloc _
  have h6 : Blk W (w.heap.size + 2) 138 #[(.func (.func 106) #[] #[.pointer (some ⟨w.heap.size, 0, none⟩), .pointer (some ⟨w.heap.size + 1, 0, none⟩), .pointer (some ⟨w.heap.size + 2, 0, none⟩)])] := by
    rw [hW]
    have := Blk.new ((w.alloc (Obj.cells #[.slice (some ⟨pb, po, none⟩) 3 cp] 83)).alloc (Obj.cells #[.slice none 0 0] 115)) 138 #[(.func (.func 106) #[] #[.pointer (some ⟨w.heap.size, 0, none⟩), .pointer (some ⟨w.heap.size + 1, 0, none⟩), .pointer (some ⟨w.heap.size + 2, 0, none⟩)])]
    simp only [World.size_alloc] at this
    exact this
  have hst : StW w.heap.size (w.heap.size + 1) (w.heap.size + 2) (w.heap.size + 3) pb po cp W (.slice none 0 0) 0 [] :=
    ⟨h3, hp.keep hbW, h5, h6, World.ownsRow_nil _ _ _ _, by omega, by omega, by omega, by omega, by omega, by omega, by omega, by omega⟩
  have HST := Lib.hid hst
  have HBW := Lib.hid hbW
  have HZ := Lib.hid hz
  have f6 : W.cell? ⟨w.heap.size + 2, 0, none⟩ = some (.func (.func 106) #[] #[.pointer (some ⟨w.heap.size, 0, none⟩), .pointer (some ⟨w.heap.size + 1, 0, none⟩), .pointer (some ⟨w.heap.size + 2, 0, none⟩)]) := h6.cell 0
  clear hst hbW hz h3 h5 h6 hp
  go_enter Try.func85, Try.ntmps85
  go_wp2_with fail
  rw [← hW]
  clear hW
  refine wp_loop_rounds 4 ?_
  rw [rounds_succ]
  go_wp2_with fail
  refine (walk_0_0_0_0_0 _ _ _ _ pb po cp W _ _ _ (by simp) HST.out).mono ?_
  rintro e Z0 ⟨⟨r0, rfl⟩, u0, hs0, hk0⟩
  have f6 : Z0.cell? ⟨w.heap.size + 2, 0, none⟩ = some (.func (.func 106) #[] #[.pointer (some ⟨w.heap.size, 0, none⟩), .pointer (some ⟨w.heap.size + 1, 0, none⟩), .pointer (some ⟨w.heap.size + 2, 0, none⟩)]) := hs0.k6.cell 0
  have HS0 := Lib.hid hs0
  have HK0 := Lib.hid hk0
  have f5 : Z0.cell? ⟨w.heap.size + 1, 0, none⟩ = some u0 := hs0.k5.cell 0
  clear hs0 hk0
  go_wp2
  rw [rounds_succ]
  go_wp2_with fail
  refine (walk_1_1_0_0_0 _ _ _ _ pb po cp Z0 _ _ _ (by simp; try omega) HS0.out).mono ?_
  rintro e Z1 ⟨⟨r1, rfl⟩, u1, hs1, hk1⟩
  have f6 : Z1.cell? ⟨w.heap.size + 2, 0, none⟩ = some (.func (.func 106) #[] #[.pointer (some ⟨w.heap.size, 0, none⟩), .pointer (some ⟨w.heap.size + 1, 0, none⟩), .pointer (some ⟨w.heap.size + 2, 0, none⟩)]) := hs1.k6.cell 0
  have HS1 := Lib.hid hs1
  have HK1 := Lib.hid hk1
  have f5 : Z1.cell? ⟨w.heap.size + 1, 0, none⟩ = some u1 := hs1.k5.cell 0
  clear hs1 hk1
  go_wp2
  rw [rounds_succ]
  go_wp2_with fail
  refine (walk_2_2_0_0_0 _ _ _ _ pb po cp Z1 _ _ _ (by simp; try omega) HS1.out).mono ?_
  rintro e Z2 ⟨⟨r2, rfl⟩, u2, hs2, hk2⟩
  have f6 : Z2.cell? ⟨w.heap.size + 2, 0, none⟩ = some (.func (.func 106) #[] #[.pointer (some ⟨w.heap.size, 0, none⟩), .pointer (some ⟨w.heap.size + 1, 0, none⟩), .pointer (some ⟨w.heap.size + 2, 0, none⟩)]) := hs2.k6.cell 0
  have HS2 := Lib.hid hs2
  have HK2 := Lib.hid hk2
  have f5 : Z2.cell? ⟨w.heap.size + 1, 0, none⟩ = some u2 := hs2.k5.cell 0
  clear hs2 hk2
  go_wp2
  rw [rounds_succ]
  go_wp2
  go_ret
  have hkk := HK0.out.trans (HK1.out.trans HK2.out)
  have hlo : Below w.heap.size w Z2 := HBW.out.trans (hkk.low (by omega) (by rw [HZ.out]; omega) rfl)
  have how := HS2.out.own
  first | exact ⟨_, rfl, by simpa [flat, encT] using how, hlo⟩ | exact ⟨u2, rfl, how, hlo⟩
end Go.Proofs.Ytlnaahkheankoaa

namespace Go.Proofs.Ytlnaahkheankoaa
open Go.RowKit Go.Shelf Go.Proofs.Gr
attribute [local go_sem] Oper.semAt_some

/-- The blocks of a set that hold cells lie as they lay. -/
def KpT (T : Nat → Prop) (A A' : World) : Prop := A.heap.size ≤ A'.heap.size ∧ ∀ r o, T r → A.heap[r]? = some o → o.isCells = true → A'.heap[r]? = some o
theorem KpT.refl (T : Nat → Prop) (A : World) : KpT T A A := ⟨Nat.le_refl _, fun _ _ _ h _ => h⟩
theorem KpT.trans {T : Nat → Prop} {A A' A'' : World} (h : KpT T A A') (k : KpT T A' A'') : KpT T A A'' := ⟨Nat.le_trans h.1 k.1, fun r o h1 h3 h4 => k.2 r o h1 (h.2 r o h1 h3 h4) h4⟩
theorem KpT.putObj {T : Nat → Prop} {l : Nat} {W : World} {o o' : Obj} (hl : W.heap[l]? = some o) (hc : o.isCells = false) : KpT T W (W.putObj l o') :=
  ⟨by simp, fun r o2 _ h3 h4 => by
    have hne : r ≠ l := by rintro rfl; rw [h3] at hl; cases hl; rw [h4] at hc; cases hc
    exact (World.putObj_heap_other hne).trans h3⟩
theorem KpT.below {T : Nat → Prop} {A A' : World} (h : Below A.heap.size A A') : KpT T A A' := ⟨h.size, fun r _ _ h3 _ => (h.block r (Array.getElem?_eq_some_iff.1 h3).1).trans h3⟩
theorem KpT.mono {T T' : Nat → Prop} {A A' : World} (h : KpT T A A') (k : ∀ r, T' r → T r) : KpT T' A A' := ⟨h.1, fun r o h1 h3 h4 => h.2 r o (k r h1) h3 h4⟩
/-- The contract of an iterator that stores into blocks of its own: T is the set of those that are its own. -/
def SeqB {α : Type} (n : Nat) (P : Program) (g : Nat) (lb : Array Value) (encs : α → Array Value) (QQ : (Nat → Prop) → α → World → Prop) (rm : α → Nat → Prop) (T0 : Nat → Prop) (S : List α → Prop) (N : Nat) (w : World) : Prop :=
  ∀ (l : Nat) (J : (Nat → Prop) → List α → World → Prop) (W : World), Below w.heap.size w W →
    (∀ T s A A', J T s A → A.grownBy A' none → J (fun r => T r ∨ (A.heap.size ≤ r ∧ r < A'.heap.size)) s A') →
    (∀ T s A A' r, J T s A → T r → A.grownBy A' (some r) → J T s A') →
    (∀ T T' s A, J T s A → (∀ r, T' r → T r) → J T' s A) →
    (∀ T pre x W1, J T pre W1 → pre.length < N → QQ T x W1 → ∀ k, YieldAt Fence.wide k P l (encs x) W1 fun e W' => e = .returned (.bool true) ∧ J (fun r => T r ∧ ¬ rm x r) (pre ++ [x]) W' ∧ KpT T W1 W') →
    J T0 [] W →
    CallsIn Fence.wide n P g (#[.func (.yield l) #[] #[]] ++ lb) W fun e W' => (∃ v, e = .returned v) ∧ ∃ xs, S xs ∧ J T0 xs W'

theorem wpIn_rangeFunc_bits {α : Type} {n : Nat} {P : Program} {g : Operand} {ps : Array Tmp} {assign body : Code} {Q : Exit → Act → World → Prop} {a : Act} {w : World}
    (h1 : 1 ≤ n) {gf : Nat} {lb : Array Value} (hg : a.eval g = .func (.func gf) #[] lb) (eg : ∀ args w, (callFunc gf args).run P w = .ok (.enter gf args) w)
    {encs : α → Array Value} {QQ : (Nat → Prop) → α → World → Prop} {rm : α → Nat → Prop} {T0 : Nat → Prop} {S : List α → Prop} {N : Nat} {w0 : World} (hseq : SeqB (n - 1) P gf lb encs QQ rm T0 S N w0)
    (hT0 : ∀ r, T0 r → r < w.heap.size)
    (hb0 : Below w0.heap.size w0 w) (hps : ∀ x, (encs x).size = ps.size)
    (I : (Nat → Prop) → List α → World → Prop)
    (hI1 : ∀ T s A A', I T s A → A.grownBy A' none → I (fun r => T r ∨ (A.heap.size ≤ r ∧ r < A'.heap.size)) s A')
    (hI2 : ∀ T s A A' r, I T s A → T r → A.grownBy A' (some r) → I T s A')
    (hI0 : ∀ T T' s A, I T s A → (∀ r, T' r → T r) → I T' s A)
    (hI3 : ∀ T s A A' r o, I T s A → A.grownBy A' (some r) → w.heap.size ≤ r → r < w.heap.size + 2 → A.heap[r]? = some o → o.isCells = false → I T s A')
    (hQ3 : ∀ T x A A' r o, QQ T x A → A.grownBy A' (some r) → A.heap[r]? = some o → o.isCells = false → QQ T x A')
    (h0 : I T0 [] w) (a₁ : α → Act)
    (hassign : ∀ (l k : Nat) (x : α) (W : World) (K : Act → World → Prop), K (a₁ x) W →
      assign.wpIn (Fence.wide.inRound l) k P (Exit.then K (fun _ _ _ => False)) { tmps := (ps.zip (encs x)).foldl (fun t (p, v) => t.setIfInBounds p v) a.tmps, defers := [] } W)
    (hbody : ∀ (l k : Nat) (T : Nat → Prop) (pre : List α) (x : α) (W : World), I T pre W → pre.length < N → w.heap.size + 2 ≤ W.heap.size → ¬ T w.heap.size → ¬ T (w.heap.size + 1) → QQ T x W →
      body.wpIn (Fence.wide.inRound l) k P (fun e _ W' => e = .normal ∧ KeepsFrom w.heap.size W W' ∧ KpT T W W' ∧ I (fun r => T r ∧ ¬ rm x r) (pre ++ [x]) W') (a₁ x) W)
    (hdone : ∀ (D : Nat) (xs : List α) (W : World), w.heap.size ≤ D → S xs → I T0 xs W → W.heap[D]? = some (.deferred (some [])) → Q .normal { a with defers := { target := .collected D, args := #[] } :: a.defers } W) :
    (Code.rangeFunc g ps assign body).wpIn Fence.wide n P Q a w := by
  refine wpIn_rangeFunc ?_
  intro fn hfn
  show ∃ _, _
  obtain ⟨rec, hrec⟩ : ∃ rec : LoopState → Option Code → Loop, rec = fun st pe => { state := st, pending := pe, fn, tmps := a.tmps, params := ps, assign, body, defers := w.heap.size } := ⟨_, rfl⟩
  obtain ⟨W1, hW1⟩ : ∃ W1, (w.alloc (.deferred (some []))).alloc (.loop (rec .ready none)) = W1 := ⟨_, rfl⟩
  have hL1 : W1.heap[w.heap.size + 1]? = some (.loop (rec .ready none)) := by
    rw [← hW1]; have := World.alloc_heap_new (w.alloc (.deferred (some []))) (.loop (rec .ready none)); rwa [World.size_alloc] at this
  have hK1 : W1.heap[w.heap.size]? = some (.deferred (some [])) := by
    rw [← hW1]; exact (Below.heap_alloc _ _ _ (by simp)).trans (World.alloc_heap_new w _)
  have hz1 : W1.heap.size = w.heap.size + 2 := by rw [← hW1]; simp
  have hI1' : I T0 [] W1 := by rw [← hW1]; exact hI0 _ _ _ _ (hI1 _ _ _ _ (hI1 _ _ _ _ h0 (World.grownBy_alloc _ _ none)) (World.grownBy_alloc _ _ none)) (fun r hr => .inl (.inl hr))
  have hb1 : Below w0.heap.size w0 W1 := by
    rw [← hW1]; exact hb0.trans ((((Below.refl _ w).alloc (Nat.le_refl _) _).alloc (by simp) _).mono hb0.size)
  refine ⟨w.heap.size + 1, [{ target := .collected w.heap.size, args := #[] }], W1, { target := .fn (.func gf) lb, args := #[.func (.yield (w.heap.size + 1)) #[] #[]] }, W1, gf,
    #[.func (.yield (w.heap.size + 1)) #[] #[]] ++ lb, W1, ?_, ?_, ?_, ?_, fun _ => h1, ?_⟩
  · rw [← hW1, hrec]; exact run_enterLoop_outer _ _ _ _ _
  · simp only [resolve, hg]
    simp [go_sem]
  · intro f' hf'; trivial
  · simp [invoke, go_sem, eg]
  · refine (hseq (w.heap.size + 1)
      (fun T pre W => I T pre W ∧ W.heap[w.heap.size + 1]? = some (.loop (rec .ready none)) ∧ W.heap[w.heap.size]? = some (.deferred (some [])) ∧ ¬ T w.heap.size ∧ ¬ T (w.heap.size + 1))
      W1 hb1
      (fun T s A B hs hg' => ⟨hI1 T s A B hs.1 hg', (hg'.block _ (Array.getElem?_eq_some_iff.1 hs.2.1).1 (by simp)).trans hs.2.1, (hg'.block _ (Array.getElem?_eq_some_iff.1 hs.2.2.1).1 (by simp)).trans hs.2.2.1, by
        have h9 := (Array.getElem?_eq_some_iff.1 hs.2.1).1
        rintro (h | h)
        · exact hs.2.2.2.1 h
        · omega, by
        have h9 := (Array.getElem?_eq_some_iff.1 hs.2.1).1
        rintro (h | h)
        · exact hs.2.2.2.2 h
        · omega⟩)
      (fun T s A B r hs hr hg' => ⟨hI2 T s A B r hs.1 hr hg', (hg'.block _ (Array.getElem?_eq_some_iff.1 hs.2.1).1 (by intro e; injection e with e; subst e; exact hs.2.2.2.2 hr)).trans hs.2.1, (hg'.block _ (Array.getElem?_eq_some_iff.1 hs.2.2.1).1 (by intro e; injection e with e; subst e; exact hs.2.2.2.1 hr)).trans hs.2.2.1, hs.2.2.2.1, hs.2.2.2.2⟩)
      (fun T T' s A hs hT => ⟨hI0 T T' s A hs.1 hT, hs.2.1, hs.2.2.1, fun h => hs.2.2.2.1 (hT _ h), fun h => hs.2.2.2.2 (hT _ h)⟩)
      ?_ ⟨hI1', hL1, hK1, fun h => Nat.lt_irrefl _ (hT0 _ h), fun h => by have := hT0 _ h; omega⟩).mono ?_
    · rintro T pre x W ⟨hi, hl, hk, ht1, ht2⟩ hlen hq kk
      have hlt : w.heap.size + 1 < W.heap.size := (Array.getElem?_eq_some_iff.1 hl).1
      have hy := run_yield (P := P) (args := encs x) hl (by rw [hrec]; exact hps x)
      rw [hrec] at hy
      refine ⟨fn, _, assign, body, hy, roundIn_of_wpIn hfn (hassign _ kk x W _ ?_)⟩
      clear hy
      refine ⟨_, run_beginRound hl (by rw [hrec]), ?_⟩
      have hl2 : (W.putObj (w.heap.size + 1) (.loop { rec .ready none with state := .busy })).heap[w.heap.size + 1]? = some (.loop { rec .ready none with state := .busy }) := World.putObj_heap_same hlt
      have hk2 : (W.putObj (w.heap.size + 1) (.loop { rec .ready none with state := .busy })).heap[w.heap.size]? = some (.deferred (some [])) := (World.putObj_heap_other (by omega)).trans hk
      have hi2 := hI3 T pre W _ _ _ hi (grownBy_putObj' W (w.heap.size + 1) (.loop { rec .ready none with state := .busy })) (by omega) (by omega) hl rfl
      have hq2 := hQ3 T x W _ _ _ hq (grownBy_putObj' W (w.heap.size + 1) (.loop { rec .ready none with state := .busy })) hl rfl
      have hw2 : KpT T W (W.putObj (w.heap.size + 1) (.loop { rec .ready none with state := .busy })) := KpT.putObj hl rfl
      refine wpIn_mono (hbody _ kk T pre x _ hi2 hlen (by simp [World.putObj]; omega) ht1 ht2 hq2) ?_
      rintro e a3 W3 ⟨rfl, hk3, hkp3, hi3⟩
      have hl3 := hk3.same _ _ (by omega) hl2 rfl
      have hre := run_endRound (P := P) none hl3
      have hl4 : (W3.putObj (w.heap.size + 1) (.loop (rec .ready none))).heap[w.heap.size + 1]? = some (.loop (rec .ready none)) := World.putObj_heap_same (Array.getElem?_eq_some_iff.1 hl3).1
      have hk4 : (W3.putObj (w.heap.size + 1) (.loop (rec .ready none))).heap[w.heap.size]? = some (.deferred (some [])) := (World.putObj_heap_other (by omega)).trans (hk3.same _ _ (Nat.le_refl _) hk2 rfl)
      have hi4 := hI3 _ _ W3 _ _ _ hi3 (grownBy_putObj' W3 (w.heap.size + 1) (.loop (rec .ready none))) (by omega) (by omega) hl3 rfl
      rw [hrec] at hre hl4 hk4 hi4 ⊢
      refine ⟨_, _, hre, rfl, ⟨hi4, hl4, hk4, fun h => ht1 h.1, fun h => ht2 h.1⟩, ?_⟩
      have hw3 : KpT T W (W.putObj (w.heap.size + 1) (.loop { rec .ready none with state := .busy })) := hw2
      rw [hrec] at hw3 hkp3 hl3
      exact hw3.trans (hkp3.trans (KpT.putObj hl3 rfl))
    · rintro e W2 ⟨⟨v, rfl⟩, xs, hS, hi, hl, hk, -, -⟩
      refine ⟨none, _, by have := run_endLoop (P := P) hl (by rw [hrec]; simp); rw [hrec] at this; exact this, ?_⟩
      refine hdone _ xs _ (Nat.le_refl _) hS ?_ ((World.putObj_heap_other (by omega)).trans hk)
      exact hI3 _ _ _ _ _ _ hi (grownBy_putObj' _ _ _) (by omega) (by omega) hl rfl
end Go.Proofs.Ytlnaahkheankoaa

namespace Go.Proofs.Ytlnaahkheankoaa
open Go.RowKit Go.Shelf Go.Proofs.Gr
attribute [local go_sem] Oper.semAt_some

set_option maxHeartbeats 12800000 in
set_option maxRecDepth 100000 in
theorem rsameI_true (a b : Option Addr) (c d : Nat) (D : List Int) (hD : D.length ≤ 100000) (w : World) (h1 : IsAt w a D) (h2 : IsAt w b D) :
    Calls Try.prog 22 #[.slice a D.length c, .slice b D.length d] w (fun e w' => e = .returned (.bool true) ∧ Below w.heap.size w w') := by
  have d1 : ((D.length : Int) != (D.length : Int)) = false := by simp
  have H1 := Lib.hid h1
  have H2 := Lib.hid h2
  clear h1 h2
  go_enter Try.func22, Try.ntmps22
  go_wp2
  go_loopw [5] (fun x wr => ∃ i : Nat, i ≤ D.length ∧ x = .int .i64 i ∧ Below w.heap.size w wr) (fun x _ => D.length - (intOf x).toNat)
  case atStart => exact ⟨0, by omega, rfl, Below.refl _ _⟩
  case round =>
    obtain ⟨i, hi, rfl, hb⟩ := hrel
    by_cases hlt : i < D.length
    · have i1 : (i : Int) < (D.length : Int) := by omega
      have i2 : (0 : Int) ≤ (i : Int) := by omega
      obtain ⟨b1, o1, hb1, q1, x1⟩ := (H1.out.keep hb).one i hlt
      obtain ⟨b2, o2, hb2, q2, x2⟩ := (H2.out.keep hb).one i hlt
      subst hb1 hb2
      have HXY : Hid (∀ u, Below wr.heap.size wr u → u.cell? ⟨b1, o1 + i, none⟩ = some (.int .i64 (iAt D i)) ∧ u.cell? ⟨b2, o2 + i, none⟩ = some (.int .i64 (iAt D i))) := Lib.hid fun u hu => by
        obtain ⟨b3, o3, e1, -, y1⟩ := (H1.out.keep (hb.trans (hu.mono hb.size))).one i hlt
        obtain ⟨b4, o4, e2, -, y2⟩ := (H2.out.keep (hb.trans (hu.mono hb.size))).one i hlt
        injection e1 with e1; injection e1 with e3 e4
        injection e2 with e2; injection e2 with e5 e6
        subst e3 e4 e5 e6
        exact ⟨y1, y2⟩
      have HBr := Lib.hid hb
      clear hb x1 x2
      generalize iAt D i = z at *
      have d2 : (z != z) = false := by simp
      go_wp2
      have hj0 : Below wr.heap.size wr wr.drew := (Below.refl _ _).drew
      refine wp_region_late (S := fun u => Below wr.heap.size wr u) (X := []) (by kernel_rfl) ?_
      refine wpAnyL_pureD (i := 0) 17 (.slice (some ⟨b1, o1, none⟩) D.length c) rfl rfl (by kernel_rfl) (by kernel_rfl) (by kernel_rfl) (fun _ _ _ h => h) (Or.inl ⟨by rfl, fun u _ => ?_⟩) ?_
      · go_simp
      try simp only [Act.put, List.setIfInBounds_toArray, List.set_cons_zero, List.set_cons_succ]
      refine wpAnyL_pureD (i := 1) 18 (.int .i64 i) rfl rfl (by kernel_rfl) (by kernel_rfl) (by kernel_rfl) (fun _ _ _ h => h) (Or.inl ⟨by rfl, fun u _ => ?_⟩) ?_
      · go_simp
      try simp only [Act.put, List.setIfInBounds_toArray, List.set_cons_zero, List.set_cons_succ]
      refine wpAnyL_pureD (i := 2) 19 (.pointer (some ⟨b1, o1 + i, none⟩)) rfl rfl (by kernel_rfl) (by kernel_rfl) (by kernel_rfl) (fun _ _ _ h => h) (Or.inl ⟨by rfl, fun u _ => ?_⟩) ?_
      · go_simp
      try simp only [Act.put, List.setIfInBounds_toArray, List.set_cons_zero, List.set_cons_succ]
      refine wpAnyL_takeD (i := 3) 20 (.int .i64 z) rfl rfl (by kernel_rfl) (by kernel_rfl) (by kernel_rfl) (by kernel_rfl) (by kernel_rfl) (fun _ _ _ h => h) hj0 (Or.inl ⟨by rfl, fun u hu => ?_⟩) ?_
      · obtain ⟨t0, t1⟩ := HXY.out u hu
        go_simp
      try simp only [Act.put, List.setIfInBounds_toArray, List.set_cons_zero, List.set_cons_succ]
      refine wpAnyL_pureD (i := 4) 21 (.slice (some ⟨b2, o2, none⟩) D.length d) rfl rfl (by kernel_rfl) (by kernel_rfl) (by kernel_rfl) (fun _ _ _ h => h) (Or.inl ⟨by rfl, fun u _ => ?_⟩) ?_
      · go_simp
      try simp only [Act.put, List.setIfInBounds_toArray, List.set_cons_zero, List.set_cons_succ]
      refine wpAnyL_pureD (i := 5) 22 (.int .i64 i) rfl rfl (by kernel_rfl) (by kernel_rfl) (by kernel_rfl) (fun _ _ _ h => h) (Or.inl ⟨by rfl, fun u _ => ?_⟩) ?_
      · go_simp
      try simp only [Act.put, List.setIfInBounds_toArray, List.set_cons_zero, List.set_cons_succ]
      refine wpAnyL_pureD (i := 6) 23 (.pointer (some ⟨b2, o2 + i, none⟩)) rfl rfl (by kernel_rfl) (by kernel_rfl) (by kernel_rfl) (fun _ _ _ h => h) (Or.inl ⟨by rfl, fun u _ => ?_⟩) ?_
      · go_simp
      try simp only [Act.put, List.setIfInBounds_toArray, List.set_cons_zero, List.set_cons_succ]
      refine wpAnyL_takeD (i := 7) 24 (.int .i64 z) rfl rfl (by kernel_rfl) (by kernel_rfl) (by kernel_rfl) (by kernel_rfl) (by kernel_rfl) (fun _ _ _ h => h) hj0 (Or.inl ⟨by rfl, fun u hu => ?_⟩) ?_
      · obtain ⟨t0, t1⟩ := HXY.out u hu
        go_simp
      try simp only [Act.put, List.setIfInBounds_toArray, List.set_cons_zero, List.set_cons_succ]
      refine wpAnyL_pureD (i := 8) 25 (.bool false) rfl rfl (by kernel_rfl) (by kernel_rfl) (by kernel_rfl) (fun _ _ _ h => h) (Or.inl ⟨by rfl, fun u _ => ?_⟩) ?_
      · go_simp
      try simp only [Act.put, List.setIfInBounds_toArray, List.set_cons_zero, List.set_cons_succ]
      refine wpAnyL_done (by kernel_rfl) ?_ _
      try simp only [Act.put, List.setIfInBounds_toArray, List.set_cons_zero, List.set_cons_succ]
      have HBN := Lib.hid (HBr.out.trans (hj0.mono HBr.out.size))
      clear hj0
      go_wp2
      go_roundw
      case rel => exact ⟨i + 1, by omega, by go_num, HBN.out⟩
      case measure => simp [intOf]; omega
    · obtain rfl : i = D.length := by omega
      have i1 : ¬ (D.length : Int) < (D.length : Int) := by omega
      have HEND := Lib.hid hb
      clear hb
      go_wp2
      go_ret
      exact ⟨rfl, HEND.out⟩
set_option maxHeartbeats 12800000 in
set_option maxRecDepth 100000 in
theorem rsameD_true (a b : Option Addr) (c d : Nat) (D : List Int) (hD : D.length ≤ 100000) (w : World) (h1 : IsAt w a D) (h2 : IsAt w b D) :
    Calls Try.prog 23 #[.slice a D.length c, .slice b D.length d] w (fun e w' => e = .returned (.bool true) ∧ Below w.heap.size w w') := by
  have d1 : ((D.length : Int) != (D.length : Int)) = false := by simp
  have H1 := Lib.hid h1
  have H2 := Lib.hid h2
  clear h1 h2
  go_enter Try.func23, Try.ntmps23
  go_wp2
  go_loopw [5] (fun x wr => ∃ i : Nat, i ≤ D.length ∧ x = .int .i64 i ∧ Below w.heap.size w wr) (fun x _ => D.length - (intOf x).toNat)
  case atStart => exact ⟨0, by omega, rfl, Below.refl _ _⟩
  case round =>
    obtain ⟨i, hi, rfl, hb⟩ := hrel
    by_cases hlt : i < D.length
    · have i1 : (i : Int) < (D.length : Int) := by omega
      have i2 : (0 : Int) ≤ (i : Int) := by omega
      obtain ⟨b1, o1, hb1, q1, x1⟩ := (H1.out.keep hb).one i hlt
      obtain ⟨b2, o2, hb2, q2, x2⟩ := (H2.out.keep hb).one i hlt
      subst hb1 hb2
      have HXY : Hid (∀ u, Below wr.heap.size wr u → u.cell? ⟨b1, o1 + i, none⟩ = some (.int .i64 (iAt D i)) ∧ u.cell? ⟨b2, o2 + i, none⟩ = some (.int .i64 (iAt D i))) := Lib.hid fun u hu => by
        obtain ⟨b3, o3, e1, -, y1⟩ := (H1.out.keep (hb.trans (hu.mono hb.size))).one i hlt
        obtain ⟨b4, o4, e2, -, y2⟩ := (H2.out.keep (hb.trans (hu.mono hb.size))).one i hlt
        injection e1 with e1; injection e1 with e3 e4
        injection e2 with e2; injection e2 with e5 e6
        subst e3 e4 e5 e6
        exact ⟨y1, y2⟩
      have HBr := Lib.hid hb
      clear hb x1 x2
      generalize iAt D i = z at *
      have d2 : (z != z) = false := by simp
      go_wp2
      have hj0 : Below wr.heap.size wr wr.drew := (Below.refl _ _).drew
      refine wp_region_late (S := fun u => Below wr.heap.size wr u) (X := []) (by kernel_rfl) ?_
      refine wpAnyL_pureD (i := 0) 17 (.slice (some ⟨b1, o1, none⟩) D.length c) rfl rfl (by kernel_rfl) (by kernel_rfl) (by kernel_rfl) (fun _ _ _ h => h) (Or.inl ⟨by rfl, fun u _ => ?_⟩) ?_
      · go_simp
      try simp only [Act.put, List.setIfInBounds_toArray, List.set_cons_zero, List.set_cons_succ]
      refine wpAnyL_pureD (i := 1) 18 (.int .i64 i) rfl rfl (by kernel_rfl) (by kernel_rfl) (by kernel_rfl) (fun _ _ _ h => h) (Or.inl ⟨by rfl, fun u _ => ?_⟩) ?_
      · go_simp
      try simp only [Act.put, List.setIfInBounds_toArray, List.set_cons_zero, List.set_cons_succ]
      refine wpAnyL_pureD (i := 2) 19 (.pointer (some ⟨b1, o1 + i, none⟩)) rfl rfl (by kernel_rfl) (by kernel_rfl) (by kernel_rfl) (fun _ _ _ h => h) (Or.inl ⟨by rfl, fun u _ => ?_⟩) ?_
      · go_simp
      try simp only [Act.put, List.setIfInBounds_toArray, List.set_cons_zero, List.set_cons_succ]
      refine wpAnyL_takeD (i := 3) 20 (.int .i64 z) rfl rfl (by kernel_rfl) (by kernel_rfl) (by kernel_rfl) (by kernel_rfl) (by kernel_rfl) (fun _ _ _ h => h) hj0 (Or.inl ⟨by rfl, fun u hu => ?_⟩) ?_
      · obtain ⟨t0, t1⟩ := HXY.out u hu
        go_simp
      try simp only [Act.put, List.setIfInBounds_toArray, List.set_cons_zero, List.set_cons_succ]
      refine wpAnyL_pureD (i := 4) 21 (.slice (some ⟨b2, o2, none⟩) D.length d) rfl rfl (by kernel_rfl) (by kernel_rfl) (by kernel_rfl) (fun _ _ _ h => h) (Or.inl ⟨by rfl, fun u _ => ?_⟩) ?_
      · go_simp
      try simp only [Act.put, List.setIfInBounds_toArray, List.set_cons_zero, List.set_cons_succ]
      refine wpAnyL_pureD (i := 5) 22 (.int .i64 i) rfl rfl (by kernel_rfl) (by kernel_rfl) (by kernel_rfl) (fun _ _ _ h => h) (Or.inl ⟨by rfl, fun u _ => ?_⟩) ?_
      · go_simp
      try simp only [Act.put, List.setIfInBounds_toArray, List.set_cons_zero, List.set_cons_succ]
      refine wpAnyL_pureD (i := 6) 23 (.pointer (some ⟨b2, o2 + i, none⟩)) rfl rfl (by kernel_rfl) (by kernel_rfl) (by kernel_rfl) (fun _ _ _ h => h) (Or.inl ⟨by rfl, fun u _ => ?_⟩) ?_
      · go_simp
      try simp only [Act.put, List.setIfInBounds_toArray, List.set_cons_zero, List.set_cons_succ]
      refine wpAnyL_takeD (i := 7) 24 (.int .i64 z) rfl rfl (by kernel_rfl) (by kernel_rfl) (by kernel_rfl) (by kernel_rfl) (by kernel_rfl) (fun _ _ _ h => h) hj0 (Or.inl ⟨by rfl, fun u hu => ?_⟩) ?_
      · obtain ⟨t0, t1⟩ := HXY.out u hu
        go_simp
      try simp only [Act.put, List.setIfInBounds_toArray, List.set_cons_zero, List.set_cons_succ]
      refine wpAnyL_pureD (i := 8) 25 (.bool false) rfl rfl (by kernel_rfl) (by kernel_rfl) (by kernel_rfl) (fun _ _ _ h => h) (Or.inl ⟨by rfl, fun u _ => ?_⟩) ?_
      · go_simp
      try simp only [Act.put, List.setIfInBounds_toArray, List.set_cons_zero, List.set_cons_succ]
      refine wpAnyL_done (by kernel_rfl) ?_ _
      try simp only [Act.put, List.setIfInBounds_toArray, List.set_cons_zero, List.set_cons_succ]
      have HBN := Lib.hid (HBr.out.trans (hj0.mono HBr.out.size))
      clear hj0
      go_wp2
      go_roundw
      case rel => exact ⟨i + 1, by omega, by go_num, HBN.out⟩
      case measure => simp [intOf]; omega
    · obtain rfl : i = D.length := by omega
      have i1 : ¬ (D.length : Int) < (D.length : Int) := by omega
      have HEND := Lib.hid hb
      clear hb
      go_wp2
      go_ret
      exact ⟨rfl, HEND.out⟩
set_option maxHeartbeats 12800000 in
set_option maxRecDepth 100000 in
theorem pequalD_true (a b : Option Addr) (c d : Nat) (D : List Int) (hD : D.length ≤ 100000) (w : World) (h1 : IsAt w a D) (h2 : IsAt w b D) :
    Calls Try.prog 56 #[.slice a D.length c, .slice b D.length d] w (fun e w' => e = .returned (.bool true) ∧ Below w.heap.size w w') := by
  have d1 : ((D.length : Int) != (D.length : Int)) = false := by simp
  have H1 := Lib.hid h1
  have H2 := Lib.hid h2
  clear h1 h2
  go_enter Try.func56, Try.ntmps56
  go_wp2
  go_loopw [13] (fun x wr => ∃ i : Nat, i ≤ D.length ∧ x = .int .i64 i ∧ Below w.heap.size w wr) (fun x _ => D.length - (intOf x).toNat)
  case atStart => exact ⟨0, by omega, rfl, Below.refl _ _⟩
  case round =>
    obtain ⟨i, hi, rfl, hb⟩ := hrel
    by_cases hlt : i < D.length
    · have i1 : (i : Int) < (D.length : Int) := by omega
      have i2 : (0 : Int) ≤ (i : Int) := by omega
      obtain ⟨b1, o1, hb1, q1, x1⟩ := (H1.out.keep hb).one i hlt
      obtain ⟨b2, o2, hb2, q2, x2⟩ := (H2.out.keep hb).one i hlt
      subst hb1 hb2
      have HXY : Hid (∀ u, Below wr.heap.size wr u → u.cell? ⟨b1, o1 + i, none⟩ = some (.int .i64 (iAt D i)) ∧ u.cell? ⟨b2, o2 + i, none⟩ = some (.int .i64 (iAt D i))) := Lib.hid fun u hu => by
        obtain ⟨b3, o3, e1, -, y1⟩ := (H1.out.keep (hb.trans (hu.mono hb.size))).one i hlt
        obtain ⟨b4, o4, e2, -, y2⟩ := (H2.out.keep (hb.trans (hu.mono hb.size))).one i hlt
        injection e1 with e1; injection e1 with e3 e4
        injection e2 with e2; injection e2 with e5 e6
        subst e3 e4 e5 e6
        exact ⟨y1, y2⟩
      have HBr := Lib.hid hb
      clear hb x1 x2
      generalize iAt D i = z at *
      have d2 : (z != z) = false := by simp
      go_wp2
      have hj0 : Below wr.heap.size wr wr.drew := (Below.refl _ _).drew
      refine wp_region_late (S := fun u => Below wr.heap.size wr u) (X := []) (by kernel_rfl) ?_
      refine wpAnyL_pureD (i := 0) 16 (.slice (some ⟨b1, o1, none⟩) D.length c) rfl rfl (by kernel_rfl) (by kernel_rfl) (by kernel_rfl) (fun _ _ _ h => h) (Or.inl ⟨by rfl, fun u _ => ?_⟩) ?_
      · go_simp
      try simp only [Act.put, List.setIfInBounds_toArray, List.set_cons_zero, List.set_cons_succ]
      refine wpAnyL_pureD (i := 1) 17 (.int .i64 i) rfl rfl (by kernel_rfl) (by kernel_rfl) (by kernel_rfl) (fun _ _ _ h => h) (Or.inl ⟨by rfl, fun u _ => ?_⟩) ?_
      · go_simp
      try simp only [Act.put, List.setIfInBounds_toArray, List.set_cons_zero, List.set_cons_succ]
      refine wpAnyL_pureD (i := 2) 18 (.pointer (some ⟨b1, o1 + i, none⟩)) rfl rfl (by kernel_rfl) (by kernel_rfl) (by kernel_rfl) (fun _ _ _ h => h) (Or.inl ⟨by rfl, fun u _ => ?_⟩) ?_
      · go_simp
      try simp only [Act.put, List.setIfInBounds_toArray, List.set_cons_zero, List.set_cons_succ]
      refine wpAnyL_takeD (i := 3) 19 (.int .i64 z) rfl rfl (by kernel_rfl) (by kernel_rfl) (by kernel_rfl) (by kernel_rfl) (by kernel_rfl) (fun _ _ _ h => h) hj0 (Or.inl ⟨by rfl, fun u hu => ?_⟩) ?_
      · obtain ⟨t0, t1⟩ := HXY.out u hu
        go_simp
      try simp only [Act.put, List.setIfInBounds_toArray, List.set_cons_zero, List.set_cons_succ]
      refine wpAnyL_pureD (i := 4) 20 (.slice (some ⟨b2, o2, none⟩) D.length d) rfl rfl (by kernel_rfl) (by kernel_rfl) (by kernel_rfl) (fun _ _ _ h => h) (Or.inl ⟨by rfl, fun u _ => ?_⟩) ?_
      · go_simp
      try simp only [Act.put, List.setIfInBounds_toArray, List.set_cons_zero, List.set_cons_succ]
      refine wpAnyL_pureD (i := 5) 21 (.int .i64 i) rfl rfl (by kernel_rfl) (by kernel_rfl) (by kernel_rfl) (fun _ _ _ h => h) (Or.inl ⟨by rfl, fun u _ => ?_⟩) ?_
      · go_simp
      try simp only [Act.put, List.setIfInBounds_toArray, List.set_cons_zero, List.set_cons_succ]
      refine wpAnyL_pureD (i := 6) 22 (.pointer (some ⟨b2, o2 + i, none⟩)) rfl rfl (by kernel_rfl) (by kernel_rfl) (by kernel_rfl) (fun _ _ _ h => h) (Or.inl ⟨by rfl, fun u _ => ?_⟩) ?_
      · go_simp
      try simp only [Act.put, List.setIfInBounds_toArray, List.set_cons_zero, List.set_cons_succ]
      refine wpAnyL_takeD (i := 7) 23 (.int .i64 z) rfl rfl (by kernel_rfl) (by kernel_rfl) (by kernel_rfl) (by kernel_rfl) (by kernel_rfl) (fun _ _ _ h => h) hj0 (Or.inl ⟨by rfl, fun u hu => ?_⟩) ?_
      · obtain ⟨t0, t1⟩ := HXY.out u hu
        go_simp
      try simp only [Act.put, List.setIfInBounds_toArray, List.set_cons_zero, List.set_cons_succ]
      refine wpAnyL_pureD (i := 8) 24 (.bool false) rfl rfl (by kernel_rfl) (by kernel_rfl) (by kernel_rfl) (fun _ _ _ h => h) (Or.inl ⟨by rfl, fun u _ => ?_⟩) ?_
      · go_simp
      try simp only [Act.put, List.setIfInBounds_toArray, List.set_cons_zero, List.set_cons_succ]
      refine wpAnyL_done (by kernel_rfl) ?_ _
      try simp only [Act.put, List.setIfInBounds_toArray, List.set_cons_zero, List.set_cons_succ]
      have HBN := Lib.hid (HBr.out.trans (hj0.mono HBr.out.size))
      clear hj0
      go_wp2
      go_roundw
      case rel => exact ⟨i + 1, by omega, by go_num, HBN.out⟩
      case measure => simp [intOf]; omega
    · obtain rfl : i = D.length := by omega
      have i1 : ¬ (D.length : Int) < (D.length : Int) := by omega
      have HEND := Lib.hid hb
      clear hb
      go_wp2
      go_ret
      exact ⟨rfl, HEND.out⟩
def fewG (n : Int) (L : List E) : Bool := decide (L.length ≤ 40) && (decide (chkG n L ≠ 0) || (decide (n ≤ 6) && decide (sizeG L ≤ 9)))
theorem few_len {n : Int} {L : List E} (h : fewG n L = true) : L.length ≤ 40 := by
  unfold fewG at h
  simp only [Bool.and_eq_true, decide_eq_true_eq] at h
  exact h.1
theorem few_size {n : Int} {L : List E} (h : fewG n L = true) (hk : chkG n L = 0) : n ≤ 6 ∧ sizeG L ≤ 9 := by
  unfold fewG at h
  simp only [Bool.and_eq_true, Bool.or_eq_true, decide_eq_true_eq] at h
  rcases h.2 with h1 | h1
  · exact absurd hk h1
  · exact h1
set_option maxHeartbeats 12800000 in
set_option maxRecDepth 100000 in
theorem small_long (n : Int) (a : Option Addr) (cap : Nat) (L : List E) (hl : 40 < L.length) (w : World) (h : EsAt w a L) :
    Calls Try.prog 54 #[gv n a L.length cap, .int .i64 6, .int .i64 9] w (GivesB w false) := by
  unfold GivesB gv
  obtain ⟨W, hW⟩ : ∃ W, W = w.alloc (Obj.cells #[.int .i64 n, .slice a L.length cap] 24) := ⟨_, rfl⟩
  have hB0 : Below w.heap.size w W := by rw [hW]; exact (Below.refl _ w).alloc (Nat.le_refl _) _
  have hG : Blk W w.heap.size 24 #[.int .i64 n, .slice a L.length cap] := by rw [hW]; exact Blk.new _ _ _
  have HW := Lib.hid hW
  have HB0 := Lib.hid hB0
  have hEz : EsAt W a L := h.keep hB0
  have HF : Hid (∀ x, Below W.heap.size W x → x.cell? ⟨w.heap.size, 0, none⟩ = some (.int .i64 n) ∧ x.cell? ⟨w.heap.size, 1, none⟩ = some (.slice a L.length cap) ∧ EsAt x a L) := Lib.hid fun x hx => ⟨(hG.below hx hG.lt).cell 0, (hG.below hx hG.lt).cell 1, hEz.keep hx⟩
  have hk0 : Below W.heap.size W W := Below.refl _ _
  obtain ⟨g0, g1, -⟩ := HF.out W hk0
  clear hB0 hG hW hEz h
  have l1 : (40 : Int) < (L.length : Int) := by omega
  go_enter Try.func54, Try.ntmps54
  go_wp2
  rw [← HW.out]
  go_ret
  exact ⟨rfl, HB0.out⟩
set_option maxHeartbeats 12800000 in
set_option maxRecDepth 100000 in
theorem small_err (n : Int) (a : Option Addr) (cap : Nat) (L : List E) (hl : L.length ≤ 40) (k : Nat) (hk : k ≠ 0) (HC : Hid (∀ w, EsAt w a L → Calls Try.prog 25 #[.agg #[.int .i64 n, .slice a L.length cap]] w (fun e w' => e = .returned (.int .i64 (k : Int)) ∧ Below w.heap.size w w'))) (w : World) (h : EsAt w a L) :
    Calls Try.prog 54 #[gv n a L.length cap, .int .i64 6, .int .i64 9] w (GivesB w true) := by
  unfold GivesB gv
  obtain ⟨W, hW⟩ : ∃ W, W = w.alloc (Obj.cells #[.int .i64 n, .slice a L.length cap] 24) := ⟨_, rfl⟩
  have hB0 : Below w.heap.size w W := by rw [hW]; exact (Below.refl _ w).alloc (Nat.le_refl _) _
  have hG : Blk W w.heap.size 24 #[.int .i64 n, .slice a L.length cap] := by rw [hW]; exact Blk.new _ _ _
  have HW := Lib.hid hW
  have HB0 := Lib.hid hB0
  have hEz : EsAt W a L := h.keep hB0
  have HF : Hid (∀ x, Below W.heap.size W x → x.cell? ⟨w.heap.size, 0, none⟩ = some (.int .i64 n) ∧ x.cell? ⟨w.heap.size, 1, none⟩ = some (.slice a L.length cap) ∧ EsAt x a L) := Lib.hid fun x hx => ⟨(hG.below hx hG.lt).cell 0, (hG.below hx hG.lt).cell 1, hEz.keep hx⟩
  have hk0 : Below W.heap.size W W := Below.refl _ _
  obtain ⟨g0, g1, -⟩ := HF.out W hk0
  clear hB0 hG hW hEz h
  have l1 : ¬ (40 : Int) < (L.length : Int) := by omega
  have q0 : (((k : Nat) : Int) != 0) = true := by rw [bne_iff_ne]; omega
  go_enter Try.func54, Try.ntmps54
  go_wp2_with fail
  rw [← HW.out]
  refine (HC.out _ (HF.out W hk0).2.2).mono ?_
  rintro e x1 ⟨rfl, hb1⟩
  have hk1 : Below W.heap.size W x1 := hk0.trans (hb1.mono hk0.size)
  clear hb1 hk0 g0 g1
  obtain ⟨g0, g1, -⟩ := HF.out x1 hk1
  have HEND := Lib.hid (HB0.out.trans (hk1.mono HB0.out.size))
  clear hk1 g0 g1
  go_wp2
  go_ret
  exact ⟨rfl, HEND.out⟩
set_option maxHeartbeats 12800000 in
set_option maxRecDepth 100000 in
theorem small_many (n : Int) (a : Option Addr) (cap : Nat) (L : List E) (hl : L.length ≤ 40) (hn : 6 < n) (HC : Hid (∀ w, EsAt w a L → Calls Try.prog 25 #[.agg #[.int .i64 n, .slice a L.length cap]] w (fun e w' => e = .returned (.int .i64 0) ∧ Below w.heap.size w w'))) (w : World) (h : EsAt w a L) :
    Calls Try.prog 54 #[gv n a L.length cap, .int .i64 6, .int .i64 9] w (GivesB w false) := by
  unfold GivesB gv
  obtain ⟨W, hW⟩ : ∃ W, W = w.alloc (Obj.cells #[.int .i64 n, .slice a L.length cap] 24) := ⟨_, rfl⟩
  have hB0 : Below w.heap.size w W := by rw [hW]; exact (Below.refl _ w).alloc (Nat.le_refl _) _
  have hG : Blk W w.heap.size 24 #[.int .i64 n, .slice a L.length cap] := by rw [hW]; exact Blk.new _ _ _
  have HW := Lib.hid hW
  have HB0 := Lib.hid hB0
  have hEz : EsAt W a L := h.keep hB0
  have HF : Hid (∀ x, Below W.heap.size W x → x.cell? ⟨w.heap.size, 0, none⟩ = some (.int .i64 n) ∧ x.cell? ⟨w.heap.size, 1, none⟩ = some (.slice a L.length cap) ∧ EsAt x a L) := Lib.hid fun x hx => ⟨(hG.below hx hG.lt).cell 0, (hG.below hx hG.lt).cell 1, hEz.keep hx⟩
  have hk0 : Below W.heap.size W W := Below.refl _ _
  obtain ⟨g0, g1, -⟩ := HF.out W hk0
  clear hB0 hG hW hEz h
  have l1 : ¬ (40 : Int) < (L.length : Int) := by omega
  have l2 : decide (n ≤ 6) = false := decide_eq_false (by omega)
  go_enter Try.func54, Try.ntmps54
  go_wp2_with fail
  rw [← HW.out]
  refine (HC.out _ (HF.out W hk0).2.2).mono ?_
  rintro e x1 ⟨rfl, hb1⟩
  have hk1 : Below W.heap.size W x1 := hk0.trans (hb1.mono hk0.size)
  clear hb1 hk0 g0 g1
  obtain ⟨g0, g1, -⟩ := HF.out x1 hk1
  have HEND := Lib.hid (HB0.out.trans (hk1.mono HB0.out.size))
  clear hk1
  go_wp2
  go_ret
  exact ⟨rfl, HEND.out⟩
set_option maxHeartbeats 12800000 in
set_option maxRecDepth 100000 in
theorem small_ok (n : Int) (a : Option Addr) (cap : Nat) (L : List E) (hl : L.length ≤ 40) (hn : n ≤ 6) (S : Int) (HC : Hid (∀ w, EsAt w a L → Calls Try.prog 25 #[.agg #[.int .i64 n, .slice a L.length cap]] w (fun e w' => e = .returned (.int .i64 0) ∧ Below w.heap.size w w'))) (HZ : Hid (∀ w, EsAt w a L → Calls Try.prog 26 #[.agg #[.int .i64 n, .slice a L.length cap]] w (fun e w' => e = .returned (.int .i64 S) ∧ Below w.heap.size w w'))) (w : World) (h : EsAt w a L) :
    Calls Try.prog 54 #[gv n a L.length cap, .int .i64 6, .int .i64 9] w (GivesB w (decide (S ≤ 9))) := by
  unfold GivesB gv
  obtain ⟨W, hW⟩ : ∃ W, W = w.alloc (Obj.cells #[.int .i64 n, .slice a L.length cap] 24) := ⟨_, rfl⟩
  have hB0 : Below w.heap.size w W := by rw [hW]; exact (Below.refl _ w).alloc (Nat.le_refl _) _
  have hG : Blk W w.heap.size 24 #[.int .i64 n, .slice a L.length cap] := by rw [hW]; exact Blk.new _ _ _
  have HW := Lib.hid hW
  have HB0 := Lib.hid hB0
  have hEz : EsAt W a L := h.keep hB0
  have HF : Hid (∀ x, Below W.heap.size W x → x.cell? ⟨w.heap.size, 0, none⟩ = some (.int .i64 n) ∧ x.cell? ⟨w.heap.size, 1, none⟩ = some (.slice a L.length cap) ∧ EsAt x a L) := Lib.hid fun x hx => ⟨(hG.below hx hG.lt).cell 0, (hG.below hx hG.lt).cell 1, hEz.keep hx⟩
  have hk0 : Below W.heap.size W W := Below.refl _ _
  obtain ⟨g0, g1, -⟩ := HF.out W hk0
  clear hB0 hG hW hEz h
  have l1 : ¬ (40 : Int) < (L.length : Int) := by omega
  go_enter Try.func54, Try.ntmps54
  go_wp2_with fail
  rw [← HW.out]
  refine (HC.out _ (HF.out W hk0).2.2).mono ?_
  rintro e x1 ⟨rfl, hb1⟩
  have hk1 : Below W.heap.size W x1 := hk0.trans (hb1.mono hk0.size)
  clear hb1 hk0 g0 g1
  obtain ⟨g0, g1, -⟩ := HF.out x1 hk1
  go_wp2_with fail
  refine (HZ.out _ (HF.out x1 hk1).2.2).mono ?_
  rintro e x2 ⟨rfl, hb2⟩
  have hk2 : Below W.heap.size W x2 := hk1.trans (hb2.mono hk1.size)
  clear hb2 hk1 g0 g1
  obtain ⟨g0, g1, -⟩ := HF.out x2 hk2
  have HEND := Lib.hid (HB0.out.trans (hk2.mono HB0.out.size))
  clear hk2 g0 g1
  go_wp2
  go_ret
  exact ⟨rfl, HEND.out⟩
theorem small_any (n : Int) (a : Option Addr) (cap : Nat) (L : List E) (w : World) (h : EsAt w a L) :
    Calls Try.prog 54 #[gv n a L.length cap, .int .i64 6, .int .i64 9] w (GivesB w (fewG n L)) := by
  have HF : fewG n L = (decide (L.length ≤ 40) && (decide (chkG n L ≠ 0) || (decide (n ≤ 6) && decide (sizeG L ≤ 9)))) := rfl
  by_cases hl : L.length ≤ 40
  · rw [decide_eq_true hl, Bool.true_and] at HF
    by_cases hk : chkG n L = 0
    · have hR := right_of hk
      have HC : Hid (∀ w, EsAt w a L → Calls Try.prog 25 #[.agg #[.int .i64 n, .slice a L.length cap]] w (fun e w' => e = .returned (.int .i64 0) ∧ Below w.heap.size w w')) := Lib.hid fun w h => by have := rcheck_any n a cap L (by omega) w h; rw [hk] at this; exact this
      rw [decide_eq_false (by omega), Bool.false_or] at HF
      by_cases hn : n ≤ 6
      · rw [decide_eq_true hn, Bool.true_and] at HF
        rw [HF]
        exact small_ok n a cap L hl hn (sizeG L) HC (Lib.hid fun w h => rsize_any n a cap L (by omega) hR w h) w h
      · rw [decide_eq_false hn, Bool.false_and] at HF
        rw [HF]
        exact small_many n a cap L hl (by omega) HC w h
    · rw [decide_eq_true hk, Bool.true_or] at HF
      rw [HF]
      exact small_err n a cap L hl (chkG n L) hk (Lib.hid fun w h => rcheck_any n a cap L (by omega) w h) w h
  · rw [decide_eq_false hl, Bool.false_and] at HF
    rw [HF]
    exact small_long n a cap L (by omega) w h
set_option maxHeartbeats 12800000 in
set_option maxRecDepth 100000 in
theorem few_of (n : Int) (a : Option Addr) (cap : Nat) (L : List E) (R : Bool) (HS : Hid (∀ w, EsAt w a L → Calls Try.prog 54 #[.agg #[.int .i64 n, .slice a L.length cap], .int .i64 6, .int .i64 9] w (fun e w' => e = .returned (.bool R) ∧ Below w.heap.size w w'))) (w : World) (h : EsAt w a L) :
    Calls Try.prog 12 #[gv n a L.length cap] w (GivesB w R) := by
  unfold GivesB gv
  obtain ⟨W, hW⟩ : ∃ W, W = w.alloc (Obj.cells #[.int .i64 n, .slice a L.length cap] 24) := ⟨_, rfl⟩
  have hB0 : Below w.heap.size w W := by rw [hW]; exact (Below.refl _ w).alloc (Nat.le_refl _) _
  have hG : Blk W w.heap.size 24 #[.int .i64 n, .slice a L.length cap] := by rw [hW]; exact Blk.new _ _ _
  have HW := Lib.hid hW
  have HB0 := Lib.hid hB0
  have hEz : EsAt W a L := h.keep hB0
  have HF : Hid (∀ x, Below W.heap.size W x → x.cell? ⟨w.heap.size, 0, none⟩ = some (.int .i64 n) ∧ x.cell? ⟨w.heap.size, 1, none⟩ = some (.slice a L.length cap) ∧ EsAt x a L) := Lib.hid fun x hx => ⟨(hG.below hx hG.lt).cell 0, (hG.below hx hG.lt).cell 1, hEz.keep hx⟩
  have hk0 : Below W.heap.size W W := Below.refl _ _
  obtain ⟨g0, g1, -⟩ := HF.out W hk0
  clear hB0 hG hW hEz h
  go_enter Try.func12, Try.ntmps12
  go_wp2_with fail
  rw [← HW.out]
  refine (HS.out _ (HF.out W hk0).2.2).mono ?_
  rintro e x1 ⟨rfl, hb1⟩
  have hk1 : Below W.heap.size W x1 := hk0.trans (hb1.mono hk0.size)
  clear hb1 hk0 g0 g1
  obtain ⟨g0, g1, -⟩ := HF.out x1 hk1
  have HEND := Lib.hid (HB0.out.trans (hk1.mono HB0.out.size))
  clear hk1 g0 g1
  go_wp2
  go_ret
  exact ⟨rfl, HEND.out⟩
theorem few_any (n : Int) (a : Option Addr) (cap : Nat) (L : List E) (w : World) (h : EsAt w a L) :
    Calls Try.prog 12 #[gv n a L.length cap] w (GivesB w (fewG n L)) :=
  few_of n a cap L (fewG n L) (Lib.hid fun w h => small_any n a cap L w h) w h
theorem few_ends {n : Int} {L : List E} (hf : fewG n L = true) (hk : chkG n L = 0) : (endsG L).length ≤ 9 := by
  have h1 := endsG_len (right_of hk).rng
  have h2 := few_size hf hk
  omega
theorem FewHid {n : Int} {a : Option Addr} {cap : Nat} {L : List E} {b : Bool} (h : fewG n L = b) : Hid (∀ w, EsAt w a L → Calls Try.prog 12 #[.agg #[.int .i64 n, .slice a L.length cap]] w (fun e w' => e = .returned (.bool b) ∧ Below w.heap.size w w')) :=
  Lib.hid fun w hE => by have := few_any n a cap L w hE; rw [h] at this; exact this
theorem nat_of_right {n : Int} {L : List E} (hk : chkG n L = 0) : ∃ N : Nat, n = N ∧ 1 ≤ N ∧ N ≤ 12 := by
  have := chkG_n hk
  exact ⟨n.toNat, by omega, by omega, by omega⟩
end Go.Proofs.Ytlnaahkheankoaa

namespace Go.Proofs.Ytlnaahkheankoaa
open Go.RowKit

section
variable {P : Program} {ops : Array Oper} {Q : Exit → Act → World → Prop} {S : World → Prop} {X : List Nat} {l n : Nat}

theorem uponR {o : Oper} {a : Act} {K : Act → World → Prop} (r : Result Next) (h : o.upon P a K Q r) : o.uponIn (Fence.wide.inRound l) n P a K Q r := by
  unfold Oper.upon at h
  split at h
  · exact h
  · exact h
  · exact h
  · exact ⟨fun h9 => (by cases h9), CallsIn.inRound l (callsIn_wide.2 h)⟩
  · exact ⟨fun h9 => (by cases h9), fun c cs _ => let ⟨v, w', r, s⟩ := h c cs; ⟨v, w', r, stepsIn_wide.2 s⟩⟩
  · exact h
  · exact h.elim
theorem wpR {o : Oper} {a : Act} {w : World} {K : Act → World → Prop} (hd : ∀ c, o.op ≠ .defer c) (h : o.wp P a w K Q) : o.wpIn (Fence.wide.inRound l) n P a w K Q := by
  refine ⟨fun _ _ => trivial, ?_⟩
  rw [Oper.semAt_eq _ _ _ hd]
  exact uponR _ h
def noDefer (ops : Array Oper) : Bool := ops.all fun o => match o.op with | .defer _ => false | _ => true
theorem wpOpR {i : Nat} {a : Act} {w : World} {K : Act → World → Prop} (hd : noDefer ops = true) (hno : ∀ a w, ¬ Q .outgrown a w) (h : wpOp P ops Q i K a w) : wpOpIn (Fence.wide.inRound l) n P ops Q i K a w := by
  unfold wpOp at h
  unfold wpOpIn
  cases ho : ops[i]? with
  | none => rw [ho] at h; exact h
  | some o =>
    rw [ho] at h
    have h1 : ∀ c, o.op ≠ .defer c := by
      intro c hc
      have h2 := (Array.all_eq_true_iff_forall_mem.1 hd) o (Array.mem_of_getElem? ho)
      rw [hc] at h2; cases h2
    simp only at h ⊢
    split
    · rename_i hw
      rw [if_pos hw] at h
      rcases h with h | ⟨-, a9, w9, h9⟩
      · exact wpR h1 h
      · exact absurd h9 (hno _ _)
    · rename_i hw
      rw [if_neg hw] at h
      exact ⟨fun _ _ => trivial, h⟩
theorem wpAnyR {md : Region.Mode} (hd : noDefer ops = true) (hno : ∀ a w, ¬ Q .outgrown a w) : ∀ (fuel : Nat) (listed : Array Bool) (a : Act) (w : World), wpAny P md ops Q fuel listed a w → wpAnyIn (Fence.wide.inRound l) n P md ops Q fuel listed a w
  | 0, _, _, _, h => h
  | fuel + 1, _, _, _, h => ⟨h.1, fun i hi => wpOpR hd hno (wpOp_mono (fun a' w' h' => wpAnyR hd hno fuel _ a' w' h') (h.2 i hi))⟩
theorem wpIn_region_lateR {id : Nat} {a : Act} {w : World} (hm : P.follows .mixedOrders = true) (hd : noDefer ops = true) (hno : ∀ a w, ¬ Q .outgrown a w)
    (h : wpAnyL P .any ops Q S X ops.size (Array.replicate ops.size false) a w.drew) : (Code.region id ops true).wpIn (Fence.wide.inRound l) n P Q a w :=
  wpIn_region_any hm (wpAnyR hd hno _ _ _ _ (wpAny_of_late _ _ _ _ h))
end
end Go.Proofs.Ytlnaahkheankoaa
