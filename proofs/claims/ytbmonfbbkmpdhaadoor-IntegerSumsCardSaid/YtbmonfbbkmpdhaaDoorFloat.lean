/- A region that draws its order and holds three calls in a row, and two boxes that are made at any time. -/
import Derived.Test.YtbmonfbbkmpdhaaDoorLate
import Derived.Test.YtbmonfbbkmpdhaaDoorKept
namespace Go.Proofs.YtbmonfbbkmpdhaaDoor
open Go.RowKit Go.Proofs.Num

def ptr (p : Nat) : Value := .pointer (some ⟨p, 0, none⟩)
def stK (T : Act → Value → Act) (X0 : Act) (d1 d2 d3 : Nat) (v1 v2 v3 : Value) : Nat → Act
  | 0 => X0
  | 1 => X0.put (some d1) v1
  | 2 => (X0.put (some d1) v1).put (some d2) v2
  | _ => T (((X0.put (some d1) v1).put (some d2) v2).put (some d3) v3) v3
def putB (a : Act) (e : Nat) (b : Bool) (p : Nat) : Act := match b with | true => a.put (some e) (ptr p) | false => a
/-- The state with k calls done, and the boxes p and q made or not. -/
def stF (T : Act → Value → Act) (X0 : Act) (d1 d2 d3 e1 e2 : Nat) (k : Nat) (b1 b2 : Bool) (v1 v2 v3 : Value) (p q : Nat) : Act := putB (putB (stK T X0 d1 d2 d3 v1 v2 v3 k) e1 b1 p) e2 b2 q

theorem putB_put (a : Act) (e d : Nat) (b : Bool) (p : Nat) (v : Value) (h : d ≠ e) : (putB a e b p).put (some d) v = putB (a.put (some d) v) e b p := by
  cases b
  · rfl
  · exact Act.put_comm (x := some e) (y := some d) a (ptr p) v (fun x hx hy => h (by cases hx; cases hy; rfl))

theorem stF_call0 (T : Act → Value → Act) (X0 : Act) (d1 d2 d3 e1 e2 : Nat) (b1 b2 : Bool) (v1 v2 v3 v : Value) (p q : Nat) (h11 : d1 ≠ e1) (h12 : d1 ≠ e2) :
    (stF T X0 d1 d2 d3 e1 e2 0 b1 b2 v1 v2 v3 p q).put (some d1) v = stF T X0 d1 d2 d3 e1 e2 1 b1 b2 v v2 v3 p q := by
  show (putB (putB _ e1 b1 p) e2 b2 q).put (some d1) v = _
  rw [putB_put _ _ _ _ _ _ h12, putB_put _ _ _ _ _ _ h11]; rfl
theorem stF_call1 (T : Act → Value → Act) (X0 : Act) (d1 d2 d3 e1 e2 : Nat) (b1 b2 : Bool) (v1 v2 v3 v : Value) (p q : Nat) (h21 : d2 ≠ e1) (h22 : d2 ≠ e2) :
    (stF T X0 d1 d2 d3 e1 e2 1 b1 b2 v1 v2 v3 p q).put (some d2) v = stF T X0 d1 d2 d3 e1 e2 2 b1 b2 v1 v v3 p q := by
  show (putB (putB _ e1 b1 p) e2 b2 q).put (some d2) v = _
  rw [putB_put _ _ _ _ _ _ h22, putB_put _ _ _ _ _ _ h21]; rfl

theorem stF_one (T : Act → Value → Act) (X0 : Act) (d1 d2 d3 e1 e2 k : Nat) (b2 : Bool) (v1 v2 v3 : Value) (p0 p q : Nat) (h : e1 ≠ e2) :
    (stF T X0 d1 d2 d3 e1 e2 k false b2 v1 v2 v3 p0 q).put (some e1) (ptr p) = stF T X0 d1 d2 d3 e1 e2 k true b2 v1 v2 v3 p q := by
  unfold stF
  rw [putB_put _ _ _ _ _ _ h]; rfl
theorem stF_two (T : Act → Value → Act) (X0 : Act) (d1 d2 d3 e1 e2 k : Nat) (b1 : Bool) (v1 v2 v3 : Value) (p q0 q : Nat) :
    (stF T X0 d1 d2 d3 e1 e2 k b1 false v1 v2 v3 p q0).put (some e2) (ptr q) = stF T X0 d1 d2 d3 e1 e2 k b1 true v1 v2 v3 p q := rfl

theorem put_other (a : Act) (d j : Nat) (v : Value) (h : j ≠ d) : (a.put (some d) v).tmps[j]? = a.tmps[j]? := by
  show (a.tmps.setIfInBounds d v)[j]? = _
  rw [Array.getElem?_setIfInBounds_ne (Ne.symm h)]
theorem put_same (a : Act) (d : Nat) (v : Value) (h : d < a.tmps.size) : (a.put (some d) v).tmps[d]? = some v := by
  show (a.tmps.setIfInBounds d v)[d]? = _
  simp [h]
theorem putB_other (a : Act) (e j : Nat) (b : Bool) (p : Nat) (h : j ≠ e) : (putB a e b p).tmps[j]? = a.tmps[j]? := by
  cases b
  · rfl
  · exact put_other a e j _ h
theorem put_size (a : Act) (d : Nat) (v : Value) : (a.put (some d) v).tmps.size = a.tmps.size := by
  show (a.tmps.setIfInBounds d v).size = _
  simp

/-- A box without a sign and without words. -/
def ZBox : Obj := .cells #[.bool false, .slice none 0 0] 73
def Zero (w : World) (p : Nat) : Prop := Box 73 w p (.bool false) (.slice none 0 0)
theorem zero_new (w : World) : Zero (w.alloc ZBox) w.heap.size := Box.new 73 w _ _

def nB (b : Bool) : Nat := match b with | true => 0 | false => 1
def fz : Nat → Nat
  | 0 => 6
  | 1 => 5
  | 2 => 4
  | _ => 0
def rB (b : Bool) (f : Nat) : List Nat := match b with | true => [] | false => [f]

section
variable {P : Program} {ops : Array Oper} {Q : Exit → Act → World → Prop} {md : Region.Mode} {X : List Nat} {V : World}

/-- One of several comes up. -/
theorem wpAnyL_some {S : World → Prop} {rs : List Nat} {fuel : Nat} {listed : Array Bool} {a : Act} {w : World} (hr : Region.ready md ops listed = rs) (hne : rs ≠ [])
    (h : ∀ i ∈ rs, ∃ o, ops[i]? = some o ∧ ∀ K' : Act → World → Prop, Shut (∀ a w', (S w → S w') → wpAnyL P md ops Q S X fuel (listed.setIfInBounds i true) a w' → K' a w') → if Region.wanted o (yielded ops a.tmps) = true then Oper.wp P o a w K' Q else K' (a.put o.dst undef) w) :
    wpAnyL P md ops Q S X (fuel + 1) listed a w := by
  refine ⟨fun h0 => absurd (hr ▸ h0) hne, fun j hj => ?_⟩
  rw [hr] at hj
  obtain ⟨o, ho, hh⟩ := h j hj
  exact wpOp_step ho (fun K' hK => hh K' (fun a w hS hW => hK a w ⟨fun _ => hS, hW⟩))

variable {T : Act → Value → Act} {X0 : Act} {d1 d2 d3 e1 e2 i1 i2 i3 f1 f2 : Nat} {o1 o2 o3 g1 g2 : Oper} {L : Nat → Bool → Bool → Array Bool} {R1 R2 R3 : Value → World → Prop} {F : Nat}

/-- What holds in a state. -/
def GoodF (V : World) (R1 R2 R3 : Value → World → Prop) (k : Nat) (b1 b2 : Bool) (v1 v2 v3 : Value) (p q : Nat) (u : World) : Prop :=
  Below V.heap.size V u ∧ (k = 1 → R1 v1 u) ∧ (k = 2 → R2 v2 u) ∧ (k = 3 → R3 v3 u) ∧ (b1 = true → Zero u p ∧ V.heap.size ≤ p) ∧ (b2 = true → Zero u q ∧ V.heap.size ≤ q) ∧ (b1 = true → b2 = true → p ≠ q)

def OkF (P : Program) (ops : Array Oper) (Q : Exit → Act → World → Prop) (md : Region.Mode) (X : List Nat) (V : World) (T : Act → Value → Act) (X0 : Act) (d1 d2 d3 e1 e2 : Nat) (L : Nat → Bool → Bool → Array Bool) (R1 R2 R3 : Value → World → Prop) (F : Nat) (k : Nat) (b1 b2 : Bool) : Prop :=
  ∀ (v1 v2 v3 : Value) (p q : Nat) (u : World), GoodF V R1 R2 R3 k b1 b2 v1 v2 v3 p q u →
    wpAnyL P md ops Q (fun u => Below V.heap.size V u) X (F + fz k + nB b1 + nB b2) (L k b1 b2) (stF T X0 d1 d2 d3 e1 e2 k b1 b2 v1 v2 v3 p q) u

theorem GoodF.below {V u u' : World} {R1 R2 R3 : Value → World → Prop} {k : Nat} {b1 b2 : Bool} {v1 v2 v3 : Value} {p q : Nat} (h : GoodF V R1 R2 R3 k b1 b2 v1 v2 v3 p q u) (hb : Below u.heap.size u u') : Below V.heap.size V u' := h.1.trans (hb.mono h.1.size)

/-- Number i is taken first; its place is named. -/
theorem wpAnyL_takeD {S : World → Prop} {i : Nat} (d : Nat) (v : Value) {oi : Oper} {fuel : Nat} {listed : Array Bool} {a : Act} {w : World} (hi : ops[i]? = some oi) (hd : oi.dst = some d)
    (hs : Region.noSelect ops = true) (hsh : shutBelowB md ops listed = true) (hX : X.all (fun j => waitsB md ops ops.size j i) = true) (hf : Region.free md ops listed i = true) (hr : (Region.ready md ops listed).contains i = true)
    (hQ : ∀ c a w, Q (.panic c) (a.put oi.dst v) w → Q (.panic c) a w) (hS : S w) (hy : YieldsIf P ops S oi v a)
    (h : wpAnyL P md ops Q S X fuel (listed.setIfInBounds i true) (a.put (some d) v) w) : wpAnyL P md ops Q S X (fuel + 1) listed a w :=
  wpAnyL_take hi hs hsh hX hf hr hQ hS hy (by rw [hd]; exact h)
theorem wpAnyL_pureD {S : World → Prop} {i : Nat} (d : Nat) (v : Value) {oi : Oper} {fuel : Nat} {listed : Array Bool} {a : Act} {w : World} (hi : ops[i]? = some oi) (hd : oi.dst = some d)
    (hs : Region.noSelect ops = true) (hf : Region.free md ops listed i = true) (hr : (Region.ready md ops listed).contains i = true)
    (hQ : ∀ c a w, Q (.panic c) (a.put oi.dst v) w → Q (.panic c) a w) (hy : YieldsIf P ops (fun _ => True) oi v a)
    (h : wpAnyL P md ops Q S X fuel (listed.setIfInBounds i true) (a.put (some d) v) w) : wpAnyL P md ops Q S X (fuel + 1) listed a w :=
  wpAnyL_pure hi hs hf hr hQ hy (by rw [hd]; exact h)

/-- What the calls and the boxes do, and in which order they may come up. -/
structure FloatH (P : Program) (ops : Array Oper) (Q : Exit → Act → World → Prop) (md : Region.Mode) (X : List Nat) (V : World) (T : Act → Value → Act) (X0 : Act) (d1 d2 d3 e1 e2 i1 i2 i3 f1 f2 : Nat) (o1 o2 o3 g1 g2 : Oper) (L : Nat → Bool → Bool → Array Bool) (R1 R2 R3 : Value → World → Prop) : Prop where
  n11 : d1 ≠ e1
  n12 : d1 ≠ e2
  n21 : d2 ≠ e1
  n22 : d2 ≠ e2
  n31 : d3 ≠ e1
  n32 : d3 ≠ e2
  n : e1 ≠ e2
  at1 : ops[i1]? = some o1
  at2 : ops[i2]? = some o2
  at3 : ops[i3]? = some o3
  at4 : ops[f1]? = some g1
  at5 : ops[f2]? = some g2
  r0 : ∀ b1 b2, Region.ready md ops (L 0 b1 b2) = i1 :: (rB b1 f1 ++ rB b2 f2)
  r1 : ∀ b1 b2, Region.ready md ops (L 1 b1 b2) = i2 :: (rB b1 f1 ++ rB b2 f2)
  r2 : ∀ b1 b2, Region.ready md ops (L 2 b1 b2) = i3 :: (rB b1 f1 ++ rB b2 f2)
  r3 : Region.ready md ops (L 3 false true) = [f1]
  r4 : Region.ready md ops (L 3 true false) = [f2]
  r5 : Region.ready md ops (L 3 false false) = [f1, f2]
  l1 : ∀ b1 b2, (L 0 b1 b2).setIfInBounds i1 true = L 1 b1 b2
  l2 : ∀ b1 b2, (L 1 b1 b2).setIfInBounds i2 true = L 2 b1 b2
  l4 : ∀ k b2, k ≤ 3 → (L k false b2).setIfInBounds f1 true = L k true b2
  l5 : ∀ k b1, k ≤ 3 → (L k b1 false).setIfInBounds f2 true = L k b1 true
  m1 : ∀ v u u', R1 v u → Below u.heap.size u u' → R1 v u'
  m2 : ∀ v u u', R2 v u → Below u.heap.size u u' → R2 v u'
  m3 : ∀ v u u', R3 v u → Below u.heap.size u u' → R3 v u'
  a1 : ∀ (a : Act) (u : World) (K : Act → World → Prop), K (a.put (some e1) (ptr u.heap.size)) (u.alloc ZBox) → if Region.wanted g1 (yielded ops a.tmps) = true then Oper.wp P g1 a u K Q else K (a.put g1.dst undef) u
  a2 : ∀ (a : Act) (u : World) (K : Act → World → Prop), K (a.put (some e2) (ptr u.heap.size)) (u.alloc ZBox) → if Region.wanted g2 (yielded ops a.tmps) = true then Oper.wp P g2 a u K Q else K (a.put g2.dst undef) u
  s1 : d1 < X0.tmps.size
  s2 : d2 < X0.tmps.size
  s3 : d3 < X0.tmps.size
  hT : ∀ (a : Act) (e : Nat) (b : Bool) (p : Nat) (v : Value), e = e1 ∨ e = e2 → putB (T a v) e b p = T (putB a e b p) v
  c1 : ∀ (a : Act) u (K : Act → World → Prop), (∀ j, j ≠ e1 → j ≠ e2 → a.tmps[j]? = X0.tmps[j]?) → Below V.heap.size V u → Shut (∀ v u', R1 v u' → Below u.heap.size u u' → K (a.put (some d1) v) u') →
    if Region.wanted o1 (yielded ops a.tmps) = true then Oper.wp P o1 a u K Q else K (a.put o1.dst undef) u
  c2 : ∀ (a : Act) v1 u (K : Act → World → Prop), (∀ j, j ≠ e1 → j ≠ e2 → j ≠ d1 → a.tmps[j]? = X0.tmps[j]?) → a.tmps[d1]? = some v1 → Below V.heap.size V u → R1 v1 u → Shut (∀ v u', R2 v u' → Below u.heap.size u u' → K (a.put (some d2) v) u') →
    if Region.wanted o2 (yielded ops a.tmps) = true then Oper.wp P o2 a u K Q else K (a.put o2.dst undef) u
  c3 : ∀ (a : Act) v2 u (K : Act → World → Prop), (∀ j, j ≠ e1 → j ≠ e2 → j ≠ d1 → j ≠ d2 → a.tmps[j]? = X0.tmps[j]?) → a.tmps[d2]? = some v2 → Below V.heap.size V u → R2 v2 u → Shut (∀ v u', R3 v u' → Below u.heap.size u u' → K (a.put (some d3) v) u') →
    if Region.wanted o3 (yielded ops a.tmps) = true then Oper.wp P o3 a u K Q else K (a.put o3.dst undef) u
  t3 : ∀ b1 b2 (a : Act) v u fuel, a.tmps[d3]? = some v → R3 v u → wpAnyL P md ops Q (fun u => Below V.heap.size V u) X fuel (L 3 b1 b2) (T a v) u →
    wpAnyL P md ops Q (fun u => Below V.heap.size V u) X (fuel + 3) ((L 2 b1 b2).setIfInBounds i3 true) a u

theorem mem_rB {b : Bool} {f i : Nat} (h : i ∈ rB b f) : b = false ∧ i = f := by
  cases b
  · exact ⟨rfl, by simpa [rB] using h⟩
  · simp [rB] at h

theorem Zero.keep {w w' : World} {p : Nat} (h : Zero w p) (hb : Below w.heap.size w w') : Zero w' p := Box.keep h hb

theorem GoodF.keep {V u u' : World} {R1 R2 R3 : Value → World → Prop} {k : Nat} {b1 b2 : Bool} {v1 v2 v3 : Value} {p q : Nat} (m1 : ∀ v u u', R1 v u → Below u.heap.size u u' → R1 v u') (m2 : ∀ v u u', R2 v u → Below u.heap.size u u' → R2 v u') (m3 : ∀ v u u', R3 v u → Below u.heap.size u u' → R3 v u')
    (h : GoodF V R1 R2 R3 k b1 b2 v1 v2 v3 p q u) (hb : Below u.heap.size u u') : GoodF V R1 R2 R3 k b1 b2 v1 v2 v3 p q u' :=
  ⟨h.below hb, fun e => m1 _ _ _ (h.2.1 e) hb, fun e => m2 _ _ _ (h.2.2.1 e) hb, fun e => m3 _ _ _ (h.2.2.2.1 e) hb, fun e => ⟨(h.2.2.2.2.1 e).1.keep hb, (h.2.2.2.2.1 e).2⟩, fun e => ⟨(h.2.2.2.2.2.1 e).1.keep hb, (h.2.2.2.2.2.1 e).2⟩, h.2.2.2.2.2.2⟩

/-- Box one is made. -/
theorem FloatH.one (H : FloatH P ops Q md X V T X0 d1 d2 d3 e1 e2 i1 i2 i3 f1 f2 o1 o2 o3 g1 g2 L R1 R2 R3) {k : Nat} {b2 : Bool} (hk : k ≤ 3) (hn : OkF P ops Q md X V T X0 d1 d2 d3 e1 e2 L R1 R2 R3 F k true b2)
    {v1 v2 v3 : Value} {p q : Nat} {u : World} (hg : GoodF V R1 R2 R3 k false b2 v1 v2 v3 p q u) (K : Act → World → Prop)
    (hK : Shut (∀ a w', (Below V.heap.size V u → Below V.heap.size V w') → wpAnyL P md ops Q (fun u => Below V.heap.size V u) X (F + fz k + nB true + nB b2) ((L k false b2).setIfInBounds f1 true) a w' → K a w')) :
    if Region.wanted g1 (yielded ops (stF T X0 d1 d2 d3 e1 e2 k false b2 v1 v2 v3 p q).tmps) = true then Oper.wp P g1 (stF T X0 d1 d2 d3 e1 e2 k false b2 v1 v2 v3 p q) u K Q else K ((stF T X0 d1 d2 d3 e1 e2 k false b2 v1 v2 v3 p q).put g1.dst undef) u := by
  refine H.a1 _ _ _ (hK.out _ _ (fun h => h.alloc h.size _) ?_)
  rw [H.l4 k b2 hk, stF_one _ _ _ _ _ _ _ _ _ _ _ _ _ _ _ H.n]
  have hg' := hg.keep H.m1 H.m2 H.m3 (below1 u ZBox)
  refine hn v1 v2 v3 _ q _ ⟨hg'.1, hg'.2.1, hg'.2.2.1, hg'.2.2.2.1, fun _ => ⟨zero_new u, hg.1.size⟩, hg'.2.2.2.2.2.1, fun _ e hpq => ?_⟩
  have := Box.lt (hg.2.2.2.2.2.1 e).1
  omega

theorem FloatH.two (H : FloatH P ops Q md X V T X0 d1 d2 d3 e1 e2 i1 i2 i3 f1 f2 o1 o2 o3 g1 g2 L R1 R2 R3) {k : Nat} {b1 : Bool} (hk : k ≤ 3) (hn : OkF P ops Q md X V T X0 d1 d2 d3 e1 e2 L R1 R2 R3 F k b1 true)
    {v1 v2 v3 : Value} {p q : Nat} {u : World} (hg : GoodF V R1 R2 R3 k b1 false v1 v2 v3 p q u) (K : Act → World → Prop)
    (hK : Shut (∀ a w', (Below V.heap.size V u → Below V.heap.size V w') → wpAnyL P md ops Q (fun u => Below V.heap.size V u) X (F + fz k + nB b1 + nB true) ((L k b1 false).setIfInBounds f2 true) a w' → K a w')) :
    if Region.wanted g2 (yielded ops (stF T X0 d1 d2 d3 e1 e2 k b1 false v1 v2 v3 p q).tmps) = true then Oper.wp P g2 (stF T X0 d1 d2 d3 e1 e2 k b1 false v1 v2 v3 p q) u K Q else K ((stF T X0 d1 d2 d3 e1 e2 k b1 false v1 v2 v3 p q).put g2.dst undef) u := by
  refine H.a2 _ _ _ (hK.out _ _ (fun h => h.alloc h.size _) ?_)
  rw [H.l5 k b1 hk, stF_two]
  have hg' := hg.keep H.m1 H.m2 H.m3 (below1 u ZBox)
  refine hn v1 v2 v3 p _ _ ⟨hg'.1, hg'.2.1, hg'.2.2.1, hg'.2.2.2.1, hg'.2.2.2.2.1, fun _ => ⟨zero_new u, hg.1.size⟩, fun e _ hpq => ?_⟩
  have := Box.lt (hg.2.2.2.2.1 e).1
  omega

/-- A call of the row is done. -/
theorem GoodF.next1 {u u' : World} {b1 b2 : Bool} {v1 v2 v3 v : Value} {p q : Nat} (h : GoodF V R1 R2 R3 0 b1 b2 v1 v2 v3 p q u) (hb : Below u.heap.size u u') (hv : R1 v u') : GoodF V R1 R2 R3 1 b1 b2 v v2 v3 p q u' :=
  ⟨h.below hb, fun _ => hv, (fun e => (by cases e)), (fun e => (by cases e)), fun e => ⟨(h.2.2.2.2.1 e).1.keep hb, (h.2.2.2.2.1 e).2⟩, fun e => ⟨(h.2.2.2.2.2.1 e).1.keep hb, (h.2.2.2.2.2.1 e).2⟩, h.2.2.2.2.2.2⟩
theorem GoodF.next2 {u u' : World} {b1 b2 : Bool} {v1 v2 v3 v : Value} {p q : Nat} (h : GoodF V R1 R2 R3 1 b1 b2 v1 v2 v3 p q u) (hb : Below u.heap.size u u') (hv : R2 v u') : GoodF V R1 R2 R3 2 b1 b2 v1 v v3 p q u' :=
  ⟨h.below hb, (fun e => (by cases e)), fun _ => hv, (fun e => (by cases e)), fun e => ⟨(h.2.2.2.2.1 e).1.keep hb, (h.2.2.2.2.1 e).2⟩, fun e => ⟨(h.2.2.2.2.2.1 e).1.keep hb, (h.2.2.2.2.2.1 e).2⟩, h.2.2.2.2.2.2⟩
theorem GoodF.next3 {u u' : World} {b1 b2 : Bool} {v1 v2 v3 v : Value} {p q : Nat} (h : GoodF V R1 R2 R3 2 b1 b2 v1 v2 v3 p q u) (hb : Below u.heap.size u u') (hv : R3 v u') : GoodF V R1 R2 R3 3 b1 b2 v1 v2 v p q u' :=
  ⟨h.below hb, (fun e => (by cases e)), (fun e => (by cases e)), fun _ => hv, fun e => ⟨(h.2.2.2.2.1 e).1.keep hb, (h.2.2.2.2.1 e).2⟩, fun e => ⟨(h.2.2.2.2.2.1 e).1.keep hb, (h.2.2.2.2.2.1 e).2⟩, h.2.2.2.2.2.2⟩

/-- A state of the row's end. -/
theorem FloatH.ok3 (H : FloatH P ops Q md X V T X0 d1 d2 d3 e1 e2 i1 i2 i3 f1 f2 o1 o2 o3 g1 g2 L R1 R2 R3) (hend : OkF P ops Q md X V T X0 d1 d2 d3 e1 e2 L R1 R2 R3 F 3 true true) (b1 b2 : Bool) : OkF P ops Q md X V T X0 d1 d2 d3 e1 e2 L R1 R2 R3 F 3 b1 b2 := by
  have hft : OkF P ops Q md X V T X0 d1 d2 d3 e1 e2 L R1 R2 R3 F 3 false true := fun v1 v2 v3 p q u hg =>
    wpAnyL_some H.r3 (by simp) fun i hi => by
      obtain rfl : i = f1 := by simpa using hi
      exact ⟨g1, H.at4, fun K hK => H.one (Nat.le_refl _) hend hg K hK⟩
  have htf : OkF P ops Q md X V T X0 d1 d2 d3 e1 e2 L R1 R2 R3 F 3 true false := fun v1 v2 v3 p q u hg =>
    wpAnyL_some H.r4 (by simp) fun i hi => by
      obtain rfl : i = f2 := by simpa using hi
      exact ⟨g2, H.at5, fun K hK => H.two (Nat.le_refl _) hend hg K hK⟩
  cases b1 <;> cases b2
  · intro v1 v2 v3 p q u hg
    refine wpAnyL_some H.r5 (by simp) fun i hi => ?_
    rcases (show i = f1 ∨ i = f2 by simpa using hi) with rfl | rfl
    · exact ⟨g1, H.at4, fun K hK => H.one (Nat.le_refl _) htf hg K hK⟩
    · exact ⟨g2, H.at5, fun K hK => H.two (Nat.le_refl _) hft hg K hK⟩
  · exact hft
  · exact htf
  · exact hend

/-- A state before a call, if the states behind it and behind the boxes are fine. -/
theorem ok_step {k : Nat} {i : Nat} {o : Oper} (H : FloatH P ops Q md X V T X0 d1 d2 d3 e1 e2 i1 i2 i3 f1 f2 o1 o2 o3 g1 g2 L R1 R2 R3) (hk : k ≤ 2) (hfz : 1 ≤ fz k) (hi : ops[i]? = some o) (hr : ∀ b1 b2, Region.ready md ops (L k b1 b2) = i :: (rB b1 f1 ++ rB b2 f2))
    (hc : ∀ b1 b2 v1 v2 v3 p q u, GoodF V R1 R2 R3 k b1 b2 v1 v2 v3 p q u → ∀ K : Act → World → Prop, Shut (∀ a w', (Below V.heap.size V u → Below V.heap.size V w') → wpAnyL P md ops Q (fun u => Below V.heap.size V u) X (F + (fz k - 1) + nB b1 + nB b2) ((L k b1 b2).setIfInBounds i true) a w' → K a w') →
      if Region.wanted o (yielded ops (stF T X0 d1 d2 d3 e1 e2 k b1 b2 v1 v2 v3 p q).tmps) = true then Oper.wp P o (stF T X0 d1 d2 d3 e1 e2 k b1 b2 v1 v2 v3 p q) u K Q else K ((stF T X0 d1 d2 d3 e1 e2 k b1 b2 v1 v2 v3 p q).put o.dst undef) u)
    (b1 b2 : Bool) : OkF P ops Q md X V T X0 d1 d2 d3 e1 e2 L R1 R2 R3 F k b1 b2 := by
  have key : ∀ b1 b2, (b1 = false → OkF P ops Q md X V T X0 d1 d2 d3 e1 e2 L R1 R2 R3 F k true b2) → (b2 = false → OkF P ops Q md X V T X0 d1 d2 d3 e1 e2 L R1 R2 R3 F k b1 true) → OkF P ops Q md X V T X0 d1 d2 d3 e1 e2 L R1 R2 R3 F k b1 b2 := by
    intro b1 b2 h1 h2 v1 v2 v3 p q u hg
    have e : F + fz k + nB b1 + nB b2 = F + (fz k - 1) + nB b1 + nB b2 + 1 := by omega
    rw [e]
    refine wpAnyL_some (hr b1 b2) (by simp) fun j hj => ?_
    rcases List.mem_cons.1 hj with rfl | hj
    · exact ⟨o, hi, fun K hK => hc b1 b2 v1 v2 v3 p q u hg K hK⟩
    · rcases List.mem_append.1 hj with hj | hj
      · obtain ⟨rfl, rfl⟩ := mem_rB hj
        refine ⟨g1, H.at4, fun K hK => H.one (by omega) (h1 rfl) hg K ?_⟩
        rw [show F + fz k + nB true + nB b2 = F + (fz k - 1) + nB false + nB b2 by simp only [nB]; omega]
        exact hK
      · obtain ⟨rfl, rfl⟩ := mem_rB hj
        refine ⟨g2, H.at5, fun K hK => H.two (by omega) (h2 rfl) hg K ?_⟩
        rw [show F + fz k + nB b1 + nB true = F + (fz k - 1) + nB b1 + nB false by simp only [nB]; omega]
        exact hK
  have tt := key true true (fun h => by cases h) (fun h => by cases h)
  have ft := key false true (fun _ => tt) (fun h => by cases h)
  have tf := key true false (fun h => by cases h) (fun _ => tt)
  have ff := key false false (fun _ => tf) (fun _ => ft)
  cases b1 <;> cases b2 <;> assumption

/-- The whole. -/
theorem FloatH.all (H : FloatH P ops Q md X V T X0 d1 d2 d3 e1 e2 i1 i2 i3 f1 f2 o1 o2 o3 g1 g2 L R1 R2 R3) (W0 : World) (h0 : Below V.heap.size V W0)
    (hend : ∀ (v1 v2 v3 : Value) (p q : Nat) (u : World), Below V.heap.size V u → R3 v3 u → Zero u p → Zero u q → p ≠ q → V.heap.size ≤ p → V.heap.size ≤ q →
      wpAnyL P md ops Q (fun u => Below V.heap.size V u) X F (L 3 true true) (stF T X0 d1 d2 d3 e1 e2 3 true true v1 v2 v3 p q) u) :
    wpAnyL P md ops Q (fun u => Below V.heap.size V u) X (F + 8) (L 0 false false) X0 W0 := by
  have k3 := H.ok3 (X := X) (F := F) (fun v1 v2 v3 p q u hg => hend v1 v2 v3 p q u hg.1 (hg.2.2.2.1 rfl) (hg.2.2.2.2.1 rfl).1 (hg.2.2.2.2.2.1 rfl).1 (hg.2.2.2.2.2.2 rfl rfl) (hg.2.2.2.2.1 rfl).2 (hg.2.2.2.2.2.1 rfl).2)
  have k2 := ok_step (X := X) (F := F) H (k := 2) (by omega) (by decide) H.at3 H.r2 (fun b1 b2 v1 v2 v3 p q u hg K hK => H.c3 _ v2 u K (fun j h1 h2 h3 h4 => by unfold stF; rw [putB_other _ _ _ _ _ h2, putB_other _ _ _ _ _ h1]; show ((X0.put (some d1) v1).put (some d2) v2).tmps[j]? = _; rw [put_other _ _ _ _ h4, put_other _ _ _ _ h3]) (by unfold stF; rw [putB_other _ _ _ _ _ H.n22, putB_other _ _ _ _ _ H.n21]; exact put_same _ _ _ (by rw [put_size]; exact H.s2)) hg.1 (hg.2.2.1 rfl) (fun v u' hv hb => hK.out _ _ (fun _ => hg.below hb) (by
    have hk := k3 b1 b2 v1 v2 v p q u' (hg.next3 hb hv)
    have hst : stF T X0 d1 d2 d3 e1 e2 3 b1 b2 v1 v2 v p q = T ((stF T X0 d1 d2 d3 e1 e2 2 b1 b2 v1 v2 v3 p q).put (some d3) v) v := by
      unfold stF
      rw [putB_put _ _ _ _ _ _ H.n32, putB_put _ _ _ _ _ _ H.n31, ← H.hT _ _ _ _ _ (.inr rfl), ← H.hT _ _ _ _ _ (.inl rfl)]; rfl
    rw [hst] at hk
    have h3 := H.t3 b1 b2 _ v u' _ (by
      unfold stF
      rw [putB_put _ _ _ _ _ _ H.n32, putB_put _ _ _ _ _ _ H.n31, putB_other _ _ _ _ _ H.n32, putB_other _ _ _ _ _ H.n31]
      exact put_same _ _ _ (by show d3 < ((X0.put (some d1) v1).put (some d2) v2).tmps.size; rw [put_size, put_size]; exact H.s3)) hv hk
    rw [show F + fz 3 + nB b1 + nB b2 + 3 = F + (fz 2 - 1) + nB b1 + nB b2 by simp only [fz]; omega] at h3
    exact h3)))
  have k1 := ok_step (X := X) (F := F) H (k := 1) (by omega) (by decide) H.at2 H.r1 (fun b1 b2 v1 v2 v3 p q u hg K hK => H.c2 _ v1 u K (fun j h1 h2 h3 => by unfold stF; rw [putB_other _ _ _ _ _ h2, putB_other _ _ _ _ _ h1]; exact put_other _ _ _ _ h3) (by unfold stF; rw [putB_other _ _ _ _ _ H.n12, putB_other _ _ _ _ _ H.n11]; exact put_same _ _ _ H.s1) hg.1 (hg.2.1 rfl) (fun v u' hv hb => hK.out _ _ (fun _ => hg.below hb) (by
    rw [stF_call1 _ _ _ _ _ _ _ _ _ _ _ _ _ _ _ H.n21 H.n22, H.l2]
    exact k2 b1 b2 v1 v v3 p q u' (hg.next2 hb hv))))
  have k0 := ok_step (X := X) (F := F) H (k := 0) (by omega) (by decide) H.at1 H.r0 (fun b1 b2 v1 v2 v3 p q u hg K hK => H.c1 _ u K (fun j h1 h2 => by unfold stF; rw [putB_other _ _ _ _ _ h2, putB_other _ _ _ _ _ h1]; rfl) hg.1 (fun v u' hv hb => hK.out _ _ (fun _ => hg.below hb) (by
    rw [stF_call0 _ _ _ _ _ _ _ _ _ _ _ _ _ _ _ H.n11 H.n12, H.l1]
    exact k1 b1 b2 v v2 v3 p q u' (hg.next1 hb hv))))
  exact k0 false false undef undef undef 0 0 W0 ⟨h0, (fun e => (by cases e)), (fun e => (by cases e)), (fun e => (by cases e)), (fun e => (by cases e)), (fun e => (by cases e)), (fun e => (by cases e))⟩

theorem FloatH.all' (H : FloatH P ops Q md X V T X0 d1 d2 d3 e1 e2 i1 i2 i3 f1 f2 o1 o2 o3 g1 g2 L R1 R2 R3) (W0 : World) (listed : Array Bool) (hl : listed = L 0 false false) (h0 : Below V.heap.size V W0)
    (hend : ∀ (v1 v2 v3 : Value) (p q : Nat) (u : World), Below V.heap.size V u → R3 v3 u → Zero u p → Zero u q → p ≠ q → V.heap.size ≤ p → V.heap.size ≤ q →
      wpAnyL P md ops Q (fun u => Below V.heap.size V u) X F (L 3 true true) (stF T X0 d1 d2 d3 e1 e2 3 true true v1 v2 v3 p q) u) :
    wpAnyL P md ops Q (fun u => Below V.heap.size V u) X (F + 8) listed X0 W0 := by
  subst hl
  exact H.all W0 h0 hend
end
end Go.Proofs.YtbmonfbbkmpdhaaDoor
