/- All orientations, by the program's iterator. And: The contract of the iterator over all orientations. And: What a loop over all orientations knows that keeps some of them. And: What leads where, at the triangle. And: Equivalent at the triangle. And: Lists of bools that are the same. And: Right graphs with orientations; lists of bools that are equal. -/
import Derived.Test.YtlnaahkheankoaaQ12
import Derived.Stop.RegionWithIn
import Derived.Shelf.RegionOpen
import Derived.Test.YtlnaahkheankoaaQ10
import Derived.Test.YtlnaahkheankoaaQ00
import Derived.Maps.Own
import Derived.Maps.OwnOps
import Derived.WalkMore
import Derived.Test.YtlnaahkheankoaaQ07
import Derived.Test.YtlnaahkheankoaaQ09
namespace Go.Proofs.Ytlnaahkheankoaa
open Go.RowKit Go.Shelf Go.Proofs.Gr
attribute [local go_sem] Oper.semAt_some

/-- All lists of d more bools behind some, in lexicographic order. -/
def allB : Nat → List Bool → List (List Bool)
  | 0, p => [p]
  | d + 1, p => allB d (p ++ [false]) ++ allB d (p ++ [true])
theorem allB_len (d : Nat) (p : List Bool) : (allB d p).length = 2 ^ d := by
  induction d generalizing p with
  | zero => rfl
  | succ d ih => rw [allB, List.length_append, ih, ih, Nat.pow_succ]; omega
/-- An orientation in memory. -/
structure BX where
  a : Option Addr
  c : Nat
  b : List Bool
def encX (x : BX) : Array Value := #[.slice x.a x.b.length x.c]
def QX (size : Nat) (T : Nat → Prop) (x : BX) (W : World) : Prop := x.b.length = size ∧ BsAt W x.a x.b ∧ ∀ p, x.a = some p → T p.block ∧ p.block < W.heap.size
/-- The blocks that are handed over. -/
def rmX (x : BX) (r : Nat) : Prop := ∃ p, x.a = some p ∧ p.block = r
/-- What the iterator knows of its own cells. -/
structure StC (T : Nat → Prop) (W : World) (size l b1 b2 b3 b4 g : Nat) (ob : List Bool) : Prop where
  k1 : Blk W b1 3 #[.int .i64 (size : Int)]
  k2 : Blk W b2 126 #[.func (.yield l) #[] #[]]
  k3 : Blk W b3 25 #[.slice (some ⟨g, 0, none⟩) size size]
  k4 : Blk W b4 127 #[.func (.func 98) #[] #[.pointer (some ⟨b1, 0, none⟩), .pointer (some ⟨b2, 0, none⟩), .pointer (some ⟨b3, 0, none⟩), .pointer (some ⟨b4, 0, none⟩)]]
  kg : RowB encB 4 W g ob
  ob_len : ob.length = size
  t1 : T b1
  t2 : T b2
  t3 : T b3
  t4 : T b4
  tg : T g
  n1 : b1 ≠ g
  n2 : b2 ≠ g
  n3 : b3 ≠ g
  n4 : b4 ≠ g
theorem own_low {w : World} {base : Nat} {e : TypeId} {size n m c : Nat} {a : Option Addr} {xs : List Value} (h : w.ownsRow base e size (.slice a n c) m xs) (p : Addr) (hp : a = some p) : p.block < w.heap.size := by
  rcases h.2 with ⟨h0, _⟩ | ⟨g, cap, cur, hv, hb, hg, _⟩
  · injection h0 with h0 _ _; rw [hp] at h0; cases h0
  · injection hv with h0 _ _; rw [hp] at h0; injection h0 with h0; rw [h0]; exact (Array.getElem?_eq_some_iff.1 hg).1
theorem Blk.kpt {T : Nat → Prop} {A A' : World} {r : Nat} {t : TypeId} {cs : Array Value} (h : Blk A r t cs) (hk : KpT T A A') (hr : T r) : Blk A' r t cs := hk.2 r _ hr h rfl
theorem StC.kpt {T T' : Nat → Prop} {A A' : World} {size l b1 b2 b3 b4 g : Nat} {ob : List Bool} (h : StC T A size l b1 b2 b3 b4 g ob) (hk : KpT T' A A') (hT : ∀ r, T r → T' r) : StC T A' size l b1 b2 b3 b4 g ob :=
  ⟨h.k1.kpt hk (hT _ h.t1), h.k2.kpt hk (hT _ h.t2), h.k3.kpt hk (hT _ h.t3), h.k4.kpt hk (hT _ h.t4), Blk.kpt h.kg hk (hT _ h.tg), h.ob_len, h.t1, h.t2, h.t3, h.t4, h.tg, h.n1, h.n2, h.n3, h.n4⟩
theorem StC.wide {T T' : Nat → Prop} {A : World} {size l b1 b2 b3 b4 g : Nat} {ob : List Bool} (h : StC T A size l b1 b2 b3 b4 g ob) (hT : ∀ r, T r → T' r) : StC T' A size l b1 b2 b3 b4 g ob :=
  ⟨h.k1, h.k2, h.k3, h.k4, h.kg, h.ob_len, hT _ h.t1, hT _ h.t2, hT _ h.t3, hT _ h.t4, hT _ h.tg, h.n1, h.n2, h.n3, h.n4⟩
theorem StC.put {T : Nat → Prop} {A : World} {size l b1 b2 b3 b4 g : Nat} {ob : List Bool} (h : StC T A size l b1 b2 b3 b4 g ob) (i : Nat) (v : Bool) : StC T (A.setCell ⟨g, i, none⟩ (.bool v)) size l b1 b2 b3 b4 g (ob.set i v) :=
  ⟨h.k1.far h.n1 _, h.k2.far h.n2 _, h.k3.far h.n3 _, h.k4.far h.n4 _, h.kg.bset i v, by rw [List.length_set]; exact h.ob_len, h.t1, h.t2, h.t3, h.t4, h.tg, h.n1, h.n2, h.n3, h.n4⟩
theorem Below.grown0 {w w' : World} (h : Below w.heap.size w w') : w.grownBy w' none := ⟨h.os, h.tape, h.output, h.size, fun k hk _ => h.block k hk⟩
/-- What a caller's knowledge must bear. -/
structure Bears (J : (Nat → Prop) → List BX → World → Prop) : Prop where
  grow : ∀ T s A A', J T s A → A.grownBy A' none → J (fun r => T r ∨ (A.heap.size ≤ r ∧ r < A'.heap.size)) s A'
  turn : ∀ T s A A' r, J T s A → T r → A.grownBy A' (some r) → J T s A'
  less : ∀ T T' s A, J T s A → (∀ r, T' r → T r) → J T' s A
theorem Bears.keep {J : (Nat → Prop) → List BX → World → Prop} (h : Bears J) {T : Nat → Prop} {s : List BX} {A A' : World} (hJ : J T s A) (hg : A.grownBy A' none) : J T s A' := h.less _ _ _ _ (h.grow _ _ _ _ hJ hg) fun _ hr => .inl hr
theorem choose_len {ob : List Bool} {e size : Nat} (h : ob.length = size) (he : size = e) : ob.take e = ob := by rw [← he, ← h, List.take_length]
def ChPost (J : (Nat → Prop) → List BX → World → Prop) (T : Nat → Prop) (size l b1 b2 b3 b4 g d e : Nat) (pre : List BX) (ob : List Bool) (W : World) (en : Ending) (W' : World) : Prop :=
  en = .returned (.bool true) ∧ ∃ xs ob', xs.map BX.b = allB d (ob.take e) ∧ ob'.take e = ob.take e ∧ StC T W' size l b1 b2 b3 b4 g ob' ∧ J T (pre ++ xs) W' ∧ KpT (fun r => T r ∧ r ≠ g) W W'
set_option maxHeartbeats 12800000 in
set_option maxRecDepth 100000 in
theorem choose_leaf (N size : Nat) (hsz : size ≤ 1000) (l b1 b2 b3 b4 g : Nat) (J : (Nat → Prop) → List BX → World → Prop) (hB : Bears J)
    (hY : ∀ T pre x W1, J T pre W1 → pre.length < N → QX size T x W1 → ∀ k, YieldAt Fence.wide k Try.prog l (encX x) W1 fun e W' => e = .returned (.bool true) ∧ J (fun r => T r ∧ ¬ rmX x r) (pre ++ [x]) W' ∧ KpT T W1 W') (n : Nat) (T : Nat → Prop) (pre : List BX) (ob : List Bool) (W : World) (hS : StC T W size l b1 b2 b3 b4 g ob) (hT : ∀ r, T r → r < W.heap.size) (hJ : J T pre W) (hN : pre.length < N) :
    CallsIn Fence.wide n Try.prog 98 #[.int .i64 (size : Int), .pointer (some ⟨b1, 0, none⟩), .pointer (some ⟨b2, 0, none⟩), .pointer (some ⟨b3, 0, none⟩), .pointer (some ⟨b4, 0, none⟩)] W (ChPost J T size l b1 b2 b3 b4 g 0 size pre ob W) := by
  have HST := Lib.hid hS
  have HJ := Lib.hid hJ
  have HBR := Lib.hid hB
  have HYY := Lib.hid hY
  have HTT := Lib.hid hT
  have HCL := Lib.hid (fun w h => pcloneB_any (some ⟨g, 0, none⟩) size ob (by rw [hS.ob_len]; omega) w h)
  rw [hS.ob_len] at HCL
  have f1 : W.cell? ⟨b1, 0, none⟩ = some (.int .i64 (size : Int)) := hS.k1.cell 0
  have f2 : W.cell? ⟨b2, 0, none⟩ = some (.func (.yield l) #[] #[]) := hS.k2.cell 0
  have f3 : W.cell? ⟨b3, 0, none⟩ = some (.slice (some ⟨g, 0, none⟩) size size) := hS.k3.cell 0
  have d1 : ((size : Int) == (size : Int)) = true := by simp
  have HOBL : Hid (size = ob.length) := Lib.hid hS.ob_len.symm
  have HN := Lib.hid hN
  unfold ChPost
  clear hS hJ hB hY hT hN
  refine callsIn_of_wp Try.func98 rfl trivial ?_ rfl
  simp only [Try.ntmps98, List.size_toArray, List.length_cons, List.length_nil, Nat.reduceAdd, Nat.reduceSub, Array.replicate_succ, Array.replicate_zero, List.push_toArray, List.append_toArray, List.nil_append, List.cons_append]
  gi_wp2
  refine wpIn_region_any (by kernel_rfl) ?_
  change wpAnyIn _ _ _ _ _ _ _ _ _ (World.drew _)
  refine wpAnyIn_ready (rs := [0, 1]) (by kernel_rfl) (by simp) ?_
  refine AllReadyIn.cons rfl (fun K hK => ?_) ?_
  · go_simp
    refine hK _ _ ?_
    clear hK K
    refine wpAnyIn_ready (rs := [1]) (by kernel_rfl) (by simp) ?_
    refine AllReadyIn.cons rfl (fun K hK => ?_) ?_
    · go_simp
      refine hK _ _ ?_
      clear hK K
      refine wpAnyIn_ready (rs := [2]) (by kernel_rfl) (by simp) ?_
      refine AllReadyIn.cons rfl (fun K hK => ?_) ?_
      · go_simp
        refine ⟨trivial, fun h => (by cases h), ?_⟩
        refine (callsIn_wide.2 (HCL.out W.drew ((HST.out.kg.row encB_len).keep ((Below.refl _ W).drew)))).mono ?_
        rintro e W3 ⟨v, rfl, hown, hb3⟩
        obtain ⟨xa, xc, hv, hxr⟩ := of_own_len encB_len hown HOBL.out
        subst hv
        obtain ⟨T3, hT3⟩ : ∃ T3 : Nat → Prop, T3 = fun r => T r ∨ (W.drew.heap.size ≤ r ∧ r < W3.heap.size) := ⟨_, rfl⟩
        have hTT3 : ∀ r, T r → T3 r := fun r hr => by rw [hT3]; exact .inl hr
        have hj3 : J T3 pre W3 := by rw [hT3]; exact HBR.out.grow _ _ _ _ (HBR.out.keep HJ.out (Below.grown0 ((Below.refl _ W).drew))) (Below.grown0 hb3)
        have hk3 : KpT T W W3 := KpT.below (A := W) (((Below.refl _ W).drew).trans hb3)
        have hq3 : QX size T3 ⟨xa, xc, ob⟩ W3 := ⟨HOBL.out.symm, hxr, fun p hp => ⟨by rw [hT3]; exact .inr ⟨own_awy hown p hp, own_low hown p hp⟩, own_low hown p hp⟩⟩
        have HRM : Hid (∀ r, T r → T3 r ∧ ¬ rmX ⟨xa, xc, ob⟩ r) := Lib.hid (fun r hr => ⟨hTT3 r hr, fun ⟨p, hp, e⟩ => by have h1 := own_awy hown p hp; have h2 := HTT.out _ hr; have h3 : W.drew.heap.size = W.heap.size := rfl; omega⟩)
        have HTT3 := Lib.hid hTT3
        obtain ⟨fn, tmps, assign, body, hy, hR⟩ := HYY.out T3 pre ⟨xa, xc, ob⟩ W3 hj3 HN.out hq3 (n - 1)
        unfold encX at hy
        simp only [← HOBL.out] at hy
        have f9 : W3.cell? ⟨b2, 0, none⟩ = some (.func (.yield l) #[] #[]) := (HST.out.kpt hk3 (fun _ h => h)).k2.cell 0
        have HK3 := Lib.hid hk3
        clear hown hb3 hxr hj3 hq3 hk3 hTT3 hT3
        show K _ _
        refine hK _ _ ?_
        clear hK K
        refine wpAnyIn_ready (rs := [3]) (by kernel_rfl) (by simp) ?_
        refine AllReadyIn.cons rfl (fun K hK => ?_) ?_
        · go_simp
          refine ⟨fun h => (by cases h), ?_⟩
          refine hR.mono ?_
          rintro e W4 ⟨rfl, hj4, hk4⟩
          show K _ _
          refine hK _ _ ?_
          clear hK K
          refine wpAnyIn_ready (rs := [4]) (by kernel_rfl) (by simp) ?_
          refine AllReadyIn.cons rfl (fun K hK => ?_) ?_
          · go_simp
            refine hK _ _ ?_
            clear hK K
            refine wpAnyIn_done (by kernel_rfl) ?_ _
            have HJ4 := Lib.hid (HBR.out.less _ T _ _ hj4 HRM.out)
            have HK4 := Lib.hid (HK3.out.trans (hk4.mono HTT3.out))
            clear hj4 hk4 hR hy
            gi_wp2
            go_ret
            exact ⟨rfl, [⟨xa, xc, ob⟩], ob, by rw [choose_len HOBL.out.symm rfl]; rfl, rfl, HST.out.kpt HK4.out (fun _ h => h), HJ4.out, HK4.out.mono fun _ h => h.1⟩
          exact AllReadyIn.nil
        exact AllReadyIn.nil
      exact AllReadyIn.nil
    exact AllReadyIn.nil
  refine AllReadyIn.cons rfl (fun K hK => ?_) ?_
  · go_simp
    refine hK _ _ ?_
    clear hK K
    refine wpAnyIn_ready (rs := [0, 2]) (by kernel_rfl) (by simp) ?_
    refine AllReadyIn.cons rfl (fun K hK => ?_) ?_
    · go_simp
      refine hK _ _ ?_
      clear hK K
      refine wpAnyIn_ready (rs := [2]) (by kernel_rfl) (by simp) ?_
      refine AllReadyIn.cons rfl (fun K hK => ?_) ?_
      · go_simp
        refine ⟨trivial, fun h => (by cases h), ?_⟩
        refine (callsIn_wide.2 (HCL.out W.drew ((HST.out.kg.row encB_len).keep ((Below.refl _ W).drew)))).mono ?_
        rintro e W3 ⟨v, rfl, hown, hb3⟩
        obtain ⟨xa, xc, hv, hxr⟩ := of_own_len encB_len hown HOBL.out
        subst hv
        obtain ⟨T3, hT3⟩ : ∃ T3 : Nat → Prop, T3 = fun r => T r ∨ (W.drew.heap.size ≤ r ∧ r < W3.heap.size) := ⟨_, rfl⟩
        have hTT3 : ∀ r, T r → T3 r := fun r hr => by rw [hT3]; exact .inl hr
        have hj3 : J T3 pre W3 := by rw [hT3]; exact HBR.out.grow _ _ _ _ (HBR.out.keep HJ.out (Below.grown0 ((Below.refl _ W).drew))) (Below.grown0 hb3)
        have hk3 : KpT T W W3 := KpT.below (A := W) (((Below.refl _ W).drew).trans hb3)
        have hq3 : QX size T3 ⟨xa, xc, ob⟩ W3 := ⟨HOBL.out.symm, hxr, fun p hp => ⟨by rw [hT3]; exact .inr ⟨own_awy hown p hp, own_low hown p hp⟩, own_low hown p hp⟩⟩
        have HRM : Hid (∀ r, T r → T3 r ∧ ¬ rmX ⟨xa, xc, ob⟩ r) := Lib.hid (fun r hr => ⟨hTT3 r hr, fun ⟨p, hp, e⟩ => by have h1 := own_awy hown p hp; have h2 := HTT.out _ hr; have h3 : W.drew.heap.size = W.heap.size := rfl; omega⟩)
        have HTT3 := Lib.hid hTT3
        obtain ⟨fn, tmps, assign, body, hy, hR⟩ := HYY.out T3 pre ⟨xa, xc, ob⟩ W3 hj3 HN.out hq3 (n - 1)
        unfold encX at hy
        simp only [← HOBL.out] at hy
        have f9 : W3.cell? ⟨b2, 0, none⟩ = some (.func (.yield l) #[] #[]) := (HST.out.kpt hk3 (fun _ h => h)).k2.cell 0
        have HK3 := Lib.hid hk3
        clear hown hb3 hxr hj3 hq3 hk3 hTT3 hT3
        show K _ _
        refine hK _ _ ?_
        clear hK K
        refine wpAnyIn_ready (rs := [3]) (by kernel_rfl) (by simp) ?_
        refine AllReadyIn.cons rfl (fun K hK => ?_) ?_
        · go_simp
          refine ⟨fun h => (by cases h), ?_⟩
          refine hR.mono ?_
          rintro e W4 ⟨rfl, hj4, hk4⟩
          show K _ _
          refine hK _ _ ?_
          clear hK K
          refine wpAnyIn_ready (rs := [4]) (by kernel_rfl) (by simp) ?_
          refine AllReadyIn.cons rfl (fun K hK => ?_) ?_
          · go_simp
            refine hK _ _ ?_
            clear hK K
            refine wpAnyIn_done (by kernel_rfl) ?_ _
            have HJ4 := Lib.hid (HBR.out.less _ T _ _ hj4 HRM.out)
            have HK4 := Lib.hid (HK3.out.trans (hk4.mono HTT3.out))
            clear hj4 hk4 hR hy
            gi_wp2
            go_ret
            exact ⟨rfl, [⟨xa, xc, ob⟩], ob, by rw [choose_len HOBL.out.symm rfl]; rfl, rfl, HST.out.kpt HK4.out (fun _ h => h), HJ4.out, HK4.out.mono fun _ h => h.1⟩
          exact AllReadyIn.nil
        exact AllReadyIn.nil
      exact AllReadyIn.nil
    refine AllReadyIn.cons rfl (fun K hK => ?_) ?_
    · go_simp
      refine ⟨trivial, fun h => (by cases h), ?_⟩
      refine (callsIn_wide.2 (HCL.out W.drew ((HST.out.kg.row encB_len).keep ((Below.refl _ W).drew)))).mono ?_
      rintro e W3 ⟨v, rfl, hown, hb3⟩
      obtain ⟨xa, xc, hv, hxr⟩ := of_own_len encB_len hown HOBL.out
      subst hv
      obtain ⟨T3, hT3⟩ : ∃ T3 : Nat → Prop, T3 = fun r => T r ∨ (W.drew.heap.size ≤ r ∧ r < W3.heap.size) := ⟨_, rfl⟩
      have hTT3 : ∀ r, T r → T3 r := fun r hr => by rw [hT3]; exact .inl hr
      have hj3 : J T3 pre W3 := by rw [hT3]; exact HBR.out.grow _ _ _ _ (HBR.out.keep HJ.out (Below.grown0 ((Below.refl _ W).drew))) (Below.grown0 hb3)
      have hk3 : KpT T W W3 := KpT.below (A := W) (((Below.refl _ W).drew).trans hb3)
      have hq3 : QX size T3 ⟨xa, xc, ob⟩ W3 := ⟨HOBL.out.symm, hxr, fun p hp => ⟨by rw [hT3]; exact .inr ⟨own_awy hown p hp, own_low hown p hp⟩, own_low hown p hp⟩⟩
      have HRM : Hid (∀ r, T r → T3 r ∧ ¬ rmX ⟨xa, xc, ob⟩ r) := Lib.hid (fun r hr => ⟨hTT3 r hr, fun ⟨p, hp, e⟩ => by have h1 := own_awy hown p hp; have h2 := HTT.out _ hr; have h3 : W.drew.heap.size = W.heap.size := rfl; omega⟩)
      have HTT3 := Lib.hid hTT3
      obtain ⟨fn, tmps, assign, body, hy, hR⟩ := HYY.out T3 pre ⟨xa, xc, ob⟩ W3 hj3 HN.out hq3 (n - 1)
      unfold encX at hy
      simp only [← HOBL.out] at hy
      have f9 : W3.cell? ⟨b2, 0, none⟩ = some (.func (.yield l) #[] #[]) := (HST.out.kpt hk3 (fun _ h => h)).k2.cell 0
      have HK3 := Lib.hid hk3
      clear hown hb3 hxr hj3 hq3 hk3 hTT3 hT3
      show K _ _
      refine hK _ _ ?_
      clear hK K
      refine wpAnyIn_ready (rs := [0]) (by kernel_rfl) (by simp) ?_
      refine AllReadyIn.cons rfl (fun K hK => ?_) ?_
      · go_simp
        refine hK _ _ ?_
        clear hK K
        refine wpAnyIn_ready (rs := [3]) (by kernel_rfl) (by simp) ?_
        refine AllReadyIn.cons rfl (fun K hK => ?_) ?_
        · go_simp
          refine ⟨fun h => (by cases h), ?_⟩
          refine hR.mono ?_
          rintro e W4 ⟨rfl, hj4, hk4⟩
          show K _ _
          refine hK _ _ ?_
          clear hK K
          refine wpAnyIn_ready (rs := [4]) (by kernel_rfl) (by simp) ?_
          refine AllReadyIn.cons rfl (fun K hK => ?_) ?_
          · go_simp
            refine hK _ _ ?_
            clear hK K
            refine wpAnyIn_done (by kernel_rfl) ?_ _
            have HJ4 := Lib.hid (HBR.out.less _ T _ _ hj4 HRM.out)
            have HK4 := Lib.hid (HK3.out.trans (hk4.mono HTT3.out))
            clear hj4 hk4 hR hy
            gi_wp2
            go_ret
            exact ⟨rfl, [⟨xa, xc, ob⟩], ob, by rw [choose_len HOBL.out.symm rfl]; rfl, rfl, HST.out.kpt HK4.out (fun _ h => h), HJ4.out, HK4.out.mono fun _ h => h.1⟩
          exact AllReadyIn.nil
        exact AllReadyIn.nil
      exact AllReadyIn.nil
    exact AllReadyIn.nil
  exact AllReadyIn.nil
theorem take_set (ob : List Bool) (e : Nat) (v : Bool) (h : e < ob.length) : (ob.set e v).take (e + 1) = ob.take e ++ [v] := by
  rw [List.take_succ_eq_append_getElem (by rw [List.length_set]; exact h), List.take_set_of_le (Nat.le_refl _)]
  simp
theorem take_less {ob ob' : List Bool} {e : Nat} (h : ob.take (e + 1) = ob'.take (e + 1)) : ob.take e = ob'.take e := by
  have := congrArg (List.take e) h
  rwa [List.take_take, List.take_take, Nat.min_eq_left (by omega)] at this
/-- What has come behind k of two halves. -/
def halfB (d : Nat) (p : List Bool) (k : Nat) : List (List Bool) := if k = 0 then [] else if k = 1 then allB d (p ++ [false]) else allB d (p ++ [false]) ++ allB d (p ++ [true])
theorem halfB_succ (d : Nat) (p : List Bool) (k : Nat) (h : k < 2) : halfB d p (k + 1) = halfB d p k ++ allB d (p ++ [decide (k = 1)]) := by
  have h9 : k = 0 ∨ k = 1 := by omega
  rcases h9 with rfl | rfl <;> rfl
theorem halfB_len (d : Nat) (p : List Bool) (k : Nat) (h : k ≤ 2) : (halfB d p k).length = k * 2 ^ d := by
  have h9 : k = 0 ∨ k = 1 ∨ k = 2 := by omega
  rcases h9 with rfl | rfl | rfl
  · simp [halfB]
  · show (allB d (p ++ [false])).length = _
    rw [allB_len]; omega
  · show (allB d (p ++ [false]) ++ allB d (p ++ [true])).length = _
    rw [List.length_append, allB_len, allB_len]; omega
set_option maxHeartbeats 12800000 in
set_option maxRecDepth 100000 in
theorem choose_in (N size : Nat) (hsz : size ≤ 1000) (l b1 b2 b3 b4 g : Nat) (J : (Nat → Prop) → List BX → World → Prop) (hB : Bears J)
    (hY : ∀ T pre x W1, J T pre W1 → pre.length < N → QX size T x W1 → ∀ k, YieldAt Fence.wide k Try.prog l (encX x) W1 fun e W' => e = .returned (.bool true) ∧ J (fun r => T r ∧ ¬ rmX x r) (pre ++ [x]) W' ∧ KpT T W1 W') (d : Nat) : ∀ (n : Nat) (T : Nat → Prop) (pre : List BX) (ob : List Bool) (W : World) (e : Nat), e + d = size → StC T W size l b1 b2 b3 b4 g ob → (∀ r, T r → r < W.heap.size) → J T pre W → pre.length + 2 ^ d ≤ N →
    CallsIn Fence.wide n Try.prog 98 #[.int .i64 (e : Int), .pointer (some ⟨b1, 0, none⟩), .pointer (some ⟨b2, 0, none⟩), .pointer (some ⟨b3, 0, none⟩), .pointer (some ⟨b4, 0, none⟩)] W (ChPost J T size l b1 b2 b3 b4 g d e pre ob W) := by
  induction d with
  | zero =>
    intro n T pre ob W e he hS hT hJ hN
    obtain rfl : e = size := by omega
    exact choose_leaf N e hsz l b1 b2 b3 b4 g J hB hY n T pre ob W hS hT hJ (by omega)
  | succ d ih =>
    intro n T pre ob W e he hS hT hJ hN
    have HST := Lib.hid hS
    have HBR := Lib.hid hB
    have HTT := Lib.hid hT
    have HIH := Lib.hid ih
    have HN : Hid (pre.length + 2 * 2 ^ d ≤ N) := Lib.hid (by rw [Nat.pow_succ] at hN; omega)
    have HSE : Hid (e + 1 + d = size) := Lib.hid (by omega)
    have HOL : Hid (e ≤ ob.length) := Lib.hid (by rw [hS.ob_len]; omega)
    have hes : e < size := by omega
    have d1 : ((e : Int) == (size : Int)) = false := by rw [beq_eq_false_iff_ne]; omega
    have d2 : (e : Int) < (size : Int) := by omega
    have d3 : (0 : Int) ≤ (e : Int) := by omega
    have f1 : W.cell? ⟨b1, 0, none⟩ = some (.int .i64 (size : Int)) := hS.k1.cell 0
    obtain ⟨T1, hT1⟩ : ∃ T1 : Nat → Prop, T1 = fun r => T r ∨ (W.heap.size ≤ r ∧ r < W.heap.size + 1) := ⟨_, rfl⟩
    obtain ⟨W1, hW1⟩ : ∃ W1, W1 = W.alloc (Obj.cells #[.bool false, .bool true] 4) := ⟨_, rfl⟩
    have hsz1 : W1.heap.size = W.heap.size + 1 := by rw [hW1]; simp
    have hj1 : J T1 pre W1 := by
      have := hB.grow T pre W W1 hJ (by rw [hW1]; exact World.grownBy_alloc _ _ none)
      rw [hsz1] at this
      rw [hT1]; exact this
    have hlit : Blk W1 W.heap.size 4 #[.bool false, .bool true] := by rw [hW1]; exact Blk.new _ _ _
    have hTT1 : ∀ r, T r → T1 r := fun r hr => by rw [hT1]; exact .inl hr
    have hkw : KpT (fun r => T r ∧ r ≠ g) W W1 := by rw [hW1]; exact KpT.below ((Below.refl _ _).alloc (Nat.le_refl _) _)
    have hs1 : StC T1 W1 size l b1 b2 b3 b4 g ob := (hS.kpt (T' := T) (by rw [hW1]; exact KpT.below ((Below.refl _ _).alloc (Nat.le_refl _) _)) (fun _ h => h)).wide hTT1
    have HJ1 := Lib.hid hj1
    have HL1 := Lib.hid hlit
    have HT1 := Lib.hid hTT1
    have HTL : Hid (T1 W.heap.size) := Lib.hid (by rw [hT1]; exact .inr ⟨Nat.le_refl _, by omega⟩)
    have HLG : Hid (W.heap.size ≠ g) := Lib.hid (by have := hT g hS.tg; omega)
    have HTLT : Hid (∀ r, T1 r → r < W.heap.size + 1) := Lib.hid (fun r hr => by
      rw [hT1] at hr
      rcases hr with hr | hr
      · have := hT r hr; omega
      · omega)
    have HS1 := Lib.hid hs1
    have HKW := Lib.hid hkw
    have HZ1 := Lib.hid hsz1
    have HHS : Hid (∀ k, k < 2 → halfB d (ob.take e) (k + 1) = halfB d (ob.take e) k ++ allB d (ob.take e ++ [decide (k = 1)])) := Lib.hid (fun k hk => halfB_succ d _ k hk)
    have HHL : Hid (∀ k, k ≤ 2 → (halfB d (ob.take e) k).length = k * 2 ^ d) := Lib.hid (fun k hk => halfB_len d _ k hk)
    have HH0 : Hid (halfB d (ob.take e) 0 = []) := Lib.hid rfl
    have HH2 : Hid (halfB d (ob.take e) 2 = allB (d + 1) (ob.take e)) := Lib.hid rfl
    unfold ChPost at *
    generalize halfB d (ob.take e) = HB at *
    have HW1 := Lib.hid hW1
    clear hS hB hY hT hJ hN ih hj1 hlit hTT1 hs1 hkw hsz1 hT1 hW1 he
    refine callsIn_of_wp Try.func98 rfl trivial ?_ rfl
    simp only [Try.ntmps98, List.size_toArray, List.length_cons, List.length_nil, Nat.reduceAdd, Nat.reduceSub, Array.replicate_succ, Array.replicate_zero, List.push_toArray, List.append_toArray, List.nil_append, List.cons_append]
    gi_wp2
    rw [← HW1.out]
    gi_loopw [18] (fun x wr => ∃ k : Nat, k ≤ 2 ∧ x = .int .i64 k ∧ ∃ xs ob', xs.map BX.b = HB k ∧ ob'.take e = ob.take e ∧ StC T1 wr size l b1 b2 b3 b4 g ob' ∧ J T1 (pre ++ xs) wr ∧ KpT (fun r => T1 r ∧ r ≠ g) W1 wr) (fun x _ => 2 - (intOf x).toNat)
    case atStart => exact ⟨0, by omega, rfl, [], ob, by rw [HH0.out]; rfl, rfl, HS1.out, by rw [List.append_nil]; exact HJ1.out, KpT.refl _ _⟩
    case round =>
      obtain ⟨k, hk, rfl, xs, ob', hxs, hob, hst, hj, hkp⟩ := hrel
      by_cases hlt : k < 2
      · have i1 : (k : Int) < 2 := by omega
        have i2 : (0 : Int) ≤ (k : Int) := by omega
        have hlt2 := HL1.out.kpt hkp ⟨HTL.out, HLG.out⟩
        have hlb : (#[Value.bool false, Value.bool true] : Array Value)[k]? = some (.bool (decide (k = 1))) := by
          have h9 : k = 0 ∨ k = 1 := by omega
          rcases h9 with rfl | rfl <;> rfl
        have x1 : wr.cell? ⟨W.heap.size, k, none⟩ = some (.bool (decide (k = 1))) := (hlt2.cell k).trans hlb
        have f3 : wr.cell? ⟨b3, 0, none⟩ = some (.slice (some ⟨g, 0, none⟩) size size) := hst.k3.cell 0
        have HHn := Lib.hid (HHS.out k hlt)
        have hhl := HHL.out k (by omega)
        rw [← hxs, List.length_map] at hhl
        obtain ⟨v, hv⟩ : ∃ v, decide (k = 1) = v := ⟨_, rfl⟩
        rw [hv] at x1 HHn
        have f5 : wr.cell? ⟨g, e, none⟩ = some (.bool (bAt ob' e)) := hst.kg.bcell e (by rw [hst.ob_len]; exact hes)
        have f6 : wr.frozen? ⟨g, e, none⟩ = false := Blk.frozen hst.kg e
        obtain ⟨W2, hW2⟩ : ∃ W2, W2 = wr.setCell ⟨g, e, none⟩ (.bool v) := ⟨_, rfl⟩
        have hst2 : StC T1 W2 size l b1 b2 b3 b4 g (ob'.set e v) := by rw [hW2]; exact hst.put e v
        have hj2 : J T1 (pre ++ xs) W2 := by rw [hW2]; exact HBR.out.turn _ _ _ _ g hj hst.tg (grown_set wr g e (.bool v))
        have hkp2 : KpT (fun r => T1 r ∧ r ≠ g) W1 W2 := by
          rw [hW2]
          exact hkp.trans ⟨by simp [World.setCell], fun r o h1 h2 _ => (Below.heap_setCell wr ⟨g, e, none⟩ _ r h1.2).trans h2⟩
        have f4 : W2.cell? ⟨b4, 0, none⟩ = some (.func (.func 98) #[] #[.pointer (some ⟨b1, 0, none⟩), .pointer (some ⟨b2, 0, none⟩), .pointer (some ⟨b3, 0, none⟩), .pointer (some ⟨b4, 0, none⟩)]) := hst2.k4.cell 0
        have f4' : (wr.setCell ⟨g, e, none⟩ (.bool v)).cell? ⟨b4, 0, none⟩ = some (.func (.func 98) #[] #[.pointer (some ⟨b1, 0, none⟩), .pointer (some ⟨b2, 0, none⟩), .pointer (some ⟨b3, 0, none⟩), .pointer (some ⟨b4, 0, none⟩)]) := by rw [← hW2]; exact f4
        have hn9 : (pre ++ xs).length + 2 ^ d ≤ N := by
          rw [List.length_append, hhl]
          have h9 : k = 0 ∨ k = 1 := by omega
          have := HN.out
          rcases h9 with rfl | rfl <;> omega
        have hrec := HIH.out (n - 1) T1 (pre ++ xs) (ob'.set e v) W2 (e + 1) HSE.out hst2 (fun r hr => by have h1 := HTLT.out r hr; have h2 := hkp2.1; have h3 := HZ1.out; omega) hj2 hn9
        rw [take_set ob' e v (by rw [hst.ob_len]; exact hes), hob] at hrec
        rw [show (((e + 1 : Nat)) : Int) = (e : Int) + 1 by omega] at hrec
        have HREC := Lib.hid hrec
        have HKP2 := Lib.hid hkp2
        have HXS := Lib.hid hxs
        have HW2 := Lib.hid hW2
        clear hrec hkp2 hxs hst hst2 hj hj2 hkp hn9 hlt2 hlb hv hW2 hhl
        gi_wp2_with fail
        rw [← HW2.out]
        refine ⟨trivial, fun h => (by cases h), ?_⟩
        refine HREC.out.mono ?_
        rintro en W3 ⟨rfl, xs2, ob2, hxs2, hob2, hst3, hj3, hkp3⟩
        have HX3 : Hid ((xs ++ xs2).map BX.b = HB (k + 1)) := Lib.hid (by rw [List.map_append, HXS.out, hxs2, HHn.out])
        have HO3 : Hid (ob2.take e = ob.take e) := Lib.hid (by
          have := congrArg (List.take e) hob2
          rw [List.take_take, List.take_append_of_le_length (by rw [List.length_take]; have := HOL.out; omega), List.take_take, Nat.min_eq_left (by omega), Nat.min_self] at this
          exact this)
        have HS3 := Lib.hid hst3
        have HJ3 : Hid (J T1 (pre ++ (xs ++ xs2)) W3) := Lib.hid (by rw [← List.append_assoc]; exact hj3)
        have HK3 := Lib.hid (HKP2.out.trans hkp3)
        clear hxs2 hob2 hst3 hj3 hkp3
        gi_wp2
        go_roundw
        case rel => exact ⟨k + 1, by omega, by go_num, xs ++ xs2, ob2, HX3.out, HO3.out, HS3.out, HJ3.out, HK3.out⟩
        case measure => simp [intOf]; omega
      · obtain rfl : k = 2 := by omega
        have i1 : ¬ (2 : Int) < 2 := by omega
        have HX3 : Hid (xs.map BX.b = allB (d + 1) (ob.take e)) := Lib.hid (by rw [hxs, HH2.out])
        have HO3 := Lib.hid hob
        have HS3 : Hid (StC T wr size l b1 b2 b3 b4 g ob') := Lib.hid ⟨hst.k1, hst.k2, hst.k3, hst.k4, hst.kg, hst.ob_len, HST.out.t1, HST.out.t2, HST.out.t3, HST.out.t4, HST.out.tg, hst.n1, hst.n2, hst.n3, hst.n4⟩
        have HJ3 := Lib.hid (HBR.out.less _ T _ _ hj HT1.out)
        have HK3 : Hid (KpT (fun r => T r ∧ r ≠ g) W wr) := Lib.hid (HKW.out.trans (hkp.mono fun r h => ⟨HT1.out r h.1, h.2⟩))
        clear hxs hob hst hj hkp
        gi_wp2
        go_ret
        first | exact ⟨rfl, xs, HX3.out, ob', HO3.out, HS3.out, HJ3.out, HK3.out⟩ | exact ⟨rfl, xs, ob', HX3.out, HO3.out, HS3.out, HJ3.out, HK3.out⟩
end Go.Proofs.Ytlnaahkheankoaa

namespace Go.Proofs.Ytlnaahkheankoaa
open Go.RowKit Go.Shelf Go.Proofs.Gr
attribute [local go_sem] Oper.semAt_some

set_option maxHeartbeats 12800000 in
set_option maxRecDepth 100000 in
theorem porients_any (z : Int) (w : World) : Calls Try.prog 67 #[.int .i64 z] w (fun e x => e = .returned (.func (.func 97) #[] #[.pointer (some ⟨w.heap.size, 0, none⟩)]) ∧ x = w.alloc (Obj.cells #[.int .i64 z] 3)) := by
  go_enter Try.func67, Try.ntmps67
  go_wp2
  go_ret
  exact ⟨rfl, rfl⟩
theorem run_store_funcV {P : Program} {w : World} {a : Addr} {m : Mode} (fn : Fn) (x y : Array Value) : (store a (.func fn x y) m).run P w = stored P w a (.func fn x y) m := run_store P w a _ m rfl
attribute [local go_sem] run_store_funcV
set_option maxHeartbeats 12800000 in
set_option maxRecDepth 100000 in
theorem orient_seq (n N size : Nat) (hsz : size ≤ 1000) (hN : 2 ^ size ≤ N) (b1 : Nat) (T0 : Nat → Prop) (w0 : World) (h1 : Blk w0 b1 3 #[.int .i64 (size : Int)]) (ht1 : T0 b1) (htl : ∀ r, T0 r → r < w0.heap.size) :
    SeqB n Try.prog 97 #[.pointer (some ⟨b1, 0, none⟩)] encX (QX size) rmX T0 (fun xs => xs.map BX.b = allB size []) N w0 := by
  intro l J W hW hg ht hl hY hJ
  have hB : Bears J := ⟨hg, ht, hl⟩
  have HBR := Lib.hid hB
  have HYY := Lib.hid hY
  have hw1 : Blk W b1 3 #[.int .i64 (size : Int)] := Blk.below h1 hW h1.lt
  have HB1 := Lib.hid hw1
  have HTL : Hid (∀ r, T0 r → r < W.heap.size) := Lib.hid (fun r hr => by have := htl r hr; have := hW.size; omega)
  have HT1 := Lib.hid ht1
  have HJ := Lib.hid hJ
  obtain ⟨W1, hW1⟩ : ∃ W1, W1 = W.alloc (Obj.cells #[.func (.yield l) #[] #[]] 126) := ⟨_, rfl⟩
  have hz1 : W1.heap.size = W.heap.size + 1 := by rw [hW1]; simp
  have hmk : (Instr.makeSlice 25 (.int .i64 (size : Int)) (.int .i64 (size : Int))).run Try.prog (W.alloc (Obj.cells #[.func (.yield l) #[] #[]] 126)) = .ok (.slice (some ⟨W.heap.size + 1, 0, none⟩) size size) (W1.alloc (.cells (flat encB (List.replicate size false)).toArray 4)) := by rw [← hW1, ← hz1]; exact make_bits size (by omega) _
  have f1 : (W.alloc (Obj.cells #[.func (.yield l) #[] #[]] 126)).cell? ⟨b1, 0, none⟩ = some (.int .i64 (size : Int)) := (hw1.alloc _).cell 0
  obtain ⟨X, hX⟩ : ∃ X, X = ((W1.alloc (.cells (flat encB (List.replicate size false)).toArray 4)).alloc (Obj.cells #[.slice (some ⟨W.heap.size + 1, 0, none⟩) size size] 25)).alloc (Obj.cells #[.func (.func 98) #[] #[.pointer (some ⟨b1, 0, none⟩), .pointer (some ⟨W.heap.size, 0, none⟩), .pointer (some ⟨W.heap.size + 2, 0, none⟩), .pointer (some ⟨W.heap.size + 3, 0, none⟩)]] 127) := ⟨_, rfl⟩
  obtain ⟨g, hg9⟩ : ∃ g, g = W.heap.size + 1 := ⟨_, rfl⟩
  have hb3 : W1.heap.size + 1 = W.heap.size + 2 := by omega
  have hb4 : W1.heap.size + 1 + 1 = W.heap.size + 3 := by omega
  have hX4 : Blk X (W.heap.size + 3) 127 #[.func (.func 98) #[] #[.pointer (some ⟨b1, 0, none⟩), .pointer (some ⟨W.heap.size, 0, none⟩), .pointer (some ⟨W.heap.size + 2, 0, none⟩), .pointer (some ⟨W.heap.size + 3, 0, none⟩)]] := by
    rw [hX]
    have := Blk.new ((W1.alloc (.cells (flat encB (List.replicate size false)).toArray 4)).alloc (Obj.cells #[.slice (some ⟨W.heap.size + 1, 0, none⟩) size size] 25)) 127 #[.func (.func 98) #[] #[.pointer (some ⟨b1, 0, none⟩), .pointer (some ⟨W.heap.size, 0, none⟩), .pointer (some ⟨W.heap.size + 2, 0, none⟩), .pointer (some ⟨W.heap.size + 3, 0, none⟩)]]
    simp only [World.size_alloc] at this
    rw [hb4] at this
    exact this
  have hX3 : Blk X (W.heap.size + 2) 25 #[.slice (some ⟨W.heap.size + 1, 0, none⟩) size size] := by
    rw [hX]
    have := Blk.new (W1.alloc (.cells (flat encB (List.replicate size false)).toArray 4)) 25 #[.slice (some ⟨W.heap.size + 1, 0, none⟩) size size]
    simp only [World.size_alloc] at this
    rw [hb3] at this
    exact this.alloc _
  have hXg : RowB encB 4 X (W.heap.size + 1) (List.replicate size false) := by
    rw [hX]
    have := RowB.new encB W1 4 (List.replicate size false)
    rw [hz1] at this
    exact Blk.alloc (Blk.alloc this _) _
  have hX2 : Blk X W.heap.size 126 #[.func (.yield l) #[] #[]] := by
    rw [hX, hW1]
    exact (((Blk.new W 126 #[.func (.yield l) #[] #[]]).alloc _).alloc _).alloc _
  have hXW : Below W.heap.size W X := by
    rw [hX, hW1]
    exact ((((Below.refl _ W).alloc (Nat.le_refl _) _).alloc (by simp) _).alloc (by simp; omega) _).alloc (by simp; omega) _
  have hXz : X.heap.size = W.heap.size + 4 := by rw [hX, hW1]; simp
  have hX1 : Blk X b1 3 #[.int .i64 (size : Int)] := Blk.below hw1 hXW hw1.lt
  have hlb := hw1.lt
  have hst : StC (fun r => T0 r ∨ (W.heap.size ≤ r ∧ r < X.heap.size)) X size l b1 W.heap.size (W.heap.size + 2) (W.heap.size + 3) (W.heap.size + 1) (List.replicate size false) :=
    ⟨hX1, hX2, hX3, hX4, hXg, by simp, .inl ht1, .inr ⟨by omega, by omega⟩, .inr ⟨by omega, by omega⟩, .inr ⟨by omega, by omega⟩, .inr ⟨by omega, by omega⟩, by omega, by omega, by omega, by omega⟩
  have hjv := hg _ _ _ _ hJ (Below.grown0 (w := W) hXW)
  have hch := choose_in N size hsz l b1 W.heap.size (W.heap.size + 2) (W.heap.size + 3) (W.heap.size + 1) J hB hY size (n - 1) (fun r => T0 r ∨ (W.heap.size ≤ r ∧ r < X.heap.size)) [] (List.replicate size false) X 0 (by omega) hst (fun r hr => by
    rcases hr with hr | hr
    · have := htl r hr; have := hW.size; omega
    · exact hr.2) hjv (by simpa using hN)
  have HCH := Lib.hid hch
  unfold ChPost at HCH
  have HX := Lib.hid hX
  have HB3 := Lib.hid hb3
  have HB4 := Lib.hid hb4
  have HW1 := Lib.hid hW1
  have HZ1 := Lib.hid hz1
  clear hB hY hg ht hl hJ h1 ht1 htl hW1 hz1 hw1 hX hb3 hb4 hst hch hjv hXW hX1 hX2 hX3 hX4 hXg hXz hlb hg9 hW
  refine callsIn_of_wp Try.func97 rfl trivial ?_ rfl
  simp only [Try.ntmps97, List.size_toArray, List.length_cons, List.length_nil, Nat.reduceAdd, Nat.reduceSub, Array.replicate_succ, Array.replicate_zero, List.push_toArray, List.append_toArray, List.nil_append, List.cons_append]
  gi_wp2_with fail
  rw [HB4.out, HB3.out, ← HX.out]
  refine ⟨trivial, fun h => (by cases h), ?_⟩
  refine HCH.out.mono ?_
  rintro en W3 ⟨rfl, xs, ob', hxs, -, -, hj3, -⟩
  have HX3 : Hid (xs.map BX.b = allB size []) := Lib.hid (by rw [hxs]; rfl)
  have HJ3 : Hid (J T0 xs W3) := Lib.hid (HBR.out.less _ _ _ _ hj3 fun _ h => .inl h)
  clear hxs hj3
  gi_wp2
  go_end0
  exact ⟨⟨_, rfl⟩, xs, HX3.out, HJ3.out⟩
end Go.Proofs.Ytlnaahkheankoaa

namespace Go.Proofs.Ytlnaahkheankoaa
open Go.RowKit Go.Shelf Go.Proofs.Gr

def encV (x : BX) : List Value := [.slice x.a x.b.length x.c]
theorem encV_len (x : BX) : (encV x).length = 1 := rfl
/-- Lists of bools in memory. -/
def LsAt (w : World) (a : Option Addr) (M : List (List Bool)) : Prop := ∃ xs : List BX, xs.map BX.b = M ∧ RowAt 1 encV w a xs ∧ ∀ x ∈ xs, BsAt w x.a x.b
theorem LsAt.keep {w w' : World} {a : Option Addr} {M : List (List Bool)} (h : LsAt w a M) (hb : Below w.heap.size w w') : LsAt w' a M := by
  obtain ⟨xs, h1, h2, h3⟩ := h
  exact ⟨xs, h1, h2.keep hb, fun x hx => (h3 x hx).keep hb⟩
theorem RowAt.grown {α : Type} {k : Nat} {enc : α → List Value} {w w' : World} {a : Option Addr} {L : List α} (h : RowAt k enc w a L) {row : Option Nat} (hg : w.grownBy w' row) (hr : ∀ p, a = some p → some p.block ≠ row) : RowAt k enc w' a L := by
  intro j hj
  obtain ⟨b, off, rfl, hlt, h1⟩ := h j hj
  refine ⟨b, off, rfl, Nat.lt_of_lt_of_le hlt hg.size, fun i hi => ?_⟩
  rw [← h1 i hi]
  exact World.cell?_of_block (hg.block b hlt (hr _ rfl))
/-- What is kept of those that have come. -/
def keptX (pr : List Bool → Bool) (pre : List BX) : List BX := pre.filter fun x => pr x.b
theorem keptX_snoc (pr : List Bool → Bool) (pre : List BX) (x : BX) : keptX pr (pre ++ [x]) = keptX pr pre ++ (if pr x.b = true then [x] else []) := by
  unfold keptX
  rw [List.filter_append]
  congr 1
  rw [List.filter_cons]
  split <;> rfl
theorem keptX_map (pr : List Bool → Bool) (pre : List BX) : (keptX pr pre).map BX.b = (pre.map BX.b).filter pr := by
  unfold keptX
  rw [List.filter_map]; rfl
structure UI (w2 : World) (pr : List Bool → Bool) (T : Nat → Prop) (pre : List BX) (W : World) : Prop where
  low : Below w2.heap.size w2 W
  tlow : ∀ r, T r → w2.heap.size < r
  tlt : ∀ r, T r → r < W.heap.size
  row : ∃ v, Blk W w2.heap.size 45 #[v] ∧ W.ownsRow (w2.heap.size + 1) 25 1 v (keptX pr pre).length (flat encV (keptX pr pre)) ∧ ∀ k, v.ownBlock = some k → ¬ T k ∧ ∀ y ∈ keptX pr pre, ∀ p, y.a = some p → p.block ≠ k
  els : ∀ y ∈ keptX pr pre, BsAt W y.a y.b ∧ ∀ p, y.a = some p → ¬ T p.block ∧ p.block < W.heap.size ∧ w2.heap.size < p.block
theorem UI.any {w2 : World} {pr : List Bool → Bool} {T T' : Nat → Prop} {pre : List BX} {A A' : World} (h : UI w2 pr T pre A) {row : Option Nat} (hg : A.grownBy A' row)
    (h1 : ∀ r, row = some r → w2.heap.size < r) (h2 : ∀ v k, Blk A w2.heap.size 45 #[v] → A.ownsRow (w2.heap.size + 1) 25 1 v (keptX pr pre).length (flat encV (keptX pr pre)) → v.ownBlock = some k → ¬ T k → row ≠ some k)
    (h3 : ∀ y ∈ keptX pr pre, ∀ p, y.a = some p → y.b ≠ [] → ¬ T p.block → some p.block ≠ row)
    (hT : ∀ r, T' r → T r ∨ (A.heap.size ≤ r ∧ r < A'.heap.size)) : UI w2 pr T' pre A' := by
  obtain ⟨v, hv1, hv2, hv3⟩ := h.row
  have hlt := hv1.lt
  refine ⟨?_, ?_, ?_, ⟨v, ?_, ?_, ?_⟩, ?_⟩
  · exact h.low.grown hg (by omega) (fun k e => by have := h1 k e; omega)
  · intro r hr
    rcases hT r hr with h4 | h4
    · exact h.tlow r h4
    · omega
  · intro r hr
    rcases hT r hr with h4 | h4
    · exact Nat.lt_of_lt_of_le (h.tlt r h4) hg.size
    · exact h4.2
  · exact hv1.grown hg (fun e => by have := h1 _ e.symm; omega)
  · refine hv2.kept hg ?_
    cases ho : v.ownBlock with
    | none => exact .inl rfl
    | some k => exact .inr fun e => h2 v k hv1 hv2 ho (hv3 k ho).1 e.symm
  · refine fun k hk => ⟨fun ht => ?_, (hv3 k hk).2⟩
    rcases hT k ht with h4 | h4
    · exact (hv3 k hk).1 h4
    · have := (hv2.lt k hk).2; omega
  · intro y hy
    obtain ⟨e1, e2⟩ := h.els y hy
    refine ⟨?_, fun p hp => ⟨fun ht => ?_, ?_, (e2 p hp).2.2⟩⟩
    · by_cases hb : y.b = []
      · rw [hb]; exact RowAt.nil _ _ _ _
      · exact e1.grown hg fun p hp => h3 y hy p hp hb (e2 p hp).1
    · rcases hT _ ht with h4 | h4
      · exact (e2 p hp).1 h4
      · have := (e2 p hp).2.1; omega
    · exact Nat.lt_of_lt_of_le (e2 p hp).2.1 hg.size
theorem UI.grow {w2 : World} {pr : List Bool → Bool} {T : Nat → Prop} {pre : List BX} {A A' : World} (h : UI w2 pr T pre A) (hg : A.grownBy A' none) : UI w2 pr (fun r => T r ∨ (A.heap.size ≤ r ∧ r < A'.heap.size)) pre A' :=
  h.any hg (fun r e => by cases e) (fun _ _ _ _ _ _ e => by cases e) (fun _ _ _ _ _ _ e => by cases e) (fun _ hr => hr)
theorem UI.less {w2 : World} {pr : List Bool → Bool} {T T' : Nat → Prop} {pre : List BX} {A : World} (h : UI w2 pr T pre A) (hT : ∀ r, T' r → T r) : UI w2 pr T' pre A :=
  h.any (A' := A) (row := none) ⟨rfl, rfl, rfl, Nat.le_refl _, fun _ _ _ => rfl⟩ (fun r e => by cases e) (fun _ _ _ _ _ _ e => by cases e) (fun _ _ _ _ _ _ e => by cases e) (fun r hr => .inl (hT r hr))
theorem UI.turn {w2 : World} {pr : List Bool → Bool} {T : Nat → Prop} {pre : List BX} {A A' : World} {r : Nat} (h : UI w2 pr T pre A) (hr : T r) (hg : A.grownBy A' (some r)) : UI w2 pr T pre A' :=
  h.any hg (fun r' e => by cases e; exact h.tlow r hr) (fun _ k _ _ _ hk e => by cases e; exact hk hr) (fun _ _ p _ _ hk e => by injection e with e; subst e; exact hk hr) (fun _ hr => .inl hr)
theorem RowAt.cells_at {α : Type} {k : Nat} {enc : α → List Value} {w : World} {a : Option Addr} {L : List α} (h : RowAt k enc w a L) (hk0 : 0 < k) (hk : ∀ x, (enc x).length = k) (hL : L ≠ []) (p : Addr) (hp : a = some p) {o : Obj} (ho : w.heap[p.block]? = some o) (hc : o.isCells = false) : False := by
  have hl : 0 < L.length := List.length_pos_iff.2 hL
  obtain ⟨b, off, e, -, h1⟩ := h 0 hl
  rw [hp] at e
  injection e with e
  subst e
  have h2 := h1 0 hk0
  rw [List.getElem?_eq_getElem (by rw [hk]; exact hk0)] at h2
  unfold World.cell? at h2
  simp only at ho
  rw [ho] at h2
  cases o <;> first | (cases hc; done) | simp at h2
theorem UI.recd {w2 : World} {pr : List Bool → Bool} {T : Nat → Prop} {pre : List BX} {A A' : World} {r : Nat} {o : Obj} (h : UI w2 pr T pre A) (hg : A.grownBy A' (some r)) (hl : w2.heap.size < r) (ho : A.heap[r]? = some o) (hc : o.isCells = false) : UI w2 pr T pre A' :=
  h.any hg (fun r' e => by cases e; exact hl) (fun v k _ hv hk _ e => by
      injection e with e
      subst e
      rcases hv.2 with ⟨h0, _⟩ | ⟨g, cap, cur, h0, -, hg9, -⟩
      · rw [h0] at hk; cases hk
      · rw [h0] at hk
        have : g = r := by simpa [Value.ownBlock] using hk
        subst this
        rw [ho] at hg9; cases hg9; cases hc) (fun y hy p hp hb _ e => by
      injection e with e
      subst e
      exact (h.els y hy).1.cells_at (by decide) encB_len hb p hp ho hc) (fun _ hr => .inl hr)
theorem QX.recd {size : Nat} {T : Nat → Prop} {x : BX} {A A' : World} {r : Nat} {o : Obj} (h : QX size T x A) (hg : A.grownBy A' (some r)) (ho : A.heap[r]? = some o) (hc : o.isCells = false) : QX size T x A' := by
  refine ⟨h.1, ?_, fun p hp => ⟨(h.2.2 p hp).1, Nat.lt_of_lt_of_le (h.2.2 p hp).2 hg.size⟩⟩
  by_cases hb : x.b = []
  · rw [hb]; exact RowAt.nil _ _ _ _
  · exact h.2.1.grown hg fun p hp e => by
      injection e with e
      subst e
      exact h.2.1.cells_at (by decide) encB_len hb p hp ho hc
theorem KeepsFrom.below {B : Nat} {W y : World} (h : Below W.heap.size W y) : KeepsFrom B W y := ⟨h.size, fun k _ _ h0 _ => (h.block k (Array.getElem?_eq_some_iff.1 h0).1).trans h0⟩
theorem UI.skip {w2 : World} {pr : List Bool → Bool} {T : Nat → Prop} {pre : List BX} {W y : World} {x : BX} (h : UI w2 pr T pre W) (hp : pr x.b = false) (hb : Below W.heap.size W y) (B : Nat) :
    KeepsFrom B W y ∧ KpT T W y ∧ UI w2 pr (fun r => T r ∧ ¬ rmX x r) (pre ++ [x]) y := by
  refine ⟨KeepsFrom.below hb, KpT.below hb, ?_⟩
  have h1 : UI w2 pr (fun r => T r ∧ ¬ rmX x r) pre y := ((h.grow (Below.grown0 hb)).less fun _ h => .inl h).less fun _ h => h.1
  have h2 : keptX pr (pre ++ [x]) = keptX pr pre := by rw [keptX_snoc, hp]; simp
  exact ⟨h1.low, h1.tlow, h1.tlt, by rw [h2]; exact h1.row, by rw [h2]; exact h1.els⟩
theorem UI.push {w2 : World} {pr : List Bool → Bool} {T : Nat → Prop} {pre : List BX} {W y w9 : World} {x : BX} {size : Nat} {o : Obj} {v v1 : Value} (h : UI w2 pr T pre W) (hq : QX size T x W) (hp : pr x.b = true) (hb : Below W.heap.size W y)
    (hvT : ∀ k, v.ownBlock = some k → ¬ T k ∧ ∀ y ∈ keptX pr pre, ∀ p, y.a = some p → p.block ≠ k) (hvo : y.ownsRow (w2.heap.size + 1) 25 1 v (keptX pr pre).length (flat encV (keptX pr pre))) (hvb : Blk y w2.heap.size 45 #[v])
    (hown : w9.ownsRow (w2.heap.size + 1) 25 1 v1 ((keptX pr pre).length + 1) (flat encV (keptX pr pre) ++ [.slice x.a x.b.length x.c])) (hg : (y.alloc o).grownBy w9 v.ownBlock) (hat : v1.ownBlock = v.ownBlock ∨ v1.ownBlock = some (y.alloc o).heap.size) (B : Nat) :
    KeepsFrom B W (w9.setCell ⟨w2.heap.size, 0, none⟩ v1) ∧ KpT T W (w9.setCell ⟨w2.heap.size, 0, none⟩ v1) ∧ UI w2 pr (fun r => T r ∧ ¬ rmX x r) (pre ++ [x]) (w9.setCell ⟨w2.heap.size, 0, none⟩ v1) := by
  have hyo : Below y.heap.size y (y.alloc o) := (Below.refl _ _).alloc (Nat.le_refl _) _
  have hz : (y.alloc o).heap.size = y.heap.size + 1 := by simp
  have hsz9 := hg.size
  have hlt2 : w2.heap.size < y.heap.size := hvb.lt
  have hvb9 : Blk w9 w2.heap.size 45 #[v] := (hvb.alloc o).grown hg (fun e => by have := (hvo.lt _ e.symm).1; omega)
  have hzz : (w9.setCell ⟨w2.heap.size, 0, none⟩ v1).heap.size = w9.heap.size := by simp [World.setCell]
  -- a block of W that is neither the box nor the list's own lies as it lay
  have hsame : ∀ r, r < W.heap.size → r ≠ w2.heap.size → some r ≠ v.ownBlock → (w9.setCell ⟨w2.heap.size, 0, none⟩ v1).heap[r]? = W.heap[r]? := fun r h1 h2 h3 =>
    (Below.heap_setCell w9 ⟨w2.heap.size, 0, none⟩ v1 r h2).trans ((hg.block r (by rw [hz]; have := hb.size; omega) h3).trans ((hyo.block r (by have := hb.size; omega)).trans (hb.block r h1)))
  have hrow : ∀ (L : List Bool) (a : Option Addr), BsAt W a L → (∀ p, a = some p → p.block ≠ w2.heap.size ∧ some p.block ≠ v.ownBlock) → BsAt (w9.setCell ⟨w2.heap.size, 0, none⟩ v1) a L := by
    intro L a hL hpp j hj
    obtain ⟨b, off, rfl, hlt, h1⟩ := hL j hj
    refine ⟨b, off, rfl, by rw [hzz]; have := hb.size; omega, fun i hi => ?_⟩
    rw [← h1 i hi]
    exact World.cell?_of_block (hsame b hlt (hpp _ rfl).1 (hpp _ rfl).2)
  refine ⟨⟨by rw [hzz]; have := hb.size; omega, fun k o9 _ h0 hc => ?_⟩, ⟨by rw [hzz]; have := hb.size; omega, fun r o9 hr h0 _ => ?_⟩, ?_⟩
  · have hlt := (Array.getElem?_eq_some_iff.1 h0).1
    refine (hsame k hlt (fun e => ?_) (fun e => ?_)).trans h0
    · subst e
      have h9 := (hb.block _ hlt).trans h0
      unfold Blk at hvb
      rw [h9] at hvb; cases hvb; cases hc
    · rcases hvo.2 with ⟨h8, _⟩ | ⟨g, cap, cur, h8, -, hg9, -⟩
      · rw [h8] at e; cases e
      · rw [h8] at e
        have : k = g := by simpa [Value.ownBlock] using e
        subst this
        have h9 := (hb.block _ hlt).trans h0
        rw [h9] at hg9; cases hg9; cases hc
  · have hlt := (Array.getElem?_eq_some_iff.1 h0).1
    refine (hsame r hlt (fun e => ?_) (fun e => (hvT r e.symm).1 hr)).trans h0
    have := h.tlow r hr
    omega
  · have hk : keptX pr (pre ++ [x]) = keptX pr pre ++ [x] := by rw [keptX_snoc, hp]; simp
    have hxT : ∀ p, x.a = some p → p.block ≠ w2.heap.size ∧ some p.block ≠ v.ownBlock := fun p hp => ⟨fun e => by have := h.tlow _ (hq.2.2 p hp).1; omega, fun e => (hvT _ e.symm).1 (hq.2.2 p hp).1⟩
    refine ⟨?_, fun r hr => h.tlow r hr.1, fun r hr => by rw [hzz]; have := h.tlt r hr.1; have := hb.size; omega, ⟨v1, ?_, ?_, ?_⟩, ?_⟩
    · have h1 := h.low.trans (hb.mono h.low.size)
      have h2 : Below w2.heap.size w2 (y.alloc o) := h1.alloc h1.size o
      have h3 : Below w2.heap.size w2 w9 := h2.grown hg h2.size (fun k e => by have := (hvo.lt k e).1; omega)
      exact h3.setCell (p := ⟨w2.heap.size, 0, none⟩) (Nat.le_refl _) _
    · have := hvb9.set_ 0 v1
      simpa using this
    · rw [hk, List.length_append, flat_append, flat_one]
      exact ownsRow_setCell_below hown (a := ⟨w2.heap.size, 0, none⟩) (Nat.lt_succ_self _) _
    · rw [hk]
      intro k hk9
      rcases hat with h9 | h9
      · rw [h9] at hk9
        refine ⟨fun ht => (hvT k hk9).1 ht.1, fun y9 hy9 p hp9 => ?_⟩
        rcases List.mem_append.1 hy9 with h8 | h8
        · exact (hvT k hk9).2 y9 h8 p hp9
        · obtain rfl : y9 = x := by simpa using h8
          exact fun e => (hxT p hp9).2 (by rw [hk9, e])
      · rw [h9, hz] at hk9
        injection hk9 with hk9
        refine ⟨fun ht => ?_, fun y9 hy9 p hp9 e => ?_⟩
        · have := h.tlt k ht.1; have := hb.size; omega
        · rcases List.mem_append.1 hy9 with h8 | h8
          · have := ((h.els y9 h8).2 p hp9).2.1; have := hb.size; omega
          · obtain rfl : y9 = x := by simpa using h8
            have := (hq.2.2 p hp9).2; have := hb.size; omega
    · rw [hk]
      intro y9 hy9
      rcases List.mem_append.1 hy9 with h8 | h8
      · obtain ⟨e1, e2⟩ := h.els y9 h8
        refine ⟨hrow _ _ e1 fun p hp => ⟨fun e => by have := (e2 p hp).2.2; omega, fun e => (hvT _ e.symm).2 y9 h8 p hp rfl⟩, fun p hp => ⟨fun ht => (e2 p hp).1 ht.1, by rw [hzz]; have := (e2 p hp).2.1; have := hb.size; omega, (e2 p hp).2.2⟩⟩
      · obtain rfl : y9 = x := by simpa using h8
        exact ⟨hrow _ _ hq.2.1 hxT, fun p hp => ⟨fun ht => ht.2 ⟨p, hp, rfl⟩, by rw [hzz]; have := (hq.2.2 p hp).2; have := hb.size; omega, h.tlow _ (hq.2.2 p hp).1⟩⟩
end Go.Proofs.Ytlnaahkheankoaa

namespace Go.Proofs.Ytlnaahkheankoaa
open Go.RowKit Go.Shelf Go.Proofs.Gr
attribute [local go_sem] Oper.semAt_some

set_option maxHeartbeats 12800000 in
set_option maxRecDepth 100000 in
theorem isdir_0 (w : World) : Calls Try.prog 105 #[.agg #[.int .u64 3, .int .u64 3], .int .u64 5] w (fun r x => r = .returned (.bool false) ∧ Below w.heap.size w x) := by
  obtain ⟨W, hW⟩ : ∃ W, W = w.alloc (Obj.cells #[.int .u64 3, .int .u64 3] 136) := ⟨_, rfl⟩
  have hb : Below w.heap.size w W := by rw [hW]; exact (Below.refl _ _).alloc (Nat.le_refl _) _
  have hx : Blk W w.heap.size 136 #[.int .u64 3, .int .u64 3] := by rw [hW]; exact Blk.new _ _ _
  have f0 : (w.alloc (Obj.cells #[.int .u64 3, .int .u64 3] 136)).cell? ⟨w.heap.size, 0, none⟩ = some (.int .u64 3) := by rw [← hW]; exact hx.cell 0
  have f1 : (w.alloc (Obj.cells #[.int .u64 3, .int .u64 3] 136)).cell? ⟨w.heap.size, 1, none⟩ = some (.int .u64 3) := by rw [← hW]; exact hx.cell 1
  have HB := Lib.hid hb
  go_enter Try.func105, Try.ntmps105
  go_wp2_with fail
  rw [← hW]
  go_ret
  exact ⟨rfl, HB.out⟩
set_option maxHeartbeats 12800000 in
set_option maxRecDepth 100000 in
theorem isdir_1 (w : World) : Calls Try.prog 105 #[.agg #[.int .u64 6, .int .u64 6], .int .u64 5] w (fun r x => r = .returned (.bool false) ∧ Below w.heap.size w x) := by
  obtain ⟨W, hW⟩ : ∃ W, W = w.alloc (Obj.cells #[.int .u64 6, .int .u64 6] 136) := ⟨_, rfl⟩
  have hb : Below w.heap.size w W := by rw [hW]; exact (Below.refl _ _).alloc (Nat.le_refl _) _
  have hx : Blk W w.heap.size 136 #[.int .u64 6, .int .u64 6] := by rw [hW]; exact Blk.new _ _ _
  have f0 : (w.alloc (Obj.cells #[.int .u64 6, .int .u64 6] 136)).cell? ⟨w.heap.size, 0, none⟩ = some (.int .u64 6) := by rw [← hW]; exact hx.cell 0
  have f1 : (w.alloc (Obj.cells #[.int .u64 6, .int .u64 6] 136)).cell? ⟨w.heap.size, 1, none⟩ = some (.int .u64 6) := by rw [← hW]; exact hx.cell 1
  have HB := Lib.hid hb
  go_enter Try.func105, Try.ntmps105
  go_wp2_with fail
  rw [← hW]
  go_ret
  exact ⟨rfl, HB.out⟩
set_option maxHeartbeats 12800000 in
set_option maxRecDepth 100000 in
theorem isdir_2 (w : World) : Calls Try.prog 105 #[.agg #[.int .u64 5, .int .u64 1], .int .u64 5] w (fun r x => r = .returned (.bool false) ∧ Below w.heap.size w x) := by
  obtain ⟨W, hW⟩ : ∃ W, W = w.alloc (Obj.cells #[.int .u64 5, .int .u64 1] 136) := ⟨_, rfl⟩
  have hb : Below w.heap.size w W := by rw [hW]; exact (Below.refl _ _).alloc (Nat.le_refl _) _
  have hx : Blk W w.heap.size 136 #[.int .u64 5, .int .u64 1] := by rw [hW]; exact Blk.new _ _ _
  have f0 : (w.alloc (Obj.cells #[.int .u64 5, .int .u64 1] 136)).cell? ⟨w.heap.size, 0, none⟩ = some (.int .u64 5) := by rw [← hW]; exact hx.cell 0
  have f1 : (w.alloc (Obj.cells #[.int .u64 5, .int .u64 1] 136)).cell? ⟨w.heap.size, 1, none⟩ = some (.int .u64 1) := by rw [← hW]; exact hx.cell 1
  have HB := Lib.hid hb
  go_enter Try.func105, Try.ntmps105
  go_wp2_with fail
  rw [← hW]
  go_ret
  exact ⟨rfl, HB.out⟩
set_option maxHeartbeats 12800000 in
set_option maxRecDepth 100000 in
theorem isdir_3 (w : World) : Calls Try.prog 105 #[.agg #[.int .u64 7, .int .u64 5], .int .u64 5] w (fun r x => r = .returned (.bool true) ∧ Below w.heap.size w x) := by
  obtain ⟨W, hW⟩ : ∃ W, W = w.alloc (Obj.cells #[.int .u64 7, .int .u64 5] 136) := ⟨_, rfl⟩
  have hb : Below w.heap.size w W := by rw [hW]; exact (Below.refl _ _).alloc (Nat.le_refl _) _
  have hx : Blk W w.heap.size 136 #[.int .u64 7, .int .u64 5] := by rw [hW]; exact Blk.new _ _ _
  have f0 : (w.alloc (Obj.cells #[.int .u64 7, .int .u64 5] 136)).cell? ⟨w.heap.size, 0, none⟩ = some (.int .u64 7) := by rw [← hW]; exact hx.cell 0
  have f1 : (w.alloc (Obj.cells #[.int .u64 7, .int .u64 5] 136)).cell? ⟨w.heap.size, 1, none⟩ = some (.int .u64 5) := by rw [← hW]; exact hx.cell 1
  have HB := Lib.hid hb
  go_enter Try.func105, Try.ntmps105
  go_wp2_with fail
  rw [← hW]
  go_ret
  exact ⟨rfl, HB.out⟩
open Go.Maps
theorem lawU : Keyed Try.prog 113 := int_keyed Try.underlying113
theorem elem_bool_inv {H : Type} {P : Program} {t : TypeId} (ht : P.underlying t = some .bool) {v : Value} {b : Bool} {ps : List MemPlace} (h : plainElem (H := H) P t v = some (.lit (.bool b), ps)) : v = .bool b := by
  unfold plainElem at h
  rw [ht] at h
  cases v <;> first | (simp at h; rw [h.1]) | simp at h
abbrev MapU (w : World) (b n : Nat) (D : DataW Unit) : Prop := w.ownsMap Try.prog 113 (plainElem Try.prog 4) b n D
theorem zero_bool (w : World) : (zeroValue 4).run Try.prog w = .ok (.bool false) w := by kernel_rfl
theorem mapU_look {w : World} {b n : Nat} {D : DataW Unit} (h : MapU w b n D) (k : Int) (hk : keyOf Try.prog 113 (.int .u64 k) = some (.int .u64 k)) (x : Bool) (hx : D.atKey (.int .u64 k) (.lit (.bool false)) = .lit (.bool x)) :
    (Instr.lookup 133 (.map (some b)) (.int .u64 k) false).run Try.prog w = .ok (.bool x) w := by
  obtain ⟨v, ps, hr, hv⟩ := h.lookup (t := 133) lawU Try.underlying133 (zero_bool w) (plainElem_bool Try.underlying4 false) hk
  rw [hx] at hv
  rw [hr, elem_bool_inv Try.underlying4 hv]
theorem key5 : keyOf Try.prog 113 (.int .u64 5) = some (.int .u64 5) := by kernel_rfl
theorem key2 : keyOf Try.prog 113 (.int .u64 2) = some (.int .u64 2) := by kernel_rfl
def allT : List (Int × Int) := [(3, 3), (6, 6), (5, 1), (7, 5), (7, 2)]
abbrev mapD1 : DataW Unit := (DataW.map []).put (.int .u64 5) (.lit (.bool true))
abbrev mapD2 : DataW Unit := mapD1.put (.int .u64 2) (.lit (.bool true))
theorem look_a : mapD1.atKey (.int .u64 2) (.lit (.bool false)) = .lit (.bool false) := by rfl
theorem look_b : mapD2.atKey (.int .u64 2) (.lit (.bool false)) = .lit (.bool true) := by rfl
set_option maxHeartbeats 12800000 in
set_option maxRecDepth 100000 in
theorem leads_tri (g cap : Nat) (w : World) (ht : RowAt 2 encT w (some ⟨g, 0, none⟩) allT) :
    Calls Try.prog 82 #[.int .u64 5, .int .u64 2, .slice (some ⟨g, 0, none⟩) 5 cap] w (fun e x => e = .returned (.bool true) ∧ Below w.heap.size w x) := by
  have hmm := @run_makeMap Try.prog
  have own0 : MapU (w.alloc (.map #[] 0)) w.heap.size 0 (.map []) := World.ownsMap_made w _ _ _
  obtain ⟨W2, hu, ho, hg2⟩ := own0.update (t := 133) lawU Try.underlying133 (by unfold maxLen; omega) key5 (plainElem_bool Try.underlying4 true)
  have h02 : Below w.heap.size w W2 := ((Below.refl _ w).alloc (Nat.le_refl _) (.map #[] 0)).grown hg2 (by simp) (fun k e => by cases e; omega)
  obtain ⟨W3, hW3⟩ : ∃ W3, W3 = W2.alloc (Obj.cells #[.int .u64 5] 113) := ⟨_, rfl⟩
  have h23 : Below W2.heap.size W2 W3 := by rw [hW3]; exact (Below.refl _ _).alloc (Nat.le_refl _) _
  have hwk : Blk W3 W2.heap.size 113 #[.int .u64 5] := by rw [hW3]; exact Blk.new _ _ _
  have HBX := Lib.hid (h02.trans (h23.mono h02.size))
  have HT := Lib.hid (ht.keep HBX.out)
  have HM : Hid (MapU W3 w.heap.size 1 mapD1) := Lib.hid (by rw [hW3]; exact ho.alloc _)
  have k0 : W3.cell? ⟨W2.heap.size, 0, none⟩ = some (.int .u64 5) := hwk.cell 0
  have HRW : Hid (∀ (u : World) (h : RowAt 2 encT u (some ⟨g, 0, none⟩) allT) (k : Nat) (hk : k < 5), u.cell? ⟨g, 2 * k, none⟩ = some (.int .u64 (pAt allT k).1) ∧ u.cell? ⟨g, 2 * k + 1, none⟩ = some (.int .u64 (pAt allT k).2)) := Lib.hid (fun u h k hk => by
    obtain ⟨b9, o9, e9, -, h9⟩ := h k hk
    injection e9 with e9
    injection e9 with e1 e2
    subst e1 e2
    have x0 := h9 0 (by decide)
    have x1 := h9 1 (by decide)
    rw [pAt_get allT k hk] at x0 x1
    rw [Nat.zero_add, Nat.mul_comm] at x0 x1
    exact ⟨x0, x1⟩)
  clear own0 ho hg2 h02 h23 hwk ht
  go_enter Try.func82, Try.ntmps82
  go_wp2
  go_step3
  go_wp2
  go_step3
  go_wp2
  rw [← hW3]
  clear hW3 hu hmm
  refine wp_loop_rounds 1 ?_
  rw [rounds_succ]
  go_wp2_with fail
  refine wp_loop_rounds 4 ?_
  obtain ⟨X0, hX0⟩ : ∃ X, X = W3.alloc (Obj.cells #[.int .u64 3, .int .u64 3] 136) := ⟨_, rfl⟩
  have g0 : W3.cell? ⟨g, 0, none⟩ = some (.int .u64 3) := (HRW.out _ HT.out 0 (by decide)).1
  have g1 : W3.cell? ⟨g, 1, none⟩ = some (.int .u64 3) := (HRW.out _ HT.out 0 (by decide)).2
  have hn : Blk X0 W3.heap.size 136 #[.int .u64 3, .int .u64 3] := by rw [hX0]; exact Blk.new _ _ _
  have hbx : Below W3.heap.size W3 X0 := by rw [hX0]; exact (Below.refl _ _).alloc (Nat.le_refl _) _
  have n0 : (W3.alloc (Obj.cells #[.int .u64 3, .int .u64 3] 136)).cell? ⟨W3.heap.size, 0, none⟩ = some (.int .u64 3) := by rw [← hX0]; exact hn.cell 0
  have n1 : (W3.alloc (Obj.cells #[.int .u64 3, .int .u64 3] 136)).cell? ⟨W3.heap.size, 1, none⟩ = some (.int .u64 3) := by rw [← hX0]; exact hn.cell 1
  have hxr : bits BinOp.xor IntKind.u64 5 3 = 6 := by first | rfl | decide
  rw [rounds_succ]
  go_wp2_with fail
  rw [← hX0]
  refine (isdir_0 _).mono ?_
  rintro r Y0 ⟨rfl, hb⟩
  have hby : Below W3.heap.size W3 Y0 := hbx.trans (hb.mono hbx.size)
  have HT' := Lib.hid (HT.out.keep hby)
  clear HT
  have HT := HT'
  clear HT'
  have HM' : Hid (MapU Y0 w.heap.size 1 mapD1) := Lib.hid (HM.out.kept (row := none) (Below.grown0 hby) (by simp))
  clear HM
  have HM := HM'
  clear HM'
  have HBX' := Lib.hid (HBX.out.trans (hby.mono HBX.out.size))
  clear HBX
  have HBX := HBX'
  clear HBX'
  clear hxr g0 g1 n0 n1 hn hbx hb hby hX0
  go_wp2_with fail
  obtain ⟨X1, hX1⟩ : ∃ X, X = Y0.alloc (Obj.cells #[.int .u64 6, .int .u64 6] 136) := ⟨_, rfl⟩
  have g0 : Y0.cell? ⟨g, 2, none⟩ = some (.int .u64 6) := (HRW.out _ HT.out 1 (by decide)).1
  have g1 : Y0.cell? ⟨g, 3, none⟩ = some (.int .u64 6) := (HRW.out _ HT.out 1 (by decide)).2
  have hn : Blk X1 Y0.heap.size 136 #[.int .u64 6, .int .u64 6] := by rw [hX1]; exact Blk.new _ _ _
  have hbx : Below Y0.heap.size Y0 X1 := by rw [hX1]; exact (Below.refl _ _).alloc (Nat.le_refl _) _
  have n0 : (Y0.alloc (Obj.cells #[.int .u64 6, .int .u64 6] 136)).cell? ⟨Y0.heap.size, 0, none⟩ = some (.int .u64 6) := by rw [← hX1]; exact hn.cell 0
  have n1 : (Y0.alloc (Obj.cells #[.int .u64 6, .int .u64 6] 136)).cell? ⟨Y0.heap.size, 1, none⟩ = some (.int .u64 6) := by rw [← hX1]; exact hn.cell 1
  have hxr : bits BinOp.xor IntKind.u64 5 6 = 3 := by first | rfl | decide
  rw [rounds_succ]
  go_wp2_with fail
  rw [← hX1]
  refine (isdir_1 _).mono ?_
  rintro r Y1 ⟨rfl, hb⟩
  have hby : Below Y0.heap.size Y0 Y1 := hbx.trans (hb.mono hbx.size)
  have HT' := Lib.hid (HT.out.keep hby)
  clear HT
  have HT := HT'
  clear HT'
  have HM' : Hid (MapU Y1 w.heap.size 1 mapD1) := Lib.hid (HM.out.kept (row := none) (Below.grown0 hby) (by simp))
  clear HM
  have HM := HM'
  clear HM'
  have HBX' := Lib.hid (HBX.out.trans (hby.mono HBX.out.size))
  clear HBX
  have HBX := HBX'
  clear HBX'
  clear hxr g0 g1 n0 n1 hn hbx hb hby hX1
  go_wp2_with fail
  obtain ⟨X2, hX2⟩ : ∃ X, X = Y1.alloc (Obj.cells #[.int .u64 5, .int .u64 1] 136) := ⟨_, rfl⟩
  have g0 : Y1.cell? ⟨g, 4, none⟩ = some (.int .u64 5) := (HRW.out _ HT.out 2 (by decide)).1
  have g1 : Y1.cell? ⟨g, 5, none⟩ = some (.int .u64 1) := (HRW.out _ HT.out 2 (by decide)).2
  have hn : Blk X2 Y1.heap.size 136 #[.int .u64 5, .int .u64 1] := by rw [hX2]; exact Blk.new _ _ _
  have hbx : Below Y1.heap.size Y1 X2 := by rw [hX2]; exact (Below.refl _ _).alloc (Nat.le_refl _) _
  have n0 : (Y1.alloc (Obj.cells #[.int .u64 5, .int .u64 1] 136)).cell? ⟨Y1.heap.size, 0, none⟩ = some (.int .u64 5) := by rw [← hX2]; exact hn.cell 0
  have n1 : (Y1.alloc (Obj.cells #[.int .u64 5, .int .u64 1] 136)).cell? ⟨Y1.heap.size, 1, none⟩ = some (.int .u64 1) := by rw [← hX2]; exact hn.cell 1
  have hxr : bits BinOp.xor IntKind.u64 5 5 = 0 := by first | rfl | decide
  rw [rounds_succ]
  go_wp2_with fail
  rw [← hX2]
  refine (isdir_2 _).mono ?_
  rintro r Y2 ⟨rfl, hb⟩
  have hby : Below Y1.heap.size Y1 Y2 := hbx.trans (hb.mono hbx.size)
  have HT' := Lib.hid (HT.out.keep hby)
  clear HT
  have HT := HT'
  clear HT'
  have HM' : Hid (MapU Y2 w.heap.size 1 mapD1) := Lib.hid (HM.out.kept (row := none) (Below.grown0 hby) (by simp))
  clear HM
  have HM := HM'
  clear HM'
  have HBX' := Lib.hid (HBX.out.trans (hby.mono HBX.out.size))
  clear HBX
  have HBX := HBX'
  clear HBX'
  clear hxr g0 g1 n0 n1 hn hbx hb hby hX2
  go_wp2_with fail
  obtain ⟨X3, hX3⟩ : ∃ X, X = Y2.alloc (Obj.cells #[.int .u64 7, .int .u64 5] 136) := ⟨_, rfl⟩
  have g0 : Y2.cell? ⟨g, 6, none⟩ = some (.int .u64 7) := (HRW.out _ HT.out 3 (by decide)).1
  have g1 : Y2.cell? ⟨g, 7, none⟩ = some (.int .u64 5) := (HRW.out _ HT.out 3 (by decide)).2
  have hn : Blk X3 Y2.heap.size 136 #[.int .u64 7, .int .u64 5] := by rw [hX3]; exact Blk.new _ _ _
  have hbx : Below Y2.heap.size Y2 X3 := by rw [hX3]; exact (Below.refl _ _).alloc (Nat.le_refl _) _
  have n0 : (Y2.alloc (Obj.cells #[.int .u64 7, .int .u64 5] 136)).cell? ⟨Y2.heap.size, 0, none⟩ = some (.int .u64 7) := by rw [← hX3]; exact hn.cell 0
  have n1 : (Y2.alloc (Obj.cells #[.int .u64 7, .int .u64 5] 136)).cell? ⟨Y2.heap.size, 1, none⟩ = some (.int .u64 5) := by rw [← hX3]; exact hn.cell 1
  have hxr : bits BinOp.xor IntKind.u64 5 7 = 2 := by first | rfl | decide
  rw [rounds_succ]
  go_wp2_with fail
  rw [← hX3]
  refine (isdir_3 _).mono ?_
  rintro r Y3 ⟨rfl, hb⟩
  have hby : Below Y2.heap.size Y2 Y3 := hbx.trans (hb.mono hbx.size)
  have HT' := Lib.hid (HT.out.keep hby)
  clear HT
  have HT := HT'
  clear HT'
  have HM' : Hid (MapU Y3 w.heap.size 1 mapD1) := Lib.hid (HM.out.kept (row := none) (Below.grown0 hby) (by simp))
  clear HM
  have HM := HM'
  clear HM'
  have HBX' := Lib.hid (HBX.out.trans (hby.mono HBX.out.size))
  clear HBX
  have HBX := HBX'
  clear HBX'
  clear hxr g0 g1 n0 n1 hn hbx hb hby hX3
  have hl0 := mapU_look HM.out 2 key2 false look_a
  obtain ⟨Z, hu2, ho2, hg2⟩ := HM.out.update (t := 133) lawU Try.underlying133 (by unfold maxLen; omega) key2 (plainElem_bool Try.underlying4 true)
  have hl1 := mapU_look ho2 2 key2 true look_b
  have HZ := Lib.hid (HBX.out.grown hg2 HBX.out.size (fun k e => by cases e; omega))
  clear ho2 hg2
  go_wp2
  rw [Exit.noGoto_ret]
  go_ret
  exact ⟨rfl, HZ.out⟩
end Go.Proofs.Ytlnaahkheankoaa

namespace Go.Proofs.Ytlnaahkheankoaa
open Go.RowKit Go.Shelf Go.Proofs.Gr
attribute [local go_sem] Oper.semAt_some

theorem wp_append_own {P : Program} {w : World} {o : Oper} {a : Act} {K : Act → World → Prop} {Q : Exit → Act → World → Prop} (s x : Operand) (t : TypeId)
    (ho : o.op = .call { callee := .builtin .append, args := #[s, x], argTypes := #[t, t] })
    (base : Nat) (e : TypeId) (i : TypeInfo) (z : Value) (size bytes : Nat) (ht : P.underlying t = some (.slice e)) (hi : P.info? e = some i) (hz : i.zero = some z)
    (hsize : i.size = size) (hby : i.bytes = bytes) (hzs : z.cells.size = size) (hsz : 0 < size)
    (v : Value) (n : Nat) (xs : List Value) (hs : a.eval s = v) (hown : w.ownsRow base e size v n xs)
    (ad : Addr) (m c : Nat) (news : List Value) (hx : a.eval x = .slice (some ad) m c) (hl : news.length = m * size) (hnews : ∀ j u, news[j]? = some u → w.cell? (ad.add j) = some u) (h1 : ∀ u ∈ news, u.oneCell' = true)
    (h63 : n + m ≤ maxLen) (hbytes : (n + m) * bytes ≤ 140737488355328) (hbase : base ≤ w.heap.size)
    (h : ∀ v' w', w'.ownsRow base e size v' (n + m) (xs ++ news) → w.grownBy w' v.ownBlock → K (a.put o.dst v') w') : o.wp P a w K Q := by
  obtain ⟨v', w', hr, h2, h3, h4, h5⟩ := run_append_own_at (P := P) w base t o.type e i z size bytes ht hi hz hsize hby hzs hsz v n xs hown ad m c news hl hnews h1 h63 hbytes hbase
  unfold Oper.wp execOp
  simp only [ho, resolve, invoke, builtin, Sem.run_bind, Sem.run_pure, Result.andThen_ok, List.map_toArray, List.map_cons, List.map_nil, hs, hx, hr]
  exact h v' w' h2 h3
def triE : List E := [⟨0, 1, 1⟩, ⟨0, 2, 1⟩, ⟨1, 2, 1⟩]
theorem tri_chk : chkG 3 triE = 0 := by decide
theorem tri_right : Right 3 triE := right_of tri_chk
theorem tri_ends : endsG triE = triP := by decide
set_option maxHeartbeats 12800000 in
set_option maxRecDepth 100000 in
theorem equiv_tri (ga : Option Addr) (gc Ba Bb : Nat) (w : World) (hE : EsAt w ga triE) (ha : Blk w Ba 4 #[.bool true, .bool false, .bool true]) (hb : Blk w Bb 4 #[.bool false, .bool true, .bool false]) :
    Calls Try.prog 41 #[.agg #[.int .i64 3, .slice ga 3 gc], (.slice (some ⟨Ba, 0, none⟩) 3 3), (.slice (some ⟨Bb, 0, none⟩) 3 3)] w (fun e x => e = .returned (.tuple #[.bool true, .int .i64 0]) ∧ Below w.heap.size w x) := by
  obtain ⟨i0, hi0, hz0, hz1, hz2⟩ := info_parts infoT
  have hBa : ∀ u, Blk u Ba 4 #[.bool true, .bool false, .bool true] → BsAt u (some ⟨Ba, 0, none⟩) [true, false, true] := fun u h => RowB.row (enc := encB) (t := 4) encB_len h
  have hBb : ∀ u, Blk u Bb 4 #[.bool false, .bool true, .bool false] → BsAt u (some ⟨Bb, 0, none⟩) [false, true, false] := fun u h => RowB.row (enc := encB) (t := 4) encB_len h
  have HCA := Lib.hid (fun u (h1 : EsAt u ga triE) h2 => pcheckO_any 3 ga gc triE (by decide) (some ⟨Ba, 0, none⟩) 3 [true, false, true] (by decide) u h1 (hBa u h2))
  have HCB := Lib.hid (fun u (h1 : EsAt u ga triE) h2 => pcheckO_any 3 ga gc triE (by decide) (some ⟨Bb, 0, none⟩) 3 [false, true, false] (by decide) u h1 (hBb u h2))
  rw [show chkO 3 triE [true, false, true] = 0 by decide] at HCA
  rw [show chkO 3 triE [false, true, false] = 0 by decide] at HCB
  have HEN := Lib.hid (fun u (h : EsAt u ga triE) => pends_any 3 ga gc triE (by decide) u h)
  rw [tri_chk, if_pos rfl, tri_ends] at HEN
  unfold GivesN at *
  unfold GivesPE at *
  unfold gv at *
  obtain ⟨W, hW⟩ : ∃ W, W = (w.alloc (Obj.cells #[.int .i64 3, .slice ga 3 gc] 24)).alloc (Obj.cells #[(.slice (some ⟨Ba, 0, none⟩) 3 3), (.slice (some ⟨Bb, 0, none⟩) 3 3)] 25) := ⟨_, rfl⟩
  have hbW : Below w.heap.size w W := by rw [hW]; exact ((Below.refl _ w).alloc (Nat.le_refl _) _).alloc (by simp) _
  have hG : Blk W w.heap.size 24 #[.int .i64 3, .slice ga 3 gc] := by rw [hW]; exact (Blk.new _ _ _).alloc _
  have hLs : Blk W (w.heap.size + 1) 25 #[(.slice (some ⟨Ba, 0, none⟩) 3 3), (.slice (some ⟨Bb, 0, none⟩) 3 3)] := by
    rw [hW]
    have := Blk.new (w.alloc (Obj.cells #[.int .i64 3, .slice ga 3 gc] 24)) 25 #[(.slice (some ⟨Ba, 0, none⟩) 3 3), (.slice (some ⟨Bb, 0, none⟩) 3 3)]
    rwa [World.size_alloc] at this
  have HF : Hid (∀ u, Below W.heap.size W u → u.cell? ⟨w.heap.size, 0, none⟩ = some (.int .i64 3) ∧ u.cell? ⟨w.heap.size, 1, none⟩ = some (.slice ga 3 gc) ∧ u.cell? ⟨w.heap.size + 1, 0, none⟩ = some (.slice (some ⟨Ba, 0, none⟩) 3 3) ∧ u.cell? ⟨w.heap.size + 1, 1, none⟩ = some (.slice (some ⟨Bb, 0, none⟩) 3 3) ∧ EsAt u ga triE ∧ Blk u Ba 4 #[.bool true, .bool false, .bool true] ∧ Blk u Bb 4 #[.bool false, .bool true, .bool false]) :=
    Lib.hid (fun u hu => ⟨(hG.below hu hG.lt).cell 0, (hG.below hu hG.lt).cell 1, (hLs.below hu hLs.lt).cell 0, (hLs.below hu hLs.lt).cell 1, (hE.keep hbW).keep hu, (ha.below hbW ha.lt).below hu (Nat.lt_of_lt_of_le ha.lt hbW.size), (hb.below hbW hb.lt).below hu (Nat.lt_of_lt_of_le hb.lt hbW.size)⟩)
  have HBW := Lib.hid hbW
  clear hbW hG hLs hE ha hb hBa hBb
  go_enter Try.func41, Try.ntmps41
  go_wp2_with fail
  rw [← hW]
  clear hW
  refine wp_loop_rounds 3 ?_
  obtain ⟨b0, b1, l0, l1, hE, ha, hb⟩ := HF.out W (Below.refl _ _)
  have HCc := Lib.hid (HCA.out W hE ha)
  clear hE ha hb
  rw [rounds_succ]
  go_wp2_with fail
  refine HCc.out.mono ?_
  rintro e X0 ⟨rfl, hbx⟩
  have HX0 : Hid (Below W.heap.size W X0) := Lib.hid (hbx)
  clear HCc hbx b0 b1 l0 l1
  go_wp2_with fail
  obtain ⟨b0, b1, l0, l1, hE, ha, hb⟩ := HF.out X0 (HX0.out)
  have HCc := Lib.hid (HCB.out X0 hE hb)
  clear hE ha hb
  rw [rounds_succ]
  go_wp2_with fail
  refine HCc.out.mono ?_
  rintro e X1 ⟨rfl, hbx⟩
  have HX1 : Hid (Below W.heap.size W X1) := Lib.hid (HX0.out.trans (hbx.mono HX0.out.size))
  clear HCc hbx b0 b1 l0 l1
  go_wp2_with fail
  obtain ⟨b0, b1, l0, l1, hE, ha, hb⟩ := HF.out X1 HX1.out
  have HEc := Lib.hid (HEN.out X1 hE)
  clear hE ha hb
  rw [rounds_succ]
  go_wp2_with fail
  refine HEc.out.mono ?_
  rintro e X2 ⟨p, pc, rfl, hp, hbx⟩
  have HX2 : Hid (Below W.heap.size W X2) := Lib.hid (HX1.out.trans (hbx.mono HX1.out.size))
  have HP := Lib.hid hp
  clear HEc hbx b0 b1 l0 l1 hp
  go_wp2
  have HG : Hid (∀ u, Below X2.heap.size X2 u → u.cell? ⟨w.heap.size, 0, none⟩ = some (.int .i64 3) ∧ u.cell? ⟨w.heap.size, 1, none⟩ = some (.slice ga 3 gc)) := Lib.hid (fun u hu => by
    obtain ⟨b0, b1, -⟩ := HF.out u (HX2.out.trans (hu.mono HX2.out.size))
    exact ⟨b0, b1⟩)
  have hj0 : Below X2.heap.size X2 X2.drew := (Below.refl _ _).drew
  refine wp_region_late (S := fun u => Below X2.heap.size X2 u) (X := []) (by kernel_rfl) ?_
  refine wpAnyL_pureD (i := 0) 39 (.slice (some ⟨Ba, 0, none⟩) 3 3) rfl rfl (by kernel_rfl) (by kernel_rfl) (by kernel_rfl) (fun _ _ _ h => h) (Or.inl ⟨by rfl, fun u _ => ?_⟩) ?_
  · go_simp <;> first | rfl | decide | kernel_rfl
  try simp only [Act.put, List.setIfInBounds_toArray, List.set_cons_zero, List.set_cons_succ]
  refine wpAnyL_pureD (i := 2) 41 (.slice (some ⟨Bb, 0, none⟩) 3 3) rfl rfl (by kernel_rfl) (by kernel_rfl) (by kernel_rfl) (fun _ _ _ h => h) (Or.inl ⟨by rfl, fun u _ => ?_⟩) ?_
  · go_simp <;> first | rfl | decide | kernel_rfl
  try simp only [Act.put, List.setIfInBounds_toArray, List.set_cons_zero, List.set_cons_succ]
  refine wpAnyL_pureD (i := 4) 43 (.pointer (some ⟨w.heap.size, 0, none⟩)) rfl rfl (by kernel_rfl) (by kernel_rfl) (by kernel_rfl) (fun _ _ _ h => h) (Or.inl ⟨by rfl, fun u _ => ?_⟩) ?_
  · go_simp <;> first | rfl | decide | kernel_rfl
  try simp only [Act.put, List.setIfInBounds_toArray, List.set_cons_zero, List.set_cons_succ]
  refine wpAnyL_takeD (i := 5) 44 (.int .i64 3) rfl rfl (by kernel_rfl) (by kernel_rfl) (by kernel_rfl) (by kernel_rfl) (by kernel_rfl) (fun _ _ _ h => h) hj0 (Or.inl ⟨by rfl, fun u hu => ?_⟩) ?_
  · obtain ⟨t0, t1⟩ := HG.out u hu
    go_simp
  try simp only [Act.put, List.setIfInBounds_toArray, List.set_cons_zero, List.set_cons_succ]
  refine wpAnyL_pureD (i := 6) 45 (.slice p 3 pc) rfl rfl (by kernel_rfl) (by kernel_rfl) (by kernel_rfl) (fun _ _ _ h => h) (Or.inl ⟨by rfl, fun u _ => ?_⟩) ?_
  · go_simp <;> first | rfl | decide | kernel_rfl
  try simp only [Act.put, List.setIfInBounds_toArray, List.set_cons_zero, List.set_cons_succ]
  refine wpAnyL_pureD (i := 8) 47 (.pointer (some ⟨w.heap.size, 0, none⟩)) rfl rfl (by kernel_rfl) (by kernel_rfl) (by kernel_rfl) (fun _ _ _ h => h) (Or.inl ⟨by rfl, fun u _ => ?_⟩) ?_
  · go_simp <;> first | rfl | decide | kernel_rfl
  try simp only [Act.put, List.setIfInBounds_toArray, List.set_cons_zero, List.set_cons_succ]
  refine wpAnyL_takeD (i := 9) 48 (.int .i64 3) rfl rfl (by kernel_rfl) (by kernel_rfl) (by kernel_rfl) (by kernel_rfl) (by kernel_rfl) (fun _ _ _ h => h) hj0 (Or.inl ⟨by rfl, fun u hu => ?_⟩) ?_
  · obtain ⟨t0, t1⟩ := HG.out u hu
    go_simp
  try simp only [Act.put, List.setIfInBounds_toArray, List.set_cons_zero, List.set_cons_succ]
  refine wpAnyL_pureD (i := 10) 49 (.slice p 3 pc) rfl rfl (by kernel_rfl) (by kernel_rfl) (by kernel_rfl) (fun _ _ _ h => h) (Or.inl ⟨by rfl, fun u _ => ?_⟩) ?_
  · go_simp <;> first | rfl | decide | kernel_rfl
  try simp only [Act.put, List.setIfInBounds_toArray, List.set_cons_zero, List.set_cons_succ]
  have HBB : Hid (Blk X2.drew Ba 4 #[.bool true, .bool false, .bool true] ∧ Blk X2.drew Bb 4 #[.bool false, .bool true, .bool false]) := Lib.hid (by
    obtain ⟨-, -, -, -, -, h1, h2⟩ := HF.out X2 HX2.out
    exact ⟨h1, h2⟩)
  refine wpAnyL_one (i := 1) (by kernel_rfl) rfl (fun K hK => ?_)
  go_simp
  go_at_call 83
  refine (packed_a Ba _ HBB.out.1).mono ?_
  rintro e y ⟨rfl, rfl⟩
  show K _ _
  refine hK.out _ _ (fun _ h => h) ?_
  clear hK K
  try simp only [Act.put, List.setIfInBounds_toArray, List.set_cons_zero, List.set_cons_succ]
  refine wpAnyL_one (i := 3) (by kernel_rfl) rfl (fun K hK => ?_)
  go_simp
  go_at_call 83
  refine (packed_b Bb _ HBB.out.2).mono ?_
  rintro e y ⟨rfl, rfl⟩
  show K _ _
  refine hK.out _ _ (fun _ h => h) ?_
  clear hK K
  try simp only [Act.put, List.setIfInBounds_toArray, List.set_cons_zero, List.set_cons_succ]
  refine wpAnyL_one (i := 7) (by kernel_rfl) rfl (fun K hK => ?_)
  go_simp
  go_at_call 84
  refine (cuts_tri p pc _ (HP.out.keep hj0)).mono ?_
  rintro e Y1 ⟨v1, rfl, ho1, hb1⟩
  have hj1 : Below X2.heap.size X2 Y1 := hj0.trans (hb1.mono hj0.size)
  obtain ⟨g1, c1, rfl⟩ := own_succ ho1
  show K _ _
  refine hK.out _ _ (fun _ _ => hj1) ?_
  clear hK K
  try simp only [Act.put, List.setIfInBounds_toArray, List.set_cons_zero, List.set_cons_succ]
  refine wpAnyL_one (i := 11) (by kernel_rfl) rfl (fun K hK => ?_)
  go_simp
  go_at_call 85
  refine (cycles_tri p pc _ (HP.out.keep hj1)).mono ?_
  rintro e Y2 ⟨v2, rfl, ho2, hb2⟩
  have hj2 : Below X2.heap.size X2 Y2 := hj1.trans (hb2.mono hj1.size)
  obtain ⟨g2, c2, rfl⟩ := own_succ ho2
  have ho3 := own_keep ho1 hb2
  show K _ _
  refine hK.out _ _ (fun _ _ => hj2) ?_
  clear hK K
  try simp only [Act.put, List.setIfInBounds_toArray, List.set_cons_zero, List.set_cons_succ]
  have hyz : X2.drew.heap.size ≤ Y2.heap.size := hj2.size
  refine wpAnyL_one (i := 12) (by kernel_rfl) rfl (fun K hK => ?_)
  rw [if_pos (by rfl)]
  refine wp_append_own _ _ 115 (by rfl) X2.drew.heap.size 136 i0 (.agg #[.int .u64 0, .int .u64 0]) 2 16 Try.underlying115 hi0 hz0 hz1 hz2 rfl (by decide) (.slice (some ⟨g1, 0, none⟩) 3 c1) 3 _ (by rfl) ho3 ⟨g2, 0, none⟩ 2 c2 (flat encT [(7, 5), (7, 2)]) (by rfl) (by rfl) (fun j u hu => ho2.cells (g := g2) rfl j u hu) (by simp [flat, encT, Value.oneCell']) (by unfold maxLen; omega) (by omega) hyz ?_
  intro v3 Y3 ho4 hg3
  obtain ⟨g3, c3, rfl⟩ := own_succ ho4
  have ho5 : Y3.ownsRow X2.drew.heap.size 136 2 (.slice (some ⟨g3, 0, none⟩) 5 c3) allT.length (flat encT allT) := ho4
  have hrt : RowAt 2 encT Y3 (some ⟨g3, 0, none⟩) allT := by
    obtain ⟨xa, xc, hx, hr⟩ := RowAt.of_own encT_len ho5
    injection hx with h1 h2 h3
    subst h1
    exact hr
  have hj3 : Below X2.heap.size X2 Y3 := hj2.grown hg3 hj2.size (fun k e => (ho3.lt k e).1)
  refine hK.out _ _ (fun _ _ => hj3) ?_
  clear hK K
  try simp only [Act.put, List.setIfInBounds_toArray]
  refine wpAnyL_one (i := 13) (by kernel_rfl) rfl (fun K hK => ?_)
  go_simp
  go_at_call 82
  refine (leads_tri g3 c3 _ hrt).mono ?_
  rintro e Y4 ⟨rfl, hb4⟩
  have hj4 : Below X2.heap.size X2 Y4 := hj3.trans (hb4.mono hj3.size)
  show K _ _
  refine hK.out _ _ (fun _ _ => hj4) ?_
  clear hK K
  try simp only [Act.put, List.setIfInBounds_toArray, List.set_cons_zero, List.set_cons_succ]
  refine wpAnyL_pureD (i := 14) 6 (.bool true) rfl rfl (by kernel_rfl) (by kernel_rfl) (by kernel_rfl) (fun _ _ _ h => h) (Or.inl ⟨by rfl, fun u _ => ?_⟩) ?_
  · go_simp <;> first | rfl | decide | kernel_rfl
  try simp only [Act.put, List.setIfInBounds_toArray, List.set_cons_zero, List.set_cons_succ]
  refine wpAnyL_pureD (i := 15) 7 (.int .i64 0) rfl rfl (by kernel_rfl) (by kernel_rfl) (by kernel_rfl) (fun _ _ _ h => h) (Or.inl ⟨by rfl, fun u _ => ?_⟩) ?_
  · go_simp <;> first | rfl | decide | kernel_rfl
  try simp only [Act.put, List.setIfInBounds_toArray, List.set_cons_zero, List.set_cons_succ]
  refine wpAnyL_done (by kernel_rfl) ?_ _
  try simp only [Act.put, List.setIfInBounds_toArray, List.set_cons_zero, List.set_cons_succ]
  have HEND : Hid (Below w.heap.size w Y4) := Lib.hid (HBW.out.trans ((HX2.out.trans (hj4.mono HX2.out.size)).mono HBW.out.size))
  clear ho1 ho2 ho3 ho4 ho5 hrt hg3 hb1 hb2 hb4 hj0 hj1 hj2 hj3 hj4 hyz
  go_wp2
  go_ret2
  exact ⟨rfl, HEND.out⟩
end Go.Proofs.Ytlnaahkheankoaa

namespace Go.Proofs.Ytlnaahkheankoaa
open Go.RowKit Go.Shelf Go.Proofs.Gr
attribute [local go_sem] Oper.semAt_some

set_option maxHeartbeats 12800000 in
set_option maxRecDepth 100000 in
theorem rsameB_true (a b : Option Addr) (c d : Nat) (D : List Bool) (hD : D.length ≤ 100000) (w : World) (h1 : BsAt w a D) (h2 : BsAt w b D) :
    Calls Try.prog 36 #[.slice a D.length c, .slice b D.length d] w (fun e w' => e = .returned (.bool true) ∧ Below w.heap.size w w') := by
  have d1 : ((D.length : Int) != (D.length : Int)) = false := by simp
  have H1 := Lib.hid h1
  have H2 := Lib.hid h2
  clear h1 h2
  go_enter Try.func36, Try.ntmps36
  go_wp2
  go_loopw [5] (fun x wr => ∃ i : Nat, i ≤ D.length ∧ x = .int .i64 i ∧ Below w.heap.size w wr) (fun x _ => D.length - (intOf x).toNat)
  case atStart => exact ⟨0, by omega, rfl, Below.refl _ _⟩
  case round =>
    obtain ⟨i, hi, rfl, hb⟩ := hrel
    by_cases hlt : i < D.length
    · have i1 : (i : Int) < (D.length : Int) := by omega
      have i2 : (0 : Int) ≤ (i : Int) := by omega
      obtain ⟨b1, o1, hb1, q1, x1⟩ := (H1.out.keep hb).bit i hlt
      obtain ⟨b2, o2, hb2, q2, x2⟩ := (H2.out.keep hb).bit i hlt
      subst hb1 hb2
      have HXY : Hid (∀ u, Below wr.heap.size wr u → u.cell? ⟨b1, o1 + i, none⟩ = some (.bool (bAt D i)) ∧ u.cell? ⟨b2, o2 + i, none⟩ = some (.bool (bAt D i))) := Lib.hid fun u hu => by
        obtain ⟨b3, o3, e1, -, y1⟩ := (H1.out.keep (hb.trans (hu.mono hb.size))).bit i hlt
        obtain ⟨b4, o4, e2, -, y2⟩ := (H2.out.keep (hb.trans (hu.mono hb.size))).bit i hlt
        injection e1 with e1; injection e1 with e3 e4
        injection e2 with e2; injection e2 with e5 e6
        subst e3 e4 e5 e6
        exact ⟨y1, y2⟩
      have HBr := Lib.hid hb
      clear hb x1 x2
      generalize bAt D i = z at *
      have d2 : (z != z) = false := by simp
      go_wp2
      have hj0 : Below wr.heap.size wr wr.drew := (Below.refl _ _).drew
      refine wp_region_late (S := fun u => Below wr.heap.size wr u) (X := []) (by kernel_rfl) ?_
      refine wpAnyL_pureD (i := 0) 17 (.slice (some ⟨b1, o1, none⟩) D.length c) rfl rfl (by kernel_rfl) (by kernel_rfl) (by kernel_rfl) (fun _ _ _ h => h) (Or.inl ⟨by rfl, fun u _ => ?_⟩) ?_
      · go_simp
      try simp only [Act.put, List.setIfInBounds_toArray, List.set_cons_zero, List.set_cons_succ]
      refine wpAnyL_pureD (i := 1) 18 (.int .i64 i) rfl rfl (by kernel_rfl) (by kernel_rfl) (by kernel_rfl) (fun _ _ _ h => h) (Or.inl ⟨by rfl, fun u _ => ?_⟩) ?_
      · go_simp
      try simp only [Act.put, List.setIfInBounds_toArray, List.set_cons_zero, List.set_cons_succ]
      refine wpAnyL_pureD (i := 2) 19 (.pointer (some ⟨b1, o1 + i, none⟩)) rfl rfl (by kernel_rfl) (by kernel_rfl) (by kernel_rfl) (fun _ _ _ h => h) (Or.inl ⟨by rfl, fun u _ => ?_⟩) ?_
      · go_simp
      try simp only [Act.put, List.setIfInBounds_toArray, List.set_cons_zero, List.set_cons_succ]
      refine wpAnyL_takeD (i := 3) 20 (.bool z) rfl rfl (by kernel_rfl) (by kernel_rfl) (by kernel_rfl) (by kernel_rfl) (by kernel_rfl) (fun _ _ _ h => h) hj0 (Or.inl ⟨by rfl, fun u hu => ?_⟩) ?_
      · obtain ⟨t0, t1⟩ := HXY.out u hu
        go_simp
      try simp only [Act.put, List.setIfInBounds_toArray, List.set_cons_zero, List.set_cons_succ]
      refine wpAnyL_pureD (i := 4) 21 (.slice (some ⟨b2, o2, none⟩) D.length d) rfl rfl (by kernel_rfl) (by kernel_rfl) (by kernel_rfl) (fun _ _ _ h => h) (Or.inl ⟨by rfl, fun u _ => ?_⟩) ?_
      · go_simp
      try simp only [Act.put, List.setIfInBounds_toArray, List.set_cons_zero, List.set_cons_succ]
      refine wpAnyL_pureD (i := 5) 22 (.int .i64 i) rfl rfl (by kernel_rfl) (by kernel_rfl) (by kernel_rfl) (fun _ _ _ h => h) (Or.inl ⟨by rfl, fun u _ => ?_⟩) ?_
      · go_simp
      try simp only [Act.put, List.setIfInBounds_toArray, List.set_cons_zero, List.set_cons_succ]
      refine wpAnyL_pureD (i := 6) 23 (.pointer (some ⟨b2, o2 + i, none⟩)) rfl rfl (by kernel_rfl) (by kernel_rfl) (by kernel_rfl) (fun _ _ _ h => h) (Or.inl ⟨by rfl, fun u _ => ?_⟩) ?_
      · go_simp
      try simp only [Act.put, List.setIfInBounds_toArray, List.set_cons_zero, List.set_cons_succ]
      refine wpAnyL_takeD (i := 7) 24 (.bool z) rfl rfl (by kernel_rfl) (by kernel_rfl) (by kernel_rfl) (by kernel_rfl) (by kernel_rfl) (fun _ _ _ h => h) hj0 (Or.inl ⟨by rfl, fun u hu => ?_⟩) ?_
      · obtain ⟨t0, t1⟩ := HXY.out u hu
        go_simp
      try simp only [Act.put, List.setIfInBounds_toArray, List.set_cons_zero, List.set_cons_succ]
      refine wpAnyL_pureD (i := 8) 25 (.bool false) rfl rfl (by kernel_rfl) (by kernel_rfl) (by kernel_rfl) (fun _ _ _ h => h) (Or.inl ⟨by rfl, fun u _ => ?_⟩) ?_
      · go_simp
      try simp only [Act.put, List.setIfInBounds_toArray, List.set_cons_zero, List.set_cons_succ]
      refine wpAnyL_done (by kernel_rfl) ?_ _
      try simp only [Act.put, List.setIfInBounds_toArray, List.set_cons_zero, List.set_cons_succ]
      have HBN := Lib.hid (HBr.out.trans (hj0.mono HBr.out.size))
      clear hj0
      go_wp2
      go_roundw
      case rel => exact ⟨i + 1, by omega, by go_num, HBN.out⟩
      case measure => simp [intOf]; omega
    · obtain rfl : i = D.length := by omega
      have i1 : ¬ (D.length : Int) < (D.length : Int) := by omega
      have HEND := Lib.hid hb
      clear hb
      go_wp2
      go_ret
      exact ⟨rfl, HEND.out⟩
set_option maxHeartbeats 12800000 in
set_option maxRecDepth 100000 in
theorem rsameAll_true (a b : Option Addr) (c d : Nat) (M : List (List Bool)) (hM : M.length ≤ 100000) (hl : ∀ i, i < M.length → (M.getD i []).length ≤ 100000) (w : World) (h1 : LsAt w a M) (h2 : LsAt w b M) :
    Calls Try.prog 31 #[.slice a M.length c, .slice b M.length d] w (fun e w' => e = .returned (.bool true) ∧ Below w.heap.size w w') := by
  have key : ∀ (a : Option Addr) (u : World), LsAt u a M → ∀ i, i < M.length → ∃ b o x y, a = some ⟨b, o, none⟩ ∧ b < u.heap.size ∧ u.cell? ⟨b, o + i, none⟩ = some (.slice x (M.getD i []).length y) ∧ BsAt u x (M.getD i []) := by
    rintro a u ⟨xs, rfl, hr, hb⟩ i hi
    rw [List.length_map] at hi
    obtain ⟨b, o, e, hlt, hc⟩ := hr i hi
    have h0 := hc 0 (by decide)
    have hg : (xs.map BX.b).getD i [] = xs[i].b := by rw [List.getD_eq_getElem?_getD, List.getElem?_map, List.getElem?_eq_getElem hi]; rfl
    refine ⟨b, o, xs[i].a, xs[i].c, e, hlt, ?_, ?_⟩
    · rw [hg]
      have h9 : u.cell? ⟨b, o + i * 1 + 0, none⟩ = some (.slice xs[i].a xs[i].b.length xs[i].c) := h0
      rwa [Nat.mul_one, Nat.add_zero] at h9
    · rw [hg]; exact hb _ (List.getElem_mem hi)
  have HK := Lib.hid key
  have HLN := Lib.hid hl
  have d1 : ((M.length : Int) != (M.length : Int)) = false := by simp
  have H1 := Lib.hid h1
  have H2 := Lib.hid h2
  clear h1 h2 key hl
  go_enter Try.func31, Try.ntmps31
  go_wp2
  go_loopw [5] (fun x wr => ∃ i : Nat, i ≤ M.length ∧ x = .int .i64 i ∧ Below w.heap.size w wr) (fun x _ => M.length - (intOf x).toNat)
  case atStart => exact ⟨0, by omega, rfl, Below.refl _ _⟩
  case round =>
    obtain ⟨i, hi, rfl, hb⟩ := hrel
    by_cases hlt : i < M.length
    · have i1 : (i : Int) < (M.length : Int) := by omega
      have i2 : (0 : Int) ≤ (i : Int) := by omega
      obtain ⟨b1, o1, xa, xc, hb1, q1, x1, r1⟩ := HK.out a wr (H1.out.keep hb) i hlt
      obtain ⟨b2, o2, ya, yc, hb2, q2, x2, r2⟩ := HK.out b wr (H2.out.keep hb) i hlt
      subst hb1 hb2
      have HXY : Hid (∀ u, Below wr.heap.size wr u → u.cell? ⟨b1, o1 + i, none⟩ = some (.slice xa (M.getD i []).length xc) ∧ u.cell? ⟨b2, o2 + i, none⟩ = some (.slice ya (M.getD i []).length yc)) := Lib.hid fun u hu => ⟨(hu.cell (p := ⟨b1, o1 + i, none⟩) q1).trans x1, (hu.cell (p := ⟨b2, o2 + i, none⟩) q2).trans x2⟩
      have HSM := Lib.hid (fun u h1 h2 => rsameB_true xa ya xc yc (M.getD i []) (HLN.out i hlt) u h1 h2)
      have HR1 := Lib.hid r1
      have HR2 := Lib.hid r2
      have HBr := Lib.hid hb
      clear hb x1 x2 r1 r2
      generalize M.getD i [] = O at *
      go_wp2
      have hj0 : Below wr.heap.size wr wr.drew := (Below.refl _ _).drew
      refine wp_region_late (S := fun u => Below wr.heap.size wr u) (X := []) (by kernel_rfl) ?_
      refine wpAnyL_pureD (i := 0) 17 (.slice (some ⟨b1, o1, none⟩) M.length c) rfl rfl (by kernel_rfl) (by kernel_rfl) (by kernel_rfl) (fun _ _ _ h => h) (Or.inl ⟨by rfl, fun u _ => ?_⟩) ?_
      · go_simp
      try simp only [Act.put, List.setIfInBounds_toArray, List.set_cons_zero, List.set_cons_succ]
      refine wpAnyL_pureD (i := 1) 18 (.int .i64 i) rfl rfl (by kernel_rfl) (by kernel_rfl) (by kernel_rfl) (fun _ _ _ h => h) (Or.inl ⟨by rfl, fun u _ => ?_⟩) ?_
      · go_simp
      try simp only [Act.put, List.setIfInBounds_toArray, List.set_cons_zero, List.set_cons_succ]
      refine wpAnyL_pureD (i := 2) 19 (.pointer (some ⟨b1, o1 + i, none⟩)) rfl rfl (by kernel_rfl) (by kernel_rfl) (by kernel_rfl) (fun _ _ _ h => h) (Or.inl ⟨by rfl, fun u _ => ?_⟩) ?_
      · go_simp
      try simp only [Act.put, List.setIfInBounds_toArray, List.set_cons_zero, List.set_cons_succ]
      refine wpAnyL_takeD (i := 3) 20 (.slice xa O.length xc) rfl rfl (by kernel_rfl) (by kernel_rfl) (by kernel_rfl) (by kernel_rfl) (by kernel_rfl) (fun _ _ _ h => h) hj0 (Or.inl ⟨by rfl, fun u hu => ?_⟩) ?_
      · obtain ⟨t0, t1⟩ := HXY.out u hu
        go_simp
      try simp only [Act.put, List.setIfInBounds_toArray, List.set_cons_zero, List.set_cons_succ]
      refine wpAnyL_pureD (i := 4) 21 (.slice (some ⟨b2, o2, none⟩) M.length d) rfl rfl (by kernel_rfl) (by kernel_rfl) (by kernel_rfl) (fun _ _ _ h => h) (Or.inl ⟨by rfl, fun u _ => ?_⟩) ?_
      · go_simp
      try simp only [Act.put, List.setIfInBounds_toArray, List.set_cons_zero, List.set_cons_succ]
      refine wpAnyL_pureD (i := 5) 22 (.int .i64 i) rfl rfl (by kernel_rfl) (by kernel_rfl) (by kernel_rfl) (fun _ _ _ h => h) (Or.inl ⟨by rfl, fun u _ => ?_⟩) ?_
      · go_simp
      try simp only [Act.put, List.setIfInBounds_toArray, List.set_cons_zero, List.set_cons_succ]
      refine wpAnyL_pureD (i := 6) 23 (.pointer (some ⟨b2, o2 + i, none⟩)) rfl rfl (by kernel_rfl) (by kernel_rfl) (by kernel_rfl) (fun _ _ _ h => h) (Or.inl ⟨by rfl, fun u _ => ?_⟩) ?_
      · go_simp
      try simp only [Act.put, List.setIfInBounds_toArray, List.set_cons_zero, List.set_cons_succ]
      refine wpAnyL_takeD (i := 7) 24 (.slice ya O.length yc) rfl rfl (by kernel_rfl) (by kernel_rfl) (by kernel_rfl) (by kernel_rfl) (by kernel_rfl) (fun _ _ _ h => h) hj0 (Or.inl ⟨by rfl, fun u hu => ?_⟩) ?_
      · obtain ⟨t0, t1⟩ := HXY.out u hu
        go_simp
      try simp only [Act.put, List.setIfInBounds_toArray, List.set_cons_zero, List.set_cons_succ]
      refine wpAnyL_one (i := 8) (by kernel_rfl) rfl (fun K hK => ?_)
      go_simp
      go_at_call 36
      refine (HSM.out _ (HR1.out.keep hj0) (HR2.out.keep hj0)).mono ?_
      rintro e y ⟨rfl, hb⟩
      have hj1 : Below wr.heap.size wr y := hj0.trans (hb.mono hj0.size)
      show K _ _
      refine hK.out _ _ (fun _ _ => hj1) ?_
      clear hK K
      try simp only [Act.put, List.setIfInBounds_toArray, List.set_cons_zero, List.set_cons_succ]
      refine wpAnyL_pureD (i := 9) 26 (.bool false) rfl rfl (by kernel_rfl) (by kernel_rfl) (by kernel_rfl) (fun _ _ _ h => h) (Or.inl ⟨by rfl, fun u _ => ?_⟩) ?_
      · go_simp
      try simp only [Act.put, List.setIfInBounds_toArray, List.set_cons_zero, List.set_cons_succ]
      refine wpAnyL_done (by kernel_rfl) ?_ _
      try simp only [Act.put, List.setIfInBounds_toArray, List.set_cons_zero, List.set_cons_succ]
      have HBN := Lib.hid (HBr.out.trans (hj1.mono HBr.out.size))
      clear hj0 hj1 hb
      go_wp2
      go_roundw
      case rel => exact ⟨i + 1, by omega, by go_num, HBN.out⟩
      case measure => simp [intOf]; omega
    · obtain rfl : i = M.length := by omega
      have i1 : ¬ (M.length : Int) < (M.length : Int) := by omega
      have HEND := Lib.hid hb
      clear hb
      go_wp2
      go_ret
      exact ⟨rfl, HEND.out⟩
end Go.Proofs.Ytlnaahkheankoaa

namespace Go.Proofs.Ytlnaahkheankoaa
open Go.RowKit Go.Shelf Go.Proofs.Gr
attribute [local go_sem] Oper.semAt_some

set_option maxHeartbeats 12800000 in
set_option maxRecDepth 100000 in
theorem pequalB_true (a b : Option Addr) (c d : Nat) (D : List Bool) (hD : D.length ≤ 100000) (w : World) (h1 : BsAt w a D) (h2 : BsAt w b D) :
    Calls Try.prog 44 #[.slice a D.length c, .slice b D.length d] w (fun e w' => e = .returned (.bool true) ∧ Below w.heap.size w w') := by
  have d1 : ((D.length : Int) != (D.length : Int)) = false := by simp
  have H1 := Lib.hid h1
  have H2 := Lib.hid h2
  clear h1 h2
  go_enter Try.func44, Try.ntmps44
  go_wp2
  go_loopw [13] (fun x wr => ∃ i : Nat, i ≤ D.length ∧ x = .int .i64 i ∧ Below w.heap.size w wr) (fun x _ => D.length - (intOf x).toNat)
  case atStart => exact ⟨0, by omega, rfl, Below.refl _ _⟩
  case round =>
    obtain ⟨i, hi, rfl, hb⟩ := hrel
    by_cases hlt : i < D.length
    · have i1 : (i : Int) < (D.length : Int) := by omega
      have i2 : (0 : Int) ≤ (i : Int) := by omega
      obtain ⟨b1, o1, hb1, q1, x1⟩ := (H1.out.keep hb).bit i hlt
      obtain ⟨b2, o2, hb2, q2, x2⟩ := (H2.out.keep hb).bit i hlt
      subst hb1 hb2
      have HXY : Hid (∀ u, Below wr.heap.size wr u → u.cell? ⟨b1, o1 + i, none⟩ = some (.bool (bAt D i)) ∧ u.cell? ⟨b2, o2 + i, none⟩ = some (.bool (bAt D i))) := Lib.hid fun u hu => by
        obtain ⟨b3, o3, e1, -, y1⟩ := (H1.out.keep (hb.trans (hu.mono hb.size))).bit i hlt
        obtain ⟨b4, o4, e2, -, y2⟩ := (H2.out.keep (hb.trans (hu.mono hb.size))).bit i hlt
        injection e1 with e1; injection e1 with e3 e4
        injection e2 with e2; injection e2 with e5 e6
        subst e3 e4 e5 e6
        exact ⟨y1, y2⟩
      have HBr := Lib.hid hb
      clear hb x1 x2
      generalize bAt D i = z at *
      have d2 : (z != z) = false := by simp
      go_wp2
      have hj0 : Below wr.heap.size wr wr.drew := (Below.refl _ _).drew
      refine wp_region_late (S := fun u => Below wr.heap.size wr u) (X := []) (by kernel_rfl) ?_
      refine wpAnyL_pureD (i := 0) 16 (.slice (some ⟨b1, o1, none⟩) D.length c) rfl rfl (by kernel_rfl) (by kernel_rfl) (by kernel_rfl) (fun _ _ _ h => h) (Or.inl ⟨by rfl, fun u _ => ?_⟩) ?_
      · go_simp
      try simp only [Act.put, List.setIfInBounds_toArray, List.set_cons_zero, List.set_cons_succ]
      refine wpAnyL_pureD (i := 1) 17 (.int .i64 i) rfl rfl (by kernel_rfl) (by kernel_rfl) (by kernel_rfl) (fun _ _ _ h => h) (Or.inl ⟨by rfl, fun u _ => ?_⟩) ?_
      · go_simp
      try simp only [Act.put, List.setIfInBounds_toArray, List.set_cons_zero, List.set_cons_succ]
      refine wpAnyL_pureD (i := 2) 18 (.pointer (some ⟨b1, o1 + i, none⟩)) rfl rfl (by kernel_rfl) (by kernel_rfl) (by kernel_rfl) (fun _ _ _ h => h) (Or.inl ⟨by rfl, fun u _ => ?_⟩) ?_
      · go_simp
      try simp only [Act.put, List.setIfInBounds_toArray, List.set_cons_zero, List.set_cons_succ]
      refine wpAnyL_takeD (i := 3) 19 (.bool z) rfl rfl (by kernel_rfl) (by kernel_rfl) (by kernel_rfl) (by kernel_rfl) (by kernel_rfl) (fun _ _ _ h => h) hj0 (Or.inl ⟨by rfl, fun u hu => ?_⟩) ?_
      · obtain ⟨t0, t1⟩ := HXY.out u hu
        go_simp
      try simp only [Act.put, List.setIfInBounds_toArray, List.set_cons_zero, List.set_cons_succ]
      refine wpAnyL_pureD (i := 4) 20 (.slice (some ⟨b2, o2, none⟩) D.length d) rfl rfl (by kernel_rfl) (by kernel_rfl) (by kernel_rfl) (fun _ _ _ h => h) (Or.inl ⟨by rfl, fun u _ => ?_⟩) ?_
      · go_simp
      try simp only [Act.put, List.setIfInBounds_toArray, List.set_cons_zero, List.set_cons_succ]
      refine wpAnyL_pureD (i := 5) 21 (.int .i64 i) rfl rfl (by kernel_rfl) (by kernel_rfl) (by kernel_rfl) (fun _ _ _ h => h) (Or.inl ⟨by rfl, fun u _ => ?_⟩) ?_
      · go_simp
      try simp only [Act.put, List.setIfInBounds_toArray, List.set_cons_zero, List.set_cons_succ]
      refine wpAnyL_pureD (i := 6) 22 (.pointer (some ⟨b2, o2 + i, none⟩)) rfl rfl (by kernel_rfl) (by kernel_rfl) (by kernel_rfl) (fun _ _ _ h => h) (Or.inl ⟨by rfl, fun u _ => ?_⟩) ?_
      · go_simp
      try simp only [Act.put, List.setIfInBounds_toArray, List.set_cons_zero, List.set_cons_succ]
      refine wpAnyL_takeD (i := 7) 23 (.bool z) rfl rfl (by kernel_rfl) (by kernel_rfl) (by kernel_rfl) (by kernel_rfl) (by kernel_rfl) (fun _ _ _ h => h) hj0 (Or.inl ⟨by rfl, fun u hu => ?_⟩) ?_
      · obtain ⟨t0, t1⟩ := HXY.out u hu
        go_simp
      try simp only [Act.put, List.setIfInBounds_toArray, List.set_cons_zero, List.set_cons_succ]
      refine wpAnyL_pureD (i := 8) 24 (.bool false) rfl rfl (by kernel_rfl) (by kernel_rfl) (by kernel_rfl) (fun _ _ _ h => h) (Or.inl ⟨by rfl, fun u _ => ?_⟩) ?_
      · go_simp
      try simp only [Act.put, List.setIfInBounds_toArray, List.set_cons_zero, List.set_cons_succ]
      refine wpAnyL_done (by kernel_rfl) ?_ _
      try simp only [Act.put, List.setIfInBounds_toArray, List.set_cons_zero, List.set_cons_succ]
      have HBN := Lib.hid (HBr.out.trans (hj0.mono HBr.out.size))
      clear hj0
      go_wp2
      go_roundw
      case rel => exact ⟨i + 1, by omega, by go_num, HBN.out⟩
      case measure => simp [intOf]; omega
    · obtain rfl : i = D.length := by omega
      have i1 : ¬ (D.length : Int) < (D.length : Int) := by omega
      have HEND := Lib.hid hb
      clear hb
      go_wp2
      go_ret
      exact ⟨rfl, HEND.out⟩
set_option maxHeartbeats 12800000 in
set_option maxRecDepth 100000 in
theorem rcheckO_all (n : Int) (a : Option Addr) (cap : Nat) (L : List E) (hL : L.length ≤ 100000) (b : Option Addr) (c : Nat) (O : List Bool) (w : World) (h : EsAt w a L) (ho : BsAt w b O) :
    Calls Try.prog 21 #[gv n a L.length cap, .slice b O.length c] w (GivesN w (chkO n L O : Nat)) := by
  have HC := Lib.hid (fun w h => rcheck_any n a cap L (by omega) w h)
  have HSZ : Hid (chkG n L = 0 → ∀ w, EsAt w a L → Calls Try.prog 26 #[gv n a L.length cap] w (GivesN w (sizeG L))) := Lib.hid fun hz w h => rsize_any n a cap L hL (right_of hz) w h
  have HK : Hid (chkO n L O = if chkG n L ≠ 0 then chkG n L else if (O.length : Int) = sizeG L then 0 else 8) := Lib.hid rfl
  unfold GivesN gv at *
  generalize chkO n L O = R at *
  generalize chkG n L = k at *
  generalize sizeG L = S at *
  obtain ⟨W, hW⟩ : ∃ W, W = w.alloc (Obj.cells #[.int .i64 n, .slice a L.length cap] 24) := ⟨_, rfl⟩
  have hB0 : Below w.heap.size w W := by rw [hW]; exact (Below.refl _ w).alloc (Nat.le_refl _) _
  have hG : Blk W w.heap.size 24 #[.int .i64 n, .slice a L.length cap] := by rw [hW]; exact Blk.new _ _ _
  have hWs : W.heap.size = w.heap.size + 1 := by rw [hW]; simp
  have HW := Lib.hid hW
  have HWS := Lib.hid hWs
  have HB0 := Lib.hid hB0
  have HE := Lib.hid (h.keep hB0)
  have HF : Hid (∀ u, Below W.heap.size W u → u.cell? ⟨w.heap.size, 0, none⟩ = some (.int .i64 n) ∧ u.cell? ⟨w.heap.size, 1, none⟩ = some (.slice a L.length cap)) := Lib.hid fun u hu => ⟨(hG.below hu hG.lt).cell 0, (hG.below hu hG.lt).cell 1⟩
  obtain ⟨g0, g1⟩ := HF.out W (Below.refl _ _)
  have HO := Lib.hid (ho.keep hB0)
  clear ho hB0 hG hW hWs h
  go_enter Try.func21, Try.ntmps21
  go_wp2_with fail
  rw [← HW.out]
  refine (HC.out _ HE.out).mono ?_
  rintro e w1 ⟨rfl, hb⟩
  by_cases hk : k ≠ 0
  · have q0 : (((k : Nat) : Int) != 0) = true := by rw [bne_iff_ne]; omega
    have HR : Hid (R = k) := Lib.hid (by rw [HK.out, if_pos hk])
    have HEND := Lib.hid (HB0.out.trans (hb.mono HB0.out.size))
    clear hk g0 g1 hb
    go_wp2
    go_ret
    exact ⟨by rw [HR.out]; rfl, HEND.out⟩
  · have hk0 : k = 0 := by omega
    have HSZ2 := Lib.hid (HSZ.out hk0)
    subst hk0
    clear g0 g1 hk
    obtain ⟨g0, g1⟩ := HF.out w1 hb
    have HE1 := Lib.hid (HE.out.keep hb)
    have HBE := Lib.hid (HB0.out.trans (hb.mono HB0.out.size))
    clear hb
    go_wp2_with fail
    refine (HSZ2.out _ HE1.out).mono ?_
    rintro e w2 ⟨rfl, hb2⟩
    have HEND := Lib.hid (HBE.out.trans (hb2.mono HBE.out.size))
    clear hb2 g0 g1
    by_cases hs : (O.length : Int) = S
    · have d2 : ((O.length : Int) != S) = false := by rw [bne_eq_false_iff_eq]; exact hs
      have HR : Hid (R = 0) := Lib.hid (by rw [HK.out, if_neg (by omega), if_pos hs])
      clear hs
      go_wp2
      go_ret
      exact ⟨by rw [HR.out]; rfl, HEND.out⟩
    · have d2 : ((O.length : Int) != S) = true := by rw [bne_iff_ne]; exact hs
      have HR : Hid (R = 8) := Lib.hid (by rw [HK.out, if_neg (by omega), if_neg hs])
      clear hs
      go_wp2
      go_ret
      exact ⟨by rw [HR.out]; rfl, HEND.out⟩
def rightO (n : Int) (L : List E) (O : List Bool) : Bool := fewG n L && decide (chkO n L O = 0)
set_option maxHeartbeats 12800000 in
set_option maxRecDepth 100000 in
theorem right_few (n : Int) (a : Option Addr) (cap : Nat) (L : List E) (b : Option Addr) (c : Nat) (O : List Bool)  (HFW : Hid (∀ w, EsAt w a L → Calls Try.prog 12 #[.agg #[.int .i64 n, .slice a L.length cap]] w (fun e w' => e = .returned (.bool false) ∧ Below w.heap.size w w'))) (w : World) (h : EsAt w a L) (ho : BsAt w b O) :
    Calls Try.prog 43 #[gv n a L.length cap, .slice b O.length c] w (GivesB w false) := by
  unfold GivesB gv
  obtain ⟨W, hW⟩ : ∃ W, W = w.alloc (Obj.cells #[.int .i64 n, .slice a L.length cap] 24) := ⟨_, rfl⟩
  have hB0 : Below w.heap.size w W := by rw [hW]; exact (Below.refl _ w).alloc (Nat.le_refl _) _
  have hG : Blk W w.heap.size 24 #[.int .i64 n, .slice a L.length cap] := by rw [hW]; exact Blk.new _ _ _
  have HW := Lib.hid hW
  have HB0 := Lib.hid hB0
  have hEz : EsAt W a L := h.keep hB0
  have hOz : BsAt W b O := ho.keep hB0
  have HF : Hid (∀ x, Below W.heap.size W x → x.cell? ⟨w.heap.size, 0, none⟩ = some (.int .i64 n) ∧ x.cell? ⟨w.heap.size, 1, none⟩ = some (.slice a L.length cap) ∧ EsAt x a L ∧ BsAt x b O) := Lib.hid fun x hx => ⟨(hG.below hx hG.lt).cell 0, (hG.below hx hG.lt).cell 1, hEz.keep hx, hOz.keep hx⟩
  have hk0 : Below W.heap.size W W := Below.refl _ _
  obtain ⟨g0, g1, -⟩ := HF.out W hk0
  clear hB0 hG hW hEz h hOz ho
  go_enter Try.func43, Try.ntmps43
  go_wp2_with fail
  rw [← HW.out]
  refine (HFW.out _ (HF.out W hk0).2.2.1).mono ?_
  rintro e x1 ⟨rfl, hb1⟩
  have hk1 : Below W.heap.size W x1 := hk0.trans (hb1.mono hk0.size)
  clear hb1 hk0 g0 g1
  obtain ⟨g0, g1, -⟩ := HF.out x1 hk1
  have HEND := Lib.hid (HB0.out.trans (hk1.mono HB0.out.size))
  clear hk1 g0 g1
  go_wp2
  go_ret
  exact ⟨rfl, HEND.out⟩
set_option maxHeartbeats 12800000 in
set_option maxRecDepth 100000 in
theorem right_err (n : Int) (a : Option Addr) (cap : Nat) (L : List E) (b : Option Addr) (c : Nat) (O : List Bool) (k : Nat) (hk : k ≠ 0) (HFW : Hid (∀ w, EsAt w a L → Calls Try.prog 12 #[.agg #[.int .i64 n, .slice a L.length cap]] w (fun e w' => e = .returned (.bool true) ∧ Below w.heap.size w w'))) (HCR : Hid (∀ w, EsAt w a L → BsAt w b O → Calls Try.prog 21 #[.agg #[.int .i64 n, .slice a L.length cap], .slice b O.length c] w (fun e w' => e = .returned (.int .i64 ((k : Nat) : Int)) ∧ Below w.heap.size w w'))) (w : World) (h : EsAt w a L) (ho : BsAt w b O) :
    Calls Try.prog 43 #[gv n a L.length cap, .slice b O.length c] w (GivesB w false) := by
  unfold GivesB gv
  obtain ⟨W, hW⟩ : ∃ W, W = w.alloc (Obj.cells #[.int .i64 n, .slice a L.length cap] 24) := ⟨_, rfl⟩
  have hB0 : Below w.heap.size w W := by rw [hW]; exact (Below.refl _ w).alloc (Nat.le_refl _) _
  have hG : Blk W w.heap.size 24 #[.int .i64 n, .slice a L.length cap] := by rw [hW]; exact Blk.new _ _ _
  have HW := Lib.hid hW
  have HB0 := Lib.hid hB0
  have hEz : EsAt W a L := h.keep hB0
  have hOz : BsAt W b O := ho.keep hB0
  have HF : Hid (∀ x, Below W.heap.size W x → x.cell? ⟨w.heap.size, 0, none⟩ = some (.int .i64 n) ∧ x.cell? ⟨w.heap.size, 1, none⟩ = some (.slice a L.length cap) ∧ EsAt x a L ∧ BsAt x b O) := Lib.hid fun x hx => ⟨(hG.below hx hG.lt).cell 0, (hG.below hx hG.lt).cell 1, hEz.keep hx, hOz.keep hx⟩
  have hk0 : Below W.heap.size W W := Below.refl _ _
  obtain ⟨g0, g1, -⟩ := HF.out W hk0
  clear hB0 hG hW hEz h hOz ho
  have q1 : (((k : Nat) : Int) == 0) = false := by rw [beq_eq_false_iff_ne]; omega
  go_enter Try.func43, Try.ntmps43
  go_wp2_with fail
  rw [← HW.out]
  refine (HFW.out _ (HF.out W hk0).2.2.1).mono ?_
  rintro e x1 ⟨rfl, hb1⟩
  have hk1 : Below W.heap.size W x1 := hk0.trans (hb1.mono hk0.size)
  clear hb1 hk0 g0 g1
  obtain ⟨g0, g1, -⟩ := HF.out x1 hk1
  go_wp2_with fail
  refine (HCR.out _ (HF.out x1 hk1).2.2.1 (HF.out x1 hk1).2.2.2).mono ?_
  rintro e x2 ⟨rfl, hb2⟩
  have hk2 : Below W.heap.size W x2 := hk1.trans (hb2.mono hk1.size)
  clear hb2 hk1 g0 g1
  obtain ⟨g0, g1, -⟩ := HF.out x2 hk2
  have HEND := Lib.hid (HB0.out.trans (hk2.mono HB0.out.size))
  clear hk2 g0 g1
  go_wp2
  go_ret
  exact ⟨rfl, HEND.out⟩
set_option maxHeartbeats 12800000 in
set_option maxRecDepth 100000 in
theorem right_ok (n : Int) (a : Option Addr) (cap : Nat) (L : List E) (b : Option Addr) (c : Nat) (O : List Bool) (k : Nat) (hk : k = 0) (HFW : Hid (∀ w, EsAt w a L → Calls Try.prog 12 #[.agg #[.int .i64 n, .slice a L.length cap]] w (fun e w' => e = .returned (.bool true) ∧ Below w.heap.size w w'))) (HCR : Hid (∀ w, EsAt w a L → BsAt w b O → Calls Try.prog 21 #[.agg #[.int .i64 n, .slice a L.length cap], .slice b O.length c] w (fun e w' => e = .returned (.int .i64 ((k : Nat) : Int)) ∧ Below w.heap.size w w'))) (w : World) (h : EsAt w a L) (ho : BsAt w b O) :
    Calls Try.prog 43 #[gv n a L.length cap, .slice b O.length c] w (GivesB w true) := by
  unfold GivesB gv
  obtain ⟨W, hW⟩ : ∃ W, W = w.alloc (Obj.cells #[.int .i64 n, .slice a L.length cap] 24) := ⟨_, rfl⟩
  have hB0 : Below w.heap.size w W := by rw [hW]; exact (Below.refl _ w).alloc (Nat.le_refl _) _
  have hG : Blk W w.heap.size 24 #[.int .i64 n, .slice a L.length cap] := by rw [hW]; exact Blk.new _ _ _
  have HW := Lib.hid hW
  have HB0 := Lib.hid hB0
  have hEz : EsAt W a L := h.keep hB0
  have hOz : BsAt W b O := ho.keep hB0
  have HF : Hid (∀ x, Below W.heap.size W x → x.cell? ⟨w.heap.size, 0, none⟩ = some (.int .i64 n) ∧ x.cell? ⟨w.heap.size, 1, none⟩ = some (.slice a L.length cap) ∧ EsAt x a L ∧ BsAt x b O) := Lib.hid fun x hx => ⟨(hG.below hx hG.lt).cell 0, (hG.below hx hG.lt).cell 1, hEz.keep hx, hOz.keep hx⟩
  have hk0 : Below W.heap.size W W := Below.refl _ _
  obtain ⟨g0, g1, -⟩ := HF.out W hk0
  clear hB0 hG hW hEz h hOz ho
  have q1 : (((k : Nat) : Int) == 0) = true := by rw [hk]; rfl
  go_enter Try.func43, Try.ntmps43
  go_wp2_with fail
  rw [← HW.out]
  refine (HFW.out _ (HF.out W hk0).2.2.1).mono ?_
  rintro e x1 ⟨rfl, hb1⟩
  have hk1 : Below W.heap.size W x1 := hk0.trans (hb1.mono hk0.size)
  clear hb1 hk0 g0 g1
  obtain ⟨g0, g1, -⟩ := HF.out x1 hk1
  go_wp2_with fail
  refine (HCR.out _ (HF.out x1 hk1).2.2.1 (HF.out x1 hk1).2.2.2).mono ?_
  rintro e x2 ⟨rfl, hb2⟩
  have hk2 : Below W.heap.size W x2 := hk1.trans (hb2.mono hk1.size)
  clear hb2 hk1 g0 g1
  obtain ⟨g0, g1, -⟩ := HF.out x2 hk2
  have HEND := Lib.hid (HB0.out.trans (hk2.mono HB0.out.size))
  clear hk2 g0 g1
  go_wp2
  go_ret
  exact ⟨rfl, HEND.out⟩
theorem right_any (n : Int) (a : Option Addr) (cap : Nat) (L : List E) (b : Option Addr) (c : Nat) (O : List Bool) (w : World) (h : EsAt w a L) (ho : BsAt w b O) :
    Calls Try.prog 43 #[gv n a L.length cap, .slice b O.length c] w (GivesB w (rightO n L O)) := by
  unfold rightO
  cases hf : fewG n L with
  | false => exact right_few n a cap L b c O (FewHid hf) w h ho
  | true =>
    have hl := few_len hf
    rw [Bool.true_and]
    by_cases hk : chkO n L O = 0
    · rw [decide_eq_true hk]
      exact right_ok n a cap L b c O _ hk (FewHid hf) (Lib.hid fun w h ho => rcheckO_all n a cap L (by omega) b c O w h ho) w h ho
    · rw [decide_eq_false hk]
      exact right_err n a cap L b c O _ hk (FewHid hf) (Lib.hid fun w h ho => rcheckO_all n a cap L (by omega) b c O w h ho) w h ho
end Go.Proofs.Ytlnaahkheankoaa
