/- The turns at the cycles of the triangle. -/
import Derived.Test.YtlnaahkheankoaaQ10
import Derived.Test.YtlnaahkheankoaaQ00
import Derived.Maps.AppendAt
namespace Go.Proofs.Ytlnaahkheankoaa
open Go.RowKit Go.Shelf Go.Proofs.Gr
attribute [local go_sem] Oper.semAt_some

/-- What a walk keeps: all but the box of the list and its row. -/
structure KW (b5 : Nat) (w : World) (v : Value) (w' : World) (v' : Value) : Prop where
  size : w.heap.size ≤ w'.heap.size
  blk : ∀ g, g < w.heap.size → g ≠ b5 → some g ≠ v.ownBlock → w'.heap[g]? = w.heap[g]?
  own : v'.ownBlock = v.ownBlock ∨ ∃ k, v'.ownBlock = some k ∧ w.heap.size ≤ k
  sys : w'.os = w.os ∧ w'.tape = w.tape ∧ w'.output = w.output
theorem KW.refl (b5 : Nat) (w : World) (v : Value) : KW b5 w v w v := ⟨Nat.le_refl _, fun _ _ _ _ => rfl, .inl rfl, rfl, rfl, rfl⟩
theorem KW.low {b5 B : Nat} {w w' : World} {v v' : Value} (h : KW b5 w v w' v') (hb : B ≤ b5) (hw : B ≤ w.heap.size) (hv : v.ownBlock = none) : Below B w w' :=
  ⟨h.sys.1, h.sys.2.1, h.sys.2.2, h.size, fun g hg => h.blk g (by omega) (by omega) (by rw [hv]; simp)⟩
theorem KW.trans {b5 : Nat} {w w' w'' : World} {v v' v'' : Value} (h : KW b5 w v w' v') (h' : KW b5 w' v' w'' v'') : KW b5 w v w'' v'' := by
  refine ⟨Nat.le_trans h.size h'.size, fun g h1 h2 h3 => ?_, ?_, h'.sys.1.trans h.sys.1, h'.sys.2.1.trans h.sys.2.1, h'.sys.2.2.trans h.sys.2.2⟩
  · refine (h'.blk g (Nat.lt_of_lt_of_le h1 h.size) h2 (fun e => ?_)).trans (h.blk g h1 h2 h3)
    rcases h.own with h4 | ⟨k, h4, h5⟩
    · exact h3 (e.trans h4)
    · rw [h4] at e; cases e; omega
  · rcases h'.own with h4 | ⟨k, h4, h5⟩
    · rcases h.own with h6 | h6
      · exact .inl (h4.trans h6)
      · rw [← h4] at h6; exact .inr h6
    · exact .inr ⟨k, h4, Nat.le_trans h.size h5⟩
theorem KW.below {b5 : Nat} {w w' : World} {v : Value} (h : Below w.heap.size w w') : KW b5 w v w' v := ⟨h.size, fun g h1 _ _ => h.block g h1, .inl rfl, h.os, h.tape, h.output⟩
theorem Blk.kw {b5 : Nat} {w w' : World} {v v' : Value} {g : Nat} {t : TypeId} {cs : Array Value} (h : Blk w g t cs) (hk : KW b5 w v w' v') (h1 : g ≠ b5) (h2 : some g ≠ v.ownBlock) : Blk w' g t cs := (hk.blk g h.lt h1 h2).trans h
/-- What a walk finds. -/
structure StW (b3 b5 b6 base pb po cp : Nat) (w : World) (v : Value) (n : Nat) (xs : List Value) : Prop where
  k3 : Blk w b3 83 #[.slice (some ⟨pb, po, none⟩) 3 cp]
  kp : PsAt w (some ⟨pb, po, none⟩) triP
  k5 : Blk w b5 115 #[v]
  k6 : Blk w b6 138 #[(.func (.func 106) #[] #[.pointer (some ⟨b3, 0, none⟩), .pointer (some ⟨b5, 0, none⟩), .pointer (some ⟨b6, 0, none⟩)])]
  own : w.ownsRow base 136 2 v n xs
  l3 : b3 < base
  l5 : b5 < base
  l6 : b6 < base
  lp : pb < base
  n3 : b3 ≠ b5
  n6 : b6 ≠ b5
  np : pb ≠ b5
  lb : base ≤ w.heap.size
theorem StW.far {b3 b5 b6 base pb po cp : Nat} {w : World} {v : Value} {n : Nat} {xs : List Value} (h : StW b3 b5 b6 base pb po cp w v n xs) {g : Nat} (hg : g < base) : some g ≠ v.ownBlock := fun e => by
  have := (h.own.lt g e.symm).1
  omega
theorem StW.keep {b3 b5 b6 base pb po cp : Nat} {w w' : World} {v : Value} {n : Nat} {xs : List Value} (h : StW b3 b5 b6 base pb po cp w v n xs) (hb : Below w.heap.size w w') : StW b3 b5 b6 base pb po cp w' v n xs :=
  ⟨h.k3.below hb h.k3.lt, h.kp.keep hb, h.k5.below hb h.k5.lt, h.k6.below hb h.k6.lt, own_keep h.own hb, h.l3, h.l5, h.l6, h.lp, h.n3, h.n6, h.np, Nat.le_trans h.lb hb.size⟩
/-- One more turn. -/
theorem StW.push {b3 b5 b6 base pb po cp : Nat} {w w9 : World} {v v1 : Value} {n n' : Nat} {xs xs' : List Value} {o : Obj} (h : StW b3 b5 b6 base pb po cp w v n xs) (hown : w9.ownsRow base 136 2 v1 n' xs') (hg : (w.alloc o).grownBy w9 v.ownBlock) (hat : v1.ownBlock = v.ownBlock ∨ v1.ownBlock = some (w.alloc o).heap.size) :
    StW b3 b5 b6 base pb po cp (w9.setCell ⟨b5, 0, none⟩ v1) v1 n' xs' ∧ KW b5 w v (w9.setCell ⟨b5, 0, none⟩ v1) v1 := by
  have hz : (w.alloc o).heap.size = w.heap.size + 1 := by simp
  have hz9 := hg.size
  have hzz : (w9.setCell ⟨b5, 0, none⟩ v1).heap.size = w9.heap.size := by simp [World.setCell]
  have hk : KW b5 w v (w9.setCell ⟨b5, 0, none⟩ v1) v1 := by
    refine ⟨by omega, fun g h1 h2 h3 => ?_, ?_, hg.os, hg.tape, hg.output⟩
    · exact (Below.heap_setCell w9 ⟨b5, 0, none⟩ v1 g (fun e => h2 e)).trans ((hg.block g (by omega) h3).trans (Below.heap_alloc w o g h1))
    · rcases hat with h4 | h4
      · exact .inl h4
      · exact .inr ⟨_, h4, by omega⟩
  have h5 : Blk w9 b5 115 #[v] := (h.k5.alloc o).grown hg (h.far h.l5)
  refine ⟨⟨h.k3.kw hk h.n3 (h.far h.l3), ?_, by simpa using h5.set_ 0 v1, h.k6.kw hk h.n6 (h.far h.l6), ownsRow_setCell_below hown (a := ⟨b5, 0, none⟩) h.l5 _, h.l3, h.l5, h.l6, h.lp, h.n3, h.n6, h.np, by have := h.lb; omega⟩, hk⟩
  intro j hj
  obtain ⟨b, off, hp, hlt, h6⟩ := h.kp j hj
  refine ⟨b, off, hp, by omega, fun i hi => ?_⟩
  injection hp with hp
  injection hp with h7 h8
  subst h7
  rw [← h6 i hi]
  exact World.cell?_of_block (hk.blk pb hlt h.np (h.far h.lp))
/-- A walk adds turns. -/
def Walks (nb : Nat) (st v : Int) (vis E Y : Int) (add : List (Int × Int)) : Prop :=
  ∀ (b3 b5 b6 base pb po cp : Nat) (w : World) (u : Value) (n : Nat) (xs : List Value), n ≤ nb → StW b3 b5 b6 base pb po cp w u n xs →
    Calls Try.prog 106 #[.int .i64 st, .int .i64 v, .int .u64 vis, .agg #[.int .u64 E, .int .u64 Y], .pointer (some ⟨b3, 0, none⟩), .pointer (some ⟨b5, 0, none⟩), .pointer (some ⟨b6, 0, none⟩)] w
      (fun e w' => (∃ r, e = .returned r) ∧ ∃ u', StW b3 b5 b6 base pb po cp w' u' (n + add.length) (xs ++ flat encT add) ∧ KW b5 w u w' u')
def addT_0_2_6_5_5 : Nat → List (Int × Int)
  | 0 => []
  | 1 => []
  | 2 => [(7, 5)]
  | _ => [(7, 5)]
set_option maxHeartbeats 12800000 in
set_option maxRecDepth 100000 in
theorem walk_0_2_6_5_5 : Walks 10 0 2 6 5 5 [(7, 5)] := by
  intro b3 b5 b6 base pb po cp w u n xs hn h
  obtain ⟨i0, hi0, hz0, hz1, hz2⟩ := info_parts infoT
  have HST := Lib.hid h
  obtain ⟨W0, hW0⟩ : ∃ W0, W0 = w.alloc (Obj.cells #[.int .u64 5, .int .u64 5] 136) := ⟨_, rfl⟩
  have hx0 : Blk W0 w.heap.size 136 #[.int .u64 5, .int .u64 5] := by rw [hW0]; exact Blk.new _ _ _
  have hb0 : Below w.heap.size w W0 := by rw [hW0]; exact (Below.refl _ _).alloc (Nat.le_refl _) _
  have hz : W0.heap.size = w.heap.size + 1 := by rw [hW0]; simp
  have HX0 := Lib.hid hx0
  have HB0 := Lib.hid hb0
  have HZ0 := Lib.hid hz
  have HS0 := Lib.hid (h.keep hb0)
  have HNB : Hid (w.heap.size ≠ b5) := Lib.hid (by have := h.l5; have := h.lb; omega)
  have HNO : Hid (some w.heap.size ≠ u.ownBlock) := Lib.hid (fun e => by have := (h.own.lt _ e.symm).2; omega)
  have c3 : (w.alloc (Obj.cells #[.int .u64 5, .int .u64 5] 136)).cell? ⟨b3, 0, none⟩ = some (.slice (some ⟨pb, po, none⟩) 3 cp) := by rw [← hW0]; exact HS0.out.k3.cell 0
  clear h hx0 hb0 hz
  go_enter Try.func106, Try.ntmps106
  go_wp2_with fail
  rw [← hW0]
  clear hW0
  clear c3
  go_loopw [19] (fun x wr => ∃ k : Nat, ∃ z : Int, ∃ u', k ≤ 3 ∧ x = .int .i64 z ∧ z = k ∧ StW b3 b5 b6 base pb po cp wr u' (n + (addT_0_2_6_5_5 k).length) (xs ++ flat encT (addT_0_2_6_5_5 k)) ∧ KW b5 W0 u wr u') (fun x _ => 3 - (intOf x).toNat)
  case atStart => exact ⟨0, 0, u, by omega, rfl, rfl, by simpa [addT_0_2_6_5_5, flat] using HS0.out, KW.refl _ _ _⟩
  case round =>
    obtain ⟨k, z, u0, hk, rfl, hz, hst, hkw⟩ := hrel
    generalize wr = U at *
    rcases (show k = 0 ∨ k = 1 ∨ k = 2 ∨ k = 3 by omega) with rfl | rfl | rfl | rfl
    · obtain rfl : z = 0 := hz
      obtain ⟨pb', po', hpe, q1, x1, x2⟩ := hst.kp.two 0 (by decide)
      obtain ⟨rfl, rfl⟩ : pb' = pb ∧ po' = po := by
        injection hpe with h1
        injection h1 with h2 h3
        exact ⟨h2.symm, h3.symm⟩
      have y1 : U.cell? ⟨pb', po', none⟩ = some (.int .i64 0) := x1
      have y2 : U.cell? ⟨pb', po' + 0 + 1, none⟩ = some (.int .i64 1) := x2
      have y3 : U.cell? ⟨pb', po' + 1, none⟩ = some (.int .i64 1) := x2
      obtain ⟨A, hA⟩ : ∃ A, A = U.alloc (Obj.cells #[.int .i64 0, .int .i64 1] 85) := ⟨_, rfl⟩
      have hb : Below U.heap.size U A := by rw [hA]; exact (Below.refl _ _).alloc (Nat.le_refl _) _
      have HPK : Hid (Blk A U.heap.size 85 #[.int .i64 0, .int .i64 1]) := Lib.hid (by rw [hA]; exact Blk.new _ _ _)
      have HSA := Lib.hid (hst.keep hb)
      have HKA := Lib.hid (hkw.trans (KW.below hb))
      have HNO2 : Hid (some w.heap.size ≠ u0.ownBlock) := Lib.hid (fun e => by
        rcases hkw.own with h4 | ⟨k, h4, h5⟩
        · exact HNO.out (e.trans h4)
        · rw [h4] at e; cases e; have := HZ0.out; omega)
      have HUL : Hid (base ≤ U.heap.size) := Lib.hid hst.lb
      have HUO : Hid (some U.heap.size ≠ u0.ownBlock) := Lib.hid (fun e => by have := (hst.own.lt _ e.symm).2; omega)
      have HUB : Hid (U.heap.size ≠ b5) := Lib.hid (by have := hst.l5; have := hst.lb; omega)
      have HBX := Lib.hid ((HX0.out.kw hkw HNB.out HNO.out).below hb ((HX0.out.kw hkw HNB.out HNO.out).lt))
      have z0 : A.cell? ⟨U.heap.size, 0, none⟩ = some (.int .i64 0) := HPK.out.cell 0
      have z1 : A.cell? ⟨U.heap.size, 1, none⟩ = some (.int .i64 1) := HPK.out.cell 1
      have z2 : A.cell? ⟨w.heap.size, 0, none⟩ = some (.int .u64 5) := HBX.out.cell 0
      clear hpe x1 x2 hst hkw hb
      go_wp2_with fail
      try rw [← hA]
      clear hA y1 y2 y3
      refine wp_loop_rounds 3 ?_
      have ix0 : ∀ w, (Instr.index 85 (.agg #[.int .i64 0, .int .i64 1]) (.int .i64 0)).run Try.prog w = .ok (.int .i64 0) w := fun _ => by kernel_rfl
      have ix1 : ∀ w, (Instr.index 85 (.agg #[.int .i64 0, .int .i64 1]) (.int .i64 1)).run Try.prog w = .ok (.int .i64 1) w := fun _ => by kernel_rfl
      rw [rounds_succ]
      go_wp2
      rw [rounds_succ]
      go_wp2
      rw [rounds_succ]
      go_wp2
      go_roundw
      case rel => exact ⟨1, _, u0, by omega, rfl, rfl, by first | exact HSA.out | simpa [addT_0_2_6_5_5, flat, encT, Nat.add_assoc] using HSA.out, HKA.out⟩
      case measure => simp [intOf]
    · obtain rfl : z = 1 := hz
      obtain ⟨pb', po', hpe, q1, x1, x2⟩ := hst.kp.two 1 (by decide)
      obtain ⟨rfl, rfl⟩ : pb' = pb ∧ po' = po := by
        injection hpe with h1
        injection h1 with h2 h3
        exact ⟨h2.symm, h3.symm⟩
      have y1 : U.cell? ⟨pb', po' + 2, none⟩ = some (.int .i64 0) := x1
      have y2 : U.cell? ⟨pb', po' + 2 + 1, none⟩ = some (.int .i64 2) := x2
      have y3 : U.cell? ⟨pb', po' + 3, none⟩ = some (.int .i64 2) := x2
      obtain ⟨A, hA⟩ : ∃ A, A = U.alloc (Obj.cells #[.int .i64 0, .int .i64 2] 85) := ⟨_, rfl⟩
      have hb : Below U.heap.size U A := by rw [hA]; exact (Below.refl _ _).alloc (Nat.le_refl _) _
      have HPK : Hid (Blk A U.heap.size 85 #[.int .i64 0, .int .i64 2]) := Lib.hid (by rw [hA]; exact Blk.new _ _ _)
      have HSA := Lib.hid (hst.keep hb)
      have HKA := Lib.hid (hkw.trans (KW.below hb))
      have HNO2 : Hid (some w.heap.size ≠ u0.ownBlock) := Lib.hid (fun e => by
        rcases hkw.own with h4 | ⟨k, h4, h5⟩
        · exact HNO.out (e.trans h4)
        · rw [h4] at e; cases e; have := HZ0.out; omega)
      have HUL : Hid (base ≤ U.heap.size) := Lib.hid hst.lb
      have HUO : Hid (some U.heap.size ≠ u0.ownBlock) := Lib.hid (fun e => by have := (hst.own.lt _ e.symm).2; omega)
      have HUB : Hid (U.heap.size ≠ b5) := Lib.hid (by have := hst.l5; have := hst.lb; omega)
      have HBX := Lib.hid ((HX0.out.kw hkw HNB.out HNO.out).below hb ((HX0.out.kw hkw HNB.out HNO.out).lt))
      have z0 : A.cell? ⟨U.heap.size, 0, none⟩ = some (.int .i64 0) := HPK.out.cell 0
      have z1 : A.cell? ⟨U.heap.size, 1, none⟩ = some (.int .i64 2) := HPK.out.cell 1
      have z2 : A.cell? ⟨w.heap.size, 0, none⟩ = some (.int .u64 5) := HBX.out.cell 0
      clear hpe x1 x2 hst hkw hb
      go_wp2_with fail
      try rw [← hA]
      clear hA y1 y2 y3
      refine wp_loop_rounds 3 ?_
      have ix0 : ∀ w, (Instr.index 85 (.agg #[.int .i64 0, .int .i64 2]) (.int .i64 0)).run Try.prog w = .ok (.int .i64 0) w := fun _ => by kernel_rfl
      have ix1 : ∀ w, (Instr.index 85 (.agg #[.int .i64 0, .int .i64 2]) (.int .i64 1)).run Try.prog w = .ok (.int .i64 2) w := fun _ => by kernel_rfl
      rw [rounds_succ]
      go_wp2
      rw [rounds_succ]
      go_wp2
      have HF : Hid (∀ u, Below A.heap.size A u → u.cell? ⟨w.heap.size, 0, none⟩ = some (.int .u64 5) ∧ u.cell? ⟨w.heap.size, 1, none⟩ = some (.int .u64 5)) := Lib.hid (fun u hu => ⟨(HBX.out.below hu HBX.out.lt).cell 0, (HBX.out.below hu HBX.out.lt).cell 1⟩)
      have hj0 : Below A.heap.size A A.drew := (Below.refl _ _).drew
      refine wp_region_late (S := fun u => Below A.heap.size A u) (X := [15]) (by kernel_rfl) ?_
      refine wpAnyL_pureD (i := 0) 49 (.pointer (some ⟨w.heap.size, 0, none⟩)) rfl rfl (by kernel_rfl) (by kernel_rfl) (by kernel_rfl) (fun _ _ _ h => h) (Or.inl ⟨by rfl, fun u _ => ?_⟩) ?_
      · go_simp <;> first | rfl | decide | kernel_rfl
      try simp only [Act.put, List.setIfInBounds_toArray, List.set_cons_zero, List.set_cons_succ]
      refine wpAnyL_takeD (i := 1) 50 (.int .u64 5) rfl rfl (by kernel_rfl) (by kernel_rfl) (by kernel_rfl) (by kernel_rfl) (by kernel_rfl) (fun _ _ _ h => h) hj0 (Or.inl ⟨by rfl, fun u hu => ?_⟩) ?_
      · obtain ⟨t0, t1⟩ := HF.out u hu
        go_simp
      try simp only [Act.put, List.setIfInBounds_toArray, List.set_cons_zero, List.set_cons_succ]
      refine wpAnyL_pureD (i := 2) 51 (.int .i64 1) rfl rfl (by kernel_rfl) (by kernel_rfl) (by kernel_rfl) (fun _ _ _ h => h) (Or.inl ⟨by rfl, fun u _ => ?_⟩) ?_
      · go_simp <;> first | rfl | decide | kernel_rfl
      try simp only [Act.put, List.setIfInBounds_toArray, List.set_cons_zero, List.set_cons_succ]
      refine wpAnyL_pureD (i := 3) 52 (.int .u64 2) rfl rfl (by kernel_rfl) (by kernel_rfl) (by kernel_rfl) (fun _ _ _ h => h) (Or.inl ⟨by rfl, fun u _ => ?_⟩) ?_
      · go_simp <;> first | rfl | decide | kernel_rfl
      try simp only [Act.put, List.setIfInBounds_toArray, List.set_cons_zero, List.set_cons_succ]
      refine wpAnyL_pureD (i := 4) 53 (.int .u64 7) rfl rfl (by kernel_rfl) (by kernel_rfl) (by kernel_rfl) (fun _ _ _ h => h) (Or.inl ⟨by rfl, fun u _ => ?_⟩) ?_
      · go_simp <;> first | rfl | decide | kernel_rfl
      try simp only [Act.put, List.setIfInBounds_toArray, List.set_cons_zero, List.set_cons_succ]
      refine wpAnyL_pureD (i := 5) 54 (.pointer (some ⟨w.heap.size, 1, none⟩)) rfl rfl (by kernel_rfl) (by kernel_rfl) (by kernel_rfl) (fun _ _ _ h => h) (Or.inl ⟨by rfl, fun u _ => ?_⟩) ?_
      · go_simp <;> first | rfl | decide | kernel_rfl
      try simp only [Act.put, List.setIfInBounds_toArray, List.set_cons_zero, List.set_cons_succ]
      refine wpAnyL_takeD (i := 6) 55 (.int .u64 5) rfl rfl (by kernel_rfl) (by kernel_rfl) (by kernel_rfl) (by kernel_rfl) (by kernel_rfl) (fun _ _ _ h => h) hj0 (Or.inl ⟨by rfl, fun u hu => ?_⟩) ?_
      · obtain ⟨t0, t1⟩ := HF.out u hu
        go_simp
      try simp only [Act.put, List.setIfInBounds_toArray, List.set_cons_zero, List.set_cons_succ]
      refine wpAnyL_pureD (i := 7) 56 (.int .i64 1) rfl rfl (by kernel_rfl) (by kernel_rfl) (by kernel_rfl) (fun _ _ _ h => h) (Or.inl ⟨by rfl, fun u _ => ?_⟩) ?_
      · go_simp <;> first | rfl | decide | kernel_rfl
      try simp only [Act.put, List.setIfInBounds_toArray, List.set_cons_zero, List.set_cons_succ]
      refine wpAnyL_pureD (i := 8) 57 (.int .i64 0) rfl rfl (by kernel_rfl) (by kernel_rfl) (by kernel_rfl) (fun _ _ _ h => h) (Or.inl ⟨by rfl, fun u _ => ?_⟩) ?_
      · go_simp <;> first | rfl | decide | kernel_rfl
      try simp only [Act.put, List.setIfInBounds_toArray, List.set_cons_zero, List.set_cons_succ]
      refine wpAnyL_pureD (i := 9) 58 (.int .u64 0) rfl rfl (by kernel_rfl) (by kernel_rfl) (by kernel_rfl) (fun _ _ _ h => h) (Or.inl ⟨by rfl, fun u _ => ?_⟩) ?_
      · go_simp <;> first | rfl | decide | kernel_rfl
      try simp only [Act.put, List.setIfInBounds_toArray, List.set_cons_zero, List.set_cons_succ]
      refine wpAnyL_pureD (i := 10) 59 (.int .i64 1) rfl rfl (by kernel_rfl) (by kernel_rfl) (by kernel_rfl) (fun _ _ _ h => h) (Or.inl ⟨by rfl, fun u _ => ?_⟩) ?_
      · go_simp <;> first | rfl | decide | kernel_rfl
      try simp only [Act.put, List.setIfInBounds_toArray, List.set_cons_zero, List.set_cons_succ]
      refine wpAnyL_pureD (i := 11) 60 (.int .u64 0) rfl rfl (by kernel_rfl) (by kernel_rfl) (by kernel_rfl) (fun _ _ _ h => h) (Or.inl ⟨by rfl, fun u _ => ?_⟩) ?_
      · go_simp <;> first | rfl | decide | kernel_rfl
      try simp only [Act.put, List.setIfInBounds_toArray, List.set_cons_zero, List.set_cons_succ]
      refine wpAnyL_pureD (i := 12) 61 (.int .u64 5) rfl rfl (by kernel_rfl) (by kernel_rfl) (by kernel_rfl) (fun _ _ _ h => h) (Or.inl ⟨by rfl, fun u _ => ?_⟩) ?_
      · go_simp <;> first | rfl | decide | kernel_rfl
      try simp only [Act.put, List.setIfInBounds_toArray, List.set_cons_zero, List.set_cons_succ]
      refine wpAnyL_pureD (i := 13) 62 (.agg #[.int .u64 7, .int .u64 5]) rfl rfl (by kernel_rfl) (by kernel_rfl) (by kernel_rfl) (fun _ _ _ h => h) (Or.inl ⟨by rfl, fun u _ => ?_⟩) ?_
      · go_simp <;> first | rfl | decide | kernel_rfl
      try simp only [Act.put, List.setIfInBounds_toArray, List.set_cons_zero, List.set_cons_succ]
      refine wpAnyL_one (i := 14) (by kernel_rfl) rfl (fun K hK => ?_)
      go_simp
      refine hK.out _ _ (fun _ _ => (((Below.refl _ _).alloc (Nat.le_refl _) _).drew)) ?_
      clear hK K
      try simp only [Act.put, List.setIfInBounds_toArray, List.set_cons_zero, List.set_cons_succ]
      refine wpAnyL_one (i := 15) (by kernel_rfl) rfl (fun K hK => ?_)
      go_simp
      obtain ⟨D, hD⟩ : ∃ D, D = (A.alloc (Obj.cells #[.int .u64 7, .int .u64 5] 136)).drew := ⟨_, rfl⟩
      have hdb : Blk D A.heap.size 136 #[.int .u64 7, .int .u64 5] := by rw [hD]; exact Blk.new _ _ _
      have hdl : Below A.heap.size A D := by rw [hD]; exact ((Below.refl _ _).alloc (Nat.le_refl _) _).drew
      rw [← hD]
      refine hK.out _ _ (fun h => absurd (by decide) h) ?_
      clear hK K hD hj0 HF
      try simp only [Act.put, List.setIfInBounds_toArray, List.set_cons_zero, List.set_cons_succ]
      refine wpAnyL_done (by kernel_rfl) ?_ _
      try simp only [Act.put, List.setIfInBounds_toArray, List.set_cons_zero, List.set_cons_succ]
      have HDB := Lib.hid hdb
      have HDS := Lib.hid (HSA.out.keep hdl)
      have HDK := Lib.hid (HKA.out.trans (KW.below hdl))
      have d0 : D.cell? ⟨b5, 0, none⟩ = some u0 := HDS.out.k5.cell 0
      have d1 : D.cell? ⟨A.heap.size, 0, none⟩ = some (.int .u64 7) := HDB.out.cell 0
      have d2 : D.cell? ⟨A.heap.size, 1, none⟩ = some (.int .u64 5) := HDB.out.cell 1
      have HDX := Lib.hid (HBX.out.below hdl HBX.out.lt)
      have HDP := Lib.hid (HPK.out.below hdl HPK.out.lt)
      have hdz : base ≤ D.heap.size := HDS.out.lb
      clear hdb hdl z0 z1 z2
      go_wp2_with (at_builtin; refine wpList_append_own_at _ rfl _ _ 115 rfl base 136 i0 (.agg #[.int .u64 0, .int .u64 0]) 2 16 Try.underlying115 hi0 hz0 hz1 hz2 rfl (by decide) _ _ _ rfl (HDS.out.own.alloc _) ⟨D.heap.size, 0, none⟩ 1 1 [.int .u64 7, .int .u64 5] rfl rfl (lit_row _ _ _) (by simp [Value.oneCell']) (by unfold maxLen; simp [addT_0_2_6_5_5]; omega) (by simp [addT_0_2_6_5_5]; omega) (by simp; omega) ?_; intro v1 w9 hown hgrow hnil hat; obtain ⟨g9, c9, rfl⟩ := own_succ hown; have hvb9 := (HDS.out.k5.alloc (Obj.cells #[.int .u64 7, .int .u64 5] 136)).grown hgrow (HDS.out.far HDS.out.l5); have hc1 := hvb9.cell 0; have hf1 := hvb9.frozen 0; have HW9 := Lib.hid hown; have HGW := Lib.hid hgrow; have HAT := Lib.hid hat; clear hown hgrow hnil hat)
      obtain ⟨hps, hpk⟩ := StW.push HDS.out HW9.out HGW.out HAT.out
      have HPS := Lib.hid hps
      have HPQ := Lib.hid (HDK.out.trans hpk)
      clear hps hpk
      rw [rounds_succ]
      go_wp2
      go_roundw
      case rel => exact ⟨2, _, _, by omega, rfl, rfl, by first | exact HPS.out | simpa [addT_0_2_6_5_5, flat, encT, Nat.add_assoc] using HPS.out, HPQ.out⟩
      case measure => simp [intOf]
    · obtain rfl : z = 2 := hz
      obtain ⟨pb', po', hpe, q1, x1, x2⟩ := hst.kp.two 2 (by decide)
      obtain ⟨rfl, rfl⟩ : pb' = pb ∧ po' = po := by
        injection hpe with h1
        injection h1 with h2 h3
        exact ⟨h2.symm, h3.symm⟩
      have y1 : U.cell? ⟨pb', po' + 4, none⟩ = some (.int .i64 1) := x1
      have y2 : U.cell? ⟨pb', po' + 4 + 1, none⟩ = some (.int .i64 2) := x2
      have y3 : U.cell? ⟨pb', po' + 5, none⟩ = some (.int .i64 2) := x2
      obtain ⟨A, hA⟩ : ∃ A, A = U.alloc (Obj.cells #[.int .i64 1, .int .i64 2] 85) := ⟨_, rfl⟩
      have hb : Below U.heap.size U A := by rw [hA]; exact (Below.refl _ _).alloc (Nat.le_refl _) _
      have HPK : Hid (Blk A U.heap.size 85 #[.int .i64 1, .int .i64 2]) := Lib.hid (by rw [hA]; exact Blk.new _ _ _)
      have HSA := Lib.hid (hst.keep hb)
      have HKA := Lib.hid (hkw.trans (KW.below hb))
      have HNO2 : Hid (some w.heap.size ≠ u0.ownBlock) := Lib.hid (fun e => by
        rcases hkw.own with h4 | ⟨k, h4, h5⟩
        · exact HNO.out (e.trans h4)
        · rw [h4] at e; cases e; have := HZ0.out; omega)
      have HUL : Hid (base ≤ U.heap.size) := Lib.hid hst.lb
      have HUO : Hid (some U.heap.size ≠ u0.ownBlock) := Lib.hid (fun e => by have := (hst.own.lt _ e.symm).2; omega)
      have HUB : Hid (U.heap.size ≠ b5) := Lib.hid (by have := hst.l5; have := hst.lb; omega)
      have HBX := Lib.hid ((HX0.out.kw hkw HNB.out HNO.out).below hb ((HX0.out.kw hkw HNB.out HNO.out).lt))
      have z0 : A.cell? ⟨U.heap.size, 0, none⟩ = some (.int .i64 1) := HPK.out.cell 0
      have z1 : A.cell? ⟨U.heap.size, 1, none⟩ = some (.int .i64 2) := HPK.out.cell 1
      have z2 : A.cell? ⟨w.heap.size, 0, none⟩ = some (.int .u64 5) := HBX.out.cell 0
      clear hpe x1 x2 hst hkw hb
      go_wp2_with fail
      try rw [← hA]
      clear hA y1 y2 y3
      refine wp_loop_rounds 3 ?_
      have ix0 : ∀ w, (Instr.index 85 (.agg #[.int .i64 1, .int .i64 2]) (.int .i64 0)).run Try.prog w = .ok (.int .i64 1) w := fun _ => by kernel_rfl
      have ix1 : ∀ w, (Instr.index 85 (.agg #[.int .i64 1, .int .i64 2]) (.int .i64 1)).run Try.prog w = .ok (.int .i64 2) w := fun _ => by kernel_rfl
      rw [rounds_succ]
      go_wp2
      rw [rounds_succ]
      go_wp2
      rw [rounds_succ]
      go_wp2
      go_roundw
      case rel => exact ⟨3, _, u0, by omega, rfl, rfl, by first | exact HSA.out | simpa [addT_0_2_6_5_5, flat, encT, Nat.add_assoc] using HSA.out, HKA.out⟩
      case measure => simp [intOf]
    · obtain rfl : z = 3 := hz
      have HSE := Lib.hid hst
      have HKE := Lib.hid hkw
      clear hst hkw
      go_wp2
      go_end0
      exact ⟨⟨_, rfl⟩, u0, HSE.out, (KW.below HB0.out).trans HKE.out⟩
def addT_0_1_2_1_1 : Nat → List (Int × Int)
  | 0 => []
  | 1 => []
  | 2 => []
  | _ => [(7, 5)]
set_option maxHeartbeats 12800000 in
set_option maxRecDepth 100000 in
theorem walk_0_1_2_1_1 : Walks 10 0 1 2 1 1 [(7, 5)] := by
  intro b3 b5 b6 base pb po cp w u n xs hn h
  obtain ⟨i0, hi0, hz0, hz1, hz2⟩ := info_parts infoT
  have HST := Lib.hid h
  obtain ⟨W0, hW0⟩ : ∃ W0, W0 = w.alloc (Obj.cells #[.int .u64 1, .int .u64 1] 136) := ⟨_, rfl⟩
  have hx0 : Blk W0 w.heap.size 136 #[.int .u64 1, .int .u64 1] := by rw [hW0]; exact Blk.new _ _ _
  have hb0 : Below w.heap.size w W0 := by rw [hW0]; exact (Below.refl _ _).alloc (Nat.le_refl _) _
  have hz : W0.heap.size = w.heap.size + 1 := by rw [hW0]; simp
  have HX0 := Lib.hid hx0
  have HB0 := Lib.hid hb0
  have HZ0 := Lib.hid hz
  have HS0 := Lib.hid (h.keep hb0)
  have HNB : Hid (w.heap.size ≠ b5) := Lib.hid (by have := h.l5; have := h.lb; omega)
  have HNO : Hid (some w.heap.size ≠ u.ownBlock) := Lib.hid (fun e => by have := (h.own.lt _ e.symm).2; omega)
  have c3 : (w.alloc (Obj.cells #[.int .u64 1, .int .u64 1] 136)).cell? ⟨b3, 0, none⟩ = some (.slice (some ⟨pb, po, none⟩) 3 cp) := by rw [← hW0]; exact HS0.out.k3.cell 0
  clear h hx0 hb0 hz
  go_enter Try.func106, Try.ntmps106
  go_wp2_with fail
  rw [← hW0]
  clear hW0
  clear c3
  go_loopw [19] (fun x wr => ∃ k : Nat, ∃ z : Int, ∃ u', k ≤ 3 ∧ x = .int .i64 z ∧ z = k ∧ StW b3 b5 b6 base pb po cp wr u' (n + (addT_0_1_2_1_1 k).length) (xs ++ flat encT (addT_0_1_2_1_1 k)) ∧ KW b5 W0 u wr u') (fun x _ => 3 - (intOf x).toNat)
  case atStart => exact ⟨0, 0, u, by omega, rfl, rfl, by simpa [addT_0_1_2_1_1, flat] using HS0.out, KW.refl _ _ _⟩
  case round =>
    obtain ⟨k, z, u0, hk, rfl, hz, hst, hkw⟩ := hrel
    generalize wr = U at *
    rcases (show k = 0 ∨ k = 1 ∨ k = 2 ∨ k = 3 by omega) with rfl | rfl | rfl | rfl
    · obtain rfl : z = 0 := hz
      obtain ⟨pb', po', hpe, q1, x1, x2⟩ := hst.kp.two 0 (by decide)
      obtain ⟨rfl, rfl⟩ : pb' = pb ∧ po' = po := by
        injection hpe with h1
        injection h1 with h2 h3
        exact ⟨h2.symm, h3.symm⟩
      have y1 : U.cell? ⟨pb', po', none⟩ = some (.int .i64 0) := x1
      have y2 : U.cell? ⟨pb', po' + 0 + 1, none⟩ = some (.int .i64 1) := x2
      have y3 : U.cell? ⟨pb', po' + 1, none⟩ = some (.int .i64 1) := x2
      obtain ⟨A, hA⟩ : ∃ A, A = U.alloc (Obj.cells #[.int .i64 0, .int .i64 1] 85) := ⟨_, rfl⟩
      have hb : Below U.heap.size U A := by rw [hA]; exact (Below.refl _ _).alloc (Nat.le_refl _) _
      have HPK : Hid (Blk A U.heap.size 85 #[.int .i64 0, .int .i64 1]) := Lib.hid (by rw [hA]; exact Blk.new _ _ _)
      have HSA := Lib.hid (hst.keep hb)
      have HKA := Lib.hid (hkw.trans (KW.below hb))
      have HNO2 : Hid (some w.heap.size ≠ u0.ownBlock) := Lib.hid (fun e => by
        rcases hkw.own with h4 | ⟨k, h4, h5⟩
        · exact HNO.out (e.trans h4)
        · rw [h4] at e; cases e; have := HZ0.out; omega)
      have HUL : Hid (base ≤ U.heap.size) := Lib.hid hst.lb
      have HUO : Hid (some U.heap.size ≠ u0.ownBlock) := Lib.hid (fun e => by have := (hst.own.lt _ e.symm).2; omega)
      have HUB : Hid (U.heap.size ≠ b5) := Lib.hid (by have := hst.l5; have := hst.lb; omega)
      have HBX := Lib.hid ((HX0.out.kw hkw HNB.out HNO.out).below hb ((HX0.out.kw hkw HNB.out HNO.out).lt))
      have z0 : A.cell? ⟨U.heap.size, 0, none⟩ = some (.int .i64 0) := HPK.out.cell 0
      have z1 : A.cell? ⟨U.heap.size, 1, none⟩ = some (.int .i64 1) := HPK.out.cell 1
      have z2 : A.cell? ⟨w.heap.size, 0, none⟩ = some (.int .u64 1) := HBX.out.cell 0
      clear hpe x1 x2 hst hkw hb
      go_wp2_with fail
      try rw [← hA]
      clear hA y1 y2 y3
      refine wp_loop_rounds 3 ?_
      have ix0 : ∀ w, (Instr.index 85 (.agg #[.int .i64 0, .int .i64 1]) (.int .i64 0)).run Try.prog w = .ok (.int .i64 0) w := fun _ => by kernel_rfl
      have ix1 : ∀ w, (Instr.index 85 (.agg #[.int .i64 0, .int .i64 1]) (.int .i64 1)).run Try.prog w = .ok (.int .i64 1) w := fun _ => by kernel_rfl
      rw [rounds_succ]
      go_wp2
      rw [rounds_succ]
      go_wp2
      rw [rounds_succ]
      go_wp2
      go_roundw
      case rel => exact ⟨1, _, u0, by omega, rfl, rfl, by first | exact HSA.out | simpa [addT_0_1_2_1_1, flat, encT, Nat.add_assoc] using HSA.out, HKA.out⟩
      case measure => simp [intOf]
    · obtain rfl : z = 1 := hz
      obtain ⟨pb', po', hpe, q1, x1, x2⟩ := hst.kp.two 1 (by decide)
      obtain ⟨rfl, rfl⟩ : pb' = pb ∧ po' = po := by
        injection hpe with h1
        injection h1 with h2 h3
        exact ⟨h2.symm, h3.symm⟩
      have y1 : U.cell? ⟨pb', po' + 2, none⟩ = some (.int .i64 0) := x1
      have y2 : U.cell? ⟨pb', po' + 2 + 1, none⟩ = some (.int .i64 2) := x2
      have y3 : U.cell? ⟨pb', po' + 3, none⟩ = some (.int .i64 2) := x2
      obtain ⟨A, hA⟩ : ∃ A, A = U.alloc (Obj.cells #[.int .i64 0, .int .i64 2] 85) := ⟨_, rfl⟩
      have hb : Below U.heap.size U A := by rw [hA]; exact (Below.refl _ _).alloc (Nat.le_refl _) _
      have HPK : Hid (Blk A U.heap.size 85 #[.int .i64 0, .int .i64 2]) := Lib.hid (by rw [hA]; exact Blk.new _ _ _)
      have HSA := Lib.hid (hst.keep hb)
      have HKA := Lib.hid (hkw.trans (KW.below hb))
      have HNO2 : Hid (some w.heap.size ≠ u0.ownBlock) := Lib.hid (fun e => by
        rcases hkw.own with h4 | ⟨k, h4, h5⟩
        · exact HNO.out (e.trans h4)
        · rw [h4] at e; cases e; have := HZ0.out; omega)
      have HUL : Hid (base ≤ U.heap.size) := Lib.hid hst.lb
      have HUO : Hid (some U.heap.size ≠ u0.ownBlock) := Lib.hid (fun e => by have := (hst.own.lt _ e.symm).2; omega)
      have HUB : Hid (U.heap.size ≠ b5) := Lib.hid (by have := hst.l5; have := hst.lb; omega)
      have HBX := Lib.hid ((HX0.out.kw hkw HNB.out HNO.out).below hb ((HX0.out.kw hkw HNB.out HNO.out).lt))
      have z0 : A.cell? ⟨U.heap.size, 0, none⟩ = some (.int .i64 0) := HPK.out.cell 0
      have z1 : A.cell? ⟨U.heap.size, 1, none⟩ = some (.int .i64 2) := HPK.out.cell 1
      have z2 : A.cell? ⟨w.heap.size, 0, none⟩ = some (.int .u64 1) := HBX.out.cell 0
      clear hpe x1 x2 hst hkw hb
      go_wp2_with fail
      try rw [← hA]
      clear hA y1 y2 y3
      refine wp_loop_rounds 3 ?_
      have ix0 : ∀ w, (Instr.index 85 (.agg #[.int .i64 0, .int .i64 2]) (.int .i64 0)).run Try.prog w = .ok (.int .i64 0) w := fun _ => by kernel_rfl
      have ix1 : ∀ w, (Instr.index 85 (.agg #[.int .i64 0, .int .i64 2]) (.int .i64 1)).run Try.prog w = .ok (.int .i64 2) w := fun _ => by kernel_rfl
      rw [rounds_succ]
      go_wp2
      rw [rounds_succ]
      go_wp2
      rw [rounds_succ]
      go_wp2
      go_roundw
      case rel => exact ⟨2, _, u0, by omega, rfl, rfl, by first | exact HSA.out | simpa [addT_0_1_2_1_1, flat, encT, Nat.add_assoc] using HSA.out, HKA.out⟩
      case measure => simp [intOf]
    · obtain rfl : z = 2 := hz
      obtain ⟨pb', po', hpe, q1, x1, x2⟩ := hst.kp.two 2 (by decide)
      obtain ⟨rfl, rfl⟩ : pb' = pb ∧ po' = po := by
        injection hpe with h1
        injection h1 with h2 h3
        exact ⟨h2.symm, h3.symm⟩
      have y1 : U.cell? ⟨pb', po' + 4, none⟩ = some (.int .i64 1) := x1
      have y2 : U.cell? ⟨pb', po' + 4 + 1, none⟩ = some (.int .i64 2) := x2
      have y3 : U.cell? ⟨pb', po' + 5, none⟩ = some (.int .i64 2) := x2
      obtain ⟨A, hA⟩ : ∃ A, A = U.alloc (Obj.cells #[.int .i64 1, .int .i64 2] 85) := ⟨_, rfl⟩
      have hb : Below U.heap.size U A := by rw [hA]; exact (Below.refl _ _).alloc (Nat.le_refl _) _
      have HPK : Hid (Blk A U.heap.size 85 #[.int .i64 1, .int .i64 2]) := Lib.hid (by rw [hA]; exact Blk.new _ _ _)
      have HSA := Lib.hid (hst.keep hb)
      have HKA := Lib.hid (hkw.trans (KW.below hb))
      have HNO2 : Hid (some w.heap.size ≠ u0.ownBlock) := Lib.hid (fun e => by
        rcases hkw.own with h4 | ⟨k, h4, h5⟩
        · exact HNO.out (e.trans h4)
        · rw [h4] at e; cases e; have := HZ0.out; omega)
      have HUL : Hid (base ≤ U.heap.size) := Lib.hid hst.lb
      have HUO : Hid (some U.heap.size ≠ u0.ownBlock) := Lib.hid (fun e => by have := (hst.own.lt _ e.symm).2; omega)
      have HUB : Hid (U.heap.size ≠ b5) := Lib.hid (by have := hst.l5; have := hst.lb; omega)
      have HBX := Lib.hid ((HX0.out.kw hkw HNB.out HNO.out).below hb ((HX0.out.kw hkw HNB.out HNO.out).lt))
      have z0 : A.cell? ⟨U.heap.size, 0, none⟩ = some (.int .i64 1) := HPK.out.cell 0
      have z1 : A.cell? ⟨U.heap.size, 1, none⟩ = some (.int .i64 2) := HPK.out.cell 1
      have z2 : A.cell? ⟨w.heap.size, 0, none⟩ = some (.int .u64 1) := HBX.out.cell 0
      clear hpe x1 x2 hst hkw hb
      go_wp2_with fail
      try rw [← hA]
      clear hA y1 y2 y3
      refine wp_loop_rounds 3 ?_
      have ix0 : ∀ w, (Instr.index 85 (.agg #[.int .i64 1, .int .i64 2]) (.int .i64 0)).run Try.prog w = .ok (.int .i64 1) w := fun _ => by kernel_rfl
      have ix1 : ∀ w, (Instr.index 85 (.agg #[.int .i64 1, .int .i64 2]) (.int .i64 1)).run Try.prog w = .ok (.int .i64 2) w := fun _ => by kernel_rfl
      rw [rounds_succ]
      go_wp2
      have HF : Hid (∀ u, Below A.heap.size A u → u.cell? ⟨w.heap.size, 0, none⟩ = some (.int .u64 1) ∧ u.cell? ⟨w.heap.size, 1, none⟩ = some (.int .u64 1)) := Lib.hid (fun u hu => ⟨(HBX.out.below hu HBX.out.lt).cell 0, (HBX.out.below hu HBX.out.lt).cell 1⟩)
      have hj0 : Below A.heap.size A A.drew := (Below.refl _ _).drew
      refine wp_region_late (S := fun u => Below A.heap.size A u) (X := [15]) (by kernel_rfl) ?_
      refine wpAnyL_pureD (i := 0) 49 (.pointer (some ⟨w.heap.size, 0, none⟩)) rfl rfl (by kernel_rfl) (by kernel_rfl) (by kernel_rfl) (fun _ _ _ h => h) (Or.inl ⟨by rfl, fun u _ => ?_⟩) ?_
      · go_simp <;> first | rfl | decide | kernel_rfl
      try simp only [Act.put, List.setIfInBounds_toArray, List.set_cons_zero, List.set_cons_succ]
      refine wpAnyL_takeD (i := 1) 50 (.int .u64 1) rfl rfl (by kernel_rfl) (by kernel_rfl) (by kernel_rfl) (by kernel_rfl) (by kernel_rfl) (fun _ _ _ h => h) hj0 (Or.inl ⟨by rfl, fun u hu => ?_⟩) ?_
      · obtain ⟨t0, t1⟩ := HF.out u hu
        go_simp
      try simp only [Act.put, List.setIfInBounds_toArray, List.set_cons_zero, List.set_cons_succ]
      refine wpAnyL_pureD (i := 2) 51 (.int .i64 2) rfl rfl (by kernel_rfl) (by kernel_rfl) (by kernel_rfl) (fun _ _ _ h => h) (Or.inl ⟨by rfl, fun u _ => ?_⟩) ?_
      · go_simp <;> first | rfl | decide | kernel_rfl
      try simp only [Act.put, List.setIfInBounds_toArray, List.set_cons_zero, List.set_cons_succ]
      refine wpAnyL_pureD (i := 3) 52 (.int .u64 4) rfl rfl (by kernel_rfl) (by kernel_rfl) (by kernel_rfl) (fun _ _ _ h => h) (Or.inl ⟨by rfl, fun u _ => ?_⟩) ?_
      · go_simp <;> first | rfl | decide | kernel_rfl
      try simp only [Act.put, List.setIfInBounds_toArray, List.set_cons_zero, List.set_cons_succ]
      refine wpAnyL_pureD (i := 4) 53 (.int .u64 5) rfl rfl (by kernel_rfl) (by kernel_rfl) (by kernel_rfl) (fun _ _ _ h => h) (Or.inl ⟨by rfl, fun u _ => ?_⟩) ?_
      · go_simp <;> first | rfl | decide | kernel_rfl
      try simp only [Act.put, List.setIfInBounds_toArray, List.set_cons_zero, List.set_cons_succ]
      refine wpAnyL_pureD (i := 5) 54 (.pointer (some ⟨w.heap.size, 1, none⟩)) rfl rfl (by kernel_rfl) (by kernel_rfl) (by kernel_rfl) (fun _ _ _ h => h) (Or.inl ⟨by rfl, fun u _ => ?_⟩) ?_
      · go_simp <;> first | rfl | decide | kernel_rfl
      try simp only [Act.put, List.setIfInBounds_toArray, List.set_cons_zero, List.set_cons_succ]
      refine wpAnyL_takeD (i := 6) 55 (.int .u64 1) rfl rfl (by kernel_rfl) (by kernel_rfl) (by kernel_rfl) (by kernel_rfl) (by kernel_rfl) (fun _ _ _ h => h) hj0 (Or.inl ⟨by rfl, fun u hu => ?_⟩) ?_
      · obtain ⟨t0, t1⟩ := HF.out u hu
        go_simp
      try simp only [Act.put, List.setIfInBounds_toArray, List.set_cons_zero, List.set_cons_succ]
      refine wpAnyL_pureD (i := 7) 56 (.int .i64 0) rfl rfl (by kernel_rfl) (by kernel_rfl) (by kernel_rfl) (fun _ _ _ h => h) (Or.inl ⟨by rfl, fun u _ => ?_⟩) ?_
      · go_simp <;> first | rfl | decide | kernel_rfl
      try simp only [Act.put, List.setIfInBounds_toArray, List.set_cons_zero, List.set_cons_succ]
      refine wpAnyL_pureD (i := 8) 57 (.int .i64 1) rfl rfl (by kernel_rfl) (by kernel_rfl) (by kernel_rfl) (fun _ _ _ h => h) (Or.inl ⟨by rfl, fun u _ => ?_⟩) ?_
      · go_simp <;> first | rfl | decide | kernel_rfl
      try simp only [Act.put, List.setIfInBounds_toArray, List.set_cons_zero, List.set_cons_succ]
      refine wpAnyL_pureD (i := 9) 58 (.int .u64 1) rfl rfl (by kernel_rfl) (by kernel_rfl) (by kernel_rfl) (fun _ _ _ h => h) (Or.inl ⟨by rfl, fun u _ => ?_⟩) ?_
      · go_simp <;> first | rfl | decide | kernel_rfl
      try simp only [Act.put, List.setIfInBounds_toArray, List.set_cons_zero, List.set_cons_succ]
      refine wpAnyL_pureD (i := 10) 59 (.int .i64 2) rfl rfl (by kernel_rfl) (by kernel_rfl) (by kernel_rfl) (fun _ _ _ h => h) (Or.inl ⟨by rfl, fun u _ => ?_⟩) ?_
      · go_simp <;> first | rfl | decide | kernel_rfl
      try simp only [Act.put, List.setIfInBounds_toArray, List.set_cons_zero, List.set_cons_succ]
      refine wpAnyL_pureD (i := 11) 60 (.int .u64 4) rfl rfl (by kernel_rfl) (by kernel_rfl) (by kernel_rfl) (fun _ _ _ h => h) (Or.inl ⟨by rfl, fun u _ => ?_⟩) ?_
      · go_simp <;> first | rfl | decide | kernel_rfl
      try simp only [Act.put, List.setIfInBounds_toArray, List.set_cons_zero, List.set_cons_succ]
      refine wpAnyL_pureD (i := 12) 61 (.int .u64 5) rfl rfl (by kernel_rfl) (by kernel_rfl) (by kernel_rfl) (fun _ _ _ h => h) (Or.inl ⟨by rfl, fun u _ => ?_⟩) ?_
      · go_simp <;> first | rfl | decide | kernel_rfl
      try simp only [Act.put, List.setIfInBounds_toArray, List.set_cons_zero, List.set_cons_succ]
      refine wpAnyL_pureD (i := 13) 62 (.agg #[.int .u64 5, .int .u64 5]) rfl rfl (by kernel_rfl) (by kernel_rfl) (by kernel_rfl) (fun _ _ _ h => h) (Or.inl ⟨by rfl, fun u _ => ?_⟩) ?_
      · go_simp <;> first | rfl | decide | kernel_rfl
      try simp only [Act.put, List.setIfInBounds_toArray, List.set_cons_zero, List.set_cons_succ]
      refine wpAnyL_one (i := 14) (by kernel_rfl) rfl (fun K hK => ?_)
      go_simp
      refine hK.out _ _ (fun _ _ => (((Below.refl _ _).alloc (Nat.le_refl _) _).drew)) ?_
      clear hK K
      try simp only [Act.put, List.setIfInBounds_toArray, List.set_cons_zero, List.set_cons_succ]
      refine wpAnyL_one (i := 15) (by kernel_rfl) rfl (fun K hK => ?_)
      go_simp
      obtain ⟨D, hD⟩ : ∃ D, D = (A.alloc (Obj.cells #[.int .u64 5, .int .u64 5] 136)).drew := ⟨_, rfl⟩
      have hdb : Blk D A.heap.size 136 #[.int .u64 5, .int .u64 5] := by rw [hD]; exact Blk.new _ _ _
      have hdl : Below A.heap.size A D := by rw [hD]; exact ((Below.refl _ _).alloc (Nat.le_refl _) _).drew
      rw [← hD]
      refine hK.out _ _ (fun h => absurd (by decide) h) ?_
      clear hK K hD hj0 HF
      try simp only [Act.put, List.setIfInBounds_toArray, List.set_cons_zero, List.set_cons_succ]
      refine wpAnyL_done (by kernel_rfl) ?_ _
      try simp only [Act.put, List.setIfInBounds_toArray, List.set_cons_zero, List.set_cons_succ]
      have HDB := Lib.hid hdb
      have HDS := Lib.hid (HSA.out.keep hdl)
      have HDK := Lib.hid (HKA.out.trans (KW.below hdl))
      have d0 : D.cell? ⟨b5, 0, none⟩ = some u0 := HDS.out.k5.cell 0
      have d1 : D.cell? ⟨A.heap.size, 0, none⟩ = some (.int .u64 5) := HDB.out.cell 0
      have d2 : D.cell? ⟨A.heap.size, 1, none⟩ = some (.int .u64 5) := HDB.out.cell 1
      have HDX := Lib.hid (HBX.out.below hdl HBX.out.lt)
      have HDP := Lib.hid (HPK.out.below hdl HPK.out.lt)
      have hdz : base ≤ D.heap.size := HDS.out.lb
      clear hdb hdl z0 z1 z2
      go_wp2
      have HF : Hid (∀ u, Below D.heap.size D u → u.cell? ⟨b6, 0, none⟩ = some (.func (.func 106) #[] #[.pointer (some ⟨b3, 0, none⟩), .pointer (some ⟨b5, 0, none⟩), .pointer (some ⟨b6, 0, none⟩)]) ∧ u.cell? ⟨A.heap.size, 0, none⟩ = some (.int .u64 5) ∧ u.cell? ⟨A.heap.size, 1, none⟩ = some (.int .u64 5)) := Lib.hid (fun u hu => ⟨(HDS.out.k6.below hu HDS.out.k6.lt).cell 0, (HDB.out.below hu HDB.out.lt).cell 0, (HDB.out.below hu HDB.out.lt).cell 1⟩)
      have hj0 : Below D.heap.size D D.drew := (Below.refl _ _).drew
      refine wp_region_late (S := fun u => Below D.heap.size D u) (X := [8]) (by kernel_rfl) ?_
      refine wpAnyL_takeD (i := 0) 75 (.func (.func 106) #[] #[.pointer (some ⟨b3, 0, none⟩), .pointer (some ⟨b5, 0, none⟩), .pointer (some ⟨b6, 0, none⟩)]) rfl rfl (by kernel_rfl) (by kernel_rfl) (by kernel_rfl) (by kernel_rfl) (by kernel_rfl) (fun _ _ _ h => h) hj0 (Or.inl ⟨by rfl, fun u hu => ?_⟩) ?_
      · obtain ⟨t0, t1, t2⟩ := HF.out u hu
        go_simp
      try simp only [Act.put, List.setIfInBounds_toArray, List.set_cons_zero, List.set_cons_succ]
      refine wpAnyL_pureD (i := 1) 76 (.int .i64 0) rfl rfl (by kernel_rfl) (by kernel_rfl) (by kernel_rfl) (fun _ _ _ h => h) (Or.inl ⟨by rfl, fun u _ => ?_⟩) ?_
      · go_simp <;> first | rfl | decide | kernel_rfl
      try simp only [Act.put, List.setIfInBounds_toArray, List.set_cons_zero, List.set_cons_succ]
      refine wpAnyL_pureD (i := 2) 77 (.int .i64 2) rfl rfl (by kernel_rfl) (by kernel_rfl) (by kernel_rfl) (fun _ _ _ h => h) (Or.inl ⟨by rfl, fun u _ => ?_⟩) ?_
      · go_simp <;> first | rfl | decide | kernel_rfl
      try simp only [Act.put, List.setIfInBounds_toArray, List.set_cons_zero, List.set_cons_succ]
      refine wpAnyL_pureD (i := 3) 78 (.int .u64 2) rfl rfl (by kernel_rfl) (by kernel_rfl) (by kernel_rfl) (fun _ _ _ h => h) (Or.inl ⟨by rfl, fun u _ => ?_⟩) ?_
      · go_simp <;> first | rfl | decide | kernel_rfl
      try simp only [Act.put, List.setIfInBounds_toArray, List.set_cons_zero, List.set_cons_succ]
      refine wpAnyL_pureD (i := 4) 79 (.int .i64 2) rfl rfl (by kernel_rfl) (by kernel_rfl) (by kernel_rfl) (fun _ _ _ h => h) (Or.inl ⟨by rfl, fun u _ => ?_⟩) ?_
      · go_simp <;> first | rfl | decide | kernel_rfl
      try simp only [Act.put, List.setIfInBounds_toArray, List.set_cons_zero, List.set_cons_succ]
      refine wpAnyL_pureD (i := 5) 80 (.int .u64 4) rfl rfl (by kernel_rfl) (by kernel_rfl) (by kernel_rfl) (fun _ _ _ h => h) (Or.inl ⟨by rfl, fun u _ => ?_⟩) ?_
      · go_simp <;> first | rfl | decide | kernel_rfl
      try simp only [Act.put, List.setIfInBounds_toArray, List.set_cons_zero, List.set_cons_succ]
      refine wpAnyL_pureD (i := 6) 81 (.int .u64 6) rfl rfl (by kernel_rfl) (by kernel_rfl) (by kernel_rfl) (fun _ _ _ h => h) (Or.inl ⟨by rfl, fun u _ => ?_⟩) ?_
      · go_simp <;> first | rfl | decide | kernel_rfl
      try simp only [Act.put, List.setIfInBounds_toArray, List.set_cons_zero, List.set_cons_succ]
      refine wpAnyL_takeD (i := 7) 82 (.agg #[.int .u64 5, .int .u64 5]) rfl rfl (by kernel_rfl) (by kernel_rfl) (by kernel_rfl) (by kernel_rfl) (by kernel_rfl) (fun _ _ _ h => h) hj0 (Or.inl ⟨by rfl, fun u hu => ?_⟩) ?_
      · obtain ⟨t0, t1, t2⟩ := HF.out u hu
        go_simp
      try simp only [Act.put, List.setIfInBounds_toArray, List.set_cons_zero, List.set_cons_succ]
      refine wpAnyL_one (i := 8) (by kernel_rfl) rfl (fun K hK => ?_)
      go_simp
      refine (walk_0_2_6_5_5 b3 b5 b6 base pb' po' cp D.drew _ _ _ (by simp [addT_0_1_2_1_1]; omega) (HDS.out.keep (Below.refl _ _).drew)).mono ?_
      rintro e' Z ⟨⟨r, rfl⟩, u1, hs9, hk9⟩
      show K _ _
      refine hK.out _ _ (fun h => absurd (by decide) h) ?_
      clear hK K
      try simp only [Act.put, List.setIfInBounds_toArray, List.set_cons_zero, List.set_cons_succ]
      refine wpAnyL_done (by kernel_rfl) ?_ _
      try simp only [Act.put, List.setIfInBounds_toArray, List.set_cons_zero, List.set_cons_succ]
      have HPS := Lib.hid hs9
      have hkd : KW b5 D u0 Z u1 := (KW.below (Below.refl _ _).drew).trans hk9
      have HPQ := Lib.hid (HDK.out.trans hkd)
      have HBX := Lib.hid (HDX.out.kw hkd HNB.out (fun e => HNO2.out e))
      have HPK := Lib.hid (HDP.out.kw hkd HUB.out HUO.out)
      have z0 : Z.cell? ⟨U.heap.size, 0, none⟩ = some (.int .i64 1) := HPK.out.cell 0
      have z1 : Z.cell? ⟨U.heap.size, 1, none⟩ = some (.int .i64 2) := HPK.out.cell 1
      have z2 : Z.cell? ⟨w.heap.size, 0, none⟩ = some (.int .u64 1) := HBX.out.cell 0
      clear hs9 hk9 hkd d0 d1 d2 hdz hj0 HF
      go_wp2
      rw [rounds_succ]
      go_wp2
      rw [rounds_succ]
      go_wp2
      go_roundw
      case rel => exact ⟨3, _, u1, by omega, rfl, rfl, by first | exact HPS.out | simpa [addT_0_1_2_1_1, flat, encT, Nat.add_assoc] using HPS.out, HPQ.out⟩
      case measure => simp [intOf]
    · obtain rfl : z = 3 := hz
      have HSE := Lib.hid hst
      have HKE := Lib.hid hkw
      clear hst hkw
      go_wp2
      go_end0
      exact ⟨⟨_, rfl⟩, u0, HSE.out, (KW.below HB0.out).trans HKE.out⟩
def addT_0_1_6_6_2 : Nat → List (Int × Int)
  | 0 => []
  | 1 => [(7, 2)]
  | 2 => [(7, 2)]
  | _ => [(7, 2)]
set_option maxHeartbeats 12800000 in
set_option maxRecDepth 100000 in
theorem walk_0_1_6_6_2 : Walks 10 0 1 6 6 2 [(7, 2)] := by
  intro b3 b5 b6 base pb po cp w u n xs hn h
  obtain ⟨i0, hi0, hz0, hz1, hz2⟩ := info_parts infoT
  have HST := Lib.hid h
  obtain ⟨W0, hW0⟩ : ∃ W0, W0 = w.alloc (Obj.cells #[.int .u64 6, .int .u64 2] 136) := ⟨_, rfl⟩
  have hx0 : Blk W0 w.heap.size 136 #[.int .u64 6, .int .u64 2] := by rw [hW0]; exact Blk.new _ _ _
  have hb0 : Below w.heap.size w W0 := by rw [hW0]; exact (Below.refl _ _).alloc (Nat.le_refl _) _
  have hz : W0.heap.size = w.heap.size + 1 := by rw [hW0]; simp
  have HX0 := Lib.hid hx0
  have HB0 := Lib.hid hb0
  have HZ0 := Lib.hid hz
  have HS0 := Lib.hid (h.keep hb0)
  have HNB : Hid (w.heap.size ≠ b5) := Lib.hid (by have := h.l5; have := h.lb; omega)
  have HNO : Hid (some w.heap.size ≠ u.ownBlock) := Lib.hid (fun e => by have := (h.own.lt _ e.symm).2; omega)
  have c3 : (w.alloc (Obj.cells #[.int .u64 6, .int .u64 2] 136)).cell? ⟨b3, 0, none⟩ = some (.slice (some ⟨pb, po, none⟩) 3 cp) := by rw [← hW0]; exact HS0.out.k3.cell 0
  clear h hx0 hb0 hz
  go_enter Try.func106, Try.ntmps106
  go_wp2_with fail
  rw [← hW0]
  clear hW0
  clear c3
  go_loopw [19] (fun x wr => ∃ k : Nat, ∃ z : Int, ∃ u', k ≤ 3 ∧ x = .int .i64 z ∧ z = k ∧ StW b3 b5 b6 base pb po cp wr u' (n + (addT_0_1_6_6_2 k).length) (xs ++ flat encT (addT_0_1_6_6_2 k)) ∧ KW b5 W0 u wr u') (fun x _ => 3 - (intOf x).toNat)
  case atStart => exact ⟨0, 0, u, by omega, rfl, rfl, by simpa [addT_0_1_6_6_2, flat] using HS0.out, KW.refl _ _ _⟩
  case round =>
    obtain ⟨k, z, u0, hk, rfl, hz, hst, hkw⟩ := hrel
    generalize wr = U at *
    rcases (show k = 0 ∨ k = 1 ∨ k = 2 ∨ k = 3 by omega) with rfl | rfl | rfl | rfl
    · obtain rfl : z = 0 := hz
      obtain ⟨pb', po', hpe, q1, x1, x2⟩ := hst.kp.two 0 (by decide)
      obtain ⟨rfl, rfl⟩ : pb' = pb ∧ po' = po := by
        injection hpe with h1
        injection h1 with h2 h3
        exact ⟨h2.symm, h3.symm⟩
      have y1 : U.cell? ⟨pb', po', none⟩ = some (.int .i64 0) := x1
      have y2 : U.cell? ⟨pb', po' + 0 + 1, none⟩ = some (.int .i64 1) := x2
      have y3 : U.cell? ⟨pb', po' + 1, none⟩ = some (.int .i64 1) := x2
      obtain ⟨A, hA⟩ : ∃ A, A = U.alloc (Obj.cells #[.int .i64 0, .int .i64 1] 85) := ⟨_, rfl⟩
      have hb : Below U.heap.size U A := by rw [hA]; exact (Below.refl _ _).alloc (Nat.le_refl _) _
      have HPK : Hid (Blk A U.heap.size 85 #[.int .i64 0, .int .i64 1]) := Lib.hid (by rw [hA]; exact Blk.new _ _ _)
      have HSA := Lib.hid (hst.keep hb)
      have HKA := Lib.hid (hkw.trans (KW.below hb))
      have HNO2 : Hid (some w.heap.size ≠ u0.ownBlock) := Lib.hid (fun e => by
        rcases hkw.own with h4 | ⟨k, h4, h5⟩
        · exact HNO.out (e.trans h4)
        · rw [h4] at e; cases e; have := HZ0.out; omega)
      have HUL : Hid (base ≤ U.heap.size) := Lib.hid hst.lb
      have HUO : Hid (some U.heap.size ≠ u0.ownBlock) := Lib.hid (fun e => by have := (hst.own.lt _ e.symm).2; omega)
      have HUB : Hid (U.heap.size ≠ b5) := Lib.hid (by have := hst.l5; have := hst.lb; omega)
      have HBX := Lib.hid ((HX0.out.kw hkw HNB.out HNO.out).below hb ((HX0.out.kw hkw HNB.out HNO.out).lt))
      have z0 : A.cell? ⟨U.heap.size, 0, none⟩ = some (.int .i64 0) := HPK.out.cell 0
      have z1 : A.cell? ⟨U.heap.size, 1, none⟩ = some (.int .i64 1) := HPK.out.cell 1
      have z2 : A.cell? ⟨w.heap.size, 0, none⟩ = some (.int .u64 6) := HBX.out.cell 0
      clear hpe x1 x2 hst hkw hb
      go_wp2_with fail
      try rw [← hA]
      clear hA y1 y2 y3
      refine wp_loop_rounds 3 ?_
      have ix0 : ∀ w, (Instr.index 85 (.agg #[.int .i64 0, .int .i64 1]) (.int .i64 0)).run Try.prog w = .ok (.int .i64 0) w := fun _ => by kernel_rfl
      have ix1 : ∀ w, (Instr.index 85 (.agg #[.int .i64 0, .int .i64 1]) (.int .i64 1)).run Try.prog w = .ok (.int .i64 1) w := fun _ => by kernel_rfl
      rw [rounds_succ]
      go_wp2
      rw [rounds_succ]
      go_wp2
      have HF : Hid (∀ u, Below A.heap.size A u → u.cell? ⟨w.heap.size, 0, none⟩ = some (.int .u64 6) ∧ u.cell? ⟨w.heap.size, 1, none⟩ = some (.int .u64 2)) := Lib.hid (fun u hu => ⟨(HBX.out.below hu HBX.out.lt).cell 0, (HBX.out.below hu HBX.out.lt).cell 1⟩)
      have hj0 : Below A.heap.size A A.drew := (Below.refl _ _).drew
      refine wp_region_late (S := fun u => Below A.heap.size A u) (X := [15]) (by kernel_rfl) ?_
      refine wpAnyL_pureD (i := 0) 49 (.pointer (some ⟨w.heap.size, 0, none⟩)) rfl rfl (by kernel_rfl) (by kernel_rfl) (by kernel_rfl) (fun _ _ _ h => h) (Or.inl ⟨by rfl, fun u _ => ?_⟩) ?_
      · go_simp <;> first | rfl | decide | kernel_rfl
      try simp only [Act.put, List.setIfInBounds_toArray, List.set_cons_zero, List.set_cons_succ]
      refine wpAnyL_takeD (i := 1) 50 (.int .u64 6) rfl rfl (by kernel_rfl) (by kernel_rfl) (by kernel_rfl) (by kernel_rfl) (by kernel_rfl) (fun _ _ _ h => h) hj0 (Or.inl ⟨by rfl, fun u hu => ?_⟩) ?_
      · obtain ⟨t0, t1⟩ := HF.out u hu
        go_simp
      try simp only [Act.put, List.setIfInBounds_toArray, List.set_cons_zero, List.set_cons_succ]
      refine wpAnyL_pureD (i := 2) 51 (.int .i64 0) rfl rfl (by kernel_rfl) (by kernel_rfl) (by kernel_rfl) (fun _ _ _ h => h) (Or.inl ⟨by rfl, fun u _ => ?_⟩) ?_
      · go_simp <;> first | rfl | decide | kernel_rfl
      try simp only [Act.put, List.setIfInBounds_toArray, List.set_cons_zero, List.set_cons_succ]
      refine wpAnyL_pureD (i := 3) 52 (.int .u64 1) rfl rfl (by kernel_rfl) (by kernel_rfl) (by kernel_rfl) (fun _ _ _ h => h) (Or.inl ⟨by rfl, fun u _ => ?_⟩) ?_
      · go_simp <;> first | rfl | decide | kernel_rfl
      try simp only [Act.put, List.setIfInBounds_toArray, List.set_cons_zero, List.set_cons_succ]
      refine wpAnyL_pureD (i := 4) 53 (.int .u64 7) rfl rfl (by kernel_rfl) (by kernel_rfl) (by kernel_rfl) (fun _ _ _ h => h) (Or.inl ⟨by rfl, fun u _ => ?_⟩) ?_
      · go_simp <;> first | rfl | decide | kernel_rfl
      try simp only [Act.put, List.setIfInBounds_toArray, List.set_cons_zero, List.set_cons_succ]
      refine wpAnyL_pureD (i := 5) 54 (.pointer (some ⟨w.heap.size, 1, none⟩)) rfl rfl (by kernel_rfl) (by kernel_rfl) (by kernel_rfl) (fun _ _ _ h => h) (Or.inl ⟨by rfl, fun u _ => ?_⟩) ?_
      · go_simp <;> first | rfl | decide | kernel_rfl
      try simp only [Act.put, List.setIfInBounds_toArray, List.set_cons_zero, List.set_cons_succ]
      refine wpAnyL_takeD (i := 6) 55 (.int .u64 2) rfl rfl (by kernel_rfl) (by kernel_rfl) (by kernel_rfl) (by kernel_rfl) (by kernel_rfl) (fun _ _ _ h => h) hj0 (Or.inl ⟨by rfl, fun u hu => ?_⟩) ?_
      · obtain ⟨t0, t1⟩ := HF.out u hu
        go_simp
      try simp only [Act.put, List.setIfInBounds_toArray, List.set_cons_zero, List.set_cons_succ]
      refine wpAnyL_pureD (i := 7) 56 (.int .i64 1) rfl rfl (by kernel_rfl) (by kernel_rfl) (by kernel_rfl) (fun _ _ _ h => h) (Or.inl ⟨by rfl, fun u _ => ?_⟩) ?_
      · go_simp <;> first | rfl | decide | kernel_rfl
      try simp only [Act.put, List.setIfInBounds_toArray, List.set_cons_zero, List.set_cons_succ]
      refine wpAnyL_pureD (i := 8) 57 (.int .i64 0) rfl rfl (by kernel_rfl) (by kernel_rfl) (by kernel_rfl) (fun _ _ _ h => h) (Or.inl ⟨by rfl, fun u _ => ?_⟩) ?_
      · go_simp <;> first | rfl | decide | kernel_rfl
      try simp only [Act.put, List.setIfInBounds_toArray, List.set_cons_zero, List.set_cons_succ]
      refine wpAnyL_pureD (i := 9) 58 (.int .u64 0) rfl rfl (by kernel_rfl) (by kernel_rfl) (by kernel_rfl) (fun _ _ _ h => h) (Or.inl ⟨by rfl, fun u _ => ?_⟩) ?_
      · go_simp <;> first | rfl | decide | kernel_rfl
      try simp only [Act.put, List.setIfInBounds_toArray, List.set_cons_zero, List.set_cons_succ]
      refine wpAnyL_pureD (i := 10) 59 (.int .i64 0) rfl rfl (by kernel_rfl) (by kernel_rfl) (by kernel_rfl) (fun _ _ _ h => h) (Or.inl ⟨by rfl, fun u _ => ?_⟩) ?_
      · go_simp <;> first | rfl | decide | kernel_rfl
      try simp only [Act.put, List.setIfInBounds_toArray, List.set_cons_zero, List.set_cons_succ]
      refine wpAnyL_pureD (i := 11) 60 (.int .u64 0) rfl rfl (by kernel_rfl) (by kernel_rfl) (by kernel_rfl) (fun _ _ _ h => h) (Or.inl ⟨by rfl, fun u _ => ?_⟩) ?_
      · go_simp <;> first | rfl | decide | kernel_rfl
      try simp only [Act.put, List.setIfInBounds_toArray, List.set_cons_zero, List.set_cons_succ]
      refine wpAnyL_pureD (i := 12) 61 (.int .u64 2) rfl rfl (by kernel_rfl) (by kernel_rfl) (by kernel_rfl) (fun _ _ _ h => h) (Or.inl ⟨by rfl, fun u _ => ?_⟩) ?_
      · go_simp <;> first | rfl | decide | kernel_rfl
      try simp only [Act.put, List.setIfInBounds_toArray, List.set_cons_zero, List.set_cons_succ]
      refine wpAnyL_pureD (i := 13) 62 (.agg #[.int .u64 7, .int .u64 2]) rfl rfl (by kernel_rfl) (by kernel_rfl) (by kernel_rfl) (fun _ _ _ h => h) (Or.inl ⟨by rfl, fun u _ => ?_⟩) ?_
      · go_simp <;> first | rfl | decide | kernel_rfl
      try simp only [Act.put, List.setIfInBounds_toArray, List.set_cons_zero, List.set_cons_succ]
      refine wpAnyL_one (i := 14) (by kernel_rfl) rfl (fun K hK => ?_)
      go_simp
      refine hK.out _ _ (fun _ _ => (((Below.refl _ _).alloc (Nat.le_refl _) _).drew)) ?_
      clear hK K
      try simp only [Act.put, List.setIfInBounds_toArray, List.set_cons_zero, List.set_cons_succ]
      refine wpAnyL_one (i := 15) (by kernel_rfl) rfl (fun K hK => ?_)
      go_simp
      obtain ⟨D, hD⟩ : ∃ D, D = (A.alloc (Obj.cells #[.int .u64 7, .int .u64 2] 136)).drew := ⟨_, rfl⟩
      have hdb : Blk D A.heap.size 136 #[.int .u64 7, .int .u64 2] := by rw [hD]; exact Blk.new _ _ _
      have hdl : Below A.heap.size A D := by rw [hD]; exact ((Below.refl _ _).alloc (Nat.le_refl _) _).drew
      rw [← hD]
      refine hK.out _ _ (fun h => absurd (by decide) h) ?_
      clear hK K hD hj0 HF
      try simp only [Act.put, List.setIfInBounds_toArray, List.set_cons_zero, List.set_cons_succ]
      refine wpAnyL_done (by kernel_rfl) ?_ _
      try simp only [Act.put, List.setIfInBounds_toArray, List.set_cons_zero, List.set_cons_succ]
      have HDB := Lib.hid hdb
      have HDS := Lib.hid (HSA.out.keep hdl)
      have HDK := Lib.hid (HKA.out.trans (KW.below hdl))
      have d0 : D.cell? ⟨b5, 0, none⟩ = some u0 := HDS.out.k5.cell 0
      have d1 : D.cell? ⟨A.heap.size, 0, none⟩ = some (.int .u64 7) := HDB.out.cell 0
      have d2 : D.cell? ⟨A.heap.size, 1, none⟩ = some (.int .u64 2) := HDB.out.cell 1
      have HDX := Lib.hid (HBX.out.below hdl HBX.out.lt)
      have HDP := Lib.hid (HPK.out.below hdl HPK.out.lt)
      have hdz : base ≤ D.heap.size := HDS.out.lb
      clear hdb hdl z0 z1 z2
      go_wp2_with (at_builtin; refine wpList_append_own_at _ rfl _ _ 115 rfl base 136 i0 (.agg #[.int .u64 0, .int .u64 0]) 2 16 Try.underlying115 hi0 hz0 hz1 hz2 rfl (by decide) _ _ _ rfl (HDS.out.own.alloc _) ⟨D.heap.size, 0, none⟩ 1 1 [.int .u64 7, .int .u64 2] rfl rfl (lit_row _ _ _) (by simp [Value.oneCell']) (by unfold maxLen; simp [addT_0_1_6_6_2]; omega) (by simp [addT_0_1_6_6_2]; omega) (by simp; omega) ?_; intro v1 w9 hown hgrow hnil hat; obtain ⟨g9, c9, rfl⟩ := own_succ hown; have hvb9 := (HDS.out.k5.alloc (Obj.cells #[.int .u64 7, .int .u64 2] 136)).grown hgrow (HDS.out.far HDS.out.l5); have hc1 := hvb9.cell 0; have hf1 := hvb9.frozen 0; have HW9 := Lib.hid hown; have HGW := Lib.hid hgrow; have HAT := Lib.hid hat; clear hown hgrow hnil hat)
      obtain ⟨hps, hpk⟩ := StW.push HDS.out HW9.out HGW.out HAT.out
      have HPS := Lib.hid hps
      have HPQ := Lib.hid (HDK.out.trans hpk)
      clear hps hpk
      rw [rounds_succ]
      go_wp2
      go_roundw
      case rel => exact ⟨1, _, _, by omega, rfl, rfl, by first | exact HPS.out | simpa [addT_0_1_6_6_2, flat, encT, Nat.add_assoc] using HPS.out, HPQ.out⟩
      case measure => simp [intOf]
    · obtain rfl : z = 1 := hz
      obtain ⟨pb', po', hpe, q1, x1, x2⟩ := hst.kp.two 1 (by decide)
      obtain ⟨rfl, rfl⟩ : pb' = pb ∧ po' = po := by
        injection hpe with h1
        injection h1 with h2 h3
        exact ⟨h2.symm, h3.symm⟩
      have y1 : U.cell? ⟨pb', po' + 2, none⟩ = some (.int .i64 0) := x1
      have y2 : U.cell? ⟨pb', po' + 2 + 1, none⟩ = some (.int .i64 2) := x2
      have y3 : U.cell? ⟨pb', po' + 3, none⟩ = some (.int .i64 2) := x2
      obtain ⟨A, hA⟩ : ∃ A, A = U.alloc (Obj.cells #[.int .i64 0, .int .i64 2] 85) := ⟨_, rfl⟩
      have hb : Below U.heap.size U A := by rw [hA]; exact (Below.refl _ _).alloc (Nat.le_refl _) _
      have HPK : Hid (Blk A U.heap.size 85 #[.int .i64 0, .int .i64 2]) := Lib.hid (by rw [hA]; exact Blk.new _ _ _)
      have HSA := Lib.hid (hst.keep hb)
      have HKA := Lib.hid (hkw.trans (KW.below hb))
      have HNO2 : Hid (some w.heap.size ≠ u0.ownBlock) := Lib.hid (fun e => by
        rcases hkw.own with h4 | ⟨k, h4, h5⟩
        · exact HNO.out (e.trans h4)
        · rw [h4] at e; cases e; have := HZ0.out; omega)
      have HUL : Hid (base ≤ U.heap.size) := Lib.hid hst.lb
      have HUO : Hid (some U.heap.size ≠ u0.ownBlock) := Lib.hid (fun e => by have := (hst.own.lt _ e.symm).2; omega)
      have HUB : Hid (U.heap.size ≠ b5) := Lib.hid (by have := hst.l5; have := hst.lb; omega)
      have HBX := Lib.hid ((HX0.out.kw hkw HNB.out HNO.out).below hb ((HX0.out.kw hkw HNB.out HNO.out).lt))
      have z0 : A.cell? ⟨U.heap.size, 0, none⟩ = some (.int .i64 0) := HPK.out.cell 0
      have z1 : A.cell? ⟨U.heap.size, 1, none⟩ = some (.int .i64 2) := HPK.out.cell 1
      have z2 : A.cell? ⟨w.heap.size, 0, none⟩ = some (.int .u64 6) := HBX.out.cell 0
      clear hpe x1 x2 hst hkw hb
      go_wp2_with fail
      try rw [← hA]
      clear hA y1 y2 y3
      refine wp_loop_rounds 3 ?_
      have ix0 : ∀ w, (Instr.index 85 (.agg #[.int .i64 0, .int .i64 2]) (.int .i64 0)).run Try.prog w = .ok (.int .i64 0) w := fun _ => by kernel_rfl
      have ix1 : ∀ w, (Instr.index 85 (.agg #[.int .i64 0, .int .i64 2]) (.int .i64 1)).run Try.prog w = .ok (.int .i64 2) w := fun _ => by kernel_rfl
      rw [rounds_succ]
      go_wp2
      rw [rounds_succ]
      go_wp2
      rw [rounds_succ]
      go_wp2
      go_roundw
      case rel => exact ⟨2, _, u0, by omega, rfl, rfl, by first | exact HSA.out | simpa [addT_0_1_6_6_2, flat, encT, Nat.add_assoc] using HSA.out, HKA.out⟩
      case measure => simp [intOf]
    · obtain rfl : z = 2 := hz
      obtain ⟨pb', po', hpe, q1, x1, x2⟩ := hst.kp.two 2 (by decide)
      obtain ⟨rfl, rfl⟩ : pb' = pb ∧ po' = po := by
        injection hpe with h1
        injection h1 with h2 h3
        exact ⟨h2.symm, h3.symm⟩
      have y1 : U.cell? ⟨pb', po' + 4, none⟩ = some (.int .i64 1) := x1
      have y2 : U.cell? ⟨pb', po' + 4 + 1, none⟩ = some (.int .i64 2) := x2
      have y3 : U.cell? ⟨pb', po' + 5, none⟩ = some (.int .i64 2) := x2
      obtain ⟨A, hA⟩ : ∃ A, A = U.alloc (Obj.cells #[.int .i64 1, .int .i64 2] 85) := ⟨_, rfl⟩
      have hb : Below U.heap.size U A := by rw [hA]; exact (Below.refl _ _).alloc (Nat.le_refl _) _
      have HPK : Hid (Blk A U.heap.size 85 #[.int .i64 1, .int .i64 2]) := Lib.hid (by rw [hA]; exact Blk.new _ _ _)
      have HSA := Lib.hid (hst.keep hb)
      have HKA := Lib.hid (hkw.trans (KW.below hb))
      have HNO2 : Hid (some w.heap.size ≠ u0.ownBlock) := Lib.hid (fun e => by
        rcases hkw.own with h4 | ⟨k, h4, h5⟩
        · exact HNO.out (e.trans h4)
        · rw [h4] at e; cases e; have := HZ0.out; omega)
      have HUL : Hid (base ≤ U.heap.size) := Lib.hid hst.lb
      have HUO : Hid (some U.heap.size ≠ u0.ownBlock) := Lib.hid (fun e => by have := (hst.own.lt _ e.symm).2; omega)
      have HUB : Hid (U.heap.size ≠ b5) := Lib.hid (by have := hst.l5; have := hst.lb; omega)
      have HBX := Lib.hid ((HX0.out.kw hkw HNB.out HNO.out).below hb ((HX0.out.kw hkw HNB.out HNO.out).lt))
      have z0 : A.cell? ⟨U.heap.size, 0, none⟩ = some (.int .i64 1) := HPK.out.cell 0
      have z1 : A.cell? ⟨U.heap.size, 1, none⟩ = some (.int .i64 2) := HPK.out.cell 1
      have z2 : A.cell? ⟨w.heap.size, 0, none⟩ = some (.int .u64 6) := HBX.out.cell 0
      clear hpe x1 x2 hst hkw hb
      go_wp2_with fail
      try rw [← hA]
      clear hA y1 y2 y3
      refine wp_loop_rounds 3 ?_
      have ix0 : ∀ w, (Instr.index 85 (.agg #[.int .i64 1, .int .i64 2]) (.int .i64 0)).run Try.prog w = .ok (.int .i64 1) w := fun _ => by kernel_rfl
      have ix1 : ∀ w, (Instr.index 85 (.agg #[.int .i64 1, .int .i64 2]) (.int .i64 1)).run Try.prog w = .ok (.int .i64 2) w := fun _ => by kernel_rfl
      rw [rounds_succ]
      go_wp2
      rw [rounds_succ]
      go_wp2
      rw [rounds_succ]
      go_wp2
      go_roundw
      case rel => exact ⟨3, _, u0, by omega, rfl, rfl, by first | exact HSA.out | simpa [addT_0_1_6_6_2, flat, encT, Nat.add_assoc] using HSA.out, HKA.out⟩
      case measure => simp [intOf]
    · obtain rfl : z = 3 := hz
      have HSE := Lib.hid hst
      have HKE := Lib.hid hkw
      clear hst hkw
      go_wp2
      go_end0
      exact ⟨⟨_, rfl⟩, u0, HSE.out, (KW.below HB0.out).trans HKE.out⟩
def addT_0_2_4_2_2 : Nat → List (Int × Int)
  | 0 => []
  | 1 => []
  | 2 => []
  | _ => [(7, 2)]
set_option maxHeartbeats 12800000 in
set_option maxRecDepth 100000 in
theorem walk_0_2_4_2_2 : Walks 10 0 2 4 2 2 [(7, 2)] := by
  intro b3 b5 b6 base pb po cp w u n xs hn h
  obtain ⟨i0, hi0, hz0, hz1, hz2⟩ := info_parts infoT
  have HST := Lib.hid h
  obtain ⟨W0, hW0⟩ : ∃ W0, W0 = w.alloc (Obj.cells #[.int .u64 2, .int .u64 2] 136) := ⟨_, rfl⟩
  have hx0 : Blk W0 w.heap.size 136 #[.int .u64 2, .int .u64 2] := by rw [hW0]; exact Blk.new _ _ _
  have hb0 : Below w.heap.size w W0 := by rw [hW0]; exact (Below.refl _ _).alloc (Nat.le_refl _) _
  have hz : W0.heap.size = w.heap.size + 1 := by rw [hW0]; simp
  have HX0 := Lib.hid hx0
  have HB0 := Lib.hid hb0
  have HZ0 := Lib.hid hz
  have HS0 := Lib.hid (h.keep hb0)
  have HNB : Hid (w.heap.size ≠ b5) := Lib.hid (by have := h.l5; have := h.lb; omega)
  have HNO : Hid (some w.heap.size ≠ u.ownBlock) := Lib.hid (fun e => by have := (h.own.lt _ e.symm).2; omega)
  have c3 : (w.alloc (Obj.cells #[.int .u64 2, .int .u64 2] 136)).cell? ⟨b3, 0, none⟩ = some (.slice (some ⟨pb, po, none⟩) 3 cp) := by rw [← hW0]; exact HS0.out.k3.cell 0
  clear h hx0 hb0 hz
  go_enter Try.func106, Try.ntmps106
  go_wp2_with fail
  rw [← hW0]
  clear hW0
  clear c3
  go_loopw [19] (fun x wr => ∃ k : Nat, ∃ z : Int, ∃ u', k ≤ 3 ∧ x = .int .i64 z ∧ z = k ∧ StW b3 b5 b6 base pb po cp wr u' (n + (addT_0_2_4_2_2 k).length) (xs ++ flat encT (addT_0_2_4_2_2 k)) ∧ KW b5 W0 u wr u') (fun x _ => 3 - (intOf x).toNat)
  case atStart => exact ⟨0, 0, u, by omega, rfl, rfl, by simpa [addT_0_2_4_2_2, flat] using HS0.out, KW.refl _ _ _⟩
  case round =>
    obtain ⟨k, z, u0, hk, rfl, hz, hst, hkw⟩ := hrel
    generalize wr = U at *
    rcases (show k = 0 ∨ k = 1 ∨ k = 2 ∨ k = 3 by omega) with rfl | rfl | rfl | rfl
    · obtain rfl : z = 0 := hz
      obtain ⟨pb', po', hpe, q1, x1, x2⟩ := hst.kp.two 0 (by decide)
      obtain ⟨rfl, rfl⟩ : pb' = pb ∧ po' = po := by
        injection hpe with h1
        injection h1 with h2 h3
        exact ⟨h2.symm, h3.symm⟩
      have y1 : U.cell? ⟨pb', po', none⟩ = some (.int .i64 0) := x1
      have y2 : U.cell? ⟨pb', po' + 0 + 1, none⟩ = some (.int .i64 1) := x2
      have y3 : U.cell? ⟨pb', po' + 1, none⟩ = some (.int .i64 1) := x2
      obtain ⟨A, hA⟩ : ∃ A, A = U.alloc (Obj.cells #[.int .i64 0, .int .i64 1] 85) := ⟨_, rfl⟩
      have hb : Below U.heap.size U A := by rw [hA]; exact (Below.refl _ _).alloc (Nat.le_refl _) _
      have HPK : Hid (Blk A U.heap.size 85 #[.int .i64 0, .int .i64 1]) := Lib.hid (by rw [hA]; exact Blk.new _ _ _)
      have HSA := Lib.hid (hst.keep hb)
      have HKA := Lib.hid (hkw.trans (KW.below hb))
      have HNO2 : Hid (some w.heap.size ≠ u0.ownBlock) := Lib.hid (fun e => by
        rcases hkw.own with h4 | ⟨k, h4, h5⟩
        · exact HNO.out (e.trans h4)
        · rw [h4] at e; cases e; have := HZ0.out; omega)
      have HUL : Hid (base ≤ U.heap.size) := Lib.hid hst.lb
      have HUO : Hid (some U.heap.size ≠ u0.ownBlock) := Lib.hid (fun e => by have := (hst.own.lt _ e.symm).2; omega)
      have HUB : Hid (U.heap.size ≠ b5) := Lib.hid (by have := hst.l5; have := hst.lb; omega)
      have HBX := Lib.hid ((HX0.out.kw hkw HNB.out HNO.out).below hb ((HX0.out.kw hkw HNB.out HNO.out).lt))
      have z0 : A.cell? ⟨U.heap.size, 0, none⟩ = some (.int .i64 0) := HPK.out.cell 0
      have z1 : A.cell? ⟨U.heap.size, 1, none⟩ = some (.int .i64 1) := HPK.out.cell 1
      have z2 : A.cell? ⟨w.heap.size, 0, none⟩ = some (.int .u64 2) := HBX.out.cell 0
      clear hpe x1 x2 hst hkw hb
      go_wp2_with fail
      try rw [← hA]
      clear hA y1 y2 y3
      refine wp_loop_rounds 3 ?_
      have ix0 : ∀ w, (Instr.index 85 (.agg #[.int .i64 0, .int .i64 1]) (.int .i64 0)).run Try.prog w = .ok (.int .i64 0) w := fun _ => by kernel_rfl
      have ix1 : ∀ w, (Instr.index 85 (.agg #[.int .i64 0, .int .i64 1]) (.int .i64 1)).run Try.prog w = .ok (.int .i64 1) w := fun _ => by kernel_rfl
      rw [rounds_succ]
      go_wp2
      rw [rounds_succ]
      go_wp2
      rw [rounds_succ]
      go_wp2
      go_roundw
      case rel => exact ⟨1, _, u0, by omega, rfl, rfl, by first | exact HSA.out | simpa [addT_0_2_4_2_2, flat, encT, Nat.add_assoc] using HSA.out, HKA.out⟩
      case measure => simp [intOf]
    · obtain rfl : z = 1 := hz
      obtain ⟨pb', po', hpe, q1, x1, x2⟩ := hst.kp.two 1 (by decide)
      obtain ⟨rfl, rfl⟩ : pb' = pb ∧ po' = po := by
        injection hpe with h1
        injection h1 with h2 h3
        exact ⟨h2.symm, h3.symm⟩
      have y1 : U.cell? ⟨pb', po' + 2, none⟩ = some (.int .i64 0) := x1
      have y2 : U.cell? ⟨pb', po' + 2 + 1, none⟩ = some (.int .i64 2) := x2
      have y3 : U.cell? ⟨pb', po' + 3, none⟩ = some (.int .i64 2) := x2
      obtain ⟨A, hA⟩ : ∃ A, A = U.alloc (Obj.cells #[.int .i64 0, .int .i64 2] 85) := ⟨_, rfl⟩
      have hb : Below U.heap.size U A := by rw [hA]; exact (Below.refl _ _).alloc (Nat.le_refl _) _
      have HPK : Hid (Blk A U.heap.size 85 #[.int .i64 0, .int .i64 2]) := Lib.hid (by rw [hA]; exact Blk.new _ _ _)
      have HSA := Lib.hid (hst.keep hb)
      have HKA := Lib.hid (hkw.trans (KW.below hb))
      have HNO2 : Hid (some w.heap.size ≠ u0.ownBlock) := Lib.hid (fun e => by
        rcases hkw.own with h4 | ⟨k, h4, h5⟩
        · exact HNO.out (e.trans h4)
        · rw [h4] at e; cases e; have := HZ0.out; omega)
      have HUL : Hid (base ≤ U.heap.size) := Lib.hid hst.lb
      have HUO : Hid (some U.heap.size ≠ u0.ownBlock) := Lib.hid (fun e => by have := (hst.own.lt _ e.symm).2; omega)
      have HUB : Hid (U.heap.size ≠ b5) := Lib.hid (by have := hst.l5; have := hst.lb; omega)
      have HBX := Lib.hid ((HX0.out.kw hkw HNB.out HNO.out).below hb ((HX0.out.kw hkw HNB.out HNO.out).lt))
      have z0 : A.cell? ⟨U.heap.size, 0, none⟩ = some (.int .i64 0) := HPK.out.cell 0
      have z1 : A.cell? ⟨U.heap.size, 1, none⟩ = some (.int .i64 2) := HPK.out.cell 1
      have z2 : A.cell? ⟨w.heap.size, 0, none⟩ = some (.int .u64 2) := HBX.out.cell 0
      clear hpe x1 x2 hst hkw hb
      go_wp2_with fail
      try rw [← hA]
      clear hA y1 y2 y3
      refine wp_loop_rounds 3 ?_
      have ix0 : ∀ w, (Instr.index 85 (.agg #[.int .i64 0, .int .i64 2]) (.int .i64 0)).run Try.prog w = .ok (.int .i64 0) w := fun _ => by kernel_rfl
      have ix1 : ∀ w, (Instr.index 85 (.agg #[.int .i64 0, .int .i64 2]) (.int .i64 1)).run Try.prog w = .ok (.int .i64 2) w := fun _ => by kernel_rfl
      rw [rounds_succ]
      go_wp2
      rw [rounds_succ]
      go_wp2
      rw [rounds_succ]
      go_wp2
      go_roundw
      case rel => exact ⟨2, _, u0, by omega, rfl, rfl, by first | exact HSA.out | simpa [addT_0_2_4_2_2, flat, encT, Nat.add_assoc] using HSA.out, HKA.out⟩
      case measure => simp [intOf]
    · obtain rfl : z = 2 := hz
      obtain ⟨pb', po', hpe, q1, x1, x2⟩ := hst.kp.two 2 (by decide)
      obtain ⟨rfl, rfl⟩ : pb' = pb ∧ po' = po := by
        injection hpe with h1
        injection h1 with h2 h3
        exact ⟨h2.symm, h3.symm⟩
      have y1 : U.cell? ⟨pb', po' + 4, none⟩ = some (.int .i64 1) := x1
      have y2 : U.cell? ⟨pb', po' + 4 + 1, none⟩ = some (.int .i64 2) := x2
      have y3 : U.cell? ⟨pb', po' + 5, none⟩ = some (.int .i64 2) := x2
      obtain ⟨A, hA⟩ : ∃ A, A = U.alloc (Obj.cells #[.int .i64 1, .int .i64 2] 85) := ⟨_, rfl⟩
      have hb : Below U.heap.size U A := by rw [hA]; exact (Below.refl _ _).alloc (Nat.le_refl _) _
      have HPK : Hid (Blk A U.heap.size 85 #[.int .i64 1, .int .i64 2]) := Lib.hid (by rw [hA]; exact Blk.new _ _ _)
      have HSA := Lib.hid (hst.keep hb)
      have HKA := Lib.hid (hkw.trans (KW.below hb))
      have HNO2 : Hid (some w.heap.size ≠ u0.ownBlock) := Lib.hid (fun e => by
        rcases hkw.own with h4 | ⟨k, h4, h5⟩
        · exact HNO.out (e.trans h4)
        · rw [h4] at e; cases e; have := HZ0.out; omega)
      have HUL : Hid (base ≤ U.heap.size) := Lib.hid hst.lb
      have HUO : Hid (some U.heap.size ≠ u0.ownBlock) := Lib.hid (fun e => by have := (hst.own.lt _ e.symm).2; omega)
      have HUB : Hid (U.heap.size ≠ b5) := Lib.hid (by have := hst.l5; have := hst.lb; omega)
      have HBX := Lib.hid ((HX0.out.kw hkw HNB.out HNO.out).below hb ((HX0.out.kw hkw HNB.out HNO.out).lt))
      have z0 : A.cell? ⟨U.heap.size, 0, none⟩ = some (.int .i64 1) := HPK.out.cell 0
      have z1 : A.cell? ⟨U.heap.size, 1, none⟩ = some (.int .i64 2) := HPK.out.cell 1
      have z2 : A.cell? ⟨w.heap.size, 0, none⟩ = some (.int .u64 2) := HBX.out.cell 0
      clear hpe x1 x2 hst hkw hb
      go_wp2_with fail
      try rw [← hA]
      clear hA y1 y2 y3
      refine wp_loop_rounds 3 ?_
      have ix0 : ∀ w, (Instr.index 85 (.agg #[.int .i64 1, .int .i64 2]) (.int .i64 0)).run Try.prog w = .ok (.int .i64 1) w := fun _ => by kernel_rfl
      have ix1 : ∀ w, (Instr.index 85 (.agg #[.int .i64 1, .int .i64 2]) (.int .i64 1)).run Try.prog w = .ok (.int .i64 2) w := fun _ => by kernel_rfl
      rw [rounds_succ]
      go_wp2
      rw [rounds_succ]
      go_wp2
      have HF : Hid (∀ u, Below A.heap.size A u → u.cell? ⟨w.heap.size, 0, none⟩ = some (.int .u64 2) ∧ u.cell? ⟨w.heap.size, 1, none⟩ = some (.int .u64 2)) := Lib.hid (fun u hu => ⟨(HBX.out.below hu HBX.out.lt).cell 0, (HBX.out.below hu HBX.out.lt).cell 1⟩)
      have hj0 : Below A.heap.size A A.drew := (Below.refl _ _).drew
      refine wp_region_late (S := fun u => Below A.heap.size A u) (X := [15]) (by kernel_rfl) ?_
      refine wpAnyL_pureD (i := 0) 49 (.pointer (some ⟨w.heap.size, 0, none⟩)) rfl rfl (by kernel_rfl) (by kernel_rfl) (by kernel_rfl) (fun _ _ _ h => h) (Or.inl ⟨by rfl, fun u _ => ?_⟩) ?_
      · go_simp <;> first | rfl | decide | kernel_rfl
      try simp only [Act.put, List.setIfInBounds_toArray, List.set_cons_zero, List.set_cons_succ]
      refine wpAnyL_takeD (i := 1) 50 (.int .u64 2) rfl rfl (by kernel_rfl) (by kernel_rfl) (by kernel_rfl) (by kernel_rfl) (by kernel_rfl) (fun _ _ _ h => h) hj0 (Or.inl ⟨by rfl, fun u hu => ?_⟩) ?_
      · obtain ⟨t0, t1⟩ := HF.out u hu
        go_simp
      try simp only [Act.put, List.setIfInBounds_toArray, List.set_cons_zero, List.set_cons_succ]
      refine wpAnyL_pureD (i := 2) 51 (.int .i64 2) rfl rfl (by kernel_rfl) (by kernel_rfl) (by kernel_rfl) (fun _ _ _ h => h) (Or.inl ⟨by rfl, fun u _ => ?_⟩) ?_
      · go_simp <;> first | rfl | decide | kernel_rfl
      try simp only [Act.put, List.setIfInBounds_toArray, List.set_cons_zero, List.set_cons_succ]
      refine wpAnyL_pureD (i := 3) 52 (.int .u64 4) rfl rfl (by kernel_rfl) (by kernel_rfl) (by kernel_rfl) (fun _ _ _ h => h) (Or.inl ⟨by rfl, fun u _ => ?_⟩) ?_
      · go_simp <;> first | rfl | decide | kernel_rfl
      try simp only [Act.put, List.setIfInBounds_toArray, List.set_cons_zero, List.set_cons_succ]
      refine wpAnyL_pureD (i := 4) 53 (.int .u64 6) rfl rfl (by kernel_rfl) (by kernel_rfl) (by kernel_rfl) (fun _ _ _ h => h) (Or.inl ⟨by rfl, fun u _ => ?_⟩) ?_
      · go_simp <;> first | rfl | decide | kernel_rfl
      try simp only [Act.put, List.setIfInBounds_toArray, List.set_cons_zero, List.set_cons_succ]
      refine wpAnyL_pureD (i := 5) 54 (.pointer (some ⟨w.heap.size, 1, none⟩)) rfl rfl (by kernel_rfl) (by kernel_rfl) (by kernel_rfl) (fun _ _ _ h => h) (Or.inl ⟨by rfl, fun u _ => ?_⟩) ?_
      · go_simp <;> first | rfl | decide | kernel_rfl
      try simp only [Act.put, List.setIfInBounds_toArray, List.set_cons_zero, List.set_cons_succ]
      refine wpAnyL_takeD (i := 6) 55 (.int .u64 2) rfl rfl (by kernel_rfl) (by kernel_rfl) (by kernel_rfl) (by kernel_rfl) (by kernel_rfl) (fun _ _ _ h => h) hj0 (Or.inl ⟨by rfl, fun u hu => ?_⟩) ?_
      · obtain ⟨t0, t1⟩ := HF.out u hu
        go_simp
      try simp only [Act.put, List.setIfInBounds_toArray, List.set_cons_zero, List.set_cons_succ]
      refine wpAnyL_pureD (i := 7) 56 (.int .i64 1) rfl rfl (by kernel_rfl) (by kernel_rfl) (by kernel_rfl) (fun _ _ _ h => h) (Or.inl ⟨by rfl, fun u _ => ?_⟩) ?_
      · go_simp <;> first | rfl | decide | kernel_rfl
      try simp only [Act.put, List.setIfInBounds_toArray, List.set_cons_zero, List.set_cons_succ]
      refine wpAnyL_pureD (i := 8) 57 (.int .i64 0) rfl rfl (by kernel_rfl) (by kernel_rfl) (by kernel_rfl) (fun _ _ _ h => h) (Or.inl ⟨by rfl, fun u _ => ?_⟩) ?_
      · go_simp <;> first | rfl | decide | kernel_rfl
      try simp only [Act.put, List.setIfInBounds_toArray, List.set_cons_zero, List.set_cons_succ]
      refine wpAnyL_pureD (i := 9) 58 (.int .u64 0) rfl rfl (by kernel_rfl) (by kernel_rfl) (by kernel_rfl) (fun _ _ _ h => h) (Or.inl ⟨by rfl, fun u _ => ?_⟩) ?_
      · go_simp <;> first | rfl | decide | kernel_rfl
      try simp only [Act.put, List.setIfInBounds_toArray, List.set_cons_zero, List.set_cons_succ]
      refine wpAnyL_pureD (i := 10) 59 (.int .i64 2) rfl rfl (by kernel_rfl) (by kernel_rfl) (by kernel_rfl) (fun _ _ _ h => h) (Or.inl ⟨by rfl, fun u _ => ?_⟩) ?_
      · go_simp <;> first | rfl | decide | kernel_rfl
      try simp only [Act.put, List.setIfInBounds_toArray, List.set_cons_zero, List.set_cons_succ]
      refine wpAnyL_pureD (i := 11) 60 (.int .u64 0) rfl rfl (by kernel_rfl) (by kernel_rfl) (by kernel_rfl) (fun _ _ _ h => h) (Or.inl ⟨by rfl, fun u _ => ?_⟩) ?_
      · go_simp <;> first | rfl | decide | kernel_rfl
      try simp only [Act.put, List.setIfInBounds_toArray, List.set_cons_zero, List.set_cons_succ]
      refine wpAnyL_pureD (i := 12) 61 (.int .u64 2) rfl rfl (by kernel_rfl) (by kernel_rfl) (by kernel_rfl) (fun _ _ _ h => h) (Or.inl ⟨by rfl, fun u _ => ?_⟩) ?_
      · go_simp <;> first | rfl | decide | kernel_rfl
      try simp only [Act.put, List.setIfInBounds_toArray, List.set_cons_zero, List.set_cons_succ]
      refine wpAnyL_pureD (i := 13) 62 (.agg #[.int .u64 6, .int .u64 2]) rfl rfl (by kernel_rfl) (by kernel_rfl) (by kernel_rfl) (fun _ _ _ h => h) (Or.inl ⟨by rfl, fun u _ => ?_⟩) ?_
      · go_simp <;> first | rfl | decide | kernel_rfl
      try simp only [Act.put, List.setIfInBounds_toArray, List.set_cons_zero, List.set_cons_succ]
      refine wpAnyL_one (i := 14) (by kernel_rfl) rfl (fun K hK => ?_)
      go_simp
      refine hK.out _ _ (fun _ _ => (((Below.refl _ _).alloc (Nat.le_refl _) _).drew)) ?_
      clear hK K
      try simp only [Act.put, List.setIfInBounds_toArray, List.set_cons_zero, List.set_cons_succ]
      refine wpAnyL_one (i := 15) (by kernel_rfl) rfl (fun K hK => ?_)
      go_simp
      obtain ⟨D, hD⟩ : ∃ D, D = (A.alloc (Obj.cells #[.int .u64 6, .int .u64 2] 136)).drew := ⟨_, rfl⟩
      have hdb : Blk D A.heap.size 136 #[.int .u64 6, .int .u64 2] := by rw [hD]; exact Blk.new _ _ _
      have hdl : Below A.heap.size A D := by rw [hD]; exact ((Below.refl _ _).alloc (Nat.le_refl _) _).drew
      rw [← hD]
      refine hK.out _ _ (fun h => absurd (by decide) h) ?_
      clear hK K hD hj0 HF
      try simp only [Act.put, List.setIfInBounds_toArray, List.set_cons_zero, List.set_cons_succ]
      refine wpAnyL_done (by kernel_rfl) ?_ _
      try simp only [Act.put, List.setIfInBounds_toArray, List.set_cons_zero, List.set_cons_succ]
      have HDB := Lib.hid hdb
      have HDS := Lib.hid (HSA.out.keep hdl)
      have HDK := Lib.hid (HKA.out.trans (KW.below hdl))
      have d0 : D.cell? ⟨b5, 0, none⟩ = some u0 := HDS.out.k5.cell 0
      have d1 : D.cell? ⟨A.heap.size, 0, none⟩ = some (.int .u64 6) := HDB.out.cell 0
      have d2 : D.cell? ⟨A.heap.size, 1, none⟩ = some (.int .u64 2) := HDB.out.cell 1
      have HDX := Lib.hid (HBX.out.below hdl HBX.out.lt)
      have HDP := Lib.hid (HPK.out.below hdl HPK.out.lt)
      have hdz : base ≤ D.heap.size := HDS.out.lb
      clear hdb hdl z0 z1 z2
      go_wp2
      have HF : Hid (∀ u, Below D.heap.size D u → u.cell? ⟨b6, 0, none⟩ = some (.func (.func 106) #[] #[.pointer (some ⟨b3, 0, none⟩), .pointer (some ⟨b5, 0, none⟩), .pointer (some ⟨b6, 0, none⟩)]) ∧ u.cell? ⟨A.heap.size, 0, none⟩ = some (.int .u64 6) ∧ u.cell? ⟨A.heap.size, 1, none⟩ = some (.int .u64 2)) := Lib.hid (fun u hu => ⟨(HDS.out.k6.below hu HDS.out.k6.lt).cell 0, (HDB.out.below hu HDB.out.lt).cell 0, (HDB.out.below hu HDB.out.lt).cell 1⟩)
      have hj0 : Below D.heap.size D D.drew := (Below.refl _ _).drew
      refine wp_region_late (S := fun u => Below D.heap.size D u) (X := [8]) (by kernel_rfl) ?_
      refine wpAnyL_takeD (i := 0) 75 (.func (.func 106) #[] #[.pointer (some ⟨b3, 0, none⟩), .pointer (some ⟨b5, 0, none⟩), .pointer (some ⟨b6, 0, none⟩)]) rfl rfl (by kernel_rfl) (by kernel_rfl) (by kernel_rfl) (by kernel_rfl) (by kernel_rfl) (fun _ _ _ h => h) hj0 (Or.inl ⟨by rfl, fun u hu => ?_⟩) ?_
      · obtain ⟨t0, t1, t2⟩ := HF.out u hu
        go_simp
      try simp only [Act.put, List.setIfInBounds_toArray, List.set_cons_zero, List.set_cons_succ]
      refine wpAnyL_pureD (i := 1) 76 (.int .i64 0) rfl rfl (by kernel_rfl) (by kernel_rfl) (by kernel_rfl) (fun _ _ _ h => h) (Or.inl ⟨by rfl, fun u _ => ?_⟩) ?_
      · go_simp <;> first | rfl | decide | kernel_rfl
      try simp only [Act.put, List.setIfInBounds_toArray, List.set_cons_zero, List.set_cons_succ]
      refine wpAnyL_pureD (i := 2) 77 (.int .i64 1) rfl rfl (by kernel_rfl) (by kernel_rfl) (by kernel_rfl) (fun _ _ _ h => h) (Or.inl ⟨by rfl, fun u _ => ?_⟩) ?_
      · go_simp <;> first | rfl | decide | kernel_rfl
      try simp only [Act.put, List.setIfInBounds_toArray, List.set_cons_zero, List.set_cons_succ]
      refine wpAnyL_pureD (i := 3) 78 (.int .u64 4) rfl rfl (by kernel_rfl) (by kernel_rfl) (by kernel_rfl) (fun _ _ _ h => h) (Or.inl ⟨by rfl, fun u _ => ?_⟩) ?_
      · go_simp <;> first | rfl | decide | kernel_rfl
      try simp only [Act.put, List.setIfInBounds_toArray, List.set_cons_zero, List.set_cons_succ]
      refine wpAnyL_pureD (i := 4) 79 (.int .i64 1) rfl rfl (by kernel_rfl) (by kernel_rfl) (by kernel_rfl) (fun _ _ _ h => h) (Or.inl ⟨by rfl, fun u _ => ?_⟩) ?_
      · go_simp <;> first | rfl | decide | kernel_rfl
      try simp only [Act.put, List.setIfInBounds_toArray, List.set_cons_zero, List.set_cons_succ]
      refine wpAnyL_pureD (i := 5) 80 (.int .u64 2) rfl rfl (by kernel_rfl) (by kernel_rfl) (by kernel_rfl) (fun _ _ _ h => h) (Or.inl ⟨by rfl, fun u _ => ?_⟩) ?_
      · go_simp <;> first | rfl | decide | kernel_rfl
      try simp only [Act.put, List.setIfInBounds_toArray, List.set_cons_zero, List.set_cons_succ]
      refine wpAnyL_pureD (i := 6) 81 (.int .u64 6) rfl rfl (by kernel_rfl) (by kernel_rfl) (by kernel_rfl) (fun _ _ _ h => h) (Or.inl ⟨by rfl, fun u _ => ?_⟩) ?_
      · go_simp <;> first | rfl | decide | kernel_rfl
      try simp only [Act.put, List.setIfInBounds_toArray, List.set_cons_zero, List.set_cons_succ]
      refine wpAnyL_takeD (i := 7) 82 (.agg #[.int .u64 6, .int .u64 2]) rfl rfl (by kernel_rfl) (by kernel_rfl) (by kernel_rfl) (by kernel_rfl) (by kernel_rfl) (fun _ _ _ h => h) hj0 (Or.inl ⟨by rfl, fun u hu => ?_⟩) ?_
      · obtain ⟨t0, t1, t2⟩ := HF.out u hu
        go_simp
      try simp only [Act.put, List.setIfInBounds_toArray, List.set_cons_zero, List.set_cons_succ]
      refine wpAnyL_one (i := 8) (by kernel_rfl) rfl (fun K hK => ?_)
      go_simp
      refine (walk_0_1_6_6_2 b3 b5 b6 base pb' po' cp D.drew _ _ _ (by simp [addT_0_2_4_2_2]; omega) (HDS.out.keep (Below.refl _ _).drew)).mono ?_
      rintro e' Z ⟨⟨r, rfl⟩, u1, hs9, hk9⟩
      show K _ _
      refine hK.out _ _ (fun h => absurd (by decide) h) ?_
      clear hK K
      try simp only [Act.put, List.setIfInBounds_toArray, List.set_cons_zero, List.set_cons_succ]
      refine wpAnyL_done (by kernel_rfl) ?_ _
      try simp only [Act.put, List.setIfInBounds_toArray, List.set_cons_zero, List.set_cons_succ]
      have HPS := Lib.hid hs9
      have hkd : KW b5 D u0 Z u1 := (KW.below (Below.refl _ _).drew).trans hk9
      have HPQ := Lib.hid (HDK.out.trans hkd)
      have HBX := Lib.hid (HDX.out.kw hkd HNB.out (fun e => HNO2.out e))
      have HPK := Lib.hid (HDP.out.kw hkd HUB.out HUO.out)
      have z0 : Z.cell? ⟨U.heap.size, 0, none⟩ = some (.int .i64 1) := HPK.out.cell 0
      have z1 : Z.cell? ⟨U.heap.size, 1, none⟩ = some (.int .i64 2) := HPK.out.cell 1
      have z2 : Z.cell? ⟨w.heap.size, 0, none⟩ = some (.int .u64 2) := HBX.out.cell 0
      clear hs9 hk9 hkd d0 d1 d2 hdz hj0 HF
      go_wp2
      rw [rounds_succ]
      go_wp2
      go_roundw
      case rel => exact ⟨3, _, u1, by omega, rfl, rfl, by first | exact HPS.out | simpa [addT_0_2_4_2_2, flat, encT, Nat.add_assoc] using HPS.out, HPQ.out⟩
      case measure => simp [intOf]
    · obtain rfl : z = 3 := hz
      have HSE := Lib.hid hst
      have HKE := Lib.hid hkw
      clear hst hkw
      go_wp2
      go_end0
      exact ⟨⟨_, rfl⟩, u0, HSE.out, (KW.below HB0.out).trans HKE.out⟩
def addT_0_0_0_0_0 : Nat → List (Int × Int)
  | 0 => []
  | 1 => [(7, 5)]
  | 2 => [(7, 5), (7, 2)]
  | _ => [(7, 5), (7, 2)]
set_option maxHeartbeats 12800000 in
set_option maxRecDepth 100000 in
theorem walk_0_0_0_0_0 : Walks 9 0 0 0 0 0 [(7, 5), (7, 2)] := by
  intro b3 b5 b6 base pb po cp w u n xs hn h
  obtain ⟨i0, hi0, hz0, hz1, hz2⟩ := info_parts infoT
  have HST := Lib.hid h
  obtain ⟨W0, hW0⟩ : ∃ W0, W0 = w.alloc (Obj.cells #[.int .u64 0, .int .u64 0] 136) := ⟨_, rfl⟩
  have hx0 : Blk W0 w.heap.size 136 #[.int .u64 0, .int .u64 0] := by rw [hW0]; exact Blk.new _ _ _
  have hb0 : Below w.heap.size w W0 := by rw [hW0]; exact (Below.refl _ _).alloc (Nat.le_refl _) _
  have hz : W0.heap.size = w.heap.size + 1 := by rw [hW0]; simp
  have HX0 := Lib.hid hx0
  have HB0 := Lib.hid hb0
  have HZ0 := Lib.hid hz
  have HS0 := Lib.hid (h.keep hb0)
  have HNB : Hid (w.heap.size ≠ b5) := Lib.hid (by have := h.l5; have := h.lb; omega)
  have HNO : Hid (some w.heap.size ≠ u.ownBlock) := Lib.hid (fun e => by have := (h.own.lt _ e.symm).2; omega)
  have c3 : (w.alloc (Obj.cells #[.int .u64 0, .int .u64 0] 136)).cell? ⟨b3, 0, none⟩ = some (.slice (some ⟨pb, po, none⟩) 3 cp) := by rw [← hW0]; exact HS0.out.k3.cell 0
  clear h hx0 hb0 hz
  go_enter Try.func106, Try.ntmps106
  go_wp2_with fail
  rw [← hW0]
  clear hW0
  clear c3
  go_loopw [19] (fun x wr => ∃ k : Nat, ∃ z : Int, ∃ u', k ≤ 3 ∧ x = .int .i64 z ∧ z = k ∧ StW b3 b5 b6 base pb po cp wr u' (n + (addT_0_0_0_0_0 k).length) (xs ++ flat encT (addT_0_0_0_0_0 k)) ∧ KW b5 W0 u wr u') (fun x _ => 3 - (intOf x).toNat)
  case atStart => exact ⟨0, 0, u, by omega, rfl, rfl, by simpa [addT_0_0_0_0_0, flat] using HS0.out, KW.refl _ _ _⟩
  case round =>
    obtain ⟨k, z, u0, hk, rfl, hz, hst, hkw⟩ := hrel
    generalize wr = U at *
    rcases (show k = 0 ∨ k = 1 ∨ k = 2 ∨ k = 3 by omega) with rfl | rfl | rfl | rfl
    · obtain rfl : z = 0 := hz
      obtain ⟨pb', po', hpe, q1, x1, x2⟩ := hst.kp.two 0 (by decide)
      obtain ⟨rfl, rfl⟩ : pb' = pb ∧ po' = po := by
        injection hpe with h1
        injection h1 with h2 h3
        exact ⟨h2.symm, h3.symm⟩
      have y1 : U.cell? ⟨pb', po', none⟩ = some (.int .i64 0) := x1
      have y2 : U.cell? ⟨pb', po' + 0 + 1, none⟩ = some (.int .i64 1) := x2
      have y3 : U.cell? ⟨pb', po' + 1, none⟩ = some (.int .i64 1) := x2
      obtain ⟨A, hA⟩ : ∃ A, A = U.alloc (Obj.cells #[.int .i64 0, .int .i64 1] 85) := ⟨_, rfl⟩
      have hb : Below U.heap.size U A := by rw [hA]; exact (Below.refl _ _).alloc (Nat.le_refl _) _
      have HPK : Hid (Blk A U.heap.size 85 #[.int .i64 0, .int .i64 1]) := Lib.hid (by rw [hA]; exact Blk.new _ _ _)
      have HSA := Lib.hid (hst.keep hb)
      have HKA := Lib.hid (hkw.trans (KW.below hb))
      have HNO2 : Hid (some w.heap.size ≠ u0.ownBlock) := Lib.hid (fun e => by
        rcases hkw.own with h4 | ⟨k, h4, h5⟩
        · exact HNO.out (e.trans h4)
        · rw [h4] at e; cases e; have := HZ0.out; omega)
      have HUL : Hid (base ≤ U.heap.size) := Lib.hid hst.lb
      have HUO : Hid (some U.heap.size ≠ u0.ownBlock) := Lib.hid (fun e => by have := (hst.own.lt _ e.symm).2; omega)
      have HUB : Hid (U.heap.size ≠ b5) := Lib.hid (by have := hst.l5; have := hst.lb; omega)
      have HBX := Lib.hid ((HX0.out.kw hkw HNB.out HNO.out).below hb ((HX0.out.kw hkw HNB.out HNO.out).lt))
      have z0 : A.cell? ⟨U.heap.size, 0, none⟩ = some (.int .i64 0) := HPK.out.cell 0
      have z1 : A.cell? ⟨U.heap.size, 1, none⟩ = some (.int .i64 1) := HPK.out.cell 1
      have z2 : A.cell? ⟨w.heap.size, 0, none⟩ = some (.int .u64 0) := HBX.out.cell 0
      clear hpe x1 x2 hst hkw hb
      go_wp2_with fail
      try rw [← hA]
      clear hA y1 y2 y3
      refine wp_loop_rounds 3 ?_
      have ix0 : ∀ w, (Instr.index 85 (.agg #[.int .i64 0, .int .i64 1]) (.int .i64 0)).run Try.prog w = .ok (.int .i64 0) w := fun _ => by kernel_rfl
      have ix1 : ∀ w, (Instr.index 85 (.agg #[.int .i64 0, .int .i64 1]) (.int .i64 1)).run Try.prog w = .ok (.int .i64 1) w := fun _ => by kernel_rfl
      rw [rounds_succ]
      go_wp2
      have HF : Hid (∀ u, Below A.heap.size A u → u.cell? ⟨w.heap.size, 0, none⟩ = some (.int .u64 0) ∧ u.cell? ⟨w.heap.size, 1, none⟩ = some (.int .u64 0)) := Lib.hid (fun u hu => ⟨(HBX.out.below hu HBX.out.lt).cell 0, (HBX.out.below hu HBX.out.lt).cell 1⟩)
      have hj0 : Below A.heap.size A A.drew := (Below.refl _ _).drew
      refine wp_region_late (S := fun u => Below A.heap.size A u) (X := [15]) (by kernel_rfl) ?_
      refine wpAnyL_pureD (i := 0) 49 (.pointer (some ⟨w.heap.size, 0, none⟩)) rfl rfl (by kernel_rfl) (by kernel_rfl) (by kernel_rfl) (fun _ _ _ h => h) (Or.inl ⟨by rfl, fun u _ => ?_⟩) ?_
      · go_simp <;> first | rfl | decide | kernel_rfl
      try simp only [Act.put, List.setIfInBounds_toArray, List.set_cons_zero, List.set_cons_succ]
      refine wpAnyL_takeD (i := 1) 50 (.int .u64 0) rfl rfl (by kernel_rfl) (by kernel_rfl) (by kernel_rfl) (by kernel_rfl) (by kernel_rfl) (fun _ _ _ h => h) hj0 (Or.inl ⟨by rfl, fun u hu => ?_⟩) ?_
      · obtain ⟨t0, t1⟩ := HF.out u hu
        go_simp
      try simp only [Act.put, List.setIfInBounds_toArray, List.set_cons_zero, List.set_cons_succ]
      refine wpAnyL_pureD (i := 2) 51 (.int .i64 0) rfl rfl (by kernel_rfl) (by kernel_rfl) (by kernel_rfl) (fun _ _ _ h => h) (Or.inl ⟨by rfl, fun u _ => ?_⟩) ?_
      · go_simp <;> first | rfl | decide | kernel_rfl
      try simp only [Act.put, List.setIfInBounds_toArray, List.set_cons_zero, List.set_cons_succ]
      refine wpAnyL_pureD (i := 3) 52 (.int .u64 1) rfl rfl (by kernel_rfl) (by kernel_rfl) (by kernel_rfl) (fun _ _ _ h => h) (Or.inl ⟨by rfl, fun u _ => ?_⟩) ?_
      · go_simp <;> first | rfl | decide | kernel_rfl
      try simp only [Act.put, List.setIfInBounds_toArray, List.set_cons_zero, List.set_cons_succ]
      refine wpAnyL_pureD (i := 4) 53 (.int .u64 1) rfl rfl (by kernel_rfl) (by kernel_rfl) (by kernel_rfl) (fun _ _ _ h => h) (Or.inl ⟨by rfl, fun u _ => ?_⟩) ?_
      · go_simp <;> first | rfl | decide | kernel_rfl
      try simp only [Act.put, List.setIfInBounds_toArray, List.set_cons_zero, List.set_cons_succ]
      refine wpAnyL_pureD (i := 5) 54 (.pointer (some ⟨w.heap.size, 1, none⟩)) rfl rfl (by kernel_rfl) (by kernel_rfl) (by kernel_rfl) (fun _ _ _ h => h) (Or.inl ⟨by rfl, fun u _ => ?_⟩) ?_
      · go_simp <;> first | rfl | decide | kernel_rfl
      try simp only [Act.put, List.setIfInBounds_toArray, List.set_cons_zero, List.set_cons_succ]
      refine wpAnyL_takeD (i := 6) 55 (.int .u64 0) rfl rfl (by kernel_rfl) (by kernel_rfl) (by kernel_rfl) (by kernel_rfl) (by kernel_rfl) (fun _ _ _ h => h) hj0 (Or.inl ⟨by rfl, fun u hu => ?_⟩) ?_
      · obtain ⟨t0, t1⟩ := HF.out u hu
        go_simp
      try simp only [Act.put, List.setIfInBounds_toArray, List.set_cons_zero, List.set_cons_succ]
      refine wpAnyL_pureD (i := 7) 56 (.int .i64 0) rfl rfl (by kernel_rfl) (by kernel_rfl) (by kernel_rfl) (fun _ _ _ h => h) (Or.inl ⟨by rfl, fun u _ => ?_⟩) ?_
      · go_simp <;> first | rfl | decide | kernel_rfl
      try simp only [Act.put, List.setIfInBounds_toArray, List.set_cons_zero, List.set_cons_succ]
      refine wpAnyL_pureD (i := 8) 57 (.int .i64 1) rfl rfl (by kernel_rfl) (by kernel_rfl) (by kernel_rfl) (fun _ _ _ h => h) (Or.inl ⟨by rfl, fun u _ => ?_⟩) ?_
      · go_simp <;> first | rfl | decide | kernel_rfl
      try simp only [Act.put, List.setIfInBounds_toArray, List.set_cons_zero, List.set_cons_succ]
      refine wpAnyL_pureD (i := 9) 58 (.int .u64 1) rfl rfl (by kernel_rfl) (by kernel_rfl) (by kernel_rfl) (fun _ _ _ h => h) (Or.inl ⟨by rfl, fun u _ => ?_⟩) ?_
      · go_simp <;> first | rfl | decide | kernel_rfl
      try simp only [Act.put, List.setIfInBounds_toArray, List.set_cons_zero, List.set_cons_succ]
      refine wpAnyL_pureD (i := 10) 59 (.int .i64 0) rfl rfl (by kernel_rfl) (by kernel_rfl) (by kernel_rfl) (fun _ _ _ h => h) (Or.inl ⟨by rfl, fun u _ => ?_⟩) ?_
      · go_simp <;> first | rfl | decide | kernel_rfl
      try simp only [Act.put, List.setIfInBounds_toArray, List.set_cons_zero, List.set_cons_succ]
      refine wpAnyL_pureD (i := 11) 60 (.int .u64 1) rfl rfl (by kernel_rfl) (by kernel_rfl) (by kernel_rfl) (fun _ _ _ h => h) (Or.inl ⟨by rfl, fun u _ => ?_⟩) ?_
      · go_simp <;> first | rfl | decide | kernel_rfl
      try simp only [Act.put, List.setIfInBounds_toArray, List.set_cons_zero, List.set_cons_succ]
      refine wpAnyL_pureD (i := 12) 61 (.int .u64 1) rfl rfl (by kernel_rfl) (by kernel_rfl) (by kernel_rfl) (fun _ _ _ h => h) (Or.inl ⟨by rfl, fun u _ => ?_⟩) ?_
      · go_simp <;> first | rfl | decide | kernel_rfl
      try simp only [Act.put, List.setIfInBounds_toArray, List.set_cons_zero, List.set_cons_succ]
      refine wpAnyL_pureD (i := 13) 62 (.agg #[.int .u64 1, .int .u64 1]) rfl rfl (by kernel_rfl) (by kernel_rfl) (by kernel_rfl) (fun _ _ _ h => h) (Or.inl ⟨by rfl, fun u _ => ?_⟩) ?_
      · go_simp <;> first | rfl | decide | kernel_rfl
      try simp only [Act.put, List.setIfInBounds_toArray, List.set_cons_zero, List.set_cons_succ]
      refine wpAnyL_one (i := 14) (by kernel_rfl) rfl (fun K hK => ?_)
      go_simp
      refine hK.out _ _ (fun _ _ => (((Below.refl _ _).alloc (Nat.le_refl _) _).drew)) ?_
      clear hK K
      try simp only [Act.put, List.setIfInBounds_toArray, List.set_cons_zero, List.set_cons_succ]
      refine wpAnyL_one (i := 15) (by kernel_rfl) rfl (fun K hK => ?_)
      go_simp
      obtain ⟨D, hD⟩ : ∃ D, D = (A.alloc (Obj.cells #[.int .u64 1, .int .u64 1] 136)).drew := ⟨_, rfl⟩
      have hdb : Blk D A.heap.size 136 #[.int .u64 1, .int .u64 1] := by rw [hD]; exact Blk.new _ _ _
      have hdl : Below A.heap.size A D := by rw [hD]; exact ((Below.refl _ _).alloc (Nat.le_refl _) _).drew
      rw [← hD]
      refine hK.out _ _ (fun h => absurd (by decide) h) ?_
      clear hK K hD hj0 HF
      try simp only [Act.put, List.setIfInBounds_toArray, List.set_cons_zero, List.set_cons_succ]
      refine wpAnyL_done (by kernel_rfl) ?_ _
      try simp only [Act.put, List.setIfInBounds_toArray, List.set_cons_zero, List.set_cons_succ]
      have HDB := Lib.hid hdb
      have HDS := Lib.hid (HSA.out.keep hdl)
      have HDK := Lib.hid (HKA.out.trans (KW.below hdl))
      have d0 : D.cell? ⟨b5, 0, none⟩ = some u0 := HDS.out.k5.cell 0
      have d1 : D.cell? ⟨A.heap.size, 0, none⟩ = some (.int .u64 1) := HDB.out.cell 0
      have d2 : D.cell? ⟨A.heap.size, 1, none⟩ = some (.int .u64 1) := HDB.out.cell 1
      have HDX := Lib.hid (HBX.out.below hdl HBX.out.lt)
      have HDP := Lib.hid (HPK.out.below hdl HPK.out.lt)
      have hdz : base ≤ D.heap.size := HDS.out.lb
      clear hdb hdl z0 z1 z2
      go_wp2
      have HF : Hid (∀ u, Below D.heap.size D u → u.cell? ⟨b6, 0, none⟩ = some (.func (.func 106) #[] #[.pointer (some ⟨b3, 0, none⟩), .pointer (some ⟨b5, 0, none⟩), .pointer (some ⟨b6, 0, none⟩)]) ∧ u.cell? ⟨A.heap.size, 0, none⟩ = some (.int .u64 1) ∧ u.cell? ⟨A.heap.size, 1, none⟩ = some (.int .u64 1)) := Lib.hid (fun u hu => ⟨(HDS.out.k6.below hu HDS.out.k6.lt).cell 0, (HDB.out.below hu HDB.out.lt).cell 0, (HDB.out.below hu HDB.out.lt).cell 1⟩)
      have hj0 : Below D.heap.size D D.drew := (Below.refl _ _).drew
      refine wp_region_late (S := fun u => Below D.heap.size D u) (X := [8]) (by kernel_rfl) ?_
      refine wpAnyL_takeD (i := 0) 75 (.func (.func 106) #[] #[.pointer (some ⟨b3, 0, none⟩), .pointer (some ⟨b5, 0, none⟩), .pointer (some ⟨b6, 0, none⟩)]) rfl rfl (by kernel_rfl) (by kernel_rfl) (by kernel_rfl) (by kernel_rfl) (by kernel_rfl) (fun _ _ _ h => h) hj0 (Or.inl ⟨by rfl, fun u hu => ?_⟩) ?_
      · obtain ⟨t0, t1, t2⟩ := HF.out u hu
        go_simp
      try simp only [Act.put, List.setIfInBounds_toArray, List.set_cons_zero, List.set_cons_succ]
      refine wpAnyL_pureD (i := 1) 76 (.int .i64 0) rfl rfl (by kernel_rfl) (by kernel_rfl) (by kernel_rfl) (fun _ _ _ h => h) (Or.inl ⟨by rfl, fun u _ => ?_⟩) ?_
      · go_simp <;> first | rfl | decide | kernel_rfl
      try simp only [Act.put, List.setIfInBounds_toArray, List.set_cons_zero, List.set_cons_succ]
      refine wpAnyL_pureD (i := 2) 77 (.int .i64 1) rfl rfl (by kernel_rfl) (by kernel_rfl) (by kernel_rfl) (fun _ _ _ h => h) (Or.inl ⟨by rfl, fun u _ => ?_⟩) ?_
      · go_simp <;> first | rfl | decide | kernel_rfl
      try simp only [Act.put, List.setIfInBounds_toArray, List.set_cons_zero, List.set_cons_succ]
      refine wpAnyL_pureD (i := 3) 78 (.int .u64 0) rfl rfl (by kernel_rfl) (by kernel_rfl) (by kernel_rfl) (fun _ _ _ h => h) (Or.inl ⟨by rfl, fun u _ => ?_⟩) ?_
      · go_simp <;> first | rfl | decide | kernel_rfl
      try simp only [Act.put, List.setIfInBounds_toArray, List.set_cons_zero, List.set_cons_succ]
      refine wpAnyL_pureD (i := 4) 79 (.int .i64 1) rfl rfl (by kernel_rfl) (by kernel_rfl) (by kernel_rfl) (fun _ _ _ h => h) (Or.inl ⟨by rfl, fun u _ => ?_⟩) ?_
      · go_simp <;> first | rfl | decide | kernel_rfl
      try simp only [Act.put, List.setIfInBounds_toArray, List.set_cons_zero, List.set_cons_succ]
      refine wpAnyL_pureD (i := 5) 80 (.int .u64 2) rfl rfl (by kernel_rfl) (by kernel_rfl) (by kernel_rfl) (fun _ _ _ h => h) (Or.inl ⟨by rfl, fun u _ => ?_⟩) ?_
      · go_simp <;> first | rfl | decide | kernel_rfl
      try simp only [Act.put, List.setIfInBounds_toArray, List.set_cons_zero, List.set_cons_succ]
      refine wpAnyL_pureD (i := 6) 81 (.int .u64 2) rfl rfl (by kernel_rfl) (by kernel_rfl) (by kernel_rfl) (fun _ _ _ h => h) (Or.inl ⟨by rfl, fun u _ => ?_⟩) ?_
      · go_simp <;> first | rfl | decide | kernel_rfl
      try simp only [Act.put, List.setIfInBounds_toArray, List.set_cons_zero, List.set_cons_succ]
      refine wpAnyL_takeD (i := 7) 82 (.agg #[.int .u64 1, .int .u64 1]) rfl rfl (by kernel_rfl) (by kernel_rfl) (by kernel_rfl) (by kernel_rfl) (by kernel_rfl) (fun _ _ _ h => h) hj0 (Or.inl ⟨by rfl, fun u hu => ?_⟩) ?_
      · obtain ⟨t0, t1, t2⟩ := HF.out u hu
        go_simp
      try simp only [Act.put, List.setIfInBounds_toArray, List.set_cons_zero, List.set_cons_succ]
      refine wpAnyL_one (i := 8) (by kernel_rfl) rfl (fun K hK => ?_)
      go_simp
      refine (walk_0_1_2_1_1 b3 b5 b6 base pb' po' cp D.drew _ _ _ (by simp [addT_0_0_0_0_0]; omega) (HDS.out.keep (Below.refl _ _).drew)).mono ?_
      rintro e' Z ⟨⟨r, rfl⟩, u1, hs9, hk9⟩
      show K _ _
      refine hK.out _ _ (fun h => absurd (by decide) h) ?_
      clear hK K
      try simp only [Act.put, List.setIfInBounds_toArray, List.set_cons_zero, List.set_cons_succ]
      refine wpAnyL_done (by kernel_rfl) ?_ _
      try simp only [Act.put, List.setIfInBounds_toArray, List.set_cons_zero, List.set_cons_succ]
      have HPS := Lib.hid hs9
      have hkd : KW b5 D u0 Z u1 := (KW.below (Below.refl _ _).drew).trans hk9
      have HPQ := Lib.hid (HDK.out.trans hkd)
      have HBX := Lib.hid (HDX.out.kw hkd HNB.out (fun e => HNO2.out e))
      have HPK := Lib.hid (HDP.out.kw hkd HUB.out HUO.out)
      have z0 : Z.cell? ⟨U.heap.size, 0, none⟩ = some (.int .i64 0) := HPK.out.cell 0
      have z1 : Z.cell? ⟨U.heap.size, 1, none⟩ = some (.int .i64 1) := HPK.out.cell 1
      have z2 : Z.cell? ⟨w.heap.size, 0, none⟩ = some (.int .u64 0) := HBX.out.cell 0
      clear hs9 hk9 hkd d0 d1 d2 hdz hj0 HF
      go_wp2
      rw [rounds_succ]
      go_wp2
      rw [rounds_succ]
      go_wp2
      go_roundw
      case rel => exact ⟨1, _, u1, by omega, rfl, rfl, by first | exact HPS.out | simpa [addT_0_0_0_0_0, flat, encT, Nat.add_assoc] using HPS.out, HPQ.out⟩
      case measure => simp [intOf]
    · obtain rfl : z = 1 := hz
      obtain ⟨pb', po', hpe, q1, x1, x2⟩ := hst.kp.two 1 (by decide)
      obtain ⟨rfl, rfl⟩ : pb' = pb ∧ po' = po := by
        injection hpe with h1
        injection h1 with h2 h3
        exact ⟨h2.symm, h3.symm⟩
      have y1 : U.cell? ⟨pb', po' + 2, none⟩ = some (.int .i64 0) := x1
      have y2 : U.cell? ⟨pb', po' + 2 + 1, none⟩ = some (.int .i64 2) := x2
      have y3 : U.cell? ⟨pb', po' + 3, none⟩ = some (.int .i64 2) := x2
      obtain ⟨A, hA⟩ : ∃ A, A = U.alloc (Obj.cells #[.int .i64 0, .int .i64 2] 85) := ⟨_, rfl⟩
      have hb : Below U.heap.size U A := by rw [hA]; exact (Below.refl _ _).alloc (Nat.le_refl _) _
      have HPK : Hid (Blk A U.heap.size 85 #[.int .i64 0, .int .i64 2]) := Lib.hid (by rw [hA]; exact Blk.new _ _ _)
      have HSA := Lib.hid (hst.keep hb)
      have HKA := Lib.hid (hkw.trans (KW.below hb))
      have HNO2 : Hid (some w.heap.size ≠ u0.ownBlock) := Lib.hid (fun e => by
        rcases hkw.own with h4 | ⟨k, h4, h5⟩
        · exact HNO.out (e.trans h4)
        · rw [h4] at e; cases e; have := HZ0.out; omega)
      have HUL : Hid (base ≤ U.heap.size) := Lib.hid hst.lb
      have HUO : Hid (some U.heap.size ≠ u0.ownBlock) := Lib.hid (fun e => by have := (hst.own.lt _ e.symm).2; omega)
      have HUB : Hid (U.heap.size ≠ b5) := Lib.hid (by have := hst.l5; have := hst.lb; omega)
      have HBX := Lib.hid ((HX0.out.kw hkw HNB.out HNO.out).below hb ((HX0.out.kw hkw HNB.out HNO.out).lt))
      have z0 : A.cell? ⟨U.heap.size, 0, none⟩ = some (.int .i64 0) := HPK.out.cell 0
      have z1 : A.cell? ⟨U.heap.size, 1, none⟩ = some (.int .i64 2) := HPK.out.cell 1
      have z2 : A.cell? ⟨w.heap.size, 0, none⟩ = some (.int .u64 0) := HBX.out.cell 0
      clear hpe x1 x2 hst hkw hb
      go_wp2_with fail
      try rw [← hA]
      clear hA y1 y2 y3
      refine wp_loop_rounds 3 ?_
      have ix0 : ∀ w, (Instr.index 85 (.agg #[.int .i64 0, .int .i64 2]) (.int .i64 0)).run Try.prog w = .ok (.int .i64 0) w := fun _ => by kernel_rfl
      have ix1 : ∀ w, (Instr.index 85 (.agg #[.int .i64 0, .int .i64 2]) (.int .i64 1)).run Try.prog w = .ok (.int .i64 2) w := fun _ => by kernel_rfl
      rw [rounds_succ]
      go_wp2
      have HF : Hid (∀ u, Below A.heap.size A u → u.cell? ⟨w.heap.size, 0, none⟩ = some (.int .u64 0) ∧ u.cell? ⟨w.heap.size, 1, none⟩ = some (.int .u64 0)) := Lib.hid (fun u hu => ⟨(HBX.out.below hu HBX.out.lt).cell 0, (HBX.out.below hu HBX.out.lt).cell 1⟩)
      have hj0 : Below A.heap.size A A.drew := (Below.refl _ _).drew
      refine wp_region_late (S := fun u => Below A.heap.size A u) (X := [15]) (by kernel_rfl) ?_
      refine wpAnyL_pureD (i := 0) 49 (.pointer (some ⟨w.heap.size, 0, none⟩)) rfl rfl (by kernel_rfl) (by kernel_rfl) (by kernel_rfl) (fun _ _ _ h => h) (Or.inl ⟨by rfl, fun u _ => ?_⟩) ?_
      · go_simp <;> first | rfl | decide | kernel_rfl
      try simp only [Act.put, List.setIfInBounds_toArray, List.set_cons_zero, List.set_cons_succ]
      refine wpAnyL_takeD (i := 1) 50 (.int .u64 0) rfl rfl (by kernel_rfl) (by kernel_rfl) (by kernel_rfl) (by kernel_rfl) (by kernel_rfl) (fun _ _ _ h => h) hj0 (Or.inl ⟨by rfl, fun u hu => ?_⟩) ?_
      · obtain ⟨t0, t1⟩ := HF.out u hu
        go_simp
      try simp only [Act.put, List.setIfInBounds_toArray, List.set_cons_zero, List.set_cons_succ]
      refine wpAnyL_pureD (i := 2) 51 (.int .i64 1) rfl rfl (by kernel_rfl) (by kernel_rfl) (by kernel_rfl) (fun _ _ _ h => h) (Or.inl ⟨by rfl, fun u _ => ?_⟩) ?_
      · go_simp <;> first | rfl | decide | kernel_rfl
      try simp only [Act.put, List.setIfInBounds_toArray, List.set_cons_zero, List.set_cons_succ]
      refine wpAnyL_pureD (i := 3) 52 (.int .u64 2) rfl rfl (by kernel_rfl) (by kernel_rfl) (by kernel_rfl) (fun _ _ _ h => h) (Or.inl ⟨by rfl, fun u _ => ?_⟩) ?_
      · go_simp <;> first | rfl | decide | kernel_rfl
      try simp only [Act.put, List.setIfInBounds_toArray, List.set_cons_zero, List.set_cons_succ]
      refine wpAnyL_pureD (i := 4) 53 (.int .u64 2) rfl rfl (by kernel_rfl) (by kernel_rfl) (by kernel_rfl) (fun _ _ _ h => h) (Or.inl ⟨by rfl, fun u _ => ?_⟩) ?_
      · go_simp <;> first | rfl | decide | kernel_rfl
      try simp only [Act.put, List.setIfInBounds_toArray, List.set_cons_zero, List.set_cons_succ]
      refine wpAnyL_pureD (i := 5) 54 (.pointer (some ⟨w.heap.size, 1, none⟩)) rfl rfl (by kernel_rfl) (by kernel_rfl) (by kernel_rfl) (fun _ _ _ h => h) (Or.inl ⟨by rfl, fun u _ => ?_⟩) ?_
      · go_simp <;> first | rfl | decide | kernel_rfl
      try simp only [Act.put, List.setIfInBounds_toArray, List.set_cons_zero, List.set_cons_succ]
      refine wpAnyL_takeD (i := 6) 55 (.int .u64 0) rfl rfl (by kernel_rfl) (by kernel_rfl) (by kernel_rfl) (by kernel_rfl) (by kernel_rfl) (fun _ _ _ h => h) hj0 (Or.inl ⟨by rfl, fun u hu => ?_⟩) ?_
      · obtain ⟨t0, t1⟩ := HF.out u hu
        go_simp
      try simp only [Act.put, List.setIfInBounds_toArray, List.set_cons_zero, List.set_cons_succ]
      refine wpAnyL_pureD (i := 7) 56 (.int .i64 0) rfl rfl (by kernel_rfl) (by kernel_rfl) (by kernel_rfl) (fun _ _ _ h => h) (Or.inl ⟨by rfl, fun u _ => ?_⟩) ?_
      · go_simp <;> first | rfl | decide | kernel_rfl
      try simp only [Act.put, List.setIfInBounds_toArray, List.set_cons_zero, List.set_cons_succ]
      refine wpAnyL_pureD (i := 8) 57 (.int .i64 1) rfl rfl (by kernel_rfl) (by kernel_rfl) (by kernel_rfl) (fun _ _ _ h => h) (Or.inl ⟨by rfl, fun u _ => ?_⟩) ?_
      · go_simp <;> first | rfl | decide | kernel_rfl
      try simp only [Act.put, List.setIfInBounds_toArray, List.set_cons_zero, List.set_cons_succ]
      refine wpAnyL_pureD (i := 9) 58 (.int .u64 1) rfl rfl (by kernel_rfl) (by kernel_rfl) (by kernel_rfl) (fun _ _ _ h => h) (Or.inl ⟨by rfl, fun u _ => ?_⟩) ?_
      · go_simp <;> first | rfl | decide | kernel_rfl
      try simp only [Act.put, List.setIfInBounds_toArray, List.set_cons_zero, List.set_cons_succ]
      refine wpAnyL_pureD (i := 10) 59 (.int .i64 1) rfl rfl (by kernel_rfl) (by kernel_rfl) (by kernel_rfl) (fun _ _ _ h => h) (Or.inl ⟨by rfl, fun u _ => ?_⟩) ?_
      · go_simp <;> first | rfl | decide | kernel_rfl
      try simp only [Act.put, List.setIfInBounds_toArray, List.set_cons_zero, List.set_cons_succ]
      refine wpAnyL_pureD (i := 11) 60 (.int .u64 2) rfl rfl (by kernel_rfl) (by kernel_rfl) (by kernel_rfl) (fun _ _ _ h => h) (Or.inl ⟨by rfl, fun u _ => ?_⟩) ?_
      · go_simp <;> first | rfl | decide | kernel_rfl
      try simp only [Act.put, List.setIfInBounds_toArray, List.set_cons_zero, List.set_cons_succ]
      refine wpAnyL_pureD (i := 12) 61 (.int .u64 2) rfl rfl (by kernel_rfl) (by kernel_rfl) (by kernel_rfl) (fun _ _ _ h => h) (Or.inl ⟨by rfl, fun u _ => ?_⟩) ?_
      · go_simp <;> first | rfl | decide | kernel_rfl
      try simp only [Act.put, List.setIfInBounds_toArray, List.set_cons_zero, List.set_cons_succ]
      refine wpAnyL_pureD (i := 13) 62 (.agg #[.int .u64 2, .int .u64 2]) rfl rfl (by kernel_rfl) (by kernel_rfl) (by kernel_rfl) (fun _ _ _ h => h) (Or.inl ⟨by rfl, fun u _ => ?_⟩) ?_
      · go_simp <;> first | rfl | decide | kernel_rfl
      try simp only [Act.put, List.setIfInBounds_toArray, List.set_cons_zero, List.set_cons_succ]
      refine wpAnyL_one (i := 14) (by kernel_rfl) rfl (fun K hK => ?_)
      go_simp
      refine hK.out _ _ (fun _ _ => (((Below.refl _ _).alloc (Nat.le_refl _) _).drew)) ?_
      clear hK K
      try simp only [Act.put, List.setIfInBounds_toArray, List.set_cons_zero, List.set_cons_succ]
      refine wpAnyL_one (i := 15) (by kernel_rfl) rfl (fun K hK => ?_)
      go_simp
      obtain ⟨D, hD⟩ : ∃ D, D = (A.alloc (Obj.cells #[.int .u64 2, .int .u64 2] 136)).drew := ⟨_, rfl⟩
      have hdb : Blk D A.heap.size 136 #[.int .u64 2, .int .u64 2] := by rw [hD]; exact Blk.new _ _ _
      have hdl : Below A.heap.size A D := by rw [hD]; exact ((Below.refl _ _).alloc (Nat.le_refl _) _).drew
      rw [← hD]
      refine hK.out _ _ (fun h => absurd (by decide) h) ?_
      clear hK K hD hj0 HF
      try simp only [Act.put, List.setIfInBounds_toArray, List.set_cons_zero, List.set_cons_succ]
      refine wpAnyL_done (by kernel_rfl) ?_ _
      try simp only [Act.put, List.setIfInBounds_toArray, List.set_cons_zero, List.set_cons_succ]
      have HDB := Lib.hid hdb
      have HDS := Lib.hid (HSA.out.keep hdl)
      have HDK := Lib.hid (HKA.out.trans (KW.below hdl))
      have d0 : D.cell? ⟨b5, 0, none⟩ = some u0 := HDS.out.k5.cell 0
      have d1 : D.cell? ⟨A.heap.size, 0, none⟩ = some (.int .u64 2) := HDB.out.cell 0
      have d2 : D.cell? ⟨A.heap.size, 1, none⟩ = some (.int .u64 2) := HDB.out.cell 1
      have HDX := Lib.hid (HBX.out.below hdl HBX.out.lt)
      have HDP := Lib.hid (HPK.out.below hdl HPK.out.lt)
      have hdz : base ≤ D.heap.size := HDS.out.lb
      clear hdb hdl z0 z1 z2
      go_wp2
      have HF : Hid (∀ u, Below D.heap.size D u → u.cell? ⟨b6, 0, none⟩ = some (.func (.func 106) #[] #[.pointer (some ⟨b3, 0, none⟩), .pointer (some ⟨b5, 0, none⟩), .pointer (some ⟨b6, 0, none⟩)]) ∧ u.cell? ⟨A.heap.size, 0, none⟩ = some (.int .u64 2) ∧ u.cell? ⟨A.heap.size, 1, none⟩ = some (.int .u64 2)) := Lib.hid (fun u hu => ⟨(HDS.out.k6.below hu HDS.out.k6.lt).cell 0, (HDB.out.below hu HDB.out.lt).cell 0, (HDB.out.below hu HDB.out.lt).cell 1⟩)
      have hj0 : Below D.heap.size D D.drew := (Below.refl _ _).drew
      refine wp_region_late (S := fun u => Below D.heap.size D u) (X := [8]) (by kernel_rfl) ?_
      refine wpAnyL_takeD (i := 0) 75 (.func (.func 106) #[] #[.pointer (some ⟨b3, 0, none⟩), .pointer (some ⟨b5, 0, none⟩), .pointer (some ⟨b6, 0, none⟩)]) rfl rfl (by kernel_rfl) (by kernel_rfl) (by kernel_rfl) (by kernel_rfl) (by kernel_rfl) (fun _ _ _ h => h) hj0 (Or.inl ⟨by rfl, fun u hu => ?_⟩) ?_
      · obtain ⟨t0, t1, t2⟩ := HF.out u hu
        go_simp
      try simp only [Act.put, List.setIfInBounds_toArray, List.set_cons_zero, List.set_cons_succ]
      refine wpAnyL_pureD (i := 1) 76 (.int .i64 0) rfl rfl (by kernel_rfl) (by kernel_rfl) (by kernel_rfl) (fun _ _ _ h => h) (Or.inl ⟨by rfl, fun u _ => ?_⟩) ?_
      · go_simp <;> first | rfl | decide | kernel_rfl
      try simp only [Act.put, List.setIfInBounds_toArray, List.set_cons_zero, List.set_cons_succ]
      refine wpAnyL_pureD (i := 2) 77 (.int .i64 2) rfl rfl (by kernel_rfl) (by kernel_rfl) (by kernel_rfl) (fun _ _ _ h => h) (Or.inl ⟨by rfl, fun u _ => ?_⟩) ?_
      · go_simp <;> first | rfl | decide | kernel_rfl
      try simp only [Act.put, List.setIfInBounds_toArray, List.set_cons_zero, List.set_cons_succ]
      refine wpAnyL_pureD (i := 3) 78 (.int .u64 0) rfl rfl (by kernel_rfl) (by kernel_rfl) (by kernel_rfl) (fun _ _ _ h => h) (Or.inl ⟨by rfl, fun u _ => ?_⟩) ?_
      · go_simp <;> first | rfl | decide | kernel_rfl
      try simp only [Act.put, List.setIfInBounds_toArray, List.set_cons_zero, List.set_cons_succ]
      refine wpAnyL_pureD (i := 4) 79 (.int .i64 2) rfl rfl (by kernel_rfl) (by kernel_rfl) (by kernel_rfl) (fun _ _ _ h => h) (Or.inl ⟨by rfl, fun u _ => ?_⟩) ?_
      · go_simp <;> first | rfl | decide | kernel_rfl
      try simp only [Act.put, List.setIfInBounds_toArray, List.set_cons_zero, List.set_cons_succ]
      refine wpAnyL_pureD (i := 5) 80 (.int .u64 4) rfl rfl (by kernel_rfl) (by kernel_rfl) (by kernel_rfl) (fun _ _ _ h => h) (Or.inl ⟨by rfl, fun u _ => ?_⟩) ?_
      · go_simp <;> first | rfl | decide | kernel_rfl
      try simp only [Act.put, List.setIfInBounds_toArray, List.set_cons_zero, List.set_cons_succ]
      refine wpAnyL_pureD (i := 6) 81 (.int .u64 4) rfl rfl (by kernel_rfl) (by kernel_rfl) (by kernel_rfl) (fun _ _ _ h => h) (Or.inl ⟨by rfl, fun u _ => ?_⟩) ?_
      · go_simp <;> first | rfl | decide | kernel_rfl
      try simp only [Act.put, List.setIfInBounds_toArray, List.set_cons_zero, List.set_cons_succ]
      refine wpAnyL_takeD (i := 7) 82 (.agg #[.int .u64 2, .int .u64 2]) rfl rfl (by kernel_rfl) (by kernel_rfl) (by kernel_rfl) (by kernel_rfl) (by kernel_rfl) (fun _ _ _ h => h) hj0 (Or.inl ⟨by rfl, fun u hu => ?_⟩) ?_
      · obtain ⟨t0, t1, t2⟩ := HF.out u hu
        go_simp
      try simp only [Act.put, List.setIfInBounds_toArray, List.set_cons_zero, List.set_cons_succ]
      refine wpAnyL_one (i := 8) (by kernel_rfl) rfl (fun K hK => ?_)
      go_simp
      refine (walk_0_2_4_2_2 b3 b5 b6 base pb' po' cp D.drew _ _ _ (by simp [addT_0_0_0_0_0]; omega) (HDS.out.keep (Below.refl _ _).drew)).mono ?_
      rintro e' Z ⟨⟨r, rfl⟩, u1, hs9, hk9⟩
      show K _ _
      refine hK.out _ _ (fun h => absurd (by decide) h) ?_
      clear hK K
      try simp only [Act.put, List.setIfInBounds_toArray, List.set_cons_zero, List.set_cons_succ]
      refine wpAnyL_done (by kernel_rfl) ?_ _
      try simp only [Act.put, List.setIfInBounds_toArray, List.set_cons_zero, List.set_cons_succ]
      have HPS := Lib.hid hs9
      have hkd : KW b5 D u0 Z u1 := (KW.below (Below.refl _ _).drew).trans hk9
      have HPQ := Lib.hid (HDK.out.trans hkd)
      have HBX := Lib.hid (HDX.out.kw hkd HNB.out (fun e => HNO2.out e))
      have HPK := Lib.hid (HDP.out.kw hkd HUB.out HUO.out)
      have z0 : Z.cell? ⟨U.heap.size, 0, none⟩ = some (.int .i64 0) := HPK.out.cell 0
      have z1 : Z.cell? ⟨U.heap.size, 1, none⟩ = some (.int .i64 2) := HPK.out.cell 1
      have z2 : Z.cell? ⟨w.heap.size, 0, none⟩ = some (.int .u64 0) := HBX.out.cell 0
      clear hs9 hk9 hkd d0 d1 d2 hdz hj0 HF
      go_wp2
      rw [rounds_succ]
      go_wp2
      rw [rounds_succ]
      go_wp2
      go_roundw
      case rel => exact ⟨2, _, u1, by omega, rfl, rfl, by first | exact HPS.out | simpa [addT_0_0_0_0_0, flat, encT, Nat.add_assoc] using HPS.out, HPQ.out⟩
      case measure => simp [intOf]
    · obtain rfl : z = 2 := hz
      obtain ⟨pb', po', hpe, q1, x1, x2⟩ := hst.kp.two 2 (by decide)
      obtain ⟨rfl, rfl⟩ : pb' = pb ∧ po' = po := by
        injection hpe with h1
        injection h1 with h2 h3
        exact ⟨h2.symm, h3.symm⟩
      have y1 : U.cell? ⟨pb', po' + 4, none⟩ = some (.int .i64 1) := x1
      have y2 : U.cell? ⟨pb', po' + 4 + 1, none⟩ = some (.int .i64 2) := x2
      have y3 : U.cell? ⟨pb', po' + 5, none⟩ = some (.int .i64 2) := x2
      obtain ⟨A, hA⟩ : ∃ A, A = U.alloc (Obj.cells #[.int .i64 1, .int .i64 2] 85) := ⟨_, rfl⟩
      have hb : Below U.heap.size U A := by rw [hA]; exact (Below.refl _ _).alloc (Nat.le_refl _) _
      have HPK : Hid (Blk A U.heap.size 85 #[.int .i64 1, .int .i64 2]) := Lib.hid (by rw [hA]; exact Blk.new _ _ _)
      have HSA := Lib.hid (hst.keep hb)
      have HKA := Lib.hid (hkw.trans (KW.below hb))
      have HNO2 : Hid (some w.heap.size ≠ u0.ownBlock) := Lib.hid (fun e => by
        rcases hkw.own with h4 | ⟨k, h4, h5⟩
        · exact HNO.out (e.trans h4)
        · rw [h4] at e; cases e; have := HZ0.out; omega)
      have HUL : Hid (base ≤ U.heap.size) := Lib.hid hst.lb
      have HUO : Hid (some U.heap.size ≠ u0.ownBlock) := Lib.hid (fun e => by have := (hst.own.lt _ e.symm).2; omega)
      have HUB : Hid (U.heap.size ≠ b5) := Lib.hid (by have := hst.l5; have := hst.lb; omega)
      have HBX := Lib.hid ((HX0.out.kw hkw HNB.out HNO.out).below hb ((HX0.out.kw hkw HNB.out HNO.out).lt))
      have z0 : A.cell? ⟨U.heap.size, 0, none⟩ = some (.int .i64 1) := HPK.out.cell 0
      have z1 : A.cell? ⟨U.heap.size, 1, none⟩ = some (.int .i64 2) := HPK.out.cell 1
      have z2 : A.cell? ⟨w.heap.size, 0, none⟩ = some (.int .u64 0) := HBX.out.cell 0
      clear hpe x1 x2 hst hkw hb
      go_wp2_with fail
      try rw [← hA]
      clear hA y1 y2 y3
      refine wp_loop_rounds 3 ?_
      have ix0 : ∀ w, (Instr.index 85 (.agg #[.int .i64 1, .int .i64 2]) (.int .i64 0)).run Try.prog w = .ok (.int .i64 1) w := fun _ => by kernel_rfl
      have ix1 : ∀ w, (Instr.index 85 (.agg #[.int .i64 1, .int .i64 2]) (.int .i64 1)).run Try.prog w = .ok (.int .i64 2) w := fun _ => by kernel_rfl
      rw [rounds_succ]
      go_wp2
      rw [rounds_succ]
      go_wp2
      rw [rounds_succ]
      go_wp2
      go_roundw
      case rel => exact ⟨3, _, u0, by omega, rfl, rfl, by first | exact HSA.out | simpa [addT_0_0_0_0_0, flat, encT, Nat.add_assoc] using HSA.out, HKA.out⟩
      case measure => simp [intOf]
    · obtain rfl : z = 3 := hz
      have HSE := Lib.hid hst
      have HKE := Lib.hid hkw
      clear hst hkw
      go_wp2
      go_end0
      exact ⟨⟨_, rfl⟩, u0, HSE.out, (KW.below HB0.out).trans HKE.out⟩
def addT_1_2_4_4_4 : Nat → List (Int × Int)
  | 0 => []
  | 1 => []
  | 2 => []
  | _ => []
set_option maxHeartbeats 12800000 in
set_option maxRecDepth 100000 in
theorem walk_1_2_4_4_4 : Walks 10 1 2 4 4 4 [] := by
  intro b3 b5 b6 base pb po cp w u n xs hn h
  obtain ⟨i0, hi0, hz0, hz1, hz2⟩ := info_parts infoT
  have HST := Lib.hid h
  obtain ⟨W0, hW0⟩ : ∃ W0, W0 = w.alloc (Obj.cells #[.int .u64 4, .int .u64 4] 136) := ⟨_, rfl⟩
  have hx0 : Blk W0 w.heap.size 136 #[.int .u64 4, .int .u64 4] := by rw [hW0]; exact Blk.new _ _ _
  have hb0 : Below w.heap.size w W0 := by rw [hW0]; exact (Below.refl _ _).alloc (Nat.le_refl _) _
  have hz : W0.heap.size = w.heap.size + 1 := by rw [hW0]; simp
  have HX0 := Lib.hid hx0
  have HB0 := Lib.hid hb0
  have HZ0 := Lib.hid hz
  have HS0 := Lib.hid (h.keep hb0)
  have HNB : Hid (w.heap.size ≠ b5) := Lib.hid (by have := h.l5; have := h.lb; omega)
  have HNO : Hid (some w.heap.size ≠ u.ownBlock) := Lib.hid (fun e => by have := (h.own.lt _ e.symm).2; omega)
  have c3 : (w.alloc (Obj.cells #[.int .u64 4, .int .u64 4] 136)).cell? ⟨b3, 0, none⟩ = some (.slice (some ⟨pb, po, none⟩) 3 cp) := by rw [← hW0]; exact HS0.out.k3.cell 0
  clear h hx0 hb0 hz
  go_enter Try.func106, Try.ntmps106
  go_wp2_with fail
  rw [← hW0]
  clear hW0
  clear c3
  go_loopw [19] (fun x wr => ∃ k : Nat, ∃ z : Int, ∃ u', k ≤ 3 ∧ x = .int .i64 z ∧ z = k ∧ StW b3 b5 b6 base pb po cp wr u' (n + (addT_1_2_4_4_4 k).length) (xs ++ flat encT (addT_1_2_4_4_4 k)) ∧ KW b5 W0 u wr u') (fun x _ => 3 - (intOf x).toNat)
  case atStart => exact ⟨0, 0, u, by omega, rfl, rfl, by simpa [addT_1_2_4_4_4, flat] using HS0.out, KW.refl _ _ _⟩
  case round =>
    obtain ⟨k, z, u0, hk, rfl, hz, hst, hkw⟩ := hrel
    generalize wr = U at *
    rcases (show k = 0 ∨ k = 1 ∨ k = 2 ∨ k = 3 by omega) with rfl | rfl | rfl | rfl
    · obtain rfl : z = 0 := hz
      obtain ⟨pb', po', hpe, q1, x1, x2⟩ := hst.kp.two 0 (by decide)
      obtain ⟨rfl, rfl⟩ : pb' = pb ∧ po' = po := by
        injection hpe with h1
        injection h1 with h2 h3
        exact ⟨h2.symm, h3.symm⟩
      have y1 : U.cell? ⟨pb', po', none⟩ = some (.int .i64 0) := x1
      have y2 : U.cell? ⟨pb', po' + 0 + 1, none⟩ = some (.int .i64 1) := x2
      have y3 : U.cell? ⟨pb', po' + 1, none⟩ = some (.int .i64 1) := x2
      obtain ⟨A, hA⟩ : ∃ A, A = U.alloc (Obj.cells #[.int .i64 0, .int .i64 1] 85) := ⟨_, rfl⟩
      have hb : Below U.heap.size U A := by rw [hA]; exact (Below.refl _ _).alloc (Nat.le_refl _) _
      have HPK : Hid (Blk A U.heap.size 85 #[.int .i64 0, .int .i64 1]) := Lib.hid (by rw [hA]; exact Blk.new _ _ _)
      have HSA := Lib.hid (hst.keep hb)
      have HKA := Lib.hid (hkw.trans (KW.below hb))
      have HNO2 : Hid (some w.heap.size ≠ u0.ownBlock) := Lib.hid (fun e => by
        rcases hkw.own with h4 | ⟨k, h4, h5⟩
        · exact HNO.out (e.trans h4)
        · rw [h4] at e; cases e; have := HZ0.out; omega)
      have HUL : Hid (base ≤ U.heap.size) := Lib.hid hst.lb
      have HUO : Hid (some U.heap.size ≠ u0.ownBlock) := Lib.hid (fun e => by have := (hst.own.lt _ e.symm).2; omega)
      have HUB : Hid (U.heap.size ≠ b5) := Lib.hid (by have := hst.l5; have := hst.lb; omega)
      have HBX := Lib.hid ((HX0.out.kw hkw HNB.out HNO.out).below hb ((HX0.out.kw hkw HNB.out HNO.out).lt))
      have z0 : A.cell? ⟨U.heap.size, 0, none⟩ = some (.int .i64 0) := HPK.out.cell 0
      have z1 : A.cell? ⟨U.heap.size, 1, none⟩ = some (.int .i64 1) := HPK.out.cell 1
      have z2 : A.cell? ⟨w.heap.size, 0, none⟩ = some (.int .u64 4) := HBX.out.cell 0
      clear hpe x1 x2 hst hkw hb
      go_wp2_with fail
      try rw [← hA]
      clear hA y1 y2 y3
      refine wp_loop_rounds 3 ?_
      have ix0 : ∀ w, (Instr.index 85 (.agg #[.int .i64 0, .int .i64 1]) (.int .i64 0)).run Try.prog w = .ok (.int .i64 0) w := fun _ => by kernel_rfl
      have ix1 : ∀ w, (Instr.index 85 (.agg #[.int .i64 0, .int .i64 1]) (.int .i64 1)).run Try.prog w = .ok (.int .i64 1) w := fun _ => by kernel_rfl
      rw [rounds_succ]
      go_wp2
      rw [rounds_succ]
      go_wp2
      rw [rounds_succ]
      go_wp2
      go_roundw
      case rel => exact ⟨1, _, u0, by omega, rfl, rfl, by first | exact HSA.out | simpa [addT_1_2_4_4_4, flat, encT, Nat.add_assoc] using HSA.out, HKA.out⟩
      case measure => simp [intOf]
    · obtain rfl : z = 1 := hz
      obtain ⟨pb', po', hpe, q1, x1, x2⟩ := hst.kp.two 1 (by decide)
      obtain ⟨rfl, rfl⟩ : pb' = pb ∧ po' = po := by
        injection hpe with h1
        injection h1 with h2 h3
        exact ⟨h2.symm, h3.symm⟩
      have y1 : U.cell? ⟨pb', po' + 2, none⟩ = some (.int .i64 0) := x1
      have y2 : U.cell? ⟨pb', po' + 2 + 1, none⟩ = some (.int .i64 2) := x2
      have y3 : U.cell? ⟨pb', po' + 3, none⟩ = some (.int .i64 2) := x2
      obtain ⟨A, hA⟩ : ∃ A, A = U.alloc (Obj.cells #[.int .i64 0, .int .i64 2] 85) := ⟨_, rfl⟩
      have hb : Below U.heap.size U A := by rw [hA]; exact (Below.refl _ _).alloc (Nat.le_refl _) _
      have HPK : Hid (Blk A U.heap.size 85 #[.int .i64 0, .int .i64 2]) := Lib.hid (by rw [hA]; exact Blk.new _ _ _)
      have HSA := Lib.hid (hst.keep hb)
      have HKA := Lib.hid (hkw.trans (KW.below hb))
      have HNO2 : Hid (some w.heap.size ≠ u0.ownBlock) := Lib.hid (fun e => by
        rcases hkw.own with h4 | ⟨k, h4, h5⟩
        · exact HNO.out (e.trans h4)
        · rw [h4] at e; cases e; have := HZ0.out; omega)
      have HUL : Hid (base ≤ U.heap.size) := Lib.hid hst.lb
      have HUO : Hid (some U.heap.size ≠ u0.ownBlock) := Lib.hid (fun e => by have := (hst.own.lt _ e.symm).2; omega)
      have HUB : Hid (U.heap.size ≠ b5) := Lib.hid (by have := hst.l5; have := hst.lb; omega)
      have HBX := Lib.hid ((HX0.out.kw hkw HNB.out HNO.out).below hb ((HX0.out.kw hkw HNB.out HNO.out).lt))
      have z0 : A.cell? ⟨U.heap.size, 0, none⟩ = some (.int .i64 0) := HPK.out.cell 0
      have z1 : A.cell? ⟨U.heap.size, 1, none⟩ = some (.int .i64 2) := HPK.out.cell 1
      have z2 : A.cell? ⟨w.heap.size, 0, none⟩ = some (.int .u64 4) := HBX.out.cell 0
      clear hpe x1 x2 hst hkw hb
      go_wp2_with fail
      try rw [← hA]
      clear hA y1 y2 y3
      refine wp_loop_rounds 3 ?_
      have ix0 : ∀ w, (Instr.index 85 (.agg #[.int .i64 0, .int .i64 2]) (.int .i64 0)).run Try.prog w = .ok (.int .i64 0) w := fun _ => by kernel_rfl
      have ix1 : ∀ w, (Instr.index 85 (.agg #[.int .i64 0, .int .i64 2]) (.int .i64 1)).run Try.prog w = .ok (.int .i64 2) w := fun _ => by kernel_rfl
      rw [rounds_succ]
      go_wp2
      rw [rounds_succ]
      go_wp2
      rw [rounds_succ]
      go_wp2
      go_roundw
      case rel => exact ⟨2, _, u0, by omega, rfl, rfl, by first | exact HSA.out | simpa [addT_1_2_4_4_4, flat, encT, Nat.add_assoc] using HSA.out, HKA.out⟩
      case measure => simp [intOf]
    · obtain rfl : z = 2 := hz
      obtain ⟨pb', po', hpe, q1, x1, x2⟩ := hst.kp.two 2 (by decide)
      obtain ⟨rfl, rfl⟩ : pb' = pb ∧ po' = po := by
        injection hpe with h1
        injection h1 with h2 h3
        exact ⟨h2.symm, h3.symm⟩
      have y1 : U.cell? ⟨pb', po' + 4, none⟩ = some (.int .i64 1) := x1
      have y2 : U.cell? ⟨pb', po' + 4 + 1, none⟩ = some (.int .i64 2) := x2
      have y3 : U.cell? ⟨pb', po' + 5, none⟩ = some (.int .i64 2) := x2
      obtain ⟨A, hA⟩ : ∃ A, A = U.alloc (Obj.cells #[.int .i64 1, .int .i64 2] 85) := ⟨_, rfl⟩
      have hb : Below U.heap.size U A := by rw [hA]; exact (Below.refl _ _).alloc (Nat.le_refl _) _
      have HPK : Hid (Blk A U.heap.size 85 #[.int .i64 1, .int .i64 2]) := Lib.hid (by rw [hA]; exact Blk.new _ _ _)
      have HSA := Lib.hid (hst.keep hb)
      have HKA := Lib.hid (hkw.trans (KW.below hb))
      have HNO2 : Hid (some w.heap.size ≠ u0.ownBlock) := Lib.hid (fun e => by
        rcases hkw.own with h4 | ⟨k, h4, h5⟩
        · exact HNO.out (e.trans h4)
        · rw [h4] at e; cases e; have := HZ0.out; omega)
      have HUL : Hid (base ≤ U.heap.size) := Lib.hid hst.lb
      have HUO : Hid (some U.heap.size ≠ u0.ownBlock) := Lib.hid (fun e => by have := (hst.own.lt _ e.symm).2; omega)
      have HUB : Hid (U.heap.size ≠ b5) := Lib.hid (by have := hst.l5; have := hst.lb; omega)
      have HBX := Lib.hid ((HX0.out.kw hkw HNB.out HNO.out).below hb ((HX0.out.kw hkw HNB.out HNO.out).lt))
      have z0 : A.cell? ⟨U.heap.size, 0, none⟩ = some (.int .i64 1) := HPK.out.cell 0
      have z1 : A.cell? ⟨U.heap.size, 1, none⟩ = some (.int .i64 2) := HPK.out.cell 1
      have z2 : A.cell? ⟨w.heap.size, 0, none⟩ = some (.int .u64 4) := HBX.out.cell 0
      clear hpe x1 x2 hst hkw hb
      go_wp2_with fail
      try rw [← hA]
      clear hA y1 y2 y3
      refine wp_loop_rounds 3 ?_
      have ix0 : ∀ w, (Instr.index 85 (.agg #[.int .i64 1, .int .i64 2]) (.int .i64 0)).run Try.prog w = .ok (.int .i64 1) w := fun _ => by kernel_rfl
      have ix1 : ∀ w, (Instr.index 85 (.agg #[.int .i64 1, .int .i64 2]) (.int .i64 1)).run Try.prog w = .ok (.int .i64 2) w := fun _ => by kernel_rfl
      rw [rounds_succ]
      go_wp2
      rw [rounds_succ]
      go_wp2
      rw [rounds_succ]
      go_wp2
      go_roundw
      case rel => exact ⟨3, _, u0, by omega, rfl, rfl, by first | exact HSA.out | simpa [addT_1_2_4_4_4, flat, encT, Nat.add_assoc] using HSA.out, HKA.out⟩
      case measure => simp [intOf]
    · obtain rfl : z = 3 := hz
      have HSE := Lib.hid hst
      have HKE := Lib.hid hkw
      clear hst hkw
      go_wp2
      go_end0
      exact ⟨⟨_, rfl⟩, u0, HSE.out, (KW.below HB0.out).trans HKE.out⟩
def addT_1_1_0_0_0 : Nat → List (Int × Int)
  | 0 => []
  | 1 => []
  | 2 => []
  | _ => []
set_option maxHeartbeats 12800000 in
set_option maxRecDepth 100000 in
theorem walk_1_1_0_0_0 : Walks 10 1 1 0 0 0 [] := by
  intro b3 b5 b6 base pb po cp w u n xs hn h
  obtain ⟨i0, hi0, hz0, hz1, hz2⟩ := info_parts infoT
  have HST := Lib.hid h
  obtain ⟨W0, hW0⟩ : ∃ W0, W0 = w.alloc (Obj.cells #[.int .u64 0, .int .u64 0] 136) := ⟨_, rfl⟩
  have hx0 : Blk W0 w.heap.size 136 #[.int .u64 0, .int .u64 0] := by rw [hW0]; exact Blk.new _ _ _
  have hb0 : Below w.heap.size w W0 := by rw [hW0]; exact (Below.refl _ _).alloc (Nat.le_refl _) _
  have hz : W0.heap.size = w.heap.size + 1 := by rw [hW0]; simp
  have HX0 := Lib.hid hx0
  have HB0 := Lib.hid hb0
  have HZ0 := Lib.hid hz
  have HS0 := Lib.hid (h.keep hb0)
  have HNB : Hid (w.heap.size ≠ b5) := Lib.hid (by have := h.l5; have := h.lb; omega)
  have HNO : Hid (some w.heap.size ≠ u.ownBlock) := Lib.hid (fun e => by have := (h.own.lt _ e.symm).2; omega)
  have c3 : (w.alloc (Obj.cells #[.int .u64 0, .int .u64 0] 136)).cell? ⟨b3, 0, none⟩ = some (.slice (some ⟨pb, po, none⟩) 3 cp) := by rw [← hW0]; exact HS0.out.k3.cell 0
  clear h hx0 hb0 hz
  go_enter Try.func106, Try.ntmps106
  go_wp2_with fail
  rw [← hW0]
  clear hW0
  clear c3
  go_loopw [19] (fun x wr => ∃ k : Nat, ∃ z : Int, ∃ u', k ≤ 3 ∧ x = .int .i64 z ∧ z = k ∧ StW b3 b5 b6 base pb po cp wr u' (n + (addT_1_1_0_0_0 k).length) (xs ++ flat encT (addT_1_1_0_0_0 k)) ∧ KW b5 W0 u wr u') (fun x _ => 3 - (intOf x).toNat)
  case atStart => exact ⟨0, 0, u, by omega, rfl, rfl, by simpa [addT_1_1_0_0_0, flat] using HS0.out, KW.refl _ _ _⟩
  case round =>
    obtain ⟨k, z, u0, hk, rfl, hz, hst, hkw⟩ := hrel
    generalize wr = U at *
    rcases (show k = 0 ∨ k = 1 ∨ k = 2 ∨ k = 3 by omega) with rfl | rfl | rfl | rfl
    · obtain rfl : z = 0 := hz
      obtain ⟨pb', po', hpe, q1, x1, x2⟩ := hst.kp.two 0 (by decide)
      obtain ⟨rfl, rfl⟩ : pb' = pb ∧ po' = po := by
        injection hpe with h1
        injection h1 with h2 h3
        exact ⟨h2.symm, h3.symm⟩
      have y1 : U.cell? ⟨pb', po', none⟩ = some (.int .i64 0) := x1
      have y2 : U.cell? ⟨pb', po' + 0 + 1, none⟩ = some (.int .i64 1) := x2
      have y3 : U.cell? ⟨pb', po' + 1, none⟩ = some (.int .i64 1) := x2
      obtain ⟨A, hA⟩ : ∃ A, A = U.alloc (Obj.cells #[.int .i64 0, .int .i64 1] 85) := ⟨_, rfl⟩
      have hb : Below U.heap.size U A := by rw [hA]; exact (Below.refl _ _).alloc (Nat.le_refl _) _
      have HPK : Hid (Blk A U.heap.size 85 #[.int .i64 0, .int .i64 1]) := Lib.hid (by rw [hA]; exact Blk.new _ _ _)
      have HSA := Lib.hid (hst.keep hb)
      have HKA := Lib.hid (hkw.trans (KW.below hb))
      have HNO2 : Hid (some w.heap.size ≠ u0.ownBlock) := Lib.hid (fun e => by
        rcases hkw.own with h4 | ⟨k, h4, h5⟩
        · exact HNO.out (e.trans h4)
        · rw [h4] at e; cases e; have := HZ0.out; omega)
      have HUL : Hid (base ≤ U.heap.size) := Lib.hid hst.lb
      have HUO : Hid (some U.heap.size ≠ u0.ownBlock) := Lib.hid (fun e => by have := (hst.own.lt _ e.symm).2; omega)
      have HUB : Hid (U.heap.size ≠ b5) := Lib.hid (by have := hst.l5; have := hst.lb; omega)
      have HBX := Lib.hid ((HX0.out.kw hkw HNB.out HNO.out).below hb ((HX0.out.kw hkw HNB.out HNO.out).lt))
      have z0 : A.cell? ⟨U.heap.size, 0, none⟩ = some (.int .i64 0) := HPK.out.cell 0
      have z1 : A.cell? ⟨U.heap.size, 1, none⟩ = some (.int .i64 1) := HPK.out.cell 1
      have z2 : A.cell? ⟨w.heap.size, 0, none⟩ = some (.int .u64 0) := HBX.out.cell 0
      clear hpe x1 x2 hst hkw hb
      go_wp2_with fail
      try rw [← hA]
      clear hA y1 y2 y3
      refine wp_loop_rounds 3 ?_
      have ix0 : ∀ w, (Instr.index 85 (.agg #[.int .i64 0, .int .i64 1]) (.int .i64 0)).run Try.prog w = .ok (.int .i64 0) w := fun _ => by kernel_rfl
      have ix1 : ∀ w, (Instr.index 85 (.agg #[.int .i64 0, .int .i64 1]) (.int .i64 1)).run Try.prog w = .ok (.int .i64 1) w := fun _ => by kernel_rfl
      rw [rounds_succ]
      go_wp2
      rw [rounds_succ]
      go_wp2
      rw [rounds_succ]
      go_wp2
      go_roundw
      case rel => exact ⟨1, _, u0, by omega, rfl, rfl, by first | exact HSA.out | simpa [addT_1_1_0_0_0, flat, encT, Nat.add_assoc] using HSA.out, HKA.out⟩
      case measure => simp [intOf]
    · obtain rfl : z = 1 := hz
      obtain ⟨pb', po', hpe, q1, x1, x2⟩ := hst.kp.two 1 (by decide)
      obtain ⟨rfl, rfl⟩ : pb' = pb ∧ po' = po := by
        injection hpe with h1
        injection h1 with h2 h3
        exact ⟨h2.symm, h3.symm⟩
      have y1 : U.cell? ⟨pb', po' + 2, none⟩ = some (.int .i64 0) := x1
      have y2 : U.cell? ⟨pb', po' + 2 + 1, none⟩ = some (.int .i64 2) := x2
      have y3 : U.cell? ⟨pb', po' + 3, none⟩ = some (.int .i64 2) := x2
      obtain ⟨A, hA⟩ : ∃ A, A = U.alloc (Obj.cells #[.int .i64 0, .int .i64 2] 85) := ⟨_, rfl⟩
      have hb : Below U.heap.size U A := by rw [hA]; exact (Below.refl _ _).alloc (Nat.le_refl _) _
      have HPK : Hid (Blk A U.heap.size 85 #[.int .i64 0, .int .i64 2]) := Lib.hid (by rw [hA]; exact Blk.new _ _ _)
      have HSA := Lib.hid (hst.keep hb)
      have HKA := Lib.hid (hkw.trans (KW.below hb))
      have HNO2 : Hid (some w.heap.size ≠ u0.ownBlock) := Lib.hid (fun e => by
        rcases hkw.own with h4 | ⟨k, h4, h5⟩
        · exact HNO.out (e.trans h4)
        · rw [h4] at e; cases e; have := HZ0.out; omega)
      have HUL : Hid (base ≤ U.heap.size) := Lib.hid hst.lb
      have HUO : Hid (some U.heap.size ≠ u0.ownBlock) := Lib.hid (fun e => by have := (hst.own.lt _ e.symm).2; omega)
      have HUB : Hid (U.heap.size ≠ b5) := Lib.hid (by have := hst.l5; have := hst.lb; omega)
      have HBX := Lib.hid ((HX0.out.kw hkw HNB.out HNO.out).below hb ((HX0.out.kw hkw HNB.out HNO.out).lt))
      have z0 : A.cell? ⟨U.heap.size, 0, none⟩ = some (.int .i64 0) := HPK.out.cell 0
      have z1 : A.cell? ⟨U.heap.size, 1, none⟩ = some (.int .i64 2) := HPK.out.cell 1
      have z2 : A.cell? ⟨w.heap.size, 0, none⟩ = some (.int .u64 0) := HBX.out.cell 0
      clear hpe x1 x2 hst hkw hb
      go_wp2_with fail
      try rw [← hA]
      clear hA y1 y2 y3
      refine wp_loop_rounds 3 ?_
      have ix0 : ∀ w, (Instr.index 85 (.agg #[.int .i64 0, .int .i64 2]) (.int .i64 0)).run Try.prog w = .ok (.int .i64 0) w := fun _ => by kernel_rfl
      have ix1 : ∀ w, (Instr.index 85 (.agg #[.int .i64 0, .int .i64 2]) (.int .i64 1)).run Try.prog w = .ok (.int .i64 2) w := fun _ => by kernel_rfl
      rw [rounds_succ]
      go_wp2
      rw [rounds_succ]
      go_wp2
      rw [rounds_succ]
      go_wp2
      go_roundw
      case rel => exact ⟨2, _, u0, by omega, rfl, rfl, by first | exact HSA.out | simpa [addT_1_1_0_0_0, flat, encT, Nat.add_assoc] using HSA.out, HKA.out⟩
      case measure => simp [intOf]
    · obtain rfl : z = 2 := hz
      obtain ⟨pb', po', hpe, q1, x1, x2⟩ := hst.kp.two 2 (by decide)
      obtain ⟨rfl, rfl⟩ : pb' = pb ∧ po' = po := by
        injection hpe with h1
        injection h1 with h2 h3
        exact ⟨h2.symm, h3.symm⟩
      have y1 : U.cell? ⟨pb', po' + 4, none⟩ = some (.int .i64 1) := x1
      have y2 : U.cell? ⟨pb', po' + 4 + 1, none⟩ = some (.int .i64 2) := x2
      have y3 : U.cell? ⟨pb', po' + 5, none⟩ = some (.int .i64 2) := x2
      obtain ⟨A, hA⟩ : ∃ A, A = U.alloc (Obj.cells #[.int .i64 1, .int .i64 2] 85) := ⟨_, rfl⟩
      have hb : Below U.heap.size U A := by rw [hA]; exact (Below.refl _ _).alloc (Nat.le_refl _) _
      have HPK : Hid (Blk A U.heap.size 85 #[.int .i64 1, .int .i64 2]) := Lib.hid (by rw [hA]; exact Blk.new _ _ _)
      have HSA := Lib.hid (hst.keep hb)
      have HKA := Lib.hid (hkw.trans (KW.below hb))
      have HNO2 : Hid (some w.heap.size ≠ u0.ownBlock) := Lib.hid (fun e => by
        rcases hkw.own with h4 | ⟨k, h4, h5⟩
        · exact HNO.out (e.trans h4)
        · rw [h4] at e; cases e; have := HZ0.out; omega)
      have HUL : Hid (base ≤ U.heap.size) := Lib.hid hst.lb
      have HUO : Hid (some U.heap.size ≠ u0.ownBlock) := Lib.hid (fun e => by have := (hst.own.lt _ e.symm).2; omega)
      have HUB : Hid (U.heap.size ≠ b5) := Lib.hid (by have := hst.l5; have := hst.lb; omega)
      have HBX := Lib.hid ((HX0.out.kw hkw HNB.out HNO.out).below hb ((HX0.out.kw hkw HNB.out HNO.out).lt))
      have z0 : A.cell? ⟨U.heap.size, 0, none⟩ = some (.int .i64 1) := HPK.out.cell 0
      have z1 : A.cell? ⟨U.heap.size, 1, none⟩ = some (.int .i64 2) := HPK.out.cell 1
      have z2 : A.cell? ⟨w.heap.size, 0, none⟩ = some (.int .u64 0) := HBX.out.cell 0
      clear hpe x1 x2 hst hkw hb
      go_wp2_with fail
      try rw [← hA]
      clear hA y1 y2 y3
      refine wp_loop_rounds 3 ?_
      have ix0 : ∀ w, (Instr.index 85 (.agg #[.int .i64 1, .int .i64 2]) (.int .i64 0)).run Try.prog w = .ok (.int .i64 1) w := fun _ => by kernel_rfl
      have ix1 : ∀ w, (Instr.index 85 (.agg #[.int .i64 1, .int .i64 2]) (.int .i64 1)).run Try.prog w = .ok (.int .i64 2) w := fun _ => by kernel_rfl
      rw [rounds_succ]
      go_wp2
      have HF : Hid (∀ u, Below A.heap.size A u → u.cell? ⟨w.heap.size, 0, none⟩ = some (.int .u64 0) ∧ u.cell? ⟨w.heap.size, 1, none⟩ = some (.int .u64 0)) := Lib.hid (fun u hu => ⟨(HBX.out.below hu HBX.out.lt).cell 0, (HBX.out.below hu HBX.out.lt).cell 1⟩)
      have hj0 : Below A.heap.size A A.drew := (Below.refl _ _).drew
      refine wp_region_late (S := fun u => Below A.heap.size A u) (X := [15]) (by kernel_rfl) ?_
      refine wpAnyL_pureD (i := 0) 49 (.pointer (some ⟨w.heap.size, 0, none⟩)) rfl rfl (by kernel_rfl) (by kernel_rfl) (by kernel_rfl) (fun _ _ _ h => h) (Or.inl ⟨by rfl, fun u _ => ?_⟩) ?_
      · go_simp <;> first | rfl | decide | kernel_rfl
      try simp only [Act.put, List.setIfInBounds_toArray, List.set_cons_zero, List.set_cons_succ]
      refine wpAnyL_takeD (i := 1) 50 (.int .u64 0) rfl rfl (by kernel_rfl) (by kernel_rfl) (by kernel_rfl) (by kernel_rfl) (by kernel_rfl) (fun _ _ _ h => h) hj0 (Or.inl ⟨by rfl, fun u hu => ?_⟩) ?_
      · obtain ⟨t0, t1⟩ := HF.out u hu
        go_simp
      try simp only [Act.put, List.setIfInBounds_toArray, List.set_cons_zero, List.set_cons_succ]
      refine wpAnyL_pureD (i := 2) 51 (.int .i64 2) rfl rfl (by kernel_rfl) (by kernel_rfl) (by kernel_rfl) (fun _ _ _ h => h) (Or.inl ⟨by rfl, fun u _ => ?_⟩) ?_
      · go_simp <;> first | rfl | decide | kernel_rfl
      try simp only [Act.put, List.setIfInBounds_toArray, List.set_cons_zero, List.set_cons_succ]
      refine wpAnyL_pureD (i := 3) 52 (.int .u64 4) rfl rfl (by kernel_rfl) (by kernel_rfl) (by kernel_rfl) (fun _ _ _ h => h) (Or.inl ⟨by rfl, fun u _ => ?_⟩) ?_
      · go_simp <;> first | rfl | decide | kernel_rfl
      try simp only [Act.put, List.setIfInBounds_toArray, List.set_cons_zero, List.set_cons_succ]
      refine wpAnyL_pureD (i := 4) 53 (.int .u64 4) rfl rfl (by kernel_rfl) (by kernel_rfl) (by kernel_rfl) (fun _ _ _ h => h) (Or.inl ⟨by rfl, fun u _ => ?_⟩) ?_
      · go_simp <;> first | rfl | decide | kernel_rfl
      try simp only [Act.put, List.setIfInBounds_toArray, List.set_cons_zero, List.set_cons_succ]
      refine wpAnyL_pureD (i := 5) 54 (.pointer (some ⟨w.heap.size, 1, none⟩)) rfl rfl (by kernel_rfl) (by kernel_rfl) (by kernel_rfl) (fun _ _ _ h => h) (Or.inl ⟨by rfl, fun u _ => ?_⟩) ?_
      · go_simp <;> first | rfl | decide | kernel_rfl
      try simp only [Act.put, List.setIfInBounds_toArray, List.set_cons_zero, List.set_cons_succ]
      refine wpAnyL_takeD (i := 6) 55 (.int .u64 0) rfl rfl (by kernel_rfl) (by kernel_rfl) (by kernel_rfl) (by kernel_rfl) (by kernel_rfl) (fun _ _ _ h => h) hj0 (Or.inl ⟨by rfl, fun u hu => ?_⟩) ?_
      · obtain ⟨t0, t1⟩ := HF.out u hu
        go_simp
      try simp only [Act.put, List.setIfInBounds_toArray, List.set_cons_zero, List.set_cons_succ]
      refine wpAnyL_pureD (i := 7) 56 (.int .i64 0) rfl rfl (by kernel_rfl) (by kernel_rfl) (by kernel_rfl) (fun _ _ _ h => h) (Or.inl ⟨by rfl, fun u _ => ?_⟩) ?_
      · go_simp <;> first | rfl | decide | kernel_rfl
      try simp only [Act.put, List.setIfInBounds_toArray, List.set_cons_zero, List.set_cons_succ]
      refine wpAnyL_pureD (i := 8) 57 (.int .i64 1) rfl rfl (by kernel_rfl) (by kernel_rfl) (by kernel_rfl) (fun _ _ _ h => h) (Or.inl ⟨by rfl, fun u _ => ?_⟩) ?_
      · go_simp <;> first | rfl | decide | kernel_rfl
      try simp only [Act.put, List.setIfInBounds_toArray, List.set_cons_zero, List.set_cons_succ]
      refine wpAnyL_pureD (i := 9) 58 (.int .u64 1) rfl rfl (by kernel_rfl) (by kernel_rfl) (by kernel_rfl) (fun _ _ _ h => h) (Or.inl ⟨by rfl, fun u _ => ?_⟩) ?_
      · go_simp <;> first | rfl | decide | kernel_rfl
      try simp only [Act.put, List.setIfInBounds_toArray, List.set_cons_zero, List.set_cons_succ]
      refine wpAnyL_pureD (i := 10) 59 (.int .i64 2) rfl rfl (by kernel_rfl) (by kernel_rfl) (by kernel_rfl) (fun _ _ _ h => h) (Or.inl ⟨by rfl, fun u _ => ?_⟩) ?_
      · go_simp <;> first | rfl | decide | kernel_rfl
      try simp only [Act.put, List.setIfInBounds_toArray, List.set_cons_zero, List.set_cons_succ]
      refine wpAnyL_pureD (i := 11) 60 (.int .u64 4) rfl rfl (by kernel_rfl) (by kernel_rfl) (by kernel_rfl) (fun _ _ _ h => h) (Or.inl ⟨by rfl, fun u _ => ?_⟩) ?_
      · go_simp <;> first | rfl | decide | kernel_rfl
      try simp only [Act.put, List.setIfInBounds_toArray, List.set_cons_zero, List.set_cons_succ]
      refine wpAnyL_pureD (i := 12) 61 (.int .u64 4) rfl rfl (by kernel_rfl) (by kernel_rfl) (by kernel_rfl) (fun _ _ _ h => h) (Or.inl ⟨by rfl, fun u _ => ?_⟩) ?_
      · go_simp <;> first | rfl | decide | kernel_rfl
      try simp only [Act.put, List.setIfInBounds_toArray, List.set_cons_zero, List.set_cons_succ]
      refine wpAnyL_pureD (i := 13) 62 (.agg #[.int .u64 4, .int .u64 4]) rfl rfl (by kernel_rfl) (by kernel_rfl) (by kernel_rfl) (fun _ _ _ h => h) (Or.inl ⟨by rfl, fun u _ => ?_⟩) ?_
      · go_simp <;> first | rfl | decide | kernel_rfl
      try simp only [Act.put, List.setIfInBounds_toArray, List.set_cons_zero, List.set_cons_succ]
      refine wpAnyL_one (i := 14) (by kernel_rfl) rfl (fun K hK => ?_)
      go_simp
      refine hK.out _ _ (fun _ _ => (((Below.refl _ _).alloc (Nat.le_refl _) _).drew)) ?_
      clear hK K
      try simp only [Act.put, List.setIfInBounds_toArray, List.set_cons_zero, List.set_cons_succ]
      refine wpAnyL_one (i := 15) (by kernel_rfl) rfl (fun K hK => ?_)
      go_simp
      obtain ⟨D, hD⟩ : ∃ D, D = (A.alloc (Obj.cells #[.int .u64 4, .int .u64 4] 136)).drew := ⟨_, rfl⟩
      have hdb : Blk D A.heap.size 136 #[.int .u64 4, .int .u64 4] := by rw [hD]; exact Blk.new _ _ _
      have hdl : Below A.heap.size A D := by rw [hD]; exact ((Below.refl _ _).alloc (Nat.le_refl _) _).drew
      rw [← hD]
      refine hK.out _ _ (fun h => absurd (by decide) h) ?_
      clear hK K hD hj0 HF
      try simp only [Act.put, List.setIfInBounds_toArray, List.set_cons_zero, List.set_cons_succ]
      refine wpAnyL_done (by kernel_rfl) ?_ _
      try simp only [Act.put, List.setIfInBounds_toArray, List.set_cons_zero, List.set_cons_succ]
      have HDB := Lib.hid hdb
      have HDS := Lib.hid (HSA.out.keep hdl)
      have HDK := Lib.hid (HKA.out.trans (KW.below hdl))
      have d0 : D.cell? ⟨b5, 0, none⟩ = some u0 := HDS.out.k5.cell 0
      have d1 : D.cell? ⟨A.heap.size, 0, none⟩ = some (.int .u64 4) := HDB.out.cell 0
      have d2 : D.cell? ⟨A.heap.size, 1, none⟩ = some (.int .u64 4) := HDB.out.cell 1
      have HDX := Lib.hid (HBX.out.below hdl HBX.out.lt)
      have HDP := Lib.hid (HPK.out.below hdl HPK.out.lt)
      have hdz : base ≤ D.heap.size := HDS.out.lb
      clear hdb hdl z0 z1 z2
      go_wp2
      have HF : Hid (∀ u, Below D.heap.size D u → u.cell? ⟨b6, 0, none⟩ = some (.func (.func 106) #[] #[.pointer (some ⟨b3, 0, none⟩), .pointer (some ⟨b5, 0, none⟩), .pointer (some ⟨b6, 0, none⟩)]) ∧ u.cell? ⟨A.heap.size, 0, none⟩ = some (.int .u64 4) ∧ u.cell? ⟨A.heap.size, 1, none⟩ = some (.int .u64 4)) := Lib.hid (fun u hu => ⟨(HDS.out.k6.below hu HDS.out.k6.lt).cell 0, (HDB.out.below hu HDB.out.lt).cell 0, (HDB.out.below hu HDB.out.lt).cell 1⟩)
      have hj0 : Below D.heap.size D D.drew := (Below.refl _ _).drew
      refine wp_region_late (S := fun u => Below D.heap.size D u) (X := [8]) (by kernel_rfl) ?_
      refine wpAnyL_takeD (i := 0) 75 (.func (.func 106) #[] #[.pointer (some ⟨b3, 0, none⟩), .pointer (some ⟨b5, 0, none⟩), .pointer (some ⟨b6, 0, none⟩)]) rfl rfl (by kernel_rfl) (by kernel_rfl) (by kernel_rfl) (by kernel_rfl) (by kernel_rfl) (fun _ _ _ h => h) hj0 (Or.inl ⟨by rfl, fun u hu => ?_⟩) ?_
      · obtain ⟨t0, t1, t2⟩ := HF.out u hu
        go_simp
      try simp only [Act.put, List.setIfInBounds_toArray, List.set_cons_zero, List.set_cons_succ]
      refine wpAnyL_pureD (i := 1) 76 (.int .i64 1) rfl rfl (by kernel_rfl) (by kernel_rfl) (by kernel_rfl) (fun _ _ _ h => h) (Or.inl ⟨by rfl, fun u _ => ?_⟩) ?_
      · go_simp <;> first | rfl | decide | kernel_rfl
      try simp only [Act.put, List.setIfInBounds_toArray, List.set_cons_zero, List.set_cons_succ]
      refine wpAnyL_pureD (i := 2) 77 (.int .i64 2) rfl rfl (by kernel_rfl) (by kernel_rfl) (by kernel_rfl) (fun _ _ _ h => h) (Or.inl ⟨by rfl, fun u _ => ?_⟩) ?_
      · go_simp <;> first | rfl | decide | kernel_rfl
      try simp only [Act.put, List.setIfInBounds_toArray, List.set_cons_zero, List.set_cons_succ]
      refine wpAnyL_pureD (i := 3) 78 (.int .u64 0) rfl rfl (by kernel_rfl) (by kernel_rfl) (by kernel_rfl) (fun _ _ _ h => h) (Or.inl ⟨by rfl, fun u _ => ?_⟩) ?_
      · go_simp <;> first | rfl | decide | kernel_rfl
      try simp only [Act.put, List.setIfInBounds_toArray, List.set_cons_zero, List.set_cons_succ]
      refine wpAnyL_pureD (i := 4) 79 (.int .i64 2) rfl rfl (by kernel_rfl) (by kernel_rfl) (by kernel_rfl) (fun _ _ _ h => h) (Or.inl ⟨by rfl, fun u _ => ?_⟩) ?_
      · go_simp <;> first | rfl | decide | kernel_rfl
      try simp only [Act.put, List.setIfInBounds_toArray, List.set_cons_zero, List.set_cons_succ]
      refine wpAnyL_pureD (i := 5) 80 (.int .u64 4) rfl rfl (by kernel_rfl) (by kernel_rfl) (by kernel_rfl) (fun _ _ _ h => h) (Or.inl ⟨by rfl, fun u _ => ?_⟩) ?_
      · go_simp <;> first | rfl | decide | kernel_rfl
      try simp only [Act.put, List.setIfInBounds_toArray, List.set_cons_zero, List.set_cons_succ]
      refine wpAnyL_pureD (i := 6) 81 (.int .u64 4) rfl rfl (by kernel_rfl) (by kernel_rfl) (by kernel_rfl) (fun _ _ _ h => h) (Or.inl ⟨by rfl, fun u _ => ?_⟩) ?_
      · go_simp <;> first | rfl | decide | kernel_rfl
      try simp only [Act.put, List.setIfInBounds_toArray, List.set_cons_zero, List.set_cons_succ]
      refine wpAnyL_takeD (i := 7) 82 (.agg #[.int .u64 4, .int .u64 4]) rfl rfl (by kernel_rfl) (by kernel_rfl) (by kernel_rfl) (by kernel_rfl) (by kernel_rfl) (fun _ _ _ h => h) hj0 (Or.inl ⟨by rfl, fun u hu => ?_⟩) ?_
      · obtain ⟨t0, t1, t2⟩ := HF.out u hu
        go_simp
      try simp only [Act.put, List.setIfInBounds_toArray, List.set_cons_zero, List.set_cons_succ]
      refine wpAnyL_one (i := 8) (by kernel_rfl) rfl (fun K hK => ?_)
      go_simp
      refine (walk_1_2_4_4_4 b3 b5 b6 base pb' po' cp D.drew _ _ _ (by simp [addT_1_1_0_0_0]; omega) (HDS.out.keep (Below.refl _ _).drew)).mono ?_
      rintro e' Z ⟨⟨r, rfl⟩, u1, hs9, hk9⟩
      show K _ _
      refine hK.out _ _ (fun h => absurd (by decide) h) ?_
      clear hK K
      try simp only [Act.put, List.setIfInBounds_toArray, List.set_cons_zero, List.set_cons_succ]
      refine wpAnyL_done (by kernel_rfl) ?_ _
      try simp only [Act.put, List.setIfInBounds_toArray, List.set_cons_zero, List.set_cons_succ]
      have HPS := Lib.hid hs9
      have hkd : KW b5 D u0 Z u1 := (KW.below (Below.refl _ _).drew).trans hk9
      have HPQ := Lib.hid (HDK.out.trans hkd)
      have HBX := Lib.hid (HDX.out.kw hkd HNB.out (fun e => HNO2.out e))
      have HPK := Lib.hid (HDP.out.kw hkd HUB.out HUO.out)
      have z0 : Z.cell? ⟨U.heap.size, 0, none⟩ = some (.int .i64 1) := HPK.out.cell 0
      have z1 : Z.cell? ⟨U.heap.size, 1, none⟩ = some (.int .i64 2) := HPK.out.cell 1
      have z2 : Z.cell? ⟨w.heap.size, 0, none⟩ = some (.int .u64 0) := HBX.out.cell 0
      clear hs9 hk9 hkd d0 d1 d2 hdz hj0 HF
      go_wp2
      rw [rounds_succ]
      go_wp2
      rw [rounds_succ]
      go_wp2
      go_roundw
      case rel => exact ⟨3, _, u1, by omega, rfl, rfl, by first | exact HPS.out | simpa [addT_1_1_0_0_0, flat, encT, Nat.add_assoc] using HPS.out, HPQ.out⟩
      case measure => simp [intOf]
    · obtain rfl : z = 3 := hz
      have HSE := Lib.hid hst
      have HKE := Lib.hid hkw
      clear hst hkw
      go_wp2
      go_end0
      exact ⟨⟨_, rfl⟩, u0, HSE.out, (KW.below HB0.out).trans HKE.out⟩
def addT_2_2_0_0_0 : Nat → List (Int × Int)
  | 0 => []
  | 1 => []
  | 2 => []
  | _ => []
set_option maxHeartbeats 12800000 in
set_option maxRecDepth 100000 in
theorem walk_2_2_0_0_0 : Walks 10 2 2 0 0 0 [] := by
  intro b3 b5 b6 base pb po cp w u n xs hn h
  obtain ⟨i0, hi0, hz0, hz1, hz2⟩ := info_parts infoT
  have HST := Lib.hid h
  obtain ⟨W0, hW0⟩ : ∃ W0, W0 = w.alloc (Obj.cells #[.int .u64 0, .int .u64 0] 136) := ⟨_, rfl⟩
  have hx0 : Blk W0 w.heap.size 136 #[.int .u64 0, .int .u64 0] := by rw [hW0]; exact Blk.new _ _ _
  have hb0 : Below w.heap.size w W0 := by rw [hW0]; exact (Below.refl _ _).alloc (Nat.le_refl _) _
  have hz : W0.heap.size = w.heap.size + 1 := by rw [hW0]; simp
  have HX0 := Lib.hid hx0
  have HB0 := Lib.hid hb0
  have HZ0 := Lib.hid hz
  have HS0 := Lib.hid (h.keep hb0)
  have HNB : Hid (w.heap.size ≠ b5) := Lib.hid (by have := h.l5; have := h.lb; omega)
  have HNO : Hid (some w.heap.size ≠ u.ownBlock) := Lib.hid (fun e => by have := (h.own.lt _ e.symm).2; omega)
  have c3 : (w.alloc (Obj.cells #[.int .u64 0, .int .u64 0] 136)).cell? ⟨b3, 0, none⟩ = some (.slice (some ⟨pb, po, none⟩) 3 cp) := by rw [← hW0]; exact HS0.out.k3.cell 0
  clear h hx0 hb0 hz
  go_enter Try.func106, Try.ntmps106
  go_wp2_with fail
  rw [← hW0]
  clear hW0
  clear c3
  go_loopw [19] (fun x wr => ∃ k : Nat, ∃ z : Int, ∃ u', k ≤ 3 ∧ x = .int .i64 z ∧ z = k ∧ StW b3 b5 b6 base pb po cp wr u' (n + (addT_2_2_0_0_0 k).length) (xs ++ flat encT (addT_2_2_0_0_0 k)) ∧ KW b5 W0 u wr u') (fun x _ => 3 - (intOf x).toNat)
  case atStart => exact ⟨0, 0, u, by omega, rfl, rfl, by simpa [addT_2_2_0_0_0, flat] using HS0.out, KW.refl _ _ _⟩
  case round =>
    obtain ⟨k, z, u0, hk, rfl, hz, hst, hkw⟩ := hrel
    generalize wr = U at *
    rcases (show k = 0 ∨ k = 1 ∨ k = 2 ∨ k = 3 by omega) with rfl | rfl | rfl | rfl
    · obtain rfl : z = 0 := hz
      obtain ⟨pb', po', hpe, q1, x1, x2⟩ := hst.kp.two 0 (by decide)
      obtain ⟨rfl, rfl⟩ : pb' = pb ∧ po' = po := by
        injection hpe with h1
        injection h1 with h2 h3
        exact ⟨h2.symm, h3.symm⟩
      have y1 : U.cell? ⟨pb', po', none⟩ = some (.int .i64 0) := x1
      have y2 : U.cell? ⟨pb', po' + 0 + 1, none⟩ = some (.int .i64 1) := x2
      have y3 : U.cell? ⟨pb', po' + 1, none⟩ = some (.int .i64 1) := x2
      obtain ⟨A, hA⟩ : ∃ A, A = U.alloc (Obj.cells #[.int .i64 0, .int .i64 1] 85) := ⟨_, rfl⟩
      have hb : Below U.heap.size U A := by rw [hA]; exact (Below.refl _ _).alloc (Nat.le_refl _) _
      have HPK : Hid (Blk A U.heap.size 85 #[.int .i64 0, .int .i64 1]) := Lib.hid (by rw [hA]; exact Blk.new _ _ _)
      have HSA := Lib.hid (hst.keep hb)
      have HKA := Lib.hid (hkw.trans (KW.below hb))
      have HNO2 : Hid (some w.heap.size ≠ u0.ownBlock) := Lib.hid (fun e => by
        rcases hkw.own with h4 | ⟨k, h4, h5⟩
        · exact HNO.out (e.trans h4)
        · rw [h4] at e; cases e; have := HZ0.out; omega)
      have HUL : Hid (base ≤ U.heap.size) := Lib.hid hst.lb
      have HUO : Hid (some U.heap.size ≠ u0.ownBlock) := Lib.hid (fun e => by have := (hst.own.lt _ e.symm).2; omega)
      have HUB : Hid (U.heap.size ≠ b5) := Lib.hid (by have := hst.l5; have := hst.lb; omega)
      have HBX := Lib.hid ((HX0.out.kw hkw HNB.out HNO.out).below hb ((HX0.out.kw hkw HNB.out HNO.out).lt))
      have z0 : A.cell? ⟨U.heap.size, 0, none⟩ = some (.int .i64 0) := HPK.out.cell 0
      have z1 : A.cell? ⟨U.heap.size, 1, none⟩ = some (.int .i64 1) := HPK.out.cell 1
      have z2 : A.cell? ⟨w.heap.size, 0, none⟩ = some (.int .u64 0) := HBX.out.cell 0
      clear hpe x1 x2 hst hkw hb
      go_wp2_with fail
      try rw [← hA]
      clear hA y1 y2 y3
      refine wp_loop_rounds 3 ?_
      have ix0 : ∀ w, (Instr.index 85 (.agg #[.int .i64 0, .int .i64 1]) (.int .i64 0)).run Try.prog w = .ok (.int .i64 0) w := fun _ => by kernel_rfl
      have ix1 : ∀ w, (Instr.index 85 (.agg #[.int .i64 0, .int .i64 1]) (.int .i64 1)).run Try.prog w = .ok (.int .i64 1) w := fun _ => by kernel_rfl
      rw [rounds_succ]
      go_wp2
      rw [rounds_succ]
      go_wp2
      rw [rounds_succ]
      go_wp2
      go_roundw
      case rel => exact ⟨1, _, u0, by omega, rfl, rfl, by first | exact HSA.out | simpa [addT_2_2_0_0_0, flat, encT, Nat.add_assoc] using HSA.out, HKA.out⟩
      case measure => simp [intOf]
    · obtain rfl : z = 1 := hz
      obtain ⟨pb', po', hpe, q1, x1, x2⟩ := hst.kp.two 1 (by decide)
      obtain ⟨rfl, rfl⟩ : pb' = pb ∧ po' = po := by
        injection hpe with h1
        injection h1 with h2 h3
        exact ⟨h2.symm, h3.symm⟩
      have y1 : U.cell? ⟨pb', po' + 2, none⟩ = some (.int .i64 0) := x1
      have y2 : U.cell? ⟨pb', po' + 2 + 1, none⟩ = some (.int .i64 2) := x2
      have y3 : U.cell? ⟨pb', po' + 3, none⟩ = some (.int .i64 2) := x2
      obtain ⟨A, hA⟩ : ∃ A, A = U.alloc (Obj.cells #[.int .i64 0, .int .i64 2] 85) := ⟨_, rfl⟩
      have hb : Below U.heap.size U A := by rw [hA]; exact (Below.refl _ _).alloc (Nat.le_refl _) _
      have HPK : Hid (Blk A U.heap.size 85 #[.int .i64 0, .int .i64 2]) := Lib.hid (by rw [hA]; exact Blk.new _ _ _)
      have HSA := Lib.hid (hst.keep hb)
      have HKA := Lib.hid (hkw.trans (KW.below hb))
      have HNO2 : Hid (some w.heap.size ≠ u0.ownBlock) := Lib.hid (fun e => by
        rcases hkw.own with h4 | ⟨k, h4, h5⟩
        · exact HNO.out (e.trans h4)
        · rw [h4] at e; cases e; have := HZ0.out; omega)
      have HUL : Hid (base ≤ U.heap.size) := Lib.hid hst.lb
      have HUO : Hid (some U.heap.size ≠ u0.ownBlock) := Lib.hid (fun e => by have := (hst.own.lt _ e.symm).2; omega)
      have HUB : Hid (U.heap.size ≠ b5) := Lib.hid (by have := hst.l5; have := hst.lb; omega)
      have HBX := Lib.hid ((HX0.out.kw hkw HNB.out HNO.out).below hb ((HX0.out.kw hkw HNB.out HNO.out).lt))
      have z0 : A.cell? ⟨U.heap.size, 0, none⟩ = some (.int .i64 0) := HPK.out.cell 0
      have z1 : A.cell? ⟨U.heap.size, 1, none⟩ = some (.int .i64 2) := HPK.out.cell 1
      have z2 : A.cell? ⟨w.heap.size, 0, none⟩ = some (.int .u64 0) := HBX.out.cell 0
      clear hpe x1 x2 hst hkw hb
      go_wp2_with fail
      try rw [← hA]
      clear hA y1 y2 y3
      refine wp_loop_rounds 3 ?_
      have ix0 : ∀ w, (Instr.index 85 (.agg #[.int .i64 0, .int .i64 2]) (.int .i64 0)).run Try.prog w = .ok (.int .i64 0) w := fun _ => by kernel_rfl
      have ix1 : ∀ w, (Instr.index 85 (.agg #[.int .i64 0, .int .i64 2]) (.int .i64 1)).run Try.prog w = .ok (.int .i64 2) w := fun _ => by kernel_rfl
      rw [rounds_succ]
      go_wp2
      rw [rounds_succ]
      go_wp2
      rw [rounds_succ]
      go_wp2
      go_roundw
      case rel => exact ⟨2, _, u0, by omega, rfl, rfl, by first | exact HSA.out | simpa [addT_2_2_0_0_0, flat, encT, Nat.add_assoc] using HSA.out, HKA.out⟩
      case measure => simp [intOf]
    · obtain rfl : z = 2 := hz
      obtain ⟨pb', po', hpe, q1, x1, x2⟩ := hst.kp.two 2 (by decide)
      obtain ⟨rfl, rfl⟩ : pb' = pb ∧ po' = po := by
        injection hpe with h1
        injection h1 with h2 h3
        exact ⟨h2.symm, h3.symm⟩
      have y1 : U.cell? ⟨pb', po' + 4, none⟩ = some (.int .i64 1) := x1
      have y2 : U.cell? ⟨pb', po' + 4 + 1, none⟩ = some (.int .i64 2) := x2
      have y3 : U.cell? ⟨pb', po' + 5, none⟩ = some (.int .i64 2) := x2
      obtain ⟨A, hA⟩ : ∃ A, A = U.alloc (Obj.cells #[.int .i64 1, .int .i64 2] 85) := ⟨_, rfl⟩
      have hb : Below U.heap.size U A := by rw [hA]; exact (Below.refl _ _).alloc (Nat.le_refl _) _
      have HPK : Hid (Blk A U.heap.size 85 #[.int .i64 1, .int .i64 2]) := Lib.hid (by rw [hA]; exact Blk.new _ _ _)
      have HSA := Lib.hid (hst.keep hb)
      have HKA := Lib.hid (hkw.trans (KW.below hb))
      have HNO2 : Hid (some w.heap.size ≠ u0.ownBlock) := Lib.hid (fun e => by
        rcases hkw.own with h4 | ⟨k, h4, h5⟩
        · exact HNO.out (e.trans h4)
        · rw [h4] at e; cases e; have := HZ0.out; omega)
      have HUL : Hid (base ≤ U.heap.size) := Lib.hid hst.lb
      have HUO : Hid (some U.heap.size ≠ u0.ownBlock) := Lib.hid (fun e => by have := (hst.own.lt _ e.symm).2; omega)
      have HUB : Hid (U.heap.size ≠ b5) := Lib.hid (by have := hst.l5; have := hst.lb; omega)
      have HBX := Lib.hid ((HX0.out.kw hkw HNB.out HNO.out).below hb ((HX0.out.kw hkw HNB.out HNO.out).lt))
      have z0 : A.cell? ⟨U.heap.size, 0, none⟩ = some (.int .i64 1) := HPK.out.cell 0
      have z1 : A.cell? ⟨U.heap.size, 1, none⟩ = some (.int .i64 2) := HPK.out.cell 1
      have z2 : A.cell? ⟨w.heap.size, 0, none⟩ = some (.int .u64 0) := HBX.out.cell 0
      clear hpe x1 x2 hst hkw hb
      go_wp2_with fail
      try rw [← hA]
      clear hA y1 y2 y3
      refine wp_loop_rounds 3 ?_
      have ix0 : ∀ w, (Instr.index 85 (.agg #[.int .i64 1, .int .i64 2]) (.int .i64 0)).run Try.prog w = .ok (.int .i64 1) w := fun _ => by kernel_rfl
      have ix1 : ∀ w, (Instr.index 85 (.agg #[.int .i64 1, .int .i64 2]) (.int .i64 1)).run Try.prog w = .ok (.int .i64 2) w := fun _ => by kernel_rfl
      rw [rounds_succ]
      go_wp2
      rw [rounds_succ]
      go_wp2
      rw [rounds_succ]
      go_wp2
      go_roundw
      case rel => exact ⟨3, _, u0, by omega, rfl, rfl, by first | exact HSA.out | simpa [addT_2_2_0_0_0, flat, encT, Nat.add_assoc] using HSA.out, HKA.out⟩
      case measure => simp [intOf]
    · obtain rfl : z = 3 := hz
      have HSE := Lib.hid hst
      have HKE := Lib.hid hkw
      clear hst hkw
      go_wp2
      go_end0
      exact ⟨⟨_, rfl⟩, u0, HSE.out, (KW.below HB0.out).trans HKE.out⟩
end Go.Proofs.Ytlnaahkheankoaa
