/- Drawings in memory: what a step of a walk keeps; rows of ints; walks. And: A row of ints. And: Drawings of paths, cycles, stars, bananas, wheels. And: Drawings of complete graphs, bipartite graphs, grids, thetas. -/
import Derived.Test.YtgfbihdnjidodaaQ07
import Derived.Test.YtgfbihdnjidodaaQ06
import Derived.Test.YtgfbihdnjidodaaQ01
import Derived.Deep.AppendLies
namespace Go.Proofs.Ytgfbihdnjidodaa
open Go.RowKit Go.Shelf Go.Proofs.Gr
attribute [local go_sem] Oper.semAt_some

/-- From one world to another only a drawing and its list have turned. -/
structure Stp (B : Nat) (s : Value) (w x : World) (s' : Value) : Prop where
  below : Below B w x
  same : ∀ b, b < w.heap.size → b ≠ B → s.ownBlock ≠ some b → x.heap[b]? = w.heap[b]?
  lie : ∀ k, s'.ownBlock = some k → s.ownBlock = some k ∨ w.heap.size ≤ k
theorem Stp.refl (B : Nat) (s : Value) (w : World) : Stp B s w w s := ⟨Below.refl _ _, fun _ _ _ _ => rfl, fun _ h => .inl h⟩
theorem Stp.trans {B : Nat} {s s' s'' : Value} {w x y : World} (h : Stp B s w x s') (k : Stp B s' x y s'') : Stp B s w y s'' :=
  ⟨h.below.trans k.below, fun b h1 h2 h3 => (k.same b (Nat.lt_of_lt_of_le h1 h.below.size) h2 (fun e => by
    rcases h.lie b e with e | e
    · exact h3 e
    · omega)).trans (h.same b h1 h2 h3), fun j hj => by
    rcases k.lie j hj with e | e
    · exact h.lie j e
    · exact .inr (Nat.le_trans h.below.size e)⟩
/-- New blocks and draws. -/
theorem Stp.more {B : Nat} {s : Value} {w x : World} (hB : B ≤ w.heap.size) (h : Below w.heap.size w x) : Stp B s w x s :=
  ⟨h.mono hB, fun b h1 _ _ => h.block b h1, fun _ h => .inl h⟩
/-- A list does not lie in a drawing, nor in its list. -/
def Awy (a : Option Addr) (B : Nat) (s : Value) : Prop := ∀ p, a = some p → p.block ≠ B ∧ s.ownBlock ≠ some p.block
theorem RowAt.same {α : Type} {k : Nat} {enc : α → List Value} {w x : World} {a : Option Addr} {L : List α} (h : RowAt k enc w a L) (hs : ∀ p, a = some p → p.block < w.heap.size → x.heap[p.block]? = w.heap[p.block]?) (hz : w.heap.size ≤ x.heap.size) : RowAt k enc x a L := by
  intro j hj
  obtain ⟨b, off, rfl, hlt, h1⟩ := h j hj
  exact ⟨b, off, rfl, Nat.lt_of_lt_of_le hlt hz, fun i hi => (World.cell?_of_block (w := w) (a := ⟨b, off + j * k + i, none⟩) (hs ⟨b, off, none⟩ rfl hlt)).trans (h1 i hi)⟩
theorem Stp.row {α : Type} {k : Nat} {enc : α → List Value} {B : Nat} {s s' : Value} {w x : World} (h : Stp B s w x s') {a : Option Addr} {L : List α} (hr : RowAt k enc w a L) (hA : Awy a B s) : RowAt k enc x a L :=
  hr.same (fun p hp hl => h.same _ hl (hA p hp).1 (hA p hp).2) h.below.size
theorem Stp.awy {B : Nat} {s s' : Value} {w x : World} (h : Stp B s w x s') {a : Option Addr} (hA : Awy a B s) (hl : ∀ p, a = some p → p.block < w.heap.size) : Awy a B s' := fun p hp =>
  ⟨(hA p hp).1, fun e => by
    rcases h.lie _ e with e | e
    · exact (hA p hp).2 e
    · have := hl p hp; omega⟩
/-- A drawing. -/
def DrAt (B : Nat) (V : Int) (P : List (Int × Int)) (s : Value) (x : World) : Prop := Blk x B 78 #[.int .i64 V, s] ∧ x.ownsRow (B + 1) 56 2 s P.length (flat encP P)
theorem DrAt.size {B : Nat} {V : Int} {P : List (Int × Int)} {s : Value} {x : World} (h : DrAt B V P s x) : B < x.heap.size := h.1.lt
theorem DrAt.keep {B : Nat} {V : Int} {P : List (Int × Int)} {s : Value} {x y : World} (h : DrAt B V P s x) (hb : Below x.heap.size x y) : DrAt B V P s y := ⟨h.1.below hb h.1.lt, own_keep h.2 hb⟩
/-- A new list lies apart from a drawing. -/
theorem DrAt.awy {B : Nat} {V : Int} {P : List (Int × Int)} {s : Value} {x : World} (h : DrAt B V P s x) {p : Addr} (hp : x.heap.size ≤ p.block) : Awy (some p) B s := fun q hq => by
  injection hq with hq
  subst hq
  exact ⟨by have := h.1.lt; omega, fun e => by have := (h.2.lt _ e).2; omega⟩
theorem pairs_push {V w3 : World} {B : Nat} {n : Int} {s s' : Value} {k k' : Nat} {xs ys : List Value} {o : Obj} (hT : Blk V B 78 #[.int .i64 n, s])
    (hrow : V.ownsRow (B + 1) 56 2 s k xs) (hg : (V.alloc o).grownBy w3 s.ownBlock) (hown : w3.ownsRow (B + 1) 56 2 s' k' ys) (hl : ∀ k, s'.ownBlock = some k → s.ownBlock = some k ∨ V.heap.size ≤ k) :
    Blk w3 B 78 #[.int .i64 n, s] ∧ Blk (w3.setCell ⟨B, 1, none⟩ s') B 78 #[.int .i64 n, s'] ∧ (w3.setCell ⟨B, 1, none⟩ s').ownsRow (B + 1) 56 2 s' k' ys ∧ Stp B s V (w3.setCell ⟨B, 1, none⟩ s') s' := by
  have h1 : Blk w3 B 78 #[.int .i64 n, s] := (hT.alloc o).grown hg fun e => by
    have := (hrow.lt B e.symm).1; omega
  have hlt := hT.lt
  refine ⟨h1, h1.set_ 1 s', ownsRow_setCell_below hown (a := ⟨B, 1, none⟩) (Nat.lt_succ_self _) s', (((Below.refl B V).alloc (by omega) o).grown hg (by simp; omega) (fun j hj => by have := (hrow.lt j hj).1; omega)).setCell (p := ⟨B, 1, none⟩) (Nat.le_refl _) s', fun b hb h2 h3 => ?_, hl⟩
  rw [Below.heap_setCell _ _ _ _ (by exact h2), hg.block b (by simp; omega) (fun e => h3 e.symm), Below.heap_alloc _ _ _ hb]
theorem draw_vert {V : World} {B : Nat} {n m : Int} {s : Value} {P : List (Int × Int)} (h : DrAt B n P s V) : DrAt B m P s (V.setCell ⟨B, 0, none⟩ (.int .i64 m)) ∧ Stp B s V (V.setCell ⟨B, 0, none⟩ (.int .i64 m)) s :=
  ⟨⟨h.1.set_ 0 _, ownsRow_setCell_below h.2 (a := ⟨B, 0, none⟩) (Nat.lt_succ_self _) _⟩, (Below.refl B V).setCell (p := ⟨B, 0, none⟩) (Nat.le_refl _) _, fun _ _ h2 _ => Below.heap_setCell _ _ _ _ h2, fun _ h => .inl h⟩
set_option maxHeartbeats 12800000 in
set_option maxRecDepth 100000 in
theorem pwalk_any (B : Nat) (V : Int) (hV : 0 ≤ V ∧ V ≤ 1000000) (Q : List (Int × Int)) (hQ : Q.length ≤ 10000000) (b : Option Addr) (cap : Nat) (l : List Int) (hll : l.length ≤ 100000) (hx : ∀ j, j < l.length → 0 ≤ iAt l j ∧ iAt l j ≤ 1000000) (s0 : Value) (w : World) (hl : IsAt w b l) (hA : Awy b B s0) (hD : DrAt B V Q s0 w) :
    Calls Try.prog 78 #[.pointer (some ⟨B, 0, none⟩), .slice b l.length cap] w (fun e x => e = .returned (.tuple #[]) ∧ ∃ s, DrAt B (wV V l) (Q ++ wP l) s x ∧ Stp B s0 w x s) := by
  obtain ⟨i0, hi0, hz0, hz1, hz2⟩ := info_parts infoP
  have HL := Lib.hid hl
  have HA := Lib.hid hA
  have HD := Lib.hid hD
  have HVS : Hid (∀ i, vI V l (i + 1) = mxI (vI V l i) (iAt l i + 1)) := Lib.hid fun i => rfl
  have HW0 : Hid (wI l 0 = []) := Lib.hid rfl
  have HW1 : Hid (wI l 1 = []) := Lib.hid rfl
  have HWS : Hid (∀ i, wI l (i + 1 + 1) = wI l (i + 1) ++ [(iAt l i, iAt l (i + 1))]) := Lib.hid fun i => rfl
  have HWE : Hid (wI l l.length = wP l ∧ vI V l l.length = wV V l) := Lib.hid ⟨rfl, rfl⟩
  have HV0 : Hid (vI V l 0 = V) := Lib.hid rfl
  have HVU := Lib.hid (fun i hi => vI_up V l 1000001 (by omega) (fun j hj => by have := hx j hj; omega) i hi)
  have HVL := Lib.hid (vI_low V l)
  have HWL := Lib.hid (wI_len l)
  have HX := Lib.hid hx
  generalize vI V l = VF at *
  generalize wI l = WF at *
  have HLT : Hid (∀ p, b = some p → 0 < l.length → p.block < w.heap.size) := Lib.hid fun p hp h0 => by
    obtain ⟨b', off', e1, e2, -⟩ := HL.out 0 h0
    rw [e1] at hp
    injection hp with hp
    rw [← hp]; exact e2
  clear hl hA hD hx
  go_enter Try.func78, Try.ntmps78
  go_wp2
  go_loopw [8] (fun x wr => ∃ (i : Nat) (s : Value), i ≤ l.length ∧ x = .int .i64 i ∧ DrAt B (VF i) (Q ++ WF i) s wr ∧ Stp B s0 w wr s) (fun x _ => l.length - (intOf x).toNat)
  case atStart => exact ⟨0, s0, by omega, rfl, by rw [HV0.out, HW0.out, List.append_nil]; exact HD.out, Stp.refl _ _ _⟩
  case round =>
    obtain ⟨i, s, hi, rfl, hd, hst⟩ := hrel
    by_cases hlt : i < l.length
    · have i1 : (i : Int) < (l.length : Int) := by omega
      have i2 : (0 : Int) ≤ (i : Int) := by omega
      have hlw := hst.row HL.out HA.out
      obtain ⟨bb, off, rfl, q1, x1⟩ := hlw.one i hlt
      have hxi := HX.out i hlt
      have hvn := HVS.out i
      have hvu := HVU.out (i + 1) (by omega)
      have hvu0 := HVU.out i (by omega)
      have hvl0 := HVL.out i
      have hql : (Q ++ WF i).length ≤ 20000000 := by rw [List.length_append, HWL.out]; omega
      have HWSi := HWS.out
      have c0 : wr.cell? ⟨B, 0, none⟩ = some (.int .i64 (VF i)) := hd.1.cell 0
      have c1 : wr.frozen? ⟨B, 0, none⟩ = false := hd.1.frozen 0
      obtain ⟨vn, hvn'⟩ : ∃ vn, vn = VF (i + 1) := ⟨_, rfl⟩
      rw [← hvn'] at hvn hvu
      obtain ⟨V1, hV1⟩ : ∃ V1, V1 = wr.setCell ⟨B, 0, none⟩ (.int .i64 vn) := ⟨_, rfl⟩
      have h9 := draw_vert (m := vn) hd
      rw [← hV1] at h9
      have HD1 := Lib.hid h9.1
      have HST1 := Lib.hid (hst.trans h9.2)
      have HV1 := Lib.hid hV1
      have HVN : Hid (VF (i + 1) = vn) := Lib.hid hvn'.symm
      have hx1 : V1.cell? ⟨bb, off + i, none⟩ = some (.int .i64 (iAt l i)) := by
        have hA9 := hst.awy HA.out (fun p hp => HLT.out p hp (by omega))
        exact (World.cell?_of_block (w := wr) (a := ⟨bb, off + i, none⟩) (h9.2.same bb q1 (hA9 _ rfl).1 (hA9 _ rfl).2)).trans x1
      have hA1 : Awy (some ⟨bb, off, none⟩) B s := hst.awy HA.out (fun p hp => HLT.out p hp (by omega))
      have HR1 := Lib.hid (h9.2.row hlw hA1)
      obtain ⟨xb, hxb⟩ : ∃ xb, xb = iAt l i := ⟨_, rfl⟩
      rw [← hxb] at x1 hxi hvn hx1
      have HXB := Lib.hid hxb
      generalize VF i = v0 at *
      clear h9 hd hst hlw hvn' hxb hA1 hx1 hV1
      have hmx : (v0 < xb + 1 ∧ vn = xb + 1) ∨ (¬ v0 < xb + 1 ∧ vn = v0) := by
        unfold mxI at hvn
        by_cases hc : v0 < xb + 1
        · left; rw [if_pos hc] at hvn; exact ⟨hc, hvn⟩
        · right; rw [if_neg hc] at hvn; exact ⟨hc, hvn⟩
      clear hvn
      rcases i with _ | m
      · rcases hmx with ⟨m1, rfl⟩ | ⟨m1, e0⟩
        · have m2 : ¬ xb + 1 < v0 := by omega
          have HWN : Hid (WF (0 + 1) = WF 0) := Lib.hid (by rw [HW1.out, HW0.out])
          rw [Nat.add_zero] at x1
          have i3 : (0 : Int) < (l.length : Int) := by omega
          clear i1 i2 HWSi
          go_wp2
          rw [← HV1.out]
          go_roundw
          case rel => exact ⟨0 + 1, _, by omega, by go_num, by rw [HVN.out, HWN.out]; exact HD1.out, HST1.out⟩
          case measure => simp [intOf]; omega
        · subst e0
          have m2 : xb + 1 ≤ vn := by omega
          have HWN : Hid (WF (0 + 1) = WF 0) := Lib.hid (by rw [HW1.out, HW0.out])
          rw [Nat.add_zero] at x1
          have i3 : (0 : Int) < (l.length : Int) := by omega
          clear i1 i2 HWSi
          go_wp2
          rw [← HV1.out]
          go_roundw
          case rel => exact ⟨0 + 1, _, by omega, by go_num, by rw [HVN.out, HWN.out]; exact HD1.out, HST1.out⟩
          case measure => simp [intOf]; omega
      · rcases hmx with ⟨m1, rfl⟩ | ⟨m1, e0⟩
        · have m2 : ¬ xb + 1 < v0 := by omega
          obtain ⟨J, hJ⟩ : ∃ J, J = Q ++ WF (m + 1) := ⟨_, rfl⟩
          rw [← hJ] at HD1 hql
          have hw9 := HWSi m
          have HWN : Hid (Q ++ WF (m + 1 + 1) = J ++ [(iAt l m, xb)]) := Lib.hid (by rw [hw9, ← List.append_assoc, ← hJ, HXB.out])
          obtain ⟨bb', off', e1, q3, x3⟩ := HR1.out.one m (by omega)
          injection e1 with e1
          injection e1 with e1 e2
          subst e1 e2
          obtain ⟨xa, hxa⟩ : ∃ xa, xa = iAt l m := ⟨_, rfl⟩
          rw [← hxa] at x3 HWN
          have j0 : ((m + 1 : Nat) : Int) = (m : Int) + 1 := by omega
          rw [j0] at i1 i2 ⊢
          have j1 : (m : Int) + 1 < (l.length : Int) := by omega
          have j2 : (0 : Int) ≤ (m : Int) + 1 := by omega
          have j3 : (m : Int) < (l.length : Int) := by omega
          have j4 : (0 : Int) ≤ (m : Int) := by omega
          have j5 : (0 : Int) < (m : Int) + 1 := by omega
          have j6 : IntKind.i64.wrap (m : Int) = (m : Int) := IntWalk.i64_in _ (by omega)
          have x2 : V1.cell? ⟨B, 1, none⟩ = some s := HD1.out.1.cell 1
          have HS : Hid (∀ x, Below V1.heap.size V1 x → (x.cell? ⟨B, 1, none⟩ = some s ∧ x.cell? ⟨bb, off + m, none⟩ = some (.int .i64 xa))) := Lib.hid fun x hx => ⟨(hx.cell (p := ⟨B, 1, none⟩) HD1.out.1.lt).trans x2, (hx.cell (p := ⟨bb, off + m, none⟩) q3).trans x3⟩
          have hk2 : Below V1.heap.size V1 V1.drew := (Below.refl _ _).drew
          clear x2 x3 hJ hw9 hxa HWSi j0
          go_wp2
          rw [← HV1.out]
          have hSd := HS.out _ hk2
          refine wp_region_late (S := fun u => u.cell? ⟨B, 1, none⟩ = some s ∧ u.cell? ⟨bb, off + m, none⟩ = some (.int .i64 xa)) (X := [13, 16]) (by kernel_rfl) ?_
          refine wpAnyL_pureD (i := 0) 25 (.pointer (some ⟨B, 0, none⟩)) rfl rfl (by kernel_rfl) (by kernel_rfl) (by kernel_rfl) (fun _ _ _ h => h) (Or.inl ⟨by rfl, fun u _ => ?_⟩) ?_
          · go_simp
          try simp only [Act.put, List.setIfInBounds_toArray, List.set_cons_zero, List.set_cons_succ]
          refine wpAnyL_pureD (i := 1) 26 (.pointer (some ⟨B, 0, none⟩)) rfl rfl (by kernel_rfl) (by kernel_rfl) (by kernel_rfl) (fun _ _ _ h => h) (Or.inl ⟨by rfl, fun u _ => ?_⟩) ?_
          · go_simp
          try simp only [Act.put, List.setIfInBounds_toArray, List.set_cons_zero, List.set_cons_succ]
          refine wpAnyL_pureD (i := 2) 27 (.pointer (some ⟨B, 0, none⟩)) rfl rfl (by kernel_rfl) (by kernel_rfl) (by kernel_rfl) (fun _ _ _ h => h) (Or.inl ⟨by rfl, fun u _ => ?_⟩) ?_
          · go_simp
          try simp only [Act.put, List.setIfInBounds_toArray, List.set_cons_zero, List.set_cons_succ]
          refine wpAnyL_pureD (i := 3) 28 (.pointer (some ⟨B, 1, none⟩)) rfl rfl (by kernel_rfl) (by kernel_rfl) (by kernel_rfl) (fun _ _ _ h => h) (Or.inl ⟨by rfl, fun u _ => ?_⟩) ?_
          · go_simp
          try simp only [Act.put, List.setIfInBounds_toArray, List.set_cons_zero, List.set_cons_succ]
          refine wpAnyL_takeD (i := 4) 29 s rfl rfl (by kernel_rfl) (by kernel_rfl) (by kernel_rfl) (by kernel_rfl) (by kernel_rfl) (fun _ _ _ h => h) hSd (Or.inl ⟨by rfl, fun u hu => ?_⟩) ?_
          · obtain ⟨z0, z1⟩ := hu
            go_simp
          try simp only [Act.put, List.setIfInBounds_toArray, List.set_cons_zero, List.set_cons_succ]
          refine wpAnyL_pureD (i := 5) 30 (.slice (some ⟨bb, off, none⟩) l.length cap) rfl rfl (by kernel_rfl) (by kernel_rfl) (by kernel_rfl) (fun _ _ _ h => h) (Or.inl ⟨by rfl, fun u _ => ?_⟩) ?_
          · go_simp
          try simp only [Act.put, List.setIfInBounds_toArray, List.set_cons_zero, List.set_cons_succ]
          refine wpAnyL_pureD (i := 6) 31 (.int .i64 ((m : Int) + 1)) rfl rfl (by kernel_rfl) (by kernel_rfl) (by kernel_rfl) (fun _ _ _ h => h) (Or.inl ⟨by rfl, fun u _ => ?_⟩) ?_
          · go_simp
          try simp only [Act.put, List.setIfInBounds_toArray, List.set_cons_zero, List.set_cons_succ]
          refine wpAnyL_pureD (i := 7) 32 (.int .i64 (m : Int)) rfl rfl (by kernel_rfl) (by kernel_rfl) (by kernel_rfl) (fun _ _ _ h => h) (Or.inl ⟨by rfl, fun u _ => ?_⟩) ?_
          · go_simp
          try simp only [Act.put, List.setIfInBounds_toArray, List.set_cons_zero, List.set_cons_succ]
          refine wpAnyL_pureD (i := 8) 33 (.pointer (some ⟨bb, off + m, none⟩)) rfl rfl (by kernel_rfl) (by kernel_rfl) (by kernel_rfl) (fun _ _ _ h => h) (Or.inl ⟨by rfl, fun u _ => ?_⟩) ?_
          · go_simp
          try simp only [Act.put, List.setIfInBounds_toArray, List.set_cons_zero, List.set_cons_succ]
          refine wpAnyL_takeD (i := 9) 34 (.int .i64 xa) rfl rfl (by kernel_rfl) (by kernel_rfl) (by kernel_rfl) (by kernel_rfl) (by kernel_rfl) (fun _ _ _ h => h) hSd (Or.inl ⟨by rfl, fun u hu => ?_⟩) ?_
          · obtain ⟨z0, z1⟩ := hu
            go_simp
          try simp only [Act.put, List.setIfInBounds_toArray, List.set_cons_zero, List.set_cons_succ]
          refine wpAnyL_pureD (i := 10) 35 (.int .i64 xb) rfl rfl (by kernel_rfl) (by kernel_rfl) (by kernel_rfl) (fun _ _ _ h => h) (Or.inl ⟨by rfl, fun u _ => ?_⟩) ?_
          · go_simp
          try simp only [Act.put, List.setIfInBounds_toArray, List.set_cons_zero, List.set_cons_succ]
          refine wpAnyL_pureD (i := 11) 36 (.agg #[.int .i64 xa, .int .i64 xb]) rfl rfl (by kernel_rfl) (by kernel_rfl) (by kernel_rfl) (fun _ _ _ h => h) (Or.inl ⟨by rfl, fun u _ => ?_⟩) ?_
          · go_simp
          try simp only [Act.put, List.setIfInBounds_toArray, List.set_cons_zero, List.set_cons_succ]
          refine wpAnyL_one (i := 12) (by kernel_rfl) rfl (fun K hK => ?_)
          go_simp
          refine hK.out _ _ (fun _ _ => HS.out _ ((Below.refl _ V1).alloc (Nat.le_refl _) _).drew) ?_
          clear hK K
          refine wpAnyL_one (i := 13) (by kernel_rfl) rfl (fun K hK => ?_)
          rw [if_pos (by kernel_rfl)]
          have hKd : Blk V1.drew B 78 #[.int .i64 (xb + 1), s] := HD1.out.1
          have hOd : V1.drew.ownsRow (B + 1) 56 2 s J.length (flat encP J) := HD1.out.2
          have hsz : B + 1 ≤ V1.heap.size := HD1.out.1.lt
          refine wp_append_lies _ _ _ 54 rfl (B + 1) 56 i0 (.agg #[.int .i64 0, .int .i64 0]) 2 16 Try.underlying54 hi0 hz0 hz1 hz2 rfl (by decide) s _ _ (by rfl) ((HD1.out.2.alloc (Obj.cells #[.int .i64 xa, .int .i64 xb] 56)).drew) ⟨V1.heap.size, 0, none⟩ 1 1 [.int .i64 xa, .int .i64 xb] (by rfl) rfl (lit_row V1 _ _) (by simp [Value.oneCell']) (by decide) (by unfold maxLen; omega) (by omega) (by show B + 1 ≤ (V1.alloc _).heap.size; rw [World.size_alloc]; omega) (V1.heap.size + 1) (by show (V1.alloc _).heap.size = _; rw [World.size_alloc]) ?_
          intro g' cap' w3 hown1 hgrow1 hlie _
          obtain ⟨h31, h32, h33, h34⟩ := pairs_push (V := V1.drew) hKd hOd hgrow1 hown1 (fun k hk => by
            have e9 : g' = k := by simpa [Value.ownBlock] using hk
            rcases hlie with hh | hh
            · exact .inl (by rw [← e9]; exact hh)
            · exact .inr (by show V1.heap.size ≤ k; omega))
          have hc1 : w3.cell? ⟨B, 1, none⟩ = some s := h31.cell 1
          have hf1 : w3.frozen? ⟨B, 1, none⟩ = false := h31.frozen 1
          have HX2 := Lib.hid h32
          have HX3 := Lib.hid h33
          have HX4 : Hid (Stp B s0 w (w3.setCell ⟨B, 1, none⟩ (.slice (some ⟨g', 0, none⟩) (J.length + 1) cap')) (.slice (some ⟨g', 0, none⟩) (J.length + 1) cap')) := Lib.hid ((HST1.out.trans (Stp.more (by omega) ((Below.refl V1.heap.size V1).drew))).trans h34)
          clear h31 h32 h33 h34 hown1 hgrow1 hKd hOd hSd hsz hlie hk2
          refine hK.out _ _ (fun h => absurd (by decide) h) ?_
          clear hK K
          refine wpAnyL_one (i := 14) (by kernel_rfl) rfl (fun K hK => ?_)
          go_simp
          refine hK.out _ _ (fun _ h => h) ?_
          clear hK K
          refine wpAnyL_one (i := 15) (by kernel_rfl) rfl (fun K hK => ?_)
          go_simp
          refine hK.out _ _ (fun _ h => h) ?_
          clear hK K
          refine wpAnyL_one (i := 16) (by kernel_rfl) rfl (fun K hK => ?_)
          go_simp
          refine hK.out _ _ (fun h => absurd (by decide) h) ?_
          clear hK K
          refine wpAnyL_done (by kernel_rfl) ?_ _
          go_wp2
          go_roundw
          case rel => exact ⟨m + 1 + 1, _, by omega, by go_num, ⟨by rw [HVN.out]; exact HX2.out, by rw [HWN.out, List.length_append, flatP_snoc]; exact HX3.out⟩, HX4.out⟩
          case measure => simp [intOf]; omega
        · subst e0
          have m2 : xb + 1 ≤ vn := by omega
          obtain ⟨J, hJ⟩ : ∃ J, J = Q ++ WF (m + 1) := ⟨_, rfl⟩
          rw [← hJ] at HD1 hql
          have hw9 := HWSi m
          have HWN : Hid (Q ++ WF (m + 1 + 1) = J ++ [(iAt l m, xb)]) := Lib.hid (by rw [hw9, ← List.append_assoc, ← hJ, HXB.out])
          obtain ⟨bb', off', e1, q3, x3⟩ := HR1.out.one m (by omega)
          injection e1 with e1
          injection e1 with e1 e2
          subst e1 e2
          obtain ⟨xa, hxa⟩ : ∃ xa, xa = iAt l m := ⟨_, rfl⟩
          rw [← hxa] at x3 HWN
          have j0 : ((m + 1 : Nat) : Int) = (m : Int) + 1 := by omega
          rw [j0] at i1 i2 ⊢
          have j1 : (m : Int) + 1 < (l.length : Int) := by omega
          have j2 : (0 : Int) ≤ (m : Int) + 1 := by omega
          have j3 : (m : Int) < (l.length : Int) := by omega
          have j4 : (0 : Int) ≤ (m : Int) := by omega
          have j5 : (0 : Int) < (m : Int) + 1 := by omega
          have j6 : IntKind.i64.wrap (m : Int) = (m : Int) := IntWalk.i64_in _ (by omega)
          have x2 : V1.cell? ⟨B, 1, none⟩ = some s := HD1.out.1.cell 1
          have HS : Hid (∀ x, Below V1.heap.size V1 x → (x.cell? ⟨B, 1, none⟩ = some s ∧ x.cell? ⟨bb, off + m, none⟩ = some (.int .i64 xa))) := Lib.hid fun x hx => ⟨(hx.cell (p := ⟨B, 1, none⟩) HD1.out.1.lt).trans x2, (hx.cell (p := ⟨bb, off + m, none⟩) q3).trans x3⟩
          have hk2 : Below V1.heap.size V1 V1.drew := (Below.refl _ _).drew
          clear x2 x3 hJ hw9 hxa HWSi j0
          go_wp2
          rw [← HV1.out]
          have hSd := HS.out _ hk2
          refine wp_region_late (S := fun u => u.cell? ⟨B, 1, none⟩ = some s ∧ u.cell? ⟨bb, off + m, none⟩ = some (.int .i64 xa)) (X := [13, 16]) (by kernel_rfl) ?_
          refine wpAnyL_pureD (i := 0) 25 (.pointer (some ⟨B, 0, none⟩)) rfl rfl (by kernel_rfl) (by kernel_rfl) (by kernel_rfl) (fun _ _ _ h => h) (Or.inl ⟨by rfl, fun u _ => ?_⟩) ?_
          · go_simp
          try simp only [Act.put, List.setIfInBounds_toArray, List.set_cons_zero, List.set_cons_succ]
          refine wpAnyL_pureD (i := 1) 26 (.pointer (some ⟨B, 0, none⟩)) rfl rfl (by kernel_rfl) (by kernel_rfl) (by kernel_rfl) (fun _ _ _ h => h) (Or.inl ⟨by rfl, fun u _ => ?_⟩) ?_
          · go_simp
          try simp only [Act.put, List.setIfInBounds_toArray, List.set_cons_zero, List.set_cons_succ]
          refine wpAnyL_pureD (i := 2) 27 (.pointer (some ⟨B, 0, none⟩)) rfl rfl (by kernel_rfl) (by kernel_rfl) (by kernel_rfl) (fun _ _ _ h => h) (Or.inl ⟨by rfl, fun u _ => ?_⟩) ?_
          · go_simp
          try simp only [Act.put, List.setIfInBounds_toArray, List.set_cons_zero, List.set_cons_succ]
          refine wpAnyL_pureD (i := 3) 28 (.pointer (some ⟨B, 1, none⟩)) rfl rfl (by kernel_rfl) (by kernel_rfl) (by kernel_rfl) (fun _ _ _ h => h) (Or.inl ⟨by rfl, fun u _ => ?_⟩) ?_
          · go_simp
          try simp only [Act.put, List.setIfInBounds_toArray, List.set_cons_zero, List.set_cons_succ]
          refine wpAnyL_takeD (i := 4) 29 s rfl rfl (by kernel_rfl) (by kernel_rfl) (by kernel_rfl) (by kernel_rfl) (by kernel_rfl) (fun _ _ _ h => h) hSd (Or.inl ⟨by rfl, fun u hu => ?_⟩) ?_
          · obtain ⟨z0, z1⟩ := hu
            go_simp
          try simp only [Act.put, List.setIfInBounds_toArray, List.set_cons_zero, List.set_cons_succ]
          refine wpAnyL_pureD (i := 5) 30 (.slice (some ⟨bb, off, none⟩) l.length cap) rfl rfl (by kernel_rfl) (by kernel_rfl) (by kernel_rfl) (fun _ _ _ h => h) (Or.inl ⟨by rfl, fun u _ => ?_⟩) ?_
          · go_simp
          try simp only [Act.put, List.setIfInBounds_toArray, List.set_cons_zero, List.set_cons_succ]
          refine wpAnyL_pureD (i := 6) 31 (.int .i64 ((m : Int) + 1)) rfl rfl (by kernel_rfl) (by kernel_rfl) (by kernel_rfl) (fun _ _ _ h => h) (Or.inl ⟨by rfl, fun u _ => ?_⟩) ?_
          · go_simp
          try simp only [Act.put, List.setIfInBounds_toArray, List.set_cons_zero, List.set_cons_succ]
          refine wpAnyL_pureD (i := 7) 32 (.int .i64 (m : Int)) rfl rfl (by kernel_rfl) (by kernel_rfl) (by kernel_rfl) (fun _ _ _ h => h) (Or.inl ⟨by rfl, fun u _ => ?_⟩) ?_
          · go_simp
          try simp only [Act.put, List.setIfInBounds_toArray, List.set_cons_zero, List.set_cons_succ]
          refine wpAnyL_pureD (i := 8) 33 (.pointer (some ⟨bb, off + m, none⟩)) rfl rfl (by kernel_rfl) (by kernel_rfl) (by kernel_rfl) (fun _ _ _ h => h) (Or.inl ⟨by rfl, fun u _ => ?_⟩) ?_
          · go_simp
          try simp only [Act.put, List.setIfInBounds_toArray, List.set_cons_zero, List.set_cons_succ]
          refine wpAnyL_takeD (i := 9) 34 (.int .i64 xa) rfl rfl (by kernel_rfl) (by kernel_rfl) (by kernel_rfl) (by kernel_rfl) (by kernel_rfl) (fun _ _ _ h => h) hSd (Or.inl ⟨by rfl, fun u hu => ?_⟩) ?_
          · obtain ⟨z0, z1⟩ := hu
            go_simp
          try simp only [Act.put, List.setIfInBounds_toArray, List.set_cons_zero, List.set_cons_succ]
          refine wpAnyL_pureD (i := 10) 35 (.int .i64 xb) rfl rfl (by kernel_rfl) (by kernel_rfl) (by kernel_rfl) (fun _ _ _ h => h) (Or.inl ⟨by rfl, fun u _ => ?_⟩) ?_
          · go_simp
          try simp only [Act.put, List.setIfInBounds_toArray, List.set_cons_zero, List.set_cons_succ]
          refine wpAnyL_pureD (i := 11) 36 (.agg #[.int .i64 xa, .int .i64 xb]) rfl rfl (by kernel_rfl) (by kernel_rfl) (by kernel_rfl) (fun _ _ _ h => h) (Or.inl ⟨by rfl, fun u _ => ?_⟩) ?_
          · go_simp
          try simp only [Act.put, List.setIfInBounds_toArray, List.set_cons_zero, List.set_cons_succ]
          refine wpAnyL_one (i := 12) (by kernel_rfl) rfl (fun K hK => ?_)
          go_simp
          refine hK.out _ _ (fun _ _ => HS.out _ ((Below.refl _ V1).alloc (Nat.le_refl _) _).drew) ?_
          clear hK K
          refine wpAnyL_one (i := 13) (by kernel_rfl) rfl (fun K hK => ?_)
          rw [if_pos (by kernel_rfl)]
          have hKd : Blk V1.drew B 78 #[.int .i64 vn, s] := HD1.out.1
          have hOd : V1.drew.ownsRow (B + 1) 56 2 s J.length (flat encP J) := HD1.out.2
          have hsz : B + 1 ≤ V1.heap.size := HD1.out.1.lt
          refine wp_append_lies _ _ _ 54 rfl (B + 1) 56 i0 (.agg #[.int .i64 0, .int .i64 0]) 2 16 Try.underlying54 hi0 hz0 hz1 hz2 rfl (by decide) s _ _ (by rfl) ((HD1.out.2.alloc (Obj.cells #[.int .i64 xa, .int .i64 xb] 56)).drew) ⟨V1.heap.size, 0, none⟩ 1 1 [.int .i64 xa, .int .i64 xb] (by rfl) rfl (lit_row V1 _ _) (by simp [Value.oneCell']) (by decide) (by unfold maxLen; omega) (by omega) (by show B + 1 ≤ (V1.alloc _).heap.size; rw [World.size_alloc]; omega) (V1.heap.size + 1) (by show (V1.alloc _).heap.size = _; rw [World.size_alloc]) ?_
          intro g' cap' w3 hown1 hgrow1 hlie _
          obtain ⟨h31, h32, h33, h34⟩ := pairs_push (V := V1.drew) hKd hOd hgrow1 hown1 (fun k hk => by
            have e9 : g' = k := by simpa [Value.ownBlock] using hk
            rcases hlie with hh | hh
            · exact .inl (by rw [← e9]; exact hh)
            · exact .inr (by show V1.heap.size ≤ k; omega))
          have hc1 : w3.cell? ⟨B, 1, none⟩ = some s := h31.cell 1
          have hf1 : w3.frozen? ⟨B, 1, none⟩ = false := h31.frozen 1
          have HX2 := Lib.hid h32
          have HX3 := Lib.hid h33
          have HX4 : Hid (Stp B s0 w (w3.setCell ⟨B, 1, none⟩ (.slice (some ⟨g', 0, none⟩) (J.length + 1) cap')) (.slice (some ⟨g', 0, none⟩) (J.length + 1) cap')) := Lib.hid ((HST1.out.trans (Stp.more (by omega) ((Below.refl V1.heap.size V1).drew))).trans h34)
          clear h31 h32 h33 h34 hown1 hgrow1 hKd hOd hSd hsz hlie hk2
          refine hK.out _ _ (fun h => absurd (by decide) h) ?_
          clear hK K
          refine wpAnyL_one (i := 14) (by kernel_rfl) rfl (fun K hK => ?_)
          go_simp
          refine hK.out _ _ (fun _ h => h) ?_
          clear hK K
          refine wpAnyL_one (i := 15) (by kernel_rfl) rfl (fun K hK => ?_)
          go_simp
          refine hK.out _ _ (fun _ h => h) ?_
          clear hK K
          refine wpAnyL_one (i := 16) (by kernel_rfl) rfl (fun K hK => ?_)
          go_simp
          refine hK.out _ _ (fun h => absurd (by decide) h) ?_
          clear hK K
          refine wpAnyL_done (by kernel_rfl) ?_ _
          go_wp2
          go_roundw
          case rel => exact ⟨m + 1 + 1, _, by omega, by go_num, ⟨by rw [HVN.out]; exact HX2.out, by rw [HWN.out, List.length_append, flatP_snoc]; exact HX3.out⟩, HX4.out⟩
          case measure => simp [intOf]; omega
    · obtain rfl : i = l.length := by omega
      have i1 : ¬ (l.length : Int) < (l.length : Int) := by omega
      have HD9 : Hid (DrAt B (wV V l) (Q ++ wP l) s wr) := Lib.hid (by rw [← HWE.out.1, ← HWE.out.2]; exact hd)
      have HS9 := Lib.hid hst
      clear hd hst
      go_wp2
      go_end0
      exact ⟨rfl, s, HD9.out, HS9.out⟩
end Go.Proofs.Ytgfbihdnjidodaa

namespace Go.Proofs.Ytgfbihdnjidodaa
open Go.RowKit Go.Shelf Go.Proofs.Gr
attribute [local go_sem] Oper.semAt_some

/-- A row under way. -/
def rowM (a : Int) (c : Nat) (d : Int) (i : Nat) : List Int := rowL a i d ++ List.replicate (c - i) 0
theorem rowM_len (a : Int) (c : Nat) (d : Int) (i : Nat) (h : i ≤ c) : (rowM a c d i).length = c := by
  unfold rowM; rw [List.length_append, rowL_len, List.length_replicate]; omega
theorem rowM_set (a : Int) (c : Nat) (d : Int) (i : Nat) (h : i < c) : (rowM a c d i).set i (a + i * d) = rowM a c d (i + 1) := by
  unfold rowM
  rw [rowL_succ, List.set_append_right _ _ (by rw [rowL_len]; omega), rowL_len, Nat.sub_self, show c - i = (c - (i + 1)) + 1 by omega, List.replicate_succ, List.set_cons_zero, List.append_assoc]
  rfl
set_option maxHeartbeats 12800000 in
set_option maxRecDepth 100000 in
theorem prow_at (a d : Int) (c : Nat) (hc : c ≤ 100000) (ha : 0 ≤ a ∧ a ≤ 1000000) (hd : 0 ≤ d ∧ d ≤ 1000) (w : World) :
    Calls Try.prog 79 #[.int .i64 a, .int .i64 c, .int .i64 d] w (fun e x => e = .returned (.slice (some ⟨w.heap.size, 0, none⟩) c c) ∧ RowB encI 3 x w.heap.size (rowL a c d) ∧ Below w.heap.size w x) := by
  have HMK := Lib.hid (fun w => make_ints c (by omega) w)
  have hm0 : List.replicate c 0 = rowM a c d 0 := by unfold rowM; simp [rowL]
  have HML := Lib.hid (rowM_len a c d)
  have HMS := Lib.hid (rowM_set a c d)
  have HME : Hid (rowM a c d c = rowL a c d) := Lib.hid (by unfold rowM; rw [Nat.sub_self]; simp)
  have hmk := HMK.out w
  rw [hm0] at hmk
  obtain ⟨W, hW⟩ : ∃ W, W = w.alloc (.cells (flat encI (rowM a c d 0)).toArray 3) := ⟨_, rfl⟩
  have HB0 : Hid (Below w.heap.size w W) := Lib.hid (by rw [hW]; exact (Below.refl _ _).alloc (Nat.le_refl _) _)
  have HR0 : Hid (RowB encI 3 W w.heap.size (rowM a c d 0)) := Lib.hid (by rw [hW]; exact RowB.new encI w _ _)
  rw [← hW] at hmk
  generalize rowM a c d = M at *
  clear hm0 hW
  go_enter Try.func79, Try.ntmps79
  go_wp2
  go_loopw [8, 13] (fun _ x wr => ∃ i : Nat, i ≤ c ∧ x = .int .i64 i ∧ RowB encI 3 wr w.heap.size (M i) ∧ Below w.heap.size w wr) (fun _ x _ => c - (intOf x).toNat)
  case atStart => exact ⟨0, by omega, rfl, HR0.out, HB0.out⟩
  case round =>
    obtain ⟨i, hi, rfl, hr, hb⟩ := hrel
    by_cases hlt : i < c
    · have i1 : (i : Int) < (c : Int) := by omega
      have i2 : (0 : Int) ≤ (i : Int) := by omega
      have hml := HML.out i hi
      have m0 : (0 : Int) ≤ (i : Int) * d := Int.mul_nonneg (by omega) hd.1
      have m1 : (i : Int) * d ≤ 100000 * 1000 := Int.le_trans (Int.mul_le_mul_of_nonneg_right (by omega) hd.1) (Int.mul_le_mul_of_nonneg_left hd.2 (by omega))
      have k1 : wr.cell? ⟨w.heap.size, i, none⟩ = some (.int .i64 (iAt (M i) i)) := hr.cell i (by omega)
      have k2 : wr.frozen? ⟨w.heap.size, i, none⟩ = false := Blk.frozen hr i
      have HB2 := Lib.hid (hb.setCell (p := ⟨w.heap.size, i, none⟩) (Nat.le_refl _) (.int .i64 (a + (i : Int) * d)))
      have HR2 : Hid (RowB encI 3 (wr.setCell ⟨w.heap.size, i, none⟩ (.int .i64 (a + (i : Int) * d))) w.heap.size (M (i + 1))) := Lib.hid (by rw [← HMS.out i hlt]; exact hr.set i _)
      obtain ⟨q, hq⟩ : ∃ q, q = (i : Int) * d := ⟨_, rfl⟩
      rw [← hq] at m0 m1 HB2 HR2
      have q1 : IntKind.i64.wrap ((i : Int) * d) = q := by rw [← hq]; exact IntWalk.i64_in _ (by omega)
      have q2 : IntKind.i64.wrap (a + q) = a + q := IntWalk.i64_in _ (by omega)
      clear hr hb hml hmk
      have HQ := Lib.hid hq
      clear hq
      go_wp2
      try rw [← HQ.out]
      go_wp2
      go_roundw
      case rel => exact ⟨i + 1, by omega, by go_num, HR2.out, HB2.out⟩
      case measure => simp [intOf]; omega
    · obtain rfl : i = c := by omega
      have i1 : ¬ (i : Int) < (i : Int) := by omega
      have HO : Hid (RowB encI 3 wr w.heap.size (rowL a i d)) := Lib.hid (by rw [← HME.out]; exact hr)
      have HB3 := Lib.hid hb
      clear hr hb hmk
      go_wp2
      go_ret
      exact ⟨rfl, HO.out, HB3.out⟩
theorem prow_any (a d : Int) (c : Nat) (hc : c ≤ 100000) (ha : 0 ≤ a ∧ a ≤ 1000000) (hd : 0 ≤ d ∧ d ≤ 1000) (w : World) :
    Calls Try.prog 79 #[.int .i64 a, .int .i64 c, .int .i64 d] w (fun e x => ∃ v, e = .returned v ∧ x.ownsRow w.heap.size 3 1 v (rowL a c d).length (flat encI (rowL a c d)) ∧ Below w.heap.size w x) := by
  refine (prow_at a d c hc ha hd w).mono ?_
  rintro e x ⟨rfl, hr, hb⟩
  have hl := rowL_len a c d
  have := hr.own (base := w.heap.size) (Nat.le_refl _) (by omega)
  exact ⟨_, rfl, by rw [hl] at this ⊢; exact this, hb⟩
end Go.Proofs.Ytgfbihdnjidodaa

namespace Go.Proofs.Ytgfbihdnjidodaa
open Go.RowKit Go.Shelf Go.Proofs.Gr
attribute [local go_sem] Oper.semAt_some

/-- Walks of few small numbers. -/
def Gd (S : List (List Int)) : Prop := ∀ l, l ∈ S → l.length ≤ 60 ∧ ∀ x, x ∈ l → 0 ≤ x ∧ x ≤ 5000
theorem Gd.nil : Gd [] := fun _ h => by cases h
theorem Gd.app {S T : List (List Int)} (h : Gd S) (k : Gd T) : Gd (S ++ T) := fun l hl => (List.mem_append.1 hl).elim (h l) (k l)
theorem Gd.one {l : List Int} (h : l.length ≤ 60) (k : ∀ x, x ∈ l → 0 ≤ x ∧ x ≤ 5000) : Gd [l] := fun m hm => by rw [List.mem_singleton.1 hm]; exact ⟨h, k⟩
theorem seqP_len (S : List (List Int)) (h : Gd S) : (seqP S).length ≤ 60 * S.length := by
  induction S with
  | nil => simp [seqP]
  | cons l S ih =>
    have h1 := (h l List.mem_cons_self).1
    have h2 := ih fun m hm => h m (List.mem_cons_of_mem _ hm)
    have h3 : (wP l).length = l.length - 1 := wI_len l l.length
    simp only [seqP, List.length_append, List.length_cons]
    omega
theorem seq_bounds {S : List (List Int)} (h : Gd S) (hl : S.length ≤ 10000) {V : Int} (hV : 0 ≤ V ∧ V ≤ 5001) {Q : List (Int × Int)} (hQ : Q.length ≤ 100000) : 0 ≤ seqV V S ∧ seqV V S ≤ 1000000 ∧ (Q ++ seqP S).length ≤ 10000000 := by
  have h1 := seqV_low V S
  have h2 := seqV_up V S 5001 hV.2 (fun l hl x hx => by have := (h l hl).2 x hx; omega)
  have h3 := seqP_len S h
  refine ⟨by omega, by omega, by rw [List.length_append]; omega⟩
/-- One walk more. -/
theorem pwalk_seq {B : Nat} {V : Int} (hV : 0 ≤ V ∧ V ≤ 5001) {Q : List (Int × Int)} (hQ : Q.length ≤ 100000) {S : List (List Int)} (hS : Gd S) (hSl : S.length ≤ 10000) {s0 s : Value} {w wr y : World} (hd : DrAt B (seqV V S) (Q ++ seqP S) s wr) (hst : Stp B s0 w wr s) (hy : Below wr.heap.size wr y)
    (b : Option Addr) (cap : Nat) (l : List Int) (hl : Gd [l]) (hr : IsAt y b l) (hA : ∀ p, b = some p → wr.heap.size ≤ p.block) :
    Calls Try.prog 78 #[.pointer (some ⟨B, 0, none⟩), .slice b l.length cap] y (fun e x => e = .returned (.tuple #[]) ∧ ∃ s', DrAt B (seqV V (S ++ [l])) (Q ++ seqP (S ++ [l])) s' x ∧ Stp B s0 w x s') := by
  obtain ⟨h1, h2, h3⟩ := seq_bounds hS hSl hV hQ
  obtain ⟨h4, h5⟩ := hl l List.mem_cons_self
  refine (pwalk_any B (seqV V S) ⟨h1, h2⟩ (Q ++ seqP S) h3 b cap l (by omega) (fun j hj => ?_) s y hr (fun p hp => ?_) (hd.keep hy)).mono ?_
  · rw [← iAt_get l j hj]
    have := h5 _ (List.getElem_mem hj)
    omega
  · subst hp
    exact hd.awy (hA p rfl) p rfl
  · rintro e x ⟨rfl, s', hd', hs'⟩
    refine ⟨rfl, s', ?_, (hst.trans (Stp.more (by have := hd.size; omega) hy)).trans hs'⟩
    rw [seqV_snoc, seqP_snoc, ← List.append_assoc]
    exact hd'
theorem own_addr {y : World} {base : Nat} {e : TypeId} {k n c m : Nat} {a : Option Addr} {xs : List Value} (h : y.ownsRow base e k (.slice a n c) m xs) : ∀ p, a = some p → base ≤ p.block := by
  intro p hp
  rcases h.2 with ⟨h0, -⟩ | ⟨g, cap, cur, h0, hg, -⟩
  · injection h0 with h1; rw [hp] at h1; cases h1
  · injection h0 with h1; rw [hp] at h1; injection h1 with h1; rw [h1]; exact hg
theorem rowL_gd (a : Int) (c : Nat) (d : Int) (hc : c ≤ 50) (ha : 0 ≤ a ∧ a ≤ 2500) (hd : 0 ≤ d ∧ d ≤ 50) : ∀ x, x ∈ rowL a c d → 0 ≤ x ∧ x ≤ 5000 := by
  intro x hx
  obtain ⟨i, hi, rfl⟩ := List.mem_map.1 hx
  have hi := List.mem_range.1 hi
  have m0 : (0 : Int) ≤ (i : Int) * d := Int.mul_nonneg (by omega) hd.1
  have m1 : (i : Int) * d ≤ 50 * 50 := Int.le_trans (Int.mul_le_mul_of_nonneg_right (by omega) hd.1) (Int.mul_le_mul_of_nonneg_left hd.2 (by omega))
  omega
/-- What a drawing function does. -/
def Drew (w : World) (B : Nat) (V : Int) (Q : List (Int × Int)) (s0 : Value) (S : List (List Int)) (e : Ending) (x : World) : Prop := e = .returned (.tuple #[]) ∧ ∃ s', DrAt B (seqV V S) (Q ++ seqP S) s' x ∧ Stp B s0 w x s'
set_option maxHeartbeats 12800000 in
set_option maxRecDepth 100000 in
theorem ppath_any (B : Nat) (V : Int) (hV : 0 ≤ V ∧ V ≤ 5001) (Q : List (Int × Int)) (hQ : Q.length ≤ 100000) (a : Option Addr) (cap : Nat) (L : List Int) (n : Nat) (hll : 1 ≤ L.length) (hl0 : iAt L 0 = (n : Nat)) (hn : n ≤ 50) (s0 : Value) (w : World) (hl : IsAt w a L) (hA : Awy a B s0) (hD : DrAt B V Q s0 w) :
    Calls Try.prog 53 #[.pointer (some ⟨B, 0, none⟩), .slice a L.length cap] w (Drew w B V Q s0 (pathS n)) := by
  obtain ⟨b0, o0, ea0, q0, x0⟩ := hl.one 0 (by omega)
  rw [hl0, Nat.add_zero] at x0
  have hln0 : (0 : Int) < (L.length : Int) := by omega
  have hd0 : DrAt B (seqV V []) (Q ++ seqP []) s0 w := by
    rw [show Q ++ seqP [] = Q from List.append_nil Q]; exact hD
  subst ea0
  have HD := Lib.hid hd0
  have HR := Lib.hid (fun w => prow_any 0 1 n (by omega) (by omega) (by omega) w)
  have HG : Hid (Gd [rowL 0 n 1]) := Lib.hid (Gd.one (by rw [rowL_len]; omega) (rowL_gd 0 n 1 (by omega) (by omega) (by omega)))
  have HE : Hid (pathS n = [] ++ [rowL 0 n 1]) := Lib.hid rfl
  generalize rowL 0 n 1 = R at *
  clear hl hA hD hd0 hl0
  unfold Drew
  go_enter Try.func53, Try.ntmps53
  go_wp2_with fail
  refine (HR.out _).mono ?_
  rintro e x1 ⟨v, rfl, ho, hb⟩
  obtain ⟨ra, rc, rfl, hr⟩ := RowAt.of_own (k := 1) (enc := encI) encI_len ho
  have HW := Lib.hid (fun cp => pwalk_seq hV hQ Gd.nil (by simp) HD.out (Stp.refl B s0 w) hb ra cp R HG.out hr (own_addr ho))
  clear ho hb hr x0
  go_wp2_with fail
  refine (HW.out _).mono ?_
  rintro e x2 ⟨rfl, s2, hd2, hs2⟩
  have H1 := Lib.hid hd2
  have H2 := Lib.hid hs2
  clear hd2 hs2
  go_wp2
  go_end0
  exact ⟨rfl, s2, by rw [HE.out]; exact H1.out, H2.out⟩
set_option maxHeartbeats 12800000 in
set_option maxRecDepth 100000 in
theorem pcycle_any (B : Nat) (V : Int) (hV : 0 ≤ V ∧ V ≤ 5001) (Q : List (Int × Int)) (hQ : Q.length ≤ 100000) (a : Option Addr) (cap : Nat) (L : List Int) (n : Nat) (hll : 1 ≤ L.length) (hl0 : iAt L 0 = (n : Nat)) (hn : n ≤ 50) (s0 : Value) (x0 : World) (hl : IsAt x0 a L) (hA : Awy a B s0) (hD : DrAt B V Q s0 x0) :
    Calls Try.prog 55 #[.pointer (some ⟨B, 0, none⟩), .slice a L.length cap] x0 (Drew x0 B V Q s0 (cycleS n)) := by
  obtain ⟨i0, hi0, hz0, hz1, hz2⟩ := info_parts infoI
  obtain ⟨b0, o0, ea0, q0, c0⟩ := hl.one 0 (by omega)
  rw [hl0, Nat.add_zero] at c0
  have hln0 : (0 : Int) < (L.length : Int) := by omega
  have hd0 : DrAt B (seqV V []) (Q ++ seqP []) s0 x0 := by
    rw [show Q ++ seqP [] = Q from List.append_nil Q]; exact hD
  subst ea0
  have HD := Lib.hid hd0
  have HST := Lib.hid (Stp.refl B s0 x0)
  have HR := Lib.hid (fun w => prow_any 0 1 n (by omega) (by omega) (by omega) w)
  have HG : Hid (Gd [rowL 0 n 1 ++ [0]]) := Lib.hid (Gd.one (by rw [List.length_append, rowL_len]; simp; omega) (fun x hx => (List.mem_append.1 hx).elim (rowL_gd 0 n 1 (by omega) (by omega) (by omega) x) (fun h => by rw [List.mem_singleton.1 h]; omega)))
  have HE : Hid (cycleS n = [] ++ [rowL 0 n 1 ++ [0]]) := Lib.hid rfl
  have hRl : (rowL 0 n 1).length ≤ 60 := by rw [rowL_len]; omega
  generalize rowL 0 n 1 = R at *
  clear hl hA hD hd0 hl0
  unfold Drew
  go_enter Try.func55, Try.ntmps55
  go_wp2_with fail
  refine (HR.out _).mono ?_
  rintro e x1 ⟨v, rfl, ho, hb⟩
  obtain ⟨ra, rc, rfl, -⟩ := RowAt.of_own (k := 1) (enc := encI) encI_len ho
  have HO := Lib.hid ho
  have HB := Lib.hid hb
  clear ho hb
  have hx0 : True := trivial
  clear c0
  go_wp2_with (at_builtin; refine wpList_append_own _ rfl _ _ 22 rfl x0.heap.size 3 i0 (.int .i64 0) 1 8 Try.underlying22 hi0 hz0 hz1 hz2 rfl (by decide) _ _ _ rfl (HO.out.alloc _) ⟨x1.heap.size, 0, none⟩ 1 1 [.int .i64 0] rfl rfl (lit_row _ _ _) (by simp [Value.oneCell']) (by unfold maxLen; omega) (by omega) (by rw [World.size_alloc]; have := HB.out.size; omega) ?_; intro v1 w3 hown1 hgrow1 _; obtain ⟨g', cap', rfl⟩ := own_succ hown1)
  have hb3 : Below x0.heap.size x0 w3 := (HB.out.alloc HB.out.size _).grown hgrow1 (by rw [World.size_alloc]; have := HB.out.size; omega) (fun k hk => (HO.out.lt k hk).1)
  have hown2 : w3.ownsRow x0.heap.size 3 1 (.slice (some ⟨g', 0, none⟩) (R.length + 1) cap') (R ++ [0]).length (flat encI (R ++ [0])) := by
    rw [List.length_append, flat_append, flat_one]; exact hown1
  obtain ⟨ra2, rc2, he2, hr2⟩ := RowAt.of_own (k := 1) (enc := encI) encI_len hown2
  injection he2 with he2 he3 he4
  subst he2
  have HW := Lib.hid (fun cp => pwalk_seq hV hQ Gd.nil (by simp) HD.out HST.out hb3 (some ⟨g', 0, none⟩) cp (R ++ [0]) HG.out hr2 (own_addr hown2))
  rw [show (R ++ ([0] : List Int)).length = R.length + 1 by simp] at HW
  clear hown1 hown2 hgrow1 hb3 hr2 he3 he4
  go_wp2_with fail
  refine (HW.out _).mono ?_
  rintro e x2 ⟨rfl, s2, hd2, hs2⟩
  have H1 := Lib.hid hd2
  have H2 := Lib.hid hs2
  clear hd2 hs2
  go_wp2
  go_end0
  exact ⟨rfl, s2, by rw [HE.out]; exact H1.out, H2.out⟩
set_option maxHeartbeats 12800000 in
set_option maxRecDepth 100000 in
theorem pstar_any (B : Nat) (V : Int) (hV : 0 ≤ V ∧ V ≤ 5001) (Q : List (Int × Int)) (hQ : Q.length ≤ 100000) (a : Option Addr) (cap : Nat) (L : List Int) (n : Nat) (hll : 1 ≤ L.length) (hl0 : iAt L 0 = (n : Nat)) (hn : n ≤ 50) (s0 : Value) (w : World) (hl : IsAt w a L) (hA : Awy a B s0) (hD : DrAt B V Q s0 w) :
    Calls Try.prog 57 #[.pointer (some ⟨B, 0, none⟩), .slice a L.length cap] w (Drew w B V Q s0 (starS n)) := by
  obtain ⟨b0, o0, ea0, q0, x0⟩ := hl.one 0 (by omega)
  rw [hl0, Nat.add_zero] at x0
  have hln0 : (0 : Int) < (L.length : Int) := by omega
  have hd0 : DrAt B (seqV V []) (Q ++ seqP []) s0 w := by
    rw [show Q ++ seqP [] = Q from List.append_nil Q]; exact hD
  subst ea0
  have HD := Lib.hid hd0
  have HR := Lib.hid (fun w => prow_any 1 1 n (by omega) (by omega) (by omega) w)
  have HRA := Lib.hid (fun i h => rowL_at 1 n 1 i h)
  have hrn : (rowL 1 n 1).length = n := rowL_len _ _ _
  have HS0 : Hid (starS 0 = []) := Lib.hid rfl
  have HSS : Hid (∀ i, starS (i + 1) = starS i ++ [[0, 1 + (i : Int) * 1]]) := Lib.hid fun i => by simp [starS, List.range_succ]
  have HSG : Hid (∀ i, i ≤ n → Gd (starS i) ∧ (starS i).length ≤ 10000) := Lib.hid fun i hi => ⟨fun l hl => by
    obtain ⟨j, hj, rfl⟩ := List.mem_map.1 hl
    have := List.mem_range.1 hj
    exact ⟨by simp, fun x hx => by simp at hx; omega⟩, by simp [starS]; omega⟩
  generalize starS = S at *
  clear hl hA hD hd0 hl0
  unfold Drew
  go_enter Try.func57, Try.ntmps57
  go_wp2_with fail
  refine (HR.out _).mono ?_
  rintro e x1 ⟨v, rfl, ho, hb⟩
  obtain ⟨ra, rc, rfl, hr0⟩ := RowAt.of_own (k := 1) (enc := encI) encI_len ho
  have HX1 := Lib.hid hr0
  have HD1 := Lib.hid (HD.out.keep hb)
  have HAW : Hid (Awy ra B s0) := Lib.hid fun p hp => HD.out.awy (own_addr ho p hp) p rfl
  have HST1 : Hid (Stp B s0 w x1 s0) := Lib.hid (Stp.more (by have := HD.out.size; omega) hb)
  generalize rowL 1 n 1 = R at *
  clear ho hb hr0 x0
  rw [hrn]
  have HRN := Lib.hid hrn
  clear hrn
  go_wp2
  go_loopw [5, 11] (fun _ x wr => ∃ (i : Nat) (s : Value), i ≤ n ∧ x = .int .i64 i ∧ DrAt B (seqV V (S i)) (Q ++ seqP (S i)) s wr ∧ Stp B s0 x1 wr s) (fun _ x _ => n - (intOf x).toNat)
  case atStart => exact ⟨0, s0, by omega, rfl, by rw [HS0.out]; exact HD1.out, Stp.refl _ _ _⟩
  case round =>
    obtain ⟨i, s, hi, rfl, hd, hst⟩ := hrel
    by_cases hlt : i < n
    · have i1 : (i : Int) < (n : Int) := by omega
      have i2 : (0 : Int) ≤ (i : Int) := by omega
      obtain ⟨rb, ro, rfl, q2, x2⟩ := (hst.row HX1.out HAW.out).one i (by rw [HRN.out]; exact hlt)
      obtain ⟨SG, SL⟩ := HSG.out i hi
      have hra := HRA.out i hlt
      have HSn := Lib.hid (HSS.out i)
      obtain ⟨z, hz⟩ : ∃ z, z = iAt R i := ⟨_, rfl⟩
      rw [← hz] at x2
      have hz2 : z = 1 + (i : Int) * 1 := hz.trans hra
      have hy : Below wr.heap.size wr (wr.alloc (Obj.cells #[.int .i64 0, .int .i64 z] 3)) := (Below.refl _ _).alloc (Nat.le_refl _) _
      have hr : IsAt (wr.alloc (Obj.cells #[.int .i64 0, .int .i64 z] 3)) (some ⟨wr.heap.size, 0, none⟩) [0, z] := RowAt.of_blkF (k := 1) (enc := encI) encI_len (Blk.new _ _ _) rfl
      have HW := Lib.hid (fun cp => pwalk_seq hV hQ SG SL hd hst hy (some ⟨wr.heap.size, 0, none⟩) cp [0, z] (Gd.one (by simp) (fun x hx => by simp at hx; omega)) hr (fun p hp => by injection hp with hp; rw [← hp]; exact Nat.le_refl _))
      clear hy hr
      have HZ := Lib.hid hz2
      clear hd hst hra hz hz2 SG SL
      go_wp2_with fail
      refine (HW.out _).mono ?_
      rintro e x2 ⟨rfl, s2, hd2, hs2⟩
      have H1 := Lib.hid hd2
      have H2 := Lib.hid hs2
      clear hd2 hs2 HW
      go_wp2
      go_roundw
      case rel => exact ⟨i + 1, s2, by omega, by go_num, by rw [HSn.out, ← HZ.out]; exact H1.out, H2.out⟩
      case measure => simp [intOf]; omega
    · obtain rfl : i = n := by omega
      have i1 : ¬ (i : Int) < (i : Int) := by omega
      have H1 := Lib.hid hd
      have H2 := Lib.hid (HST1.out.trans hst)
      clear hd hst
      go_wp2
      go_end0
      exact ⟨rfl, s, H1.out, H2.out⟩
set_option maxHeartbeats 12800000 in
set_option maxRecDepth 100000 in
theorem pbanana_any (B : Nat) (V : Int) (hV : 0 ≤ V ∧ V ≤ 5001) (Q : List (Int × Int)) (hQ : Q.length ≤ 100000) (a : Option Addr) (cap : Nat) (L : List Int) (n : Nat) (hll : 1 ≤ L.length) (hl0 : iAt L 0 = (n : Nat)) (hn : n ≤ 50) (s0 : Value) (w : World) (hl : IsAt w a L) (hA : Awy a B s0) (hD : DrAt B V Q s0 w) :
    Calls Try.prog 60 #[.pointer (some ⟨B, 0, none⟩), .slice a L.length cap] w (Drew w B V Q s0 (bananaS n)) := by
  obtain ⟨b0, o0, ea0, q0, x0⟩ := hl.one 0 (by omega)
  rw [hl0, Nat.add_zero] at x0
  have hln0 : (0 : Int) < (L.length : Int) := by omega
  have hd0 : DrAt B (seqV V []) (Q ++ seqP []) s0 w := by
    rw [show Q ++ seqP [] = Q from List.append_nil Q]; exact hD
  subst ea0
  have HD := Lib.hid hd0
  have HS0 : Hid (bananaS 0 = []) := Lib.hid rfl
  have HSS : Hid (∀ i, bananaS (i + 1) = bananaS i ++ [[0, 1]]) := Lib.hid fun i => by simp [bananaS, List.replicate_succ']
  have HSG : Hid (∀ i, i ≤ n → Gd (bananaS i) ∧ (bananaS i).length ≤ 10000) := Lib.hid fun i hi => ⟨fun l hl => by
    rw [List.eq_of_mem_replicate hl]
    exact ⟨by simp, fun x hx => by simp at hx; omega⟩, by simp [bananaS]; omega⟩
  generalize bananaS = S at *
  clear hl hA hD hd0 hl0
  unfold Drew
  go_enter Try.func60, Try.ntmps60
  go_wp2
  go_loopw [7] (fun x wr => ∃ (i : Nat) (s : Value), i ≤ n ∧ x = .int .i64 i ∧ DrAt B (seqV V (S i)) (Q ++ seqP (S i)) s wr ∧ Stp B s0 w wr s) (fun x _ => n - (intOf x).toNat)
  case atStart => exact ⟨0, s0, by omega, rfl, by rw [HS0.out]; exact HD.out, Stp.refl _ _ _⟩
  case round =>
    obtain ⟨i, s, hi, rfl, hd, hst⟩ := hrel
    by_cases hlt : i < n
    · have i1 : (i : Int) < (n : Int) := by omega
      obtain ⟨SG, SL⟩ := HSG.out i hi
      have HSn := Lib.hid (HSS.out i)
      have hy : Below wr.heap.size wr (wr.alloc (Obj.cells #[.int .i64 0, .int .i64 1] 3)) := (Below.refl _ _).alloc (Nat.le_refl _) _
      have hr : IsAt (wr.alloc (Obj.cells #[.int .i64 0, .int .i64 1] 3)) (some ⟨wr.heap.size, 0, none⟩) [0, 1] := RowAt.of_blkF (k := 1) (enc := encI) encI_len (Blk.new _ _ _) rfl
      have HW := Lib.hid (fun cp => pwalk_seq hV hQ SG SL hd hst hy (some ⟨wr.heap.size, 0, none⟩) cp [0, 1] (Gd.one (by simp) (fun x hx => by simp at hx; omega)) hr (fun p hp => by injection hp with hp; rw [← hp]; exact Nat.le_refl _))
      clear hy hr
      clear hd hst SG SL x0
      go_wp2_with fail
      refine (HW.out _).mono ?_
      rintro e x2 ⟨rfl, s2, hd2, hs2⟩
      have H1 := Lib.hid hd2
      have H2 := Lib.hid hs2
      clear hd2 hs2 HW
      go_wp2
      go_roundw
      case rel => exact ⟨i + 1, s2, by omega, by go_num, by rw [HSn.out]; exact H1.out, H2.out⟩
      case measure => simp [intOf]; omega
    · obtain rfl : i = n := by omega
      have i1 : ¬ (i : Int) < (i : Int) := by omega
      have H1 := Lib.hid hd
      have H2 := Lib.hid hst
      clear hd hst x0
      go_wp2
      go_end0
      exact ⟨rfl, s, H1.out, H2.out⟩
set_option maxHeartbeats 12800000 in
set_option maxRecDepth 100000 in
theorem pwheel_any (B : Nat) (V : Int) (hV : 0 ≤ V ∧ V ≤ 5001) (Q : List (Int × Int)) (hQ : Q.length ≤ 100000) (a : Option Addr) (cap : Nat) (L : List Int) (n : Nat) (hll : 1 ≤ L.length) (hl0 : iAt L 0 = (n : Nat)) (hn : n ≤ 50) (s0 : Value) (w : World) (hl : IsAt w a L) (hA : Awy a B s0) (hD : DrAt B V Q s0 w) :
    Calls Try.prog 61 #[.pointer (some ⟨B, 0, none⟩), .slice a L.length cap] w (Drew w B V Q s0 (wheelS n)) := by
  obtain ⟨i0, hi0, hz0, hz1, hz2⟩ := info_parts infoI
  have hln0 : (0 : Int) < (L.length : Int) := by omega
  have HD := Lib.hid hD
  have HSTR := Lib.hid (fun w' (hl' : IsAt w' a L) hA' hD' => pstar_any B V hV Q hQ a cap L n hll hl0 hn s0 w' hl' hA' hD')
  have HR := Lib.hid (fun w => prow_any 1 1 n (by omega) (by omega) (by omega) w)
  have HG : Hid (Gd [rowL 1 n 1 ++ [1]]) := Lib.hid (Gd.one (by rw [List.length_append, rowL_len]; simp; omega) (fun x hx => (List.mem_append.1 hx).elim (rowL_gd 1 n 1 (by omega) (by omega) (by omega) x) (fun h => by rw [List.mem_singleton.1 h]; omega)))
  have HE : Hid (wheelS n = starS n ++ [rowL 1 n 1 ++ [1]]) := Lib.hid rfl
  have HSG : Hid (Gd (starS n) ∧ (starS n).length ≤ 10000) := Lib.hid ⟨fun l hl => by
    obtain ⟨j, hj, rfl⟩ := List.mem_map.1 hl
    have := List.mem_range.1 hj
    exact ⟨by simp, fun x hx => by simp at hx; omega⟩, by simp [starS]; omega⟩
  have hRl : (rowL 1 n 1).length ≤ 60 := by rw [rowL_len]; omega
  generalize rowL 1 n 1 = R at *
  generalize starS n = S at *
  have HL := Lib.hid hl
  have HA := Lib.hid hA
  have HL0 := Lib.hid hl0
  clear hl hA hD hl0
  unfold Drew at HSTR
  unfold Drew
  go_enter Try.func61, Try.ntmps61
  go_wp2_with fail
  refine (HSTR.out _ HL.out HA.out HD.out).mono ?_
  rintro e x0 ⟨rfl, s1, hd1, hs1⟩
  obtain ⟨b1, o1, ea1, q1, c0⟩ := (hs1.row HL.out HA.out).one 0 (by omega)
  rw [HL0.out, Nat.add_zero] at c0
  subst ea1
  have HD := Lib.hid hd1
  have HST := Lib.hid hs1
  clear hd1 hs1
  go_wp2_with fail
  refine (HR.out _).mono ?_
  rintro e x1 ⟨v, rfl, ho, hb⟩
  obtain ⟨ra, rc, rfl, -⟩ := RowAt.of_own (k := 1) (enc := encI) encI_len ho
  have HO := Lib.hid ho
  have HB := Lib.hid hb
  clear ho hb
  have hx0 : True := trivial
  clear c0
  go_wp2_with (at_builtin; refine wpList_append_own _ rfl _ _ 22 rfl x0.heap.size 3 i0 (.int .i64 0) 1 8 Try.underlying22 hi0 hz0 hz1 hz2 rfl (by decide) _ _ _ rfl (HO.out.alloc _) ⟨x1.heap.size, 0, none⟩ 1 1 [.int .i64 1] rfl rfl (lit_row _ _ _) (by simp [Value.oneCell']) (by unfold maxLen; omega) (by omega) (by rw [World.size_alloc]; have := HB.out.size; omega) ?_; intro v1 w3 hown1 hgrow1 _; obtain ⟨g', cap', rfl⟩ := own_succ hown1)
  have hb3 : Below x0.heap.size x0 w3 := (HB.out.alloc HB.out.size _).grown hgrow1 (by rw [World.size_alloc]; have := HB.out.size; omega) (fun k hk => (HO.out.lt k hk).1)
  have hown2 : w3.ownsRow x0.heap.size 3 1 (.slice (some ⟨g', 0, none⟩) (R.length + 1) cap') (R ++ [1]).length (flat encI (R ++ [1])) := by
    rw [List.length_append, flat_append, flat_one]; exact hown1
  obtain ⟨ra2, rc2, he2, hr2⟩ := RowAt.of_own (k := 1) (enc := encI) encI_len hown2
  injection he2 with he2 he3 he4
  subst he2
  have HW := Lib.hid (fun cp => pwalk_seq hV hQ HSG.out.1 HSG.out.2 HD.out HST.out hb3 (some ⟨g', 0, none⟩) cp (R ++ [1]) HG.out hr2 (own_addr hown2))
  rw [show (R ++ ([1] : List Int)).length = R.length + 1 by simp] at HW
  clear hown1 hown2 hgrow1 hb3 hr2 he3 he4
  go_wp2_with fail
  refine (HW.out _).mono ?_
  rintro e x2 ⟨rfl, s2, hd2, hs2⟩
  have H1 := Lib.hid hd2
  have H2 := Lib.hid hs2
  clear hd2 hs2
  go_wp2
  go_end0
  exact ⟨rfl, s2, by rw [HE.out]; exact H1.out, H2.out⟩
end Go.Proofs.Ytgfbihdnjidodaa

namespace Go.Proofs.Ytgfbihdnjidodaa
open Go.RowKit Go.Shelf Go.Proofs.Gr
attribute [local go_sem] Oper.semAt_some

/-- The walks of a complete graph under way. -/
def compX (i j : Nat) : List (List Int) := completeS i ++ [[(i : Int)]] ++ compR i j
theorem compX_zero (i : Nat) : compX i 0 = completeS i ++ [[(i : Int)]] := by simp [compX, compR]
theorem compX_succ (i j : Nat) : compX i (j + 1) = compX i j ++ [[(j : Int), (i : Int)]] := by simp [compX, compR, List.range_succ]
theorem compX_last (i : Nat) : compX i i = completeS (i + 1) := by simp [compX, completeS, List.range_succ]
theorem completeS_len (i : Nat) (h : i ≤ 50) : (completeS i).length ≤ 51 * i := by
  induction i with
  | zero => simp [completeS]
  | succ i ih =>
    rw [← compX_last, compX]
    have := ih (by omega)
    simp only [List.length_append, List.length_singleton, compR, List.length_map, List.length_range]
    omega
theorem completeS_gd (i : Nat) (h : i ≤ 50) : Gd (completeS i) := by
  intro l hl
  obtain ⟨v, hv, hl⟩ := List.mem_flatMap.1 hl
  have hv := List.mem_range.1 hv
  rcases List.mem_cons.1 hl with rfl | hl
  · exact ⟨by simp, fun x hx => by simp at hx; omega⟩
  · obtain ⟨w, hw, rfl⟩ := List.mem_map.1 hl
    have hw := List.mem_range.1 hw
    exact ⟨by simp, fun x hx => by simp at hx; omega⟩
theorem compX_gd (i j : Nat) (h : i ≤ 49) (hj : j ≤ i) : Gd (compX i j) ∧ (compX i j).length ≤ 10000 := by
  refine ⟨(Gd.app (completeS_gd i (by omega)) (Gd.one (by simp) (fun x hx => by simp at hx; omega))).app fun l hl => ?_, ?_⟩
  · obtain ⟨w, hw, rfl⟩ := List.mem_map.1 hl
    have hw := List.mem_range.1 hw
    exact ⟨by simp, fun x hx => by simp at hx; omega⟩
  · have := completeS_len i (by omega)
    simp only [compX, List.length_append, List.length_singleton, compR, List.length_map, List.length_range]
    omega
set_option maxHeartbeats 12800000 in
set_option maxRecDepth 100000 in
theorem pcomplete_any (B : Nat) (V : Int) (hV : 0 ≤ V ∧ V ≤ 5001) (Q : List (Int × Int)) (hQ : Q.length ≤ 100000) (a : Option Addr) (cap : Nat) (L : List Int) (n : Nat) (hll : 1 ≤ L.length) (hl0 : iAt L 0 = (n : Nat)) (hn : n ≤ 50) (s0 : Value) (w : World) (hl : IsAt w a L) (hA : Awy a B s0) (hD : DrAt B V Q s0 w) :
    Calls Try.prog 58 #[.pointer (some ⟨B, 0, none⟩), .slice a L.length cap] w (Drew w B V Q s0 (completeS n)) := by
  obtain ⟨b0, o0, ea0, q0, x0⟩ := hl.one 0 (by omega)
  rw [hl0, Nat.add_zero] at x0
  have hln0 : (0 : Int) < (L.length : Int) := by omega
  have hd0 : DrAt B (seqV V []) (Q ++ seqP []) s0 w := by
    rw [show Q ++ seqP [] = Q from List.append_nil Q]; exact hD
  subst ea0
  have HD := Lib.hid hd0
  have HS0 : Hid (completeS 0 = []) := Lib.hid rfl
  have HX0 := Lib.hid compX_zero
  have HXS := Lib.hid compX_succ
  have HXL := Lib.hid compX_last
  have HSG : Hid (∀ i, i ≤ n → Gd (completeS i) ∧ (completeS i).length ≤ 10000) := Lib.hid fun i hi => ⟨completeS_gd i (by omega), by have := completeS_len i (by omega); omega⟩
  have HXG : Hid (∀ i j, i < n → j ≤ i → Gd (compX i j) ∧ (compX i j).length ≤ 10000) := Lib.hid fun i j hi hj => compX_gd i j (by omega) hj
  generalize completeS = S at *
  generalize compX = X at *
  clear hl hA hD hd0 hl0
  unfold Drew
  go_enter Try.func58, Try.ntmps58
  go_wp2
  go_loopw [9] (fun x wr => ∃ (i : Nat) (s : Value), i ≤ n ∧ x = .int .i64 i ∧ DrAt B (seqV V (S i)) (Q ++ seqP (S i)) s wr ∧ Stp B s0 w wr s) (fun x _ => n - (intOf x).toNat)
  case atStart => exact ⟨0, s0, by omega, rfl, by rw [HS0.out]; exact HD.out, Stp.refl _ _ _⟩
  case round =>
    obtain ⟨i, s, hi, rfl, hd, hst⟩ := hrel
    by_cases hlt : i < n
    · have i1 : (i : Int) < (n : Int) := by omega
      obtain ⟨SG, SL⟩ := HSG.out i hi
      have hy : Below wr.heap.size wr (wr.alloc (Obj.cells #[.int .i64 i] 3)) := (Below.refl _ _).alloc (Nat.le_refl _) _
      have hr : IsAt (wr.alloc (Obj.cells #[.int .i64 i] 3)) (some ⟨wr.heap.size, 0, none⟩) [(i : Int)] := RowAt.of_blkF (k := 1) (enc := encI) encI_len (Blk.new _ _ _) rfl
      have HW := Lib.hid (fun cp => pwalk_seq hV hQ SG SL hd hst hy (some ⟨wr.heap.size, 0, none⟩) cp [(i : Int)] (Gd.one (by simp) (fun x hx => by simp at hx; omega)) hr (fun p hp => by injection hp with hp; rw [← hp]; exact Nat.le_refl _))
      clear hy hr
      clear hd hst SG SL x0
      go_wp2_with fail
      refine (HW.out _).mono ?_
      rintro e x2 ⟨rfl, s2, hd2, hs2⟩
      have H1 := Lib.hid hd2
      have H2 := Lib.hid hs2
      clear hd2 hs2 HW
      rw [← HX0.out] at H1
      go_wp2
      go_loopw [17] (fun y wq => ∃ (j : Nat) (s : Value), j ≤ i ∧ y = .int .i64 j ∧ DrAt B (seqV V (X i j)) (Q ++ seqP (X i j)) s wq ∧ Stp B s0 w wq s) (fun y _ => i - (intOf y).toNat)
      case atStart => exact ⟨0, s2, by omega, rfl, H1.out, H2.out⟩
      case round =>
        obtain ⟨j, s, hj, rfl, hd, hst⟩ := hrel
        by_cases hjl : j < i
        · have j1 : (j : Int) < (i : Int) := by omega
          obtain ⟨SG, SL⟩ := HXG.out i j hlt hj
          have hy : Below wr.heap.size wr (wr.alloc (Obj.cells #[.int .i64 j, .int .i64 i] 3)) := (Below.refl _ _).alloc (Nat.le_refl _) _
          have hr : IsAt (wr.alloc (Obj.cells #[.int .i64 j, .int .i64 i] 3)) (some ⟨wr.heap.size, 0, none⟩) [(j : Int), (i : Int)] := RowAt.of_blkF (k := 1) (enc := encI) encI_len (Blk.new _ _ _) rfl
          have HW := Lib.hid (fun cp => pwalk_seq hV hQ SG SL hd hst hy (some ⟨wr.heap.size, 0, none⟩) cp [(j : Int), (i : Int)] (Gd.one (by simp) (fun x hx => by simp at hx; omega)) hr (fun p hp => by injection hp with hp; rw [← hp]; exact Nat.le_refl _))
          clear hy hr
          clear hd hst SG SL
          go_wp2_with fail
          refine (HW.out _).mono ?_
          rintro e x3 ⟨rfl, s3, hd2, hs3⟩
          have H3 := Lib.hid hd2
          have H4 := Lib.hid hs3
          clear hd2 hs3 HW
          go_wp2
          go_roundw
          case rel => exact ⟨j + 1, s3, by omega, by go_num, by rw [HXS.out]; exact H3.out, H4.out⟩
          case measure => simp [intOf]; omega
        · obtain rfl : j = i := by omega
          have j1 : ¬ (j : Int) < (j : Int) := by omega
          have H3 := Lib.hid hd
          have H4 := Lib.hid hst
          clear hd hst
          go_wp2
          go_roundw
          case rel => exact ⟨j + 1, s, by omega, by go_num, by rw [← HXL.out]; exact H3.out, H4.out⟩
          case measure => simp [intOf]; omega
    · obtain rfl : i = n := by omega
      have i1 : ¬ (i : Int) < (i : Int) := by omega
      have H1 := Lib.hid hd
      have H2 := Lib.hid hst
      clear hd hst x0
      go_wp2
      go_end0
      exact ⟨rfl, s, H1.out, H2.out⟩
set_option maxHeartbeats 12800000 in
set_option maxRecDepth 100000 in
theorem pgrid_any (B : Nat) (V : Int) (hV : 0 ≤ V ∧ V ≤ 5001) (Q : List (Int × Int)) (hQ : Q.length ≤ 100000) (a : Option Addr) (cap : Nat) (L : List Int) (m n : Nat) (hll : 2 ≤ L.length) (hl0 : iAt L 0 = (m : Nat)) (hm : m ≤ 50) (hl1 : iAt L 1 = (n : Nat)) (hn : n ≤ 50) (s0 : Value) (w : World) (hl : IsAt w a L) (hA : Awy a B s0) (hD : DrAt B V Q s0 w) :
    Calls Try.prog 65 #[.pointer (some ⟨B, 0, none⟩), .slice a L.length cap] w (Drew w B V Q s0 (gridS m n)) := by
  obtain ⟨b0, o0, ea0, q0, x0⟩ := hl.one 0 (by omega)
  rw [hl0, Nat.add_zero] at x0
  obtain ⟨b1, o1, ea1, q1, x1⟩ := hl.one 1 (by omega)
  rw [hl1] at x1
  have hln0 : (0 : Int) < (L.length : Int) := by omega
  have hln1 : (1 : Int) < (L.length : Int) := by omega
  have hne : ¬ L = [] := by intro h; rw [h] at hll; simp at hll
  have hd0 : DrAt B (seqV V []) (Q ++ seqP []) s0 w := by
    rw [show Q ++ seqP [] = Q from List.append_nil Q]; exact hD
  subst ea0
  injection ea1 with ea1
  injection ea1 with ea1 ea2
  subst ea1 ea2
  have HD := Lib.hid hd0
  have HX0 : Hid (b0 < w.heap.size ∧ w.cell? ⟨b0, o0, none⟩ = some (.int .i64 m)) := Lib.hid ⟨q0, x0⟩
  have HX1 : Hid (b0 < w.heap.size ∧ w.cell? ⟨b0, o0 + 1, none⟩ = some (.int .i64 n)) := Lib.hid ⟨q0, x1⟩
  have HR := Lib.hid (fun a (c : Nat) (d : Int) (ha : 0 ≤ a ∧ a ≤ 2500) (hc : c ≤ 50) (hd : 0 ≤ d ∧ d ≤ 50) w => prow_any a d c (by omega) (by omega) (by omega) w)
  have HRG := Lib.hid (fun a (c : Nat) (d : Int) (ha : 0 ≤ a ∧ a ≤ 2500) (hc : c ≤ 50) (hd : 0 ≤ d ∧ d ≤ 50) => (Gd.one (by rw [rowL_len]; omega) (rowL_gd a c d hc ha hd) : Gd [rowL a c d]))
  have HS0 : Hid (gridS1 n 0 = []) := Lib.hid rfl
  have HSS : Hid (∀ i : Nat, gridS1 n (i + 1) = gridS1 n i ++ [rowL ((i : Int) * n) n 1]) := Lib.hid fun i => by simp [gridS1, List.range_succ]
  have HSG : Hid (∀ i, i ≤ m → Gd (gridS1 n i) ∧ (gridS1 n i).length ≤ 10000) := Lib.hid fun i hi => ⟨fun l hl => by
    obtain ⟨j, hj, rfl⟩ := List.mem_map.1 hl
    have hj := List.mem_range.1 hj
    have := Nat.mul_le_mul (show j ≤ 50 by omega) hn
    exact HRG.out ((j : Int) * n) n 1 (by rw [← Int.natCast_mul]; omega) (by omega) (by omega) _ List.mem_cons_self, by simp [gridS1]; omega⟩
  have HT0 : Hid (gridS1 n m ++ gridS2 m n 0 = gridS1 n m) := Lib.hid (by simp [gridS2])
  have HTS : Hid (∀ i : Nat, gridS1 n m ++ gridS2 m n (i + 1) = gridS1 n m ++ gridS2 m n i ++ [rowL (i : Int) m n]) := Lib.hid fun i => by simp [gridS2, List.range_succ]
  have HTG : Hid (∀ i, i ≤ n → Gd (gridS1 n m ++ gridS2 m n i) ∧ (gridS1 n m ++ gridS2 m n i).length ≤ 10000) := Lib.hid fun i hi => ⟨(HSG.out m (by omega)).1.app fun l hl => by
    obtain ⟨j, hj, rfl⟩ := List.mem_map.1 hl
    have hj := List.mem_range.1 hj
    exact HRG.out (j : Int) m n (by omega) (by omega) (by omega) _ List.mem_cons_self, by simp [gridS1, gridS2]; omega⟩
  have HE : Hid (gridS1 n m ++ gridS2 m n n = gridS m n) := Lib.hid rfl
  have HMUL : Hid (∀ i : Nat, i < m → 0 ≤ (i : Int) * n ∧ (i : Int) * n ≤ 2500) := Lib.hid fun i hi => by
    have := Nat.mul_le_mul (show i ≤ 50 by omega) hn
    rw [← Int.natCast_mul]; omega
  generalize gridS1 n = S at *
  generalize hTT : (fun i => S m ++ gridS2 m n i) = T at *
  have HTT : Hid (∀ i, S m ++ gridS2 m n i = T i) := Lib.hid fun i => by rw [← hTT]
  simp only [HTT.out] at HT0 HTS HTG HE
  clear hl hA hD hd0 hl0 hl1 hTT x0 x1 HTT
  unfold Drew
  go_enter Try.func65, Try.ntmps65
  go_wp2
  have hj0 : Below w.heap.size w w.drew := (Below.refl _ _).drew
  refine wp_region_late (S := fun u => Below w.heap.size w u) (X := []) (by kernel_rfl) ?_
  refine wpAnyL_pureD (i := 0) 8 (.slice (some ⟨b0, o0, none⟩) L.length cap) rfl rfl (by kernel_rfl) (by kernel_rfl) (by kernel_rfl) (fun _ _ _ h => h) (Or.inl ⟨by rfl, fun u _ => ?_⟩) ?_
  · go_simp
  try simp only [Act.put, List.setIfInBounds_toArray, List.set_cons_zero, List.set_cons_succ]
  refine wpAnyL_pureD (i := 1) 9 (.pointer (some ⟨b0, o0, none⟩)) rfl rfl (by kernel_rfl) (by kernel_rfl) (by kernel_rfl) (fun _ _ _ h => h) (Or.inl ⟨by rfl, fun u _ => ?_⟩) ?_
  · go_simp
  try simp only [Act.put, List.setIfInBounds_toArray, List.set_cons_zero, List.set_cons_succ]
  refine wpAnyL_takeD (i := 2) 10 (.int .i64 m) rfl rfl (by kernel_rfl) (by kernel_rfl) (by kernel_rfl) (by kernel_rfl) (by kernel_rfl) (fun _ _ _ h => h) hj0 (Or.inl ⟨by rfl, fun u hu => ?_⟩) ?_
  · have t0 := (hu.cell (p := ⟨b0, o0, none⟩) HX0.out.1).trans HX0.out.2
    go_simp
  try simp only [Act.put, List.setIfInBounds_toArray, List.set_cons_zero, List.set_cons_succ]
  refine wpAnyL_pureD (i := 3) 11 (.slice (some ⟨b0, o0, none⟩) L.length cap) rfl rfl (by kernel_rfl) (by kernel_rfl) (by kernel_rfl) (fun _ _ _ h => h) (Or.inl ⟨by rfl, fun u _ => ?_⟩) ?_
  · go_simp
  try simp only [Act.put, List.setIfInBounds_toArray, List.set_cons_zero, List.set_cons_succ]
  refine wpAnyL_pureD (i := 4) 12 (.pointer (some ⟨b0, o0 + 1, none⟩)) rfl rfl (by kernel_rfl) (by kernel_rfl) (by kernel_rfl) (fun _ _ _ h => h) (Or.inl ⟨by rfl, fun u _ => ?_⟩) ?_
  · go_simp
  try simp only [Act.put, List.setIfInBounds_toArray, List.set_cons_zero, List.set_cons_succ]
  refine wpAnyL_takeD (i := 5) 13 (.int .i64 n) rfl rfl (by kernel_rfl) (by kernel_rfl) (by kernel_rfl) (by kernel_rfl) (by kernel_rfl) (fun _ _ _ h => h) hj0 (Or.inl ⟨by rfl, fun u hu => ?_⟩) ?_
  · have t0 := (hu.cell (p := ⟨b0, o0 + 1, none⟩) HX1.out.1).trans HX1.out.2
    go_simp
  try simp only [Act.put, List.setIfInBounds_toArray, List.set_cons_zero, List.set_cons_succ]
  refine wpAnyL_pureD (i := 6) 4 (.int .i64 m) rfl rfl (by kernel_rfl) (by kernel_rfl) (by kernel_rfl) (fun _ _ _ h => h) (Or.inl ⟨by rfl, fun u _ => ?_⟩) ?_
  · go_simp
  try simp only [Act.put, List.setIfInBounds_toArray, List.set_cons_zero, List.set_cons_succ]
  refine wpAnyL_pureD (i := 7) 5 (.int .i64 n) rfl rfl (by kernel_rfl) (by kernel_rfl) (by kernel_rfl) (fun _ _ _ h => h) (Or.inl ⟨by rfl, fun u _ => ?_⟩) ?_
  · go_simp
  try simp only [Act.put, List.setIfInBounds_toArray, List.set_cons_zero, List.set_cons_succ]
  refine wpAnyL_done (by kernel_rfl) ?_ _
  try simp only [Act.put, List.setIfInBounds_toArray, List.set_cons_zero, List.set_cons_succ]
  clear hj0
  go_wp2
  go_loopw [15] (fun x wr => ∃ (i : Nat) (s : Value), i ≤ m ∧ x = .int .i64 i ∧ DrAt B (seqV V (S i)) (Q ++ seqP (S i)) s wr ∧ Stp B s0 w wr s) (fun x _ => m - (intOf x).toNat)
  case atStart => exact ⟨0, s0, by omega, rfl, by rw [HS0.out]; exact HD.out.keep (Below.refl _ _).drew, Stp.more (by have := HD.out.size; omega) (Below.refl _ _).drew⟩
  case round =>
    obtain ⟨i, s, hi, rfl, hd, hst⟩ := hrel
    by_cases hlt : i < m
    · have i1 : (i : Int) < (m : Int) := by omega
      have hmm := HMUL.out i hlt
      obtain ⟨SG, SL⟩ := HSG.out i hi
      have HSn := HSS.out i
      obtain ⟨q, hq⟩ : ∃ q, q = (i : Int) * n := ⟨_, rfl⟩
      rw [← hq] at hmm HSn
      have e1 : IntKind.i64.wrap ((i : Int) * (n : Int)) = q := by rw [← hq]; exact IntWalk.i64_in _ (by omega)
      have HSn := Lib.hid HSn
      have LG := HRG.out q n 1 hmm hn (by omega)
      have HC := Lib.hid (fun w => HR.out q n 1 hmm hn (by omega) w)
      clear hq
      go_wp2_with fail
      refine (HC.out _).mono ?_
      rintro e x1 ⟨v, rfl, ho, hb⟩
      obtain ⟨ra, rc, rfl, hr⟩ := RowAt.of_own (k := 1) (enc := encI) encI_len ho
      have HW := Lib.hid (fun cp => pwalk_seq hV hQ SG SL hd hst hb ra cp (rowL q n 1) LG hr (own_addr ho))
      generalize hRR : rowL q n 1 = R at *
      clear ho hb hr hd hst LG
      go_wp2_with fail
      refine (HW.out _).mono ?_
      rintro e x2 ⟨rfl, s2, hd2, hs2⟩
      have H1 := Lib.hid hd2
      have H2 := Lib.hid hs2
      clear hd2 hs2 HW
      have HRR := Lib.hid hRR
      clear hRR
      clear SG SL
      go_wp2
      go_roundw
      case rel => exact ⟨i + 1, s2, by omega, by go_num, by rw [HSn.out]; exact H1.out, H2.out⟩
      case measure => simp [intOf]; omega
    · obtain rfl : i = m := by omega
      have i1 : ¬ (i : Int) < (i : Int) := by omega
      have H1 := Lib.hid hd
      have H2 := Lib.hid hst
      clear hd hst
      rw [← HT0.out] at H1
      go_wp2
      go_loopw [27] (fun y wq => ∃ (j : Nat) (s : Value), j ≤ n ∧ y = .int .i64 j ∧ DrAt B (seqV V (T j)) (Q ++ seqP (T j)) s wq ∧ Stp B s0 w wq s) (fun y _ => n - (intOf y).toNat)
      case atStart => exact ⟨0, s, by omega, rfl, H1.out, H2.out⟩
      case round =>
        obtain ⟨j, s, hj, rfl, hd, hst⟩ := hrel
        by_cases hjl : j < n
        · have j1 : (j : Int) < (n : Int) := by omega
          obtain ⟨SG, SL⟩ := HTG.out j hj
          have HSn := Lib.hid (HTS.out j)
          have LG := HRG.out (j : Int) i n (by omega) (by omega) (by omega)
          have HC := Lib.hid (fun w => HR.out (j : Int) i n (by omega) (by omega) (by omega) w)
          clear H1 H2
          go_wp2_with fail
          refine (HC.out _).mono ?_
          rintro e x1 ⟨v, rfl, ho, hb⟩
          obtain ⟨ra, rc, rfl, hr⟩ := RowAt.of_own (k := 1) (enc := encI) encI_len ho
          have HW := Lib.hid (fun cp => pwalk_seq hV hQ SG SL hd hst hb ra cp (rowL (j : Int) i n) LG hr (own_addr ho))
          generalize hRR : rowL (j : Int) i n = R at *
          clear ho hb hr hd hst LG
          go_wp2_with fail
          refine (HW.out _).mono ?_
          rintro e x2 ⟨rfl, s2, hd2, hs2⟩
          have H1 := Lib.hid hd2
          have H2 := Lib.hid hs2
          clear hd2 hs2 HW
          have HRR := Lib.hid hRR
          clear hRR
          clear SG SL
          go_wp2
          go_roundw
          case rel => exact ⟨j + 1, s2, by omega, by go_num, by rw [HSn.out]; exact H1.out, H2.out⟩
          case measure => simp [intOf]; omega
        · obtain rfl : j = n := by omega
          have j1 : ¬ (j : Int) < (j : Int) := by omega
          have H3 := Lib.hid hd
          have H4 := Lib.hid hst
          clear hd hst
          go_wp2
          go_end0
          exact ⟨rfl, s, by rw [← HE.out]; exact H3.out, H4.out⟩
/-- The walks of a bipartite graph under way. -/
def bipO (m n i : Nat) : List (List Int) := (List.range i).flatMap fun v : Nat => bipR m v n
def bipX (m n i j : Nat) : List (List Int) := bipO m n i ++ bipR m i j
theorem bipX_zero (m n i : Nat) : bipX m n i 0 = bipO m n i := by simp [bipX, bipR]
theorem bipX_succ (m n i j : Nat) : bipX m n i (j + 1) = bipX m n i j ++ [[(i : Int), (m : Int) + (j : Int) * 1]] := by simp [bipX, bipR, List.range_succ]
theorem bipX_last (m n i : Nat) : bipX m n i n = bipO m n (i + 1) := by simp [bipX, bipO, List.range_succ]
theorem bipO_len (m n i : Nat) : (bipO m n i).length = n * i := by
  induction i with
  | zero => simp [bipO]
  | succ i ih =>
    rw [← bipX_last, bipX, List.length_append, ih, Nat.mul_succ]
    simp [bipR]
theorem bipX_gd (m n i j : Nat) (hm : m ≤ 50) (hn : n ≤ 50) (hi : i ≤ 50) (hj : j ≤ 50) : Gd (bipX m n i j) ∧ (bipX m n i j).length ≤ 10000 := by
  refine ⟨Gd.app (fun l hl => ?_) (fun l hl => ?_), ?_⟩
  · obtain ⟨v, hv, hl⟩ := List.mem_flatMap.1 hl
    have hv := List.mem_range.1 hv
    obtain ⟨w, hw, rfl⟩ := List.mem_map.1 hl
    have hw := List.mem_range.1 hw
    exact ⟨by simp, fun x hx => by simp at hx; omega⟩
  · obtain ⟨w, hw, rfl⟩ := List.mem_map.1 hl
    have hw := List.mem_range.1 hw
    exact ⟨by simp, fun x hx => by simp at hx; omega⟩
  · have h1 := bipO_len m n i
    have h2 := Nat.mul_le_mul hn hi
    simp only [bipX, List.length_append, bipR, List.length_map, List.length_range]
    omega
set_option maxHeartbeats 12800000 in
set_option maxRecDepth 100000 in
theorem pbipartite_any (B : Nat) (V : Int) (hV : 0 ≤ V ∧ V ≤ 5001) (Q : List (Int × Int)) (hQ : Q.length ≤ 100000) (a : Option Addr) (cap : Nat) (L : List Int) (m n : Nat) (hll : 2 ≤ L.length) (hl0 : iAt L 0 = (m : Nat)) (hm : m ≤ 50) (hl1 : iAt L 1 = (n : Nat)) (hn : n ≤ 50) (s0 : Value) (w : World) (hl : IsAt w a L) (hA : Awy a B s0) (hD : DrAt B V Q s0 w) :
    Calls Try.prog 63 #[.pointer (some ⟨B, 0, none⟩), .slice a L.length cap] w (Drew w B V Q s0 (bipS m n)) := by
  have hln0 : (0 : Int) < (L.length : Int) := by omega
  have hln1 : (1 : Int) < (L.length : Int) := by omega
  have hne : ¬ L = [] := by intro h; rw [h] at hll; simp at hll
  have hd0 : DrAt B (seqV V []) (Q ++ seqP []) s0 w := by
    rw [show Q ++ seqP [] = Q from List.append_nil Q]; exact hD
  have HD := Lib.hid hd0
  have HL := Lib.hid hl
  have HA := Lib.hid hA
  have HL0 := Lib.hid hl0
  have HL1 := Lib.hid hl1
  have HR := Lib.hid (fun w => prow_at (m : Int) 1 n (by omega) (by omega) (by omega) w)
  have HRA := Lib.hid (fun i h => rowL_at (m : Int) n 1 i h)
  have HRN : Hid ((rowL (m : Int) n 1).length = n) := Lib.hid (rowL_len _ _ _)
  have HS0 : Hid (bipO m n 0 = []) := Lib.hid rfl
  have HX0 := Lib.hid (bipX_zero m n)
  have HXS := Lib.hid (bipX_succ m n)
  have HXL := Lib.hid (bipX_last m n)
  have HE : Hid (bipO m n m = bipS m n) := Lib.hid rfl
  have HXG : Hid (∀ i j, i < m → j ≤ n → Gd (bipX m n i j) ∧ (bipX m n i j).length ≤ 10000) := Lib.hid fun i j hi hj => bipX_gd m n i j hm hn (by omega) (by omega)
  generalize bipO m n = S at *
  generalize bipX m n = X at *
  have HXX0 := HX0
  have HXX1 := HXS
  clear hl hA hD hd0 hl0 hl1 HX0 HXS
  obtain ⟨b0, o0, ea0, -, -⟩ := HL.out.one 0 (by omega)
  subst ea0
  unfold Drew
  go_enter Try.func63, Try.ntmps63
  obtain ⟨b1, o1, e1, q1, x0⟩ := HL.out.one 0 (by omega)
  injection e1 with e1
  injection e1 with e1 e2
  subst e1 e2
  rw [HL0.out, Nat.add_zero] at x0
  go_wp2
  clear x0
  go_loopw [10] (fun x wr => ∃ (i : Nat) (s : Value), i ≤ m ∧ x = .int .i64 i ∧ DrAt B (seqV V (S i)) (Q ++ seqP (S i)) s wr ∧ Stp B s0 w wr s) (fun x _ => m - (intOf x).toNat)
  case atStart => exact ⟨0, s0, by omega, rfl, by rw [HS0.out]; exact HD.out, Stp.refl _ _ _⟩
  case round =>
    obtain ⟨i, s, hi, rfl, hd, hst⟩ := hrel
    by_cases hlt : i < m
    · have i1 : (i : Int) < (m : Int) := by omega
      have hlw := hst.row HL.out HA.out
      obtain ⟨b1, o1, e1, q1, x0⟩ := hlw.one 0 (by omega)
      injection e1 with e1
      injection e1 with e1 e2
      subst e1 e2
      rw [HL0.out, Nat.add_zero] at x0
      obtain ⟨b1, o1, e1, -, x1⟩ := hlw.one 1 (by omega)
      injection e1 with e1
      injection e1 with e1 e2
      subst e1 e2
      rw [HL1.out] at x1
      have HX0 : Hid (b0 < wr.heap.size ∧ wr.cell? ⟨b0, o0, none⟩ = some (.int .i64 m)) := Lib.hid ⟨q1, x0⟩
      have HX1 : Hid (b0 < wr.heap.size ∧ wr.cell? ⟨b0, o0 + 1, none⟩ = some (.int .i64 n)) := Lib.hid ⟨q1, x1⟩
      obtain ⟨g, hg⟩ : ∃ g, g = wr.heap.size := ⟨_, rfl⟩
      have HC : Hid (Calls Try.prog 79 #[.int .i64 m, .int .i64 n, .int .i64 1] wr.drew (fun e x => e = .returned (.slice (some ⟨g, 0, none⟩) n n) ∧ RowB encI 3 x g (rowL (m : Int) n 1) ∧ Below wr.heap.size wr x)) := Lib.hid (by
        refine (HR.out wr.drew).mono ?_
        rintro e x ⟨rfl, hr, hb⟩
        rw [hg]
        exact ⟨rfl, hr, (Below.refl _ _).drew.trans hb⟩)
      have HDR := Lib.hid hd
      have HSR := Lib.hid hst
      have HG := Lib.hid hg
      clear hlw x0 x1 q1 hd hst hg
      go_wp2
      have hj0 : Below wr.heap.size wr wr.drew := (Below.refl _ _).drew
      refine wp_region_late (S := fun u => Below wr.heap.size wr u) (X := []) (by kernel_rfl) ?_
      refine wpAnyL_pureD (i := 0) 13 (.slice (some ⟨b0, o0, none⟩) L.length cap) rfl rfl (by kernel_rfl) (by kernel_rfl) (by kernel_rfl) (fun _ _ _ h => h) (Or.inl ⟨by rfl, fun u _ => ?_⟩) ?_
      · go_simp
      try simp only [Act.put, List.setIfInBounds_toArray, List.set_cons_zero, List.set_cons_succ]
      refine wpAnyL_pureD (i := 1) 14 (.pointer (some ⟨b0, o0, none⟩)) rfl rfl (by kernel_rfl) (by kernel_rfl) (by kernel_rfl) (fun _ _ _ h => h) (Or.inl ⟨by rfl, fun u _ => ?_⟩) ?_
      · go_simp
      try simp only [Act.put, List.setIfInBounds_toArray, List.set_cons_zero, List.set_cons_succ]
      refine wpAnyL_takeD (i := 2) 15 (.int .i64 m) rfl rfl (by kernel_rfl) (by kernel_rfl) (by kernel_rfl) (by kernel_rfl) (by kernel_rfl) (fun _ _ _ h => h) hj0 (Or.inl ⟨by rfl, fun u hu => ?_⟩) ?_
      · have t0 := (hu.cell (p := ⟨b0, o0, none⟩) HX0.out.1).trans HX0.out.2
        go_simp
      try simp only [Act.put, List.setIfInBounds_toArray, List.set_cons_zero, List.set_cons_succ]
      refine wpAnyL_pureD (i := 3) 16 (.slice (some ⟨b0, o0, none⟩) L.length cap) rfl rfl (by kernel_rfl) (by kernel_rfl) (by kernel_rfl) (fun _ _ _ h => h) (Or.inl ⟨by rfl, fun u _ => ?_⟩) ?_
      · go_simp
      try simp only [Act.put, List.setIfInBounds_toArray, List.set_cons_zero, List.set_cons_succ]
      refine wpAnyL_pureD (i := 4) 17 (.pointer (some ⟨b0, o0 + 1, none⟩)) rfl rfl (by kernel_rfl) (by kernel_rfl) (by kernel_rfl) (fun _ _ _ h => h) (Or.inl ⟨by rfl, fun u _ => ?_⟩) ?_
      · go_simp
      try simp only [Act.put, List.setIfInBounds_toArray, List.set_cons_zero, List.set_cons_succ]
      refine wpAnyL_takeD (i := 5) 18 (.int .i64 n) rfl rfl (by kernel_rfl) (by kernel_rfl) (by kernel_rfl) (by kernel_rfl) (by kernel_rfl) (fun _ _ _ h => h) hj0 (Or.inl ⟨by rfl, fun u hu => ?_⟩) ?_
      · have t0 := (hu.cell (p := ⟨b0, o0 + 1, none⟩) HX1.out.1).trans HX1.out.2
        go_simp
      try simp only [Act.put, List.setIfInBounds_toArray, List.set_cons_zero, List.set_cons_succ]
      refine wpAnyL_pureD (i := 8) 21 (.int .i64 0) rfl rfl (by kernel_rfl) (by kernel_rfl) (by kernel_rfl) (fun _ _ _ h => h) (Or.inl ⟨by rfl, fun u _ => ?_⟩) ?_
      · go_simp
      try simp only [Act.put, List.setIfInBounds_toArray, List.set_cons_zero, List.set_cons_succ]
      refine wpAnyL_one (i := 6) (by kernel_rfl) rfl (fun K hK => ?_)
      go_simp
      go_at_call 79
      refine (HC.out).mono ?_
      rintro e x1 ⟨rfl, hr, hb⟩
      show K _ _
      refine hK.out _ _ (fun _ _ => hb) ?_
      clear hK K
      try simp only [Act.put, List.setIfInBounds_toArray, List.set_cons_zero, List.set_cons_succ]
      refine wpAnyL_pureD (i := 7) 20 (.int .i64 n) rfl rfl (by kernel_rfl) (by kernel_rfl) (by kernel_rfl) (fun _ _ _ h => h) (Or.inl ⟨by rfl, fun u _ => ?_⟩) ?_
      · go_simp
      try simp only [Act.put, List.setIfInBounds_toArray, List.set_cons_zero, List.set_cons_succ]
      refine wpAnyL_done (by kernel_rfl) ?_ _
      try simp only [Act.put, List.setIfInBounds_toArray, List.set_cons_zero, List.set_cons_succ]
      have HROW : Hid (IsAt x1 (some ⟨g, 0, none⟩) (rowL (m : Int) n 1)) := Lib.hid (RowB.row encI_len hr)
      have HAW : Hid (Awy (some ⟨g, 0, none⟩) B s) := Lib.hid (HDR.out.awy (by rw [HG.out]; exact Nat.le_refl _))
      have HST1 : Hid (Stp B s0 w x1 s) := Lib.hid (HSR.out.trans (Stp.more (by have := HDR.out.size; omega) hb))
      have HD1 : Hid (DrAt B (seqV V (X i 0)) (Q ++ seqP (X i 0)) s x1) := Lib.hid (by rw [HXX0.out]; exact HDR.out.keep hb)
      have HRA1 := Lib.hid HRA.out
      clear hr hb hj0 HDR HSR HX0 HX1 HC HG
      generalize rowL (m : Int) n 1 = R at *
      go_wp2
      go_loopw [21] (fun y wq => ∃ (j : Nat) (s' : Value), j ≤ n ∧ y = .int .i64 j ∧ DrAt B (seqV V (X i j)) (Q ++ seqP (X i j)) s' wq ∧ Stp B s x1 wq s') (fun y _ => n - (intOf y).toNat)
      case atStart => exact ⟨0, s, by omega, rfl, HD1.out, Stp.refl _ _ _⟩
      case round =>
        obtain ⟨j, s', hj, rfl, hd, hst⟩ := hrel
        by_cases hjl : j < n
        · have j1 : (j : Int) < (n : Int) := by omega
          have j2 : (0 : Int) ≤ (j : Int) := by omega
          obtain ⟨rb, ro, e1, q2, x2⟩ := (hst.row HROW.out HAW.out).one j (by rw [HRN.out]; exact hjl)
          injection e1 with e1
          injection e1 with e1 e2
          subst e1 e2
          rw [Nat.zero_add] at x2
          obtain ⟨SG, SL⟩ := HXG.out i j hlt hj
          have hra := HRA1.out j hjl
          have HSn := Lib.hid (HXX1.out i j)
          obtain ⟨z, hz⟩ : ∃ z, z = iAt R j := ⟨_, rfl⟩
          rw [← hz] at x2
          have hz2 : z = (m : Int) + (j : Int) * 1 := hz.trans hra
          have hy : Below wr.heap.size wr (wr.alloc (Obj.cells #[.int .i64 i, .int .i64 z] 3)) := (Below.refl _ _).alloc (Nat.le_refl _) _
          have hr : IsAt (wr.alloc (Obj.cells #[.int .i64 i, .int .i64 z] 3)) (some ⟨wr.heap.size, 0, none⟩) [(i : Int), z] := RowAt.of_blkF (k := 1) (enc := encI) encI_len (Blk.new _ _ _) rfl
          have HW := Lib.hid (fun cp => pwalk_seq hV hQ SG SL hd hst hy (some ⟨wr.heap.size, 0, none⟩) cp [(i : Int), z] (Gd.one (by simp) (fun x hx => by simp at hx; omega)) hr (fun p hp => by injection hp with hp; rw [← hp]; exact Nat.le_refl _))
          clear hy hr
          have HZ := Lib.hid hz2
          clear hd hst hra hz hz2 SG SL
          go_wp2_with fail
          refine (HW.out _).mono ?_
          rintro e x3 ⟨rfl, s3, hd2, hs3⟩
          have H3 := Lib.hid hd2
          have H4 := Lib.hid hs3
          clear hd2 hs3 HW
          go_wp2
          go_roundw
          case rel => exact ⟨j + 1, s3, by omega, by go_num, by rw [HSn.out, ← HZ.out]; exact H3.out, H4.out⟩
          case measure => simp [intOf]; omega
        · obtain rfl : j = n := by omega
          have j1 : ¬ (j : Int) < (j : Int) := by omega
          have H3 := Lib.hid hd
          have H4 := Lib.hid (HST1.out.trans hst)
          clear hd hst
          go_wp2
          go_roundw
          case rel => exact ⟨i + 1, s', by omega, by go_num, by rw [← HXL.out]; exact H3.out, H4.out⟩
          case measure => simp [intOf]; omega
    · obtain rfl : i = m := by omega
      have i1 : ¬ (i : Int) < (i : Int) := by omega
      have H1 := Lib.hid hd
      have H2 := Lib.hid hst
      clear hd hst
      go_wp2
      go_end0
      exact ⟨rfl, s, by rw [← HE.out]; exact H1.out, H2.out⟩
theorem thN_rng (L : List Int) (hL : ∀ j, j < L.length → 1 ≤ iAt L j ∧ iAt L j ≤ 50) (i : Nat) (h : i ≤ L.length) : 2 ≤ thN L i ∧ thN L i ≤ 2 + 49 * (i : Int) := by
  induction i with
  | zero => simp [thN]
  | succ i ih =>
    have := hL i (by omega)
    have := ih (by omega)
    simp only [thN]
    omega
theorem thS_len (L : List Int) (i : Nat) : (thS L i).length = i := by
  induction i with
  | zero => rfl
  | succ i ih => simp [thS, ih]
set_option maxHeartbeats 12800000 in
set_option maxRecDepth 100000 in
theorem ptheta_any (B : Nat) (V : Int) (hV : 0 ≤ V ∧ V ≤ 5001) (Q : List (Int × Int)) (hQ : Q.length ≤ 100000) (a : Option Addr) (cap : Nat) (L : List Int) (hll : L.length = 3) (hLr : ∀ j, j < L.length → 1 ≤ iAt L j ∧ iAt L j ≤ 50) (s0 : Value) (w : World) (hl : IsAt w a L) (hA : Awy a B s0) (hD : DrAt B V Q s0 w) :
    Calls Try.prog 66 #[.pointer (some ⟨B, 0, none⟩), .slice a L.length cap] w (Drew w B V Q s0 (thS L 3)) := by
  obtain ⟨i0, hi0, hz0, hz1, hz2⟩ := info_parts infoI
  have hd0 : DrAt B (seqV V []) (Q ++ seqP []) s0 w := by
    rw [show Q ++ seqP [] = Q from List.append_nil Q]; exact hD
  have HD := Lib.hid hd0
  have HL := Lib.hid hl
  have HA := Lib.hid hA
  have HR := Lib.hid (fun (nx : Int) (c : Nat) (hnx : 0 ≤ nx ∧ nx ≤ 1000000) (hc : c ≤ 100000) w => prow_at nx 1 c hc hnx (by omega) w)
  have HNR := Lib.hid (thN_rng L hLr)
  have HN0 : Hid (thN L 0 = 2) := Lib.hid rfl
  have HNS : Hid (∀ i, thN L (i + 1) = thN L i + (iAt L i - 1)) := Lib.hid fun i => rfl
  have HS0 : Hid (thS L 0 = []) := Lib.hid rfl
  have HSS : Hid (∀ i, thS L (i + 1) = thS L i ++ [(0 :: rowL (thN L i) (iAt L i - 1).toNat 1) ++ [1]]) := Lib.hid fun i => rfl
  have HSL := Lib.hid (thS_len L)
  have HSG : Hid (∀ i, i ≤ L.length → Gd (thS L i)) := Lib.hid fun i hi => by
    induction i with
    | zero => exact Gd.nil
    | succ i ih =>
      refine Gd.app (ih (by omega)) (Gd.one ?_ fun x hx => ?_)
      · have := hLr i (by omega)
        simp [rowL_len]; omega
      · have := hLr i (by omega)
        have h2 := HNR.out i (by omega)
        rcases List.mem_append.1 hx with hx | hx
        · rcases List.mem_cons.1 hx with rfl | hx
          · omega
          · exact rowL_gd (thN L i) _ 1 (by omega) (by omega) (by omega) x hx
        · rw [List.mem_singleton.1 hx]; omega
  have HLR := Lib.hid hLr
  have HLL := Lib.hid hll
  have hll3 : L.length ≤ 3 := by omega
  generalize thN L = NF at *
  generalize thS L = S at *
  clear hl hA hD hd0 hLr hll
  unfold Drew
  go_enter Try.func66, Try.ntmps66
  go_wp2
  go_loopw [4, 11] (fun u x wr => ∃ (i : Nat) (s : Value), i ≤ L.length ∧ x = .int .i64 i ∧ u = .int .i64 (NF i) ∧ DrAt B (seqV V (S i)) (Q ++ seqP (S i)) s wr ∧ Stp B s0 w wr s) (fun _ x _ => L.length - (intOf x).toNat)
  case atStart => exact ⟨0, s0, by omega, rfl, by rw [HN0.out], by rw [HS0.out]; exact HD.out, Stp.refl _ _ _⟩
  case round =>
    obtain ⟨i, s, hi, rfl, rfl, hd, hst⟩ := hrel
    by_cases hlt : i < L.length
    · have i1 : (i : Int) < (L.length : Int) := by omega
      have i2 : (0 : Int) ≤ (i : Int) := by omega
      obtain ⟨bb, oo, ea, q1, x0⟩ := (hst.row HL.out HA.out).one i hlt
      subst ea
      have hlr := HLR.out i hlt
      have hnr := HNR.out i hi
      have hns := HNS.out i
      have hss := HSS.out i
      obtain ⟨z, hz⟩ : ∃ z, z = iAt L i := ⟨_, rfl⟩
      rw [← hz] at hlr hns hss x0
      obtain ⟨c, hc⟩ : ∃ c : Nat, (c : Int) = z - 1 := ⟨(z - 1).toNat, by omega⟩
      rw [show (z - 1).toNat = c by omega] at hss
      rw [← hc] at hns
      have hi9 : (i : Int) ≤ 3 := by omega
      have HSG1 := HSG.out (i + 1) (by omega)
      have SG := HSG.out i hi
      have SL : (S i).length ≤ 10000 := by rw [HSL.out]; omega
      rw [hss] at HSG1
      have LG : Gd [(0 :: rowL (NF i) c 1) ++ [1]] := fun l hl => HSG1 l (List.mem_append_right _ hl)
      have HRN : Hid ((rowL (NF i) c 1).length = c) := Lib.hid (rowL_len _ _ _)
      obtain ⟨g, hg⟩ : ∃ g, g = wr.heap.size := ⟨_, rfl⟩
      have hrow := HR.out (NF i) c (by omega) (by omega)
      have HNSn := Lib.hid hns
      have HSSn := Lib.hid hss
      generalize NF i = nx at *
      generalize rowL nx c 1 = R at *
      have e1 : z - 1 = (c : Int) := hc.symm
      have e2 : IntKind.i64.wrap (c : Int) = (c : Int) := IntWalk.i64_in _ (by omega)
      have e3 : IntKind.i64.wrap (nx + (c : Int)) = nx + (c : Int) := IntWalk.i64_in _ (by omega)
      have hc50 : c ≤ 49 := by omega
      have HROWC := Lib.hid (fun w => hrow w)
      have HDR := Lib.hid hd
      have HSR := Lib.hid hst
      have HG := Lib.hid hg
      have HLG := Lib.hid LG
      have HSG2 := Lib.hid SG
      have HSL2 := Lib.hid SL
      clear hz hc hns hss hd hst hg hrow LG SG SL HSG1
      go_wp2_with fail
      refine (HROWC.out _).mono ?_
      rintro e x1 ⟨rfl, hr, hb⟩
      rw [← HG.out] at hr ⊢
      have HB := Lib.hid hb
      have HRB := Lib.hid hr
      have HLIT : Hid (((x1.alloc (Obj.cells #[.int .i64 0] 3))).ownsRow wr.heap.size 3 1 (.slice (some ⟨x1.heap.size, 0, none⟩) 1 1) 1 (flat encI [0])) := Lib.hid (RowB.own (L := [0]) (show RowB encI 3 (x1.alloc (Obj.cells #[.int .i64 0] 3)) x1.heap.size [0] from Blk.new x1 3 #[.int .i64 0]) hb.size (by simp))
      have HNEW : Hid (∀ j u, (flat encI R)[j]? = some u → (x1.alloc (Obj.cells #[.int .i64 0] 3)).cell? ((⟨g, 0, none⟩ : Addr).add j) = some u) := Lib.hid (World.news_of_block (Blk.alloc hr _))
      clear hr hb x0 e1 e2
      go_wp2_with (first | (at_builtin; refine wpList_append_own _ rfl _ _ 22 rfl wr.heap.size 3 i0 (.int .i64 0) 1 8 Try.underlying22 hi0 hz0 hz1 hz2 rfl (by decide) (.slice (some ⟨x1.heap.size, 0, none⟩) 1 1) 1 (flat encI [0]) rfl HLIT.out ⟨g, 0, none⟩ c c (flat encI R) rfl (by rw [flatI_len, HRN.out, Nat.mul_one]) HNEW.out (by rw [flatI_map]; intro u hu; obtain ⟨z, -, rfl⟩ := List.mem_map.1 hu; rfl) (by unfold maxLen; omega) (by omega) (by rw [World.size_alloc]; have := HB.out.size; omega) ?_; intro v1 w3 hown1 hgrow1 hnil; have hown9 : w3.ownsRow wr.heap.size 3 1 v1 (R.length + 1) (flat encI (0 :: R)) := (by have h9 : R.length + 1 = 1 + c := (by rw [HRN.out]; omega); rw [h9]; exact hown1); clear hnil; obtain ⟨g4, c4, rfl⟩ := own_succ hown9; have hb3 : Below g wr w3 := (by rw [HG.out]; exact (HB.out.alloc HB.out.size _).grown hgrow1 (by rw [World.size_alloc]; have := HB.out.size; omega) (fun k hk => (HLIT.out.lt k hk).1)); have HB3 := Lib.hid hb3; have HO3 := Lib.hid (by rw [← HG.out] at hown9; exact hown9 : w3.ownsRow g 3 1 (.slice (some ⟨g4, 0, none⟩) (R.length + 1) c4) (R.length + 1) (flat encI (0 :: R))); have hl9 : R.length ≤ 60 := (by rw [HRN.out]; omega); clear hown1 hgrow1 hown9 hb3) | (at_builtin; refine wpList_append_own _ rfl _ _ 22 rfl g 3 i0 (.int .i64 0) 1 8 Try.underlying22 hi0 hz0 hz1 hz2 rfl (by decide) _ _ _ rfl (HO3.out.alloc _) ⟨w3.heap.size, 0, none⟩ 1 1 [.int .i64 1] rfl rfl (lit_row _ _ _) (by simp [Value.oneCell']) (by unfold maxLen; omega) (by omega) (by rw [World.size_alloc]; have := HB3.out.size; have := HG.out; omega) ?_; intro v1 w4 hown2 hgrow2 _; obtain ⟨g5, cap5, rfl⟩ := own_succ hown2))
      have hb4 : Below wr.heap.size wr w4 := by
        rw [← HG.out]
        exact (HB3.out.alloc (by have := HB3.out.size; have := HG.out; omega) _).grown hgrow2 (by rw [World.size_alloc]; have := HB3.out.size; have := HG.out; omega) (fun k hk => (HO3.out.lt k hk).1)
      have hown3 : w4.ownsRow wr.heap.size 3 1 (.slice (some ⟨g5, 0, none⟩) (R.length + 1 + 1) cap5) ((0 :: R) ++ [1]).length (flat encI ((0 :: R) ++ [1])) := by
        rw [List.length_append, flat_append, flat_one, ← HG.out]; exact hown2
      obtain ⟨ra2, rc2, he2, hr2⟩ := RowAt.of_own (k := 1) (enc := encI) encI_len hown3
      injection he2 with he2 he3 he4
      subst he2
      have HW := Lib.hid (fun cp => pwalk_seq hV hQ HSG2.out HSL2.out HDR.out HSR.out hb4 (some ⟨g5, 0, none⟩) cp ((0 :: R) ++ [1]) HLG.out hr2 (own_addr hown3))
      rw [show ((0 :: R) ++ ([1] : List Int)).length = R.length + 1 + 1 by simp] at HW
      clear hown2 hown3 hgrow2 hb4 hr2 he3 he4
      go_wp2_with fail
      refine (HW.out _).mono ?_
      rintro e x2 ⟨rfl, s2, hd2, hs2⟩
      have H1 := Lib.hid hd2
      have H2 := Lib.hid hs2
      clear hd2 hs2 HW
      go_wp2
      go_roundw
      case rel => exact ⟨i + 1, s2, by omega, by go_num, by rw [HNSn.out], by rw [HSSn.out]; exact H1.out, H2.out⟩
      case measure => simp [intOf]; omega
    · obtain rfl : i = L.length := by omega
      have i1 : ¬ (L.length : Int) < (L.length : Int) := by omega
      have H1 : Hid (DrAt B (seqV V (S 3)) (Q ++ seqP (S 3)) s wr) := Lib.hid (by rw [← HLL.out]; exact hd)
      have H2 := Lib.hid hst
      clear hd hst
      go_wp2
      go_end0
      exact ⟨rfl, s, H1.out, H2.out⟩
end Go.Proofs.Ytgfbihdnjidodaa
