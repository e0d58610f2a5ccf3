/- The turns at the cuts of the triangle. -/
import Derived.Test.YtlnaahkheankoaaQ07
import Derived.Test.YtlnaahkheankoaaQ00
import Derived.Test.YtlnaahkheankoaaQ09
namespace Go.Proofs.Ytlnaahkheankoaa
open Go.RowKit Go.Shelf Go.Proofs.Gr
attribute [local go_sem] Oper.semAt_some

def encT (x : Int × Int) : List Value := [.int .u64 x.1, .int .u64 x.2]
theorem encT_len (x : Int × Int) : (encT x).length = 2 := rfl
theorem flatT_snoc (l : List (Int × Int)) (a b : Int) : flat encT (l ++ [(a, b)]) = flat encT l ++ [.int .u64 a, .int .u64 b] := by rw [flat_append, flat_one]; rfl
theorem infoT : (Try.prog.info? 136).map (fun i => (i.zero, i.size, i.bytes)) = some (some (.agg #[.int .u64 0, .int .u64 0]), 2, 16) := by kernel_rfl
def triP : List (Int × Int) := [(0, 1), (0, 2), (1, 2)]
def cutT : Nat → List (Int × Int)
  | 0 => []
  | 1 => [(3, 3)]
  | 2 => [(3, 3), (6, 6)]
  | _ => [(3, 3), (6, 6), (5, 1)]
def cE0 : Nat → Int
  | 0 => 0
  | 1 => 1
  | 2 => 3
  | _ => 3
def cY0 : Nat → Int
  | 0 => 0
  | 1 => 1
  | 2 => 3
  | _ => 3
def cE1 : Nat → Int
  | 0 => 0
  | 1 => 0
  | 2 => 2
  | _ => 6
def cY1 : Nat → Int
  | 0 => 0
  | 1 => 0
  | 2 => 2
  | _ => 6
def cE2 : Nat → Int
  | 0 => 0
  | 1 => 1
  | 2 => 1
  | _ => 5
def cY2 : Nat → Int
  | 0 => 0
  | 1 => 1
  | 2 => 1
  | _ => 1
def cE3 : Nat → Int
  | 0 => 0
  | 1 => 0
  | 2 => 0
  | _ => 0
def cY3 : Nat → Int
  | 0 => 0
  | 1 => 0
  | 2 => 0
  | _ => 0
set_option maxHeartbeats 12800000 in
set_option maxRecDepth 100000 in
theorem cuts_tri (p : Option Addr) (cp : Nat) (w : World) (hp : PsAt w p triP) :
    Calls Try.prog 84 #[.int .i64 3, .slice p 3 cp] w (fun e u => ∃ v, e = .returned v ∧ u.ownsRow w.heap.size 136 2 v 3 (flat encT (cutT 3)) ∧ Below w.heap.size w u) := by
  obtain ⟨i0, hi0, hz0, hz1, hz2⟩ := info_parts infoT
  obtain ⟨b0, o0, hp0, -, -, -⟩ := hp.two 0 (by decide)
  subst hp0
  have HPA := Lib.hid hp
  clear hp
  go_enter Try.func84, Try.ntmps84
  go_wp2
  go_loopw [5, 6] (fun y x wr => ∃ s : Nat, ∃ z : Int, s ≤ 4 ∧ x = .int .i64 z ∧ z = 2 * (s : Int) + 1 ∧ wr.ownsRow w.heap.size 136 2 y (min s 3) (flat encT (cutT s)) ∧ Below w.heap.size w wr) (fun _ x _ => 9 - (intOf x).toNat)
  case atStart => exact ⟨0, 1, by omega, rfl, rfl, World.ownsRow_nil _ _ _ _, Below.refl _ _⟩
  case round =>
    obtain ⟨s, z, hs, rfl, hx, hown, hbV⟩ := hrel
    generalize wr = V at *
    have HBV := Lib.hid hbV
    rcases (show s = 0 ∨ s = 1 ∨ s = 2 ∨ s = 3 ∨ s = 4 by omega) with rfl | rfl | rfl | rfl | rfl
    · have hx0 : z = 1 := by omega
      subst hx0
      clear hx
      have HOW : Hid (V.ownsRow w.heap.size 136 2 _ 0 (flat encT (cutT 0))) := Lib.hid hown
      obtain ⟨V1, hV1⟩ : ∃ V1, V1 = V.alloc (Obj.cells #[.int .u64 0, .int .u64 0] 136) := ⟨_, rfl⟩
      have hx1 : Blk V1 V.heap.size 136 #[.int .u64 (cE0 0), .int .u64 (cY0 0)] := by rw [hV1]; exact Blk.new _ _ _
      have hb1 : Below V.heap.size V V1 := by rw [hV1]; exact (Below.refl _ _).alloc (Nat.le_refl _) _
      have HX1 := Lib.hid hx1
      have HB1 := Lib.hid hb1
      clear hx1 hb1 hown hbV
      go_wp2
      rw [← hV1]
      clear hV1
      go_loopw [20] (fun x wr => ∃ k : Nat, ∃ z : Int, k ≤ 3 ∧ x = .int .i64 z ∧ z = k ∧ Blk wr V.heap.size 136 #[.int .u64 (cE0 k), .int .u64 (cY0 k)] ∧ Below V.heap.size V wr) (fun x _ => 3 - (intOf x).toNat)
      case atStart => exact ⟨0, 0, by omega, rfl, rfl, HX1.out, HB1.out⟩
      case round =>
        obtain ⟨k, z, hk, rfl, hz, hx, hb⟩ := hrel
        rcases (show k = 0 ∨ k = 1 ∨ k = 2 ∨ k = 3 by omega) with rfl | rfl | rfl | rfl
        · obtain rfl : z = 0 := hz
          obtain ⟨pb, po, hpe, q1, x1, x2⟩ := (HPA.out.keep (HBV.out.trans (hb.mono HBV.out.size))).two 0 (by decide)
          obtain ⟨rfl, rfl⟩ : pb = b0 ∧ po = o0 := by
            injection hpe with h1
            injection h1 with h2 h3
            exact ⟨h2.symm, h3.symm⟩
          have y1 : wr.cell? ⟨pb, po, none⟩ = some (.int .i64 0) := x1
          have y2 : wr.cell? ⟨pb, po + 0 + 1, none⟩ = some (.int .i64 1) := x2
          have y3 : wr.cell? ⟨pb, po + 1, none⟩ = some (.int .i64 1) := x2
          obtain ⟨A, hA⟩ : ∃ A, A = wr.alloc (Obj.cells #[.int .i64 0, .int .i64 1] 85) := ⟨_, rfl⟩
          have hpA : Blk A wr.heap.size 85 #[.int .i64 0, .int .i64 1] := by rw [hA]; exact Blk.new _ _ _
          have hxA : Blk A V.heap.size 136 #[.int .u64 0, .int .u64 0] := by rw [hA]; exact hx.alloc _
          have hbA : Below V.heap.size V A := by rw [hA]; exact hb.alloc hb.size _
          have HF : Hid (∀ u, Below A.heap.size A u → u.cell? ⟨wr.heap.size, 0, none⟩ = some (.int .i64 0) ∧ u.cell? ⟨wr.heap.size, 1, none⟩ = some (.int .i64 1)) := Lib.hid (fun u hu => ⟨(hpA.below hu hpA.lt).cell 0, (hpA.below hu hpA.lt).cell 1⟩)
          have HXA := Lib.hid hxA
          have HBA := Lib.hid hbA
          clear hx hb x1 x2 hpe hpA hxA hbA
          go_wp2_with fail
          rw [← hA]
          clear hA
          have hj0 : Below A.heap.size A A.drew := (Below.refl _ _).drew
          refine wp_region_late (S := fun u => Below A.heap.size A u) (X := []) (by kernel_rfl) ?_
          refine wpAnyL_pureD (i := 0) 25 (.int .i64 1) rfl rfl (by kernel_rfl) (by kernel_rfl) (by kernel_rfl) (fun _ _ _ h => h) (Or.inl ⟨by rfl, fun u _ => ?_⟩) ?_
          · go_simp <;> first | rfl | decide | kernel_rfl
          try simp only [Act.put, List.setIfInBounds_toArray, List.set_cons_zero, List.set_cons_succ]
          refine wpAnyL_pureD (i := 1) 26 (.pointer (some ⟨wr.heap.size, 0, none⟩)) rfl rfl (by kernel_rfl) (by kernel_rfl) (by kernel_rfl) (fun _ _ _ h => h) (Or.inl ⟨by rfl, fun u _ => ?_⟩) ?_
          · go_simp <;> first | rfl | decide | kernel_rfl
          try simp only [Act.put, List.setIfInBounds_toArray, List.set_cons_zero, List.set_cons_succ]
          refine wpAnyL_takeD (i := 2) 27 (.int .i64 0) rfl rfl (by kernel_rfl) (by kernel_rfl) (by kernel_rfl) (by kernel_rfl) (by kernel_rfl) (fun _ _ _ h => h) hj0 (Or.inl ⟨by rfl, fun u hu => ?_⟩) ?_
          · obtain ⟨t0, t1⟩ := HF.out u hu
            go_simp
          try simp only [Act.put, List.setIfInBounds_toArray, List.set_cons_zero, List.set_cons_succ]
          refine wpAnyL_pureD (i := 3) 28 (.int .i64 1) rfl rfl (by kernel_rfl) (by kernel_rfl) (by kernel_rfl) (fun _ _ _ h => h) (Or.inl ⟨by rfl, fun u _ => ?_⟩) ?_
          · go_simp <;> first | rfl | decide | kernel_rfl
          try simp only [Act.put, List.setIfInBounds_toArray, List.set_cons_zero, List.set_cons_succ]
          refine wpAnyL_pureD (i := 4) 29 (.int .i64 1) rfl rfl (by kernel_rfl) (by kernel_rfl) (by kernel_rfl) (fun _ _ _ h => h) (Or.inl ⟨by rfl, fun u _ => ?_⟩) ?_
          · go_simp <;> first | rfl | decide | kernel_rfl
          try simp only [Act.put, List.setIfInBounds_toArray, List.set_cons_zero, List.set_cons_succ]
          refine wpAnyL_pureD (i := 5) 30 (.int .i64 1) rfl rfl (by kernel_rfl) (by kernel_rfl) (by kernel_rfl) (fun _ _ _ h => h) (Or.inl ⟨by rfl, fun u _ => ?_⟩) ?_
          · go_simp <;> first | rfl | decide | kernel_rfl
          try simp only [Act.put, List.setIfInBounds_toArray, List.set_cons_zero, List.set_cons_succ]
          refine wpAnyL_pureD (i := 6) 31 (.pointer (some ⟨wr.heap.size, 1, none⟩)) rfl rfl (by kernel_rfl) (by kernel_rfl) (by kernel_rfl) (fun _ _ _ h => h) (Or.inl ⟨by rfl, fun u _ => ?_⟩) ?_
          · go_simp <;> first | rfl | decide | kernel_rfl
          try simp only [Act.put, List.setIfInBounds_toArray, List.set_cons_zero, List.set_cons_succ]
          refine wpAnyL_takeD (i := 7) 32 (.int .i64 1) rfl rfl (by kernel_rfl) (by kernel_rfl) (by kernel_rfl) (by kernel_rfl) (by kernel_rfl) (fun _ _ _ h => h) hj0 (Or.inl ⟨by rfl, fun u hu => ?_⟩) ?_
          · obtain ⟨t0, t1⟩ := HF.out u hu
            go_simp
          try simp only [Act.put, List.setIfInBounds_toArray, List.set_cons_zero, List.set_cons_succ]
          refine wpAnyL_pureD (i := 8) 33 (.int .i64 0) rfl rfl (by kernel_rfl) (by kernel_rfl) (by kernel_rfl) (fun _ _ _ h => h) (Or.inl ⟨by rfl, fun u _ => ?_⟩) ?_
          · go_simp <;> first | rfl | decide | kernel_rfl
          try simp only [Act.put, List.setIfInBounds_toArray, List.set_cons_zero, List.set_cons_succ]
          refine wpAnyL_pureD (i := 9) 34 (.int .i64 0) rfl rfl (by kernel_rfl) (by kernel_rfl) (by kernel_rfl) (fun _ _ _ h => h) (Or.inl ⟨by rfl, fun u _ => ?_⟩) ?_
          · go_simp <;> first | rfl | decide | kernel_rfl
          try simp only [Act.put, List.setIfInBounds_toArray, List.set_cons_zero, List.set_cons_succ]
          refine wpAnyL_pureD (i := 10) 10 (.int .i64 1) rfl rfl (by kernel_rfl) (by kernel_rfl) (by kernel_rfl) (fun _ _ _ h => h) (Or.inl ⟨by rfl, fun u _ => ?_⟩) ?_
          · go_simp <;> first | rfl | decide | kernel_rfl
          try simp only [Act.put, List.setIfInBounds_toArray, List.set_cons_zero, List.set_cons_succ]
          refine wpAnyL_pureD (i := 11) 11 (.int .i64 0) rfl rfl (by kernel_rfl) (by kernel_rfl) (by kernel_rfl) (fun _ _ _ h => h) (Or.inl ⟨by rfl, fun u _ => ?_⟩) ?_
          · go_simp <;> first | rfl | decide | kernel_rfl
          try simp only [Act.put, List.setIfInBounds_toArray, List.set_cons_zero, List.set_cons_succ]
          refine wpAnyL_done (by kernel_rfl) ?_ _
          try simp only [Act.put, List.setIfInBounds_toArray, List.set_cons_zero, List.set_cons_succ]
          obtain ⟨A1, hA1⟩ : ∃ A1, A1 = A.drew := ⟨_, rfl⟩
          have hx1 : Blk A1 V.heap.size 136 #[.int .u64 0, .int .u64 0] := by rw [hA1]; exact HXA.out
          have hb1 : Below V.heap.size V A1 := by rw [hA1]; exact HBA.out.drew
          rw [← hA1]
          clear hA1 hj0 HF y1 y2 y3
          have HF : Hid (∀ u, Below A1.heap.size A1 u → u.cell? ⟨V.heap.size, 0, none⟩ = some (.int .u64 0)) := Lib.hid (fun u hu => (hx1.below hu hx1.lt).cell 0)
          go_wp2
          have hj0 : Below A1.heap.size A1 A1.drew := (Below.refl _ _).drew
          refine wp_region_late (S := fun u => Below A1.heap.size A1 u) (X := [6]) (by kernel_rfl) ?_
          refine wpAnyL_pureD (i := 0) 38 (.pointer (some ⟨V.heap.size, 0, none⟩)) rfl rfl (by kernel_rfl) (by kernel_rfl) (by kernel_rfl) (fun _ _ _ h => h) (Or.inl ⟨by rfl, fun u _ => ?_⟩) ?_
          · go_simp <;> first | rfl | decide | kernel_rfl
          try simp only [Act.put, List.setIfInBounds_toArray, List.set_cons_zero, List.set_cons_succ]
          refine wpAnyL_takeD (i := 1) 39 (.int .u64 0) rfl rfl (by kernel_rfl) (by kernel_rfl) (by kernel_rfl) (by kernel_rfl) (by kernel_rfl) (fun _ _ _ h => h) hj0 (Or.inl ⟨by rfl, fun u hu => ?_⟩) ?_
          · have t0 := HF.out u hu
            go_simp
          try simp only [Act.put, List.setIfInBounds_toArray, List.set_cons_zero, List.set_cons_succ]
          refine wpAnyL_pureD (i := 2) 40 (.int .i64 0) rfl rfl (by kernel_rfl) (by kernel_rfl) (by kernel_rfl) (fun _ _ _ h => h) (Or.inl ⟨by rfl, fun u _ => ?_⟩) ?_
          · go_simp <;> first | rfl | decide | kernel_rfl
          try simp only [Act.put, List.setIfInBounds_toArray, List.set_cons_zero, List.set_cons_succ]
          refine wpAnyL_pureD (i := 3) 41 (.int .u64 1) rfl rfl (by kernel_rfl) (by kernel_rfl) (by kernel_rfl) (fun _ _ _ h => h) (Or.inl ⟨by rfl, fun u _ => ?_⟩) ?_
          · go_simp <;> first | rfl | decide | kernel_rfl
          try simp only [Act.put, List.setIfInBounds_toArray, List.set_cons_zero, List.set_cons_succ]
          refine wpAnyL_pureD (i := 4) 42 (.int .u64 1) rfl rfl (by kernel_rfl) (by kernel_rfl) (by kernel_rfl) (fun _ _ _ h => h) (Or.inl ⟨by rfl, fun u _ => ?_⟩) ?_
          · go_simp <;> first | rfl | decide | kernel_rfl
          try simp only [Act.put, List.setIfInBounds_toArray, List.set_cons_zero, List.set_cons_succ]
          refine wpAnyL_pureD (i := 5) 43 (.pointer (some ⟨V.heap.size, 0, none⟩)) rfl rfl (by kernel_rfl) (by kernel_rfl) (by kernel_rfl) (fun _ _ _ h => h) (Or.inl ⟨by rfl, fun u _ => ?_⟩) ?_
          · go_simp <;> first | rfl | decide | kernel_rfl
          try simp only [Act.put, List.setIfInBounds_toArray, List.set_cons_zero, List.set_cons_succ]
          have f1 : A1.drew.cell? ⟨V.heap.size, 0, none⟩ = some (.int .u64 0) := hx1.cell 0
          have f2 : A1.drew.frozen? ⟨V.heap.size, 0, none⟩ = false := Blk.frozen hx1 0
          refine wpAnyL_one (i := 6) (by kernel_rfl) rfl (fun K hK => ?_)
          go_simp
          refine hK.out _ _ (fun h => absurd (by decide) h) ?_
          clear hK K
          try simp only [Act.put, List.setIfInBounds_toArray, List.set_cons_zero, List.set_cons_succ]
          refine wpAnyL_done (by kernel_rfl) ?_ _
          try simp only [Act.put, List.setIfInBounds_toArray, List.set_cons_zero, List.set_cons_succ]
          obtain ⟨A2, hA2⟩ : ∃ A2, A2 = (A1.setCell ⟨V.heap.size, 0, none⟩ (.int .u64 1)).drew := ⟨_, rfl⟩
          have hx2 : Blk A2 V.heap.size 136 #[.int .u64 1, .int .u64 0] := by rw [hA2]; exact Blk.set_ (w := A1.drew) hx1 0 _
          have hb2 : Below V.heap.size V A2 := by rw [hA2]; exact (hb1.drew).setCell (p := ⟨V.heap.size, 0, none⟩) (Nat.le_refl _) _
          rw [← hA2]
          clear hA2 hj0 HF f1 f2 hx1 hb1
          have HF : Hid (∀ u, Below A2.heap.size A2 u → u.cell? ⟨V.heap.size, 1, none⟩ = some (.int .u64 0)) := Lib.hid (fun u hu => (hx2.below hu hx2.lt).cell 1)
          go_wp2
          have hj0 : Below A2.heap.size A2 A2.drew := (Below.refl _ _).drew
          refine wp_region_late (S := fun u => Below A2.heap.size A2 u) (X := [8]) (by kernel_rfl) ?_
          refine wpAnyL_pureD (i := 0) 44 (.pointer (some ⟨V.heap.size, 1, none⟩)) rfl rfl (by kernel_rfl) (by kernel_rfl) (by kernel_rfl) (fun _ _ _ h => h) (Or.inl ⟨by rfl, fun u _ => ?_⟩) ?_
          · go_simp <;> first | rfl | decide | kernel_rfl
          try simp only [Act.put, List.setIfInBounds_toArray, List.set_cons_zero, List.set_cons_succ]
          refine wpAnyL_takeD (i := 1) 45 (.int .u64 0) rfl rfl (by kernel_rfl) (by kernel_rfl) (by kernel_rfl) (by kernel_rfl) (by kernel_rfl) (fun _ _ _ h => h) hj0 (Or.inl ⟨by rfl, fun u hu => ?_⟩) ?_
          · have t0 := HF.out u hu
            go_simp
          try simp only [Act.put, List.setIfInBounds_toArray, List.set_cons_zero, List.set_cons_succ]
          refine wpAnyL_pureD (i := 2) 46 (.int .i64 1) rfl rfl (by kernel_rfl) (by kernel_rfl) (by kernel_rfl) (fun _ _ _ h => h) (Or.inl ⟨by rfl, fun u _ => ?_⟩) ?_
          · go_simp <;> first | rfl | decide | kernel_rfl
          try simp only [Act.put, List.setIfInBounds_toArray, List.set_cons_zero, List.set_cons_succ]
          refine wpAnyL_pureD (i := 3) 47 (.int .u64 1) rfl rfl (by kernel_rfl) (by kernel_rfl) (by kernel_rfl) (fun _ _ _ h => h) (Or.inl ⟨by rfl, fun u _ => ?_⟩) ?_
          · go_simp <;> first | rfl | decide | kernel_rfl
          try simp only [Act.put, List.setIfInBounds_toArray, List.set_cons_zero, List.set_cons_succ]
          refine wpAnyL_pureD (i := 4) 48 (.int .i64 0) rfl rfl (by kernel_rfl) (by kernel_rfl) (by kernel_rfl) (fun _ _ _ h => h) (Or.inl ⟨by rfl, fun u _ => ?_⟩) ?_
          · go_simp <;> first | rfl | decide | kernel_rfl
          try simp only [Act.put, List.setIfInBounds_toArray, List.set_cons_zero, List.set_cons_succ]
          refine wpAnyL_pureD (i := 5) 49 (.int .u64 1) rfl rfl (by kernel_rfl) (by kernel_rfl) (by kernel_rfl) (fun _ _ _ h => h) (Or.inl ⟨by rfl, fun u _ => ?_⟩) ?_
          · go_simp <;> first | rfl | decide | kernel_rfl
          try simp only [Act.put, List.setIfInBounds_toArray, List.set_cons_zero, List.set_cons_succ]
          refine wpAnyL_pureD (i := 6) 50 (.int .u64 1) rfl rfl (by kernel_rfl) (by kernel_rfl) (by kernel_rfl) (fun _ _ _ h => h) (Or.inl ⟨by rfl, fun u _ => ?_⟩) ?_
          · go_simp <;> first | rfl | decide | kernel_rfl
          try simp only [Act.put, List.setIfInBounds_toArray, List.set_cons_zero, List.set_cons_succ]
          refine wpAnyL_pureD (i := 7) 51 (.pointer (some ⟨V.heap.size, 1, none⟩)) rfl rfl (by kernel_rfl) (by kernel_rfl) (by kernel_rfl) (fun _ _ _ h => h) (Or.inl ⟨by rfl, fun u _ => ?_⟩) ?_
          · go_simp <;> first | rfl | decide | kernel_rfl
          try simp only [Act.put, List.setIfInBounds_toArray, List.set_cons_zero, List.set_cons_succ]
          have f1 : A2.drew.cell? ⟨V.heap.size, 1, none⟩ = some (.int .u64 0) := hx2.cell 1
          have f2 : A2.drew.frozen? ⟨V.heap.size, 1, none⟩ = false := Blk.frozen hx2 1
          refine wpAnyL_one (i := 8) (by kernel_rfl) rfl (fun K hK => ?_)
          go_simp
          refine hK.out _ _ (fun h => absurd (by decide) h) ?_
          clear hK K
          try simp only [Act.put, List.setIfInBounds_toArray, List.set_cons_zero, List.set_cons_succ]
          refine wpAnyL_done (by kernel_rfl) ?_ _
          try simp only [Act.put, List.setIfInBounds_toArray, List.set_cons_zero, List.set_cons_succ]
          have hx3 : Blk (A2.drew.setCell ⟨V.heap.size, 1, none⟩ (.int .u64 1)) V.heap.size 136 #[.int .u64 1, .int .u64 1] := Blk.set_ (w := A2.drew) hx2 1 _
          have hb3 : Below V.heap.size V (A2.drew.setCell ⟨V.heap.size, 1, none⟩ (.int .u64 1)) := (hb2.drew).setCell (p := ⟨V.heap.size, 1, none⟩) (Nat.le_refl _) _
          have HX3 := Lib.hid hx3
          have HB3 := Lib.hid hb3
          clear hx2 hb2 f1 f2 hj0 HF hx3 hb3
          go_wp2
          go_roundw
          case rel => exact ⟨1, _, by omega, rfl, rfl, HX3.out, HB3.out⟩
          case measure => simp [intOf]
        · obtain rfl : z = 1 := hz
          obtain ⟨pb, po, hpe, q1, x1, x2⟩ := (HPA.out.keep (HBV.out.trans (hb.mono HBV.out.size))).two 1 (by decide)
          obtain ⟨rfl, rfl⟩ : pb = b0 ∧ po = o0 := by
            injection hpe with h1
            injection h1 with h2 h3
            exact ⟨h2.symm, h3.symm⟩
          have y1 : wr.cell? ⟨pb, po + 2, none⟩ = some (.int .i64 0) := x1
          have y2 : wr.cell? ⟨pb, po + 2 + 1, none⟩ = some (.int .i64 2) := x2
          have y3 : wr.cell? ⟨pb, po + 3, none⟩ = some (.int .i64 2) := x2
          obtain ⟨A, hA⟩ : ∃ A, A = wr.alloc (Obj.cells #[.int .i64 0, .int .i64 2] 85) := ⟨_, rfl⟩
          have hpA : Blk A wr.heap.size 85 #[.int .i64 0, .int .i64 2] := by rw [hA]; exact Blk.new _ _ _
          have hxA : Blk A V.heap.size 136 #[.int .u64 1, .int .u64 1] := by rw [hA]; exact hx.alloc _
          have hbA : Below V.heap.size V A := by rw [hA]; exact hb.alloc hb.size _
          have HF : Hid (∀ u, Below A.heap.size A u → u.cell? ⟨wr.heap.size, 0, none⟩ = some (.int .i64 0) ∧ u.cell? ⟨wr.heap.size, 1, none⟩ = some (.int .i64 2)) := Lib.hid (fun u hu => ⟨(hpA.below hu hpA.lt).cell 0, (hpA.below hu hpA.lt).cell 1⟩)
          have HXA := Lib.hid hxA
          have HBA := Lib.hid hbA
          clear hx hb x1 x2 hpe hpA hxA hbA
          go_wp2_with fail
          rw [← hA]
          clear hA
          have hj0 : Below A.heap.size A A.drew := (Below.refl _ _).drew
          refine wp_region_late (S := fun u => Below A.heap.size A u) (X := []) (by kernel_rfl) ?_
          refine wpAnyL_pureD (i := 0) 25 (.int .i64 1) rfl rfl (by kernel_rfl) (by kernel_rfl) (by kernel_rfl) (fun _ _ _ h => h) (Or.inl ⟨by rfl, fun u _ => ?_⟩) ?_
          · go_simp <;> first | rfl | decide | kernel_rfl
          try simp only [Act.put, List.setIfInBounds_toArray, List.set_cons_zero, List.set_cons_succ]
          refine wpAnyL_pureD (i := 1) 26 (.pointer (some ⟨wr.heap.size, 0, none⟩)) rfl rfl (by kernel_rfl) (by kernel_rfl) (by kernel_rfl) (fun _ _ _ h => h) (Or.inl ⟨by rfl, fun u _ => ?_⟩) ?_
          · go_simp <;> first | rfl | decide | kernel_rfl
          try simp only [Act.put, List.setIfInBounds_toArray, List.set_cons_zero, List.set_cons_succ]
          refine wpAnyL_takeD (i := 2) 27 (.int .i64 0) rfl rfl (by kernel_rfl) (by kernel_rfl) (by kernel_rfl) (by kernel_rfl) (by kernel_rfl) (fun _ _ _ h => h) hj0 (Or.inl ⟨by rfl, fun u hu => ?_⟩) ?_
          · obtain ⟨t0, t1⟩ := HF.out u hu
            go_simp
          try simp only [Act.put, List.setIfInBounds_toArray, List.set_cons_zero, List.set_cons_succ]
          refine wpAnyL_pureD (i := 3) 28 (.int .i64 1) rfl rfl (by kernel_rfl) (by kernel_rfl) (by kernel_rfl) (fun _ _ _ h => h) (Or.inl ⟨by rfl, fun u _ => ?_⟩) ?_
          · go_simp <;> first | rfl | decide | kernel_rfl
          try simp only [Act.put, List.setIfInBounds_toArray, List.set_cons_zero, List.set_cons_succ]
          refine wpAnyL_pureD (i := 4) 29 (.int .i64 1) rfl rfl (by kernel_rfl) (by kernel_rfl) (by kernel_rfl) (fun _ _ _ h => h) (Or.inl ⟨by rfl, fun u _ => ?_⟩) ?_
          · go_simp <;> first | rfl | decide | kernel_rfl
          try simp only [Act.put, List.setIfInBounds_toArray, List.set_cons_zero, List.set_cons_succ]
          refine wpAnyL_pureD (i := 5) 30 (.int .i64 1) rfl rfl (by kernel_rfl) (by kernel_rfl) (by kernel_rfl) (fun _ _ _ h => h) (Or.inl ⟨by rfl, fun u _ => ?_⟩) ?_
          · go_simp <;> first | rfl | decide | kernel_rfl
          try simp only [Act.put, List.setIfInBounds_toArray, List.set_cons_zero, List.set_cons_succ]
          refine wpAnyL_pureD (i := 6) 31 (.pointer (some ⟨wr.heap.size, 1, none⟩)) rfl rfl (by kernel_rfl) (by kernel_rfl) (by kernel_rfl) (fun _ _ _ h => h) (Or.inl ⟨by rfl, fun u _ => ?_⟩) ?_
          · go_simp <;> first | rfl | decide | kernel_rfl
          try simp only [Act.put, List.setIfInBounds_toArray, List.set_cons_zero, List.set_cons_succ]
          refine wpAnyL_takeD (i := 7) 32 (.int .i64 2) rfl rfl (by kernel_rfl) (by kernel_rfl) (by kernel_rfl) (by kernel_rfl) (by kernel_rfl) (fun _ _ _ h => h) hj0 (Or.inl ⟨by rfl, fun u hu => ?_⟩) ?_
          · obtain ⟨t0, t1⟩ := HF.out u hu
            go_simp
          try simp only [Act.put, List.setIfInBounds_toArray, List.set_cons_zero, List.set_cons_succ]
          refine wpAnyL_pureD (i := 8) 33 (.int .i64 0) rfl rfl (by kernel_rfl) (by kernel_rfl) (by kernel_rfl) (fun _ _ _ h => h) (Or.inl ⟨by rfl, fun u _ => ?_⟩) ?_
          · go_simp <;> first | rfl | decide | kernel_rfl
          try simp only [Act.put, List.setIfInBounds_toArray, List.set_cons_zero, List.set_cons_succ]
          refine wpAnyL_pureD (i := 9) 34 (.int .i64 0) rfl rfl (by kernel_rfl) (by kernel_rfl) (by kernel_rfl) (fun _ _ _ h => h) (Or.inl ⟨by rfl, fun u _ => ?_⟩) ?_
          · go_simp <;> first | rfl | decide | kernel_rfl
          try simp only [Act.put, List.setIfInBounds_toArray, List.set_cons_zero, List.set_cons_succ]
          refine wpAnyL_pureD (i := 10) 10 (.int .i64 1) rfl rfl (by kernel_rfl) (by kernel_rfl) (by kernel_rfl) (fun _ _ _ h => h) (Or.inl ⟨by rfl, fun u _ => ?_⟩) ?_
          · go_simp <;> first | rfl | decide | kernel_rfl
          try simp only [Act.put, List.setIfInBounds_toArray, List.set_cons_zero, List.set_cons_succ]
          refine wpAnyL_pureD (i := 11) 11 (.int .i64 0) rfl rfl (by kernel_rfl) (by kernel_rfl) (by kernel_rfl) (fun _ _ _ h => h) (Or.inl ⟨by rfl, fun u _ => ?_⟩) ?_
          · go_simp <;> first | rfl | decide | kernel_rfl
          try simp only [Act.put, List.setIfInBounds_toArray, List.set_cons_zero, List.set_cons_succ]
          refine wpAnyL_done (by kernel_rfl) ?_ _
          try simp only [Act.put, List.setIfInBounds_toArray, List.set_cons_zero, List.set_cons_succ]
          obtain ⟨A1, hA1⟩ : ∃ A1, A1 = A.drew := ⟨_, rfl⟩
          have hx1 : Blk A1 V.heap.size 136 #[.int .u64 1, .int .u64 1] := by rw [hA1]; exact HXA.out
          have hb1 : Below V.heap.size V A1 := by rw [hA1]; exact HBA.out.drew
          rw [← hA1]
          clear hA1 hj0 HF y1 y2 y3
          have HF : Hid (∀ u, Below A1.heap.size A1 u → u.cell? ⟨V.heap.size, 0, none⟩ = some (.int .u64 1)) := Lib.hid (fun u hu => (hx1.below hu hx1.lt).cell 0)
          go_wp2
          have hj0 : Below A1.heap.size A1 A1.drew := (Below.refl _ _).drew
          refine wp_region_late (S := fun u => Below A1.heap.size A1 u) (X := [6]) (by kernel_rfl) ?_
          refine wpAnyL_pureD (i := 0) 38 (.pointer (some ⟨V.heap.size, 0, none⟩)) rfl rfl (by kernel_rfl) (by kernel_rfl) (by kernel_rfl) (fun _ _ _ h => h) (Or.inl ⟨by rfl, fun u _ => ?_⟩) ?_
          · go_simp <;> first | rfl | decide | kernel_rfl
          try simp only [Act.put, List.setIfInBounds_toArray, List.set_cons_zero, List.set_cons_succ]
          refine wpAnyL_takeD (i := 1) 39 (.int .u64 1) rfl rfl (by kernel_rfl) (by kernel_rfl) (by kernel_rfl) (by kernel_rfl) (by kernel_rfl) (fun _ _ _ h => h) hj0 (Or.inl ⟨by rfl, fun u hu => ?_⟩) ?_
          · have t0 := HF.out u hu
            go_simp
          try simp only [Act.put, List.setIfInBounds_toArray, List.set_cons_zero, List.set_cons_succ]
          refine wpAnyL_pureD (i := 2) 40 (.int .i64 1) rfl rfl (by kernel_rfl) (by kernel_rfl) (by kernel_rfl) (fun _ _ _ h => h) (Or.inl ⟨by rfl, fun u _ => ?_⟩) ?_
          · go_simp <;> first | rfl | decide | kernel_rfl
          try simp only [Act.put, List.setIfInBounds_toArray, List.set_cons_zero, List.set_cons_succ]
          refine wpAnyL_pureD (i := 3) 41 (.int .u64 2) rfl rfl (by kernel_rfl) (by kernel_rfl) (by kernel_rfl) (fun _ _ _ h => h) (Or.inl ⟨by rfl, fun u _ => ?_⟩) ?_
          · go_simp <;> first | rfl | decide | kernel_rfl
          try simp only [Act.put, List.setIfInBounds_toArray, List.set_cons_zero, List.set_cons_succ]
          refine wpAnyL_pureD (i := 4) 42 (.int .u64 3) rfl rfl (by kernel_rfl) (by kernel_rfl) (by kernel_rfl) (fun _ _ _ h => h) (Or.inl ⟨by rfl, fun u _ => ?_⟩) ?_
          · go_simp <;> first | rfl | decide | kernel_rfl
          try simp only [Act.put, List.setIfInBounds_toArray, List.set_cons_zero, List.set_cons_succ]
          refine wpAnyL_pureD (i := 5) 43 (.pointer (some ⟨V.heap.size, 0, none⟩)) rfl rfl (by kernel_rfl) (by kernel_rfl) (by kernel_rfl) (fun _ _ _ h => h) (Or.inl ⟨by rfl, fun u _ => ?_⟩) ?_
          · go_simp <;> first | rfl | decide | kernel_rfl
          try simp only [Act.put, List.setIfInBounds_toArray, List.set_cons_zero, List.set_cons_succ]
          have f1 : A1.drew.cell? ⟨V.heap.size, 0, none⟩ = some (.int .u64 1) := hx1.cell 0
          have f2 : A1.drew.frozen? ⟨V.heap.size, 0, none⟩ = false := Blk.frozen hx1 0
          refine wpAnyL_one (i := 6) (by kernel_rfl) rfl (fun K hK => ?_)
          go_simp
          refine hK.out _ _ (fun h => absurd (by decide) h) ?_
          clear hK K
          try simp only [Act.put, List.setIfInBounds_toArray, List.set_cons_zero, List.set_cons_succ]
          refine wpAnyL_done (by kernel_rfl) ?_ _
          try simp only [Act.put, List.setIfInBounds_toArray, List.set_cons_zero, List.set_cons_succ]
          obtain ⟨A2, hA2⟩ : ∃ A2, A2 = (A1.setCell ⟨V.heap.size, 0, none⟩ (.int .u64 3)).drew := ⟨_, rfl⟩
          have hx2 : Blk A2 V.heap.size 136 #[.int .u64 3, .int .u64 1] := by rw [hA2]; exact Blk.set_ (w := A1.drew) hx1 0 _
          have hb2 : Below V.heap.size V A2 := by rw [hA2]; exact (hb1.drew).setCell (p := ⟨V.heap.size, 0, none⟩) (Nat.le_refl _) _
          rw [← hA2]
          clear hA2 hj0 HF f1 f2 hx1 hb1
          have HF : Hid (∀ u, Below A2.heap.size A2 u → u.cell? ⟨V.heap.size, 1, none⟩ = some (.int .u64 1)) := Lib.hid (fun u hu => (hx2.below hu hx2.lt).cell 1)
          go_wp2
          have hj0 : Below A2.heap.size A2 A2.drew := (Below.refl _ _).drew
          refine wp_region_late (S := fun u => Below A2.heap.size A2 u) (X := [8]) (by kernel_rfl) ?_
          refine wpAnyL_pureD (i := 0) 44 (.pointer (some ⟨V.heap.size, 1, none⟩)) rfl rfl (by kernel_rfl) (by kernel_rfl) (by kernel_rfl) (fun _ _ _ h => h) (Or.inl ⟨by rfl, fun u _ => ?_⟩) ?_
          · go_simp <;> first | rfl | decide | kernel_rfl
          try simp only [Act.put, List.setIfInBounds_toArray, List.set_cons_zero, List.set_cons_succ]
          refine wpAnyL_takeD (i := 1) 45 (.int .u64 1) rfl rfl (by kernel_rfl) (by kernel_rfl) (by kernel_rfl) (by kernel_rfl) (by kernel_rfl) (fun _ _ _ h => h) hj0 (Or.inl ⟨by rfl, fun u hu => ?_⟩) ?_
          · have t0 := HF.out u hu
            go_simp
          try simp only [Act.put, List.setIfInBounds_toArray, List.set_cons_zero, List.set_cons_succ]
          refine wpAnyL_pureD (i := 2) 46 (.int .i64 1) rfl rfl (by kernel_rfl) (by kernel_rfl) (by kernel_rfl) (fun _ _ _ h => h) (Or.inl ⟨by rfl, fun u _ => ?_⟩) ?_
          · go_simp <;> first | rfl | decide | kernel_rfl
          try simp only [Act.put, List.setIfInBounds_toArray, List.set_cons_zero, List.set_cons_succ]
          refine wpAnyL_pureD (i := 3) 47 (.int .u64 1) rfl rfl (by kernel_rfl) (by kernel_rfl) (by kernel_rfl) (fun _ _ _ h => h) (Or.inl ⟨by rfl, fun u _ => ?_⟩) ?_
          · go_simp <;> first | rfl | decide | kernel_rfl
          try simp only [Act.put, List.setIfInBounds_toArray, List.set_cons_zero, List.set_cons_succ]
          refine wpAnyL_pureD (i := 4) 48 (.int .i64 1) rfl rfl (by kernel_rfl) (by kernel_rfl) (by kernel_rfl) (fun _ _ _ h => h) (Or.inl ⟨by rfl, fun u _ => ?_⟩) ?_
          · go_simp <;> first | rfl | decide | kernel_rfl
          try simp only [Act.put, List.setIfInBounds_toArray, List.set_cons_zero, List.set_cons_succ]
          refine wpAnyL_pureD (i := 5) 49 (.int .u64 2) rfl rfl (by kernel_rfl) (by kernel_rfl) (by kernel_rfl) (fun _ _ _ h => h) (Or.inl ⟨by rfl, fun u _ => ?_⟩) ?_
          · go_simp <;> first | rfl | decide | kernel_rfl
          try simp only [Act.put, List.setIfInBounds_toArray, List.set_cons_zero, List.set_cons_succ]
          refine wpAnyL_pureD (i := 6) 50 (.int .u64 3) rfl rfl (by kernel_rfl) (by kernel_rfl) (by kernel_rfl) (fun _ _ _ h => h) (Or.inl ⟨by rfl, fun u _ => ?_⟩) ?_
          · go_simp <;> first | rfl | decide | kernel_rfl
          try simp only [Act.put, List.setIfInBounds_toArray, List.set_cons_zero, List.set_cons_succ]
          refine wpAnyL_pureD (i := 7) 51 (.pointer (some ⟨V.heap.size, 1, none⟩)) rfl rfl (by kernel_rfl) (by kernel_rfl) (by kernel_rfl) (fun _ _ _ h => h) (Or.inl ⟨by rfl, fun u _ => ?_⟩) ?_
          · go_simp <;> first | rfl | decide | kernel_rfl
          try simp only [Act.put, List.setIfInBounds_toArray, List.set_cons_zero, List.set_cons_succ]
          have f1 : A2.drew.cell? ⟨V.heap.size, 1, none⟩ = some (.int .u64 1) := hx2.cell 1
          have f2 : A2.drew.frozen? ⟨V.heap.size, 1, none⟩ = false := Blk.frozen hx2 1
          refine wpAnyL_one (i := 8) (by kernel_rfl) rfl (fun K hK => ?_)
          go_simp
          refine hK.out _ _ (fun h => absurd (by decide) h) ?_
          clear hK K
          try simp only [Act.put, List.setIfInBounds_toArray, List.set_cons_zero, List.set_cons_succ]
          refine wpAnyL_done (by kernel_rfl) ?_ _
          try simp only [Act.put, List.setIfInBounds_toArray, List.set_cons_zero, List.set_cons_succ]
          have hx3 : Blk (A2.drew.setCell ⟨V.heap.size, 1, none⟩ (.int .u64 3)) V.heap.size 136 #[.int .u64 3, .int .u64 3] := Blk.set_ (w := A2.drew) hx2 1 _
          have hb3 : Below V.heap.size V (A2.drew.setCell ⟨V.heap.size, 1, none⟩ (.int .u64 3)) := (hb2.drew).setCell (p := ⟨V.heap.size, 1, none⟩) (Nat.le_refl _) _
          have HX3 := Lib.hid hx3
          have HB3 := Lib.hid hb3
          clear hx2 hb2 f1 f2 hj0 HF hx3 hb3
          go_wp2
          go_roundw
          case rel => exact ⟨2, _, by omega, rfl, rfl, HX3.out, HB3.out⟩
          case measure => simp [intOf]
        · obtain rfl : z = 2 := hz
          obtain ⟨pb, po, hpe, q1, x1, x2⟩ := (HPA.out.keep (HBV.out.trans (hb.mono HBV.out.size))).two 2 (by decide)
          obtain ⟨rfl, rfl⟩ : pb = b0 ∧ po = o0 := by
            injection hpe with h1
            injection h1 with h2 h3
            exact ⟨h2.symm, h3.symm⟩
          have y1 : wr.cell? ⟨pb, po + 4, none⟩ = some (.int .i64 1) := x1
          have y2 : wr.cell? ⟨pb, po + 4 + 1, none⟩ = some (.int .i64 2) := x2
          have y3 : wr.cell? ⟨pb, po + 5, none⟩ = some (.int .i64 2) := x2
          obtain ⟨A, hA⟩ : ∃ A, A = wr.alloc (Obj.cells #[.int .i64 1, .int .i64 2] 85) := ⟨_, rfl⟩
          have hpA : Blk A wr.heap.size 85 #[.int .i64 1, .int .i64 2] := by rw [hA]; exact Blk.new _ _ _
          have hxA : Blk A V.heap.size 136 #[.int .u64 3, .int .u64 3] := by rw [hA]; exact hx.alloc _
          have hbA : Below V.heap.size V A := by rw [hA]; exact hb.alloc hb.size _
          have HF : Hid (∀ u, Below A.heap.size A u → u.cell? ⟨wr.heap.size, 0, none⟩ = some (.int .i64 1) ∧ u.cell? ⟨wr.heap.size, 1, none⟩ = some (.int .i64 2)) := Lib.hid (fun u hu => ⟨(hpA.below hu hpA.lt).cell 0, (hpA.below hu hpA.lt).cell 1⟩)
          have HXA := Lib.hid hxA
          have HBA := Lib.hid hbA
          clear hx hb x1 x2 hpe hpA hxA hbA
          go_wp2_with fail
          rw [← hA]
          clear hA
          have hj0 : Below A.heap.size A A.drew := (Below.refl _ _).drew
          refine wp_region_late (S := fun u => Below A.heap.size A u) (X := []) (by kernel_rfl) ?_
          refine wpAnyL_pureD (i := 0) 25 (.int .i64 1) rfl rfl (by kernel_rfl) (by kernel_rfl) (by kernel_rfl) (fun _ _ _ h => h) (Or.inl ⟨by rfl, fun u _ => ?_⟩) ?_
          · go_simp <;> first | rfl | decide | kernel_rfl
          try simp only [Act.put, List.setIfInBounds_toArray, List.set_cons_zero, List.set_cons_succ]
          refine wpAnyL_pureD (i := 1) 26 (.pointer (some ⟨wr.heap.size, 0, none⟩)) rfl rfl (by kernel_rfl) (by kernel_rfl) (by kernel_rfl) (fun _ _ _ h => h) (Or.inl ⟨by rfl, fun u _ => ?_⟩) ?_
          · go_simp <;> first | rfl | decide | kernel_rfl
          try simp only [Act.put, List.setIfInBounds_toArray, List.set_cons_zero, List.set_cons_succ]
          refine wpAnyL_takeD (i := 2) 27 (.int .i64 1) rfl rfl (by kernel_rfl) (by kernel_rfl) (by kernel_rfl) (by kernel_rfl) (by kernel_rfl) (fun _ _ _ h => h) hj0 (Or.inl ⟨by rfl, fun u hu => ?_⟩) ?_
          · obtain ⟨t0, t1⟩ := HF.out u hu
            go_simp
          try simp only [Act.put, List.setIfInBounds_toArray, List.set_cons_zero, List.set_cons_succ]
          refine wpAnyL_pureD (i := 3) 28 (.int .i64 0) rfl rfl (by kernel_rfl) (by kernel_rfl) (by kernel_rfl) (fun _ _ _ h => h) (Or.inl ⟨by rfl, fun u _ => ?_⟩) ?_
          · go_simp <;> first | rfl | decide | kernel_rfl
          try simp only [Act.put, List.setIfInBounds_toArray, List.set_cons_zero, List.set_cons_succ]
          refine wpAnyL_pureD (i := 4) 29 (.int .i64 0) rfl rfl (by kernel_rfl) (by kernel_rfl) (by kernel_rfl) (fun _ _ _ h => h) (Or.inl ⟨by rfl, fun u _ => ?_⟩) ?_
          · go_simp <;> first | rfl | decide | kernel_rfl
          try simp only [Act.put, List.setIfInBounds_toArray, List.set_cons_zero, List.set_cons_succ]
          refine wpAnyL_pureD (i := 5) 30 (.int .i64 1) rfl rfl (by kernel_rfl) (by kernel_rfl) (by kernel_rfl) (fun _ _ _ h => h) (Or.inl ⟨by rfl, fun u _ => ?_⟩) ?_
          · go_simp <;> first | rfl | decide | kernel_rfl
          try simp only [Act.put, List.setIfInBounds_toArray, List.set_cons_zero, List.set_cons_succ]
          refine wpAnyL_pureD (i := 6) 31 (.pointer (some ⟨wr.heap.size, 1, none⟩)) rfl rfl (by kernel_rfl) (by kernel_rfl) (by kernel_rfl) (fun _ _ _ h => h) (Or.inl ⟨by rfl, fun u _ => ?_⟩) ?_
          · go_simp <;> first | rfl | decide | kernel_rfl
          try simp only [Act.put, List.setIfInBounds_toArray, List.set_cons_zero, List.set_cons_succ]
          refine wpAnyL_takeD (i := 7) 32 (.int .i64 2) rfl rfl (by kernel_rfl) (by kernel_rfl) (by kernel_rfl) (by kernel_rfl) (by kernel_rfl) (fun _ _ _ h => h) hj0 (Or.inl ⟨by rfl, fun u hu => ?_⟩) ?_
          · obtain ⟨t0, t1⟩ := HF.out u hu
            go_simp
          try simp only [Act.put, List.setIfInBounds_toArray, List.set_cons_zero, List.set_cons_succ]
          refine wpAnyL_pureD (i := 8) 33 (.int .i64 0) rfl rfl (by kernel_rfl) (by kernel_rfl) (by kernel_rfl) (fun _ _ _ h => h) (Or.inl ⟨by rfl, fun u _ => ?_⟩) ?_
          · go_simp <;> first | rfl | decide | kernel_rfl
          try simp only [Act.put, List.setIfInBounds_toArray, List.set_cons_zero, List.set_cons_succ]
          refine wpAnyL_pureD (i := 9) 34 (.int .i64 0) rfl rfl (by kernel_rfl) (by kernel_rfl) (by kernel_rfl) (fun _ _ _ h => h) (Or.inl ⟨by rfl, fun u _ => ?_⟩) ?_
          · go_simp <;> first | rfl | decide | kernel_rfl
          try simp only [Act.put, List.setIfInBounds_toArray, List.set_cons_zero, List.set_cons_succ]
          refine wpAnyL_pureD (i := 10) 10 (.int .i64 0) rfl rfl (by kernel_rfl) (by kernel_rfl) (by kernel_rfl) (fun _ _ _ h => h) (Or.inl ⟨by rfl, fun u _ => ?_⟩) ?_
          · go_simp <;> first | rfl | decide | kernel_rfl
          try simp only [Act.put, List.setIfInBounds_toArray, List.set_cons_zero, List.set_cons_succ]
          refine wpAnyL_pureD (i := 11) 11 (.int .i64 0) rfl rfl (by kernel_rfl) (by kernel_rfl) (by kernel_rfl) (fun _ _ _ h => h) (Or.inl ⟨by rfl, fun u _ => ?_⟩) ?_
          · go_simp <;> first | rfl | decide | kernel_rfl
          try simp only [Act.put, List.setIfInBounds_toArray, List.set_cons_zero, List.set_cons_succ]
          refine wpAnyL_done (by kernel_rfl) ?_ _
          try simp only [Act.put, List.setIfInBounds_toArray, List.set_cons_zero, List.set_cons_succ]
          clear hj0 HF y1 y2 y3
          go_wp2
          go_roundw
          case rel => exact ⟨3, _, by omega, rfl, rfl, HXA.out, HBA.out.drew⟩
          case measure => simp [intOf]
        · obtain rfl : z = 3 := hz
          have f1 : wr.cell? ⟨V.heap.size, 0, none⟩ = some (.int .u64 3) := hx.cell 0
          have f2 : wr.cell? ⟨V.heap.size, 1, none⟩ = some (.int .u64 3) := hx.cell 1
          have HBE := Lib.hid hb
          have hzz := hb.size
          clear hx hb
          go_wp2_with (at_builtin; refine wpList_append_own _ rfl _ _ 115 rfl w.heap.size 136 i0 (.agg #[.int .u64 0, .int .u64 0]) 2 16 Try.underlying115 hi0 hz0 hz1 hz2 rfl (by decide) _ _ _ rfl ((own_keep HOW.out HBE.out).alloc _) ⟨wr.heap.size, 0, none⟩ 1 1 [.int .u64 3, .int .u64 3] rfl rfl (lit_row _ _ _) (by simp [Value.oneCell']) (by unfold maxLen; omega) (by omega) (by rw [World.size_alloc]; have := HBV.out.size; omega) ?_; intro v1 w3 hown1 hgrow1 hnil; clear hnil; have HO3 : Hid (w3.ownsRow w.heap.size 136 2 v1 1 (flat encT (cutT 1))) := Lib.hid hown1; have HB3 : Hid (Below w.heap.size w w3) := Lib.hid (below_push (w := w) (HBV.out.trans (HBE.out.mono HBV.out.size)) (fun k hk => (HOW.out.lt k hk).1) hgrow1); clear hown1 hgrow1)
          go_roundw
          case rel => exact ⟨1, _, by omega, rfl, by omega, HO3.out, HB3.out⟩
          case measure => simp [intOf]
    · have hx0 : z = 3 := by omega
      subst hx0
      clear hx
      have HOW : Hid (V.ownsRow w.heap.size 136 2 _ 1 (flat encT (cutT 1))) := Lib.hid hown
      obtain ⟨V1, hV1⟩ : ∃ V1, V1 = V.alloc (Obj.cells #[.int .u64 0, .int .u64 0] 136) := ⟨_, rfl⟩
      have hx1 : Blk V1 V.heap.size 136 #[.int .u64 (cE1 0), .int .u64 (cY1 0)] := by rw [hV1]; exact Blk.new _ _ _
      have hb1 : Below V.heap.size V V1 := by rw [hV1]; exact (Below.refl _ _).alloc (Nat.le_refl _) _
      have HX1 := Lib.hid hx1
      have HB1 := Lib.hid hb1
      clear hx1 hb1 hown hbV
      go_wp2
      rw [← hV1]
      clear hV1
      go_loopw [20] (fun x wr => ∃ k : Nat, ∃ z : Int, k ≤ 3 ∧ x = .int .i64 z ∧ z = k ∧ Blk wr V.heap.size 136 #[.int .u64 (cE1 k), .int .u64 (cY1 k)] ∧ Below V.heap.size V wr) (fun x _ => 3 - (intOf x).toNat)
      case atStart => exact ⟨0, 0, by omega, rfl, rfl, HX1.out, HB1.out⟩
      case round =>
        obtain ⟨k, z, hk, rfl, hz, hx, hb⟩ := hrel
        rcases (show k = 0 ∨ k = 1 ∨ k = 2 ∨ k = 3 by omega) with rfl | rfl | rfl | rfl
        · obtain rfl : z = 0 := hz
          obtain ⟨pb, po, hpe, q1, x1, x2⟩ := (HPA.out.keep (HBV.out.trans (hb.mono HBV.out.size))).two 0 (by decide)
          obtain ⟨rfl, rfl⟩ : pb = b0 ∧ po = o0 := by
            injection hpe with h1
            injection h1 with h2 h3
            exact ⟨h2.symm, h3.symm⟩
          have y1 : wr.cell? ⟨pb, po, none⟩ = some (.int .i64 0) := x1
          have y2 : wr.cell? ⟨pb, po + 0 + 1, none⟩ = some (.int .i64 1) := x2
          have y3 : wr.cell? ⟨pb, po + 1, none⟩ = some (.int .i64 1) := x2
          obtain ⟨A, hA⟩ : ∃ A, A = wr.alloc (Obj.cells #[.int .i64 0, .int .i64 1] 85) := ⟨_, rfl⟩
          have hpA : Blk A wr.heap.size 85 #[.int .i64 0, .int .i64 1] := by rw [hA]; exact Blk.new _ _ _
          have hxA : Blk A V.heap.size 136 #[.int .u64 0, .int .u64 0] := by rw [hA]; exact hx.alloc _
          have hbA : Below V.heap.size V A := by rw [hA]; exact hb.alloc hb.size _
          have HF : Hid (∀ u, Below A.heap.size A u → u.cell? ⟨wr.heap.size, 0, none⟩ = some (.int .i64 0) ∧ u.cell? ⟨wr.heap.size, 1, none⟩ = some (.int .i64 1)) := Lib.hid (fun u hu => ⟨(hpA.below hu hpA.lt).cell 0, (hpA.below hu hpA.lt).cell 1⟩)
          have HXA := Lib.hid hxA
          have HBA := Lib.hid hbA
          clear hx hb x1 x2 hpe hpA hxA hbA
          go_wp2_with fail
          rw [← hA]
          clear hA
          have hj0 : Below A.heap.size A A.drew := (Below.refl _ _).drew
          refine wp_region_late (S := fun u => Below A.heap.size A u) (X := []) (by kernel_rfl) ?_
          refine wpAnyL_pureD (i := 0) 25 (.int .i64 3) rfl rfl (by kernel_rfl) (by kernel_rfl) (by kernel_rfl) (fun _ _ _ h => h) (Or.inl ⟨by rfl, fun u _ => ?_⟩) ?_
          · go_simp <;> first | rfl | decide | kernel_rfl
          try simp only [Act.put, List.setIfInBounds_toArray, List.set_cons_zero, List.set_cons_succ]
          refine wpAnyL_pureD (i := 1) 26 (.pointer (some ⟨wr.heap.size, 0, none⟩)) rfl rfl (by kernel_rfl) (by kernel_rfl) (by kernel_rfl) (fun _ _ _ h => h) (Or.inl ⟨by rfl, fun u _ => ?_⟩) ?_
          · go_simp <;> first | rfl | decide | kernel_rfl
          try simp only [Act.put, List.setIfInBounds_toArray, List.set_cons_zero, List.set_cons_succ]
          refine wpAnyL_takeD (i := 2) 27 (.int .i64 0) rfl rfl (by kernel_rfl) (by kernel_rfl) (by kernel_rfl) (by kernel_rfl) (by kernel_rfl) (fun _ _ _ h => h) hj0 (Or.inl ⟨by rfl, fun u hu => ?_⟩) ?_
          · obtain ⟨t0, t1⟩ := HF.out u hu
            go_simp
          try simp only [Act.put, List.setIfInBounds_toArray, List.set_cons_zero, List.set_cons_succ]
          refine wpAnyL_pureD (i := 3) 28 (.int .i64 3) rfl rfl (by kernel_rfl) (by kernel_rfl) (by kernel_rfl) (fun _ _ _ h => h) (Or.inl ⟨by rfl, fun u _ => ?_⟩) ?_
          · go_simp <;> first | rfl | decide | kernel_rfl
          try simp only [Act.put, List.setIfInBounds_toArray, List.set_cons_zero, List.set_cons_succ]
          refine wpAnyL_pureD (i := 4) 29 (.int .i64 1) rfl rfl (by kernel_rfl) (by kernel_rfl) (by kernel_rfl) (fun _ _ _ h => h) (Or.inl ⟨by rfl, fun u _ => ?_⟩) ?_
          · go_simp <;> first | rfl | decide | kernel_rfl
          try simp only [Act.put, List.setIfInBounds_toArray, List.set_cons_zero, List.set_cons_succ]
          refine wpAnyL_pureD (i := 5) 30 (.int .i64 3) rfl rfl (by kernel_rfl) (by kernel_rfl) (by kernel_rfl) (fun _ _ _ h => h) (Or.inl ⟨by rfl, fun u _ => ?_⟩) ?_
          · go_simp <;> first | rfl | decide | kernel_rfl
          try simp only [Act.put, List.setIfInBounds_toArray, List.set_cons_zero, List.set_cons_succ]
          refine wpAnyL_pureD (i := 6) 31 (.pointer (some ⟨wr.heap.size, 1, none⟩)) rfl rfl (by kernel_rfl) (by kernel_rfl) (by kernel_rfl) (fun _ _ _ h => h) (Or.inl ⟨by rfl, fun u _ => ?_⟩) ?_
          · go_simp <;> first | rfl | decide | kernel_rfl
          try simp only [Act.put, List.setIfInBounds_toArray, List.set_cons_zero, List.set_cons_succ]
          refine wpAnyL_takeD (i := 7) 32 (.int .i64 1) rfl rfl (by kernel_rfl) (by kernel_rfl) (by kernel_rfl) (by kernel_rfl) (by kernel_rfl) (fun _ _ _ h => h) hj0 (Or.inl ⟨by rfl, fun u hu => ?_⟩) ?_
          · obtain ⟨t0, t1⟩ := HF.out u hu
            go_simp
          try simp only [Act.put, List.setIfInBounds_toArray, List.set_cons_zero, List.set_cons_succ]
          refine wpAnyL_pureD (i := 8) 33 (.int .i64 1) rfl rfl (by kernel_rfl) (by kernel_rfl) (by kernel_rfl) (fun _ _ _ h => h) (Or.inl ⟨by rfl, fun u _ => ?_⟩) ?_
          · go_simp <;> first | rfl | decide | kernel_rfl
          try simp only [Act.put, List.setIfInBounds_toArray, List.set_cons_zero, List.set_cons_succ]
          refine wpAnyL_pureD (i := 9) 34 (.int .i64 1) rfl rfl (by kernel_rfl) (by kernel_rfl) (by kernel_rfl) (fun _ _ _ h => h) (Or.inl ⟨by rfl, fun u _ => ?_⟩) ?_
          · go_simp <;> first | rfl | decide | kernel_rfl
          try simp only [Act.put, List.setIfInBounds_toArray, List.set_cons_zero, List.set_cons_succ]
          refine wpAnyL_pureD (i := 10) 10 (.int .i64 1) rfl rfl (by kernel_rfl) (by kernel_rfl) (by kernel_rfl) (fun _ _ _ h => h) (Or.inl ⟨by rfl, fun u _ => ?_⟩) ?_
          · go_simp <;> first | rfl | decide | kernel_rfl
          try simp only [Act.put, List.setIfInBounds_toArray, List.set_cons_zero, List.set_cons_succ]
          refine wpAnyL_pureD (i := 11) 11 (.int .i64 1) rfl rfl (by kernel_rfl) (by kernel_rfl) (by kernel_rfl) (fun _ _ _ h => h) (Or.inl ⟨by rfl, fun u _ => ?_⟩) ?_
          · go_simp <;> first | rfl | decide | kernel_rfl
          try simp only [Act.put, List.setIfInBounds_toArray, List.set_cons_zero, List.set_cons_succ]
          refine wpAnyL_done (by kernel_rfl) ?_ _
          try simp only [Act.put, List.setIfInBounds_toArray, List.set_cons_zero, List.set_cons_succ]
          clear hj0 HF y1 y2 y3
          go_wp2
          go_roundw
          case rel => exact ⟨1, _, by omega, rfl, rfl, HXA.out, HBA.out.drew⟩
          case measure => simp [intOf]
        · obtain rfl : z = 1 := hz
          obtain ⟨pb, po, hpe, q1, x1, x2⟩ := (HPA.out.keep (HBV.out.trans (hb.mono HBV.out.size))).two 1 (by decide)
          obtain ⟨rfl, rfl⟩ : pb = b0 ∧ po = o0 := by
            injection hpe with h1
            injection h1 with h2 h3
            exact ⟨h2.symm, h3.symm⟩
          have y1 : wr.cell? ⟨pb, po + 2, none⟩ = some (.int .i64 0) := x1
          have y2 : wr.cell? ⟨pb, po + 2 + 1, none⟩ = some (.int .i64 2) := x2
          have y3 : wr.cell? ⟨pb, po + 3, none⟩ = some (.int .i64 2) := x2
          obtain ⟨A, hA⟩ : ∃ A, A = wr.alloc (Obj.cells #[.int .i64 0, .int .i64 2] 85) := ⟨_, rfl⟩
          have hpA : Blk A wr.heap.size 85 #[.int .i64 0, .int .i64 2] := by rw [hA]; exact Blk.new _ _ _
          have hxA : Blk A V.heap.size 136 #[.int .u64 0, .int .u64 0] := by rw [hA]; exact hx.alloc _
          have hbA : Below V.heap.size V A := by rw [hA]; exact hb.alloc hb.size _
          have HF : Hid (∀ u, Below A.heap.size A u → u.cell? ⟨wr.heap.size, 0, none⟩ = some (.int .i64 0) ∧ u.cell? ⟨wr.heap.size, 1, none⟩ = some (.int .i64 2)) := Lib.hid (fun u hu => ⟨(hpA.below hu hpA.lt).cell 0, (hpA.below hu hpA.lt).cell 1⟩)
          have HXA := Lib.hid hxA
          have HBA := Lib.hid hbA
          clear hx hb x1 x2 hpe hpA hxA hbA
          go_wp2_with fail
          rw [← hA]
          clear hA
          have hj0 : Below A.heap.size A A.drew := (Below.refl _ _).drew
          refine wp_region_late (S := fun u => Below A.heap.size A u) (X := []) (by kernel_rfl) ?_
          refine wpAnyL_pureD (i := 0) 25 (.int .i64 3) rfl rfl (by kernel_rfl) (by kernel_rfl) (by kernel_rfl) (fun _ _ _ h => h) (Or.inl ⟨by rfl, fun u _ => ?_⟩) ?_
          · go_simp <;> first | rfl | decide | kernel_rfl
          try simp only [Act.put, List.setIfInBounds_toArray, List.set_cons_zero, List.set_cons_succ]
          refine wpAnyL_pureD (i := 1) 26 (.pointer (some ⟨wr.heap.size, 0, none⟩)) rfl rfl (by kernel_rfl) (by kernel_rfl) (by kernel_rfl) (fun _ _ _ h => h) (Or.inl ⟨by rfl, fun u _ => ?_⟩) ?_
          · go_simp <;> first | rfl | decide | kernel_rfl
          try simp only [Act.put, List.setIfInBounds_toArray, List.set_cons_zero, List.set_cons_succ]
          refine wpAnyL_takeD (i := 2) 27 (.int .i64 0) rfl rfl (by kernel_rfl) (by kernel_rfl) (by kernel_rfl) (by kernel_rfl) (by kernel_rfl) (fun _ _ _ h => h) hj0 (Or.inl ⟨by rfl, fun u hu => ?_⟩) ?_
          · obtain ⟨t0, t1⟩ := HF.out u hu
            go_simp
          try simp only [Act.put, List.setIfInBounds_toArray, List.set_cons_zero, List.set_cons_succ]
          refine wpAnyL_pureD (i := 3) 28 (.int .i64 3) rfl rfl (by kernel_rfl) (by kernel_rfl) (by kernel_rfl) (fun _ _ _ h => h) (Or.inl ⟨by rfl, fun u _ => ?_⟩) ?_
          · go_simp <;> first | rfl | decide | kernel_rfl
          try simp only [Act.put, List.setIfInBounds_toArray, List.set_cons_zero, List.set_cons_succ]
          refine wpAnyL_pureD (i := 4) 29 (.int .i64 1) rfl rfl (by kernel_rfl) (by kernel_rfl) (by kernel_rfl) (fun _ _ _ h => h) (Or.inl ⟨by rfl, fun u _ => ?_⟩) ?_
          · go_simp <;> first | rfl | decide | kernel_rfl
          try simp only [Act.put, List.setIfInBounds_toArray, List.set_cons_zero, List.set_cons_succ]
          refine wpAnyL_pureD (i := 5) 30 (.int .i64 3) rfl rfl (by kernel_rfl) (by kernel_rfl) (by kernel_rfl) (fun _ _ _ h => h) (Or.inl ⟨by rfl, fun u _ => ?_⟩) ?_
          · go_simp <;> first | rfl | decide | kernel_rfl
          try simp only [Act.put, List.setIfInBounds_toArray, List.set_cons_zero, List.set_cons_succ]
          refine wpAnyL_pureD (i := 6) 31 (.pointer (some ⟨wr.heap.size, 1, none⟩)) rfl rfl (by kernel_rfl) (by kernel_rfl) (by kernel_rfl) (fun _ _ _ h => h) (Or.inl ⟨by rfl, fun u _ => ?_⟩) ?_
          · go_simp <;> first | rfl | decide | kernel_rfl
          try simp only [Act.put, List.setIfInBounds_toArray, List.set_cons_zero, List.set_cons_succ]
          refine wpAnyL_takeD (i := 7) 32 (.int .i64 2) rfl rfl (by kernel_rfl) (by kernel_rfl) (by kernel_rfl) (by kernel_rfl) (by kernel_rfl) (fun _ _ _ h => h) hj0 (Or.inl ⟨by rfl, fun u hu => ?_⟩) ?_
          · obtain ⟨t0, t1⟩ := HF.out u hu
            go_simp
          try simp only [Act.put, List.setIfInBounds_toArray, List.set_cons_zero, List.set_cons_succ]
          refine wpAnyL_pureD (i := 8) 33 (.int .i64 0) rfl rfl (by kernel_rfl) (by kernel_rfl) (by kernel_rfl) (fun _ _ _ h => h) (Or.inl ⟨by rfl, fun u _ => ?_⟩) ?_
          · go_simp <;> first | rfl | decide | kernel_rfl
          try simp only [Act.put, List.setIfInBounds_toArray, List.set_cons_zero, List.set_cons_succ]
          refine wpAnyL_pureD (i := 9) 34 (.int .i64 0) rfl rfl (by kernel_rfl) (by kernel_rfl) (by kernel_rfl) (fun _ _ _ h => h) (Or.inl ⟨by rfl, fun u _ => ?_⟩) ?_
          · go_simp <;> first | rfl | decide | kernel_rfl
          try simp only [Act.put, List.setIfInBounds_toArray, List.set_cons_zero, List.set_cons_succ]
          refine wpAnyL_pureD (i := 10) 10 (.int .i64 1) rfl rfl (by kernel_rfl) (by kernel_rfl) (by kernel_rfl) (fun _ _ _ h => h) (Or.inl ⟨by rfl, fun u _ => ?_⟩) ?_
          · go_simp <;> first | rfl | decide | kernel_rfl
          try simp only [Act.put, List.setIfInBounds_toArray, List.set_cons_zero, List.set_cons_succ]
          refine wpAnyL_pureD (i := 11) 11 (.int .i64 0) rfl rfl (by kernel_rfl) (by kernel_rfl) (by kernel_rfl) (fun _ _ _ h => h) (Or.inl ⟨by rfl, fun u _ => ?_⟩) ?_
          · go_simp <;> first | rfl | decide | kernel_rfl
          try simp only [Act.put, List.setIfInBounds_toArray, List.set_cons_zero, List.set_cons_succ]
          refine wpAnyL_done (by kernel_rfl) ?_ _
          try simp only [Act.put, List.setIfInBounds_toArray, List.set_cons_zero, List.set_cons_succ]
          obtain ⟨A1, hA1⟩ : ∃ A1, A1 = A.drew := ⟨_, rfl⟩
          have hx1 : Blk A1 V.heap.size 136 #[.int .u64 0, .int .u64 0] := by rw [hA1]; exact HXA.out
          have hb1 : Below V.heap.size V A1 := by rw [hA1]; exact HBA.out.drew
          rw [← hA1]
          clear hA1 hj0 HF y1 y2 y3
          have HF : Hid (∀ u, Below A1.heap.size A1 u → u.cell? ⟨V.heap.size, 0, none⟩ = some (.int .u64 0)) := Lib.hid (fun u hu => (hx1.below hu hx1.lt).cell 0)
          go_wp2
          have hj0 : Below A1.heap.size A1 A1.drew := (Below.refl _ _).drew
          refine wp_region_late (S := fun u => Below A1.heap.size A1 u) (X := [6]) (by kernel_rfl) ?_
          refine wpAnyL_pureD (i := 0) 38 (.pointer (some ⟨V.heap.size, 0, none⟩)) rfl rfl (by kernel_rfl) (by kernel_rfl) (by kernel_rfl) (fun _ _ _ h => h) (Or.inl ⟨by rfl, fun u _ => ?_⟩) ?_
          · go_simp <;> first | rfl | decide | kernel_rfl
          try simp only [Act.put, List.setIfInBounds_toArray, List.set_cons_zero, List.set_cons_succ]
          refine wpAnyL_takeD (i := 1) 39 (.int .u64 0) rfl rfl (by kernel_rfl) (by kernel_rfl) (by kernel_rfl) (by kernel_rfl) (by kernel_rfl) (fun _ _ _ h => h) hj0 (Or.inl ⟨by rfl, fun u hu => ?_⟩) ?_
          · have t0 := HF.out u hu
            go_simp
          try simp only [Act.put, List.setIfInBounds_toArray, List.set_cons_zero, List.set_cons_succ]
          refine wpAnyL_pureD (i := 2) 40 (.int .i64 1) rfl rfl (by kernel_rfl) (by kernel_rfl) (by kernel_rfl) (fun _ _ _ h => h) (Or.inl ⟨by rfl, fun u _ => ?_⟩) ?_
          · go_simp <;> first | rfl | decide | kernel_rfl
          try simp only [Act.put, List.setIfInBounds_toArray, List.set_cons_zero, List.set_cons_succ]
          refine wpAnyL_pureD (i := 3) 41 (.int .u64 2) rfl rfl (by kernel_rfl) (by kernel_rfl) (by kernel_rfl) (fun _ _ _ h => h) (Or.inl ⟨by rfl, fun u _ => ?_⟩) ?_
          · go_simp <;> first | rfl | decide | kernel_rfl
          try simp only [Act.put, List.setIfInBounds_toArray, List.set_cons_zero, List.set_cons_succ]
          refine wpAnyL_pureD (i := 4) 42 (.int .u64 2) rfl rfl (by kernel_rfl) (by kernel_rfl) (by kernel_rfl) (fun _ _ _ h => h) (Or.inl ⟨by rfl, fun u _ => ?_⟩) ?_
          · go_simp <;> first | rfl | decide | kernel_rfl
          try simp only [Act.put, List.setIfInBounds_toArray, List.set_cons_zero, List.set_cons_succ]
          refine wpAnyL_pureD (i := 5) 43 (.pointer (some ⟨V.heap.size, 0, none⟩)) rfl rfl (by kernel_rfl) (by kernel_rfl) (by kernel_rfl) (fun _ _ _ h => h) (Or.inl ⟨by rfl, fun u _ => ?_⟩) ?_
          · go_simp <;> first | rfl | decide | kernel_rfl
          try simp only [Act.put, List.setIfInBounds_toArray, List.set_cons_zero, List.set_cons_succ]
          have f1 : A1.drew.cell? ⟨V.heap.size, 0, none⟩ = some (.int .u64 0) := hx1.cell 0
          have f2 : A1.drew.frozen? ⟨V.heap.size, 0, none⟩ = false := Blk.frozen hx1 0
          refine wpAnyL_one (i := 6) (by kernel_rfl) rfl (fun K hK => ?_)
          go_simp
          refine hK.out _ _ (fun h => absurd (by decide) h) ?_
          clear hK K
          try simp only [Act.put, List.setIfInBounds_toArray, List.set_cons_zero, List.set_cons_succ]
          refine wpAnyL_done (by kernel_rfl) ?_ _
          try simp only [Act.put, List.setIfInBounds_toArray, List.set_cons_zero, List.set_cons_succ]
          obtain ⟨A2, hA2⟩ : ∃ A2, A2 = (A1.setCell ⟨V.heap.size, 0, none⟩ (.int .u64 2)).drew := ⟨_, rfl⟩
          have hx2 : Blk A2 V.heap.size 136 #[.int .u64 2, .int .u64 0] := by rw [hA2]; exact Blk.set_ (w := A1.drew) hx1 0 _
          have hb2 : Below V.heap.size V A2 := by rw [hA2]; exact (hb1.drew).setCell (p := ⟨V.heap.size, 0, none⟩) (Nat.le_refl _) _
          rw [← hA2]
          clear hA2 hj0 HF f1 f2 hx1 hb1
          have HF : Hid (∀ u, Below A2.heap.size A2 u → u.cell? ⟨V.heap.size, 1, none⟩ = some (.int .u64 0)) := Lib.hid (fun u hu => (hx2.below hu hx2.lt).cell 1)
          go_wp2
          have hj0 : Below A2.heap.size A2 A2.drew := (Below.refl _ _).drew
          refine wp_region_late (S := fun u => Below A2.heap.size A2 u) (X := [8]) (by kernel_rfl) ?_
          refine wpAnyL_pureD (i := 0) 44 (.pointer (some ⟨V.heap.size, 1, none⟩)) rfl rfl (by kernel_rfl) (by kernel_rfl) (by kernel_rfl) (fun _ _ _ h => h) (Or.inl ⟨by rfl, fun u _ => ?_⟩) ?_
          · go_simp <;> first | rfl | decide | kernel_rfl
          try simp only [Act.put, List.setIfInBounds_toArray, List.set_cons_zero, List.set_cons_succ]
          refine wpAnyL_takeD (i := 1) 45 (.int .u64 0) rfl rfl (by kernel_rfl) (by kernel_rfl) (by kernel_rfl) (by kernel_rfl) (by kernel_rfl) (fun _ _ _ h => h) hj0 (Or.inl ⟨by rfl, fun u hu => ?_⟩) ?_
          · have t0 := HF.out u hu
            go_simp
          try simp only [Act.put, List.setIfInBounds_toArray, List.set_cons_zero, List.set_cons_succ]
          refine wpAnyL_pureD (i := 2) 46 (.int .i64 1) rfl rfl (by kernel_rfl) (by kernel_rfl) (by kernel_rfl) (fun _ _ _ h => h) (Or.inl ⟨by rfl, fun u _ => ?_⟩) ?_
          · go_simp <;> first | rfl | decide | kernel_rfl
          try simp only [Act.put, List.setIfInBounds_toArray, List.set_cons_zero, List.set_cons_succ]
          refine wpAnyL_pureD (i := 3) 47 (.int .u64 1) rfl rfl (by kernel_rfl) (by kernel_rfl) (by kernel_rfl) (fun _ _ _ h => h) (Or.inl ⟨by rfl, fun u _ => ?_⟩) ?_
          · go_simp <;> first | rfl | decide | kernel_rfl
          try simp only [Act.put, List.setIfInBounds_toArray, List.set_cons_zero, List.set_cons_succ]
          refine wpAnyL_pureD (i := 4) 48 (.int .i64 1) rfl rfl (by kernel_rfl) (by kernel_rfl) (by kernel_rfl) (fun _ _ _ h => h) (Or.inl ⟨by rfl, fun u _ => ?_⟩) ?_
          · go_simp <;> first | rfl | decide | kernel_rfl
          try simp only [Act.put, List.setIfInBounds_toArray, List.set_cons_zero, List.set_cons_succ]
          refine wpAnyL_pureD (i := 5) 49 (.int .u64 2) rfl rfl (by kernel_rfl) (by kernel_rfl) (by kernel_rfl) (fun _ _ _ h => h) (Or.inl ⟨by rfl, fun u _ => ?_⟩) ?_
          · go_simp <;> first | rfl | decide | kernel_rfl
          try simp only [Act.put, List.setIfInBounds_toArray, List.set_cons_zero, List.set_cons_succ]
          refine wpAnyL_pureD (i := 6) 50 (.int .u64 2) rfl rfl (by kernel_rfl) (by kernel_rfl) (by kernel_rfl) (fun _ _ _ h => h) (Or.inl ⟨by rfl, fun u _ => ?_⟩) ?_
          · go_simp <;> first | rfl | decide | kernel_rfl
          try simp only [Act.put, List.setIfInBounds_toArray, List.set_cons_zero, List.set_cons_succ]
          refine wpAnyL_pureD (i := 7) 51 (.pointer (some ⟨V.heap.size, 1, none⟩)) rfl rfl (by kernel_rfl) (by kernel_rfl) (by kernel_rfl) (fun _ _ _ h => h) (Or.inl ⟨by rfl, fun u _ => ?_⟩) ?_
          · go_simp <;> first | rfl | decide | kernel_rfl
          try simp only [Act.put, List.setIfInBounds_toArray, List.set_cons_zero, List.set_cons_succ]
          have f1 : A2.drew.cell? ⟨V.heap.size, 1, none⟩ = some (.int .u64 0) := hx2.cell 1
          have f2 : A2.drew.frozen? ⟨V.heap.size, 1, none⟩ = false := Blk.frozen hx2 1
          refine wpAnyL_one (i := 8) (by kernel_rfl) rfl (fun K hK => ?_)
          go_simp
          refine hK.out _ _ (fun h => absurd (by decide) h) ?_
          clear hK K
          try simp only [Act.put, List.setIfInBounds_toArray, List.set_cons_zero, List.set_cons_succ]
          refine wpAnyL_done (by kernel_rfl) ?_ _
          try simp only [Act.put, List.setIfInBounds_toArray, List.set_cons_zero, List.set_cons_succ]
          have hx3 : Blk (A2.drew.setCell ⟨V.heap.size, 1, none⟩ (.int .u64 2)) V.heap.size 136 #[.int .u64 2, .int .u64 2] := Blk.set_ (w := A2.drew) hx2 1 _
          have hb3 : Below V.heap.size V (A2.drew.setCell ⟨V.heap.size, 1, none⟩ (.int .u64 2)) := (hb2.drew).setCell (p := ⟨V.heap.size, 1, none⟩) (Nat.le_refl _) _
          have HX3 := Lib.hid hx3
          have HB3 := Lib.hid hb3
          clear hx2 hb2 f1 f2 hj0 HF hx3 hb3
          go_wp2
          go_roundw
          case rel => exact ⟨2, _, by omega, rfl, rfl, HX3.out, HB3.out⟩
          case measure => simp [intOf]
        · obtain rfl : z = 2 := hz
          obtain ⟨pb, po, hpe, q1, x1, x2⟩ := (HPA.out.keep (HBV.out.trans (hb.mono HBV.out.size))).two 2 (by decide)
          obtain ⟨rfl, rfl⟩ : pb = b0 ∧ po = o0 := by
            injection hpe with h1
            injection h1 with h2 h3
            exact ⟨h2.symm, h3.symm⟩
          have y1 : wr.cell? ⟨pb, po + 4, none⟩ = some (.int .i64 1) := x1
          have y2 : wr.cell? ⟨pb, po + 4 + 1, none⟩ = some (.int .i64 2) := x2
          have y3 : wr.cell? ⟨pb, po + 5, none⟩ = some (.int .i64 2) := x2
          obtain ⟨A, hA⟩ : ∃ A, A = wr.alloc (Obj.cells #[.int .i64 1, .int .i64 2] 85) := ⟨_, rfl⟩
          have hpA : Blk A wr.heap.size 85 #[.int .i64 1, .int .i64 2] := by rw [hA]; exact Blk.new _ _ _
          have hxA : Blk A V.heap.size 136 #[.int .u64 2, .int .u64 2] := by rw [hA]; exact hx.alloc _
          have hbA : Below V.heap.size V A := by rw [hA]; exact hb.alloc hb.size _
          have HF : Hid (∀ u, Below A.heap.size A u → u.cell? ⟨wr.heap.size, 0, none⟩ = some (.int .i64 1) ∧ u.cell? ⟨wr.heap.size, 1, none⟩ = some (.int .i64 2)) := Lib.hid (fun u hu => ⟨(hpA.below hu hpA.lt).cell 0, (hpA.below hu hpA.lt).cell 1⟩)
          have HXA := Lib.hid hxA
          have HBA := Lib.hid hbA
          clear hx hb x1 x2 hpe hpA hxA hbA
          go_wp2_with fail
          rw [← hA]
          clear hA
          have hj0 : Below A.heap.size A A.drew := (Below.refl _ _).drew
          refine wp_region_late (S := fun u => Below A.heap.size A u) (X := []) (by kernel_rfl) ?_
          refine wpAnyL_pureD (i := 0) 25 (.int .i64 3) rfl rfl (by kernel_rfl) (by kernel_rfl) (by kernel_rfl) (fun _ _ _ h => h) (Or.inl ⟨by rfl, fun u _ => ?_⟩) ?_
          · go_simp <;> first | rfl | decide | kernel_rfl
          try simp only [Act.put, List.setIfInBounds_toArray, List.set_cons_zero, List.set_cons_succ]
          refine wpAnyL_pureD (i := 1) 26 (.pointer (some ⟨wr.heap.size, 0, none⟩)) rfl rfl (by kernel_rfl) (by kernel_rfl) (by kernel_rfl) (fun _ _ _ h => h) (Or.inl ⟨by rfl, fun u _ => ?_⟩) ?_
          · go_simp <;> first | rfl | decide | kernel_rfl
          try simp only [Act.put, List.setIfInBounds_toArray, List.set_cons_zero, List.set_cons_succ]
          refine wpAnyL_takeD (i := 2) 27 (.int .i64 1) rfl rfl (by kernel_rfl) (by kernel_rfl) (by kernel_rfl) (by kernel_rfl) (by kernel_rfl) (fun _ _ _ h => h) hj0 (Or.inl ⟨by rfl, fun u hu => ?_⟩) ?_
          · obtain ⟨t0, t1⟩ := HF.out u hu
            go_simp
          try simp only [Act.put, List.setIfInBounds_toArray, List.set_cons_zero, List.set_cons_succ]
          refine wpAnyL_pureD (i := 3) 28 (.int .i64 1) rfl rfl (by kernel_rfl) (by kernel_rfl) (by kernel_rfl) (fun _ _ _ h => h) (Or.inl ⟨by rfl, fun u _ => ?_⟩) ?_
          · go_simp <;> first | rfl | decide | kernel_rfl
          try simp only [Act.put, List.setIfInBounds_toArray, List.set_cons_zero, List.set_cons_succ]
          refine wpAnyL_pureD (i := 4) 29 (.int .i64 1) rfl rfl (by kernel_rfl) (by kernel_rfl) (by kernel_rfl) (fun _ _ _ h => h) (Or.inl ⟨by rfl, fun u _ => ?_⟩) ?_
          · go_simp <;> first | rfl | decide | kernel_rfl
          try simp only [Act.put, List.setIfInBounds_toArray, List.set_cons_zero, List.set_cons_succ]
          refine wpAnyL_pureD (i := 5) 30 (.int .i64 3) rfl rfl (by kernel_rfl) (by kernel_rfl) (by kernel_rfl) (fun _ _ _ h => h) (Or.inl ⟨by rfl, fun u _ => ?_⟩) ?_
          · go_simp <;> first | rfl | decide | kernel_rfl
          try simp only [Act.put, List.setIfInBounds_toArray, List.set_cons_zero, List.set_cons_succ]
          refine wpAnyL_pureD (i := 6) 31 (.pointer (some ⟨wr.heap.size, 1, none⟩)) rfl rfl (by kernel_rfl) (by kernel_rfl) (by kernel_rfl) (fun _ _ _ h => h) (Or.inl ⟨by rfl, fun u _ => ?_⟩) ?_
          · go_simp <;> first | rfl | decide | kernel_rfl
          try simp only [Act.put, List.setIfInBounds_toArray, List.set_cons_zero, List.set_cons_succ]
          refine wpAnyL_takeD (i := 7) 32 (.int .i64 2) rfl rfl (by kernel_rfl) (by kernel_rfl) (by kernel_rfl) (by kernel_rfl) (by kernel_rfl) (fun _ _ _ h => h) hj0 (Or.inl ⟨by rfl, fun u hu => ?_⟩) ?_
          · obtain ⟨t0, t1⟩ := HF.out u hu
            go_simp
          try simp only [Act.put, List.setIfInBounds_toArray, List.set_cons_zero, List.set_cons_succ]
          refine wpAnyL_pureD (i := 8) 33 (.int .i64 0) rfl rfl (by kernel_rfl) (by kernel_rfl) (by kernel_rfl) (fun _ _ _ h => h) (Or.inl ⟨by rfl, fun u _ => ?_⟩) ?_
          · go_simp <;> first | rfl | decide | kernel_rfl
          try simp only [Act.put, List.setIfInBounds_toArray, List.set_cons_zero, List.set_cons_succ]
          refine wpAnyL_pureD (i := 9) 34 (.int .i64 0) rfl rfl (by kernel_rfl) (by kernel_rfl) (by kernel_rfl) (fun _ _ _ h => h) (Or.inl ⟨by rfl, fun u _ => ?_⟩) ?_
          · go_simp <;> first | rfl | decide | kernel_rfl
          try simp only [Act.put, List.setIfInBounds_toArray, List.set_cons_zero, List.set_cons_succ]
          refine wpAnyL_pureD (i := 10) 10 (.int .i64 1) rfl rfl (by kernel_rfl) (by kernel_rfl) (by kernel_rfl) (fun _ _ _ h => h) (Or.inl ⟨by rfl, fun u _ => ?_⟩) ?_
          · go_simp <;> first | rfl | decide | kernel_rfl
          try simp only [Act.put, List.setIfInBounds_toArray, List.set_cons_zero, List.set_cons_succ]
          refine wpAnyL_pureD (i := 11) 11 (.int .i64 0) rfl rfl (by kernel_rfl) (by kernel_rfl) (by kernel_rfl) (fun _ _ _ h => h) (Or.inl ⟨by rfl, fun u _ => ?_⟩) ?_
          · go_simp <;> first | rfl | decide | kernel_rfl
          try simp only [Act.put, List.setIfInBounds_toArray, List.set_cons_zero, List.set_cons_succ]
          refine wpAnyL_done (by kernel_rfl) ?_ _
          try simp only [Act.put, List.setIfInBounds_toArray, List.set_cons_zero, List.set_cons_succ]
          obtain ⟨A1, hA1⟩ : ∃ A1, A1 = A.drew := ⟨_, rfl⟩
          have hx1 : Blk A1 V.heap.size 136 #[.int .u64 2, .int .u64 2] := by rw [hA1]; exact HXA.out
          have hb1 : Below V.heap.size V A1 := by rw [hA1]; exact HBA.out.drew
          rw [← hA1]
          clear hA1 hj0 HF y1 y2 y3
          have HF : Hid (∀ u, Below A1.heap.size A1 u → u.cell? ⟨V.heap.size, 0, none⟩ = some (.int .u64 2)) := Lib.hid (fun u hu => (hx1.below hu hx1.lt).cell 0)
          go_wp2
          have hj0 : Below A1.heap.size A1 A1.drew := (Below.refl _ _).drew
          refine wp_region_late (S := fun u => Below A1.heap.size A1 u) (X := [6]) (by kernel_rfl) ?_
          refine wpAnyL_pureD (i := 0) 38 (.pointer (some ⟨V.heap.size, 0, none⟩)) rfl rfl (by kernel_rfl) (by kernel_rfl) (by kernel_rfl) (fun _ _ _ h => h) (Or.inl ⟨by rfl, fun u _ => ?_⟩) ?_
          · go_simp <;> first | rfl | decide | kernel_rfl
          try simp only [Act.put, List.setIfInBounds_toArray, List.set_cons_zero, List.set_cons_succ]
          refine wpAnyL_takeD (i := 1) 39 (.int .u64 2) rfl rfl (by kernel_rfl) (by kernel_rfl) (by kernel_rfl) (by kernel_rfl) (by kernel_rfl) (fun _ _ _ h => h) hj0 (Or.inl ⟨by rfl, fun u hu => ?_⟩) ?_
          · have t0 := HF.out u hu
            go_simp
          try simp only [Act.put, List.setIfInBounds_toArray, List.set_cons_zero, List.set_cons_succ]
          refine wpAnyL_pureD (i := 2) 40 (.int .i64 2) rfl rfl (by kernel_rfl) (by kernel_rfl) (by kernel_rfl) (fun _ _ _ h => h) (Or.inl ⟨by rfl, fun u _ => ?_⟩) ?_
          · go_simp <;> first | rfl | decide | kernel_rfl
          try simp only [Act.put, List.setIfInBounds_toArray, List.set_cons_zero, List.set_cons_succ]
          refine wpAnyL_pureD (i := 3) 41 (.int .u64 4) rfl rfl (by kernel_rfl) (by kernel_rfl) (by kernel_rfl) (fun _ _ _ h => h) (Or.inl ⟨by rfl, fun u _ => ?_⟩) ?_
          · go_simp <;> first | rfl | decide | kernel_rfl
          try simp only [Act.put, List.setIfInBounds_toArray, List.set_cons_zero, List.set_cons_succ]
          refine wpAnyL_pureD (i := 4) 42 (.int .u64 6) rfl rfl (by kernel_rfl) (by kernel_rfl) (by kernel_rfl) (fun _ _ _ h => h) (Or.inl ⟨by rfl, fun u _ => ?_⟩) ?_
          · go_simp <;> first | rfl | decide | kernel_rfl
          try simp only [Act.put, List.setIfInBounds_toArray, List.set_cons_zero, List.set_cons_succ]
          refine wpAnyL_pureD (i := 5) 43 (.pointer (some ⟨V.heap.size, 0, none⟩)) rfl rfl (by kernel_rfl) (by kernel_rfl) (by kernel_rfl) (fun _ _ _ h => h) (Or.inl ⟨by rfl, fun u _ => ?_⟩) ?_
          · go_simp <;> first | rfl | decide | kernel_rfl
          try simp only [Act.put, List.setIfInBounds_toArray, List.set_cons_zero, List.set_cons_succ]
          have f1 : A1.drew.cell? ⟨V.heap.size, 0, none⟩ = some (.int .u64 2) := hx1.cell 0
          have f2 : A1.drew.frozen? ⟨V.heap.size, 0, none⟩ = false := Blk.frozen hx1 0
          refine wpAnyL_one (i := 6) (by kernel_rfl) rfl (fun K hK => ?_)
          go_simp
          refine hK.out _ _ (fun h => absurd (by decide) h) ?_
          clear hK K
          try simp only [Act.put, List.setIfInBounds_toArray, List.set_cons_zero, List.set_cons_succ]
          refine wpAnyL_done (by kernel_rfl) ?_ _
          try simp only [Act.put, List.setIfInBounds_toArray, List.set_cons_zero, List.set_cons_succ]
          obtain ⟨A2, hA2⟩ : ∃ A2, A2 = (A1.setCell ⟨V.heap.size, 0, none⟩ (.int .u64 6)).drew := ⟨_, rfl⟩
          have hx2 : Blk A2 V.heap.size 136 #[.int .u64 6, .int .u64 2] := by rw [hA2]; exact Blk.set_ (w := A1.drew) hx1 0 _
          have hb2 : Below V.heap.size V A2 := by rw [hA2]; exact (hb1.drew).setCell (p := ⟨V.heap.size, 0, none⟩) (Nat.le_refl _) _
          rw [← hA2]
          clear hA2 hj0 HF f1 f2 hx1 hb1
          have HF : Hid (∀ u, Below A2.heap.size A2 u → u.cell? ⟨V.heap.size, 1, none⟩ = some (.int .u64 2)) := Lib.hid (fun u hu => (hx2.below hu hx2.lt).cell 1)
          go_wp2
          have hj0 : Below A2.heap.size A2 A2.drew := (Below.refl _ _).drew
          refine wp_region_late (S := fun u => Below A2.heap.size A2 u) (X := [8]) (by kernel_rfl) ?_
          refine wpAnyL_pureD (i := 0) 44 (.pointer (some ⟨V.heap.size, 1, none⟩)) rfl rfl (by kernel_rfl) (by kernel_rfl) (by kernel_rfl) (fun _ _ _ h => h) (Or.inl ⟨by rfl, fun u _ => ?_⟩) ?_
          · go_simp <;> first | rfl | decide | kernel_rfl
          try simp only [Act.put, List.setIfInBounds_toArray, List.set_cons_zero, List.set_cons_succ]
          refine wpAnyL_takeD (i := 1) 45 (.int .u64 2) rfl rfl (by kernel_rfl) (by kernel_rfl) (by kernel_rfl) (by kernel_rfl) (by kernel_rfl) (fun _ _ _ h => h) hj0 (Or.inl ⟨by rfl, fun u hu => ?_⟩) ?_
          · have t0 := HF.out u hu
            go_simp
          try simp only [Act.put, List.setIfInBounds_toArray, List.set_cons_zero, List.set_cons_succ]
          refine wpAnyL_pureD (i := 2) 46 (.int .i64 1) rfl rfl (by kernel_rfl) (by kernel_rfl) (by kernel_rfl) (fun _ _ _ h => h) (Or.inl ⟨by rfl, fun u _ => ?_⟩) ?_
          · go_simp <;> first | rfl | decide | kernel_rfl
          try simp only [Act.put, List.setIfInBounds_toArray, List.set_cons_zero, List.set_cons_succ]
          refine wpAnyL_pureD (i := 3) 47 (.int .u64 1) rfl rfl (by kernel_rfl) (by kernel_rfl) (by kernel_rfl) (fun _ _ _ h => h) (Or.inl ⟨by rfl, fun u _ => ?_⟩) ?_
          · go_simp <;> first | rfl | decide | kernel_rfl
          try simp only [Act.put, List.setIfInBounds_toArray, List.set_cons_zero, List.set_cons_succ]
          refine wpAnyL_pureD (i := 4) 48 (.int .i64 2) rfl rfl (by kernel_rfl) (by kernel_rfl) (by kernel_rfl) (fun _ _ _ h => h) (Or.inl ⟨by rfl, fun u _ => ?_⟩) ?_
          · go_simp <;> first | rfl | decide | kernel_rfl
          try simp only [Act.put, List.setIfInBounds_toArray, List.set_cons_zero, List.set_cons_succ]
          refine wpAnyL_pureD (i := 5) 49 (.int .u64 4) rfl rfl (by kernel_rfl) (by kernel_rfl) (by kernel_rfl) (fun _ _ _ h => h) (Or.inl ⟨by rfl, fun u _ => ?_⟩) ?_
          · go_simp <;> first | rfl | decide | kernel_rfl
          try simp only [Act.put, List.setIfInBounds_toArray, List.set_cons_zero, List.set_cons_succ]
          refine wpAnyL_pureD (i := 6) 50 (.int .u64 6) rfl rfl (by kernel_rfl) (by kernel_rfl) (by kernel_rfl) (fun _ _ _ h => h) (Or.inl ⟨by rfl, fun u _ => ?_⟩) ?_
          · go_simp <;> first | rfl | decide | kernel_rfl
          try simp only [Act.put, List.setIfInBounds_toArray, List.set_cons_zero, List.set_cons_succ]
          refine wpAnyL_pureD (i := 7) 51 (.pointer (some ⟨V.heap.size, 1, none⟩)) rfl rfl (by kernel_rfl) (by kernel_rfl) (by kernel_rfl) (fun _ _ _ h => h) (Or.inl ⟨by rfl, fun u _ => ?_⟩) ?_
          · go_simp <;> first | rfl | decide | kernel_rfl
          try simp only [Act.put, List.setIfInBounds_toArray, List.set_cons_zero, List.set_cons_succ]
          have f1 : A2.drew.cell? ⟨V.heap.size, 1, none⟩ = some (.int .u64 2) := hx2.cell 1
          have f2 : A2.drew.frozen? ⟨V.heap.size, 1, none⟩ = false := Blk.frozen hx2 1
          refine wpAnyL_one (i := 8) (by kernel_rfl) rfl (fun K hK => ?_)
          go_simp
          refine hK.out _ _ (fun h => absurd (by decide) h) ?_
          clear hK K
          try simp only [Act.put, List.setIfInBounds_toArray, List.set_cons_zero, List.set_cons_succ]
          refine wpAnyL_done (by kernel_rfl) ?_ _
          try simp only [Act.put, List.setIfInBounds_toArray, List.set_cons_zero, List.set_cons_succ]
          have hx3 : Blk (A2.drew.setCell ⟨V.heap.size, 1, none⟩ (.int .u64 6)) V.heap.size 136 #[.int .u64 6, .int .u64 6] := Blk.set_ (w := A2.drew) hx2 1 _
          have hb3 : Below V.heap.size V (A2.drew.setCell ⟨V.heap.size, 1, none⟩ (.int .u64 6)) := (hb2.drew).setCell (p := ⟨V.heap.size, 1, none⟩) (Nat.le_refl _) _
          have HX3 := Lib.hid hx3
          have HB3 := Lib.hid hb3
          clear hx2 hb2 f1 f2 hj0 HF hx3 hb3
          go_wp2
          go_roundw
          case rel => exact ⟨3, _, by omega, rfl, rfl, HX3.out, HB3.out⟩
          case measure => simp [intOf]
        · obtain rfl : z = 3 := hz
          have f1 : wr.cell? ⟨V.heap.size, 0, none⟩ = some (.int .u64 6) := hx.cell 0
          have f2 : wr.cell? ⟨V.heap.size, 1, none⟩ = some (.int .u64 6) := hx.cell 1
          have HBE := Lib.hid hb
          have hzz := hb.size
          clear hx hb
          go_wp2_with (at_builtin; refine wpList_append_own _ rfl _ _ 115 rfl w.heap.size 136 i0 (.agg #[.int .u64 0, .int .u64 0]) 2 16 Try.underlying115 hi0 hz0 hz1 hz2 rfl (by decide) _ _ _ rfl ((own_keep HOW.out HBE.out).alloc _) ⟨wr.heap.size, 0, none⟩ 1 1 [.int .u64 6, .int .u64 6] rfl rfl (lit_row _ _ _) (by simp [Value.oneCell']) (by unfold maxLen; omega) (by omega) (by rw [World.size_alloc]; have := HBV.out.size; omega) ?_; intro v1 w3 hown1 hgrow1 hnil; clear hnil; have HO3 : Hid (w3.ownsRow w.heap.size 136 2 v1 2 (flat encT (cutT 2))) := Lib.hid hown1; have HB3 : Hid (Below w.heap.size w w3) := Lib.hid (below_push (w := w) (HBV.out.trans (HBE.out.mono HBV.out.size)) (fun k hk => (HOW.out.lt k hk).1) hgrow1); clear hown1 hgrow1)
          go_roundw
          case rel => exact ⟨2, _, by omega, rfl, by omega, HO3.out, HB3.out⟩
          case measure => simp [intOf]
    · have hx0 : z = 5 := by omega
      subst hx0
      clear hx
      have HOW : Hid (V.ownsRow w.heap.size 136 2 _ 2 (flat encT (cutT 2))) := Lib.hid hown
      obtain ⟨V1, hV1⟩ : ∃ V1, V1 = V.alloc (Obj.cells #[.int .u64 0, .int .u64 0] 136) := ⟨_, rfl⟩
      have hx1 : Blk V1 V.heap.size 136 #[.int .u64 (cE2 0), .int .u64 (cY2 0)] := by rw [hV1]; exact Blk.new _ _ _
      have hb1 : Below V.heap.size V V1 := by rw [hV1]; exact (Below.refl _ _).alloc (Nat.le_refl _) _
      have HX1 := Lib.hid hx1
      have HB1 := Lib.hid hb1
      clear hx1 hb1 hown hbV
      go_wp2
      rw [← hV1]
      clear hV1
      go_loopw [20] (fun x wr => ∃ k : Nat, ∃ z : Int, k ≤ 3 ∧ x = .int .i64 z ∧ z = k ∧ Blk wr V.heap.size 136 #[.int .u64 (cE2 k), .int .u64 (cY2 k)] ∧ Below V.heap.size V wr) (fun x _ => 3 - (intOf x).toNat)
      case atStart => exact ⟨0, 0, by omega, rfl, rfl, HX1.out, HB1.out⟩
      case round =>
        obtain ⟨k, z, hk, rfl, hz, hx, hb⟩ := hrel
        rcases (show k = 0 ∨ k = 1 ∨ k = 2 ∨ k = 3 by omega) with rfl | rfl | rfl | rfl
        · obtain rfl : z = 0 := hz
          obtain ⟨pb, po, hpe, q1, x1, x2⟩ := (HPA.out.keep (HBV.out.trans (hb.mono HBV.out.size))).two 0 (by decide)
          obtain ⟨rfl, rfl⟩ : pb = b0 ∧ po = o0 := by
            injection hpe with h1
            injection h1 with h2 h3
            exact ⟨h2.symm, h3.symm⟩
          have y1 : wr.cell? ⟨pb, po, none⟩ = some (.int .i64 0) := x1
          have y2 : wr.cell? ⟨pb, po + 0 + 1, none⟩ = some (.int .i64 1) := x2
          have y3 : wr.cell? ⟨pb, po + 1, none⟩ = some (.int .i64 1) := x2
          obtain ⟨A, hA⟩ : ∃ A, A = wr.alloc (Obj.cells #[.int .i64 0, .int .i64 1] 85) := ⟨_, rfl⟩
          have hpA : Blk A wr.heap.size 85 #[.int .i64 0, .int .i64 1] := by rw [hA]; exact Blk.new _ _ _
          have hxA : Blk A V.heap.size 136 #[.int .u64 0, .int .u64 0] := by rw [hA]; exact hx.alloc _
          have hbA : Below V.heap.size V A := by rw [hA]; exact hb.alloc hb.size _
          have HF : Hid (∀ u, Below A.heap.size A u → u.cell? ⟨wr.heap.size, 0, none⟩ = some (.int .i64 0) ∧ u.cell? ⟨wr.heap.size, 1, none⟩ = some (.int .i64 1)) := Lib.hid (fun u hu => ⟨(hpA.below hu hpA.lt).cell 0, (hpA.below hu hpA.lt).cell 1⟩)
          have HXA := Lib.hid hxA
          have HBA := Lib.hid hbA
          clear hx hb x1 x2 hpe hpA hxA hbA
          go_wp2_with fail
          rw [← hA]
          clear hA
          have hj0 : Below A.heap.size A A.drew := (Below.refl _ _).drew
          refine wp_region_late (S := fun u => Below A.heap.size A u) (X := []) (by kernel_rfl) ?_
          refine wpAnyL_pureD (i := 0) 25 (.int .i64 5) rfl rfl (by kernel_rfl) (by kernel_rfl) (by kernel_rfl) (fun _ _ _ h => h) (Or.inl ⟨by rfl, fun u _ => ?_⟩) ?_
          · go_simp <;> first | rfl | decide | kernel_rfl
          try simp only [Act.put, List.setIfInBounds_toArray, List.set_cons_zero, List.set_cons_succ]
          refine wpAnyL_pureD (i := 1) 26 (.pointer (some ⟨wr.heap.size, 0, none⟩)) rfl rfl (by kernel_rfl) (by kernel_rfl) (by kernel_rfl) (fun _ _ _ h => h) (Or.inl ⟨by rfl, fun u _ => ?_⟩) ?_
          · go_simp <;> first | rfl | decide | kernel_rfl
          try simp only [Act.put, List.setIfInBounds_toArray, List.set_cons_zero, List.set_cons_succ]
          refine wpAnyL_takeD (i := 2) 27 (.int .i64 0) rfl rfl (by kernel_rfl) (by kernel_rfl) (by kernel_rfl) (by kernel_rfl) (by kernel_rfl) (fun _ _ _ h => h) hj0 (Or.inl ⟨by rfl, fun u hu => ?_⟩) ?_
          · obtain ⟨t0, t1⟩ := HF.out u hu
            go_simp
          try simp only [Act.put, List.setIfInBounds_toArray, List.set_cons_zero, List.set_cons_succ]
          refine wpAnyL_pureD (i := 3) 28 (.int .i64 5) rfl rfl (by kernel_rfl) (by kernel_rfl) (by kernel_rfl) (fun _ _ _ h => h) (Or.inl ⟨by rfl, fun u _ => ?_⟩) ?_
          · go_simp <;> first | rfl | decide | kernel_rfl
          try simp only [Act.put, List.setIfInBounds_toArray, List.set_cons_zero, List.set_cons_succ]
          refine wpAnyL_pureD (i := 4) 29 (.int .i64 1) rfl rfl (by kernel_rfl) (by kernel_rfl) (by kernel_rfl) (fun _ _ _ h => h) (Or.inl ⟨by rfl, fun u _ => ?_⟩) ?_
          · go_simp <;> first | rfl | decide | kernel_rfl
          try simp only [Act.put, List.setIfInBounds_toArray, List.set_cons_zero, List.set_cons_succ]
          refine wpAnyL_pureD (i := 5) 30 (.int .i64 5) rfl rfl (by kernel_rfl) (by kernel_rfl) (by kernel_rfl) (fun _ _ _ h => h) (Or.inl ⟨by rfl, fun u _ => ?_⟩) ?_
          · go_simp <;> first | rfl | decide | kernel_rfl
          try simp only [Act.put, List.setIfInBounds_toArray, List.set_cons_zero, List.set_cons_succ]
          refine wpAnyL_pureD (i := 6) 31 (.pointer (some ⟨wr.heap.size, 1, none⟩)) rfl rfl (by kernel_rfl) (by kernel_rfl) (by kernel_rfl) (fun _ _ _ h => h) (Or.inl ⟨by rfl, fun u _ => ?_⟩) ?_
          · go_simp <;> first | rfl | decide | kernel_rfl
          try simp only [Act.put, List.setIfInBounds_toArray, List.set_cons_zero, List.set_cons_succ]
          refine wpAnyL_takeD (i := 7) 32 (.int .i64 1) rfl rfl (by kernel_rfl) (by kernel_rfl) (by kernel_rfl) (by kernel_rfl) (by kernel_rfl) (fun _ _ _ h => h) hj0 (Or.inl ⟨by rfl, fun u hu => ?_⟩) ?_
          · obtain ⟨t0, t1⟩ := HF.out u hu
            go_simp
          try simp only [Act.put, List.setIfInBounds_toArray, List.set_cons_zero, List.set_cons_succ]
          refine wpAnyL_pureD (i := 8) 33 (.int .i64 2) rfl rfl (by kernel_rfl) (by kernel_rfl) (by kernel_rfl) (fun _ _ _ h => h) (Or.inl ⟨by rfl, fun u _ => ?_⟩) ?_
          · go_simp <;> first | rfl | decide | kernel_rfl
          try simp only [Act.put, List.setIfInBounds_toArray, List.set_cons_zero, List.set_cons_succ]
          refine wpAnyL_pureD (i := 9) 34 (.int .i64 0) rfl rfl (by kernel_rfl) (by kernel_rfl) (by kernel_rfl) (fun _ _ _ h => h) (Or.inl ⟨by rfl, fun u _ => ?_⟩) ?_
          · go_simp <;> first | rfl | decide | kernel_rfl
          try simp only [Act.put, List.setIfInBounds_toArray, List.set_cons_zero, List.set_cons_succ]
          refine wpAnyL_pureD (i := 10) 10 (.int .i64 1) rfl rfl (by kernel_rfl) (by kernel_rfl) (by kernel_rfl) (fun _ _ _ h => h) (Or.inl ⟨by rfl, fun u _ => ?_⟩) ?_
          · go_simp <;> first | rfl | decide | kernel_rfl
          try simp only [Act.put, List.setIfInBounds_toArray, List.set_cons_zero, List.set_cons_succ]
          refine wpAnyL_pureD (i := 11) 11 (.int .i64 0) rfl rfl (by kernel_rfl) (by kernel_rfl) (by kernel_rfl) (fun _ _ _ h => h) (Or.inl ⟨by rfl, fun u _ => ?_⟩) ?_
          · go_simp <;> first | rfl | decide | kernel_rfl
          try simp only [Act.put, List.setIfInBounds_toArray, List.set_cons_zero, List.set_cons_succ]
          refine wpAnyL_done (by kernel_rfl) ?_ _
          try simp only [Act.put, List.setIfInBounds_toArray, List.set_cons_zero, List.set_cons_succ]
          obtain ⟨A1, hA1⟩ : ∃ A1, A1 = A.drew := ⟨_, rfl⟩
          have hx1 : Blk A1 V.heap.size 136 #[.int .u64 0, .int .u64 0] := by rw [hA1]; exact HXA.out
          have hb1 : Below V.heap.size V A1 := by rw [hA1]; exact HBA.out.drew
          rw [← hA1]
          clear hA1 hj0 HF y1 y2 y3
          have HF : Hid (∀ u, Below A1.heap.size A1 u → u.cell? ⟨V.heap.size, 0, none⟩ = some (.int .u64 0)) := Lib.hid (fun u hu => (hx1.below hu hx1.lt).cell 0)
          go_wp2
          have hj0 : Below A1.heap.size A1 A1.drew := (Below.refl _ _).drew
          refine wp_region_late (S := fun u => Below A1.heap.size A1 u) (X := [6]) (by kernel_rfl) ?_
          refine wpAnyL_pureD (i := 0) 38 (.pointer (some ⟨V.heap.size, 0, none⟩)) rfl rfl (by kernel_rfl) (by kernel_rfl) (by kernel_rfl) (fun _ _ _ h => h) (Or.inl ⟨by rfl, fun u _ => ?_⟩) ?_
          · go_simp <;> first | rfl | decide | kernel_rfl
          try simp only [Act.put, List.setIfInBounds_toArray, List.set_cons_zero, List.set_cons_succ]
          refine wpAnyL_takeD (i := 1) 39 (.int .u64 0) rfl rfl (by kernel_rfl) (by kernel_rfl) (by kernel_rfl) (by kernel_rfl) (by kernel_rfl) (fun _ _ _ h => h) hj0 (Or.inl ⟨by rfl, fun u hu => ?_⟩) ?_
          · have t0 := HF.out u hu
            go_simp
          try simp only [Act.put, List.setIfInBounds_toArray, List.set_cons_zero, List.set_cons_succ]
          refine wpAnyL_pureD (i := 2) 40 (.int .i64 0) rfl rfl (by kernel_rfl) (by kernel_rfl) (by kernel_rfl) (fun _ _ _ h => h) (Or.inl ⟨by rfl, fun u _ => ?_⟩) ?_
          · go_simp <;> first | rfl | decide | kernel_rfl
          try simp only [Act.put, List.setIfInBounds_toArray, List.set_cons_zero, List.set_cons_succ]
          refine wpAnyL_pureD (i := 3) 41 (.int .u64 1) rfl rfl (by kernel_rfl) (by kernel_rfl) (by kernel_rfl) (fun _ _ _ h => h) (Or.inl ⟨by rfl, fun u _ => ?_⟩) ?_
          · go_simp <;> first | rfl | decide | kernel_rfl
          try simp only [Act.put, List.setIfInBounds_toArray, List.set_cons_zero, List.set_cons_succ]
          refine wpAnyL_pureD (i := 4) 42 (.int .u64 1) rfl rfl (by kernel_rfl) (by kernel_rfl) (by kernel_rfl) (fun _ _ _ h => h) (Or.inl ⟨by rfl, fun u _ => ?_⟩) ?_
          · go_simp <;> first | rfl | decide | kernel_rfl
          try simp only [Act.put, List.setIfInBounds_toArray, List.set_cons_zero, List.set_cons_succ]
          refine wpAnyL_pureD (i := 5) 43 (.pointer (some ⟨V.heap.size, 0, none⟩)) rfl rfl (by kernel_rfl) (by kernel_rfl) (by kernel_rfl) (fun _ _ _ h => h) (Or.inl ⟨by rfl, fun u _ => ?_⟩) ?_
          · go_simp <;> first | rfl | decide | kernel_rfl
          try simp only [Act.put, List.setIfInBounds_toArray, List.set_cons_zero, List.set_cons_succ]
          have f1 : A1.drew.cell? ⟨V.heap.size, 0, none⟩ = some (.int .u64 0) := hx1.cell 0
          have f2 : A1.drew.frozen? ⟨V.heap.size, 0, none⟩ = false := Blk.frozen hx1 0
          refine wpAnyL_one (i := 6) (by kernel_rfl) rfl (fun K hK => ?_)
          go_simp
          refine hK.out _ _ (fun h => absurd (by decide) h) ?_
          clear hK K
          try simp only [Act.put, List.setIfInBounds_toArray, List.set_cons_zero, List.set_cons_succ]
          refine wpAnyL_done (by kernel_rfl) ?_ _
          try simp only [Act.put, List.setIfInBounds_toArray, List.set_cons_zero, List.set_cons_succ]
          obtain ⟨A2, hA2⟩ : ∃ A2, A2 = (A1.setCell ⟨V.heap.size, 0, none⟩ (.int .u64 1)).drew := ⟨_, rfl⟩
          have hx2 : Blk A2 V.heap.size 136 #[.int .u64 1, .int .u64 0] := by rw [hA2]; exact Blk.set_ (w := A1.drew) hx1 0 _
          have hb2 : Below V.heap.size V A2 := by rw [hA2]; exact (hb1.drew).setCell (p := ⟨V.heap.size, 0, none⟩) (Nat.le_refl _) _
          rw [← hA2]
          clear hA2 hj0 HF f1 f2 hx1 hb1
          have HF : Hid (∀ u, Below A2.heap.size A2 u → u.cell? ⟨V.heap.size, 1, none⟩ = some (.int .u64 0)) := Lib.hid (fun u hu => (hx2.below hu hx2.lt).cell 1)
          go_wp2
          have hj0 : Below A2.heap.size A2 A2.drew := (Below.refl _ _).drew
          refine wp_region_late (S := fun u => Below A2.heap.size A2 u) (X := [8]) (by kernel_rfl) ?_
          refine wpAnyL_pureD (i := 0) 44 (.pointer (some ⟨V.heap.size, 1, none⟩)) rfl rfl (by kernel_rfl) (by kernel_rfl) (by kernel_rfl) (fun _ _ _ h => h) (Or.inl ⟨by rfl, fun u _ => ?_⟩) ?_
          · go_simp <;> first | rfl | decide | kernel_rfl
          try simp only [Act.put, List.setIfInBounds_toArray, List.set_cons_zero, List.set_cons_succ]
          refine wpAnyL_takeD (i := 1) 45 (.int .u64 0) rfl rfl (by kernel_rfl) (by kernel_rfl) (by kernel_rfl) (by kernel_rfl) (by kernel_rfl) (fun _ _ _ h => h) hj0 (Or.inl ⟨by rfl, fun u hu => ?_⟩) ?_
          · have t0 := HF.out u hu
            go_simp
          try simp only [Act.put, List.setIfInBounds_toArray, List.set_cons_zero, List.set_cons_succ]
          refine wpAnyL_pureD (i := 2) 46 (.int .i64 1) rfl rfl (by kernel_rfl) (by kernel_rfl) (by kernel_rfl) (fun _ _ _ h => h) (Or.inl ⟨by rfl, fun u _ => ?_⟩) ?_
          · go_simp <;> first | rfl | decide | kernel_rfl
          try simp only [Act.put, List.setIfInBounds_toArray, List.set_cons_zero, List.set_cons_succ]
          refine wpAnyL_pureD (i := 3) 47 (.int .u64 1) rfl rfl (by kernel_rfl) (by kernel_rfl) (by kernel_rfl) (fun _ _ _ h => h) (Or.inl ⟨by rfl, fun u _ => ?_⟩) ?_
          · go_simp <;> first | rfl | decide | kernel_rfl
          try simp only [Act.put, List.setIfInBounds_toArray, List.set_cons_zero, List.set_cons_succ]
          refine wpAnyL_pureD (i := 4) 48 (.int .i64 0) rfl rfl (by kernel_rfl) (by kernel_rfl) (by kernel_rfl) (fun _ _ _ h => h) (Or.inl ⟨by rfl, fun u _ => ?_⟩) ?_
          · go_simp <;> first | rfl | decide | kernel_rfl
          try simp only [Act.put, List.setIfInBounds_toArray, List.set_cons_zero, List.set_cons_succ]
          refine wpAnyL_pureD (i := 5) 49 (.int .u64 1) rfl rfl (by kernel_rfl) (by kernel_rfl) (by kernel_rfl) (fun _ _ _ h => h) (Or.inl ⟨by rfl, fun u _ => ?_⟩) ?_
          · go_simp <;> first | rfl | decide | kernel_rfl
          try simp only [Act.put, List.setIfInBounds_toArray, List.set_cons_zero, List.set_cons_succ]
          refine wpAnyL_pureD (i := 6) 50 (.int .u64 1) rfl rfl (by kernel_rfl) (by kernel_rfl) (by kernel_rfl) (fun _ _ _ h => h) (Or.inl ⟨by rfl, fun u _ => ?_⟩) ?_
          · go_simp <;> first | rfl | decide | kernel_rfl
          try simp only [Act.put, List.setIfInBounds_toArray, List.set_cons_zero, List.set_cons_succ]
          refine wpAnyL_pureD (i := 7) 51 (.pointer (some ⟨V.heap.size, 1, none⟩)) rfl rfl (by kernel_rfl) (by kernel_rfl) (by kernel_rfl) (fun _ _ _ h => h) (Or.inl ⟨by rfl, fun u _ => ?_⟩) ?_
          · go_simp <;> first | rfl | decide | kernel_rfl
          try simp only [Act.put, List.setIfInBounds_toArray, List.set_cons_zero, List.set_cons_succ]
          have f1 : A2.drew.cell? ⟨V.heap.size, 1, none⟩ = some (.int .u64 0) := hx2.cell 1
          have f2 : A2.drew.frozen? ⟨V.heap.size, 1, none⟩ = false := Blk.frozen hx2 1
          refine wpAnyL_one (i := 8) (by kernel_rfl) rfl (fun K hK => ?_)
          go_simp
          refine hK.out _ _ (fun h => absurd (by decide) h) ?_
          clear hK K
          try simp only [Act.put, List.setIfInBounds_toArray, List.set_cons_zero, List.set_cons_succ]
          refine wpAnyL_done (by kernel_rfl) ?_ _
          try simp only [Act.put, List.setIfInBounds_toArray, List.set_cons_zero, List.set_cons_succ]
          have hx3 : Blk (A2.drew.setCell ⟨V.heap.size, 1, none⟩ (.int .u64 1)) V.heap.size 136 #[.int .u64 1, .int .u64 1] := Blk.set_ (w := A2.drew) hx2 1 _
          have hb3 : Below V.heap.size V (A2.drew.setCell ⟨V.heap.size, 1, none⟩ (.int .u64 1)) := (hb2.drew).setCell (p := ⟨V.heap.size, 1, none⟩) (Nat.le_refl _) _
          have HX3 := Lib.hid hx3
          have HB3 := Lib.hid hb3
          clear hx2 hb2 f1 f2 hj0 HF hx3 hb3
          go_wp2
          go_roundw
          case rel => exact ⟨1, _, by omega, rfl, rfl, HX3.out, HB3.out⟩
          case measure => simp [intOf]
        · obtain rfl : z = 1 := hz
          obtain ⟨pb, po, hpe, q1, x1, x2⟩ := (HPA.out.keep (HBV.out.trans (hb.mono HBV.out.size))).two 1 (by decide)
          obtain ⟨rfl, rfl⟩ : pb = b0 ∧ po = o0 := by
            injection hpe with h1
            injection h1 with h2 h3
            exact ⟨h2.symm, h3.symm⟩
          have y1 : wr.cell? ⟨pb, po + 2, none⟩ = some (.int .i64 0) := x1
          have y2 : wr.cell? ⟨pb, po + 2 + 1, none⟩ = some (.int .i64 2) := x2
          have y3 : wr.cell? ⟨pb, po + 3, none⟩ = some (.int .i64 2) := x2
          obtain ⟨A, hA⟩ : ∃ A, A = wr.alloc (Obj.cells #[.int .i64 0, .int .i64 2] 85) := ⟨_, rfl⟩
          have hpA : Blk A wr.heap.size 85 #[.int .i64 0, .int .i64 2] := by rw [hA]; exact Blk.new _ _ _
          have hxA : Blk A V.heap.size 136 #[.int .u64 1, .int .u64 1] := by rw [hA]; exact hx.alloc _
          have hbA : Below V.heap.size V A := by rw [hA]; exact hb.alloc hb.size _
          have HF : Hid (∀ u, Below A.heap.size A u → u.cell? ⟨wr.heap.size, 0, none⟩ = some (.int .i64 0) ∧ u.cell? ⟨wr.heap.size, 1, none⟩ = some (.int .i64 2)) := Lib.hid (fun u hu => ⟨(hpA.below hu hpA.lt).cell 0, (hpA.below hu hpA.lt).cell 1⟩)
          have HXA := Lib.hid hxA
          have HBA := Lib.hid hbA
          clear hx hb x1 x2 hpe hpA hxA hbA
          go_wp2_with fail
          rw [← hA]
          clear hA
          have hj0 : Below A.heap.size A A.drew := (Below.refl _ _).drew
          refine wp_region_late (S := fun u => Below A.heap.size A u) (X := []) (by kernel_rfl) ?_
          refine wpAnyL_pureD (i := 0) 25 (.int .i64 5) rfl rfl (by kernel_rfl) (by kernel_rfl) (by kernel_rfl) (fun _ _ _ h => h) (Or.inl ⟨by rfl, fun u _ => ?_⟩) ?_
          · go_simp <;> first | rfl | decide | kernel_rfl
          try simp only [Act.put, List.setIfInBounds_toArray, List.set_cons_zero, List.set_cons_succ]
          refine wpAnyL_pureD (i := 1) 26 (.pointer (some ⟨wr.heap.size, 0, none⟩)) rfl rfl (by kernel_rfl) (by kernel_rfl) (by kernel_rfl) (fun _ _ _ h => h) (Or.inl ⟨by rfl, fun u _ => ?_⟩) ?_
          · go_simp <;> first | rfl | decide | kernel_rfl
          try simp only [Act.put, List.setIfInBounds_toArray, List.set_cons_zero, List.set_cons_succ]
          refine wpAnyL_takeD (i := 2) 27 (.int .i64 0) rfl rfl (by kernel_rfl) (by kernel_rfl) (by kernel_rfl) (by kernel_rfl) (by kernel_rfl) (fun _ _ _ h => h) hj0 (Or.inl ⟨by rfl, fun u hu => ?_⟩) ?_
          · obtain ⟨t0, t1⟩ := HF.out u hu
            go_simp
          try simp only [Act.put, List.setIfInBounds_toArray, List.set_cons_zero, List.set_cons_succ]
          refine wpAnyL_pureD (i := 3) 28 (.int .i64 5) rfl rfl (by kernel_rfl) (by kernel_rfl) (by kernel_rfl) (fun _ _ _ h => h) (Or.inl ⟨by rfl, fun u _ => ?_⟩) ?_
          · go_simp <;> first | rfl | decide | kernel_rfl
          try simp only [Act.put, List.setIfInBounds_toArray, List.set_cons_zero, List.set_cons_succ]
          refine wpAnyL_pureD (i := 4) 29 (.int .i64 1) rfl rfl (by kernel_rfl) (by kernel_rfl) (by kernel_rfl) (fun _ _ _ h => h) (Or.inl ⟨by rfl, fun u _ => ?_⟩) ?_
          · go_simp <;> first | rfl | decide | kernel_rfl
          try simp only [Act.put, List.setIfInBounds_toArray, List.set_cons_zero, List.set_cons_succ]
          refine wpAnyL_pureD (i := 5) 30 (.int .i64 5) rfl rfl (by kernel_rfl) (by kernel_rfl) (by kernel_rfl) (fun _ _ _ h => h) (Or.inl ⟨by rfl, fun u _ => ?_⟩) ?_
          · go_simp <;> first | rfl | decide | kernel_rfl
          try simp only [Act.put, List.setIfInBounds_toArray, List.set_cons_zero, List.set_cons_succ]
          refine wpAnyL_pureD (i := 6) 31 (.pointer (some ⟨wr.heap.size, 1, none⟩)) rfl rfl (by kernel_rfl) (by kernel_rfl) (by kernel_rfl) (fun _ _ _ h => h) (Or.inl ⟨by rfl, fun u _ => ?_⟩) ?_
          · go_simp <;> first | rfl | decide | kernel_rfl
          try simp only [Act.put, List.setIfInBounds_toArray, List.set_cons_zero, List.set_cons_succ]
          refine wpAnyL_takeD (i := 7) 32 (.int .i64 2) rfl rfl (by kernel_rfl) (by kernel_rfl) (by kernel_rfl) (by kernel_rfl) (by kernel_rfl) (fun _ _ _ h => h) hj0 (Or.inl ⟨by rfl, fun u hu => ?_⟩) ?_
          · obtain ⟨t0, t1⟩ := HF.out u hu
            go_simp
          try simp only [Act.put, List.setIfInBounds_toArray, List.set_cons_zero, List.set_cons_succ]
          refine wpAnyL_pureD (i := 8) 33 (.int .i64 1) rfl rfl (by kernel_rfl) (by kernel_rfl) (by kernel_rfl) (fun _ _ _ h => h) (Or.inl ⟨by rfl, fun u _ => ?_⟩) ?_
          · go_simp <;> first | rfl | decide | kernel_rfl
          try simp only [Act.put, List.setIfInBounds_toArray, List.set_cons_zero, List.set_cons_succ]
          refine wpAnyL_pureD (i := 9) 34 (.int .i64 1) rfl rfl (by kernel_rfl) (by kernel_rfl) (by kernel_rfl) (fun _ _ _ h => h) (Or.inl ⟨by rfl, fun u _ => ?_⟩) ?_
          · go_simp <;> first | rfl | decide | kernel_rfl
          try simp only [Act.put, List.setIfInBounds_toArray, List.set_cons_zero, List.set_cons_succ]
          refine wpAnyL_pureD (i := 10) 10 (.int .i64 1) rfl rfl (by kernel_rfl) (by kernel_rfl) (by kernel_rfl) (fun _ _ _ h => h) (Or.inl ⟨by rfl, fun u _ => ?_⟩) ?_
          · go_simp <;> first | rfl | decide | kernel_rfl
          try simp only [Act.put, List.setIfInBounds_toArray, List.set_cons_zero, List.set_cons_succ]
          refine wpAnyL_pureD (i := 11) 11 (.int .i64 1) rfl rfl (by kernel_rfl) (by kernel_rfl) (by kernel_rfl) (fun _ _ _ h => h) (Or.inl ⟨by rfl, fun u _ => ?_⟩) ?_
          · go_simp <;> first | rfl | decide | kernel_rfl
          try simp only [Act.put, List.setIfInBounds_toArray, List.set_cons_zero, List.set_cons_succ]
          refine wpAnyL_done (by kernel_rfl) ?_ _
          try simp only [Act.put, List.setIfInBounds_toArray, List.set_cons_zero, List.set_cons_succ]
          clear hj0 HF y1 y2 y3
          go_wp2
          go_roundw
          case rel => exact ⟨2, _, by omega, rfl, rfl, HXA.out, HBA.out.drew⟩
          case measure => simp [intOf]
        · obtain rfl : z = 2 := hz
          obtain ⟨pb, po, hpe, q1, x1, x2⟩ := (HPA.out.keep (HBV.out.trans (hb.mono HBV.out.size))).two 2 (by decide)
          obtain ⟨rfl, rfl⟩ : pb = b0 ∧ po = o0 := by
            injection hpe with h1
            injection h1 with h2 h3
            exact ⟨h2.symm, h3.symm⟩
          have y1 : wr.cell? ⟨pb, po + 4, none⟩ = some (.int .i64 1) := x1
          have y2 : wr.cell? ⟨pb, po + 4 + 1, none⟩ = some (.int .i64 2) := x2
          have y3 : wr.cell? ⟨pb, po + 5, none⟩ = some (.int .i64 2) := x2
          obtain ⟨A, hA⟩ : ∃ A, A = wr.alloc (Obj.cells #[.int .i64 1, .int .i64 2] 85) := ⟨_, rfl⟩
          have hpA : Blk A wr.heap.size 85 #[.int .i64 1, .int .i64 2] := by rw [hA]; exact Blk.new _ _ _
          have hxA : Blk A V.heap.size 136 #[.int .u64 1, .int .u64 1] := by rw [hA]; exact hx.alloc _
          have hbA : Below V.heap.size V A := by rw [hA]; exact hb.alloc hb.size _
          have HF : Hid (∀ u, Below A.heap.size A u → u.cell? ⟨wr.heap.size, 0, none⟩ = some (.int .i64 1) ∧ u.cell? ⟨wr.heap.size, 1, none⟩ = some (.int .i64 2)) := Lib.hid (fun u hu => ⟨(hpA.below hu hpA.lt).cell 0, (hpA.below hu hpA.lt).cell 1⟩)
          have HXA := Lib.hid hxA
          have HBA := Lib.hid hbA
          clear hx hb x1 x2 hpe hpA hxA hbA
          go_wp2_with fail
          rw [← hA]
          clear hA
          have hj0 : Below A.heap.size A A.drew := (Below.refl _ _).drew
          refine wp_region_late (S := fun u => Below A.heap.size A u) (X := []) (by kernel_rfl) ?_
          refine wpAnyL_pureD (i := 0) 25 (.int .i64 5) rfl rfl (by kernel_rfl) (by kernel_rfl) (by kernel_rfl) (fun _ _ _ h => h) (Or.inl ⟨by rfl, fun u _ => ?_⟩) ?_
          · go_simp <;> first | rfl | decide | kernel_rfl
          try simp only [Act.put, List.setIfInBounds_toArray, List.set_cons_zero, List.set_cons_succ]
          refine wpAnyL_pureD (i := 1) 26 (.pointer (some ⟨wr.heap.size, 0, none⟩)) rfl rfl (by kernel_rfl) (by kernel_rfl) (by kernel_rfl) (fun _ _ _ h => h) (Or.inl ⟨by rfl, fun u _ => ?_⟩) ?_
          · go_simp <;> first | rfl | decide | kernel_rfl
          try simp only [Act.put, List.setIfInBounds_toArray, List.set_cons_zero, List.set_cons_succ]
          refine wpAnyL_takeD (i := 2) 27 (.int .i64 1) rfl rfl (by kernel_rfl) (by kernel_rfl) (by kernel_rfl) (by kernel_rfl) (by kernel_rfl) (fun _ _ _ h => h) hj0 (Or.inl ⟨by rfl, fun u hu => ?_⟩) ?_
          · obtain ⟨t0, t1⟩ := HF.out u hu
            go_simp
          try simp only [Act.put, List.setIfInBounds_toArray, List.set_cons_zero, List.set_cons_succ]
          refine wpAnyL_pureD (i := 3) 28 (.int .i64 2) rfl rfl (by kernel_rfl) (by kernel_rfl) (by kernel_rfl) (fun _ _ _ h => h) (Or.inl ⟨by rfl, fun u _ => ?_⟩) ?_
          · go_simp <;> first | rfl | decide | kernel_rfl
          try simp only [Act.put, List.setIfInBounds_toArray, List.set_cons_zero, List.set_cons_succ]
          refine wpAnyL_pureD (i := 4) 29 (.int .i64 0) rfl rfl (by kernel_rfl) (by kernel_rfl) (by kernel_rfl) (fun _ _ _ h => h) (Or.inl ⟨by rfl, fun u _ => ?_⟩) ?_
          · go_simp <;> first | rfl | decide | kernel_rfl
          try simp only [Act.put, List.setIfInBounds_toArray, List.set_cons_zero, List.set_cons_succ]
          refine wpAnyL_pureD (i := 5) 30 (.int .i64 5) rfl rfl (by kernel_rfl) (by kernel_rfl) (by kernel_rfl) (fun _ _ _ h => h) (Or.inl ⟨by rfl, fun u _ => ?_⟩) ?_
          · go_simp <;> first | rfl | decide | kernel_rfl
          try simp only [Act.put, List.setIfInBounds_toArray, List.set_cons_zero, List.set_cons_succ]
          refine wpAnyL_pureD (i := 6) 31 (.pointer (some ⟨wr.heap.size, 1, none⟩)) rfl rfl (by kernel_rfl) (by kernel_rfl) (by kernel_rfl) (fun _ _ _ h => h) (Or.inl ⟨by rfl, fun u _ => ?_⟩) ?_
          · go_simp <;> first | rfl | decide | kernel_rfl
          try simp only [Act.put, List.setIfInBounds_toArray, List.set_cons_zero, List.set_cons_succ]
          refine wpAnyL_takeD (i := 7) 32 (.int .i64 2) rfl rfl (by kernel_rfl) (by kernel_rfl) (by kernel_rfl) (by kernel_rfl) (by kernel_rfl) (fun _ _ _ h => h) hj0 (Or.inl ⟨by rfl, fun u hu => ?_⟩) ?_
          · obtain ⟨t0, t1⟩ := HF.out u hu
            go_simp
          try simp only [Act.put, List.setIfInBounds_toArray, List.set_cons_zero, List.set_cons_succ]
          refine wpAnyL_pureD (i := 8) 33 (.int .i64 1) rfl rfl (by kernel_rfl) (by kernel_rfl) (by kernel_rfl) (fun _ _ _ h => h) (Or.inl ⟨by rfl, fun u _ => ?_⟩) ?_
          · go_simp <;> first | rfl | decide | kernel_rfl
          try simp only [Act.put, List.setIfInBounds_toArray, List.set_cons_zero, List.set_cons_succ]
          refine wpAnyL_pureD (i := 9) 34 (.int .i64 1) rfl rfl (by kernel_rfl) (by kernel_rfl) (by kernel_rfl) (fun _ _ _ h => h) (Or.inl ⟨by rfl, fun u _ => ?_⟩) ?_
          · go_simp <;> first | rfl | decide | kernel_rfl
          try simp only [Act.put, List.setIfInBounds_toArray, List.set_cons_zero, List.set_cons_succ]
          refine wpAnyL_pureD (i := 10) 10 (.int .i64 0) rfl rfl (by kernel_rfl) (by kernel_rfl) (by kernel_rfl) (fun _ _ _ h => h) (Or.inl ⟨by rfl, fun u _ => ?_⟩) ?_
          · go_simp <;> first | rfl | decide | kernel_rfl
          try simp only [Act.put, List.setIfInBounds_toArray, List.set_cons_zero, List.set_cons_succ]
          refine wpAnyL_pureD (i := 11) 11 (.int .i64 1) rfl rfl (by kernel_rfl) (by kernel_rfl) (by kernel_rfl) (fun _ _ _ h => h) (Or.inl ⟨by rfl, fun u _ => ?_⟩) ?_
          · go_simp <;> first | rfl | decide | kernel_rfl
          try simp only [Act.put, List.setIfInBounds_toArray, List.set_cons_zero, List.set_cons_succ]
          refine wpAnyL_done (by kernel_rfl) ?_ _
          try simp only [Act.put, List.setIfInBounds_toArray, List.set_cons_zero, List.set_cons_succ]
          obtain ⟨A1, hA1⟩ : ∃ A1, A1 = A.drew := ⟨_, rfl⟩
          have hx1 : Blk A1 V.heap.size 136 #[.int .u64 1, .int .u64 1] := by rw [hA1]; exact HXA.out
          have hb1 : Below V.heap.size V A1 := by rw [hA1]; exact HBA.out.drew
          rw [← hA1]
          clear hA1 hj0 HF y1 y2 y3
          have HF : Hid (∀ u, Below A1.heap.size A1 u → u.cell? ⟨V.heap.size, 0, none⟩ = some (.int .u64 1)) := Lib.hid (fun u hu => (hx1.below hu hx1.lt).cell 0)
          go_wp2
          have hj0 : Below A1.heap.size A1 A1.drew := (Below.refl _ _).drew
          refine wp_region_late (S := fun u => Below A1.heap.size A1 u) (X := [6]) (by kernel_rfl) ?_
          refine wpAnyL_pureD (i := 0) 38 (.pointer (some ⟨V.heap.size, 0, none⟩)) rfl rfl (by kernel_rfl) (by kernel_rfl) (by kernel_rfl) (fun _ _ _ h => h) (Or.inl ⟨by rfl, fun u _ => ?_⟩) ?_
          · go_simp <;> first | rfl | decide | kernel_rfl
          try simp only [Act.put, List.setIfInBounds_toArray, List.set_cons_zero, List.set_cons_succ]
          refine wpAnyL_takeD (i := 1) 39 (.int .u64 1) rfl rfl (by kernel_rfl) (by kernel_rfl) (by kernel_rfl) (by kernel_rfl) (by kernel_rfl) (fun _ _ _ h => h) hj0 (Or.inl ⟨by rfl, fun u hu => ?_⟩) ?_
          · have t0 := HF.out u hu
            go_simp
          try simp only [Act.put, List.setIfInBounds_toArray, List.set_cons_zero, List.set_cons_succ]
          refine wpAnyL_pureD (i := 2) 40 (.int .i64 2) rfl rfl (by kernel_rfl) (by kernel_rfl) (by kernel_rfl) (fun _ _ _ h => h) (Or.inl ⟨by rfl, fun u _ => ?_⟩) ?_
          · go_simp <;> first | rfl | decide | kernel_rfl
          try simp only [Act.put, List.setIfInBounds_toArray, List.set_cons_zero, List.set_cons_succ]
          refine wpAnyL_pureD (i := 3) 41 (.int .u64 4) rfl rfl (by kernel_rfl) (by kernel_rfl) (by kernel_rfl) (fun _ _ _ h => h) (Or.inl ⟨by rfl, fun u _ => ?_⟩) ?_
          · go_simp <;> first | rfl | decide | kernel_rfl
          try simp only [Act.put, List.setIfInBounds_toArray, List.set_cons_zero, List.set_cons_succ]
          refine wpAnyL_pureD (i := 4) 42 (.int .u64 5) rfl rfl (by kernel_rfl) (by kernel_rfl) (by kernel_rfl) (fun _ _ _ h => h) (Or.inl ⟨by rfl, fun u _ => ?_⟩) ?_
          · go_simp <;> first | rfl | decide | kernel_rfl
          try simp only [Act.put, List.setIfInBounds_toArray, List.set_cons_zero, List.set_cons_succ]
          refine wpAnyL_pureD (i := 5) 43 (.pointer (some ⟨V.heap.size, 0, none⟩)) rfl rfl (by kernel_rfl) (by kernel_rfl) (by kernel_rfl) (fun _ _ _ h => h) (Or.inl ⟨by rfl, fun u _ => ?_⟩) ?_
          · go_simp <;> first | rfl | decide | kernel_rfl
          try simp only [Act.put, List.setIfInBounds_toArray, List.set_cons_zero, List.set_cons_succ]
          have f1 : A1.drew.cell? ⟨V.heap.size, 0, none⟩ = some (.int .u64 1) := hx1.cell 0
          have f2 : A1.drew.frozen? ⟨V.heap.size, 0, none⟩ = false := Blk.frozen hx1 0
          refine wpAnyL_one (i := 6) (by kernel_rfl) rfl (fun K hK => ?_)
          go_simp
          refine hK.out _ _ (fun h => absurd (by decide) h) ?_
          clear hK K
          try simp only [Act.put, List.setIfInBounds_toArray, List.set_cons_zero, List.set_cons_succ]
          refine wpAnyL_done (by kernel_rfl) ?_ _
          try simp only [Act.put, List.setIfInBounds_toArray, List.set_cons_zero, List.set_cons_succ]
          obtain ⟨A2, hA2⟩ : ∃ A2, A2 = (A1.setCell ⟨V.heap.size, 0, none⟩ (.int .u64 5)).drew := ⟨_, rfl⟩
          have hx2 : Blk A2 V.heap.size 136 #[.int .u64 5, .int .u64 1] := by rw [hA2]; exact Blk.set_ (w := A1.drew) hx1 0 _
          have hb2 : Below V.heap.size V A2 := by rw [hA2]; exact (hb1.drew).setCell (p := ⟨V.heap.size, 0, none⟩) (Nat.le_refl _) _
          rw [← hA2]
          clear hA2 hj0 HF f1 f2 hx1 hb1
          have HF : Hid (∀ u, Below A2.heap.size A2 u → u.cell? ⟨V.heap.size, 1, none⟩ = some (.int .u64 1)) := Lib.hid (fun u hu => (hx2.below hu hx2.lt).cell 1)
          go_wp2
          have hj0 : Below A2.heap.size A2 A2.drew := (Below.refl _ _).drew
          refine wp_region_late (S := fun u => Below A2.heap.size A2 u) (X := [8]) (by kernel_rfl) ?_
          refine wpAnyL_pureD (i := 0) 44 (.pointer (some ⟨V.heap.size, 1, none⟩)) rfl rfl (by kernel_rfl) (by kernel_rfl) (by kernel_rfl) (fun _ _ _ h => h) (Or.inl ⟨by rfl, fun u _ => ?_⟩) ?_
          · go_simp <;> first | rfl | decide | kernel_rfl
          try simp only [Act.put, List.setIfInBounds_toArray, List.set_cons_zero, List.set_cons_succ]
          refine wpAnyL_takeD (i := 1) 45 (.int .u64 1) rfl rfl (by kernel_rfl) (by kernel_rfl) (by kernel_rfl) (by kernel_rfl) (by kernel_rfl) (fun _ _ _ h => h) hj0 (Or.inl ⟨by rfl, fun u hu => ?_⟩) ?_
          · have t0 := HF.out u hu
            go_simp
          try simp only [Act.put, List.setIfInBounds_toArray, List.set_cons_zero, List.set_cons_succ]
          refine wpAnyL_pureD (i := 2) 46 (.int .i64 0) rfl rfl (by kernel_rfl) (by kernel_rfl) (by kernel_rfl) (fun _ _ _ h => h) (Or.inl ⟨by rfl, fun u _ => ?_⟩) ?_
          · go_simp <;> first | rfl | decide | kernel_rfl
          try simp only [Act.put, List.setIfInBounds_toArray, List.set_cons_zero, List.set_cons_succ]
          refine wpAnyL_pureD (i := 3) 47 (.int .u64 0) rfl rfl (by kernel_rfl) (by kernel_rfl) (by kernel_rfl) (fun _ _ _ h => h) (Or.inl ⟨by rfl, fun u _ => ?_⟩) ?_
          · go_simp <;> first | rfl | decide | kernel_rfl
          try simp only [Act.put, List.setIfInBounds_toArray, List.set_cons_zero, List.set_cons_succ]
          refine wpAnyL_pureD (i := 4) 48 (.int .i64 2) rfl rfl (by kernel_rfl) (by kernel_rfl) (by kernel_rfl) (fun _ _ _ h => h) (Or.inl ⟨by rfl, fun u _ => ?_⟩) ?_
          · go_simp <;> first | rfl | decide | kernel_rfl
          try simp only [Act.put, List.setIfInBounds_toArray, List.set_cons_zero, List.set_cons_succ]
          refine wpAnyL_pureD (i := 5) 49 (.int .u64 0) rfl rfl (by kernel_rfl) (by kernel_rfl) (by kernel_rfl) (fun _ _ _ h => h) (Or.inl ⟨by rfl, fun u _ => ?_⟩) ?_
          · go_simp <;> first | rfl | decide | kernel_rfl
          try simp only [Act.put, List.setIfInBounds_toArray, List.set_cons_zero, List.set_cons_succ]
          refine wpAnyL_pureD (i := 6) 50 (.int .u64 1) rfl rfl (by kernel_rfl) (by kernel_rfl) (by kernel_rfl) (fun _ _ _ h => h) (Or.inl ⟨by rfl, fun u _ => ?_⟩) ?_
          · go_simp <;> first | rfl | decide | kernel_rfl
          try simp only [Act.put, List.setIfInBounds_toArray, List.set_cons_zero, List.set_cons_succ]
          refine wpAnyL_pureD (i := 7) 51 (.pointer (some ⟨V.heap.size, 1, none⟩)) rfl rfl (by kernel_rfl) (by kernel_rfl) (by kernel_rfl) (fun _ _ _ h => h) (Or.inl ⟨by rfl, fun u _ => ?_⟩) ?_
          · go_simp <;> first | rfl | decide | kernel_rfl
          try simp only [Act.put, List.setIfInBounds_toArray, List.set_cons_zero, List.set_cons_succ]
          have f1 : A2.drew.cell? ⟨V.heap.size, 1, none⟩ = some (.int .u64 1) := hx2.cell 1
          have f2 : A2.drew.frozen? ⟨V.heap.size, 1, none⟩ = false := Blk.frozen hx2 1
          refine wpAnyL_one (i := 8) (by kernel_rfl) rfl (fun K hK => ?_)
          go_simp
          refine hK.out _ _ (fun h => absurd (by decide) h) ?_
          clear hK K
          try simp only [Act.put, List.setIfInBounds_toArray, List.set_cons_zero, List.set_cons_succ]
          refine wpAnyL_done (by kernel_rfl) ?_ _
          try simp only [Act.put, List.setIfInBounds_toArray, List.set_cons_zero, List.set_cons_succ]
          have hx3 : Blk (A2.drew.setCell ⟨V.heap.size, 1, none⟩ (.int .u64 1)) V.heap.size 136 #[.int .u64 5, .int .u64 1] := Blk.set_ (w := A2.drew) hx2 1 _
          have hb3 : Below V.heap.size V (A2.drew.setCell ⟨V.heap.size, 1, none⟩ (.int .u64 1)) := (hb2.drew).setCell (p := ⟨V.heap.size, 1, none⟩) (Nat.le_refl _) _
          have HX3 := Lib.hid hx3
          have HB3 := Lib.hid hb3
          clear hx2 hb2 f1 f2 hj0 HF hx3 hb3
          go_wp2
          go_roundw
          case rel => exact ⟨3, _, by omega, rfl, rfl, HX3.out, HB3.out⟩
          case measure => simp [intOf]
        · obtain rfl : z = 3 := hz
          have f1 : wr.cell? ⟨V.heap.size, 0, none⟩ = some (.int .u64 5) := hx.cell 0
          have f2 : wr.cell? ⟨V.heap.size, 1, none⟩ = some (.int .u64 1) := hx.cell 1
          have HBE := Lib.hid hb
          have hzz := hb.size
          clear hx hb
          go_wp2_with (at_builtin; refine wpList_append_own _ rfl _ _ 115 rfl w.heap.size 136 i0 (.agg #[.int .u64 0, .int .u64 0]) 2 16 Try.underlying115 hi0 hz0 hz1 hz2 rfl (by decide) _ _ _ rfl ((own_keep HOW.out HBE.out).alloc _) ⟨wr.heap.size, 0, none⟩ 1 1 [.int .u64 5, .int .u64 1] rfl rfl (lit_row _ _ _) (by simp [Value.oneCell']) (by unfold maxLen; omega) (by omega) (by rw [World.size_alloc]; have := HBV.out.size; omega) ?_; intro v1 w3 hown1 hgrow1 hnil; clear hnil; have HO3 : Hid (w3.ownsRow w.heap.size 136 2 v1 3 (flat encT (cutT 3))) := Lib.hid hown1; have HB3 : Hid (Below w.heap.size w w3) := Lib.hid (below_push (w := w) (HBV.out.trans (HBE.out.mono HBV.out.size)) (fun k hk => (HOW.out.lt k hk).1) hgrow1); clear hown1 hgrow1)
          go_roundw
          case rel => exact ⟨3, _, by omega, rfl, by omega, HO3.out, HB3.out⟩
          case measure => simp [intOf]
    · have hx0 : z = 7 := by omega
      subst hx0
      clear hx
      have HOW : Hid (V.ownsRow w.heap.size 136 2 _ 3 (flat encT (cutT 3))) := Lib.hid hown
      obtain ⟨V1, hV1⟩ : ∃ V1, V1 = V.alloc (Obj.cells #[.int .u64 0, .int .u64 0] 136) := ⟨_, rfl⟩
      have hx1 : Blk V1 V.heap.size 136 #[.int .u64 (cE3 0), .int .u64 (cY3 0)] := by rw [hV1]; exact Blk.new _ _ _
      have hb1 : Below V.heap.size V V1 := by rw [hV1]; exact (Below.refl _ _).alloc (Nat.le_refl _) _
      have HX1 := Lib.hid hx1
      have HB1 := Lib.hid hb1
      clear hx1 hb1 hown hbV
      go_wp2
      rw [← hV1]
      clear hV1
      go_loopw [20] (fun x wr => ∃ k : Nat, ∃ z : Int, k ≤ 3 ∧ x = .int .i64 z ∧ z = k ∧ Blk wr V.heap.size 136 #[.int .u64 (cE3 k), .int .u64 (cY3 k)] ∧ Below V.heap.size V wr) (fun x _ => 3 - (intOf x).toNat)
      case atStart => exact ⟨0, 0, by omega, rfl, rfl, HX1.out, HB1.out⟩
      case round =>
        obtain ⟨k, z, hk, rfl, hz, hx, hb⟩ := hrel
        rcases (show k = 0 ∨ k = 1 ∨ k = 2 ∨ k = 3 by omega) with rfl | rfl | rfl | rfl
        · obtain rfl : z = 0 := hz
          obtain ⟨pb, po, hpe, q1, x1, x2⟩ := (HPA.out.keep (HBV.out.trans (hb.mono HBV.out.size))).two 0 (by decide)
          obtain ⟨rfl, rfl⟩ : pb = b0 ∧ po = o0 := by
            injection hpe with h1
            injection h1 with h2 h3
            exact ⟨h2.symm, h3.symm⟩
          have y1 : wr.cell? ⟨pb, po, none⟩ = some (.int .i64 0) := x1
          have y2 : wr.cell? ⟨pb, po + 0 + 1, none⟩ = some (.int .i64 1) := x2
          have y3 : wr.cell? ⟨pb, po + 1, none⟩ = some (.int .i64 1) := x2
          obtain ⟨A, hA⟩ : ∃ A, A = wr.alloc (Obj.cells #[.int .i64 0, .int .i64 1] 85) := ⟨_, rfl⟩
          have hpA : Blk A wr.heap.size 85 #[.int .i64 0, .int .i64 1] := by rw [hA]; exact Blk.new _ _ _
          have hxA : Blk A V.heap.size 136 #[.int .u64 0, .int .u64 0] := by rw [hA]; exact hx.alloc _
          have hbA : Below V.heap.size V A := by rw [hA]; exact hb.alloc hb.size _
          have HF : Hid (∀ u, Below A.heap.size A u → u.cell? ⟨wr.heap.size, 0, none⟩ = some (.int .i64 0) ∧ u.cell? ⟨wr.heap.size, 1, none⟩ = some (.int .i64 1)) := Lib.hid (fun u hu => ⟨(hpA.below hu hpA.lt).cell 0, (hpA.below hu hpA.lt).cell 1⟩)
          have HXA := Lib.hid hxA
          have HBA := Lib.hid hbA
          clear hx hb x1 x2 hpe hpA hxA hbA
          go_wp2_with fail
          rw [← hA]
          clear hA
          have hj0 : Below A.heap.size A A.drew := (Below.refl _ _).drew
          refine wp_region_late (S := fun u => Below A.heap.size A u) (X := []) (by kernel_rfl) ?_
          refine wpAnyL_pureD (i := 0) 25 (.int .i64 7) rfl rfl (by kernel_rfl) (by kernel_rfl) (by kernel_rfl) (fun _ _ _ h => h) (Or.inl ⟨by rfl, fun u _ => ?_⟩) ?_
          · go_simp <;> first | rfl | decide | kernel_rfl
          try simp only [Act.put, List.setIfInBounds_toArray, List.set_cons_zero, List.set_cons_succ]
          refine wpAnyL_pureD (i := 1) 26 (.pointer (some ⟨wr.heap.size, 0, none⟩)) rfl rfl (by kernel_rfl) (by kernel_rfl) (by kernel_rfl) (fun _ _ _ h => h) (Or.inl ⟨by rfl, fun u _ => ?_⟩) ?_
          · go_simp <;> first | rfl | decide | kernel_rfl
          try simp only [Act.put, List.setIfInBounds_toArray, List.set_cons_zero, List.set_cons_succ]
          refine wpAnyL_takeD (i := 2) 27 (.int .i64 0) rfl rfl (by kernel_rfl) (by kernel_rfl) (by kernel_rfl) (by kernel_rfl) (by kernel_rfl) (fun _ _ _ h => h) hj0 (Or.inl ⟨by rfl, fun u hu => ?_⟩) ?_
          · obtain ⟨t0, t1⟩ := HF.out u hu
            go_simp
          try simp only [Act.put, List.setIfInBounds_toArray, List.set_cons_zero, List.set_cons_succ]
          refine wpAnyL_pureD (i := 3) 28 (.int .i64 7) rfl rfl (by kernel_rfl) (by kernel_rfl) (by kernel_rfl) (fun _ _ _ h => h) (Or.inl ⟨by rfl, fun u _ => ?_⟩) ?_
          · go_simp <;> first | rfl | decide | kernel_rfl
          try simp only [Act.put, List.setIfInBounds_toArray, List.set_cons_zero, List.set_cons_succ]
          refine wpAnyL_pureD (i := 4) 29 (.int .i64 1) rfl rfl (by kernel_rfl) (by kernel_rfl) (by kernel_rfl) (fun _ _ _ h => h) (Or.inl ⟨by rfl, fun u _ => ?_⟩) ?_
          · go_simp <;> first | rfl | decide | kernel_rfl
          try simp only [Act.put, List.setIfInBounds_toArray, List.set_cons_zero, List.set_cons_succ]
          refine wpAnyL_pureD (i := 5) 30 (.int .i64 7) rfl rfl (by kernel_rfl) (by kernel_rfl) (by kernel_rfl) (fun _ _ _ h => h) (Or.inl ⟨by rfl, fun u _ => ?_⟩) ?_
          · go_simp <;> first | rfl | decide | kernel_rfl
          try simp only [Act.put, List.setIfInBounds_toArray, List.set_cons_zero, List.set_cons_succ]
          refine wpAnyL_pureD (i := 6) 31 (.pointer (some ⟨wr.heap.size, 1, none⟩)) rfl rfl (by kernel_rfl) (by kernel_rfl) (by kernel_rfl) (fun _ _ _ h => h) (Or.inl ⟨by rfl, fun u _ => ?_⟩) ?_
          · go_simp <;> first | rfl | decide | kernel_rfl
          try simp only [Act.put, List.setIfInBounds_toArray, List.set_cons_zero, List.set_cons_succ]
          refine wpAnyL_takeD (i := 7) 32 (.int .i64 1) rfl rfl (by kernel_rfl) (by kernel_rfl) (by kernel_rfl) (by kernel_rfl) (by kernel_rfl) (fun _ _ _ h => h) hj0 (Or.inl ⟨by rfl, fun u hu => ?_⟩) ?_
          · obtain ⟨t0, t1⟩ := HF.out u hu
            go_simp
          try simp only [Act.put, List.setIfInBounds_toArray, List.set_cons_zero, List.set_cons_succ]
          refine wpAnyL_pureD (i := 8) 33 (.int .i64 3) rfl rfl (by kernel_rfl) (by kernel_rfl) (by kernel_rfl) (fun _ _ _ h => h) (Or.inl ⟨by rfl, fun u _ => ?_⟩) ?_
          · go_simp <;> first | rfl | decide | kernel_rfl
          try simp only [Act.put, List.setIfInBounds_toArray, List.set_cons_zero, List.set_cons_succ]
          refine wpAnyL_pureD (i := 9) 34 (.int .i64 1) rfl rfl (by kernel_rfl) (by kernel_rfl) (by kernel_rfl) (fun _ _ _ h => h) (Or.inl ⟨by rfl, fun u _ => ?_⟩) ?_
          · go_simp <;> first | rfl | decide | kernel_rfl
          try simp only [Act.put, List.setIfInBounds_toArray, List.set_cons_zero, List.set_cons_succ]
          refine wpAnyL_pureD (i := 10) 10 (.int .i64 1) rfl rfl (by kernel_rfl) (by kernel_rfl) (by kernel_rfl) (fun _ _ _ h => h) (Or.inl ⟨by rfl, fun u _ => ?_⟩) ?_
          · go_simp <;> first | rfl | decide | kernel_rfl
          try simp only [Act.put, List.setIfInBounds_toArray, List.set_cons_zero, List.set_cons_succ]
          refine wpAnyL_pureD (i := 11) 11 (.int .i64 1) rfl rfl (by kernel_rfl) (by kernel_rfl) (by kernel_rfl) (fun _ _ _ h => h) (Or.inl ⟨by rfl, fun u _ => ?_⟩) ?_
          · go_simp <;> first | rfl | decide | kernel_rfl
          try simp only [Act.put, List.setIfInBounds_toArray, List.set_cons_zero, List.set_cons_succ]
          refine wpAnyL_done (by kernel_rfl) ?_ _
          try simp only [Act.put, List.setIfInBounds_toArray, List.set_cons_zero, List.set_cons_succ]
          clear hj0 HF y1 y2 y3
          go_wp2
          go_roundw
          case rel => exact ⟨1, _, by omega, rfl, rfl, HXA.out, HBA.out.drew⟩
          case measure => simp [intOf]
        · obtain rfl : z = 1 := hz
          obtain ⟨pb, po, hpe, q1, x1, x2⟩ := (HPA.out.keep (HBV.out.trans (hb.mono HBV.out.size))).two 1 (by decide)
          obtain ⟨rfl, rfl⟩ : pb = b0 ∧ po = o0 := by
            injection hpe with h1
            injection h1 with h2 h3
            exact ⟨h2.symm, h3.symm⟩
          have y1 : wr.cell? ⟨pb, po + 2, none⟩ = some (.int .i64 0) := x1
          have y2 : wr.cell? ⟨pb, po + 2 + 1, none⟩ = some (.int .i64 2) := x2
          have y3 : wr.cell? ⟨pb, po + 3, none⟩ = some (.int .i64 2) := x2
          obtain ⟨A, hA⟩ : ∃ A, A = wr.alloc (Obj.cells #[.int .i64 0, .int .i64 2] 85) := ⟨_, rfl⟩
          have hpA : Blk A wr.heap.size 85 #[.int .i64 0, .int .i64 2] := by rw [hA]; exact Blk.new _ _ _
          have hxA : Blk A V.heap.size 136 #[.int .u64 0, .int .u64 0] := by rw [hA]; exact hx.alloc _
          have hbA : Below V.heap.size V A := by rw [hA]; exact hb.alloc hb.size _
          have HF : Hid (∀ u, Below A.heap.size A u → u.cell? ⟨wr.heap.size, 0, none⟩ = some (.int .i64 0) ∧ u.cell? ⟨wr.heap.size, 1, none⟩ = some (.int .i64 2)) := Lib.hid (fun u hu => ⟨(hpA.below hu hpA.lt).cell 0, (hpA.below hu hpA.lt).cell 1⟩)
          have HXA := Lib.hid hxA
          have HBA := Lib.hid hbA
          clear hx hb x1 x2 hpe hpA hxA hbA
          go_wp2_with fail
          rw [← hA]
          clear hA
          have hj0 : Below A.heap.size A A.drew := (Below.refl _ _).drew
          refine wp_region_late (S := fun u => Below A.heap.size A u) (X := []) (by kernel_rfl) ?_
          refine wpAnyL_pureD (i := 0) 25 (.int .i64 7) rfl rfl (by kernel_rfl) (by kernel_rfl) (by kernel_rfl) (fun _ _ _ h => h) (Or.inl ⟨by rfl, fun u _ => ?_⟩) ?_
          · go_simp <;> first | rfl | decide | kernel_rfl
          try simp only [Act.put, List.setIfInBounds_toArray, List.set_cons_zero, List.set_cons_succ]
          refine wpAnyL_pureD (i := 1) 26 (.pointer (some ⟨wr.heap.size, 0, none⟩)) rfl rfl (by kernel_rfl) (by kernel_rfl) (by kernel_rfl) (fun _ _ _ h => h) (Or.inl ⟨by rfl, fun u _ => ?_⟩) ?_
          · go_simp <;> first | rfl | decide | kernel_rfl
          try simp only [Act.put, List.setIfInBounds_toArray, List.set_cons_zero, List.set_cons_succ]
          refine wpAnyL_takeD (i := 2) 27 (.int .i64 0) rfl rfl (by kernel_rfl) (by kernel_rfl) (by kernel_rfl) (by kernel_rfl) (by kernel_rfl) (fun _ _ _ h => h) hj0 (Or.inl ⟨by rfl, fun u hu => ?_⟩) ?_
          · obtain ⟨t0, t1⟩ := HF.out u hu
            go_simp
          try simp only [Act.put, List.setIfInBounds_toArray, List.set_cons_zero, List.set_cons_succ]
          refine wpAnyL_pureD (i := 3) 28 (.int .i64 7) rfl rfl (by kernel_rfl) (by kernel_rfl) (by kernel_rfl) (fun _ _ _ h => h) (Or.inl ⟨by rfl, fun u _ => ?_⟩) ?_
          · go_simp <;> first | rfl | decide | kernel_rfl
          try simp only [Act.put, List.setIfInBounds_toArray, List.set_cons_zero, List.set_cons_succ]
          refine wpAnyL_pureD (i := 4) 29 (.int .i64 1) rfl rfl (by kernel_rfl) (by kernel_rfl) (by kernel_rfl) (fun _ _ _ h => h) (Or.inl ⟨by rfl, fun u _ => ?_⟩) ?_
          · go_simp <;> first | rfl | decide | kernel_rfl
          try simp only [Act.put, List.setIfInBounds_toArray, List.set_cons_zero, List.set_cons_succ]
          refine wpAnyL_pureD (i := 5) 30 (.int .i64 7) rfl rfl (by kernel_rfl) (by kernel_rfl) (by kernel_rfl) (fun _ _ _ h => h) (Or.inl ⟨by rfl, fun u _ => ?_⟩) ?_
          · go_simp <;> first | rfl | decide | kernel_rfl
          try simp only [Act.put, List.setIfInBounds_toArray, List.set_cons_zero, List.set_cons_succ]
          refine wpAnyL_pureD (i := 6) 31 (.pointer (some ⟨wr.heap.size, 1, none⟩)) rfl rfl (by kernel_rfl) (by kernel_rfl) (by kernel_rfl) (fun _ _ _ h => h) (Or.inl ⟨by rfl, fun u _ => ?_⟩) ?_
          · go_simp <;> first | rfl | decide | kernel_rfl
          try simp only [Act.put, List.setIfInBounds_toArray, List.set_cons_zero, List.set_cons_succ]
          refine wpAnyL_takeD (i := 7) 32 (.int .i64 2) rfl rfl (by kernel_rfl) (by kernel_rfl) (by kernel_rfl) (by kernel_rfl) (by kernel_rfl) (fun _ _ _ h => h) hj0 (Or.inl ⟨by rfl, fun u hu => ?_⟩) ?_
          · obtain ⟨t0, t1⟩ := HF.out u hu
            go_simp
          try simp only [Act.put, List.setIfInBounds_toArray, List.set_cons_zero, List.set_cons_succ]
          refine wpAnyL_pureD (i := 8) 33 (.int .i64 1) rfl rfl (by kernel_rfl) (by kernel_rfl) (by kernel_rfl) (fun _ _ _ h => h) (Or.inl ⟨by rfl, fun u _ => ?_⟩) ?_
          · go_simp <;> first | rfl | decide | kernel_rfl
          try simp only [Act.put, List.setIfInBounds_toArray, List.set_cons_zero, List.set_cons_succ]
          refine wpAnyL_pureD (i := 9) 34 (.int .i64 1) rfl rfl (by kernel_rfl) (by kernel_rfl) (by kernel_rfl) (fun _ _ _ h => h) (Or.inl ⟨by rfl, fun u _ => ?_⟩) ?_
          · go_simp <;> first | rfl | decide | kernel_rfl
          try simp only [Act.put, List.setIfInBounds_toArray, List.set_cons_zero, List.set_cons_succ]
          refine wpAnyL_pureD (i := 10) 10 (.int .i64 1) rfl rfl (by kernel_rfl) (by kernel_rfl) (by kernel_rfl) (fun _ _ _ h => h) (Or.inl ⟨by rfl, fun u _ => ?_⟩) ?_
          · go_simp <;> first | rfl | decide | kernel_rfl
          try simp only [Act.put, List.setIfInBounds_toArray, List.set_cons_zero, List.set_cons_succ]
          refine wpAnyL_pureD (i := 11) 11 (.int .i64 1) rfl rfl (by kernel_rfl) (by kernel_rfl) (by kernel_rfl) (fun _ _ _ h => h) (Or.inl ⟨by rfl, fun u _ => ?_⟩) ?_
          · go_simp <;> first | rfl | decide | kernel_rfl
          try simp only [Act.put, List.setIfInBounds_toArray, List.set_cons_zero, List.set_cons_succ]
          refine wpAnyL_done (by kernel_rfl) ?_ _
          try simp only [Act.put, List.setIfInBounds_toArray, List.set_cons_zero, List.set_cons_succ]
          clear hj0 HF y1 y2 y3
          go_wp2
          go_roundw
          case rel => exact ⟨2, _, by omega, rfl, rfl, HXA.out, HBA.out.drew⟩
          case measure => simp [intOf]
        · obtain rfl : z = 2 := hz
          obtain ⟨pb, po, hpe, q1, x1, x2⟩ := (HPA.out.keep (HBV.out.trans (hb.mono HBV.out.size))).two 2 (by decide)
          obtain ⟨rfl, rfl⟩ : pb = b0 ∧ po = o0 := by
            injection hpe with h1
            injection h1 with h2 h3
            exact ⟨h2.symm, h3.symm⟩
          have y1 : wr.cell? ⟨pb, po + 4, none⟩ = some (.int .i64 1) := x1
          have y2 : wr.cell? ⟨pb, po + 4 + 1, none⟩ = some (.int .i64 2) := x2
          have y3 : wr.cell? ⟨pb, po + 5, none⟩ = some (.int .i64 2) := x2
          obtain ⟨A, hA⟩ : ∃ A, A = wr.alloc (Obj.cells #[.int .i64 1, .int .i64 2] 85) := ⟨_, rfl⟩
          have hpA : Blk A wr.heap.size 85 #[.int .i64 1, .int .i64 2] := by rw [hA]; exact Blk.new _ _ _
          have hxA : Blk A V.heap.size 136 #[.int .u64 0, .int .u64 0] := by rw [hA]; exact hx.alloc _
          have hbA : Below V.heap.size V A := by rw [hA]; exact hb.alloc hb.size _
          have HF : Hid (∀ u, Below A.heap.size A u → u.cell? ⟨wr.heap.size, 0, none⟩ = some (.int .i64 1) ∧ u.cell? ⟨wr.heap.size, 1, none⟩ = some (.int .i64 2)) := Lib.hid (fun u hu => ⟨(hpA.below hu hpA.lt).cell 0, (hpA.below hu hpA.lt).cell 1⟩)
          have HXA := Lib.hid hxA
          have HBA := Lib.hid hbA
          clear hx hb x1 x2 hpe hpA hxA hbA
          go_wp2_with fail
          rw [← hA]
          clear hA
          have hj0 : Below A.heap.size A A.drew := (Below.refl _ _).drew
          refine wp_region_late (S := fun u => Below A.heap.size A u) (X := []) (by kernel_rfl) ?_
          refine wpAnyL_pureD (i := 0) 25 (.int .i64 7) rfl rfl (by kernel_rfl) (by kernel_rfl) (by kernel_rfl) (fun _ _ _ h => h) (Or.inl ⟨by rfl, fun u _ => ?_⟩) ?_
          · go_simp <;> first | rfl | decide | kernel_rfl
          try simp only [Act.put, List.setIfInBounds_toArray, List.set_cons_zero, List.set_cons_succ]
          refine wpAnyL_pureD (i := 1) 26 (.pointer (some ⟨wr.heap.size, 0, none⟩)) rfl rfl (by kernel_rfl) (by kernel_rfl) (by kernel_rfl) (fun _ _ _ h => h) (Or.inl ⟨by rfl, fun u _ => ?_⟩) ?_
          · go_simp <;> first | rfl | decide | kernel_rfl
          try simp only [Act.put, List.setIfInBounds_toArray, List.set_cons_zero, List.set_cons_succ]
          refine wpAnyL_takeD (i := 2) 27 (.int .i64 1) rfl rfl (by kernel_rfl) (by kernel_rfl) (by kernel_rfl) (by kernel_rfl) (by kernel_rfl) (fun _ _ _ h => h) hj0 (Or.inl ⟨by rfl, fun u hu => ?_⟩) ?_
          · obtain ⟨t0, t1⟩ := HF.out u hu
            go_simp
          try simp only [Act.put, List.setIfInBounds_toArray, List.set_cons_zero, List.set_cons_succ]
          refine wpAnyL_pureD (i := 3) 28 (.int .i64 3) rfl rfl (by kernel_rfl) (by kernel_rfl) (by kernel_rfl) (fun _ _ _ h => h) (Or.inl ⟨by rfl, fun u _ => ?_⟩) ?_
          · go_simp <;> first | rfl | decide | kernel_rfl
          try simp only [Act.put, List.setIfInBounds_toArray, List.set_cons_zero, List.set_cons_succ]
          refine wpAnyL_pureD (i := 4) 29 (.int .i64 1) rfl rfl (by kernel_rfl) (by kernel_rfl) (by kernel_rfl) (fun _ _ _ h => h) (Or.inl ⟨by rfl, fun u _ => ?_⟩) ?_
          · go_simp <;> first | rfl | decide | kernel_rfl
          try simp only [Act.put, List.setIfInBounds_toArray, List.set_cons_zero, List.set_cons_succ]
          refine wpAnyL_pureD (i := 5) 30 (.int .i64 7) rfl rfl (by kernel_rfl) (by kernel_rfl) (by kernel_rfl) (fun _ _ _ h => h) (Or.inl ⟨by rfl, fun u _ => ?_⟩) ?_
          · go_simp <;> first | rfl | decide | kernel_rfl
          try simp only [Act.put, List.setIfInBounds_toArray, List.set_cons_zero, List.set_cons_succ]
          refine wpAnyL_pureD (i := 6) 31 (.pointer (some ⟨wr.heap.size, 1, none⟩)) rfl rfl (by kernel_rfl) (by kernel_rfl) (by kernel_rfl) (fun _ _ _ h => h) (Or.inl ⟨by rfl, fun u _ => ?_⟩) ?_
          · go_simp <;> first | rfl | decide | kernel_rfl
          try simp only [Act.put, List.setIfInBounds_toArray, List.set_cons_zero, List.set_cons_succ]
          refine wpAnyL_takeD (i := 7) 32 (.int .i64 2) rfl rfl (by kernel_rfl) (by kernel_rfl) (by kernel_rfl) (by kernel_rfl) (by kernel_rfl) (fun _ _ _ h => h) hj0 (Or.inl ⟨by rfl, fun u hu => ?_⟩) ?_
          · obtain ⟨t0, t1⟩ := HF.out u hu
            go_simp
          try simp only [Act.put, List.setIfInBounds_toArray, List.set_cons_zero, List.set_cons_succ]
          refine wpAnyL_pureD (i := 8) 33 (.int .i64 1) rfl rfl (by kernel_rfl) (by kernel_rfl) (by kernel_rfl) (fun _ _ _ h => h) (Or.inl ⟨by rfl, fun u _ => ?_⟩) ?_
          · go_simp <;> first | rfl | decide | kernel_rfl
          try simp only [Act.put, List.setIfInBounds_toArray, List.set_cons_zero, List.set_cons_succ]
          refine wpAnyL_pureD (i := 9) 34 (.int .i64 1) rfl rfl (by kernel_rfl) (by kernel_rfl) (by kernel_rfl) (fun _ _ _ h => h) (Or.inl ⟨by rfl, fun u _ => ?_⟩) ?_
          · go_simp <;> first | rfl | decide | kernel_rfl
          try simp only [Act.put, List.setIfInBounds_toArray, List.set_cons_zero, List.set_cons_succ]
          refine wpAnyL_pureD (i := 10) 10 (.int .i64 1) rfl rfl (by kernel_rfl) (by kernel_rfl) (by kernel_rfl) (fun _ _ _ h => h) (Or.inl ⟨by rfl, fun u _ => ?_⟩) ?_
          · go_simp <;> first | rfl | decide | kernel_rfl
          try simp only [Act.put, List.setIfInBounds_toArray, List.set_cons_zero, List.set_cons_succ]
          refine wpAnyL_pureD (i := 11) 11 (.int .i64 1) rfl rfl (by kernel_rfl) (by kernel_rfl) (by kernel_rfl) (fun _ _ _ h => h) (Or.inl ⟨by rfl, fun u _ => ?_⟩) ?_
          · go_simp <;> first | rfl | decide | kernel_rfl
          try simp only [Act.put, List.setIfInBounds_toArray, List.set_cons_zero, List.set_cons_succ]
          refine wpAnyL_done (by kernel_rfl) ?_ _
          try simp only [Act.put, List.setIfInBounds_toArray, List.set_cons_zero, List.set_cons_succ]
          clear hj0 HF y1 y2 y3
          go_wp2
          go_roundw
          case rel => exact ⟨3, _, by omega, rfl, rfl, HXA.out, HBA.out.drew⟩
          case measure => simp [intOf]
        · obtain rfl : z = 3 := hz
          have f1 : wr.cell? ⟨V.heap.size, 0, none⟩ = some (.int .u64 0) := hx.cell 0
          have f2 : wr.cell? ⟨V.heap.size, 1, none⟩ = some (.int .u64 0) := hx.cell 1
          have HBE := Lib.hid hb
          have hzz := hb.size
          clear hx hb
          go_wp2
          go_roundw
          case rel => exact ⟨4, _, by omega, rfl, by omega, own_keep HOW.out HBE.out, HBV.out.trans (HBE.out.mono HBV.out.size)⟩
          case measure => simp [intOf]
    · have hx0 : z = 9 := by omega
      subst hx0
      have HOW := Lib.hid hown
      clear hx hown hbV
      go_wp2
      go_ret
      first | exact ⟨_, rfl, HOW.out, HBV.out⟩ | exact ⟨_, ⟨rfl, HOW.out⟩, HBV.out⟩
end Go.Proofs.Ytlnaahkheankoaa
