/- The number of spanning trees and the genus, by the program. And: The cyclic groups of kinds, by the program. And: Every kind and every size, by the program. And: The examples of the chapter. -/
import Derived.Test.YtgfbihdnjidodaaQ17
import Derived.Test.YtgfbihdnjidodaaQ05
namespace Go.Proofs.Ytgfbihdnjidodaa
open Go.RowKit Go.Shelf Go.Proofs.Gr
attribute [local go_sem] Oper.semAt_some
attribute [local go_sem] run_store_func run_store_nilFunc

set_option maxHeartbeats 12800000 in
set_option maxRecDepth 100000 in
theorem ptrees_err (z : Int) (a : Option Addr) (cap : Nat) (L : List Int) (k : Nat) (hk : k ≠ 0) (hC : ∀ w, IsAt w a L → Calls Try.prog 22 #[.int .i64 z, .slice a L.length cap] w (GivesLE w [] k)) (w : World) (h : IsAt w a L) :
    Calls Try.prog 18 #[.int .i64 z, .slice a L.length cap] w (GivesZE w 0 k) := by
  have q0 : (((k : Nat) : Int) != 0) = true := by rw [bne_iff_ne]; omega
  have HC := Lib.hid (hC w h)
  clear hC h hk
  unfold GivesLE at HC
  unfold GivesZE
  go_enter Try.func18, Try.ntmps18
  go_wp2_with fail
  refine HC.out.mono ?_
  rintro e x1 ⟨a1, c1, rfl, -, hb⟩
  have HB := Lib.hid hb
  clear hb
  go_wp2
  go_ret2
  exact ⟨rfl, HB.out⟩
set_option maxHeartbeats 12800000 in
set_option maxRecDepth 100000 in
theorem ptrees_ok (z : Int) (a : Option Addr) (cap : Nat) (L M : List Int) (hMl : M.length ≤ 100000) (hb : ∀ i, i ≤ M.length → 0 ≤ prodI M i ∧ prodI M i ≤ 4611686018427387904) (hC : ∀ w, IsAt w a L → Calls Try.prog 22 #[.int .i64 z, .slice a L.length cap] w (GivesLE w M 0)) (w : World) (h : IsAt w a L) :
    Calls Try.prog 18 #[.int .i64 z, .slice a L.length cap] w (GivesZE w (prodI M M.length) 0) := by
  have HC := Lib.hid (hC w h)
  have HP0 : Hid (prodI M 0 = 1) := Lib.hid rfl
  have HPS : Hid (∀ i, prodI M (i + 1) = prodI M i * iAt M i) := Lib.hid fun _ => rfl
  have HPB := Lib.hid hb
  clear hC h hb
  generalize prodI M = PF at *
  unfold GivesLE at HC
  unfold GivesZE
  go_enter Try.func18, Try.ntmps18
  go_wp2_with fail
  refine HC.out.mono ?_
  rintro e x1 ⟨a1, c1, rfl, hm, hb⟩
  have HB := Lib.hid hb
  have HMM := Lib.hid hm
  clear hb hm
  go_wp2
  go_loopw [8, 22] (fun u x wr => ∃ i : Nat, i ≤ M.length ∧ x = .int .i64 i ∧ u = .int .i64 (PF i) ∧ Below x1.heap.size x1 wr) (fun _ x _ => M.length - (intOf x).toNat)
  case atStart => exact ⟨0, by omega, rfl, by rw [HP0.out], Below.refl _ _⟩
  case round =>
    obtain ⟨i, hi, rfl, rfl, hbw⟩ := hrel
    have HBW := Lib.hid hbw
    by_cases hlt : i < M.length
    · have i1 : (i : Int) < (M.length : Int) := by omega
      have i2 : (0 : Int) ≤ (i : Int) := by omega
      obtain ⟨bb, oo, rfl, q1, y1⟩ := (HMM.out.keep hbw).one i hlt
      clear hbw
      have hps := HPS.out i
      have hpb := HPB.out (i + 1) (by omega)
      rw [hps] at hpb
      have HPN := Lib.hid hps
      generalize PF i = p at *
      generalize iAt M i = y at *
      obtain ⟨q, hq⟩ : ∃ q, q = p * y := ⟨_, rfl⟩
      have e1 : IntKind.i64.wrap (p * y) = q := by rw [hq]; exact IntWalk.i64_in _ (by omega)
      rw [← hq] at HPN
      clear hps hpb hq
      go_wp2
      go_roundw
      case rel => exact ⟨i + 1, by omega, by go_num, by rw [HPN.out], HBW.out⟩
      case measure => simp [intOf]; omega
    · obtain rfl : i = M.length := by omega
      have i1 : ¬ (M.length : Int) < (M.length : Int) := by omega
      clear hbw
      go_wp2
      go_ret2
      exact ⟨rfl, HB.out.trans (HBW.out.mono HB.out.size)⟩
set_option maxHeartbeats 12800000 in
set_option maxRecDepth 100000 in
theorem pgenusF_err (z : Int) (a : Option Addr) (cap : Nat) (L : List Int) (m : Int) (J : List E) (k : Nat) (hk : k ≠ 0) (hM : ∀ w, IsAt w a L → Calls Try.prog 12 #[.int .i64 z, .slice a L.length cap] w (GivesGE w m J k)) (w : World) (h : IsAt w a L) :
    Calls Try.prog 20 #[.int .i64 z, .slice a L.length cap] w (GivesZE w 0 k) := by
  have q0 : (((k : Nat) : Int) != 0) = true := by rw [bne_iff_ne]; omega
  clear hk
  have HM := Lib.hid (hM w h)
  clear hM h
  unfold GivesGE gv at HM
  unfold GivesZE
  go_enter Try.func20, Try.ntmps20
  go_wp2_with fail
  refine HM.out.mono ?_
  rintro r x1 ⟨a2, c2, rfl, he, -, hb⟩
  have HB : Hid (Below w.heap.size w (x1.alloc (Obj.cells #[.int .i64 m, .slice a2 J.length c2] 31))) := Lib.hid (hb.alloc hb.size _)
  have HE : Hid (EsAt (x1.alloc (Obj.cells #[.int .i64 m, .slice a2 J.length c2] 31)) a2 J) := Lib.hid (he.keep ((Below.refl _ _).alloc (Nat.le_refl _) _))
  clear he hb
  go_wp2
  go_ret2
  exact ⟨rfl, HB.out⟩
set_option maxHeartbeats 12800000 in
set_option maxRecDepth 100000 in
theorem pgenusF_ok (z : Int) (a : Option Addr) (cap : Nat) (L : List Int) (m : Int) (J : List E) (hL : J.length ≤ 100000) (h0 : chkG m J = 0) (hM : ∀ w, IsAt w a L → Calls Try.prog 12 #[.int .i64 z, .slice a L.length cap] w (GivesGE w m J 0)) (w : World) (h : IsAt w a L) :
    Calls Try.prog 20 #[.int .i64 z, .slice a L.length cap] w (GivesZE w (genU m J) 0) := by
  have HGN := Lib.hid (fun a cap w h => pGenus_any m a cap J hL w h)
  rw [h0, if_pos rfl] at HGN
  clear hL h0
  generalize genU m J = y at *
  unfold GivesNE gv at HGN
  have HM := Lib.hid (hM w h)
  clear hM h
  unfold GivesGE gv at HM
  unfold GivesZE
  go_enter Try.func20, Try.ntmps20
  go_wp2_with fail
  refine HM.out.mono ?_
  rintro r x1 ⟨a2, c2, rfl, he, -, hb⟩
  have HB : Hid (Below w.heap.size w (x1.alloc (Obj.cells #[.int .i64 m, .slice a2 J.length c2] 31))) := Lib.hid (hb.alloc hb.size _)
  have HE : Hid (EsAt (x1.alloc (Obj.cells #[.int .i64 m, .slice a2 J.length c2] 31)) a2 J) := Lib.hid (he.keep ((Below.refl _ _).alloc (Nat.le_refl _) _))
  clear he hb
  go_wp2_with fail
  refine (HGN.out _ _ _ HE.out).mono ?_
  rintro e x2 ⟨rfl, hb2⟩
  have HB2 := Lib.hid (HB.out.trans (hb2.mono HB.out.size))
  clear hb2
  go_wp2
  go_ret2
  exact ⟨rfl, HB2.out⟩
end Go.Proofs.Ytgfbihdnjidodaa

namespace Go.Proofs.Ytgfbihdnjidodaa
open Go.RowKit Go.Shelf Go.Proofs.Gr
attribute [local go_sem] Oper.semAt_some
attribute [local go_sem] run_store_func run_store_nilFunc

set_option maxHeartbeats 12800000 in
set_option maxRecDepth 100000 in
theorem pcyc_err_3 (a : Option Addr) (cap : Nat) (L : List Int) (m : Int) (J : List E) (k : Nat) (hk : k ≠ 0) (hM : ∀ w, IsAt w a L → Calls Try.prog 29 #[.agg #[.int .i64 1, (.func (.func 58) #[] #[]), (.func (.func 59) #[] #[])], .slice a L.length cap] w (GivesGE w m J k)) (w : World) (h : IsAt w a L) :
    Calls Try.prog 22 #[.int .i64 3, .slice a L.length cap] w (GivesLE w [] k) := by
  have q0 : (((k : Nat) : Int) != 0) = true := by rw [bne_iff_ne]; omega
  have HM := Lib.hid hM
  have HO := Lib.hid (fun w => pof_3 w)
  have HE := Lib.hid h
  clear hM h hk
  unfold GivesGE gv at HM
  unfold GivesLE
  go_enter Try.func22, Try.ntmps22
  go_wp2_with fail
  refine (HO.out w).mono ?_
  rintro e x1 ⟨rfl, hb⟩
  obtain ⟨Y, hY⟩ : ∃ Y, Y = x1.alloc (Obj.cells #[.int .i64 1, (.func (.func 58) #[] #[]), (.func (.func 59) #[] #[])] 60) := ⟨_, rfl⟩
  have HBY : Hid (Below w.heap.size w Y) := Lib.hid (by rw [hY]; exact hb.alloc hb.size _)
  have HFB : Hid (Blk Y x1.heap.size 60 #[.int .i64 1, (.func (.func 58) #[] #[]), (.func (.func 59) #[] #[])]) := Lib.hid (by rw [hY]; exact Blk.new _ _ _)
  have HEY := Lib.hid (HE.out.keep HBY.out)
  have HY := Lib.hid hY
  clear hY hb
  go_wp2_with fail
  rw [← HY.out]
  refine (HM.out _ HEY.out).mono ?_
  rintro r x2 ⟨a2, c2, rfl, -, -, hb2⟩
  obtain ⟨Z, hZ⟩ : ∃ Z, Z = x2.alloc (Obj.cells #[.int .i64 m, .slice a2 J.length c2] 31) := ⟨_, rfl⟩
  have hbz : Below Y.heap.size Y Z := by rw [hZ]; exact hb2.alloc hb2.size _
  have HBZ : Hid (Below w.heap.size w Z) := Lib.hid (HBY.out.trans (hbz.mono HBY.out.size))
  have HZZ := Lib.hid hZ
  clear hbz hZ hb2 HFB
  go_wp2
  go_ret2
  exact ⟨none, 0, rfl, RowAt.nil _ _ _ _, by rw [← HZZ.out]; exact HBZ.out⟩
set_option maxHeartbeats 12800000 in
set_option maxRecDepth 100000 in
theorem pcyc_ok_3 (a : Option Addr) (cap : Nat) (L : List Int) (m : Int) (J : List E) (hM : ∀ w, IsAt w a L → Calls Try.prog 29 #[.agg #[.int .i64 1, (.func (.func 58) #[] #[]), (.func (.func 59) #[] #[])], .slice a L.length cap] w (GivesGE w m J 0)) (M : List Int) (hMl : M.length ≤ 1000) (hord : ∀ w, IsAt w a L → Calls Try.prog 59 #[.slice a L.length cap] w (GivesO w M)) (w : World) (h : IsAt w a L) :
    Calls Try.prog 22 #[.int .i64 3, .slice a L.length cap] w (GivesLE w (no1 M) 0) := by
  have heq : ∀ w : World, (binOp BinOp.eql 58 (.func (.func 59) #[] #[]) .nilFunc).run Try.prog w = .ok (.bool false) w := fun _ => by kernel_rfl
  have HM := Lib.hid hM
  have HO := Lib.hid (fun w => pof_3 w)
  have HORD := Lib.hid hord
  have HDEL := Lib.hid (fun base v w h hb => pdel_own base v M (by omega) w h hb)
  have HE := Lib.hid h
  clear hM h hord hMl
  unfold GivesGE gv at HM
  unfold GivesO at HORD
  unfold GivesLE
  go_enter Try.func22, Try.ntmps22
  go_wp2_with fail
  refine (HO.out w).mono ?_
  rintro e x1 ⟨rfl, hb⟩
  obtain ⟨Y, hY⟩ : ∃ Y, Y = x1.alloc (Obj.cells #[.int .i64 1, (.func (.func 58) #[] #[]), (.func (.func 59) #[] #[])] 60) := ⟨_, rfl⟩
  have HBY : Hid (Below w.heap.size w Y) := Lib.hid (by rw [hY]; exact hb.alloc hb.size _)
  have HFB : Hid (Blk Y x1.heap.size 60 #[.int .i64 1, (.func (.func 58) #[] #[]), (.func (.func 59) #[] #[])]) := Lib.hid (by rw [hY]; exact Blk.new _ _ _)
  have HEY := Lib.hid (HE.out.keep HBY.out)
  have HY := Lib.hid hY
  clear hY hb
  go_wp2_with fail
  rw [← HY.out]
  refine (HM.out _ HEY.out).mono ?_
  rintro r x2 ⟨a2, c2, rfl, -, -, hb2⟩
  obtain ⟨Z, hZ⟩ : ∃ Z, Z = x2.alloc (Obj.cells #[.int .i64 m, .slice a2 J.length c2] 31) := ⟨_, rfl⟩
  have hbz : Below Y.heap.size Y Z := by rw [hZ]; exact hb2.alloc hb2.size _
  have HBZ : Hid (Below w.heap.size w Z) := Lib.hid (HBY.out.trans (hbz.mono HBY.out.size))
  have z2 : (x2.alloc (Obj.cells #[.int .i64 m, .slice a2 J.length c2] 31)).cell? ⟨x1.heap.size, 2, none⟩ = some (.func (.func 59) #[] #[]) := by rw [← hZ]; exact (HFB.out.below hbz HFB.out.lt).cell 2
  have HEZ := Lib.hid (HE.out.keep HBZ.out)
  have HZZ := Lib.hid hZ
  clear hbz hZ hb2 HFB
  go_wp2_with fail
  rw [← HZZ.out]
  refine (HORD.out Z HEZ.out).mono ?_
  rintro e x3 ⟨v, rfl, ho, hb3⟩
  have HO3 := Lib.hid ho
  have HB3 := Lib.hid hb3
  have HDC := Lib.hid (HDEL.out Z.heap.size v x3 HO3.out HB3.out.size)
  clear ho hb3 z2
  go_wp2_with fail
  refine HDC.out.mono ?_
  rintro e x4 ⟨a4, c4, rfl, h4, hb4⟩
  have H4 := Lib.hid h4
  have HB4 : Hid (Below w.heap.size w x4) := Lib.hid (HBZ.out.trans ((HB3.out.trans hb4).mono HBZ.out.size))
  clear h4 hb4
  go_wp2
  go_ret2
  exact ⟨a4, c4, rfl, H4.out, HB4.out⟩
set_option maxHeartbeats 12800000 in
set_option maxRecDepth 100000 in
theorem pcyc_err_4 (a : Option Addr) (cap : Nat) (L : List Int) (m : Int) (J : List E) (k : Nat) (hk : k ≠ 0) (hM : ∀ w, IsAt w a L → Calls Try.prog 29 #[.agg #[.int .i64 1, (.func (.func 60) #[] #[]), (.func (.func 56) #[] #[])], .slice a L.length cap] w (GivesGE w m J k)) (w : World) (h : IsAt w a L) :
    Calls Try.prog 22 #[.int .i64 4, .slice a L.length cap] w (GivesLE w [] k) := by
  have q0 : (((k : Nat) : Int) != 0) = true := by rw [bne_iff_ne]; omega
  have HM := Lib.hid hM
  have HO := Lib.hid (fun w => pof_4 w)
  have HE := Lib.hid h
  clear hM h hk
  unfold GivesGE gv at HM
  unfold GivesLE
  go_enter Try.func22, Try.ntmps22
  go_wp2_with fail
  refine (HO.out w).mono ?_
  rintro e x1 ⟨rfl, hb⟩
  obtain ⟨Y, hY⟩ : ∃ Y, Y = x1.alloc (Obj.cells #[.int .i64 1, (.func (.func 60) #[] #[]), (.func (.func 56) #[] #[])] 60) := ⟨_, rfl⟩
  have HBY : Hid (Below w.heap.size w Y) := Lib.hid (by rw [hY]; exact hb.alloc hb.size _)
  have HFB : Hid (Blk Y x1.heap.size 60 #[.int .i64 1, (.func (.func 60) #[] #[]), (.func (.func 56) #[] #[])]) := Lib.hid (by rw [hY]; exact Blk.new _ _ _)
  have HEY := Lib.hid (HE.out.keep HBY.out)
  have HY := Lib.hid hY
  clear hY hb
  go_wp2_with fail
  rw [← HY.out]
  refine (HM.out _ HEY.out).mono ?_
  rintro r x2 ⟨a2, c2, rfl, -, -, hb2⟩
  obtain ⟨Z, hZ⟩ : ∃ Z, Z = x2.alloc (Obj.cells #[.int .i64 m, .slice a2 J.length c2] 31) := ⟨_, rfl⟩
  have hbz : Below Y.heap.size Y Z := by rw [hZ]; exact hb2.alloc hb2.size _
  have HBZ : Hid (Below w.heap.size w Z) := Lib.hid (HBY.out.trans (hbz.mono HBY.out.size))
  have HZZ := Lib.hid hZ
  clear hbz hZ hb2 HFB
  go_wp2
  go_ret2
  exact ⟨none, 0, rfl, RowAt.nil _ _ _ _, by rw [← HZZ.out]; exact HBZ.out⟩
set_option maxHeartbeats 12800000 in
set_option maxRecDepth 100000 in
theorem pcyc_ok_4 (a : Option Addr) (cap : Nat) (L : List Int) (m : Int) (J : List E) (hM : ∀ w, IsAt w a L → Calls Try.prog 29 #[.agg #[.int .i64 1, (.func (.func 60) #[] #[]), (.func (.func 56) #[] #[])], .slice a L.length cap] w (GivesGE w m J 0)) (M : List Int) (hMl : M.length ≤ 1000) (hord : ∀ w, IsAt w a L → Calls Try.prog 56 #[.slice a L.length cap] w (GivesO w M)) (w : World) (h : IsAt w a L) :
    Calls Try.prog 22 #[.int .i64 4, .slice a L.length cap] w (GivesLE w (no1 M) 0) := by
  have heq : ∀ w : World, (binOp BinOp.eql 58 (.func (.func 56) #[] #[]) .nilFunc).run Try.prog w = .ok (.bool false) w := fun _ => by kernel_rfl
  have HM := Lib.hid hM
  have HO := Lib.hid (fun w => pof_4 w)
  have HORD := Lib.hid hord
  have HDEL := Lib.hid (fun base v w h hb => pdel_own base v M (by omega) w h hb)
  have HE := Lib.hid h
  clear hM h hord hMl
  unfold GivesGE gv at HM
  unfold GivesO at HORD
  unfold GivesLE
  go_enter Try.func22, Try.ntmps22
  go_wp2_with fail
  refine (HO.out w).mono ?_
  rintro e x1 ⟨rfl, hb⟩
  obtain ⟨Y, hY⟩ : ∃ Y, Y = x1.alloc (Obj.cells #[.int .i64 1, (.func (.func 60) #[] #[]), (.func (.func 56) #[] #[])] 60) := ⟨_, rfl⟩
  have HBY : Hid (Below w.heap.size w Y) := Lib.hid (by rw [hY]; exact hb.alloc hb.size _)
  have HFB : Hid (Blk Y x1.heap.size 60 #[.int .i64 1, (.func (.func 60) #[] #[]), (.func (.func 56) #[] #[])]) := Lib.hid (by rw [hY]; exact Blk.new _ _ _)
  have HEY := Lib.hid (HE.out.keep HBY.out)
  have HY := Lib.hid hY
  clear hY hb
  go_wp2_with fail
  rw [← HY.out]
  refine (HM.out _ HEY.out).mono ?_
  rintro r x2 ⟨a2, c2, rfl, -, -, hb2⟩
  obtain ⟨Z, hZ⟩ : ∃ Z, Z = x2.alloc (Obj.cells #[.int .i64 m, .slice a2 J.length c2] 31) := ⟨_, rfl⟩
  have hbz : Below Y.heap.size Y Z := by rw [hZ]; exact hb2.alloc hb2.size _
  have HBZ : Hid (Below w.heap.size w Z) := Lib.hid (HBY.out.trans (hbz.mono HBY.out.size))
  have z2 : (x2.alloc (Obj.cells #[.int .i64 m, .slice a2 J.length c2] 31)).cell? ⟨x1.heap.size, 2, none⟩ = some (.func (.func 56) #[] #[]) := by rw [← hZ]; exact (HFB.out.below hbz HFB.out.lt).cell 2
  have HEZ := Lib.hid (HE.out.keep HBZ.out)
  have HZZ := Lib.hid hZ
  clear hbz hZ hb2 HFB
  go_wp2_with fail
  rw [← HZZ.out]
  refine (HORD.out Z HEZ.out).mono ?_
  rintro e x3 ⟨v, rfl, ho, hb3⟩
  have HO3 := Lib.hid ho
  have HB3 := Lib.hid hb3
  have HDC := Lib.hid (HDEL.out Z.heap.size v x3 HO3.out HB3.out.size)
  clear ho hb3 z2
  go_wp2_with fail
  refine HDC.out.mono ?_
  rintro e x4 ⟨a4, c4, rfl, h4, hb4⟩
  have H4 := Lib.hid h4
  have HB4 : Hid (Below w.heap.size w x4) := Lib.hid (HBZ.out.trans ((HB3.out.trans hb4).mono HBZ.out.size))
  clear h4 hb4
  go_wp2
  go_ret2
  exact ⟨a4, c4, rfl, H4.out, HB4.out⟩
set_option maxHeartbeats 12800000 in
set_option maxRecDepth 100000 in
theorem pcyc_err_5 (a : Option Addr) (cap : Nat) (L : List Int) (m : Int) (J : List E) (k : Nat) (hk : k ≠ 0) (hM : ∀ w, IsAt w a L → Calls Try.prog 29 #[.agg #[.int .i64 1, (.func (.func 61) #[] #[]), (.func (.func 62) #[] #[])], .slice a L.length cap] w (GivesGE w m J k)) (w : World) (h : IsAt w a L) :
    Calls Try.prog 22 #[.int .i64 5, .slice a L.length cap] w (GivesLE w [] k) := by
  have q0 : (((k : Nat) : Int) != 0) = true := by rw [bne_iff_ne]; omega
  have HM := Lib.hid hM
  have HO := Lib.hid (fun w => pof_5 w)
  have HE := Lib.hid h
  clear hM h hk
  unfold GivesGE gv at HM
  unfold GivesLE
  go_enter Try.func22, Try.ntmps22
  go_wp2_with fail
  refine (HO.out w).mono ?_
  rintro e x1 ⟨rfl, hb⟩
  obtain ⟨Y, hY⟩ : ∃ Y, Y = x1.alloc (Obj.cells #[.int .i64 1, (.func (.func 61) #[] #[]), (.func (.func 62) #[] #[])] 60) := ⟨_, rfl⟩
  have HBY : Hid (Below w.heap.size w Y) := Lib.hid (by rw [hY]; exact hb.alloc hb.size _)
  have HFB : Hid (Blk Y x1.heap.size 60 #[.int .i64 1, (.func (.func 61) #[] #[]), (.func (.func 62) #[] #[])]) := Lib.hid (by rw [hY]; exact Blk.new _ _ _)
  have HEY := Lib.hid (HE.out.keep HBY.out)
  have HY := Lib.hid hY
  clear hY hb
  go_wp2_with fail
  rw [← HY.out]
  refine (HM.out _ HEY.out).mono ?_
  rintro r x2 ⟨a2, c2, rfl, -, -, hb2⟩
  obtain ⟨Z, hZ⟩ : ∃ Z, Z = x2.alloc (Obj.cells #[.int .i64 m, .slice a2 J.length c2] 31) := ⟨_, rfl⟩
  have hbz : Below Y.heap.size Y Z := by rw [hZ]; exact hb2.alloc hb2.size _
  have HBZ : Hid (Below w.heap.size w Z) := Lib.hid (HBY.out.trans (hbz.mono HBY.out.size))
  have HZZ := Lib.hid hZ
  clear hbz hZ hb2 HFB
  go_wp2
  go_ret2
  exact ⟨none, 0, rfl, RowAt.nil _ _ _ _, by rw [← HZZ.out]; exact HBZ.out⟩
set_option maxHeartbeats 12800000 in
set_option maxRecDepth 100000 in
theorem pcyc_ok_5 (a : Option Addr) (cap : Nat) (L : List Int) (m : Int) (J : List E) (hM : ∀ w, IsAt w a L → Calls Try.prog 29 #[.agg #[.int .i64 1, (.func (.func 61) #[] #[]), (.func (.func 62) #[] #[])], .slice a L.length cap] w (GivesGE w m J 0)) (M : List Int) (hMl : M.length ≤ 1000) (hord : ∀ w, IsAt w a L → Calls Try.prog 62 #[.slice a L.length cap] w (GivesO w M)) (w : World) (h : IsAt w a L) :
    Calls Try.prog 22 #[.int .i64 5, .slice a L.length cap] w (GivesLE w (no1 M) 0) := by
  have heq : ∀ w : World, (binOp BinOp.eql 58 (.func (.func 62) #[] #[]) .nilFunc).run Try.prog w = .ok (.bool false) w := fun _ => by kernel_rfl
  have HM := Lib.hid hM
  have HO := Lib.hid (fun w => pof_5 w)
  have HORD := Lib.hid hord
  have HDEL := Lib.hid (fun base v w h hb => pdel_own base v M (by omega) w h hb)
  have HE := Lib.hid h
  clear hM h hord hMl
  unfold GivesGE gv at HM
  unfold GivesO at HORD
  unfold GivesLE
  go_enter Try.func22, Try.ntmps22
  go_wp2_with fail
  refine (HO.out w).mono ?_
  rintro e x1 ⟨rfl, hb⟩
  obtain ⟨Y, hY⟩ : ∃ Y, Y = x1.alloc (Obj.cells #[.int .i64 1, (.func (.func 61) #[] #[]), (.func (.func 62) #[] #[])] 60) := ⟨_, rfl⟩
  have HBY : Hid (Below w.heap.size w Y) := Lib.hid (by rw [hY]; exact hb.alloc hb.size _)
  have HFB : Hid (Blk Y x1.heap.size 60 #[.int .i64 1, (.func (.func 61) #[] #[]), (.func (.func 62) #[] #[])]) := Lib.hid (by rw [hY]; exact Blk.new _ _ _)
  have HEY := Lib.hid (HE.out.keep HBY.out)
  have HY := Lib.hid hY
  clear hY hb
  go_wp2_with fail
  rw [← HY.out]
  refine (HM.out _ HEY.out).mono ?_
  rintro r x2 ⟨a2, c2, rfl, -, -, hb2⟩
  obtain ⟨Z, hZ⟩ : ∃ Z, Z = x2.alloc (Obj.cells #[.int .i64 m, .slice a2 J.length c2] 31) := ⟨_, rfl⟩
  have hbz : Below Y.heap.size Y Z := by rw [hZ]; exact hb2.alloc hb2.size _
  have HBZ : Hid (Below w.heap.size w Z) := Lib.hid (HBY.out.trans (hbz.mono HBY.out.size))
  have z2 : (x2.alloc (Obj.cells #[.int .i64 m, .slice a2 J.length c2] 31)).cell? ⟨x1.heap.size, 2, none⟩ = some (.func (.func 62) #[] #[]) := by rw [← hZ]; exact (HFB.out.below hbz HFB.out.lt).cell 2
  have HEZ := Lib.hid (HE.out.keep HBZ.out)
  have HZZ := Lib.hid hZ
  clear hbz hZ hb2 HFB
  go_wp2_with fail
  rw [← HZZ.out]
  refine (HORD.out Z HEZ.out).mono ?_
  rintro e x3 ⟨v, rfl, ho, hb3⟩
  have HO3 := Lib.hid ho
  have HB3 := Lib.hid hb3
  have HDC := Lib.hid (HDEL.out Z.heap.size v x3 HO3.out HB3.out.size)
  clear ho hb3 z2
  go_wp2_with fail
  refine HDC.out.mono ?_
  rintro e x4 ⟨a4, c4, rfl, h4, hb4⟩
  have H4 := Lib.hid h4
  have HB4 : Hid (Below w.heap.size w x4) := Lib.hid (HBZ.out.trans ((HB3.out.trans hb4).mono HBZ.out.size))
  clear h4 hb4
  go_wp2
  go_ret2
  exact ⟨a4, c4, rfl, H4.out, HB4.out⟩
end Go.Proofs.Ytgfbihdnjidodaa

namespace Go.Proofs.Ytgfbihdnjidodaa
open Go.RowKit Go.Shelf Go.Proofs.Gr
attribute [local go_sem] Oper.semAt_some

/-- The number of vertices, the edges. -/
def famN (kind : Nat) (L : List Int) : Nat := (seqV 0 (seqS kind L)).toNat
def famJ (kind : Nat) (L : List Int) : List E := joinT (cntT (seqP (seqS kind L)) (seqP (seqS kind L)).length) (famN kind L) (famN kind L)
/-- What comes out of Make. -/
def mkN (kind : Nat) (L : List Int) : Int := if famE kind L = 0 then (famN kind L : Nat) else 0
def mkJ (kind : Nat) (L : List Int) : List E := if famE kind L = 0 then famJ kind L else []
theorem fam_facts {kind : Nat} (hk : kind ≤ 8) {L : List Int} (h : famE kind L = 0) : 1 ≤ famN kind L ∧ famN kind L ≤ 12 ∧ seqV 0 (seqS kind L) = (famN kind L : Nat) ∧ vertK kind L = (famN kind L : Nat) ∧ goodP (famN kind L) (seqP (seqS kind L)) (endsR kind L) = true := by
  obtain ⟨N, h1, h2, h3, h4, h5⟩ := fam_good kind hk L h
  have e : famN kind L = N := by unfold famN; rw [h4]; simp
  rw [e]
  exact ⟨h1, h2, h4, h3, h5⟩
theorem fam_makes {kind : Nat} (hk : kind ≤ 8) {L : List Int} (h : famE kind L = 0) : Makes (seqV 0 (seqS kind L)) (seqP (seqS kind L)) (famN kind L : Nat) (famJ kind L) 0 ∧ Makes (vertK kind L) (endsR kind L) (famN kind L : Nat) (famJ kind L) 0 := by
  obtain ⟨h1, h2, h3, h4, h5⟩ := fam_facts hk h
  obtain ⟨g1, g2, g3, g4, g5, g6, g7⟩ := goodP_of h5
  refine ⟨?_, ?_⟩
  · rw [h3]; exact makes_right (famN kind L) h1 h2 _ g3 g1 g5
  · rw [h4]
    unfold famJ
    rw [g7]
    exact makes_right (famN kind L) h1 h2 _ g4 g2 g6
theorem famJ_len {kind : Nat} (hk : kind ≤ 8) {L : List Int} (h : famE kind L = 0) : (famJ kind L).length ≤ 100000 := (fam_makes hk h).1.1
theorem mkJ_len (kind : Nat) (hk : kind ≤ 8) (L : List Int) : (mkJ kind L).length ≤ 100000 := by
  unfold mkJ
  split
  · exact famJ_len hk (by assumption)
  · simp
theorem chk_fam {kind n : Nat} (hk : kind ≤ 8) (hn : n = sizK kind) {L : List Int} (h : chkF n L ≠ 0) : famE kind L = chkF n L := by
  unfold chkF at h ⊢
  unfold famE
  subst hn
  by_cases h1 : L.length ≠ sizK kind
  · rw [if_pos h1, if_pos h1]
  rw [if_neg h1] at h ⊢
  rw [if_neg h1]
  by_cases h2 : L.any (fun x => decide (x < 1)) = true
  · rw [if_pos h2, if_pos h2]
  rw [if_neg h2] at h ⊢
  rw [if_neg h2]
  by_cases h3 : L.any (fun x => decide (50 < x)) = true
  · rw [if_pos h3, if_pos ?_]
    obtain ⟨x, hx, h4⟩ := List.any_eq_true.1 h3
    have h4 : 50 < x := by simpa using h4
    unfold vertK
    by_cases e : kind = 4
    · subst e
      rw [if_pos rfl]
      obtain ⟨y, rfl⟩ := one_of (L := L) (by simp only [sizK] at h1; simpa using h1)
      obtain rfl : x = y := by simpa using hx
      rw [if_pos (show 50 < iAt [x] 0 from h4)]; decide
    · rw [if_neg e, if_pos (List.any_eq_true.2 ⟨x, hx, by simp; omega⟩)]; decide
  · rw [if_neg h3] at h; omega
theorem fam_five {kind n : Nat} (hk : kind ≤ 8) (hn : n = sizK kind) {L : List Int} (h : chkF n L = 0) (h2 : famE kind L ≠ 0) : famE kind L = 5 ∧ 12 < seqV 0 (seqS kind L) := by
  obtain ⟨h3, h4⟩ := chkF_zero h
  subst hn
  have hz : ¬ L.any (fun x => decide (x < 1)) = true := fun hh => by
    obtain ⟨x, hx, h5⟩ := List.any_eq_true.1 hh
    have := h4 x hx
    simp at h5; omega
  have hv : 12 < vertK kind L := by
    rcases Int.lt_or_le 12 (vertK kind L) with hh | hh
    · exact hh
    · exact absurd (by unfold famE; rw [if_neg (by simpa using h3), if_neg hz, if_neg (by omega)]) h2
  refine ⟨by unfold famE; rw [if_neg (by simpa using h3), if_neg hz, if_pos hv], fam_many kind hk L h3 (fun x hx => (h4 x hx).1) (fun x hx => (h4 x hx).2) hv⟩
theorem fam_chk {kind n : Nat} (hn : n = sizK kind) {L : List Int} (hk : kind ≤ 8) (h : famE kind L = 0) : chkF n L = 0 := by
  rcases Nat.eq_zero_or_pos (chkF n L) with h1 | h1
  · exact h1
  · have := chk_fam hk hn (L := L) (by omega); omega
/-- The orders that the program tells. -/
def cycM (kind : Nat) (L : List Int) : List Int := if famE kind L = 0 ∧ kind ≠ 7 then no1 (ordK kind L) else []
def cycE (kind : Nat) (L : List Int) : Nat := if famE kind L ≠ 0 then famE kind L else if kind = 7 then 15 else 0
theorem pGraph_0 (a : Option Addr) (cap : Nat) (L : List Int) (hL : L.length ≤ 1000000) (w : World) (h : IsAt w a L) :
    Calls Try.prog 29 #[.agg #[.int .i64 1, (.func (.func 53) #[] #[]), (.func (.func 54) #[] #[])], .slice a L.length cap] w (GivesGE w (mkN 0 L) (mkJ 0 L) (famE 0 L)) := by
  unfold mkN mkJ
  by_cases hc : chkF 1 L = 0
  · by_cases h0 : famE 0 L = 0
    · rw [h0, if_pos rfl, if_pos rfl]
      have hf := fam_facts (kind := 0) (by omega) h0
      exact pgraph_ok_0 a cap L hL hc (by rw [hf.2.2.1]; omega) _ _ _ (fam_makes (by omega) h0).1 w h
    · obtain ⟨h1, h2⟩ := fam_five (kind := 0) (n := 1) (by omega) rfl hc h0
      rw [if_neg h0, if_neg h0, h1]
      exact pgraph_many_0 a cap L hL hc h2 w h
  · have h1 := chk_fam (kind := 0) (n := 1) (by omega) rfl hc
    rw [if_neg (by omega), if_neg (by omega), h1]
    exact pgraph_err_0 a cap L hL hc w h
theorem pGraph_1 (a : Option Addr) (cap : Nat) (L : List Int) (hL : L.length ≤ 1000000) (w : World) (h : IsAt w a L) :
    Calls Try.prog 29 #[.agg #[.int .i64 1, (.func (.func 55) #[] #[]), (.func (.func 56) #[] #[])], .slice a L.length cap] w (GivesGE w (mkN 1 L) (mkJ 1 L) (famE 1 L)) := by
  unfold mkN mkJ
  by_cases hc : chkF 1 L = 0
  · by_cases h0 : famE 1 L = 0
    · rw [h0, if_pos rfl, if_pos rfl]
      have hf := fam_facts (kind := 1) (by omega) h0
      exact pgraph_ok_1 a cap L hL hc (by rw [hf.2.2.1]; omega) _ _ _ (fam_makes (by omega) h0).1 w h
    · obtain ⟨h1, h2⟩ := fam_five (kind := 1) (n := 1) (by omega) rfl hc h0
      rw [if_neg h0, if_neg h0, h1]
      exact pgraph_many_1 a cap L hL hc h2 w h
  · have h1 := chk_fam (kind := 1) (n := 1) (by omega) rfl hc
    rw [if_neg (by omega), if_neg (by omega), h1]
    exact pgraph_err_1 a cap L hL hc w h
theorem pGraph_2 (a : Option Addr) (cap : Nat) (L : List Int) (hL : L.length ≤ 1000000) (w : World) (h : IsAt w a L) :
    Calls Try.prog 29 #[.agg #[.int .i64 1, (.func (.func 57) #[] #[]), (.func (.func 54) #[] #[])], .slice a L.length cap] w (GivesGE w (mkN 2 L) (mkJ 2 L) (famE 2 L)) := by
  unfold mkN mkJ
  by_cases hc : chkF 1 L = 0
  · by_cases h0 : famE 2 L = 0
    · rw [h0, if_pos rfl, if_pos rfl]
      have hf := fam_facts (kind := 2) (by omega) h0
      exact pgraph_ok_2 a cap L hL hc (by rw [hf.2.2.1]; omega) _ _ _ (fam_makes (by omega) h0).1 w h
    · obtain ⟨h1, h2⟩ := fam_five (kind := 2) (n := 1) (by omega) rfl hc h0
      rw [if_neg h0, if_neg h0, h1]
      exact pgraph_many_2 a cap L hL hc h2 w h
  · have h1 := chk_fam (kind := 2) (n := 1) (by omega) rfl hc
    rw [if_neg (by omega), if_neg (by omega), h1]
    exact pgraph_err_2 a cap L hL hc w h
theorem pGraph_3 (a : Option Addr) (cap : Nat) (L : List Int) (hL : L.length ≤ 1000000) (w : World) (h : IsAt w a L) :
    Calls Try.prog 29 #[.agg #[.int .i64 1, (.func (.func 58) #[] #[]), (.func (.func 59) #[] #[])], .slice a L.length cap] w (GivesGE w (mkN 3 L) (mkJ 3 L) (famE 3 L)) := by
  unfold mkN mkJ
  by_cases hc : chkF 1 L = 0
  · by_cases h0 : famE 3 L = 0
    · rw [h0, if_pos rfl, if_pos rfl]
      have hf := fam_facts (kind := 3) (by omega) h0
      exact pgraph_ok_3 a cap L hL hc (by rw [hf.2.2.1]; omega) _ _ _ (fam_makes (by omega) h0).1 w h
    · obtain ⟨h1, h2⟩ := fam_five (kind := 3) (n := 1) (by omega) rfl hc h0
      rw [if_neg h0, if_neg h0, h1]
      exact pgraph_many_3 a cap L hL hc h2 w h
  · have h1 := chk_fam (kind := 3) (n := 1) (by omega) rfl hc
    rw [if_neg (by omega), if_neg (by omega), h1]
    exact pgraph_err_3 a cap L hL hc w h
theorem pGraph_4 (a : Option Addr) (cap : Nat) (L : List Int) (hL : L.length ≤ 1000000) (w : World) (h : IsAt w a L) :
    Calls Try.prog 29 #[.agg #[.int .i64 1, (.func (.func 60) #[] #[]), (.func (.func 56) #[] #[])], .slice a L.length cap] w (GivesGE w (mkN 4 L) (mkJ 4 L) (famE 4 L)) := by
  unfold mkN mkJ
  by_cases hc : chkF 1 L = 0
  · by_cases h0 : famE 4 L = 0
    · rw [h0, if_pos rfl, if_pos rfl]
      have hf := fam_facts (kind := 4) (by omega) h0
      exact pgraph_ok_4 a cap L hL hc (by rw [hf.2.2.1]; omega) _ _ _ (fam_makes (by omega) h0).1 w h
    · obtain ⟨h1, h2⟩ := fam_five (kind := 4) (n := 1) (by omega) rfl hc h0
      rw [if_neg h0, if_neg h0, h1]
      exact pgraph_many_4 a cap L hL hc h2 w h
  · have h1 := chk_fam (kind := 4) (n := 1) (by omega) rfl hc
    rw [if_neg (by omega), if_neg (by omega), h1]
    exact pgraph_err_4 a cap L hL hc w h
theorem pGraph_5 (a : Option Addr) (cap : Nat) (L : List Int) (hL : L.length ≤ 1000000) (w : World) (h : IsAt w a L) :
    Calls Try.prog 29 #[.agg #[.int .i64 1, (.func (.func 61) #[] #[]), (.func (.func 62) #[] #[])], .slice a L.length cap] w (GivesGE w (mkN 5 L) (mkJ 5 L) (famE 5 L)) := by
  unfold mkN mkJ
  by_cases hc : chkF 1 L = 0
  · by_cases h0 : famE 5 L = 0
    · rw [h0, if_pos rfl, if_pos rfl]
      have hf := fam_facts (kind := 5) (by omega) h0
      exact pgraph_ok_5 a cap L hL hc (by rw [hf.2.2.1]; omega) _ _ _ (fam_makes (by omega) h0).1 w h
    · obtain ⟨h1, h2⟩ := fam_five (kind := 5) (n := 1) (by omega) rfl hc h0
      rw [if_neg h0, if_neg h0, h1]
      exact pgraph_many_5 a cap L hL hc h2 w h
  · have h1 := chk_fam (kind := 5) (n := 1) (by omega) rfl hc
    rw [if_neg (by omega), if_neg (by omega), h1]
    exact pgraph_err_5 a cap L hL hc w h
theorem pGraph_6 (a : Option Addr) (cap : Nat) (L : List Int) (hL : L.length ≤ 1000000) (w : World) (h : IsAt w a L) :
    Calls Try.prog 29 #[.agg #[.int .i64 2, (.func (.func 63) #[] #[]), (.func (.func 64) #[] #[])], .slice a L.length cap] w (GivesGE w (mkN 6 L) (mkJ 6 L) (famE 6 L)) := by
  unfold mkN mkJ
  by_cases hc : chkF 2 L = 0
  · by_cases h0 : famE 6 L = 0
    · rw [h0, if_pos rfl, if_pos rfl]
      have hf := fam_facts (kind := 6) (by omega) h0
      exact pgraph_ok_6 a cap L hL hc (by rw [hf.2.2.1]; omega) _ _ _ (fam_makes (by omega) h0).1 w h
    · obtain ⟨h1, h2⟩ := fam_five (kind := 6) (n := 2) (by omega) rfl hc h0
      rw [if_neg h0, if_neg h0, h1]
      exact pgraph_many_6 a cap L hL hc h2 w h
  · have h1 := chk_fam (kind := 6) (n := 2) (by omega) rfl hc
    rw [if_neg (by omega), if_neg (by omega), h1]
    exact pgraph_err_6 a cap L hL hc w h
theorem pGraph_7 (a : Option Addr) (cap : Nat) (L : List Int) (hL : L.length ≤ 1000000) (w : World) (h : IsAt w a L) :
    Calls Try.prog 29 #[.agg #[.int .i64 2, (.func (.func 65) #[] #[]), Value.nilFunc], .slice a L.length cap] w (GivesGE w (mkN 7 L) (mkJ 7 L) (famE 7 L)) := by
  unfold mkN mkJ
  by_cases hc : chkF 2 L = 0
  · by_cases h0 : famE 7 L = 0
    · rw [h0, if_pos rfl, if_pos rfl]
      have hf := fam_facts (kind := 7) (by omega) h0
      exact pgraph_ok_7 a cap L hL hc (by rw [hf.2.2.1]; omega) _ _ _ (fam_makes (by omega) h0).1 w h
    · obtain ⟨h1, h2⟩ := fam_five (kind := 7) (n := 2) (by omega) rfl hc h0
      rw [if_neg h0, if_neg h0, h1]
      exact pgraph_many_7 a cap L hL hc h2 w h
  · have h1 := chk_fam (kind := 7) (n := 2) (by omega) rfl hc
    rw [if_neg (by omega), if_neg (by omega), h1]
    exact pgraph_err_7 a cap L hL hc w h
theorem pGraph_8 (a : Option Addr) (cap : Nat) (L : List Int) (hL : L.length ≤ 1000000) (w : World) (h : IsAt w a L) :
    Calls Try.prog 29 #[.agg #[.int .i64 3, (.func (.func 66) #[] #[]), (.func (.func 67) #[] #[])], .slice a L.length cap] w (GivesGE w (mkN 8 L) (mkJ 8 L) (famE 8 L)) := by
  unfold mkN mkJ
  by_cases hc : chkF 3 L = 0
  · by_cases h0 : famE 8 L = 0
    · rw [h0, if_pos rfl, if_pos rfl]
      have hf := fam_facts (kind := 8) (by omega) h0
      exact pgraph_ok_8 a cap L hL hc (by rw [hf.2.2.1]; omega) _ _ _ (fam_makes (by omega) h0).1 w h
    · obtain ⟨h1, h2⟩ := fam_five (kind := 8) (n := 3) (by omega) rfl hc h0
      rw [if_neg h0, if_neg h0, h1]
      exact pgraph_many_8 a cap L hL hc h2 w h
  · have h1 := chk_fam (kind := 8) (n := 3) (by omega) rfl hc
    rw [if_neg (by omega), if_neg (by omega), h1]
    exact pgraph_err_8 a cap L hL hc w h
theorem pMake_all (kind : Nat) (hk : kind ≤ 8) (a : Option Addr) (cap : Nat) (L : List Int) (hL : L.length ≤ 1000000) (w : World) (h : IsAt w a L) :
    Calls Try.prog 12 #[.int .i64 kind, .slice a L.length cap] w (GivesGE w (mkN kind L) (mkJ kind L) (famE kind L)) := by
  have K : kind = 0 ∨ kind = 1 ∨ kind = 2 ∨ kind = 3 ∨ kind = 4 ∨ kind = 5 ∨ kind = 6 ∨ kind = 7 ∨ kind = 8 := by omega
  rcases K with rfl | rfl | rfl | rfl | rfl | rfl | rfl | rfl | rfl
  · exact pmakeK_0 a cap L _ _ _ (fun w h => pGraph_0 a cap L hL w h) w h
  · exact pmakeK_1 a cap L _ _ _ (fun w h => pGraph_1 a cap L hL w h) w h
  · exact pmakeK_2 a cap L _ _ _ (fun w h => pGraph_2 a cap L hL w h) w h
  · exact pmakeK_3 a cap L _ _ _ (fun w h => pGraph_3 a cap L hL w h) w h
  · exact pmakeK_4 a cap L _ _ _ (fun w h => pGraph_4 a cap L hL w h) w h
  · exact pmakeK_5 a cap L _ _ _ (fun w h => pGraph_5 a cap L hL w h) w h
  · exact pmakeK_6 a cap L _ _ _ (fun w h => pGraph_6 a cap L hL w h) w h
  · exact pmakeK_7 a cap L _ _ _ (fun w h => pGraph_7 a cap L hL w h) w h
  · exact pmakeK_8 a cap L _ _ _ (fun w h => pGraph_8 a cap L hL w h) w h
theorem ordK_len (kind : Nat) (L : List Int) (h : famE kind L = 0) (hk : kind ≤ 8) : (ordK kind L).length ≤ 1000 := by
  have hc := fam_chk (n := sizK kind) rfl hk h
  have K : kind = 0 ∨ kind = 1 ∨ kind = 2 ∨ kind = 3 ∨ kind = 4 ∨ kind = 5 ∨ kind = 6 ∨ kind = 7 ∨ kind = 8 := by omega
  rcases K with rfl | rfl | rfl | rfl | rfl | rfl | rfl | rfl | rfl
  · simp [ordK]
  · simp [ordK]
  · simp [ordK]
  · have c0 := chkF_at hc 0 (by decide)
    simp only [ordK, List.length_replicate]; omega
  · simp [ordK]
  · simp only [ordK, ordW]; split <;> simp
  · have c0 := chkF_at hc 0 (by decide)
    have c1 := chkF_at hc 1 (by decide)
    simp only [ordK, ordB]
    split
    · simp
    · simp only [List.length_append, List.length_replicate, List.length_singleton]; omega
  · simp [ordK]
  · simp [ordK, ordT]
theorem pCyc_all (kind : Nat) (hk : kind ≤ 8) (a : Option Addr) (cap : Nat) (L : List Int) (hL : L.length ≤ 1000000) (w : World) (h : IsAt w a L) :
    Calls Try.prog 22 #[.int .i64 kind, .slice a L.length cap] w (GivesLE w (cycM kind L) (cycE kind L)) := by
  unfold cycM cycE
  have K : kind = 0 ∨ kind = 1 ∨ kind = 2 ∨ kind = 3 ∨ kind = 4 ∨ kind = 5 ∨ kind = 6 ∨ kind = 7 ∨ kind = 8 := by omega
  rcases K with rfl | rfl | rfl | rfl | rfl | rfl | rfl | rfl | rfl
  · by_cases h0 : famE 0 L = 0
    · have hG := fun w h => pGraph_0 a cap L hL w h
      rw [h0] at hG
      rw [if_pos ⟨h0, by omega⟩, if_neg (by omega), if_neg (by omega)]
      have hc := fam_chk (kind := 0) (n := 1) rfl (by omega) h0
      clear hc
      exact pcyc_ok_0 a cap L _ _ hG (ordK 0 L) (ordK_len 0 L h0 (by omega)) (fun w h => pno_ord _ w) w h
    · rw [if_neg (by omega), if_pos h0]
      exact pcyc_err_0 a cap L _ _ _ h0 (fun w h => pGraph_0 a cap L hL w h) w h
  · by_cases h0 : famE 1 L = 0
    · have hG := fun w h => pGraph_1 a cap L hL w h
      rw [h0] at hG
      rw [if_pos ⟨h0, by omega⟩, if_neg (by omega), if_neg (by omega)]
      have hc := fam_chk (kind := 1) (n := 1) rfl (by omega) h0
      have c0 := chkF_at hc 0 (by omega)
      exact pcyc_ok_1 a cap L _ _ hG (ordK 1 L) (ordK_len 1 L h0 (by omega)) (fun w h => pone_ord a cap L _ c0.1 c0.2.2.2.1 w h) w h
    · rw [if_neg (by omega), if_pos h0]
      exact pcyc_err_1 a cap L _ _ _ h0 (fun w h => pGraph_1 a cap L hL w h) w h
  · by_cases h0 : famE 2 L = 0
    · have hG := fun w h => pGraph_2 a cap L hL w h
      rw [h0] at hG
      rw [if_pos ⟨h0, by omega⟩, if_neg (by omega), if_neg (by omega)]
      have hc := fam_chk (kind := 2) (n := 1) rfl (by omega) h0
      clear hc
      exact pcyc_ok_2 a cap L _ _ hG (ordK 2 L) (ordK_len 2 L h0 (by omega)) (fun w h => pno_ord _ w) w h
    · rw [if_neg (by omega), if_pos h0]
      exact pcyc_err_2 a cap L _ _ _ h0 (fun w h => pGraph_2 a cap L hL w h) w h
  · by_cases h0 : famE 3 L = 0
    · have hG := fun w h => pGraph_3 a cap L hL w h
      rw [h0] at hG
      rw [if_pos ⟨h0, by omega⟩, if_neg (by omega), if_neg (by omega)]
      have hc := fam_chk (kind := 3) (n := 1) rfl (by omega) h0
      have c0 := chkF_at hc 0 (by omega)
      exact pcyc_ok_3 a cap L _ _ hG (ordK 3 L) (ordK_len 3 L h0 (by omega)) (fun w h => pcomplete_ord a cap L _ c0.1 c0.2.2.2.1 (by omega) w h) w h
    · rw [if_neg (by omega), if_pos h0]
      exact pcyc_err_3 a cap L _ _ _ h0 (fun w h => pGraph_3 a cap L hL w h) w h
  · by_cases h0 : famE 4 L = 0
    · have hG := fun w h => pGraph_4 a cap L hL w h
      rw [h0] at hG
      rw [if_pos ⟨h0, by omega⟩, if_neg (by omega), if_neg (by omega)]
      have hc := fam_chk (kind := 4) (n := 1) rfl (by omega) h0
      have c0 := chkF_at hc 0 (by omega)
      exact pcyc_ok_4 a cap L _ _ hG (ordK 4 L) (ordK_len 4 L h0 (by omega)) (fun w h => pone_ord a cap L _ c0.1 c0.2.2.2.1 w h) w h
    · rw [if_neg (by omega), if_pos h0]
      exact pcyc_err_4 a cap L _ _ _ h0 (fun w h => pGraph_4 a cap L hL w h) w h
  · by_cases h0 : famE 5 L = 0
    · have hG := fun w h => pGraph_5 a cap L hL w h
      rw [h0] at hG
      rw [if_pos ⟨h0, by omega⟩, if_neg (by omega), if_neg (by omega)]
      have hc := fam_chk (kind := 5) (n := 1) rfl (by omega) h0
      have c0 := chkF_at hc 0 (by omega)
      exact pcyc_ok_5 a cap L _ _ hG (ordK 5 L) (ordK_len 5 L h0 (by omega)) (fun w h => pwheel_ord a cap L _ c0.1 c0.2.2.2.1 (by omega) w h) w h
    · rw [if_neg (by omega), if_pos h0]
      exact pcyc_err_5 a cap L _ _ _ h0 (fun w h => pGraph_5 a cap L hL w h) w h
  · by_cases h0 : famE 6 L = 0
    · have hG := fun w h => pGraph_6 a cap L hL w h
      rw [h0] at hG
      rw [if_pos ⟨h0, by omega⟩, if_neg (by omega), if_neg (by omega)]
      have hc := fam_chk (kind := 6) (n := 2) rfl (by omega) h0
      have c0 := chkF_at hc 0 (by omega)
      have c1 := chkF_at hc 1 (by omega)
      exact pcyc_ok_6 a cap L _ _ hG (ordK 6 L) (ordK_len 6 L h0 (by omega)) (fun w h => pbipartite_ord a cap L _ _ c1.1 c0.2.2.2.1 (by omega) c1.2.2.2.1 (by omega) w h) w h
    · rw [if_neg (by omega), if_pos h0]
      exact pcyc_err_6 a cap L _ _ _ h0 (fun w h => pGraph_6 a cap L hL w h) w h
  · by_cases h0 : famE 7 L = 0
    · have hG := fun w h => pGraph_7 a cap L hL w h
      rw [h0] at hG
      rw [if_neg (by omega), if_neg (by omega), if_pos rfl]
      exact pcyc_ok_7 a cap L _ _ hG w h
    · rw [if_neg (by omega), if_pos h0]
      exact pcyc_err_7 a cap L _ _ _ h0 (fun w h => pGraph_7 a cap L hL w h) w h
  · by_cases h0 : famE 8 L = 0
    · have hG := fun w h => pGraph_8 a cap L hL w h
      rw [h0] at hG
      rw [if_pos ⟨h0, by omega⟩, if_neg (by omega), if_neg (by omega)]
      have hc := fam_chk (kind := 8) (n := 3) rfl (by omega) h0
      have c0 := chkF_at hc 0 (by omega)
      have c1 := chkF_at hc 1 (by omega)
      have c2 := chkF_at hc 2 (by omega)
      exact pcyc_ok_8 a cap L _ _ hG (ordK 8 L) (ordK_len 8 L h0 (by omega)) (fun w h => ptheta_ord a cap L _ _ _ c2.1 c0.2.2.2.1 (by omega) c1.2.2.2.1 (by omega) c2.2.2.2.1 (by omega) w h) w h
    · rw [if_neg (by omega), if_pos h0]
      exact pcyc_err_8 a cap L _ _ _ h0 (fun w h => pGraph_8 a cap L hL w h) w h
theorem cycM_len (kind : Nat) (L : List Int) (hk : kind ≤ 8) : (cycM kind L).length ≤ 1000 := by
  unfold cycM
  split
  · rename_i h
    exact Nat.le_trans (no1_len _) (ordK_len kind L h.1 hk)
  · simp
end Go.Proofs.Ytgfbihdnjidodaa

namespace Go.Proofs.Ytgfbihdnjidodaa
open Go.RowKit Go.Shelf Go.Proofs.Gr
attribute [local go_sem] Oper.semAt_some

theorem pTrees_of (kind : Nat) (hk : kind ≤ 8) (L : List Int) (hL : L.length ≤ 1000000) (z : Int) (hz : z = if cycE kind L = 0 then prodI (cycM kind L) (cycM kind L).length else 0) (hok : ∀ i, i ≤ (cycM kind L).length → 0 ≤ prodI (cycM kind L) i ∧ prodI (cycM kind L) i ≤ 4611686018427387904) (a : Option Addr) (cap : Nat) (w : World) (h : IsAt w a L) :
    Calls Try.prog 18 #[.int .i64 kind, .slice a L.length cap] w (GivesZE w z (cycE kind L)) := by
  have hC := fun w h => pCyc_all kind hk a cap L hL w h
  rw [hz]
  by_cases h0 : cycE kind L = 0
  · rw [if_pos h0]
    rw [h0] at hC ⊢
    exact ptrees_ok kind a cap L _ (Nat.le_trans (cycM_len kind L hk) (by omega)) hok hC w h
  · rw [if_neg h0]
    have e : cycM kind L = [] := by
      unfold cycM
      rw [if_neg]
      rintro ⟨h1, h2⟩
      exact h0 (by unfold cycE; rw [if_neg (by omega), if_neg h2])
    rw [e] at hC
    exact ptrees_err kind a cap L _ h0 hC w h
/-- All products of the first numbers are small. -/
def okP (M : List Int) : Bool := (List.range (M.length + 1)).all fun i => decide (0 ≤ prodI M i) && decide (prodI M i ≤ 4611686018427387904)
theorem okP_of {M : List Int} (h : okP M = true) : ∀ i, i ≤ M.length → 0 ≤ prodI M i ∧ prodI M i ≤ 4611686018427387904 := by
  unfold okP at h
  simp only [List.all_eq_true, List.mem_range, Bool.and_eq_true, decide_eq_true_eq] at h
  exact fun i hi => h i (by omega)
def aJ1 : List E := [⟨0, 1, 1⟩, ⟨0, 2, 1⟩, ⟨0, 3, 1⟩, ⟨0, 4, 1⟩, ⟨1, 2, 1⟩, ⟨1, 4, 1⟩, ⟨2, 3, 1⟩, ⟨3, 4, 1⟩]
def aJ2 : List E := [⟨0, 2, 1⟩, ⟨0, 3, 1⟩, ⟨0, 4, 1⟩, ⟨1, 2, 1⟩, ⟨1, 3, 1⟩, ⟨1, 6, 1⟩, ⟨4, 5, 1⟩, ⟨5, 6, 1⟩]
def aP1 : List (Int × Int) := [(0, 1), (0, 2), (0, 3), (0, 4), (1, 2), (1, 4), (2, 3), (3, 4)]
def aP2 : List (Int × Int) := [(0, 2), (0, 3), (0, 4), (1, 2), (1, 3), (1, 6), (4, 5), (5, 6)]
set_option maxRecDepth 100000 in
theorem aw1 : famE 5 [4] = 0 ∧ famN 5 [4] = 5 ∧ famJ 5 [4] = aJ1 ∧ cycM 5 [4] = [3, 15] ∧ cycE 5 [4] = 0 ∧ okP [3, 15] = true ∧ prodI [3, 15] 2 = 45 ∧ genU 5 aJ1 = 4 ∧ chkG 5 aJ1 = 0 ∧ endsG aJ1 = aP1 := by decide +kernel
set_option maxRecDepth 100000 in
theorem aw2 : famE 8 [2, 2, 4] = 0 ∧ famN 8 [2, 2, 4] = 7 ∧ famJ 8 [2, 2, 4] = aJ2 ∧ cycM 8 [2, 2, 4] = [2, 10] ∧ cycE 8 [2, 2, 4] = 0 ∧ chkG 7 aJ2 = 0 ∧ endsG aJ2 = aP2 := by decide +kernel
set_option maxRecDepth 100000 in
theorem aw3 : famE 6 [2, 3] = 0 ∧ cycM 6 [2, 3] = [2, 6] ∧ cycE 6 [2, 3] = 0 ∧ okP [2, 6] = true ∧ prodI [2, 6] 2 = 12 := by decide +kernel
/-- A graph in a box. -/
def BoxAt (x : World) (b : Nat) (n : Int) (a : Option Addr) (l c : Nat) : Prop := Blk x b 31 #[.int .i64 n, .slice a l c]
theorem BoxAt.keep {x y : World} {b : Nat} {n : Int} {a : Option Addr} {l c : Nat} (h : BoxAt x b n a l c) (hb : Below x.heap.size x y) : BoxAt y b n a l c := Blk.below h hb h.lt
theorem conMk (kind : Nat) (L : List Int) (N : Nat) (J : List E) (hk : kind ≤ 8) (hL : L.length ≤ 1000000) (h0 : famE kind L = 0) (h1 : famN kind L = N) (h2 : famJ kind L = J) (a : Option Addr) (cap : Nat) (w : World) (h : IsAt w a L) :
    Calls Try.prog 12 #[.int .i64 kind, .slice a L.length cap] w (fun e x => ∃ a c, e = .returned (.tuple #[.agg #[.int .i64 N, .slice a J.length c], .int .i64 0]) ∧ EsAt x a J ∧ Below w.heap.size w x) := by
  refine (pMake_all kind hk a cap L hL w h).mono ?_
  have e1 : mkN kind L = (N : Nat) := by unfold mkN; rw [if_pos h0, h1]
  have e2 : mkJ kind L = J := by unfold mkJ; rw [if_pos h0, h2]
  rintro e x ⟨a', c', rfl, he, -, hb⟩
  rw [e1, e2, h0]
  rw [e2] at he
  exact ⟨a', c', rfl, he, hb⟩
theorem conTr (kind : Nat) (L : List Int) (z : Int) (hk : kind ≤ 8) (hL : L.length ≤ 1000000) (h0 : cycE kind L = 0) (hok : okP (cycM kind L) = true) (hz : prodI (cycM kind L) (cycM kind L).length = z) (a : Option Addr) (cap : Nat) (w : World) (h : IsAt w a L) :
    Calls Try.prog 18 #[.int .i64 kind, .slice a L.length cap] w (fun e x => e = .returned (.tuple #[.int .i64 z, .int .i64 0]) ∧ Below w.heap.size w x) := by
  have := pTrees_of kind hk L hL z (by rw [if_pos h0, hz]) (okP_of hok) a cap w h
  rw [h0] at this
  exact this
theorem conCy (kind : Nat) (L M : List Int) (hk : kind ≤ 8) (hL : L.length ≤ 1000000) (h1 : cycM kind L = M) (h0 : cycE kind L = 0) (a : Option Addr) (cap : Nat) (w : World) (h : IsAt w a L) :
    Calls Try.prog 22 #[.int .i64 kind, .slice a L.length cap] w (fun e x => ∃ a c, e = .returned (.tuple #[.slice a M.length c, .int .i64 0]) ∧ IsAt x a M ∧ Below w.heap.size w x) := by
  have := pCyc_all kind hk a cap L hL w h
  rw [h0, h1] at this
  exact this
theorem conGe (kind : Nat) (L : List Int) (N : Nat) (J : List E) (z : Int) (hk : kind ≤ 8) (hL : L.length ≤ 1000000) (h0 : famE kind L = 0) (h1 : famN kind L = N) (h2 : famJ kind L = J) (hJ : J.length ≤ 100000) (hc : chkG N J = 0) (hz : genU N J = z) (a : Option Addr) (cap : Nat) (w : World) (h : IsAt w a L) :
    Calls Try.prog 20 #[.int .i64 kind, .slice a L.length cap] w (fun e x => e = .returned (.tuple #[.int .i64 z, .int .i64 0]) ∧ Below w.heap.size w x) := by
  have hm := fun w h => pMake_all kind hk a cap L hL w h
  rw [show mkN kind L = (N : Nat) by unfold mkN; rw [if_pos h0, h1], show mkJ kind L = J by unfold mkJ; rw [if_pos h0, h2], h0] at hm
  have := pgenusF_ok kind a cap L N J hJ hc hm w h
  rw [hz] at this
  exact this
theorem conEn (n : Int) (J : List E) (P : List (Int × Int)) (l : Nat) (hl : J.length = l) (hp : P.length = l) (hJ : J.length ≤ 100000) (hc : chkG n J = 0) (he : endsG J = P) (a : Option Addr) (c : Nat) (w : World) (h : EsAt w a J) :
    Calls Try.prog 27 #[.agg #[.int .i64 n, .slice a l c]] w (fun e x => ∃ a c, e = .returned (.slice a l c) ∧ PsAt x a P ∧ Below w.heap.size w x) := by
  have := rends_any n a c J hJ (right_of hc) w h
  rw [he] at this
  rw [← hl]
  refine this.mono ?_
  rintro e x ⟨a', c', rfl, h1, h2⟩
  exact ⟨a', c', by rw [hp, hl], h1, h2⟩
set_option maxHeartbeats 12800000 in
set_option maxRecDepth 100000 in
theorem awakeF_any (w : World) : Calls Try.prog 9 #[] w (fun e x => e = .returned (.bool true) ∧ Below w.heap.size w x) := by
  go_enter Try.func9, Try.ntmps9
  obtain ⟨Y1, hY1⟩ : ∃ Y, Y = w.alloc (Obj.cells #[.int .i64 4] 3) := ⟨_, rfl⟩
  have hI1 : IsAt Y1 (some ⟨w.heap.size, 0, none⟩) [4] := by
    rw [hY1]
    exact RowAt.of_blkF (k := 1) (enc := encI) encI_len (Blk.new _ _ _) rfl
  have hB1 : Below w.heap.size w Y1 := by rw [hY1]; exact (Below.refl _ _).alloc (Nat.le_refl _) _
  have HC1 : Hid (Calls Try.prog 12 #[.int .i64 5, .slice (some ⟨w.heap.size, 0, none⟩) 1 1] Y1 (fun e x => ∃ a c, e = .returned (.tuple #[.agg #[.int .i64 5, .slice a 8 c], .int .i64 0]) ∧ EsAt x a aJ1 ∧ Below Y1.heap.size Y1 x)) := Lib.hid (conMk 5 [4] 5 aJ1 (by omega) (by simp) aw1.1 aw1.2.1 aw1.2.2.1 (some ⟨w.heap.size, 0, none⟩) 1 Y1 hI1)
  have HY1 := Lib.hid hY1
  have HBY1 : Hid (Below w.heap.size w Y1) := Lib.hid (hB1)
  clear hY1 hI1 hB1
  go_wp2_with fail
  rw [← HY1.out]
  refine HC1.out.mono ?_
  rintro e x1 ⟨aa1, cc1, rfl, he1, hb1⟩
  have HB_x1 := Lib.hid (HBY1.out.trans (hb1.mono HBY1.out.size))
  have E1_x1 := Lib.hid he1
  clear hb1 he1
  obtain ⟨Z1, hZ1⟩ : ∃ Z, Z = x1.alloc (Obj.cells #[.int .i64 5, .slice aa1 8 cc1] 31) := ⟨_, rfl⟩
  have hz1 : Below x1.heap.size x1 Z1 := by rw [hZ1]; exact (Below.refl _ _).alloc (Nat.le_refl _) _
  have HB_Z1 := Lib.hid (HB_x1.out.trans (hz1.mono HB_x1.out.size))
  obtain ⟨bb1, hbb1⟩ : ∃ b, b = x1.heap.size := ⟨_, rfl⟩
  have Hbb1 : Hid (bb1 = x1.heap.size) := Lib.hid hbb1
  have hBX1 : Blk Z1 bb1 31 #[.int .i64 5, .slice aa1 8 cc1] := by rw [hZ1, hbb1]; exact Blk.new _ _ _
  have bb1B_Z1 : Hid (BoxAt Z1 bb1 5 aa1 8 cc1) := Lib.hid hBX1
  have E1_Z1 := Lib.hid (E1_x1.out.keep hz1)
  have HZ1 := Lib.hid hZ1
  clear hZ1 hz1 hBX1 hbb1
  obtain ⟨Y2, hY2⟩ : ∃ Y, Y = Z1.alloc (Obj.cells #[.int .i64 4] 3) := ⟨_, rfl⟩
  have hI2 : IsAt Y2 (some ⟨x1.heap.size + 1, 0, none⟩) [4] := by
    have e9 : Z1.heap.size = x1.heap.size + 1 := by rw [HZ1.out]; simp
    rw [hY2, ← e9]
    exact RowAt.of_blkF (k := 1) (enc := encI) encI_len (Blk.new _ _ _) rfl
  have hB2 : Below Z1.heap.size Z1 Y2 := by rw [hY2]; exact (Below.refl _ _).alloc (Nat.le_refl _) _
  have HC2 : Hid (Calls Try.prog 18 #[.int .i64 5, .slice (some ⟨x1.heap.size + 1, 0, none⟩) 1 1] Y2 (fun e x => e = .returned (.tuple #[.int .i64 45, .int .i64 0]) ∧ Below Y2.heap.size Y2 x)) := Lib.hid (conTr 5 [4] 45 (by omega) (by simp) aw1.2.2.2.2.1 (by rw [aw1.2.2.2.1]; exact aw1.2.2.2.2.2.1) (by rw [aw1.2.2.2.1]; exact aw1.2.2.2.2.2.2.1) (some ⟨x1.heap.size + 1, 0, none⟩) 1 Y2 hI2)
  have HY2 := Lib.hid hY2
  have HBY2 : Hid (Below w.heap.size w Y2) := Lib.hid (HB_Z1.out.trans (hB2.mono HB_Z1.out.size))
  have E1_Y2 := Lib.hid (E1_Z1.out.keep hB2)
  have bb1B_Y2 := Lib.hid (bb1B_Z1.out.keep hB2)
  clear hY2 hI2 hB2
  go_wp2_with fail
  rw [← HZ1.out, ← HY2.out]
  refine HC2.out.mono ?_
  rintro e x2 ⟨rfl, hb2⟩
  have HB_x2 := Lib.hid (HBY2.out.trans (hb2.mono HBY2.out.size))
  have E1_x2 := Lib.hid (E1_Y2.out.keep hb2)
  have bb1B_x2 := Lib.hid (bb1B_Y2.out.keep hb2)
  clear hb2
  obtain ⟨Y3, hY3⟩ : ∃ Y, Y = x2.alloc (Obj.cells #[.int .i64 4] 3) := ⟨_, rfl⟩
  have hI3 : IsAt Y3 (some ⟨x2.heap.size, 0, none⟩) [4] := by
    rw [hY3]
    exact RowAt.of_blkF (k := 1) (enc := encI) encI_len (Blk.new _ _ _) rfl
  have hB3 : Below x2.heap.size x2 Y3 := by rw [hY3]; exact (Below.refl _ _).alloc (Nat.le_refl _) _
  have HC3 : Hid (Calls Try.prog 22 #[.int .i64 5, .slice (some ⟨x2.heap.size, 0, none⟩) 1 1] Y3 (fun e x => ∃ a c, e = .returned (.tuple #[.slice a 2 c, .int .i64 0]) ∧ IsAt x a [3, 15] ∧ Below Y3.heap.size Y3 x)) := Lib.hid (conCy 5 [4] [3, 15] (by omega) (by simp) aw1.2.2.2.1 aw1.2.2.2.2.1 (some ⟨x2.heap.size, 0, none⟩) 1 Y3 hI3)
  have HY3 := Lib.hid hY3
  have HBY3 : Hid (Below w.heap.size w Y3) := Lib.hid (HB_x2.out.trans (hB3.mono HB_x2.out.size))
  have E1_Y3 := Lib.hid (E1_x2.out.keep hB3)
  have bb1B_Y3 := Lib.hid (bb1B_x2.out.keep hB3)
  clear hY3 hI3 hB3
  go_wp2_with fail
  rw [← HY3.out]
  refine HC3.out.mono ?_
  rintro e x3 ⟨aa3, cc3, rfl, hm3, hb3⟩
  have HB_x3 := Lib.hid (HBY3.out.trans (hb3.mono HBY3.out.size))
  have E1_x3 := Lib.hid (E1_Y3.out.keep hb3)
  have bb1B_x3 := Lib.hid (bb1B_Y3.out.keep hb3)
  have M3_x3 := Lib.hid hm3
  clear hb3 hm3
  obtain ⟨Y4, hY4⟩ : ∃ Y, Y = x3.alloc (Obj.cells #[.int .i64 4] 3) := ⟨_, rfl⟩
  have hI4 : IsAt Y4 (some ⟨x3.heap.size, 0, none⟩) [4] := by
    rw [hY4]
    exact RowAt.of_blkF (k := 1) (enc := encI) encI_len (Blk.new _ _ _) rfl
  have hB4 : Below x3.heap.size x3 Y4 := by rw [hY4]; exact (Below.refl _ _).alloc (Nat.le_refl _) _
  have HC4 : Hid (Calls Try.prog 20 #[.int .i64 5, .slice (some ⟨x3.heap.size, 0, none⟩) 1 1] Y4 (fun e x => e = .returned (.tuple #[.int .i64 4, .int .i64 0]) ∧ Below Y4.heap.size Y4 x)) := Lib.hid (conGe 5 [4] 5 aJ1 4 (by omega) (by simp) aw1.1 aw1.2.1 aw1.2.2.1 (by decide) aw1.2.2.2.2.2.2.2.2.1 aw1.2.2.2.2.2.2.2.1 (some ⟨x3.heap.size, 0, none⟩) 1 Y4 hI4)
  have HY4 := Lib.hid hY4
  have HBY4 : Hid (Below w.heap.size w Y4) := Lib.hid (HB_x3.out.trans (hB4.mono HB_x3.out.size))
  have E1_Y4 := Lib.hid (E1_x3.out.keep hB4)
  have bb1B_Y4 := Lib.hid (bb1B_x3.out.keep hB4)
  have M3_Y4 := Lib.hid (M3_x3.out.keep hB4)
  clear hY4 hI4 hB4
  go_wp2_with fail
  rw [← HY4.out]
  refine HC4.out.mono ?_
  rintro e x4 ⟨rfl, hb4⟩
  have HB_x4 := Lib.hid (HBY4.out.trans (hb4.mono HBY4.out.size))
  have E1_x4 := Lib.hid (E1_Y4.out.keep hb4)
  have bb1B_x4 := Lib.hid (bb1B_Y4.out.keep hb4)
  have M3_x4 := Lib.hid (M3_Y4.out.keep hb4)
  clear hb4
  obtain ⟨Y5, hY5⟩ : ∃ Y, Y = x4.alloc (Obj.cells #[.int .i64 2, .int .i64 2, .int .i64 4] 3) := ⟨_, rfl⟩
  have hI5 : IsAt Y5 (some ⟨x4.heap.size, 0, none⟩) [2, 2, 4] := by
    rw [hY5]
    exact RowAt.of_blkF (k := 1) (enc := encI) encI_len (Blk.new _ _ _) rfl
  have hB5 : Below x4.heap.size x4 Y5 := by rw [hY5]; exact (Below.refl _ _).alloc (Nat.le_refl _) _
  have HC5 : Hid (Calls Try.prog 12 #[.int .i64 8, .slice (some ⟨x4.heap.size, 0, none⟩) 3 3] Y5 (fun e x => ∃ a c, e = .returned (.tuple #[.agg #[.int .i64 7, .slice a 8 c], .int .i64 0]) ∧ EsAt x a aJ2 ∧ Below Y5.heap.size Y5 x)) := Lib.hid (conMk 8 [2, 2, 4] 7 aJ2 (by omega) (by simp) aw2.1 aw2.2.1 aw2.2.2.1 (some ⟨x4.heap.size, 0, none⟩) 3 Y5 hI5)
  have HY5 := Lib.hid hY5
  have HBY5 : Hid (Below w.heap.size w Y5) := Lib.hid (HB_x4.out.trans (hB5.mono HB_x4.out.size))
  have E1_Y5 := Lib.hid (E1_x4.out.keep hB5)
  have bb1B_Y5 := Lib.hid (bb1B_x4.out.keep hB5)
  have M3_Y5 := Lib.hid (M3_x4.out.keep hB5)
  clear hY5 hI5 hB5
  go_wp2_with fail
  rw [← HY5.out]
  refine HC5.out.mono ?_
  rintro e x5 ⟨aa5, cc5, rfl, he5, hb5⟩
  have HB_x5 := Lib.hid (HBY5.out.trans (hb5.mono HBY5.out.size))
  have E1_x5 := Lib.hid (E1_Y5.out.keep hb5)
  have bb1B_x5 := Lib.hid (bb1B_Y5.out.keep hb5)
  have M3_x5 := Lib.hid (M3_Y5.out.keep hb5)
  have E5_x5 := Lib.hid he5
  clear hb5 he5
  obtain ⟨Z5, hZ5⟩ : ∃ Z, Z = x5.alloc (Obj.cells #[.int .i64 7, .slice aa5 8 cc5] 31) := ⟨_, rfl⟩
  have hz5 : Below x5.heap.size x5 Z5 := by rw [hZ5]; exact (Below.refl _ _).alloc (Nat.le_refl _) _
  have HB_Z5 := Lib.hid (HB_x5.out.trans (hz5.mono HB_x5.out.size))
  obtain ⟨bb5, hbb5⟩ : ∃ b, b = x5.heap.size := ⟨_, rfl⟩
  have Hbb5 : Hid (bb5 = x5.heap.size) := Lib.hid hbb5
  have hBX5 : Blk Z5 bb5 31 #[.int .i64 7, .slice aa5 8 cc5] := by rw [hZ5, hbb5]; exact Blk.new _ _ _
  have bb5B_Z5 : Hid (BoxAt Z5 bb5 7 aa5 8 cc5) := Lib.hid hBX5
  have E1_Z5 := Lib.hid (E1_x5.out.keep hz5)
  have bb1B_Z5 := Lib.hid (bb1B_x5.out.keep hz5)
  have M3_Z5 := Lib.hid (M3_x5.out.keep hz5)
  have E5_Z5 := Lib.hid (E5_x5.out.keep hz5)
  have HZ5 := Lib.hid hZ5
  clear hZ5 hz5 hBX5 hbb5
  obtain ⟨Y6, hY6⟩ : ∃ Y, Y = Z5.alloc (Obj.cells #[.int .i64 2, .int .i64 2, .int .i64 4] 3) := ⟨_, rfl⟩
  have hI6 : IsAt Y6 (some ⟨x5.heap.size + 1, 0, none⟩) [2, 2, 4] := by
    have e9 : Z5.heap.size = x5.heap.size + 1 := by rw [HZ5.out]; simp
    rw [hY6, ← e9]
    exact RowAt.of_blkF (k := 1) (enc := encI) encI_len (Blk.new _ _ _) rfl
  have hB6 : Below Z5.heap.size Z5 Y6 := by rw [hY6]; exact (Below.refl _ _).alloc (Nat.le_refl _) _
  have HC6 : Hid (Calls Try.prog 22 #[.int .i64 8, .slice (some ⟨x5.heap.size + 1, 0, none⟩) 3 3] Y6 (fun e x => ∃ a c, e = .returned (.tuple #[.slice a 2 c, .int .i64 0]) ∧ IsAt x a [2, 10] ∧ Below Y6.heap.size Y6 x)) := Lib.hid (conCy 8 [2, 2, 4] [2, 10] (by omega) (by simp) aw2.2.2.2.1 aw2.2.2.2.2.1 (some ⟨x5.heap.size + 1, 0, none⟩) 3 Y6 hI6)
  have HY6 := Lib.hid hY6
  have HBY6 : Hid (Below w.heap.size w Y6) := Lib.hid (HB_Z5.out.trans (hB6.mono HB_Z5.out.size))
  have E1_Y6 := Lib.hid (E1_Z5.out.keep hB6)
  have bb1B_Y6 := Lib.hid (bb1B_Z5.out.keep hB6)
  have M3_Y6 := Lib.hid (M3_Z5.out.keep hB6)
  have E5_Y6 := Lib.hid (E5_Z5.out.keep hB6)
  have bb5B_Y6 := Lib.hid (bb5B_Z5.out.keep hB6)
  clear hY6 hI6 hB6
  go_wp2_with fail
  rw [← HZ5.out, ← HY6.out]
  refine HC6.out.mono ?_
  rintro e x6 ⟨aa6, cc6, rfl, hm6, hb6⟩
  have HB_x6 := Lib.hid (HBY6.out.trans (hb6.mono HBY6.out.size))
  have E1_x6 := Lib.hid (E1_Y6.out.keep hb6)
  have bb1B_x6 := Lib.hid (bb1B_Y6.out.keep hb6)
  have M3_x6 := Lib.hid (M3_Y6.out.keep hb6)
  have E5_x6 := Lib.hid (E5_Y6.out.keep hb6)
  have bb5B_x6 := Lib.hid (bb5B_Y6.out.keep hb6)
  have M6_x6 := Lib.hid hm6
  clear hb6 hm6
  obtain ⟨Y7, hY7⟩ : ∃ Y, Y = x6.alloc (Obj.cells #[.int .i64 2, .int .i64 3] 3) := ⟨_, rfl⟩
  have hI7 : IsAt Y7 (some ⟨x6.heap.size, 0, none⟩) [2, 3] := by
    rw [hY7]
    exact RowAt.of_blkF (k := 1) (enc := encI) encI_len (Blk.new _ _ _) rfl
  have hB7 : Below x6.heap.size x6 Y7 := by rw [hY7]; exact (Below.refl _ _).alloc (Nat.le_refl _) _
  have HC7 : Hid (Calls Try.prog 18 #[.int .i64 6, .slice (some ⟨x6.heap.size, 0, none⟩) 2 2] Y7 (fun e x => e = .returned (.tuple #[.int .i64 12, .int .i64 0]) ∧ Below Y7.heap.size Y7 x)) := Lib.hid (conTr 6 [2, 3] 12 (by omega) (by simp) aw3.2.2.1 (by rw [aw3.2.1]; exact aw3.2.2.2.1) (by rw [aw3.2.1]; exact aw3.2.2.2.2) (some ⟨x6.heap.size, 0, none⟩) 2 Y7 hI7)
  have HY7 := Lib.hid hY7
  have HBY7 : Hid (Below w.heap.size w Y7) := Lib.hid (HB_x6.out.trans (hB7.mono HB_x6.out.size))
  have E1_Y7 := Lib.hid (E1_x6.out.keep hB7)
  have bb1B_Y7 := Lib.hid (bb1B_x6.out.keep hB7)
  have M3_Y7 := Lib.hid (M3_x6.out.keep hB7)
  have E5_Y7 := Lib.hid (E5_x6.out.keep hB7)
  have bb5B_Y7 := Lib.hid (bb5B_x6.out.keep hB7)
  have M6_Y7 := Lib.hid (M6_x6.out.keep hB7)
  clear hY7 hI7 hB7
  go_wp2_with fail
  rw [← HY7.out]
  refine HC7.out.mono ?_
  rintro e x7 ⟨rfl, hb7⟩
  have HB_x7 := Lib.hid (HBY7.out.trans (hb7.mono HBY7.out.size))
  have E1_x7 := Lib.hid (E1_Y7.out.keep hb7)
  have bb1B_x7 := Lib.hid (bb1B_Y7.out.keep hb7)
  have M3_x7 := Lib.hid (M3_Y7.out.keep hb7)
  have E5_x7 := Lib.hid (E5_Y7.out.keep hb7)
  have bb5B_x7 := Lib.hid (bb5B_Y7.out.keep hb7)
  have M6_x7 := Lib.hid (M6_Y7.out.keep hb7)
  clear hb7
  obtain ⟨Y8, hY8⟩ : ∃ Y, Y = x7.alloc (Obj.cells #[.int .i64 2, .int .i64 3] 3) := ⟨_, rfl⟩
  have hI8 : IsAt Y8 (some ⟨x7.heap.size, 0, none⟩) [2, 3] := by
    rw [hY8]
    exact RowAt.of_blkF (k := 1) (enc := encI) encI_len (Blk.new _ _ _) rfl
  have hB8 : Below x7.heap.size x7 Y8 := by rw [hY8]; exact (Below.refl _ _).alloc (Nat.le_refl _) _
  have HC8 : Hid (Calls Try.prog 22 #[.int .i64 6, .slice (some ⟨x7.heap.size, 0, none⟩) 2 2] Y8 (fun e x => ∃ a c, e = .returned (.tuple #[.slice a 2 c, .int .i64 0]) ∧ IsAt x a [2, 6] ∧ Below Y8.heap.size Y8 x)) := Lib.hid (conCy 6 [2, 3] [2, 6] (by omega) (by simp) aw3.2.1 aw3.2.2.1 (some ⟨x7.heap.size, 0, none⟩) 2 Y8 hI8)
  have HY8 := Lib.hid hY8
  have HBY8 : Hid (Below w.heap.size w Y8) := Lib.hid (HB_x7.out.trans (hB8.mono HB_x7.out.size))
  have E1_Y8 := Lib.hid (E1_x7.out.keep hB8)
  have bb1B_Y8 := Lib.hid (bb1B_x7.out.keep hB8)
  have M3_Y8 := Lib.hid (M3_x7.out.keep hB8)
  have E5_Y8 := Lib.hid (E5_x7.out.keep hB8)
  have bb5B_Y8 := Lib.hid (bb5B_x7.out.keep hB8)
  have M6_Y8 := Lib.hid (M6_x7.out.keep hB8)
  clear hY8 hI8 hB8
  go_wp2_with fail
  rw [← HY8.out]
  refine HC8.out.mono ?_
  rintro e x8 ⟨aa8, cc8, rfl, hm8, hb8⟩
  have HB_x8 := Lib.hid (HBY8.out.trans (hb8.mono HBY8.out.size))
  have E1_x8 := Lib.hid (E1_Y8.out.keep hb8)
  have bb1B_x8 := Lib.hid (bb1B_Y8.out.keep hb8)
  have M3_x8 := Lib.hid (M3_Y8.out.keep hb8)
  have E5_x8 := Lib.hid (E5_Y8.out.keep hb8)
  have bb5B_x8 := Lib.hid (bb5B_Y8.out.keep hb8)
  have M6_x8 := Lib.hid (M6_Y8.out.keep hb8)
  have M8_x8 := Lib.hid hm8
  clear hb8 hm8
  have g10 : x8.cell? ⟨x1.heap.size, 0, none⟩ = some (.int .i64 5) := by rw [← Hbb1.out]; exact bb1B_x8.out.cell 0
  have g11 : x8.cell? ⟨x1.heap.size, 1, none⟩ = some (.slice aa1 8 cc1) := by rw [← Hbb1.out]; exact bb1B_x8.out.cell 1
  have HEN1 : Hid (Calls Try.prog 27 #[.agg #[.int .i64 5, .slice aa1 8 cc1]] x8 (fun e x => ∃ a c, e = .returned (.slice a 8 c) ∧ PsAt x a aP1 ∧ Below x8.heap.size x8 x)) := Lib.hid (conEn 5 aJ1 aP1 8 rfl rfl (by decide) aw1.2.2.2.2.2.2.2.2.1 aw1.2.2.2.2.2.2.2.2.2 aa1 cc1 x8 E1_x8.out)
  go_wp2_with fail
  refine HEN1.out.mono ?_
  rintro e z1 ⟨pa1, pc1, rfl, hp1, hq1⟩
  have HB_z1 := Lib.hid (HB_x8.out.trans (hq1.mono HB_x8.out.size))
  have E1_z1 := Lib.hid (E1_x8.out.keep hq1)
  have bb1B_z1 := Lib.hid (bb1B_x8.out.keep hq1)
  have M3_z1 := Lib.hid (M3_x8.out.keep hq1)
  have E5_z1 := Lib.hid (E5_x8.out.keep hq1)
  have bb5B_z1 := Lib.hid (bb5B_x8.out.keep hq1)
  have M6_z1 := Lib.hid (M6_x8.out.keep hq1)
  have M8_z1 := Lib.hid (M8_x8.out.keep hq1)
  obtain ⟨V1, hV1⟩ : ∃ V, V = z1.alloc (Obj.cells #[.int .i64 0, .int .i64 1, .int .i64 0, .int .i64 2, .int .i64 0, .int .i64 3, .int .i64 0, .int .i64 4, .int .i64 1, .int .i64 2, .int .i64 1, .int .i64 4, .int .i64 2, .int .i64 3, .int .i64 3, .int .i64 4] 56) := ⟨_, rfl⟩
  have hv1 : Below z1.heap.size z1 V1 := by rw [hV1]; exact (Below.refl _ _).alloc (Nat.le_refl _) _
  have hl1 : PsAt V1 (some ⟨z1.heap.size, 0, none⟩) aP1 := by rw [hV1]; exact RowAt.of_blkF (k := 2) (enc := encP) (fun _ => rfl) (Blk.new _ _ _) rfl
  have HSE1 : Hid (Calls Try.prog 26 #[.slice pa1 8 pc1, .slice (some ⟨z1.heap.size, 0, none⟩) 8 8] V1 (fun e x => e = .returned (.bool true) ∧ Below V1.heap.size V1 x)) := Lib.hid (sameEnds_true pa1 (some ⟨z1.heap.size, 0, none⟩) pc1 8 aP1 (by decide) V1 (hp1.keep hv1) hl1)
  have HB_V1 := Lib.hid (HB_z1.out.trans (hv1.mono HB_z1.out.size))
  have E1_V1 := Lib.hid (E1_z1.out.keep hv1)
  have bb1B_V1 := Lib.hid (bb1B_z1.out.keep hv1)
  have M3_V1 := Lib.hid (M3_z1.out.keep hv1)
  have E5_V1 := Lib.hid (E5_z1.out.keep hv1)
  have bb5B_V1 := Lib.hid (bb5B_z1.out.keep hv1)
  have M6_V1 := Lib.hid (M6_z1.out.keep hv1)
  have M8_V1 := Lib.hid (M8_z1.out.keep hv1)
  have HV1 := Lib.hid hV1
  clear hV1 hv1 hl1 hp1 hq1 g10 g11
  go_wp2_with fail
  rw [← HV1.out]
  refine HSE1.out.mono ?_
  rintro e u1 ⟨rfl, hr1⟩
  have HB_u1 := Lib.hid (HB_V1.out.trans (hr1.mono HB_V1.out.size))
  have E1_u1 := Lib.hid (E1_V1.out.keep hr1)
  have bb1B_u1 := Lib.hid (bb1B_V1.out.keep hr1)
  have M3_u1 := Lib.hid (M3_V1.out.keep hr1)
  have E5_u1 := Lib.hid (E5_V1.out.keep hr1)
  have bb5B_u1 := Lib.hid (bb5B_V1.out.keep hr1)
  have M6_u1 := Lib.hid (M6_V1.out.keep hr1)
  have M8_u1 := Lib.hid (M8_V1.out.keep hr1)
  clear hr1
  have g20 : u1.cell? ⟨x5.heap.size, 0, none⟩ = some (.int .i64 7) := by rw [← Hbb5.out]; exact bb5B_u1.out.cell 0
  have g21 : u1.cell? ⟨x5.heap.size, 1, none⟩ = some (.slice aa5 8 cc5) := by rw [← Hbb5.out]; exact bb5B_u1.out.cell 1
  have HEN2 : Hid (Calls Try.prog 27 #[.agg #[.int .i64 7, .slice aa5 8 cc5]] u1 (fun e x => ∃ a c, e = .returned (.slice a 8 c) ∧ PsAt x a aP2 ∧ Below u1.heap.size u1 x)) := Lib.hid (conEn 7 aJ2 aP2 8 rfl rfl (by decide) aw2.2.2.2.2.2.1 aw2.2.2.2.2.2.2 aa5 cc5 u1 E5_u1.out)
  go_wp2_with fail
  refine HEN2.out.mono ?_
  rintro e z2 ⟨pa2, pc2, rfl, hp2, hq2⟩
  have HB_z2 := Lib.hid (HB_u1.out.trans (hq2.mono HB_u1.out.size))
  have E1_z2 := Lib.hid (E1_u1.out.keep hq2)
  have bb1B_z2 := Lib.hid (bb1B_u1.out.keep hq2)
  have M3_z2 := Lib.hid (M3_u1.out.keep hq2)
  have E5_z2 := Lib.hid (E5_u1.out.keep hq2)
  have bb5B_z2 := Lib.hid (bb5B_u1.out.keep hq2)
  have M6_z2 := Lib.hid (M6_u1.out.keep hq2)
  have M8_z2 := Lib.hid (M8_u1.out.keep hq2)
  obtain ⟨V2, hV2⟩ : ∃ V, V = z2.alloc (Obj.cells #[.int .i64 0, .int .i64 2, .int .i64 0, .int .i64 3, .int .i64 0, .int .i64 4, .int .i64 1, .int .i64 2, .int .i64 1, .int .i64 3, .int .i64 1, .int .i64 6, .int .i64 4, .int .i64 5, .int .i64 5, .int .i64 6] 56) := ⟨_, rfl⟩
  have hv2 : Below z2.heap.size z2 V2 := by rw [hV2]; exact (Below.refl _ _).alloc (Nat.le_refl _) _
  have hl2 : PsAt V2 (some ⟨z2.heap.size, 0, none⟩) aP2 := by rw [hV2]; exact RowAt.of_blkF (k := 2) (enc := encP) (fun _ => rfl) (Blk.new _ _ _) rfl
  have HSE2 : Hid (Calls Try.prog 26 #[.slice pa2 8 pc2, .slice (some ⟨z2.heap.size, 0, none⟩) 8 8] V2 (fun e x => e = .returned (.bool true) ∧ Below V2.heap.size V2 x)) := Lib.hid (sameEnds_true pa2 (some ⟨z2.heap.size, 0, none⟩) pc2 8 aP2 (by decide) V2 (hp2.keep hv2) hl2)
  have HB_V2 := Lib.hid (HB_z2.out.trans (hv2.mono HB_z2.out.size))
  have E1_V2 := Lib.hid (E1_z2.out.keep hv2)
  have bb1B_V2 := Lib.hid (bb1B_z2.out.keep hv2)
  have M3_V2 := Lib.hid (M3_z2.out.keep hv2)
  have E5_V2 := Lib.hid (E5_z2.out.keep hv2)
  have bb5B_V2 := Lib.hid (bb5B_z2.out.keep hv2)
  have M6_V2 := Lib.hid (M6_z2.out.keep hv2)
  have M8_V2 := Lib.hid (M8_z2.out.keep hv2)
  have HV2 := Lib.hid hV2
  clear hV2 hv2 hl2 hp2 hq2 g20 g21
  go_wp2_with fail
  rw [← HV2.out]
  refine HSE2.out.mono ?_
  rintro e u2 ⟨rfl, hr2⟩
  have HB_u2 := Lib.hid (HB_V2.out.trans (hr2.mono HB_V2.out.size))
  have E1_u2 := Lib.hid (E1_V2.out.keep hr2)
  have bb1B_u2 := Lib.hid (bb1B_V2.out.keep hr2)
  have M3_u2 := Lib.hid (M3_V2.out.keep hr2)
  have E5_u2 := Lib.hid (E5_V2.out.keep hr2)
  have bb5B_u2 := Lib.hid (bb5B_V2.out.keep hr2)
  have M6_u2 := Lib.hid (M6_V2.out.keep hr2)
  have M8_u2 := Lib.hid (M8_V2.out.keep hr2)
  clear hr2
  obtain ⟨V3, hV3⟩ : ∃ V, V = u2.alloc (Obj.cells #[.int .i64 3, .int .i64 15] 3) := ⟨_, rfl⟩
  have hv3 : Below u2.heap.size u2 V3 := by rw [hV3]; exact (Below.refl _ _).alloc (Nat.le_refl _) _
  have hl3 : IsAt V3 (some ⟨u2.heap.size, 0, none⟩) [3, 15] := by rw [hV3]; exact RowAt.of_blkF (k := 1) (enc := encI) encI_len (Blk.new _ _ _) rfl
  have HSE3 : Hid (Calls Try.prog 25 #[.slice aa3 2 cc3, .slice (some ⟨u2.heap.size, 0, none⟩) 2 2] V3 (fun e x => e = .returned (.bool true) ∧ Below V3.heap.size V3 x)) := Lib.hid (equalI_true aa3 (some ⟨u2.heap.size, 0, none⟩) cc3 2 [3, 15] (by simp) V3 (M3_u2.out.keep hv3) hl3)
  have HB_V3 := Lib.hid (HB_u2.out.trans (hv3.mono HB_u2.out.size))
  have M3_V3 := Lib.hid (M3_u2.out.keep hv3)
  have M6_V3 := Lib.hid (M6_u2.out.keep hv3)
  have M8_V3 := Lib.hid (M8_u2.out.keep hv3)
  have HV3 := Lib.hid hV3
  clear hV3 hv3 hl3
  go_wp2_with fail
  rw [← HV3.out]
  refine HSE3.out.mono ?_
  rintro e u3 ⟨rfl, hr3⟩
  have HB_u3 := Lib.hid (HB_V3.out.trans (hr3.mono HB_V3.out.size))
  have M3_u3 := Lib.hid (M3_V3.out.keep hr3)
  have M6_u3 := Lib.hid (M6_V3.out.keep hr3)
  have M8_u3 := Lib.hid (M8_V3.out.keep hr3)
  clear hr3
  obtain ⟨V4, hV4⟩ : ∃ V, V = u3.alloc (Obj.cells #[.int .i64 2, .int .i64 10] 3) := ⟨_, rfl⟩
  have hv4 : Below u3.heap.size u3 V4 := by rw [hV4]; exact (Below.refl _ _).alloc (Nat.le_refl _) _
  have hl4 : IsAt V4 (some ⟨u3.heap.size, 0, none⟩) [2, 10] := by rw [hV4]; exact RowAt.of_blkF (k := 1) (enc := encI) encI_len (Blk.new _ _ _) rfl
  have HSE4 : Hid (Calls Try.prog 25 #[.slice aa6 2 cc6, .slice (some ⟨u3.heap.size, 0, none⟩) 2 2] V4 (fun e x => e = .returned (.bool true) ∧ Below V4.heap.size V4 x)) := Lib.hid (equalI_true aa6 (some ⟨u3.heap.size, 0, none⟩) cc6 2 [2, 10] (by simp) V4 (M6_u3.out.keep hv4) hl4)
  have HB_V4 := Lib.hid (HB_u3.out.trans (hv4.mono HB_u3.out.size))
  have M3_V4 := Lib.hid (M3_u3.out.keep hv4)
  have M6_V4 := Lib.hid (M6_u3.out.keep hv4)
  have M8_V4 := Lib.hid (M8_u3.out.keep hv4)
  have HV4 := Lib.hid hV4
  clear hV4 hv4 hl4
  go_wp2_with fail
  rw [← HV4.out]
  refine HSE4.out.mono ?_
  rintro e u4 ⟨rfl, hr4⟩
  have HB_u4 := Lib.hid (HB_V4.out.trans (hr4.mono HB_V4.out.size))
  have M3_u4 := Lib.hid (M3_V4.out.keep hr4)
  have M6_u4 := Lib.hid (M6_V4.out.keep hr4)
  have M8_u4 := Lib.hid (M8_V4.out.keep hr4)
  clear hr4
  obtain ⟨V5, hV5⟩ : ∃ V, V = u4.alloc (Obj.cells #[.int .i64 2, .int .i64 6] 3) := ⟨_, rfl⟩
  have hv5 : Below u4.heap.size u4 V5 := by rw [hV5]; exact (Below.refl _ _).alloc (Nat.le_refl _) _
  have hl5 : IsAt V5 (some ⟨u4.heap.size, 0, none⟩) [2, 6] := by rw [hV5]; exact RowAt.of_blkF (k := 1) (enc := encI) encI_len (Blk.new _ _ _) rfl
  have HSE5 : Hid (Calls Try.prog 25 #[.slice aa8 2 cc8, .slice (some ⟨u4.heap.size, 0, none⟩) 2 2] V5 (fun e x => e = .returned (.bool true) ∧ Below V5.heap.size V5 x)) := Lib.hid (equalI_true aa8 (some ⟨u4.heap.size, 0, none⟩) cc8 2 [2, 6] (by simp) V5 (M8_u4.out.keep hv5) hl5)
  have HB_V5 := Lib.hid (HB_u4.out.trans (hv5.mono HB_u4.out.size))
  have M3_V5 := Lib.hid (M3_u4.out.keep hv5)
  have M6_V5 := Lib.hid (M6_u4.out.keep hv5)
  have M8_V5 := Lib.hid (M8_u4.out.keep hv5)
  have HV5 := Lib.hid hV5
  clear hV5 hv5 hl5
  go_wp2_with fail
  rw [← HV5.out]
  refine HSE5.out.mono ?_
  rintro e u5 ⟨rfl, hr5⟩
  have HB_u5 := Lib.hid (HB_V5.out.trans (hr5.mono HB_V5.out.size))
  have M3_u5 := Lib.hid (M3_V5.out.keep hr5)
  have M6_u5 := Lib.hid (M6_V5.out.keep hr5)
  have M8_u5 := Lib.hid (M8_V5.out.keep hr5)
  clear hr5
  go_wp2
  go_ret
  exact ⟨rfl, HB_u5.out⟩
end Go.Proofs.Ytgfbihdnjidodaa
