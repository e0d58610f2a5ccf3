/- FamilyJoins: its walk. -/
import Derived.Test.YtgfbihdnjidodaaZPh
namespace Go.Proofs.Ytgfbihdnjidodaa
open Go.RowKit Go.Shelf Go.Proofs.Gr
attribute [local go_sem] Oper.semAt_some

set_option maxHeartbeats 12800000 in
set_option maxRecDepth 100000 in
theorem rconnected_one (n : Nat) (hn : n ≤ 100) (a : Option Addr) (cap : Nat) (L : List E) (hL : L.length ≤ 100000) (hR : Right n L) (h1 : partsR L n = 1) (w : World) (h : EsAt w a L) : Calls Try.prog 21 #[gv n a L.length cap] w (fun e x => e = .returned (.bool true) ∧ Below w.heap.size w x) := by
  have HPA := Lib.hid (fun w h => rparts_any n hn a cap L hL hR.srt w h)
  rw [h1] at HPA
  unfold GivesN gv at *
  obtain ⟨W, hW⟩ : ∃ W, W = w.alloc (Obj.cells #[.int .i64 n, .slice a L.length cap] 31) := ⟨_, rfl⟩
  have HB0 : Hid (Below w.heap.size w W) := Lib.hid (by rw [hW]; exact (Below.refl _ w).alloc (Nat.le_refl _) _)
  have hG : Blk W w.heap.size 31 #[.int .i64 n, .slice a L.length cap] := by rw [hW]; exact Blk.new _ _ _
  have HC := Lib.hid (HPA.out W (h.keep HB0.out))
  have HW := Lib.hid hW
  have g0 : W.cell? ⟨w.heap.size, 0, none⟩ = some (.int .i64 (n : Nat)) := hG.cell 0
  have g1 : W.cell? ⟨w.heap.size, 1, none⟩ = some (.slice a L.length cap) := hG.cell 1
  clear hG hW h hR h1
  go_enter Try.func21, Try.ntmps21
  go_wp2_with fail
  rw [← HW.out]
  go_wp2_with fail
  refine HC.out.mono ?_
  rintro e x1 ⟨rfl, hb1⟩
  have HB1 := Lib.hid (HB0.out.trans (hb1.mono HB0.out.size))
  clear hb1 g0 g1
  go_wp2
  go_ret
  exact ⟨rfl, HB1.out⟩
set_option maxHeartbeats 12800000 in
set_option maxRecDepth 100000 in
theorem joins_long (z : Int) (a : Option Addr) (cap : Nat) (L : List Int) (hl : 40 < L.length) (w : World) : Calls Try.prog 5 #[.int .i64 z, .slice a L.length cap] w (fun e x => e = .returned (.bool true) ∧ Below w.heap.size w x) := by
  have HA := Lib.hid (fun w => awakeF_any w)
  have hl1 : (40 : Int) < (L.length : Int) := by omega
  go_enter Try.func5, Try.ntmps5
  go_wp2_with fail
  refine (HA.out _).mono ?_
  rintro e x1 ⟨rfl, hb1⟩
  have HB1 := Lib.hid hb1
  clear hb1
  go_wp2
  go_ret
  exact ⟨rfl, HB1.out⟩
set_option maxHeartbeats 12800000 in
set_option maxRecDepth 100000 in
theorem joins_wrong (z : Int) (k : Nat) (hk : k ≠ 0) (a : Option Addr) (cap : Nat) (L : List Int) (hl : ¬ 40 < L.length) (hG : ∀ w, IsAt w a L → Calls Try.prog 15 #[.int .i64 z, .slice a L.length cap] w (fun e x => e = .returned (.int .i64 (k : Nat)) ∧ Below w.heap.size w x)) (w : World) (h : IsAt w a L) : Calls Try.prog 5 #[.int .i64 z, .slice a L.length cap] w (fun e x => e = .returned (.bool true) ∧ Below w.heap.size w x) := by
  have HA := Lib.hid (fun w => awakeF_any w)
  have hl1 : ¬ (40 : Int) < (L.length : Int) := by omega
  have q0 : (((k : Nat) : Int) != 0) = true := by rw [bne_iff_ne]; omega
  have HG := Lib.hid (hG w h)
  clear hG h hk
  go_enter Try.func5, Try.ntmps5
  go_wp2_with fail
  refine HG.out.mono ?_
  rintro e x1 ⟨rfl, hb1⟩
  have HB1 := Lib.hid hb1
  clear hb1
  go_wp2_with fail
  refine (HA.out _).mono ?_
  rintro e x2 ⟨rfl, hb2⟩
  have HB2 := Lib.hid (HB1.out.trans (hb2.mono HB1.out.size))
  clear hb2
  go_wp2
  go_ret
  exact ⟨rfl, HB2.out⟩
set_option maxHeartbeats 12800000 in
set_option maxRecDepth 100000 in
theorem joins_ok (z : Int) (a : Option Addr) (cap : Nat) (L : List Int) (hl : ¬ 40 < L.length) (N : Nat) (hN : N ≤ 12) (J : List E) (S G p : Int) (hS : 0 ≤ S ∧ S ≤ 10000) (hG : G = S - N + 1) (t : Int) (M : List Int) (hz : ¬ z = 7) (ht : t = 0) (hM2 : ∀ i, i < M.length → 2 ≤ iAt M i) (hMb : ∀ i, i ≤ M.length → 0 ≤ prodI M i ∧ prodI M i ≤ 4611686018427387904) (hp : p = prodI M M.length) (hMl : M.length ≤ 1000) (HG : Hid (∀ w, IsAt w a L → Calls Try.prog 15 #[.int .i64 z, .slice a L.length cap] w (fun e x => e = .returned (.int .i64 0) ∧ Below w.heap.size w x))) (HM : Hid (∀ w, IsAt w a L → Calls Try.prog 12 #[.int .i64 z, .slice a L.length cap] w (fun e x => ∃ b c, e = .returned (.tuple #[.agg #[.int .i64 (N : Nat), .slice b J.length c], .int .i64 0]) ∧ EsAt x b J ∧ Below w.heap.size w x))) (HGE : Hid (∀ w, IsAt w a L → Calls Try.prog 20 #[.int .i64 z, .slice a L.length cap] w (fun e x => e = .returned (.tuple #[.int .i64 G, .int .i64 0]) ∧ Below w.heap.size w x))) (HCK : Hid (∀ b c w, EsAt w b J → Calls Try.prog 16 #[.agg #[.int .i64 (N : Nat), .slice b J.length c]] w (fun e x => e = .returned (.int .i64 0) ∧ Below w.heap.size w x))) (HCO : Hid (∀ b c w, EsAt w b J → Calls Try.prog 21 #[.agg #[.int .i64 (N : Nat), .slice b J.length c]] w (fun e x => e = .returned (.bool true) ∧ Below w.heap.size w x))) (HSZ : Hid (∀ b c w, EsAt w b J → Calls Try.prog 17 #[.agg #[.int .i64 (N : Nat), .slice b J.length c]] w (fun e x => e = .returned (.int .i64 S) ∧ Below w.heap.size w x))) (HTR : Hid (∀ w, IsAt w a L → Calls Try.prog 18 #[.int .i64 z, .slice a L.length cap] w (fun e x => e = .returned (.tuple #[.int .i64 p, .int .i64 t]) ∧ Below w.heap.size w x))) (HCY : Hid (∀ w, IsAt w a L → Calls Try.prog 22 #[.int .i64 z, .slice a L.length cap] w (fun e x => ∃ b c, e = .returned (.tuple #[.slice b M.length c, .int .i64 t]) ∧ IsAt x b M ∧ Below w.heap.size w x))) (w : World) (h : IsAt w a L) : Calls Try.prog 5 #[.int .i64 z, .slice a L.length cap] w (fun e x => e = .returned (.bool true) ∧ Below w.heap.size w x) := by
  subst hG ht
  have HP0 : Hid (prodI M 0 = 1) := Lib.hid rfl
  have HPS : Hid (∀ i, prodI M (i + 1) = prodI M i * iAt M i) := Lib.hid fun _ => rfl
  have HPB := Lib.hid hMb
  have HM2 := Lib.hid hM2
  have HPE := Lib.hid hp
  generalize prodI M = PF at *
  clear hMb hM2 hp
  have HA := Lib.hid (fun w => awakeF_any w)
  have hl1 : ¬ (40 : Int) < (L.length : Int) := by omega
  have c1 : IntKind.i64.wrap (S - (N : Int)) = S - N := IntWalk.i64_in _ (by omega)
  have c2 : IntKind.i64.wrap (S - (N : Int) + 1) = S - N + 1 := IntWalk.i64_in _ (by omega)
  have HI := Lib.hid h
  clear h
  go_enter Try.func5, Try.ntmps5
  go_wp2_with fail
  refine (HG.out _ HI.out).mono ?_
  rintro e x1 ⟨rfl, hb1⟩
  have HB1 := Lib.hid hb1
  have HI1 := Lib.hid (HI.out.keep hb1)
  clear hb1
  go_wp2_with fail
  refine (HM.out _ HI1.out).mono ?_
  rintro e x2 ⟨b2, c2', rfl, he2, hb2⟩
  obtain ⟨Y2, hY2⟩ : ∃ Y, Y = x2.alloc (Obj.cells #[.int .i64 (N : Nat), .slice b2 J.length c2'] 31) := ⟨_, rfl⟩
  have hy2 : Below x2.heap.size x2 Y2 := by rw [hY2]; exact (Below.refl _ _).alloc (Nat.le_refl _) _
  have hb22 : Below x1.heap.size x1 Y2 := hb2.trans (hy2.mono hb2.size)
  have HB2 := Lib.hid (HB1.out.trans (hb22.mono HB1.out.size))
  have HX2 : Hid (BoxAt Y2 x2.heap.size (N : Nat) b2 J.length c2') := Lib.hid (by rw [hY2]; exact Blk.new _ _ _)
  have HE2 := Lib.hid (he2.keep hy2)
  have HI2 := Lib.hid (HI1.out.keep hb22)
  have HY2 := Lib.hid hY2
  clear hY2 hy2 hb2 hb22 he2
  go_wp2_with fail
  rw [← HY2.out]
  refine (HGE.out _ HI2.out).mono ?_
  rintro e x3 ⟨rfl, hb3⟩
  have HB3 := Lib.hid (HB2.out.trans (hb3.mono HB2.out.size))
  have HX3 := Lib.hid (HX2.out.keep hb3)
  have HE3 := Lib.hid (HE2.out.keep hb3)
  have HI3 := Lib.hid (HI2.out.keep hb3)
  clear hb3
  have HS : Hid (∀ x, Below x3.heap.size x3 x → (Below x3.heap.size x3 x ∧ x.cell? ⟨x2.heap.size, 0, none⟩ = some (.int .i64 (N : Nat)) ∧ x.cell? ⟨x2.heap.size, 1, none⟩ = some (.slice b2 J.length c2'))) := Lib.hid (fun x hx => ⟨hx, (HX3.out.keep hx).cell 0, (HX3.out.keep hx).cell 1⟩)
  go_wp2
  have hk2 : Below x3.heap.size x3 x3.drew := (Below.refl _ _).drew
  obtain ⟨_, f0, f1⟩ := HS.out _ hk2
  go_region_held3 (fun x => Below x3.heap.size x3 x ∧ x.cell? ⟨x2.heap.size, 0, none⟩ = some (.int .i64 (N : Nat)) ∧ x.cell? ⟨x2.heap.size, 1, none⟩ = some (.slice b2 J.length c2'))
    (first | exact HS.out _ (by assumption) | exact HS.out _ (Below.drew (by assumption)))
    (first | (go_at_call 16; refine (HCK.out _ _ _ (HE3.out.keep hk2)).mono ?_; rintro e wz ⟨rfl, hbz⟩; have hk3 := hk2.trans (hbz.mono hk2.size); clear hbz hk2; have hk2 := hk3; clear hk3) | (go_at_call 21; refine (HCO.out _ _ _ (HE3.out.keep hk2)).mono ?_; rintro e wz ⟨rfl, hbz⟩; have hk3 := hk2.trans (hbz.mono hk2.size); clear hbz hk2; have hk2 := hk3; clear hk3) | (go_at_call 17; refine (HSZ.out _ _ _ (HE3.out.keep hk2)).mono ?_; rintro e wz ⟨rfl, hbz⟩; have hk3 := hk2.trans (hbz.mono hk2.size); clear hbz hk2; have hk2 := hk3; clear hk3))
  rename_i hHeldz
  clear hHeldz f0 f1
  have HB4 := Lib.hid (HB3.out.trans (hk2.mono HB3.out.size))
  have HI4 := Lib.hid (HI3.out.keep hk2)
  clear hk2
  go_wp2_with fail
  refine (HTR.out _ HI4.out).mono ?_
  rintro e x5 ⟨rfl, hb5⟩
  have HB5 := Lib.hid (HB4.out.trans (hb5.mono HB4.out.size))
  have HI5 := Lib.hid (HI4.out.keep hb5)
  clear hb5
  go_wp2_with fail
  refine (HCY.out _ HI5.out).mono ?_
  rintro e x6 ⟨b6, c6, rfl, hm6, hb6⟩
  have HB6 := Lib.hid (HB5.out.trans (hb6.mono HB5.out.size))
  have HM6 := Lib.hid hm6
  clear hm6 hb6
  go_wp2
  go_loopw [11, 13, 85] (fun y v x wr => ∃ i : Nat, i ≤ M.length ∧ x = .int .i64 i ∧ y = .int .i64 (PF i) ∧ Below x6.heap.size x6 wr) (fun _ _ x _ => M.length - (intOf x).toNat)
  case atStart => exact ⟨0, by omega, rfl, by rw [HP0.out], Below.refl _ _⟩
  case round =>
    obtain ⟨i, hi, rfl, rfl, hb⟩ := hrel
    by_cases hlt : i < M.length
    · have i1 : (i : Int) < (M.length : Int) := by omega
      have i2 : (0 : Int) ≤ (i : Int) := by omega
      obtain ⟨bb, oo, ea, q1, y1⟩ := (HM6.out.keep hb).one i hlt
      subst ea
      have HBW := Lib.hid hb
      have hv2 := HM2.out i hlt
      have hps := HPS.out i
      have hpb := HPB.out (i + 1) (by omega)
      obtain ⟨v, hv⟩ : ∃ v, v = iAt M i := ⟨_, rfl⟩
      rw [← hv] at y1 hv2 hps
      rw [hps] at hpb
      have e1 : IntKind.i64.wrap (PF i * v) = PF i * v := IntWalk.i64_in _ (by omega)
      have HPSn := Lib.hid hps
      have i3 : ¬ v < 2 := by omega
      clear hb hv hps hpb
      go_wp2
      go_roundw
      case rel => exact ⟨i + 1, by omega, by go_num, by rw [HPSn.out], HBW.out⟩
      case measure => simp [intOf]; omega
    · obtain rfl : i = M.length := by omega
      have i1 : ¬ (M.length : Int) < (M.length : Int) := by omega
      have HBW := Lib.hid (HB6.out.trans (hb.mono HB6.out.size))
      have hpe := HPE.out
      rw [← hpe]
      clear hb
      go_wp2_with fail
      refine (HA.out _).mono ?_
      rintro e x9 ⟨rfl, hb9⟩
      have HB9 := Lib.hid (HBW.out.trans (hb9.mono HBW.out.size))
      clear hb9
      go_wp2
      go_ret
      exact ⟨rfl, HB9.out⟩
set_option maxHeartbeats 12800000 in
set_option maxRecDepth 100000 in
theorem joins_grid (z : Int) (a : Option Addr) (cap : Nat) (L : List Int) (hl : ¬ 40 < L.length) (N : Nat) (hN : N ≤ 12) (J : List E) (S G p : Int) (hS : 0 ≤ S ∧ S ≤ 10000) (hG : G = S - N + 1) (t : Int) (M : List Int) (hz : z = 7) (ht : t = 15) (HG : Hid (∀ w, IsAt w a L → Calls Try.prog 15 #[.int .i64 z, .slice a L.length cap] w (fun e x => e = .returned (.int .i64 0) ∧ Below w.heap.size w x))) (HM : Hid (∀ w, IsAt w a L → Calls Try.prog 12 #[.int .i64 z, .slice a L.length cap] w (fun e x => ∃ b c, e = .returned (.tuple #[.agg #[.int .i64 (N : Nat), .slice b J.length c], .int .i64 0]) ∧ EsAt x b J ∧ Below w.heap.size w x))) (HGE : Hid (∀ w, IsAt w a L → Calls Try.prog 20 #[.int .i64 z, .slice a L.length cap] w (fun e x => e = .returned (.tuple #[.int .i64 G, .int .i64 0]) ∧ Below w.heap.size w x))) (HCK : Hid (∀ b c w, EsAt w b J → Calls Try.prog 16 #[.agg #[.int .i64 (N : Nat), .slice b J.length c]] w (fun e x => e = .returned (.int .i64 0) ∧ Below w.heap.size w x))) (HCO : Hid (∀ b c w, EsAt w b J → Calls Try.prog 21 #[.agg #[.int .i64 (N : Nat), .slice b J.length c]] w (fun e x => e = .returned (.bool true) ∧ Below w.heap.size w x))) (HSZ : Hid (∀ b c w, EsAt w b J → Calls Try.prog 17 #[.agg #[.int .i64 (N : Nat), .slice b J.length c]] w (fun e x => e = .returned (.int .i64 S) ∧ Below w.heap.size w x))) (HTR : Hid (∀ w, IsAt w a L → Calls Try.prog 18 #[.int .i64 z, .slice a L.length cap] w (fun e x => e = .returned (.tuple #[.int .i64 p, .int .i64 t]) ∧ Below w.heap.size w x))) (HCY : Hid (∀ w, IsAt w a L → Calls Try.prog 22 #[.int .i64 z, .slice a L.length cap] w (fun e x => ∃ b c, e = .returned (.tuple #[.slice b M.length c, .int .i64 t]) ∧ IsAt x b M ∧ Below w.heap.size w x))) (w : World) (h : IsAt w a L) : Calls Try.prog 5 #[.int .i64 z, .slice a L.length cap] w (fun e x => e = .returned (.bool true) ∧ Below w.heap.size w x) := by
  subst hG ht hz
  have HA := Lib.hid (fun w => awakeF_any w)
  have hl1 : ¬ (40 : Int) < (L.length : Int) := by omega
  have c1 : IntKind.i64.wrap (S - (N : Int)) = S - N := IntWalk.i64_in _ (by omega)
  have c2 : IntKind.i64.wrap (S - (N : Int) + 1) = S - N + 1 := IntWalk.i64_in _ (by omega)
  have HI := Lib.hid h
  clear h
  go_enter Try.func5, Try.ntmps5
  go_wp2_with fail
  refine (HG.out _ HI.out).mono ?_
  rintro e x1 ⟨rfl, hb1⟩
  have HB1 := Lib.hid hb1
  have HI1 := Lib.hid (HI.out.keep hb1)
  clear hb1
  go_wp2_with fail
  refine (HM.out _ HI1.out).mono ?_
  rintro e x2 ⟨b2, c2', rfl, he2, hb2⟩
  obtain ⟨Y2, hY2⟩ : ∃ Y, Y = x2.alloc (Obj.cells #[.int .i64 (N : Nat), .slice b2 J.length c2'] 31) := ⟨_, rfl⟩
  have hy2 : Below x2.heap.size x2 Y2 := by rw [hY2]; exact (Below.refl _ _).alloc (Nat.le_refl _) _
  have hb22 : Below x1.heap.size x1 Y2 := hb2.trans (hy2.mono hb2.size)
  have HB2 := Lib.hid (HB1.out.trans (hb22.mono HB1.out.size))
  have HX2 : Hid (BoxAt Y2 x2.heap.size (N : Nat) b2 J.length c2') := Lib.hid (by rw [hY2]; exact Blk.new _ _ _)
  have HE2 := Lib.hid (he2.keep hy2)
  have HI2 := Lib.hid (HI1.out.keep hb22)
  have HY2 := Lib.hid hY2
  clear hY2 hy2 hb2 hb22 he2
  go_wp2_with fail
  rw [← HY2.out]
  refine (HGE.out _ HI2.out).mono ?_
  rintro e x3 ⟨rfl, hb3⟩
  have HB3 := Lib.hid (HB2.out.trans (hb3.mono HB2.out.size))
  have HX3 := Lib.hid (HX2.out.keep hb3)
  have HE3 := Lib.hid (HE2.out.keep hb3)
  have HI3 := Lib.hid (HI2.out.keep hb3)
  clear hb3
  have HS : Hid (∀ x, Below x3.heap.size x3 x → (Below x3.heap.size x3 x ∧ x.cell? ⟨x2.heap.size, 0, none⟩ = some (.int .i64 (N : Nat)) ∧ x.cell? ⟨x2.heap.size, 1, none⟩ = some (.slice b2 J.length c2'))) := Lib.hid (fun x hx => ⟨hx, (HX3.out.keep hx).cell 0, (HX3.out.keep hx).cell 1⟩)
  go_wp2
  have hk2 : Below x3.heap.size x3 x3.drew := (Below.refl _ _).drew
  obtain ⟨_, f0, f1⟩ := HS.out _ hk2
  go_region_held3 (fun x => Below x3.heap.size x3 x ∧ x.cell? ⟨x2.heap.size, 0, none⟩ = some (.int .i64 (N : Nat)) ∧ x.cell? ⟨x2.heap.size, 1, none⟩ = some (.slice b2 J.length c2'))
    (first | exact HS.out _ (by assumption) | exact HS.out _ (Below.drew (by assumption)))
    (first | (go_at_call 16; refine (HCK.out _ _ _ (HE3.out.keep hk2)).mono ?_; rintro e wz ⟨rfl, hbz⟩; have hk3 := hk2.trans (hbz.mono hk2.size); clear hbz hk2; have hk2 := hk3; clear hk3) | (go_at_call 21; refine (HCO.out _ _ _ (HE3.out.keep hk2)).mono ?_; rintro e wz ⟨rfl, hbz⟩; have hk3 := hk2.trans (hbz.mono hk2.size); clear hbz hk2; have hk2 := hk3; clear hk3) | (go_at_call 17; refine (HSZ.out _ _ _ (HE3.out.keep hk2)).mono ?_; rintro e wz ⟨rfl, hbz⟩; have hk3 := hk2.trans (hbz.mono hk2.size); clear hbz hk2; have hk2 := hk3; clear hk3))
  rename_i hHeldz
  clear hHeldz f0 f1
  have HB4 := Lib.hid (HB3.out.trans (hk2.mono HB3.out.size))
  have HI4 := Lib.hid (HI3.out.keep hk2)
  clear hk2
  go_wp2_with fail
  refine (HTR.out _ HI4.out).mono ?_
  rintro e x5 ⟨rfl, hb5⟩
  have HB5 := Lib.hid (HB4.out.trans (hb5.mono HB4.out.size))
  have HI5 := Lib.hid (HI4.out.keep hb5)
  clear hb5
  go_wp2_with fail
  refine (HCY.out _ HI5.out).mono ?_
  rintro e x6 ⟨b6, c6, rfl, hm6, hb6⟩
  have HB6 := Lib.hid (HB5.out.trans (hb6.mono HB5.out.size))
  have HM6 := Lib.hid hm6
  clear hm6 hb6
  go_wp2_with fail
  refine (HA.out _).mono ?_
  rintro e x9 ⟨rfl, hb9⟩
  have HB9 := Lib.hid (HB6.out.trans (hb9.mono HB6.out.size))
  clear hb9
  go_wp2
  go_ret
  exact ⟨rfl, HB9.out⟩
end Go.Proofs.Ytgfbihdnjidodaa
