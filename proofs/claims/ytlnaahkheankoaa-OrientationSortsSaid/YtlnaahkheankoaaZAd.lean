/- Orientations of orders, by the reference: Along and Order. -/
import Derived.Test.YtlnaahkheankoaaZAc
namespace Go.Proofs.Ytlnaahkheankoaa
open Go.RowKit Go.Shelf Go.Proofs.Gr
attribute [local go_sem] Oper.semAt_some

set_option maxHeartbeats 12800000 in
set_option maxRecDepth 100000 in
theorem ralong_any (n : Int) (a : Option Addr) (cap : Nat) (L : List E) (hL : L.length ≤ 100000) (hR : Right n L) (s : Option Addr) (d : Nat) (S : List Int) (hS : S.length ≤ 100000) (w : World) (h : EsAt w a L) (hs : IsAt w s S) :
    Calls Try.prog 76 #[gv n a L.length cap, .slice s S.length d] w (GivesBL w ((List.range (endsG L).length).map (alnF (endsG L) S))) := by
  have HEN := Lib.hid (fun w h => rends_any n a cap L hL hR w h)
  have HPL := Lib.hid (fun v w h => rplace_any s d S hS v w h)
  have hln := ends_all hR
  have HFL := Lib.hid (fillL_len false (alnF (endsG L) S) (endsG L).length)
  have HFA := Lib.hid (fillL_all false (alnF (endsG L) S) (endsG L).length)
  have HF0 : Hid (fillL false (alnF (endsG L) S) (endsG L).length 0 = List.replicate (endsG L).length false) := Lib.hid rfl
  have HFS : Hid (∀ k, fillL false (alnF (endsG L) S) (endsG L).length (k + 1) = (fillL false (alnF (endsG L) S) (endsG L).length k).set k (decide (Lib.idxOf S (pAt (endsG L) k).1 ≤ Lib.idxOf S (pAt (endsG L) k).2))) := Lib.hid fun _ => rfl
  unfold GivesBL
  unfold GivesP at *
  unfold gv at *
  rw [← HFA.out]
  generalize fillL false (alnF (endsG L) S) (endsG L).length = FL at *
  generalize endsG L = P at *
  obtain ⟨W, hW⟩ : ∃ W, W = w.alloc (Obj.cells #[.int .i64 n, .slice a L.length cap] 24) := ⟨_, rfl⟩
  have hb0 : Below w.heap.size w W := by rw [hW]; exact (Below.refl _ _).alloc (Nat.le_refl _) _
  have hg : Blk W w.heap.size 24 #[.int .i64 n, .slice a L.length cap] := by rw [hW]; exact Blk.new _ _ _
  have HB0 := Lib.hid hb0
  have HE := Lib.hid (h.keep hb0)
  have HS := Lib.hid (hs.keep hb0)
  have HG := Lib.hid hg
  have HW := Lib.hid hW
  have g0 : (w.alloc (Obj.cells #[.int .i64 n, .slice a L.length cap] 24)).cell? ⟨w.heap.size, 0, none⟩ = some (.int .i64 n) := by rw [← hW]; exact hg.cell 0
  have g1 : (w.alloc (Obj.cells #[.int .i64 n, .slice a L.length cap] 24)).cell? ⟨w.heap.size, 1, none⟩ = some (.slice a L.length cap) := by rw [← hW]; exact hg.cell 1
  clear hb0 hg hW h hs
  go_enter Try.func76, Try.ntmps76
  go_wp2_with fail
  rw [← HW.out]
  refine (HEN.out W HE.out).mono ?_
  rintro e x1 ⟨p1, pc, rfl, hp, hb⟩
  have HB1 := Lib.hid hb
  have HP1 := Lib.hid hp
  clear g0 g1 hp hb
  have hmk : (Instr.makeSlice 25 (.int .i64 (P.length : Int)) (.int .i64 (P.length : Int))).run Try.prog x1 = .ok (.slice (some ⟨x1.heap.size, 0, none⟩) P.length P.length) (x1.alloc (.cells (flat encB (List.replicate P.length false)).toArray 4)) := make_bits P.length (by omega) _
  obtain ⟨x2, hx2⟩ : ∃ v, v = x1.alloc (.cells (flat encB (List.replicate P.length false)).toArray 4) := ⟨_, rfl⟩
  obtain ⟨g, hg⟩ : ∃ v, v = x1.heap.size := ⟨_, rfl⟩
  have hrbg : RowB encB 4 x2 g (FL 0) := by rw [hx2, hg, HF0.out]; exact RowB.new _ _ _ _
  have hblg : Below x1.heap.size x1 x2 := by rw [hx2]; exact (Below.refl _ _).alloc (Nat.le_refl _) _
  rw [← hx2, ← hg] at hmk
  have HRBg := Lib.hid hrbg
  have HBLg := Lib.hid hblg
  have HGEg := Lib.hid hg
  clear hrbg hblg hx2 hg
  have HGX : Hid (x1.heap.size ≤ g) := Lib.hid (by rw [HGEg.out]; exact Nat.le_refl _)
  have HSX := Lib.hid (HS.out.keep HB1.out)
  go_wp2
  clear hmk
  go_loopw [7] (fun x wr => ∃ i : Nat, i ≤ P.length ∧ x = .int .i64 i ∧ RowB encB 4 wr g (FL i) ∧ Below x1.heap.size x1 wr) (fun x _ => P.length - (intOf x).toNat)
  case atStart => exact ⟨0, by omega, rfl, HRBg.out, HBLg.out⟩
  case round =>
    obtain ⟨i, hi, rfl, hrb, hb⟩ := hrel
    by_cases hlt : i < P.length
    · have i1 : (i : Int) < (P.length : Int) := by omega
      have i2 : (0 : Int) ≤ (i : Int) := by omega
      obtain ⟨b2, o2, hb2, q2, y2, y3⟩ := (HP1.out.keep hb).two i hlt
      subst hb2
      have HSr := Lib.hid (HSX.out.keep hb)
      obtain ⟨Q, hQ⟩ : ∃ Q, FL i = Q := ⟨_, rfl⟩
      have hql := HFL.out i
      have HFn := Lib.hid (HFS.out i)
      rw [hQ] at hrb hql HFn
      have HQL : Hid (i < Q.length) := Lib.hid (by omega)
      generalize (pAt P i).1 = pa at *
      generalize (pAt P i).2 = pb at *
      have HXY : Hid (∀ u, Below wr.heap.size wr u → u.cell? ⟨b2, o2 + i * 2, none⟩ = some (.int .i64 pa) ∧ u.cell? ⟨b2, o2 + i * 2 + 1, none⟩ = some (.int .i64 pb)) := Lib.hid fun u hu => ⟨(hu.cell (p := ⟨b2, o2 + i * 2, none⟩) q2).trans y2, (hu.cell (p := ⟨b2, o2 + i * 2 + 1, none⟩) q2).trans y3⟩
      obtain ⟨bv, hbv⟩ : ∃ bv, decide (Lib.idxOf S pa ≤ Lib.idxOf S pb) = bv := ⟨_, rfl⟩
      have z0 : wr.drew.cell? ⟨g, i, none⟩ = some (.bool (bAt Q i)) := hrb.bcell i HQL.out
      have z1 : wr.drew.frozen? ⟨g, i, none⟩ = false := Blk.frozen hrb i
      have HRN : Hid (RowB encB 4 (wr.setCell ⟨g, i, none⟩ (.bool bv)) g (FL (i + 1))) := Lib.hid (by rw [HFn.out, hbv]; exact hrb.bset i bv)
      have HBN : Hid (Below x1.heap.size x1 (wr.setCell ⟨g, i, none⟩ (.bool bv))) := Lib.hid (hb.setCell (p := ⟨g, i, none⟩) HGX.out _)
      clear hrb hb y2 y3 hQ hql HFn
      have HBV := Lib.hid hbv
      generalize bAt Q i = b0 at *
      clear hbv
      go_wp2
      have hj0 : Below wr.heap.size wr wr.drew := (Below.refl _ _).drew
      refine wp_region_late (S := fun u => Below wr.heap.size wr u) (X := [18]) (by kernel_rfl) ?_
      refine wpAnyL_pureD (i := 0) 19 (.slice (some ⟨g, 0, none⟩) P.length P.length) rfl rfl (by kernel_rfl) (by kernel_rfl) (by kernel_rfl) (fun _ _ _ h => h) (Or.inl ⟨by rfl, fun u _ => ?_⟩) ?_
      · go_simp
      try simp only [Act.put, List.setIfInBounds_toArray, List.set_cons_zero, List.set_cons_succ]
      refine wpAnyL_pureD (i := 1) 20 (.int .i64 i) rfl rfl (by kernel_rfl) (by kernel_rfl) (by kernel_rfl) (fun _ _ _ h => h) (Or.inl ⟨by rfl, fun u _ => ?_⟩) ?_
      · go_simp
      try simp only [Act.put, List.setIfInBounds_toArray, List.set_cons_zero, List.set_cons_succ]
      refine wpAnyL_pureD (i := 2) 21 (.slice s S.length d) rfl rfl (by kernel_rfl) (by kernel_rfl) (by kernel_rfl) (fun _ _ _ h => h) (Or.inl ⟨by rfl, fun u _ => ?_⟩) ?_
      · go_simp
      try simp only [Act.put, List.setIfInBounds_toArray, List.set_cons_zero, List.set_cons_succ]
      refine wpAnyL_pureD (i := 3) 22 (.slice (some ⟨b2, o2, none⟩) P.length pc) rfl rfl (by kernel_rfl) (by kernel_rfl) (by kernel_rfl) (fun _ _ _ h => h) (Or.inl ⟨by rfl, fun u _ => ?_⟩) ?_
      · go_simp
      try simp only [Act.put, List.setIfInBounds_toArray, List.set_cons_zero, List.set_cons_succ]
      refine wpAnyL_pureD (i := 4) 23 (.int .i64 i) rfl rfl (by kernel_rfl) (by kernel_rfl) (by kernel_rfl) (fun _ _ _ h => h) (Or.inl ⟨by rfl, fun u _ => ?_⟩) ?_
      · go_simp
      try simp only [Act.put, List.setIfInBounds_toArray, List.set_cons_zero, List.set_cons_succ]
      refine wpAnyL_pureD (i := 5) 24 (.pointer (some ⟨b2, o2 + i * 2, none⟩)) rfl rfl (by kernel_rfl) (by kernel_rfl) (by kernel_rfl) (fun _ _ _ h => h) (Or.inl ⟨by rfl, fun u _ => ?_⟩) ?_
      · go_simp
      try simp only [Act.put, List.setIfInBounds_toArray, List.set_cons_zero, List.set_cons_succ]
      refine wpAnyL_pureD (i := 6) 25 (.pointer (some ⟨b2, o2 + i * 2, none⟩)) rfl rfl (by kernel_rfl) (by kernel_rfl) (by kernel_rfl) (fun _ _ _ h => h) (Or.inl ⟨by rfl, fun u _ => ?_⟩) ?_
      · go_simp
      try simp only [Act.put, List.setIfInBounds_toArray, List.set_cons_zero, List.set_cons_succ]
      refine wpAnyL_takeD (i := 7) 26 (.int .i64 pa) rfl rfl (by kernel_rfl) (by kernel_rfl) (by kernel_rfl) (by kernel_rfl) (by kernel_rfl) (fun _ _ _ h => h) hj0 (Or.inl ⟨by rfl, fun u hu => ?_⟩) ?_
      · obtain ⟨t0, t1⟩ := HXY.out u hu
        go_simp
      try simp only [Act.put, List.setIfInBounds_toArray, List.set_cons_zero, List.set_cons_succ]
      refine wpAnyL_pureD (i := 9) 28 (.slice s S.length d) rfl rfl (by kernel_rfl) (by kernel_rfl) (by kernel_rfl) (fun _ _ _ h => h) (Or.inl ⟨by rfl, fun u _ => ?_⟩) ?_
      · go_simp
      try simp only [Act.put, List.setIfInBounds_toArray, List.set_cons_zero, List.set_cons_succ]
      refine wpAnyL_pureD (i := 10) 29 (.slice (some ⟨b2, o2, none⟩) P.length pc) rfl rfl (by kernel_rfl) (by kernel_rfl) (by kernel_rfl) (fun _ _ _ h => h) (Or.inl ⟨by rfl, fun u _ => ?_⟩) ?_
      · go_simp
      try simp only [Act.put, List.setIfInBounds_toArray, List.set_cons_zero, List.set_cons_succ]
      refine wpAnyL_pureD (i := 11) 30 (.int .i64 i) rfl rfl (by kernel_rfl) (by kernel_rfl) (by kernel_rfl) (fun _ _ _ h => h) (Or.inl ⟨by rfl, fun u _ => ?_⟩) ?_
      · go_simp
      try simp only [Act.put, List.setIfInBounds_toArray, List.set_cons_zero, List.set_cons_succ]
      refine wpAnyL_pureD (i := 12) 31 (.pointer (some ⟨b2, o2 + i * 2, none⟩)) rfl rfl (by kernel_rfl) (by kernel_rfl) (by kernel_rfl) (fun _ _ _ h => h) (Or.inl ⟨by rfl, fun u _ => ?_⟩) ?_
      · go_simp
      try simp only [Act.put, List.setIfInBounds_toArray, List.set_cons_zero, List.set_cons_succ]
      refine wpAnyL_pureD (i := 13) 32 (.pointer (some ⟨b2, o2 + i * 2 + 1, none⟩)) rfl rfl (by kernel_rfl) (by kernel_rfl) (by kernel_rfl) (fun _ _ _ h => h) (Or.inl ⟨by rfl, fun u _ => ?_⟩) ?_
      · go_simp
      try simp only [Act.put, List.setIfInBounds_toArray, List.set_cons_zero, List.set_cons_succ]
      refine wpAnyL_takeD (i := 14) 33 (.int .i64 pb) rfl rfl (by kernel_rfl) (by kernel_rfl) (by kernel_rfl) (by kernel_rfl) (by kernel_rfl) (fun _ _ _ h => h) hj0 (Or.inl ⟨by rfl, fun u hu => ?_⟩) ?_
      · obtain ⟨t0, t1⟩ := HXY.out u hu
        go_simp
      try simp only [Act.put, List.setIfInBounds_toArray, List.set_cons_zero, List.set_cons_succ]
      refine wpAnyL_one (i := 8) (by kernel_rfl) rfl (fun K hK => ?_)
      go_simp
      go_at_call 102
      refine (HPL.out pa _ (HSr.out.keep hj0)).mono ?_
      rintro e9 y9 ⟨rfl, rfl⟩
      show K _ _
      refine hK.out _ _ (fun _ _ => hj0) ?_
      clear hK K
      try simp only [Act.put, List.setIfInBounds_toArray, List.set_cons_zero, List.set_cons_succ]
      refine wpAnyL_one (i := 15) (by kernel_rfl) rfl (fun K hK => ?_)
      go_simp
      go_at_call 102
      refine (HPL.out pb _ (HSr.out.keep hj0)).mono ?_
      rintro e9 y9 ⟨rfl, rfl⟩
      show K _ _
      refine hK.out _ _ (fun _ _ => hj0) ?_
      clear hK K
      try simp only [Act.put, List.setIfInBounds_toArray, List.set_cons_zero, List.set_cons_succ]
      generalize Lib.idxOf S pa = ia at *
      generalize Lib.idxOf S pb = ib at *
      have hbw := HBV.out
      refine wpAnyL_pureD (i := 16) 35 (.bool bv) rfl rfl (by kernel_rfl) (by kernel_rfl) (by kernel_rfl) (fun _ _ _ h => h) (Or.inl ⟨by rfl, fun u _ => ?_⟩) ?_
      · go_simp
      try simp only [Act.put, List.setIfInBounds_toArray, List.set_cons_zero, List.set_cons_succ]
      refine wpAnyL_pureD (i := 17) 36 (.pointer (some ⟨g, i, none⟩)) rfl rfl (by kernel_rfl) (by kernel_rfl) (by kernel_rfl) (fun _ _ _ h => h) (Or.inl ⟨by rfl, fun u _ => ?_⟩) ?_
      · go_simp
      try simp only [Act.put, List.setIfInBounds_toArray, List.set_cons_zero, List.set_cons_succ]
      refine wpAnyL_one (i := 18) (by kernel_rfl) rfl (fun K hK => ?_)
      go_simp
      refine hK.out _ _ (fun h => absurd (by decide) h) ?_
      clear hK K
      try simp only [Act.put, List.setIfInBounds_toArray, List.set_cons_zero, List.set_cons_succ]
      refine wpAnyL_done (by kernel_rfl) ?_ _
      try simp only [Act.put, List.setIfInBounds_toArray, List.set_cons_zero, List.set_cons_succ]
      clear hj0 z0 z1
      go_wp2
      go_roundw
      case rel => exact ⟨i + 1, by omega, by go_num, HRN.out, HBN.out.drew⟩
      case measure => simp [intOf]; omega
    · obtain rfl : i = P.length := by omega
      have i1 : ¬ (P.length : Int) < (P.length : Int) := by omega
      have HRE := Lib.hid (hrb.row encB_len)
      have hfl := HFL.out P.length
      have HEND := Lib.hid (HB0.out.trans ((HB1.out.trans (hb.mono HB1.out.size)).mono HB0.out.size))
      clear hrb hb
      go_wp2
      go_ret
      first | exact ⟨_, _, by first | rfl | (rw [hfl]; rfl), HRE.out, HEND.out⟩ | exact ⟨_, ⟨_, by first | rfl | (rw [hfl]; rfl)⟩, HRE.out, HEND.out⟩
set_option maxHeartbeats 12800000 in
set_option maxRecDepth 100000 in
theorem rorder_any (n : Int) (a : Option Addr) (cap : Nat) (L : List E) (hL : L.length ≤ 100000) (s : Option Addr) (d : Nat) (S : List Int) (hS : S.length ≤ 100000) (hd : S.length ≤ d) (w : World) (h : EsAt w a L) (hs : IsAt w s S) :
    Calls Try.prog 35 #[gv n a L.length cap, .slice s S.length d] w (GivesBE w (okL (ordE n L S) (ordR n L S)) (ordE n L S)) := by
  have HCH := Lib.hid (fun w h => rcheck_any n a cap L (by omega) w h)
  have HRE := Lib.hid (fun w h => rrenaming_any n s d S hS hd w h)
  have HAL := Lib.hid (fun hR w h hs => ralong_any n a cap L hL hR s d S hS w h hs)
  have HE1 : Hid (chkG n L ≠ 0 → ordE n L S = chkG n L) := Lib.hid fun hz => by unfold ordE; rw [if_pos hz]
  have HE2 : Hid (chkG n L = 0 → ordE n L S = renE n S) := Lib.hid fun hz => by unfold ordE; rw [if_neg (by omega)]
  have HQ : Hid (chkG n L = 0 → renE n S = 0 → (List.range (endsG L).length).map (alnF (endsG L) S) = ordR n L S) := Lib.hid (fun h1 h2 => aln_eq h1 h2)
  have HRT : Hid (chkG n L = 0 → Right n L) := Lib.hid right_of
  have HX1 := Lib.hid (fun h => okL_pos (k := ordE n L S) (ordR n L S) h)
  have HX2 := Lib.hid (fun h => okL_neg (k := ordE n L S) (ordR n L S) h)
  unfold GivesBE
  unfold GivesBL at *
  unfold GivesN gv at *
  generalize okL (ordE n L S) (ordR n L S) = X at *
  generalize ordE n L S = K at *
  generalize ordR n L S = R at *
  generalize (List.range (endsG L).length).map (alnF (endsG L) S) = R2 at *
  generalize chkG n L = k at *
  generalize renE n S = k2 at *
  obtain ⟨W, hW⟩ : ∃ W, W = w.alloc (Obj.cells #[.int .i64 n, .slice a L.length cap] 24) := ⟨_, rfl⟩
  have hb0 : Below w.heap.size w W := by rw [hW]; exact (Below.refl _ _).alloc (Nat.le_refl _) _
  have hg : Blk W w.heap.size 24 #[.int .i64 n, .slice a L.length cap] := by rw [hW]; exact Blk.new _ _ _
  have HB0 := Lib.hid hb0
  have HE := Lib.hid (h.keep hb0)
  have HS := Lib.hid (hs.keep hb0)
  have HG := Lib.hid hg
  have HW := Lib.hid hW
  have g0 : (w.alloc (Obj.cells #[.int .i64 n, .slice a L.length cap] 24)).cell? ⟨w.heap.size, 0, none⟩ = some (.int .i64 n) := by rw [← hW]; exact hg.cell 0
  have g1 : (w.alloc (Obj.cells #[.int .i64 n, .slice a L.length cap] 24)).cell? ⟨w.heap.size, 1, none⟩ = some (.slice a L.length cap) := by rw [← hW]; exact hg.cell 1
  clear hb0 hg hW h hs
  go_enter Try.func35, Try.ntmps35
  go_wp2_with fail
  rw [← HW.out]
  refine (HCH.out _ HE.out).mono ?_
  rintro e w1 ⟨rfl, hb⟩
  have HB1 := Lib.hid hb
  clear g0 g1 hb
  by_cases hk : k ≠ 0
  · have q0 : (((k : Nat) : Int) != 0) = true := by rw [bne_iff_ne]; omega
    have HKE := Lib.hid (HE1.out hk)
    have HXA := Lib.hid (HX2.out (by rw [HE1.out hk]; exact hk))
    have HEND := Lib.hid (HB0.out.trans (HB1.out.mono HB0.out.size))
    clear hk
    go_wp2
    go_ret2
    first | exact ⟨none, 0, by rw [HXA.out, HKE.out]; rfl, by rw [HXA.out]; exact RowAt.nil _ _ _ _, HEND.out⟩ | exact ⟨none, ⟨0, by rw [HXA.out, HKE.out]; rfl⟩, by rw [HXA.out]; exact RowAt.nil _ _ _ _, HEND.out⟩
  · have hk0 : k = 0 := by omega
    have HKF := Lib.hid (HE2.out hk0)
    have HR0 := Lib.hid (HRT.out hk0)
    have HQ0 := Lib.hid (HQ.out hk0)
    subst hk0
    clear hk HE1 HE2 HQ HRT
    have g0 : w1.cell? ⟨w.heap.size, 0, none⟩ = some (.int .i64 n) := (HG.out.below HB1.out HG.out.lt).cell 0
    have g1 : w1.cell? ⟨w.heap.size, 1, none⟩ = some (.slice a L.length cap) := (HG.out.below HB1.out HG.out.lt).cell 1
    go_wp2_with fail
    refine (HRE.out _ (HS.out.keep HB1.out)).mono ?_
    rintro e w2 ⟨rfl, hb⟩
    have HB2 := Lib.hid (HB1.out.trans (hb.mono HB1.out.size))
    clear g0 g1 hb
    by_cases hq : k2 ≠ 0
    · have q0 : (((k2 : Nat) : Int) != 0) = true := by rw [bne_iff_ne]; omega
      have HKE := HKF
      have HXA := Lib.hid (HX2.out (by rw [HKF.out]; exact hq))
      have HEND := Lib.hid (HB0.out.trans (HB2.out.mono HB0.out.size))
      clear hq
      go_wp2
      go_ret2
      first | exact ⟨none, 0, by rw [HXA.out, HKE.out]; rfl, by rw [HXA.out]; exact RowAt.nil _ _ _ _, HEND.out⟩ | exact ⟨none, ⟨0, by rw [HXA.out, HKE.out]; rfl⟩, by rw [HXA.out]; exact RowAt.nil _ _ _ _, HEND.out⟩
    · have hq0 : k2 = 0 := by omega
      have HXA := Lib.hid (HX1.out (by rw [HKF.out]; exact hq0))
      have HRR := Lib.hid (HQ0.out hq0)
      have HKE : Hid (K = 0) := Lib.hid (by rw [HKF.out]; exact hq0)
      subst hq0
      clear hq
      rw [HRR.out] at HAL
      have g0 : w2.cell? ⟨w.heap.size, 0, none⟩ = some (.int .i64 n) := (HG.out.below HB2.out HG.out.lt).cell 0
      have g1 : w2.cell? ⟨w.heap.size, 1, none⟩ = some (.slice a L.length cap) := (HG.out.below HB2.out HG.out.lt).cell 1
      go_wp2_with fail
      refine (HAL.out HR0.out w2 (HE.out.keep HB2.out) (HS.out.keep HB2.out)).mono ?_
      rintro e x9 ⟨ra, rc, rfl, hr9, hb9⟩
      have HR9 := Lib.hid hr9
      have HEND := Lib.hid (HB0.out.trans ((HB2.out.trans (hb9.mono HB2.out.size)).mono HB0.out.size))
      clear hr9 hb9 g0 g1
      go_wp2
      go_ret2
      first | exact ⟨ra, rc, by rw [HXA.out, HKE.out]; rfl, by rw [HXA.out]; exact HR9.out, HEND.out⟩ | exact ⟨ra, ⟨rc, by rw [HXA.out, HKE.out]; rfl⟩, by rw [HXA.out]; exact HR9.out, HEND.out⟩
end Go.Proofs.Ytlnaahkheankoaa
