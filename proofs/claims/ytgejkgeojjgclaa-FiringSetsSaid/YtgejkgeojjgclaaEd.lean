/- The law Sets. -/
import Derived.Test.YtgejkgeojjgclaaEa
import Derived.Test.YtgejkgeojjgclaaFz
import Derived.Test.YtgejkgeojjgclaaSn
namespace Go.Proofs.Ytgejkgeojjgclaa
open Go.RowKit Go.Proofs.Gr Go.Proofs.Cp
attribute [local go_sem] Oper.semAt_some

theorem setsV_len (n : Int) (L : List E) (S : List Int) : (setsV n L S).length ≤ 256 := by
  unfold setsV
  by_cases h : setsK n L S ≠ 0
  · rw [if_pos h]; simp
  · rw [if_neg h, lstT_len]
    unfold setsK at h
    by_cases h1 : chkGD n L S ≠ 0
    · rw [if_pos h1] at h; omega
    · rw [if_neg h1] at h
      by_cases h2 : 256 < moS S - leS S
      · rw [if_pos h2] at h; omega
      · omega
theorem setsV_in (n : Int) (L : List E) (S : List Int) (i : Nat) (hi : i < (setsV n L S).length) : ((setsV n L S).getD i []).length ≤ S.length := by
  unfold setsV at hi ⊢
  by_cases h : setsK n L S ≠ 0
  · rw [if_pos h] at hi; simp at hi
  · rw [if_neg h] at hi ⊢
    rw [lstT_len] at hi
    rw [lstT_at S _ i hi]
    exact grT_len _ _ _
theorem sets_sm {n : Int} {L : List E} {S : List Int} (h : SmS n L S) (hk : chkGD n L S = 0) : setsK n L S = 0 ∧ setsV n L S = lstT S (moS S - leS S).toNat ∧ (moS S - leS S).toNat ≤ 120 := by
  obtain ⟨m1, m2, m3, m4⟩ := h.mo
  have e : setsK n L S = 0 := by unfold setsK; rw [if_neg (by omega), if_neg (by omega)]
  exact ⟨e, by unfold setsV; rw [if_neg (by omega)], by omega⟩
theorem setsK_chk {n : Int} {L : List E} {S : List Int} (h : setsK n L S = 0) : chkGD n L S = 0 := by
  unfold setsK at h
  by_cases h1 : chkGD n L S ≠ 0
  · rw [if_pos h1] at h; omega
  · omega
set_option maxHeartbeats 12800000 in
set_option maxRecDepth 100000 in
theorem sets_any (n : Int) (a : Option Addr) (cap : Nat) (L : List E) (b : Option Addr) (c : Nat) (D : List Int) (w : World) (h : EsAt w a L) (ho : IsAt w b D) :
    Calls Try.prog 8 #[gv n a L.length cap, .slice b D.length c] w (fun e w' => e = .returned (.bool true) ∧ Below w.heap.size w w') := by
  have HAW := Lib.hid (fun w => awake_any w)
  by_cases hf : fewD n L D = false
  · have HFW : Hid (∀ u, EsAt u a L → Calls Try.prog 12 #[gv n a L.length cap, .slice b D.length c] u (fun e w' => e = .returned (.bool false) ∧ Below u.heap.size u w')) := Lib.hid fun u h => by
      have := rFewD_any n a cap L b c D u h
      rwa [hf] at this
    clear hf
    unfold gv at *
    obtain ⟨W, hW⟩ : ∃ W, W = w.alloc (Obj.cells #[.int .i64 n, .slice a L.length cap] 24) := ⟨_, rfl⟩
    have hB0 : Below w.heap.size w W := by rw [hW]; exact (Below.refl _ w).alloc (Nat.le_refl _) _
    have hG : Blk W w.heap.size 24 #[.int .i64 n, .slice a L.length cap] := by rw [hW]; exact Blk.new _ _ _
    have HW := Lib.hid hW
    have HSW : Hid (W.heap.size = w.heap.size + 1) := Lib.hid (by rw [hW]; simp)
    have HB0 := Lib.hid hB0
    have HF : Hid (∀ u, Below W.heap.size W u → u.cell? ⟨w.heap.size, 0, none⟩ = some (.int .i64 n) ∧ u.cell? ⟨w.heap.size, 1, none⟩ = some (.slice a L.length cap)) := Lib.hid fun u hu => ⟨(hG.below hu hG.lt).cell 0, (hG.below hu hG.lt).cell 1⟩
    have HB : Hid (Below W.heap.size W W) := Lib.hid (Below.refl _ _)
    have PEE := Lib.hid (h.keep hB0)
    have PD := Lib.hid (ho.keep hB0)
    clear hW hB0 hG h ho
    go_enter Try.func8, Try.ntmps8
    go_wp2_with fail
    rw [← HW.out]
    refine (HFW.out W PEE.out).mono ?_
    rintro e w0 ⟨rfl, hb⟩
    replace PEE := Lib.hid (PEE.out.keep hb)
    replace PD := Lib.hid (PD.out.keep hb)
    replace HB := Lib.hid (HB.out.trans (hb.mono HB.out.size))
    clear hb
    obtain ⟨g0, g1⟩ := HF.out w0 HB.out
    go_wp2_with fail
    refine (HAW.out w0).mono ?_
    rintro e w1 ⟨rfl, hb⟩
    replace PEE := Lib.hid (PEE.out.keep hb)
    replace PD := Lib.hid (PD.out.keep hb)
    replace HB := Lib.hid (HB.out.trans (hb.mono HB.out.size))
    clear hb
    clear g0 g1
    obtain ⟨g0, g1⟩ := HF.out w1 HB.out
    go_wp2
    go_ret
    exact ⟨rfl, HB0.out.trans (HB.out.mono HB0.out.size)⟩
  have hf : fewD n L D = true := by cases hh : fewD n L D with | true => rfl | false => exact absurd hh hf
  have HFW : Hid (∀ u, EsAt u a L → Calls Try.prog 12 #[gv n a L.length cap, .slice b D.length c] u (fun e w' => e = .returned (.bool true) ∧ Below u.heap.size u w')) := Lib.hid fun u h => by
    have := rFewD_any n a cap L b c D u h
    rwa [hf] at this
  obtain ⟨hl, hd⟩ := few_both hf
  have HP := Lib.hid (fun u h ho => pSets_any n a cap L (by omega) b c D (by omega) u h ho)
  have HR := Lib.hid (fun u h ho => rSets_any n a cap L (by omega) b c D (by omega) u h ho)
  have LM := Lib.hid (setsV_len n L D)
  have LI : Hid (∀ i, i < (setsV n L D).length → ((setsV n L D).getD i []).length ≤ 1000) := Lib.hid fun i hi => by have := setsV_in n L D i hi; omega
  have HSS : Hid (∀ (M : List (List Int)), M.length ≤ 256 → (∀ i, i < M.length → (M.getD i []).length ≤ 1000) → ∀ (u : World) (a b : Option Addr) (c d : Nat), LsAt u a M → LsAt u b M → Calls Try.prog 40 #[.slice a M.length c, .slice b M.length d] u (fun e x => e = .returned (.bool true) ∧ Below u.heap.size u x)) := Lib.hid fun M h1 h2 u a b c d h3 h4 => rSameSets_true a b c d M (by omega) h2 u h3 h4
  have HSML := Lib.hid (fun u h => rSmall_any b c D (by omega) u h)
  by_cases hk : setsK n L D ≠ 0
  · have q0 : (((setsK n L D : Nat) : Int) != 0) = true := by rw [bne_iff_ne]; omega
    clear hk hf hl hd
    unfold GivesLE gv at *
    generalize setsV n L D = M at *
    generalize setsK n L D = K at *
    obtain ⟨W, hW⟩ : ∃ W, W = w.alloc (Obj.cells #[.int .i64 n, .slice a L.length cap] 24) := ⟨_, rfl⟩
    have hB0 : Below w.heap.size w W := by rw [hW]; exact (Below.refl _ w).alloc (Nat.le_refl _) _
    have hG : Blk W w.heap.size 24 #[.int .i64 n, .slice a L.length cap] := by rw [hW]; exact Blk.new _ _ _
    have HW := Lib.hid hW
    have HSW : Hid (W.heap.size = w.heap.size + 1) := Lib.hid (by rw [hW]; simp)
    have HB0 := Lib.hid hB0
    have HF : Hid (∀ u, Below W.heap.size W u → u.cell? ⟨w.heap.size, 0, none⟩ = some (.int .i64 n) ∧ u.cell? ⟨w.heap.size, 1, none⟩ = some (.slice a L.length cap)) := Lib.hid fun u hu => ⟨(hG.below hu hG.lt).cell 0, (hG.below hu hG.lt).cell 1⟩
    have HB : Hid (Below W.heap.size W W) := Lib.hid (Below.refl _ _)
    have PEE := Lib.hid (h.keep hB0)
    have PD := Lib.hid (ho.keep hB0)
    clear hW hB0 hG h ho
    go_enter Try.func8, Try.ntmps8
    go_wp2_with fail
    rw [← HW.out]
    refine (HFW.out W PEE.out).mono ?_
    rintro e w0 ⟨rfl, hb⟩
    replace PEE := Lib.hid (PEE.out.keep hb)
    replace PD := Lib.hid (PD.out.keep hb)
    replace HB := Lib.hid (HB.out.trans (hb.mono HB.out.size))
    clear hb
    obtain ⟨g0, g1⟩ := HF.out w0 HB.out
    go_wp2_with fail
    refine (HP.out w0 PEE.out PD.out).mono ?_
    rintro e w1 ⟨p1, q1, rfl, hpM1, hb⟩
    replace PEE := Lib.hid (PEE.out.keep hb)
    replace PD := Lib.hid (PD.out.keep hb)
    replace HB := Lib.hid (HB.out.trans (hb.mono HB.out.size))
    clear hb
    have PM1 := Lib.hid hpM1
    clear hpM1
    clear g0 g1
    obtain ⟨g0, g1⟩ := HF.out w1 HB.out
    go_wp2_with fail
    refine (HR.out w1 PEE.out PD.out).mono ?_
    rintro e w2 ⟨p2, q2, rfl, hpM2, hb⟩
    replace PEE := Lib.hid (PEE.out.keep hb)
    replace PD := Lib.hid (PD.out.keep hb)
    replace PM1 := Lib.hid (PM1.out.keep hb)
    replace HB := Lib.hid (HB.out.trans (hb.mono HB.out.size))
    clear hb
    have PM2 := Lib.hid hpM2
    clear hpM2
    clear g0 g1
    obtain ⟨g0, g1⟩ := HF.out w2 HB.out
    go_wp2_with fail
    refine (HSS.out M LM.out LI.out w2 _ _ _ _ PM1.out PM2.out).mono ?_
    rintro e w3 ⟨rfl, hb⟩
    clear PM2
    replace PEE := Lib.hid (PEE.out.keep hb)
    replace PD := Lib.hid (PD.out.keep hb)
    replace PM1 := Lib.hid (PM1.out.keep hb)
    replace HB := Lib.hid (HB.out.trans (hb.mono HB.out.size))
    clear hb
    clear g0 g1
    obtain ⟨g0, g1⟩ := HF.out w3 HB.out
    go_wp2_with fail
    refine (HAW.out w3).mono ?_
    rintro e w4 ⟨rfl, hb⟩
    replace PEE := Lib.hid (PEE.out.keep hb)
    replace PD := Lib.hid (PD.out.keep hb)
    replace PM1 := Lib.hid (PM1.out.keep hb)
    replace HB := Lib.hid (HB.out.trans (hb.mono HB.out.size))
    clear hb
    clear g0 g1
    obtain ⟨g0, g1⟩ := HF.out w4 HB.out
    go_wp2
    go_ret
    exact ⟨rfl, HB0.out.trans (HB.out.mono HB0.out.size)⟩
  have hk0 : setsK n L D = 0 := by omega
  by_cases hs : smallD D = false
  · rw [hs] at HSML
    rw [hk0] at HP HR
    clear hk0 hk hs hf hl hd
    unfold GivesLE gv at *
    generalize setsV n L D = M at *
    obtain ⟨W, hW⟩ : ∃ W, W = w.alloc (Obj.cells #[.int .i64 n, .slice a L.length cap] 24) := ⟨_, rfl⟩
    have hB0 : Below w.heap.size w W := by rw [hW]; exact (Below.refl _ w).alloc (Nat.le_refl _) _
    have hG : Blk W w.heap.size 24 #[.int .i64 n, .slice a L.length cap] := by rw [hW]; exact Blk.new _ _ _
    have HW := Lib.hid hW
    have HSW : Hid (W.heap.size = w.heap.size + 1) := Lib.hid (by rw [hW]; simp)
    have HB0 := Lib.hid hB0
    have HF : Hid (∀ u, Below W.heap.size W u → u.cell? ⟨w.heap.size, 0, none⟩ = some (.int .i64 n) ∧ u.cell? ⟨w.heap.size, 1, none⟩ = some (.slice a L.length cap)) := Lib.hid fun u hu => ⟨(hG.below hu hG.lt).cell 0, (hG.below hu hG.lt).cell 1⟩
    have HB : Hid (Below W.heap.size W W) := Lib.hid (Below.refl _ _)
    have PEE := Lib.hid (h.keep hB0)
    have PD := Lib.hid (ho.keep hB0)
    clear hW hB0 hG h ho
    go_enter Try.func8, Try.ntmps8
    go_wp2_with fail
    rw [← HW.out]
    refine (HFW.out W PEE.out).mono ?_
    rintro e w0 ⟨rfl, hb⟩
    replace PEE := Lib.hid (PEE.out.keep hb)
    replace PD := Lib.hid (PD.out.keep hb)
    replace HB := Lib.hid (HB.out.trans (hb.mono HB.out.size))
    clear hb
    obtain ⟨g0, g1⟩ := HF.out w0 HB.out
    go_wp2_with fail
    refine (HP.out w0 PEE.out PD.out).mono ?_
    rintro e w1 ⟨p1, q1, rfl, hpM1, hb⟩
    replace PEE := Lib.hid (PEE.out.keep hb)
    replace PD := Lib.hid (PD.out.keep hb)
    replace HB := Lib.hid (HB.out.trans (hb.mono HB.out.size))
    clear hb
    have PM1 := Lib.hid hpM1
    clear hpM1
    clear g0 g1
    obtain ⟨g0, g1⟩ := HF.out w1 HB.out
    go_wp2_with fail
    refine (HR.out w1 PEE.out PD.out).mono ?_
    rintro e w2 ⟨p2, q2, rfl, hpM2, hb⟩
    replace PEE := Lib.hid (PEE.out.keep hb)
    replace PD := Lib.hid (PD.out.keep hb)
    replace PM1 := Lib.hid (PM1.out.keep hb)
    replace HB := Lib.hid (HB.out.trans (hb.mono HB.out.size))
    clear hb
    have PM2 := Lib.hid hpM2
    clear hpM2
    clear g0 g1
    obtain ⟨g0, g1⟩ := HF.out w2 HB.out
    go_wp2_with fail
    refine (HSS.out M LM.out LI.out w2 _ _ _ _ PM1.out PM2.out).mono ?_
    rintro e w3 ⟨rfl, hb⟩
    clear PM2
    replace PEE := Lib.hid (PEE.out.keep hb)
    replace PD := Lib.hid (PD.out.keep hb)
    replace PM1 := Lib.hid (PM1.out.keep hb)
    replace HB := Lib.hid (HB.out.trans (hb.mono HB.out.size))
    clear hb
    clear g0 g1
    obtain ⟨g0, g1⟩ := HF.out w3 HB.out
    go_wp2_with fail
    refine (HSML.out w3 PD.out).mono ?_
    rintro e w4 ⟨rfl, hb⟩
    replace PEE := Lib.hid (PEE.out.keep hb)
    replace PD := Lib.hid (PD.out.keep hb)
    replace PM1 := Lib.hid (PM1.out.keep hb)
    replace HB := Lib.hid (HB.out.trans (hb.mono HB.out.size))
    clear hb
    clear g0 g1
    obtain ⟨g0, g1⟩ := HF.out w4 HB.out
    go_wp2_with fail
    refine (HAW.out w4).mono ?_
    rintro e w5 ⟨rfl, hb⟩
    replace PEE := Lib.hid (PEE.out.keep hb)
    replace PD := Lib.hid (PD.out.keep hb)
    replace PM1 := Lib.hid (PM1.out.keep hb)
    replace HB := Lib.hid (HB.out.trans (hb.mono HB.out.size))
    clear hb
    clear g0 g1
    obtain ⟨g0, g1⟩ := HF.out w5 HB.out
    go_wp2
    go_ret
    exact ⟨rfl, HB0.out.trans (HB.out.mono HB0.out.size)⟩
  have hs1 : smallD D = true := by cases hh : smallD D with | true => rfl | false => exact absurd hh hs
  have hc := setsK_chk hk0
  have hsm := sml_of hf hc hs1
  obtain ⟨-, hv, ht⟩ := sets_sm hsm hc
  have hch := hsm.last
  have HCH := Lib.hid (fun u h ho => pChange_any n a cap L (by omega) b c D (by omega) u h ho)
  rw [hch.1, hch.2] at HCH
  have hn1 := hsm.right.lo
  have hn2 := hsm.right.hi
  have HST := Lib.hid hsm.start
  have HQL : Hid (∀ i, (sumQ n L D i).length = n.toNat) := Lib.hid fun i => sumQ_len n L D i
  have HFS : Hid (∀ i p q p2 q2 u, i < (setsV n L D).length → EsAt u a L → IsAt u p (sumQ n L D i) → IsAt u p2 ((setsV n L D).getD i []) → Calls Try.prog 26 #[gv n a L.length cap, .slice p n.toNat q, .slice p2 ((setsV n L D).getD i []).length q2] u (fun e w' => ∃ p q, e = .returned (.tuple #[.slice p n.toNat q, .int .i64 0]) ∧ IsAt w' p (sumQ n L D (i + 1)) ∧ Below u.heap.size u w')) := Lib.hid fun i p q p2 q2 u hi h1 h2 h3 => by
    have hi2 : i < (moS D - leS D).toNat := by rw [hv, lstT_len] at hi; exact hi
    have e1 : (setsV n L D).getD i [] = grT D (moS D - 1 - i) D.length := by rw [hv]; exact lstT_at D _ i hi2
    rw [e1] at h3 ⊢
    have hg := grT_len D (moS D - 1 - i) D.length
    have hp := pFireSet_any n a cap L (by omega) p q (sumQ n L D i) (by rw [sumQ_len]; omega) p2 q2 (grT D (moS D - 1 - i) D.length) (by omega) u h1 h2 h3
    obtain ⟨s1, s2⟩ := hsm.step i (by omega)
    rw [s1, s2, sumQ_len] at hp
    unfold GivesIE at hp
    rw [sumQ_len] at hp
    exact hp
  have HTL : Hid ((setsV n L D).length = (moS D - leS D).toNat) := Lib.hid (by rw [hv, lstT_len])
  have HTT := Lib.hid ht
  obtain ⟨N, hN⟩ : ∃ N : Nat, n = N := ⟨n.toNat, by omega⟩
  subst hN
  rw [Int.toNat_natCast] at HFS HQL
  have hzr : zeroL (N : Int) = List.replicate N 0 := by unfold zeroL; rw [Int.toNat_natCast]
  rw [hzr] at HST
  have HNN : Hid (N ≤ 1000) := Lib.hid (by omega)
  have HSM := Lib.hid same_true
  rw [hs1] at HSML
  rw [hk0] at HP HR
  clear hk0 hk hs hf hl hd hs1 hc hsm hv ht hch hn1 hn2 hzr
  unfold GivesLE GivesIE gv at *
  generalize setsV N L D = M at *
  generalize (moS D - leS D).toNat = T at *
  generalize sumQ N L D = Q at *
  have HCH2 : Hid (∀ u, EsAt u a L → IsAt u b D → Calls Try.prog 14 #[.agg #[.int .i64 (N : Int), .slice a L.length cap], .slice b D.length c] u (fun e w' => ∃ p q, e = .returned (.tuple #[.slice p N q, .int .i64 0]) ∧ IsAt w' p (Q T) ∧ Below u.heap.size u w')) := Lib.hid fun u h1 h2 => by
    have := HCH.out u h1 h2
    rwa [HQL.out] at this
  clear HCH
  obtain ⟨W, hW⟩ : ∃ W, W = w.alloc (Obj.cells #[.int .i64 (N : Int), .slice a L.length cap] 24) := ⟨_, rfl⟩
  have hB0 : Below w.heap.size w W := by rw [hW]; exact (Below.refl _ w).alloc (Nat.le_refl _) _
  have hG : Blk W w.heap.size 24 #[.int .i64 (N : Int), .slice a L.length cap] := by rw [hW]; exact Blk.new _ _ _
  have HW := Lib.hid hW
  have HSW : Hid (W.heap.size = w.heap.size + 1) := Lib.hid (by rw [hW]; simp)
  have HB0 := Lib.hid hB0
  have HF : Hid (∀ u, Below W.heap.size W u → u.cell? ⟨w.heap.size, 0, none⟩ = some (.int .i64 (N : Int)) ∧ u.cell? ⟨w.heap.size, 1, none⟩ = some (.slice a L.length cap)) := Lib.hid fun u hu => ⟨(hG.below hu hG.lt).cell 0, (hG.below hu hG.lt).cell 1⟩
  have HB : Hid (Below W.heap.size W W) := Lib.hid (Below.refl _ _)
  have PEE := Lib.hid (h.keep hB0)
  have PD := Lib.hid (ho.keep hB0)
  clear hW hB0 hG h ho
  go_enter Try.func8, Try.ntmps8
  go_wp2_with fail
  rw [← HW.out]
  refine (HFW.out W PEE.out).mono ?_
  rintro e w0 ⟨rfl, hb⟩
  replace PEE := Lib.hid (PEE.out.keep hb)
  replace PD := Lib.hid (PD.out.keep hb)
  replace HB := Lib.hid (HB.out.trans (hb.mono HB.out.size))
  clear hb
  obtain ⟨g0, g1⟩ := HF.out w0 HB.out
  go_wp2_with fail
  refine (HP.out w0 PEE.out PD.out).mono ?_
  rintro e w1 ⟨p1, q1, rfl, hpM1, hb⟩
  replace PEE := Lib.hid (PEE.out.keep hb)
  replace PD := Lib.hid (PD.out.keep hb)
  replace HB := Lib.hid (HB.out.trans (hb.mono HB.out.size))
  clear hb
  have PM1 := Lib.hid hpM1
  clear hpM1
  clear g0 g1
  obtain ⟨g0, g1⟩ := HF.out w1 HB.out
  go_wp2_with fail
  refine (HR.out w1 PEE.out PD.out).mono ?_
  rintro e w2 ⟨p2, q2, rfl, hpM2, hb⟩
  replace PEE := Lib.hid (PEE.out.keep hb)
  replace PD := Lib.hid (PD.out.keep hb)
  replace PM1 := Lib.hid (PM1.out.keep hb)
  replace HB := Lib.hid (HB.out.trans (hb.mono HB.out.size))
  clear hb
  have PM2 := Lib.hid hpM2
  clear hpM2
  clear g0 g1
  obtain ⟨g0, g1⟩ := HF.out w2 HB.out
  go_wp2_with fail
  refine (HSS.out M LM.out LI.out w2 _ _ _ _ PM1.out PM2.out).mono ?_
  rintro e w3 ⟨rfl, hb⟩
  clear PM2
  replace PEE := Lib.hid (PEE.out.keep hb)
  replace PD := Lib.hid (PD.out.keep hb)
  replace PM1 := Lib.hid (PM1.out.keep hb)
  replace HB := Lib.hid (HB.out.trans (hb.mono HB.out.size))
  clear hb
  clear g0 g1
  obtain ⟨g0, g1⟩ := HF.out w3 HB.out
  go_wp2_with fail
  refine (HSML.out w3 PD.out).mono ?_
  rintro e w4 ⟨rfl, hb⟩
  replace PEE := Lib.hid (PEE.out.keep hb)
  replace PD := Lib.hid (PD.out.keep hb)
  replace PM1 := Lib.hid (PM1.out.keep hb)
  replace HB := Lib.hid (HB.out.trans (hb.mono HB.out.size))
  clear hb
  clear g0 g1
  obtain ⟨g0, g1⟩ := HF.out w4 HB.out
  go_wp2_with fail
  refine (HCH2.out w4 PEE.out PD.out).mono ?_
  rintro e w5 ⟨p3, q3, rfl, hpCH, hb⟩
  clear PD
  replace PEE := Lib.hid (PEE.out.keep hb)
  replace PM1 := Lib.hid (PM1.out.keep hb)
  replace HB := Lib.hid (HB.out.trans (hb.mono HB.out.size))
  clear hb
  have PCH := Lib.hid hpCH
  clear hpCH
  clear g0 g1
  obtain ⟨g0, g1⟩ := HF.out w5 HB.out
  have hmk := make_divs N (by have := HNN.out; omega) w5
  obtain ⟨W9, hW9⟩ : ∃ v, v = w5.alloc (.cells (flat encI (List.replicate N 0)).toArray 3) := ⟨_, rfl⟩
  obtain ⟨g, hgg⟩ : ∃ v, v = w5.heap.size := ⟨_, rfl⟩
  have hR0 : RowB encI 3 W9 g (List.replicate N 0) := by rw [hW9, hgg]; exact RowB.new _ _ _ _
  have hbn : Below w5.heap.size w5 W9 := by rw [hW9]; exact (Below.refl _ _).alloc (Nat.le_refl _) _
  rw [← hW9, ← hgg] at hmk
  have PQ0 : Hid (IsAt W9 (some ⟨g, 0, none⟩) (Q 0)) := Lib.hid (by rw [HST.out]; exact hR0.row encI_len)
  have HB9 := Lib.hid (HB.out.trans (hbn.mono HB.out.size))
  replace PEE := Lib.hid (PEE.out.keep hbn)
  replace PM1 := Lib.hid (PM1.out.keep hbn)
  replace PCH := Lib.hid (PCH.out.keep hbn)
  clear hW9 hgg hR0 hbn
  go_wp2
  clear g0 g1
  go_loopw [10, 60] (fun s x wr => ∃ (i : Nat) (p : Option Addr) (q : Nat), i ≤ M.length ∧ x = .int .i64 i ∧ s = .slice p N q ∧ IsAt wr p (Q i) ∧ Below W9.heap.size W9 wr) (fun _ x _ => M.length - (intOf x).toNat)
  case atStart => exact ⟨0, some ⟨g, 0, none⟩, N, by omega, rfl, rfl, PQ0.out, Below.refl _ _⟩
  case round =>
    obtain ⟨i, p, q, hi, rfl, rfl, hp, hb⟩ := hrel
    have HPI := Lib.hid hp
    have HBI := Lib.hid hb
    have HBW := Lib.hid (HB9.out.trans (hb.mono HB9.out.size))
    obtain ⟨g0, g1⟩ := HF.out wr HBW.out
    by_cases hlt : i < M.length
    · have i1 : (i : Int) < (M.length : Int) := by omega
      have i2 : (0 : Int) ≤ (i : Int) := by omega
      have HLT := Lib.hid hlt
      obtain ⟨b1, o1, xa, xc, hb1, q1x, x1, r1⟩ := (PM1.out.keep hb).at i hlt
      subst hb1
      have hml := LM.out
      have HFI := Lib.hid (HFS.out i p q xa xc wr hlt (PEE.out.keep hb) hp r1)
      generalize M.getD i [] = O at *
      clear hlt hp hb r1 q1x
      go_wp2_with fail
      refine HFI.out.mono ?_
      rintro e w8 ⟨p8, q8, rfl, hr8, hb8⟩
      have HR8 := Lib.hid hr8
      have HB8 := Lib.hid (HBI.out.trans (hb8.mono HBI.out.size))
      clear hr8 hb8
      go_wp2
      go_roundw
      case rel => exact ⟨i + 1, p8, q8, by have := HLT.out; omega, by go_num, rfl, HR8.out, HB8.out⟩
      case measure => have := HLT.out; simp [intOf]; omega
    · obtain rfl : i = M.length := by omega
      have i1 : ¬ (M.length : Int) < (M.length : Int) := by omega
      have HQT : Hid (IsAt wr p (Q T)) := Lib.hid (by rw [← HTL.out]; exact hp)
      have HCW := Lib.hid (PCH.out.keep hb)
      have HSM1 : Hid (Calls Try.prog 18 #[.slice p N q, .slice p3 N q3] wr (fun e x => e = .returned (.bool true) ∧ Below wr.heap.size wr x)) := Lib.hid (by
        have := HSM.out wr p p3 q q3 (Q T) (by rw [HQL.out]; exact HNN.out) HQT.out HCW.out
        rwa [HQL.out] at this)
      clear hp hb
      go_wp2_with fail
      refine HSM1.out.mono ?_
      rintro e w8 ⟨rfl, hb8⟩
      have HB8 := Lib.hid (HBW.out.trans (hb8.mono HBW.out.size))
      clear hb8 g0 g1
      go_wp2_with fail
      refine (HAW.out w8).mono ?_
      rintro e w7 ⟨rfl, hb7⟩
      have HB7 := Lib.hid (HB8.out.trans (hb7.mono HB8.out.size))
      clear hb7
      go_wp2
      go_ret
      exact ⟨rfl, HB0.out.trans (HB7.out.mono HB0.out.size)⟩
end Go.Proofs.Ytgejkgeojjgclaa
