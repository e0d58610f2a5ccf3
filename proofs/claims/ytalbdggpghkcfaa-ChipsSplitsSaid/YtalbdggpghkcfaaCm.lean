/- The parts of a divisor, by both: walks. -/
import Derived.Test.YtalbdggpghkcfaaCl
import Derived.Lib.MinMax
namespace Go.Proofs.Ytalbdggpghkcfaa
open Go.RowKit Go.Proofs.Gr Go.Proofs.Cp
attribute [local go_sem] Oper.semAt_some

set_option maxHeartbeats 12800000 in
set_option maxRecDepth 100000 in
theorem pParts_any (a : Option Addr) (c : Nat) (D : List Int) (hD : D.length ≤ 1000) (w : World) (h : IsAt w a D) :
    Calls Try.prog 35 #[.slice a D.length c] w (GivesIIE w (posV D) (negV D) (ownD D)) := by
  have HC := Lib.hid (check1_any a c D hD w h)
  have H1 := Lib.hid h
  have HP0 : Hid (posT D 0 = List.replicate D.length 0) := Lib.hid rfl
  have HN0 : Hid (negT D 0 = List.replicate D.length 0) := Lib.hid rfl
  have HPT : Hid (∀ k, posT D (k + 1) = (posT D k).set k (max (iAt D k) 0)) := Lib.hid fun _ => rfl
  have HNT : Hid (∀ k, negT D (k + 1) = (negT D k).set k (max (-iAt D k) 0)) := Lib.hid fun _ => rfl
  have HPN := Lib.hid (fun k => posT_len D k)
  have HNN := Lib.hid (fun k => negT_len D k)
  have HPA := Lib.hid (posT_all D)
  have HNA := Lib.hid (negT_all D)
  have HV : Hid (ownD D = 0 → posV D = posD D ∧ negV D = negD D) := Lib.hid fun hz => by unfold posV negV; rw [if_pos hz, if_pos hz]; exact ⟨rfl, rfl⟩
  have HV2 : Hid (ownD D ≠ 0 → posV D = [] ∧ negV D = []) := Lib.hid fun hz => by unfold posV negV; rw [if_neg hz, if_neg hz]; exact ⟨rfl, rfl⟩
  have HRG0 : Hid (ownD D = 0 → ∀ i, i < D.length → -1048576 ≤ iAt D i ∧ iAt D i ≤ 1048576) := Lib.hid fun hz i hi => div_at (own_div hz) i hi
  unfold GivesIIE
  generalize posV D = PV at *
  generalize negV D = NV at *
  generalize posD D = PA at *
  generalize negD D = NA at *
  generalize posT D = PT at *
  generalize negT D = NT at *
  generalize ownD D = k at *
  clear h
  go_enter Try.func35, Try.ntmps35
  go_wp2_with fail
  refine HC.out.mono ?_
  rintro e w1 ⟨rfl, hb⟩
  have HB1 := Lib.hid hb
  clear hb
  by_cases hk : k = 0
  · have HR := Lib.hid (HV.out hk)
    have HRG := Lib.hid (HRG0.out hk)
    subst hk
    go_wp2
    have hj0 : Below w1.heap.size w1 w1.drew := (Below.refl _ _).drew
    refine wp_region_late (S := fun u => Below w1.heap.size w1 u) (X := []) (by kernel_rfl) ?_
    refine wpAnyL_pureD (i := 0) 16 (.slice a D.length c) rfl rfl (by kernel_rfl) (by kernel_rfl) (by kernel_rfl) (fun _ _ _ h => h) (Or.inl ⟨by rfl, fun u _ => ?_⟩) ?_
    · go_simp
    try simp only [Act.put, List.setIfInBounds_toArray, List.set_cons_zero, List.set_cons_succ]
    refine wpAnyL_pureD (i := 1) 17 (.int .i64 (D.length : Int)) rfl rfl (by kernel_rfl) (by kernel_rfl) (by kernel_rfl) (fun _ _ _ h => h) (Or.inl ⟨by rfl, fun u _ => ?_⟩) ?_
    · go_simp
    try simp only [Act.put, List.setIfInBounds_toArray, List.set_cons_zero, List.set_cons_succ]
    refine wpAnyL_pureD (i := 3) 19 (.slice a D.length c) rfl rfl (by kernel_rfl) (by kernel_rfl) (by kernel_rfl) (fun _ _ _ h => h) (Or.inl ⟨by rfl, fun u _ => ?_⟩) ?_
    · go_simp
    try simp only [Act.put, List.setIfInBounds_toArray, List.set_cons_zero, List.set_cons_succ]
    refine wpAnyL_pureD (i := 4) 20 (.int .i64 (D.length : Int)) rfl rfl (by kernel_rfl) (by kernel_rfl) (by kernel_rfl) (fun _ _ _ h => h) (Or.inl ⟨by rfl, fun u _ => ?_⟩) ?_
    · go_simp
    try simp only [Act.put, List.setIfInBounds_toArray, List.set_cons_zero, List.set_cons_succ]
    refine wpAnyL_some (rs := [2, 5]) (by kernel_rfl) (by simp) (fun i' hi' => ?_)
    rcases (show i' = 2 ∨ i' = 5 by simpa using hi') with rfl | rfl
    · refine ⟨_, rfl, fun K hK => ?_⟩
      have hmk := make_divs D.length (by omega) w1.drew
      go_simp
      clear hmk
      obtain ⟨gp, hgp⟩ : ∃ g, g = w1.heap.size := ⟨_, rfl⟩
      obtain ⟨u1, hu1⟩ : ∃ u, u = (w1.alloc (.cells (flat encI (List.replicate D.length 0)).toArray 3)).drew := ⟨_, rfl⟩
      have hj1 : Below w1.heap.size w1 u1 := by rw [hu1]; exact ((Below.refl _ w1).alloc (Nat.le_refl _) _).drew
      have hrp : RowB encI 3 u1 gp (List.replicate D.length 0) := by rw [hu1, hgp]; exact RowB.new _ _ _ _
      have hs1 : u1.heap.size = gp + 1 := by rw [hu1, hgp]; simp
      have HS1 := Lib.hid hs1
      have HG1 : Hid (w1.heap.size ≤ gp) := Lib.hid (by rw [hgp]; exact Nat.le_refl _)
      rw [← hu1]
      refine hK.out _ _ (fun _ => hj1) ?_
      clear hK K hu1 hs1
      try simp only [Act.put, List.setIfInBounds_toArray, List.set_cons_zero, List.set_cons_succ]
      refine wpAnyL_pureD (i := 6) 6 (.slice (some ⟨gp, 0, none⟩) D.length D.length) rfl rfl (by kernel_rfl) (by kernel_rfl) (by kernel_rfl) (fun _ _ _ h => h) (Or.inl ⟨by rfl, fun u _ => ?_⟩) ?_
      · go_simp
        try first | exact hgp.symm | rfl
      try simp only [Act.put, List.setIfInBounds_toArray, List.set_cons_zero, List.set_cons_succ]
      have HGA := Lib.hid hgp
      clear hgp
      refine wpAnyL_one (i := 5) (by kernel_rfl) rfl (fun K hK => ?_)
      have hmk := make_divs D.length (by omega) u1
      go_simp
      clear hmk
      obtain ⟨gn, hgn⟩ : ∃ g, g = u1.heap.size := ⟨_, rfl⟩
      obtain ⟨u2, hu2⟩ : ∃ u, u = u1.alloc (.cells (flat encI (List.replicate D.length 0)).toArray 3) := ⟨_, rfl⟩
      have hj2 : Below w1.heap.size w1 u2 := by rw [hu2]; exact hj1.alloc hj1.size _
      have hrn : RowB encI 3 u2 gn (List.replicate D.length 0) := by rw [hu2, hgn]; exact RowB.new _ _ _ _
      have hrp2 : RowB encI 3 u2 gp (List.replicate D.length 0) := by rw [hu2]; exact Blk.alloc hrp _
      have hne : gp ≠ gn := by have := HS1.out; omega
      have hbl : w1.heap.size ≤ gn := by rw [hgn]; exact hj1.size
      have HTW : Hid (TwoB w u2 gp gn (List.replicate D.length 0) (List.replicate D.length 0)) := Lib.hid ⟨hrp2, hrn, hne, Nat.le_trans HB1.out.size HG1.out, Nat.le_trans HB1.out.size hbl, HB1.out.trans (hj2.mono HB1.out.size)⟩
      rw [← hu2]
      refine hK.out _ _ (fun _ _ => hj2) ?_
      clear hK K hu2 hrp hrn hrp2 hne hbl
      try simp only [Act.put, List.setIfInBounds_toArray, List.set_cons_zero, List.set_cons_succ]
      have hgp := HGA.out
      refine wpAnyL_pureD (i := 7) 7 (.slice (some ⟨gn, 0, none⟩) D.length D.length) rfl rfl (by kernel_rfl) (by kernel_rfl) (by kernel_rfl) (fun _ _ _ h => h) (Or.inl ⟨by rfl, fun u _ => ?_⟩) ?_
      · go_simp
        try first | exact hgn.symm | rfl
      try simp only [Act.put, List.setIfInBounds_toArray, List.set_cons_zero, List.set_cons_succ]
      clear hgp HGA
      clear hgn
      refine wpAnyL_done (by kernel_rfl) ?_ _
      try simp only [Act.put, List.setIfInBounds_toArray, List.set_cons_zero, List.set_cons_succ]
      clear hj0 hj1 hj2 HS1 HG1
      go_wp2
      go_loopw [24] (fun x wr => ∃ i : Nat, i ≤ D.length ∧ x = .int .i64 i ∧ TwoB w wr gp gn (PT i) (NT i)) (fun x _ => D.length - (intOf x).toNat)
      case atStart => exact ⟨0, by omega, rfl, by rw [HP0.out, HN0.out]; exact HTW.out⟩
      case round =>
        obtain ⟨i, hi, rfl, h2w⟩ := hrel
        have H2W := Lib.hid h2w
        by_cases hlt : i < D.length
        · have i1 : (i : Int) < (D.length : Int) := by omega
          have i2 : (0 : Int) ≤ (i : Int) := by omega
          obtain ⟨b1, o1, hb1, q1, x1⟩ := (H1.out.keep h2w.b).one i hlt
          subst hb1
          have HS : Hid (∀ u, Below wr.heap.size wr u → u.cell? ⟨b1, o1 + i, none⟩ = some (.int .i64 (iAt D i))) := Lib.hid fun u hu => (hu.cell (p := ⟨b1, o1 + i, none⟩) q1).trans x1
          have hzb := HRG.out i hlt
          have HPS := Lib.hid (HPT.out i)
          have HNS := Lib.hid (HNT.out i)
          have HPL := Lib.hid (HPN.out i)
          have HNL := Lib.hid (HNN.out i)
          generalize iAt D i = z at *
          generalize PT i = PX at *
          generalize NT i = NX at *
          have s1 := h2w.p.cell i (by rw [HPL.out]; exact hlt)
          have s2 : wr.frozen? ⟨gp, i, none⟩ = false := Blk.frozen h2w.p i
          have h2n := h2w.n.far (p := ⟨gp, i, none⟩) h2w.ne.symm (.int .i64 (max z 0))
          have s3 := h2n.cell i (by rw [HNL.out]; exact hlt)
          have s4 : (wr.setCell ⟨gp, i, none⟩ (.int .i64 (max z 0))).frozen? ⟨gn, i, none⟩ = false := Blk.frozen h2n i
          have HTN : Hid (TwoB w ((wr.setCell ⟨gp, i, none⟩ (.int .i64 (max z 0))).setCell ⟨gn, i, none⟩ (.int .i64 (max (-z) 0))) gp gn (PT (i + 1)) (NT (i + 1))) := Lib.hid (by rw [HPS.out, HNS.out]; exact h2w.set i _ _)
          generalize iAt PX i = old1 at s1
          generalize iAt NX i = old2 at s3
          clear h2w h2n
          go_wp2
          go_roundw
          case rel => exact ⟨i + 1, by omega, by go_num, by first | exact HTN.out | exact HTN.out.drew⟩
          case measure => simp [intOf]; omega
        · obtain rfl : i = D.length := by omega
          have i1 : ¬ (D.length : Int) < (D.length : Int) := by omega
          rw [HPA.out, HNA.out] at h2w
          have HT := Lib.hid h2w
          have HLP : Hid (PA.length = D.length) := Lib.hid (by rw [← HPA.out, HPN.out])
          have HLN : Hid (NA.length = D.length) := Lib.hid (by rw [← HNA.out, HNN.out])
          clear h2w H2W
          go_wp2
          refine bodyPost_ret (v := .tuple #[.slice (some ⟨gp, 0, none⟩) D.length D.length, .slice (some ⟨gn, 0, none⟩) D.length D.length, .int .i64 0]) (by simp [results, Try.results35, go_sem]) rfl ?_
          have HX : Hid (PV = PA ∧ NV = NA) := HR
          first | exact ⟨some ⟨gp, 0, none⟩, D.length, some ⟨gn, 0, none⟩, ⟨D.length, by rw [HX.out.1, HX.out.2, HLP.out, HLN.out]⟩, by rw [HX.out.1]; exact HT.out.p.row encI_len, by rw [HX.out.2]; exact HT.out.n.row encI_len, HT.out.b⟩ | exact ⟨some ⟨gp, 0, none⟩, D.length, some ⟨gn, 0, none⟩, D.length, by rw [HX.out.1, HX.out.2, HLP.out, HLN.out], by rw [HX.out.1]; exact HT.out.p.row encI_len, by rw [HX.out.2]; exact HT.out.n.row encI_len, HT.out.b⟩
    · refine ⟨_, rfl, fun K hK => ?_⟩
      have hmk := make_divs D.length (by omega) w1.drew
      go_simp
      clear hmk
      obtain ⟨gn, hgn⟩ : ∃ g, g = w1.heap.size := ⟨_, rfl⟩
      obtain ⟨u1, hu1⟩ : ∃ u, u = (w1.alloc (.cells (flat encI (List.replicate D.length 0)).toArray 3)).drew := ⟨_, rfl⟩
      have hj1 : Below w1.heap.size w1 u1 := by rw [hu1]; exact ((Below.refl _ w1).alloc (Nat.le_refl _) _).drew
      have hrn : RowB encI 3 u1 gn (List.replicate D.length 0) := by rw [hu1, hgn]; exact RowB.new _ _ _ _
      have hs1 : u1.heap.size = gn + 1 := by rw [hu1, hgn]; simp
      have HS1 := Lib.hid hs1
      have HG1 : Hid (w1.heap.size ≤ gn) := Lib.hid (by rw [hgn]; exact Nat.le_refl _)
      rw [← hu1]
      refine hK.out _ _ (fun _ => hj1) ?_
      clear hK K hu1 hs1
      try simp only [Act.put, List.setIfInBounds_toArray, List.set_cons_zero, List.set_cons_succ]
      have HGA := Lib.hid hgn
      clear hgn
      refine wpAnyL_one (i := 2) (by kernel_rfl) rfl (fun K hK => ?_)
      have hmk := make_divs D.length (by omega) u1
      go_simp
      clear hmk
      obtain ⟨gp, hgp⟩ : ∃ g, g = u1.heap.size := ⟨_, rfl⟩
      obtain ⟨u2, hu2⟩ : ∃ u, u = u1.alloc (.cells (flat encI (List.replicate D.length 0)).toArray 3) := ⟨_, rfl⟩
      have hj2 : Below w1.heap.size w1 u2 := by rw [hu2]; exact hj1.alloc hj1.size _
      have hrp : RowB encI 3 u2 gp (List.replicate D.length 0) := by rw [hu2, hgp]; exact RowB.new _ _ _ _
      have hrn2 : RowB encI 3 u2 gn (List.replicate D.length 0) := by rw [hu2]; exact Blk.alloc hrn _
      have hne : gn ≠ gp := by have := HS1.out; omega
      have hbl : w1.heap.size ≤ gp := by rw [hgp]; exact hj1.size
      have HTW : Hid (TwoB w u2 gp gn (List.replicate D.length 0) (List.replicate D.length 0)) := Lib.hid ⟨hrp, hrn2, hne.symm, Nat.le_trans HB1.out.size hbl, Nat.le_trans HB1.out.size HG1.out, HB1.out.trans (hj2.mono HB1.out.size)⟩
      rw [← hu2]
      refine hK.out _ _ (fun _ _ => hj2) ?_
      clear hK K hu2 hrn hrp hrn2 hne hbl
      try simp only [Act.put, List.setIfInBounds_toArray, List.set_cons_zero, List.set_cons_succ]
      have hgn := HGA.out
      refine wpAnyL_pureD (i := 6) 6 (.slice (some ⟨gp, 0, none⟩) D.length D.length) rfl rfl (by kernel_rfl) (by kernel_rfl) (by kernel_rfl) (fun _ _ _ h => h) (Or.inl ⟨by rfl, fun u _ => ?_⟩) ?_
      · go_simp
        try first | exact hgp.symm | rfl
      try simp only [Act.put, List.setIfInBounds_toArray, List.set_cons_zero, List.set_cons_succ]
      refine wpAnyL_pureD (i := 7) 7 (.slice (some ⟨gn, 0, none⟩) D.length D.length) rfl rfl (by kernel_rfl) (by kernel_rfl) (by kernel_rfl) (fun _ _ _ h => h) (Or.inl ⟨by rfl, fun u _ => ?_⟩) ?_
      · go_simp
        try first | exact hgn.symm | rfl
      try simp only [Act.put, List.setIfInBounds_toArray, List.set_cons_zero, List.set_cons_succ]
      clear hgn HGA
      clear hgp
      refine wpAnyL_done (by kernel_rfl) ?_ _
      try simp only [Act.put, List.setIfInBounds_toArray, List.set_cons_zero, List.set_cons_succ]
      clear hj0 hj1 hj2 HS1 HG1
      go_wp2
      go_loopw [24] (fun x wr => ∃ i : Nat, i ≤ D.length ∧ x = .int .i64 i ∧ TwoB w wr gp gn (PT i) (NT i)) (fun x _ => D.length - (intOf x).toNat)
      case atStart => exact ⟨0, by omega, rfl, by rw [HP0.out, HN0.out]; exact HTW.out⟩
      case round =>
        obtain ⟨i, hi, rfl, h2w⟩ := hrel
        have H2W := Lib.hid h2w
        by_cases hlt : i < D.length
        · have i1 : (i : Int) < (D.length : Int) := by omega
          have i2 : (0 : Int) ≤ (i : Int) := by omega
          obtain ⟨b1, o1, hb1, q1, x1⟩ := (H1.out.keep h2w.b).one i hlt
          subst hb1
          have HS : Hid (∀ u, Below wr.heap.size wr u → u.cell? ⟨b1, o1 + i, none⟩ = some (.int .i64 (iAt D i))) := Lib.hid fun u hu => (hu.cell (p := ⟨b1, o1 + i, none⟩) q1).trans x1
          have hzb := HRG.out i hlt
          have HPS := Lib.hid (HPT.out i)
          have HNS := Lib.hid (HNT.out i)
          have HPL := Lib.hid (HPN.out i)
          have HNL := Lib.hid (HNN.out i)
          generalize iAt D i = z at *
          generalize PT i = PX at *
          generalize NT i = NX at *
          have s1 := h2w.p.cell i (by rw [HPL.out]; exact hlt)
          have s2 : wr.frozen? ⟨gp, i, none⟩ = false := Blk.frozen h2w.p i
          have h2n := h2w.n.far (p := ⟨gp, i, none⟩) h2w.ne.symm (.int .i64 (max z 0))
          have s3 := h2n.cell i (by rw [HNL.out]; exact hlt)
          have s4 : (wr.setCell ⟨gp, i, none⟩ (.int .i64 (max z 0))).frozen? ⟨gn, i, none⟩ = false := Blk.frozen h2n i
          have HTN : Hid (TwoB w ((wr.setCell ⟨gp, i, none⟩ (.int .i64 (max z 0))).setCell ⟨gn, i, none⟩ (.int .i64 (max (-z) 0))) gp gn (PT (i + 1)) (NT (i + 1))) := Lib.hid (by rw [HPS.out, HNS.out]; exact h2w.set i _ _)
          generalize iAt PX i = old1 at s1
          generalize iAt NX i = old2 at s3
          clear h2w h2n
          go_wp2
          go_roundw
          case rel => exact ⟨i + 1, by omega, by go_num, by first | exact HTN.out | exact HTN.out.drew⟩
          case measure => simp [intOf]; omega
        · obtain rfl : i = D.length := by omega
          have i1 : ¬ (D.length : Int) < (D.length : Int) := by omega
          rw [HPA.out, HNA.out] at h2w
          have HT := Lib.hid h2w
          have HLP : Hid (PA.length = D.length) := Lib.hid (by rw [← HPA.out, HPN.out])
          have HLN : Hid (NA.length = D.length) := Lib.hid (by rw [← HNA.out, HNN.out])
          clear h2w H2W
          go_wp2
          refine bodyPost_ret (v := .tuple #[.slice (some ⟨gp, 0, none⟩) D.length D.length, .slice (some ⟨gn, 0, none⟩) D.length D.length, .int .i64 0]) (by simp [results, Try.results35, go_sem]) rfl ?_
          have HX : Hid (PV = PA ∧ NV = NA) := HR
          first | exact ⟨some ⟨gp, 0, none⟩, D.length, some ⟨gn, 0, none⟩, ⟨D.length, by rw [HX.out.1, HX.out.2, HLP.out, HLN.out]⟩, by rw [HX.out.1]; exact HT.out.p.row encI_len, by rw [HX.out.2]; exact HT.out.n.row encI_len, HT.out.b⟩ | exact ⟨some ⟨gp, 0, none⟩, D.length, some ⟨gn, 0, none⟩, D.length, by rw [HX.out.1, HX.out.2, HLP.out, HLN.out], by rw [HX.out.1]; exact HT.out.p.row encI_len, by rw [HX.out.2]; exact HT.out.n.row encI_len, HT.out.b⟩
  · have q0 : (((k : Nat) : Int) != 0) = true := by rw [bne_iff_ne]; omega
    have HR := Lib.hid (HV2.out hk)
    clear hk
    go_wp2
    refine bodyPost_ret (v := .tuple #[.slice none 0 0, .slice none 0 0, .int .i64 (k : Nat)]) (by simp [results, Try.results35, go_sem]) rfl ?_
    exact ⟨none, 0, none, 0, by rw [HR.out.1, HR.out.2]; rfl, by rw [HR.out.1]; exact RowAt.nil _ _ _ _, by rw [HR.out.2]; exact RowAt.nil _ _ _ _, HB1.out⟩
end Go.Proofs.Ytalbdggpghkcfaa
