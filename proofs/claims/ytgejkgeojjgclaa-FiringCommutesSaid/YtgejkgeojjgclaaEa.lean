/- The chapter's examples hold. -/
import Derived.Test.YtgejkgeojjgclaaXf
namespace Go.Proofs.Ytgejkgeojjgclaa
open Go.RowKit Go.Proofs.Gr Go.Proofs.Cp
attribute [local go_sem] Oper.semAt_some

def triE : List E := [⟨0, 1, 1⟩, ⟨0, 2, 1⟩, ⟨1, 2, 1⟩]
set_option maxHeartbeats 12800000 in
set_option maxRecDepth 100000 in
theorem triangle_any (w : World) : Calls Try.prog 49 #[] w (fun e x => ∃ a c, e = .returned (.agg #[.int .i64 3, .slice a 3 c]) ∧ EsAt x a triE ∧ Below w.heap.size w x) := by
  go_enter Try.func49, Try.ntmps49
  go_wp2
  obtain ⟨V, hV⟩ : ∃ V, V = (w.alloc (Obj.cells #[.int .i64 3, .slice (some ⟨w.heap.size + 1, 0, none⟩) 3 3] 24)).alloc (Obj.cells #[.int .i64 0, .int .i64 1, .int .i64 1, .int .i64 0, .int .i64 2, .int .i64 1, .int .i64 1, .int .i64 2, .int .i64 1] 103) := ⟨_, rfl⟩
  rw [← hV]
  have hb : Below w.heap.size w V := by rw [hV]; exact ((Below.refl _ w).alloc (Nat.le_refl _) _).alloc (by simp) _
  have h1 : Blk V w.heap.size 24 #[.int .i64 3, .slice (some ⟨w.heap.size + 1, 0, none⟩) 3 3] := by rw [hV]; exact (Blk.new _ _ _).alloc _
  have h2 : Blk V (w.heap.size + 1) 103 #[.int .i64 0, .int .i64 1, .int .i64 1, .int .i64 0, .int .i64 2, .int .i64 1, .int .i64 1, .int .i64 2, .int .i64 1] := by
    rw [hV]
    have h9 := Blk.new (w.alloc (Obj.cells #[.int .i64 3, .slice (some ⟨w.heap.size + 1, 0, none⟩) 3 3] 24)) 103 #[.int .i64 0, .int .i64 1, .int .i64 1, .int .i64 0, .int .i64 2, .int .i64 1, .int .i64 1, .int .i64 2, .int .i64 1]
    rwa [World.size_alloc] at h9
  have r5 : V.cell? ⟨w.heap.size, 0, none⟩ = some (.int .i64 3) := h1.cell 0
  have r6 : V.cell? ⟨w.heap.size, 1, none⟩ = some (.slice (some ⟨w.heap.size + 1, 0, none⟩) 3 3) := h1.cell 1
  refine bodyPost_ret (v := .agg #[.int .i64 3, .slice (some ⟨w.heap.size + 1, 0, none⟩) 3 3]) (by simp [results, Try.results49, go_sem, r5, r6]) rfl ?_
  exact ⟨_, _, rfl, RowAt.of_blk (k := 3) (enc := encE) (fun _ => rfl) h2 rfl, hb⟩
theorem lit_at (w : World) (L : List Int) : IsAt (w.alloc (.cells (flat encI L).toArray 3)) (some ⟨w.heap.size, 0, none⟩) L := (RowB.new encI w 3 L).row encI_len
theorem litsI_row (w : World) (X : List DX) : RowAt 1 encD (w.alloc (.cells (flat encD X).toArray 25)) (some ⟨w.heap.size, 0, none⟩) X := by
  intro j hj
  refine ⟨w.heap.size, 0, rfl, by rw [World.size_alloc]; omega, fun i hi => ?_⟩
  rw [Nat.zero_add, cell_of_row _ _ _ _ _ (0, 0) (heap_alloc_new w _), List.getElem?_toArray, flat_at encD_len X j i hj hi]
theorem litsI_at (w : World) (X : List DX) (h : ∀ x ∈ X, IsAt w x.a x.b) : LsAt (w.alloc (.cells (flat encD X).toArray 25)) (some ⟨w.heap.size, 0, none⟩) (X.map DX.b) :=
  ⟨X, rfl, litsI_row w X, fun x hx => (h x hx).keep ((Below.refl _ _).alloc (Nat.le_refl _) _)⟩
set_option maxHeartbeats 12800000 in
set_option maxRecDepth 100000 in
theorem awake_any (w : World) :
    Calls Try.prog 13 #[] w (fun e w' => e = .returned (.bool true) ∧ Below w.heap.size w w') := by
  have CFI : Hid (∀ u a c b d, EsAt u a triE → IsAt u b [3, 0, 0] → Calls Try.prog 22 #[.agg #[.int .i64 3, .slice a 3 c], .slice b 3 d, .int .i64 0] u (fun e x => ∃ p q, e = .returned (.tuple #[.slice p 3 q, .int .i64 0]) ∧ IsAt x p [1, 1, 1] ∧ Below u.heap.size u x)) := Lib.hid fun u a c b d h0 h1 => by
    have := pFire_any 3 a c triE (by decide) b d [3, 0, 0] (by simp) 0 u h0 h1
    rw [show setK 3 triE [3, 0, 0] [0] = 0 by decide, show resV 0 [3, 0, 0] (setS 3 (1) [0]) triE = [1, 1, 1] by decide, show resK 0 [3, 0, 0] (setS 3 (1) [0]) triE = 0 by decide] at this
    exact this
  have CBO : Hid (∀ u a c b d, EsAt u a triE → IsAt u b [1, 1, 1] → Calls Try.prog 24 #[.agg #[.int .i64 3, .slice a 3 c], .slice b 3 d, .int .i64 0] u (fun e x => ∃ p q, e = .returned (.tuple #[.slice p 3 q, .int .i64 0]) ∧ IsAt x p [3, 0, 0] ∧ Below u.heap.size u x)) := Lib.hid fun u a c b d h0 h1 => by
    have := pBorrow_any 3 a c triE (by decide) b d [1, 1, 1] (by simp) 0 u h0 h1
    rw [show setK 3 triE [1, 1, 1] [0] = 0 by decide, show resV 0 [1, 1, 1] (setS 3 (-1) [0]) triE = [3, 0, 0] by decide, show resK 0 [1, 1, 1] (setS 3 (-1) [0]) triE = 0 by decide] at this
    exact this
  have CFS : Hid (∀ u a c b d p9 q9, EsAt u a triE → IsAt u b [1, 1, 0] → IsAt u p9 [0, 1] → Calls Try.prog 26 #[.agg #[.int .i64 3, .slice a 3 c], .slice b 3 d, .slice p9 2 q9] u (fun e x => ∃ p q, e = .returned (.tuple #[.slice p 3 q, .int .i64 0]) ∧ IsAt x p [0, 0, 2] ∧ Below u.heap.size u x)) := Lib.hid fun u a c b d p9 q9 h0 h1 h2 => by
    have := pFireSet_any 3 a c triE (by decide) b d [1, 1, 0] (by simp) p9 q9 [0, 1] (by simp) u h0 h1 h2
    rw [show setK 3 triE [1, 1, 0] [0, 1] = 0 by decide, show resV 0 [1, 1, 0] (setS 3 1 [0, 1]) triE = [0, 0, 2] by decide, show resK 0 [1, 1, 0] (setS 3 1 [0, 1]) triE = 0 by decide] at this
    exact this
  have CLS : Hid (∀ u a c b d p9 q9, EsAt u a triE → IsAt u b [1, 1, 0] → IsAt u p9 [0, 1] → Calls Try.prog 30 #[.agg #[.int .i64 3, .slice a 3 c], .slice b 3 d, .slice p9 2 q9] u (fun e x => e = .returned (.tuple #[.bool true, .int .i64 0]) ∧ Below u.heap.size u x)) := Lib.hid fun u a c b d p9 q9 h0 h1 h2 => by
    have := pLegalSet_any 3 a c triE (by decide) b d [1, 1, 0] (by simp) p9 q9 [0, 1] (by simp) u h0 h1 h2
    rw [show legV 3 triE [1, 1, 0] [0, 1] = true by decide, show setK 3 triE [1, 1, 0] [0, 1] = 0 by decide] at this
    exact this
  have CCH : Hid (∀ u a c b d, EsAt u a triE → IsAt u b [2, 1, 0] → Calls Try.prog 14 #[.agg #[.int .i64 3, .slice a 3 c], .slice b 3 d] u (fun e x => ∃ p q, e = .returned (.tuple #[.slice p 3 q, .int .i64 0]) ∧ IsAt x p [-3, 0, 3] ∧ Below u.heap.size u x)) := Lib.hid fun u a c b d h0 h1 => by
    have := pChange_any 3 a c triE (by decide) b d [2, 1, 0] (by simp) u h0 h1
    rw [show chkGD 3 triE [2, 1, 0] = 0 by decide, show resV 0 (zeroL 3) [2, 1, 0] triE = [-3, 0, 3] by decide, show resK 0 (zeroL 3) [2, 1, 0] triE = 0 by decide] at this
    exact this
  have CSE : Hid (∀ u a c b d, EsAt u a triE → IsAt u b [2, 1, 0] → Calls Try.prog 38 #[.agg #[.int .i64 3, .slice a 3 c], .slice b 3 d] u (fun e x => ∃ p q, e = .returned (.tuple #[.slice p 2 q, .int .i64 0]) ∧ LsAt x p [[0], [0, 1]] ∧ Below u.heap.size u x)) := Lib.hid fun u a c b d h0 h1 => by
    have := pSets_any 3 a c triE (by decide) b d [2, 1, 0] (by simp) u h0 h1
    rw [show setsV 3 triE [2, 1, 0] = [[0], [0, 1]] by decide, show setsK 3 triE [2, 1, 0] = 0 by decide] at this
    exact this
  have CP2 : Hid (∀ u a c b d p9 q9, EsAt u a triE → IsAt u b [4, 0, 0] → IsAt u p9 [0, 0] → Calls Try.prog 33 #[.agg #[.int .i64 3, .slice a 3 c], .slice b 3 d, .slice p9 2 q9] u (fun e x => ∃ p q, e = .returned (.tuple #[.slice p 3 q, .int .i64 2, .int .i64 0]) ∧ IsAt x p [0, 2, 2] ∧ Below u.heap.size u x)) := Lib.hid fun u a c b d p9 q9 h0 h1 h2 => by
    have := pPlay_any 3 a c triE (by decide) b d [4, 0, 0] (by simp) p9 q9 [0, 0] (by simp) u h0 h1 h2
    rw [show plaR 3 triE [4, 0, 0] [0, 0] = ([0, 2, 2], 2, 0) by decide] at this
    exact this
  have CP3 : Hid (∀ u a c b d p9 q9, EsAt u a triE → IsAt u b [4, 0, 0] → IsAt u p9 [0, 0, 0] → Calls Try.prog 33 #[.agg #[.int .i64 3, .slice a 3 c], .slice b 3 d, .slice p9 3 q9] u (fun e x => ∃ p q, e = .returned (.tuple #[.slice p 0 q, .int .i64 2, .int .i64 18]) ∧ Below u.heap.size u x)) := Lib.hid fun u a c b d p9 q9 h0 h1 h2 => by
    have := pPlay_any 3 a c triE (by decide) b d [4, 0, 0] (by simp) p9 q9 [0, 0, 0] (by simp) u h0 h1 h2
    rw [show plaR 3 triE [4, 0, 0] [0, 0, 0] = ([], 2, 18) by decide] at this
    exact this.mono fun e x ⟨p, q, h1, h2, h3⟩ => ⟨p, q, h1, h3⟩
  have CSAM : Hid (∀ u a b c d L, L.length ≤ 1000 → IsAt u a L → IsAt u b L → Calls Try.prog 18 #[.slice a L.length c, .slice b L.length d] u (fun e x => e = .returned (.bool true) ∧ Below u.heap.size u x)) := Lib.hid fun u a b c d L hl h1 h2 => by
    have := rSame_any a b c d L L hl hl u h1 h2
    rwa [decide_eq_true rfl] at this
  have CSSE : Hid (∀ u a b c d, LsAt u a [[0], [0, 1]] → LsAt u b [[0], [0, 1]] → Calls Try.prog 40 #[.slice a 2 c, .slice b 2 d] u (fun e x => e = .returned (.bool true) ∧ Below u.heap.size u x)) := Lib.hid fun u a b c d h1 h2 => rSameSets_true a b c d [[0], [0, 1]] (by simp) (by decide) u h1 h2
  have HTR := Lib.hid (triangle_any w)
  go_enter Try.func13, Try.ntmps13
  go_wp2_with fail
  refine HTR.out.mono ?_
  rintro e w1 ⟨a, c, rfl, hE, hb⟩
  obtain ⟨VG, hVG⟩ : ∃ V, V = w1.alloc (Obj.cells #[.int .i64 3, .slice a 3 c] 24) := ⟨_, rfl⟩
  have hbV : Below w1.heap.size w1 VG := by rw [hVG]; exact (Below.refl _ _).alloc (Nat.le_refl _) _
  have hg : Blk VG w1.heap.size 24 #[.int .i64 3, .slice a 3 c] := by rw [hVG]; exact Blk.new _ _ _
  have HBV := Lib.hid (hb.trans (hbV.mono hb.size))
  have HF : Hid (∀ u, Below VG.heap.size VG u → u.cell? ⟨w1.heap.size, 0, none⟩ = some (.int .i64 3) ∧ u.cell? ⟨w1.heap.size, 1, none⟩ = some (.slice a 3 c) ∧ EsAt u a triE) := Lib.hid (fun u hu => ⟨(hg.below hu hg.lt).cell 0, (hg.below hu hg.lt).cell 1, (hE.keep hbV).keep hu⟩)
  obtain ⟨-, -, hee⟩ := HF.out VG (Below.refl _ _)
  have HEE := Lib.hid hee
  have HB : Hid (Below VG.heap.size VG VG) := Lib.hid (Below.refl _ _)
  have HVG := Lib.hid hVG
  have HSVG : Hid (VG.heap.size = w1.heap.size + 1) := Lib.hid (by rw [hVG]; simp)
  clear hE hb hbV hg hVG hee
  have PEE := HEE
  clear HEE

  obtain ⟨V0, hV0⟩ : ∃ V, V = VG.alloc (Obj.cells #[.int .i64 3, .int .i64 0, .int .i64 0] 3) := ⟨_, rfl⟩
  have hsV0 : VG.heap.size = w1.heap.size + 1 := HSVG.out
  have hpA : IsAt V0 (some ⟨w1.heap.size + 1, 0, none⟩) [3, 0, 0] := by rw [← hsV0, hV0]; exact lit_at VG [3, 0, 0]
  have HSV0 : Hid (V0.heap.size = w1.heap.size + 2) := Lib.hid (by rw [hV0, World.size_alloc, hsV0])
  have hb : Below VG.heap.size VG V0 := by rw [hV0]; exact (Below.refl _ _).alloc (Nat.le_refl _) _
  have HV0 := Lib.hid hV0
  clear hV0 hsV0
  replace PEE := Lib.hid (PEE.out.keep hb)
  replace HB := Lib.hid (HB.out.trans (hb.mono HB.out.size))
  clear hb
  have PA := Lib.hid hpA
  clear hpA
  go_wp2_with fail
  rw [← HVG.out]
  rw [← HV0.out]
  refine (CFI.out V0 _ _ _ _ PEE.out PA.out).mono ?_
  rintro e w1x ⟨p1, q1, rfl, hpX, hb⟩
  clear PA
  replace PEE := Lib.hid (PEE.out.keep hb)
  replace HB := Lib.hid (HB.out.trans (hb.mono HB.out.size))
  clear hb
  have PX := Lib.hid hpX
  clear hpX
  obtain ⟨g0, g1, -⟩ := HF.out w1x HB.out
  go_wp2_with fail
  refine (CBO.out w1x _ _ _ _ PEE.out PX.out).mono ?_
  rintro e w2 ⟨p2, q2, rfl, hpY, hb⟩
  replace PEE := Lib.hid (PEE.out.keep hb)
  replace PX := Lib.hid (PX.out.keep hb)
  replace HB := Lib.hid (HB.out.trans (hb.mono HB.out.size))
  clear hb
  have PY := Lib.hid hpY
  clear hpY
  clear g0 g1
  obtain ⟨g0, g1, -⟩ := HF.out w2 HB.out
  obtain ⟨V3, hV3⟩ : ∃ V, V = w2.alloc (Obj.cells #[.int .i64 1, .int .i64 1, .int .i64 0] 3) := ⟨_, rfl⟩
  have hsV3 : w2.heap.size = w2.heap.size := rfl
  have hpL1 : IsAt V3 (some ⟨w2.heap.size, 0, none⟩) [1, 1, 0] := by rw [← hsV3, hV3]; exact lit_at w2 [1, 1, 0]
  have HSV3 : Hid (V3.heap.size = w2.heap.size + 1) := Lib.hid (by rw [hV3, World.size_alloc, hsV3])
  have hb : Below w2.heap.size w2 V3 := by rw [hV3]; exact (Below.refl _ _).alloc (Nat.le_refl _) _
  have HV3 := Lib.hid hV3
  clear hV3 hsV3
  replace PEE := Lib.hid (PEE.out.keep hb)
  replace PX := Lib.hid (PX.out.keep hb)
  replace PY := Lib.hid (PY.out.keep hb)
  replace HB := Lib.hid (HB.out.trans (hb.mono HB.out.size))
  clear hb
  have PL1 := Lib.hid hpL1
  clear hpL1
  obtain ⟨V4, hV4⟩ : ∃ V, V = V3.alloc (Obj.cells #[.int .i64 0, .int .i64 1] 3) := ⟨_, rfl⟩
  have hsV4 : V3.heap.size = w2.heap.size + 1 := HSV3.out
  have hpL2 : IsAt V4 (some ⟨w2.heap.size + 1, 0, none⟩) [0, 1] := by rw [← hsV4, hV4]; exact lit_at V3 [0, 1]
  have HSV4 : Hid (V4.heap.size = w2.heap.size + 2) := Lib.hid (by rw [hV4, World.size_alloc, hsV4])
  have hb : Below V3.heap.size V3 V4 := by rw [hV4]; exact (Below.refl _ _).alloc (Nat.le_refl _) _
  have HV4 := Lib.hid hV4
  clear hV4 hsV4
  replace PEE := Lib.hid (PEE.out.keep hb)
  replace PX := Lib.hid (PX.out.keep hb)
  replace PY := Lib.hid (PY.out.keep hb)
  replace PL1 := Lib.hid (PL1.out.keep hb)
  replace HB := Lib.hid (HB.out.trans (hb.mono HB.out.size))
  clear hb
  have PL2 := Lib.hid hpL2
  clear hpL2
  go_wp2_with fail
  rw [← HV3.out]
  rw [← HV4.out]
  refine (CFS.out V4 _ _ _ _ _ _ PEE.out PL1.out PL2.out).mono ?_
  rintro e w5 ⟨p3, q3, rfl, hpZ, hb⟩
  clear PL1
  clear PL2
  replace PEE := Lib.hid (PEE.out.keep hb)
  replace PX := Lib.hid (PX.out.keep hb)
  replace PY := Lib.hid (PY.out.keep hb)
  replace HB := Lib.hid (HB.out.trans (hb.mono HB.out.size))
  clear hb
  have PZ := Lib.hid hpZ
  clear hpZ
  clear g0 g1
  obtain ⟨g0, g1, -⟩ := HF.out w5 HB.out
  obtain ⟨V6, hV6⟩ : ∃ V, V = w5.alloc (Obj.cells #[.int .i64 1, .int .i64 1, .int .i64 0] 3) := ⟨_, rfl⟩
  have hsV6 : w5.heap.size = w5.heap.size := rfl
  have hpL3 : IsAt V6 (some ⟨w5.heap.size, 0, none⟩) [1, 1, 0] := by rw [← hsV6, hV6]; exact lit_at w5 [1, 1, 0]
  have HSV6 : Hid (V6.heap.size = w5.heap.size + 1) := Lib.hid (by rw [hV6, World.size_alloc, hsV6])
  have hb : Below w5.heap.size w5 V6 := by rw [hV6]; exact (Below.refl _ _).alloc (Nat.le_refl _) _
  have HV6 := Lib.hid hV6
  clear hV6 hsV6
  replace PEE := Lib.hid (PEE.out.keep hb)
  replace PX := Lib.hid (PX.out.keep hb)
  replace PY := Lib.hid (PY.out.keep hb)
  replace PZ := Lib.hid (PZ.out.keep hb)
  replace HB := Lib.hid (HB.out.trans (hb.mono HB.out.size))
  clear hb
  have PL3 := Lib.hid hpL3
  clear hpL3
  obtain ⟨V7, hV7⟩ : ∃ V, V = V6.alloc (Obj.cells #[.int .i64 0, .int .i64 1] 3) := ⟨_, rfl⟩
  have hsV7 : V6.heap.size = w5.heap.size + 1 := HSV6.out
  have hpL4 : IsAt V7 (some ⟨w5.heap.size + 1, 0, none⟩) [0, 1] := by rw [← hsV7, hV7]; exact lit_at V6 [0, 1]
  have HSV7 : Hid (V7.heap.size = w5.heap.size + 2) := Lib.hid (by rw [hV7, World.size_alloc, hsV7])
  have hb : Below V6.heap.size V6 V7 := by rw [hV7]; exact (Below.refl _ _).alloc (Nat.le_refl _) _
  have HV7 := Lib.hid hV7
  clear hV7 hsV7
  replace PEE := Lib.hid (PEE.out.keep hb)
  replace PX := Lib.hid (PX.out.keep hb)
  replace PY := Lib.hid (PY.out.keep hb)
  replace PZ := Lib.hid (PZ.out.keep hb)
  replace PL3 := Lib.hid (PL3.out.keep hb)
  replace HB := Lib.hid (HB.out.trans (hb.mono HB.out.size))
  clear hb
  have PL4 := Lib.hid hpL4
  clear hpL4
  go_wp2_with fail
  rw [← HV6.out]
  rw [← HV7.out]
  refine (CLS.out V7 _ _ _ _ _ _ PEE.out PL3.out PL4.out).mono ?_
  rintro e w8 ⟨rfl, hb⟩
  clear PL3
  clear PL4
  replace PEE := Lib.hid (PEE.out.keep hb)
  replace PX := Lib.hid (PX.out.keep hb)
  replace PY := Lib.hid (PY.out.keep hb)
  replace PZ := Lib.hid (PZ.out.keep hb)
  replace HB := Lib.hid (HB.out.trans (hb.mono HB.out.size))
  clear hb
  clear g0 g1
  obtain ⟨g0, g1, -⟩ := HF.out w8 HB.out
  obtain ⟨V9, hV9⟩ : ∃ V, V = w8.alloc (Obj.cells #[.int .i64 1, .int .i64 1, .int .i64 1] 3) := ⟨_, rfl⟩
  have hsV9 : w8.heap.size = w8.heap.size := rfl
  have hpL5 : IsAt V9 (some ⟨w8.heap.size, 0, none⟩) [1, 1, 1] := by rw [← hsV9, hV9]; exact lit_at w8 [1, 1, 1]
  have HSV9 : Hid (V9.heap.size = w8.heap.size + 1) := Lib.hid (by rw [hV9, World.size_alloc, hsV9])
  have hb : Below w8.heap.size w8 V9 := by rw [hV9]; exact (Below.refl _ _).alloc (Nat.le_refl _) _
  have HV9 := Lib.hid hV9
  clear hV9 hsV9
  replace PEE := Lib.hid (PEE.out.keep hb)
  replace PX := Lib.hid (PX.out.keep hb)
  replace PY := Lib.hid (PY.out.keep hb)
  replace PZ := Lib.hid (PZ.out.keep hb)
  replace HB := Lib.hid (HB.out.trans (hb.mono HB.out.size))
  clear hb
  have PL5 := Lib.hid hpL5
  clear hpL5
  go_wp2_with fail
  rw [← HV9.out]
  refine (CSAM.out V9 _ _ _ _ [1, 1, 1] (by simp) PX.out PL5.out).mono ?_
  rintro e w10 ⟨rfl, hb⟩
  clear PL5
  clear PX
  replace PEE := Lib.hid (PEE.out.keep hb)
  replace PY := Lib.hid (PY.out.keep hb)
  replace PZ := Lib.hid (PZ.out.keep hb)
  replace HB := Lib.hid (HB.out.trans (hb.mono HB.out.size))
  clear hb
  clear g0 g1
  obtain ⟨g0, g1, -⟩ := HF.out w10 HB.out
  obtain ⟨V11, hV11⟩ : ∃ V, V = w10.alloc (Obj.cells #[.int .i64 3, .int .i64 0, .int .i64 0] 3) := ⟨_, rfl⟩
  have hsV11 : w10.heap.size = w10.heap.size := rfl
  have hpL6 : IsAt V11 (some ⟨w10.heap.size, 0, none⟩) [3, 0, 0] := by rw [← hsV11, hV11]; exact lit_at w10 [3, 0, 0]
  have HSV11 : Hid (V11.heap.size = w10.heap.size + 1) := Lib.hid (by rw [hV11, World.size_alloc, hsV11])
  have hb : Below w10.heap.size w10 V11 := by rw [hV11]; exact (Below.refl _ _).alloc (Nat.le_refl _) _
  have HV11 := Lib.hid hV11
  clear hV11 hsV11
  replace PEE := Lib.hid (PEE.out.keep hb)
  replace PY := Lib.hid (PY.out.keep hb)
  replace PZ := Lib.hid (PZ.out.keep hb)
  replace HB := Lib.hid (HB.out.trans (hb.mono HB.out.size))
  clear hb
  have PL6 := Lib.hid hpL6
  clear hpL6
  go_wp2_with fail
  rw [← HV11.out]
  refine (CSAM.out V11 _ _ _ _ [3, 0, 0] (by simp) PY.out PL6.out).mono ?_
  rintro e w12 ⟨rfl, hb⟩
  clear PL6
  clear PY
  replace PEE := Lib.hid (PEE.out.keep hb)
  replace PZ := Lib.hid (PZ.out.keep hb)
  replace HB := Lib.hid (HB.out.trans (hb.mono HB.out.size))
  clear hb
  clear g0 g1
  obtain ⟨g0, g1, -⟩ := HF.out w12 HB.out
  obtain ⟨V13, hV13⟩ : ∃ V, V = w12.alloc (Obj.cells #[.int .i64 0, .int .i64 0, .int .i64 2] 3) := ⟨_, rfl⟩
  have hsV13 : w12.heap.size = w12.heap.size := rfl
  have hpL7 : IsAt V13 (some ⟨w12.heap.size, 0, none⟩) [0, 0, 2] := by rw [← hsV13, hV13]; exact lit_at w12 [0, 0, 2]
  have HSV13 : Hid (V13.heap.size = w12.heap.size + 1) := Lib.hid (by rw [hV13, World.size_alloc, hsV13])
  have hb : Below w12.heap.size w12 V13 := by rw [hV13]; exact (Below.refl _ _).alloc (Nat.le_refl _) _
  have HV13 := Lib.hid hV13
  clear hV13 hsV13
  replace PEE := Lib.hid (PEE.out.keep hb)
  replace PZ := Lib.hid (PZ.out.keep hb)
  replace HB := Lib.hid (HB.out.trans (hb.mono HB.out.size))
  clear hb
  have PL7 := Lib.hid hpL7
  clear hpL7
  go_wp2_with fail
  rw [← HV13.out]
  refine (CSAM.out V13 _ _ _ _ [0, 0, 2] (by simp) PZ.out PL7.out).mono ?_
  rintro e w14 ⟨rfl, hb⟩
  clear PL7
  clear PZ
  replace PEE := Lib.hid (PEE.out.keep hb)
  replace HB := Lib.hid (HB.out.trans (hb.mono HB.out.size))
  clear hb
  clear g0 g1
  obtain ⟨g0, g1, -⟩ := HF.out w14 HB.out
  obtain ⟨V15, hV15⟩ : ∃ V, V = w14.alloc (Obj.cells #[.int .i64 2, .int .i64 1, .int .i64 0] 3) := ⟨_, rfl⟩
  have hsV15 : w14.heap.size = w14.heap.size := rfl
  have hpL8 : IsAt V15 (some ⟨w14.heap.size, 0, none⟩) [2, 1, 0] := by rw [← hsV15, hV15]; exact lit_at w14 [2, 1, 0]
  have HSV15 : Hid (V15.heap.size = w14.heap.size + 1) := Lib.hid (by rw [hV15, World.size_alloc, hsV15])
  have hb : Below w14.heap.size w14 V15 := by rw [hV15]; exact (Below.refl _ _).alloc (Nat.le_refl _) _
  have HV15 := Lib.hid hV15
  clear hV15 hsV15
  replace PEE := Lib.hid (PEE.out.keep hb)
  replace HB := Lib.hid (HB.out.trans (hb.mono HB.out.size))
  clear hb
  have PL8 := Lib.hid hpL8
  clear hpL8
  go_wp2_with fail
  rw [← HV15.out]
  refine (CCH.out V15 _ _ _ _ PEE.out PL8.out).mono ?_
  rintro e w16 ⟨p4, q4, rfl, hpX, hb⟩
  clear PL8
  replace PEE := Lib.hid (PEE.out.keep hb)
  replace HB := Lib.hid (HB.out.trans (hb.mono HB.out.size))
  clear hb
  have PX := Lib.hid hpX
  clear hpX
  clear g0 g1
  obtain ⟨g0, g1, -⟩ := HF.out w16 HB.out
  obtain ⟨V17, hV17⟩ : ∃ V, V = w16.alloc (Obj.cells #[.int .i64 2, .int .i64 1, .int .i64 0] 3) := ⟨_, rfl⟩
  have hsV17 : w16.heap.size = w16.heap.size := rfl
  have hpL9 : IsAt V17 (some ⟨w16.heap.size, 0, none⟩) [2, 1, 0] := by rw [← hsV17, hV17]; exact lit_at w16 [2, 1, 0]
  have HSV17 : Hid (V17.heap.size = w16.heap.size + 1) := Lib.hid (by rw [hV17, World.size_alloc, hsV17])
  have hb : Below w16.heap.size w16 V17 := by rw [hV17]; exact (Below.refl _ _).alloc (Nat.le_refl _) _
  have HV17 := Lib.hid hV17
  clear hV17 hsV17
  replace PEE := Lib.hid (PEE.out.keep hb)
  replace PX := Lib.hid (PX.out.keep hb)
  replace HB := Lib.hid (HB.out.trans (hb.mono HB.out.size))
  clear hb
  have PL9 := Lib.hid hpL9
  clear hpL9
  go_wp2_with fail
  rw [← HV17.out]
  refine (CSE.out V17 _ _ _ _ PEE.out PL9.out).mono ?_
  rintro e w18 ⟨p5, q5, rfl, hpS, hb⟩
  clear PL9
  replace PEE := Lib.hid (PEE.out.keep hb)
  replace PX := Lib.hid (PX.out.keep hb)
  replace HB := Lib.hid (HB.out.trans (hb.mono HB.out.size))
  clear hb
  have PS := Lib.hid hpS
  clear hpS
  clear g0 g1
  obtain ⟨g0, g1, -⟩ := HF.out w18 HB.out
  obtain ⟨V19, hV19⟩ : ∃ V, V = w18.alloc (Obj.cells #[.int .i64 (-3), .int .i64 0, .int .i64 3] 3) := ⟨_, rfl⟩
  have hsV19 : w18.heap.size = w18.heap.size := rfl
  have hpM1 : IsAt V19 (some ⟨w18.heap.size, 0, none⟩) [-3, 0, 3] := by rw [← hsV19, hV19]; exact lit_at w18 [-3, 0, 3]
  have HSV19 : Hid (V19.heap.size = w18.heap.size + 1) := Lib.hid (by rw [hV19, World.size_alloc, hsV19])
  have hb : Below w18.heap.size w18 V19 := by rw [hV19]; exact (Below.refl _ _).alloc (Nat.le_refl _) _
  have HV19 := Lib.hid hV19
  clear hV19 hsV19
  replace PEE := Lib.hid (PEE.out.keep hb)
  replace PX := Lib.hid (PX.out.keep hb)
  replace PS := Lib.hid (PS.out.keep hb)
  replace HB := Lib.hid (HB.out.trans (hb.mono HB.out.size))
  clear hb
  have PM1 := Lib.hid hpM1
  clear hpM1
  go_wp2_with fail
  rw [← HV19.out]
  refine (CSAM.out V19 _ _ _ _ [-3, 0, 3] (by simp) PX.out PM1.out).mono ?_
  rintro e w20 ⟨rfl, hb⟩
  clear PM1
  clear PX
  replace PEE := Lib.hid (PEE.out.keep hb)
  replace PS := Lib.hid (PS.out.keep hb)
  replace HB := Lib.hid (HB.out.trans (hb.mono HB.out.size))
  clear hb
  clear g0 g1
  obtain ⟨g0, g1, -⟩ := HF.out w20 HB.out
  obtain ⟨V21, hV21⟩ : ∃ V, V = w20.alloc (Obj.cells #[.int .i64 0] 3) := ⟨_, rfl⟩
  have hsV21 : w20.heap.size = w20.heap.size := rfl
  have hpM2 : IsAt V21 (some ⟨w20.heap.size, 0, none⟩) [0] := by rw [← hsV21, hV21]; exact lit_at w20 [0]
  have HSV21 : Hid (V21.heap.size = w20.heap.size + 1) := Lib.hid (by rw [hV21, World.size_alloc, hsV21])
  have hb : Below w20.heap.size w20 V21 := by rw [hV21]; exact (Below.refl _ _).alloc (Nat.le_refl _) _
  have HV21 := Lib.hid hV21
  clear hV21 hsV21
  replace PEE := Lib.hid (PEE.out.keep hb)
  replace PS := Lib.hid (PS.out.keep hb)
  replace HB := Lib.hid (HB.out.trans (hb.mono HB.out.size))
  clear hb
  have PM2 := Lib.hid hpM2
  clear hpM2
  obtain ⟨V22, hV22⟩ : ∃ V, V = V21.alloc (Obj.cells #[.int .i64 0, .int .i64 1] 3) := ⟨_, rfl⟩
  have hsV22 : V21.heap.size = w20.heap.size + 1 := HSV21.out
  have hpM3 : IsAt V22 (some ⟨w20.heap.size + 1, 0, none⟩) [0, 1] := by rw [← hsV22, hV22]; exact lit_at V21 [0, 1]
  have HSV22 : Hid (V22.heap.size = w20.heap.size + 2) := Lib.hid (by rw [hV22, World.size_alloc, hsV22])
  have hb : Below V21.heap.size V21 V22 := by rw [hV22]; exact (Below.refl _ _).alloc (Nat.le_refl _) _
  have HV22 := Lib.hid hV22
  clear hV22 hsV22
  replace PEE := Lib.hid (PEE.out.keep hb)
  replace PS := Lib.hid (PS.out.keep hb)
  replace PM2 := Lib.hid (PM2.out.keep hb)
  replace HB := Lib.hid (HB.out.trans (hb.mono HB.out.size))
  clear hb
  have PM3 := Lib.hid hpM3
  clear hpM3
  obtain ⟨V23, hV23⟩ : ∃ V, V = V22.alloc (Obj.cells #[.slice (some ⟨w20.heap.size, 0, none⟩) 1 1, .slice (some ⟨w20.heap.size + 1, 0, none⟩) 2 2] 25) := ⟨_, rfl⟩
  have hsV23 : V22.heap.size = w20.heap.size + 2 := HSV22.out
  have hpMM : LsAt V23 (some ⟨w20.heap.size + 2, 0, none⟩) [[0], [0, 1]] := by rw [← hsV23, hV23]; exact litsI_at V22 [DX.mk (some ⟨w20.heap.size, 0, none⟩) [0] 1, DX.mk (some ⟨w20.heap.size + 1, 0, none⟩) [0, 1] 2] (by simp only [List.forall_mem_cons]; exact ⟨PM2.out, PM3.out, fun _ h => by simp at h⟩)
  have HSV23 : Hid (V23.heap.size = w20.heap.size + 3) := Lib.hid (by rw [hV23, World.size_alloc, hsV23])
  have hb : Below V22.heap.size V22 V23 := by rw [hV23]; exact (Below.refl _ _).alloc (Nat.le_refl _) _
  have HV23 := Lib.hid hV23
  clear hV23 hsV23
  replace PEE := Lib.hid (PEE.out.keep hb)
  replace PS := Lib.hid (PS.out.keep hb)
  replace PM2 := Lib.hid (PM2.out.keep hb)
  replace PM3 := Lib.hid (PM3.out.keep hb)
  replace HB := Lib.hid (HB.out.trans (hb.mono HB.out.size))
  clear hb
  have PMM := Lib.hid hpMM
  clear hpMM
  clear PM2 PM3
  go_wp2_with fail
  rw [← HV21.out]
  rw [← HV22.out]
  rw [← HV23.out]
  refine (CSSE.out V23 _ _ _ _ PS.out PMM.out).mono ?_
  rintro e w24 ⟨rfl, hb⟩
  clear PMM
  clear PS
  replace PEE := Lib.hid (PEE.out.keep hb)
  replace HB := Lib.hid (HB.out.trans (hb.mono HB.out.size))
  clear hb
  clear g0 g1
  obtain ⟨g0, g1, -⟩ := HF.out w24 HB.out
  obtain ⟨V25, hV25⟩ : ∃ V, V = w24.alloc (Obj.cells #[.int .i64 4, .int .i64 0, .int .i64 0] 3) := ⟨_, rfl⟩
  have hsV25 : w24.heap.size = w24.heap.size := rfl
  have hpN1 : IsAt V25 (some ⟨w24.heap.size, 0, none⟩) [4, 0, 0] := by rw [← hsV25, hV25]; exact lit_at w24 [4, 0, 0]
  have HSV25 : Hid (V25.heap.size = w24.heap.size + 1) := Lib.hid (by rw [hV25, World.size_alloc, hsV25])
  have hb : Below w24.heap.size w24 V25 := by rw [hV25]; exact (Below.refl _ _).alloc (Nat.le_refl _) _
  have HV25 := Lib.hid hV25
  clear hV25 hsV25
  replace PEE := Lib.hid (PEE.out.keep hb)
  replace HB := Lib.hid (HB.out.trans (hb.mono HB.out.size))
  clear hb
  have PN1 := Lib.hid hpN1
  clear hpN1
  obtain ⟨V26, hV26⟩ : ∃ V, V = V25.alloc (Obj.cells #[.int .i64 0, .int .i64 0] 3) := ⟨_, rfl⟩
  have hsV26 : V25.heap.size = w24.heap.size + 1 := HSV25.out
  have hpN2 : IsAt V26 (some ⟨w24.heap.size + 1, 0, none⟩) [0, 0] := by rw [← hsV26, hV26]; exact lit_at V25 [0, 0]
  have HSV26 : Hid (V26.heap.size = w24.heap.size + 2) := Lib.hid (by rw [hV26, World.size_alloc, hsV26])
  have hb : Below V25.heap.size V25 V26 := by rw [hV26]; exact (Below.refl _ _).alloc (Nat.le_refl _) _
  have HV26 := Lib.hid hV26
  clear hV26 hsV26
  replace PEE := Lib.hid (PEE.out.keep hb)
  replace PN1 := Lib.hid (PN1.out.keep hb)
  replace HB := Lib.hid (HB.out.trans (hb.mono HB.out.size))
  clear hb
  have PN2 := Lib.hid hpN2
  clear hpN2
  go_wp2_with fail
  rw [← HV25.out]
  rw [← HV26.out]
  refine (CP2.out V26 _ _ _ _ _ _ PEE.out PN1.out PN2.out).mono ?_
  rintro e w27 ⟨p6, q6, rfl, hpY, hb⟩
  clear PN1
  clear PN2
  replace PEE := Lib.hid (PEE.out.keep hb)
  replace HB := Lib.hid (HB.out.trans (hb.mono HB.out.size))
  clear hb
  have PY := Lib.hid hpY
  clear hpY
  clear g0 g1
  obtain ⟨g0, g1, -⟩ := HF.out w27 HB.out
  obtain ⟨V28, hV28⟩ : ∃ V, V = w27.alloc (Obj.cells #[.int .i64 4, .int .i64 0, .int .i64 0] 3) := ⟨_, rfl⟩
  have hsV28 : w27.heap.size = w27.heap.size := rfl
  have hpN3 : IsAt V28 (some ⟨w27.heap.size, 0, none⟩) [4, 0, 0] := by rw [← hsV28, hV28]; exact lit_at w27 [4, 0, 0]
  have HSV28 : Hid (V28.heap.size = w27.heap.size + 1) := Lib.hid (by rw [hV28, World.size_alloc, hsV28])
  have hb : Below w27.heap.size w27 V28 := by rw [hV28]; exact (Below.refl _ _).alloc (Nat.le_refl _) _
  have HV28 := Lib.hid hV28
  clear hV28 hsV28
  replace PEE := Lib.hid (PEE.out.keep hb)
  replace PY := Lib.hid (PY.out.keep hb)
  replace HB := Lib.hid (HB.out.trans (hb.mono HB.out.size))
  clear hb
  have PN3 := Lib.hid hpN3
  clear hpN3
  obtain ⟨V29, hV29⟩ : ∃ V, V = V28.alloc (Obj.cells #[.int .i64 0, .int .i64 0, .int .i64 0] 3) := ⟨_, rfl⟩
  have hsV29 : V28.heap.size = w27.heap.size + 1 := HSV28.out
  have hpN4 : IsAt V29 (some ⟨w27.heap.size + 1, 0, none⟩) [0, 0, 0] := by rw [← hsV29, hV29]; exact lit_at V28 [0, 0, 0]
  have HSV29 : Hid (V29.heap.size = w27.heap.size + 2) := Lib.hid (by rw [hV29, World.size_alloc, hsV29])
  have hb : Below V28.heap.size V28 V29 := by rw [hV29]; exact (Below.refl _ _).alloc (Nat.le_refl _) _
  have HV29 := Lib.hid hV29
  clear hV29 hsV29
  replace PEE := Lib.hid (PEE.out.keep hb)
  replace PY := Lib.hid (PY.out.keep hb)
  replace PN3 := Lib.hid (PN3.out.keep hb)
  replace HB := Lib.hid (HB.out.trans (hb.mono HB.out.size))
  clear hb
  have PN4 := Lib.hid hpN4
  clear hpN4
  go_wp2_with fail
  rw [← HV28.out]
  rw [← HV29.out]
  refine (CP3.out V29 _ _ _ _ _ _ PEE.out PN3.out PN4.out).mono ?_
  rintro e w30 ⟨p7, q7, rfl, hb⟩
  clear PN3
  clear PN4
  replace PEE := Lib.hid (PEE.out.keep hb)
  replace PY := Lib.hid (PY.out.keep hb)
  replace HB := Lib.hid (HB.out.trans (hb.mono HB.out.size))
  clear hb
  clear g0 g1
  obtain ⟨g0, g1, -⟩ := HF.out w30 HB.out
  obtain ⟨V31, hV31⟩ : ∃ V, V = w30.alloc (Obj.cells #[.int .i64 0, .int .i64 2, .int .i64 2] 3) := ⟨_, rfl⟩
  have hsV31 : w30.heap.size = w30.heap.size := rfl
  have hpN5 : IsAt V31 (some ⟨w30.heap.size, 0, none⟩) [0, 2, 2] := by rw [← hsV31, hV31]; exact lit_at w30 [0, 2, 2]
  have HSV31 : Hid (V31.heap.size = w30.heap.size + 1) := Lib.hid (by rw [hV31, World.size_alloc, hsV31])
  have hb : Below w30.heap.size w30 V31 := by rw [hV31]; exact (Below.refl _ _).alloc (Nat.le_refl _) _
  have HV31 := Lib.hid hV31
  clear hV31 hsV31
  replace PEE := Lib.hid (PEE.out.keep hb)
  replace PY := Lib.hid (PY.out.keep hb)
  replace HB := Lib.hid (HB.out.trans (hb.mono HB.out.size))
  clear hb
  have PN5 := Lib.hid hpN5
  clear hpN5
  go_wp2_with fail
  rw [← HV31.out]
  refine (CSAM.out V31 _ _ _ _ [0, 2, 2] (by simp) PY.out PN5.out).mono ?_
  rintro e w32 ⟨rfl, hb⟩
  clear PN5
  clear PY
  replace PEE := Lib.hid (PEE.out.keep hb)
  replace HB := Lib.hid (HB.out.trans (hb.mono HB.out.size))
  clear hb
  clear g0 g1
  obtain ⟨g0, g1, -⟩ := HF.out w32 HB.out
  go_wp2
  go_ret
  exact ⟨rfl, HBV.out.trans (HB.out.mono HBV.out.size)⟩
theorem same_true : ∀ (u : World) (a b : Option Addr) (c d : Nat) (L : List Int), L.length ≤ 1000 → IsAt u a L → IsAt u b L → Calls Try.prog 18 #[.slice a L.length c, .slice b L.length d] u (fun e x => e = .returned (.bool true) ∧ Below u.heap.size u x) := fun u a b c d L hl h1 h2 => by
  have := rSame_any a b c d L L hl hl u h1 h2
  rwa [decide_eq_true rfl] at this
theorem resV_len (k : Nat) (D S : List Int) (L : List E) : (resV k D S L).length ≤ D.length := by
  unfold resV chV
  split
  · simp
  · split
    · simp
    · rw [chD_len]; exact Nat.le_refl _
theorem resZ_len (n : Int) (L : List E) (D S : List Int) : (resV (chkGD n L D) (zeroL n) S L).length ≤ 1000 := by
  by_cases h : chkGD n L D ≠ 0
  · rw [(res_err _ _ _ h).2]; simp
  · have h1 := resV_len (chkGD n L D) (zeroL n) S L
    have h2 := (chkGD_zero (by omega : chkGD n L D = 0)).1.hi
    have h3 : (zeroL n).length = n.toNat := by simp [zeroL]
    omega
theorem few_both {n : Int} {L : List E} {D : List Int} (h : fewD n L D = true) : L.length ≤ 40 ∧ D.length ≤ 24 := by
  unfold fewD at h
  rw [Bool.and_eq_true, decide_eq_true_iff] at h
  exact ⟨few_len h.1, h.2⟩
end Go.Proofs.Ytgejkgeojjgclaa
