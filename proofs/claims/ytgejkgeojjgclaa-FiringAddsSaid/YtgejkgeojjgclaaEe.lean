/- The law Adds. -/
import Derived.Test.YtgejkgeojjgclaaEa
import Derived.Test.YtgejkgeojjgclaaSq
namespace Go.Proofs.Ytgejkgeojjgclaa
open Go.RowKit Go.Proofs.Gr Go.Proofs.Cp
attribute [local go_sem] Oper.semAt_some

set_option maxHeartbeats 12800000 in
set_option maxRecDepth 100000 in
theorem adds_any (n : Int) (a : Option Addr) (cap : Nat) (L : List E) (b : Option Addr) (c : Nat) (D : List Int) (sa : Option Addr) (sc : Nat) (S : List Int) (ta : Option Addr) (tc : Nat) (T : List Int) (w : World) (h : EsAt w a L) (ho : IsAt w b D) (hs : IsAt w sa S) (ht : IsAt w ta T) :
    Calls Try.prog 9 #[gv n a L.length cap, .slice b D.length c, .agg #[.slice sa S.length sc, .slice ta T.length tc]] w (fun e w' => e = .returned (.bool true) ∧ Below w.heap.size w w') := by
  have HAW := Lib.hid (fun w => awake_any w)
  by_cases hS1 : smlD n L D = false
  · have S1 : Hid (∀ u, EsAt u a L → IsAt u b D → Calls Try.prog 42 #[gv n a L.length cap, .slice b D.length c] u (fun e w' => e = .returned (.bool false) ∧ Below u.heap.size u w')) := Lib.hid fun u h1 h2 => by
      have := small18_any n a cap L b c D u h1 h2
      rwa [hS1] at this
    unfold gv at *
    clear hS1
    obtain ⟨V, hV⟩ : ∃ V, V = (w.alloc (Obj.cells #[.int .i64 n, .slice a L.length cap] 24)).alloc (Obj.cells #[.slice sa S.length sc, .slice ta T.length tc] 70) := ⟨_, rfl⟩
    have hB0 : Below w.heap.size w V := by rw [hV]; exact ((Below.refl _ w).alloc (Nat.le_refl _) _).alloc (by simp) _
    have hG : Blk V w.heap.size 24 #[.int .i64 n, .slice a L.length cap] := by rw [hV]; exact (Blk.new _ _ _).alloc _
    have hP : Blk V (w.heap.size + 1) 70 #[.slice sa S.length sc, .slice ta T.length tc] := by
      rw [hV]
      have := Blk.new (w.alloc (Obj.cells #[.int .i64 n, .slice a L.length cap] 24)) 70 #[.slice sa S.length sc, .slice ta T.length tc]
      rwa [World.size_alloc] at this
    have HV := Lib.hid hV
    have HB0 := Lib.hid hB0
    have HF : Hid (∀ u, Below V.heap.size V u → u.cell? ⟨w.heap.size, 0, none⟩ = some (.int .i64 n) ∧ u.cell? ⟨w.heap.size, 1, none⟩ = some (.slice a L.length cap)) := Lib.hid fun u hu => ⟨(hG.below hu hG.lt).cell 0, (hG.below hu hG.lt).cell 1⟩
    have HX : Hid (∀ u, Below V.heap.size V u → u.cell? ⟨w.heap.size + 1, 0, none⟩ = some (.slice sa S.length sc) ∧ u.cell? ⟨w.heap.size + 1, 1, none⟩ = some (.slice ta T.length tc)) := Lib.hid fun u hu => ⟨(hP.below hu hP.lt).cell 0, (hP.below hu hP.lt).cell 1⟩
    have HB : Hid (Below V.heap.size V V) := Lib.hid (Below.refl _ _)
    have PEE := Lib.hid (h.keep hB0)
    have PD := Lib.hid (ho.keep hB0)
    have PS := Lib.hid (hs.keep hB0)
    have PT := Lib.hid (ht.keep hB0)
    clear hV hB0 hG hP h ho hs ht
    go_enter Try.func9, Try.ntmps9
    go_wp2
    rw [← HV.out]
    have hj0 : Below V.heap.size V V.drew := (Below.refl _ _).drew
    refine wp_region_late (S := fun u => Below V.heap.size V u) (X := []) (by kernel_rfl) ?_
    refine wpAnyL_pureD (i := 0) 21 (.pointer (some ⟨w.heap.size + 1, 0, none⟩)) rfl rfl (by kernel_rfl) (by kernel_rfl) (by kernel_rfl) (fun _ _ _ h => h) (Or.inl ⟨by rfl, fun u _ => ?_⟩) ?_
    · go_simp
    try simp only [Act.put, List.setIfInBounds_toArray, List.set_cons_zero, List.set_cons_succ]
    refine wpAnyL_takeD (i := 1) 22 (.slice sa S.length sc) rfl rfl (by kernel_rfl) (by kernel_rfl) (by kernel_rfl) (by kernel_rfl) (by kernel_rfl) (fun _ _ _ h => h) hj0 (Or.inl ⟨by rfl, fun u hu => ?_⟩) ?_
    · obtain ⟨t0, t1⟩ := HX.out u hu
      go_simp
    try simp only [Act.put, List.setIfInBounds_toArray, List.set_cons_zero, List.set_cons_succ]
    refine wpAnyL_pureD (i := 2) 23 (.pointer (some ⟨w.heap.size + 1, 1, none⟩)) rfl rfl (by kernel_rfl) (by kernel_rfl) (by kernel_rfl) (fun _ _ _ h => h) (Or.inl ⟨by rfl, fun u _ => ?_⟩) ?_
    · go_simp
    try simp only [Act.put, List.setIfInBounds_toArray, List.set_cons_zero, List.set_cons_succ]
    refine wpAnyL_takeD (i := 3) 24 (.slice ta T.length tc) rfl rfl (by kernel_rfl) (by kernel_rfl) (by kernel_rfl) (by kernel_rfl) (by kernel_rfl) (fun _ _ _ h => h) hj0 (Or.inl ⟨by rfl, fun u hu => ?_⟩) ?_
    · obtain ⟨t0, t1⟩ := HX.out u hu
      go_simp
    try simp only [Act.put, List.setIfInBounds_toArray, List.set_cons_zero, List.set_cons_succ]
    refine wpAnyL_pureD (i := 4) 7 (.slice sa S.length sc) rfl rfl (by kernel_rfl) (by kernel_rfl) (by kernel_rfl) (fun _ _ _ h => h) (Or.inl ⟨by rfl, fun u _ => ?_⟩) ?_
    · go_simp
    try simp only [Act.put, List.setIfInBounds_toArray, List.set_cons_zero, List.set_cons_succ]
    refine wpAnyL_pureD (i := 5) 8 (.slice ta T.length tc) rfl rfl (by kernel_rfl) (by kernel_rfl) (by kernel_rfl) (fun _ _ _ h => h) (Or.inl ⟨by rfl, fun u _ => ?_⟩) ?_
    · go_simp
    try simp only [Act.put, List.setIfInBounds_toArray, List.set_cons_zero, List.set_cons_succ]
    refine wpAnyL_done (by kernel_rfl) ?_ _
    try simp only [Act.put, List.setIfInBounds_toArray, List.set_cons_zero, List.set_cons_succ]
    obtain ⟨V9, hV9⟩ : ∃ u, u = V.drew := ⟨_, rfl⟩
    rw [← hV9] at hj0
    rw [← hV9]
    replace PEE := Lib.hid (PEE.out.keep hj0)
    replace PD := Lib.hid (PD.out.keep hj0)
    replace PS := Lib.hid (PS.out.keep hj0)
    replace PT := Lib.hid (PT.out.keep hj0)
    replace HB := Lib.hid (HB.out.trans (hj0.mono HB.out.size))
    clear hj0 hV9
    obtain ⟨g0, g1⟩ := HF.out V9 HB.out
    go_wp2_with fail
    refine (S1.out V9 PEE.out PD.out).mono ?_
    rintro e w0 ⟨rfl, hb⟩
    replace PEE := Lib.hid (PEE.out.keep hb)
    replace PD := Lib.hid (PD.out.keep hb)
    replace PS := Lib.hid (PS.out.keep hb)
    replace PT := Lib.hid (PT.out.keep hb)
    replace HB := Lib.hid (HB.out.trans (hb.mono HB.out.size))
    clear hb
    clear g0 g1
    obtain ⟨g0, g1⟩ := HF.out w0 HB.out
    go_wp2_with fail
    refine (HAW.out w0).mono ?_
    rintro e w1 ⟨rfl, hb⟩
    replace PEE := Lib.hid (PEE.out.keep hb)
    replace PD := Lib.hid (PD.out.keep hb)
    replace PS := Lib.hid (PS.out.keep hb)
    replace PT := Lib.hid (PT.out.keep hb)
    replace HB := Lib.hid (HB.out.trans (hb.mono HB.out.size))
    clear hb
    clear g0 g1
    obtain ⟨g0, g1⟩ := HF.out w1 HB.out
    go_wp2
    go_ret
    exact ⟨rfl, HB0.out.trans (HB.out.mono HB0.out.size)⟩
  have hS1t : smlD n L D = true := by cases hh : smlD n L D with | true => rfl | false => exact absurd hh hS1
  clear hS1
  have S1 : Hid (∀ u, EsAt u a L → IsAt u b D → Calls Try.prog 42 #[gv n a L.length cap, .slice b D.length c] u (fun e w' => e = .returned (.bool true) ∧ Below u.heap.size u w')) := Lib.hid fun u h1 h2 => by
    have := small18_any n a cap L b c D u h1 h2
    rwa [hS1t] at this
  by_cases hS2 : smlD n L S = false
  · have S2 : Hid (∀ u, EsAt u a L → IsAt u sa S → Calls Try.prog 42 #[gv n a L.length cap, .slice sa S.length sc] u (fun e w' => e = .returned (.bool false) ∧ Below u.heap.size u w')) := Lib.hid fun u h1 h2 => by
      have := small18_any n a cap L sa sc S u h1 h2
      rwa [hS2] at this
    unfold gv at *
    clear hS2 hS1t
    obtain ⟨V, hV⟩ : ∃ V, V = (w.alloc (Obj.cells #[.int .i64 n, .slice a L.length cap] 24)).alloc (Obj.cells #[.slice sa S.length sc, .slice ta T.length tc] 70) := ⟨_, rfl⟩
    have hB0 : Below w.heap.size w V := by rw [hV]; exact ((Below.refl _ w).alloc (Nat.le_refl _) _).alloc (by simp) _
    have hG : Blk V w.heap.size 24 #[.int .i64 n, .slice a L.length cap] := by rw [hV]; exact (Blk.new _ _ _).alloc _
    have hP : Blk V (w.heap.size + 1) 70 #[.slice sa S.length sc, .slice ta T.length tc] := by
      rw [hV]
      have := Blk.new (w.alloc (Obj.cells #[.int .i64 n, .slice a L.length cap] 24)) 70 #[.slice sa S.length sc, .slice ta T.length tc]
      rwa [World.size_alloc] at this
    have HV := Lib.hid hV
    have HB0 := Lib.hid hB0
    have HF : Hid (∀ u, Below V.heap.size V u → u.cell? ⟨w.heap.size, 0, none⟩ = some (.int .i64 n) ∧ u.cell? ⟨w.heap.size, 1, none⟩ = some (.slice a L.length cap)) := Lib.hid fun u hu => ⟨(hG.below hu hG.lt).cell 0, (hG.below hu hG.lt).cell 1⟩
    have HX : Hid (∀ u, Below V.heap.size V u → u.cell? ⟨w.heap.size + 1, 0, none⟩ = some (.slice sa S.length sc) ∧ u.cell? ⟨w.heap.size + 1, 1, none⟩ = some (.slice ta T.length tc)) := Lib.hid fun u hu => ⟨(hP.below hu hP.lt).cell 0, (hP.below hu hP.lt).cell 1⟩
    have HB : Hid (Below V.heap.size V V) := Lib.hid (Below.refl _ _)
    have PEE := Lib.hid (h.keep hB0)
    have PD := Lib.hid (ho.keep hB0)
    have PS := Lib.hid (hs.keep hB0)
    have PT := Lib.hid (ht.keep hB0)
    clear hV hB0 hG hP h ho hs ht
    go_enter Try.func9, Try.ntmps9
    go_wp2
    rw [← HV.out]
    have hj0 : Below V.heap.size V V.drew := (Below.refl _ _).drew
    refine wp_region_late (S := fun u => Below V.heap.size V u) (X := []) (by kernel_rfl) ?_
    refine wpAnyL_pureD (i := 0) 21 (.pointer (some ⟨w.heap.size + 1, 0, none⟩)) rfl rfl (by kernel_rfl) (by kernel_rfl) (by kernel_rfl) (fun _ _ _ h => h) (Or.inl ⟨by rfl, fun u _ => ?_⟩) ?_
    · go_simp
    try simp only [Act.put, List.setIfInBounds_toArray, List.set_cons_zero, List.set_cons_succ]
    refine wpAnyL_takeD (i := 1) 22 (.slice sa S.length sc) rfl rfl (by kernel_rfl) (by kernel_rfl) (by kernel_rfl) (by kernel_rfl) (by kernel_rfl) (fun _ _ _ h => h) hj0 (Or.inl ⟨by rfl, fun u hu => ?_⟩) ?_
    · obtain ⟨t0, t1⟩ := HX.out u hu
      go_simp
    try simp only [Act.put, List.setIfInBounds_toArray, List.set_cons_zero, List.set_cons_succ]
    refine wpAnyL_pureD (i := 2) 23 (.pointer (some ⟨w.heap.size + 1, 1, none⟩)) rfl rfl (by kernel_rfl) (by kernel_rfl) (by kernel_rfl) (fun _ _ _ h => h) (Or.inl ⟨by rfl, fun u _ => ?_⟩) ?_
    · go_simp
    try simp only [Act.put, List.setIfInBounds_toArray, List.set_cons_zero, List.set_cons_succ]
    refine wpAnyL_takeD (i := 3) 24 (.slice ta T.length tc) rfl rfl (by kernel_rfl) (by kernel_rfl) (by kernel_rfl) (by kernel_rfl) (by kernel_rfl) (fun _ _ _ h => h) hj0 (Or.inl ⟨by rfl, fun u hu => ?_⟩) ?_
    · obtain ⟨t0, t1⟩ := HX.out u hu
      go_simp
    try simp only [Act.put, List.setIfInBounds_toArray, List.set_cons_zero, List.set_cons_succ]
    refine wpAnyL_pureD (i := 4) 7 (.slice sa S.length sc) rfl rfl (by kernel_rfl) (by kernel_rfl) (by kernel_rfl) (fun _ _ _ h => h) (Or.inl ⟨by rfl, fun u _ => ?_⟩) ?_
    · go_simp
    try simp only [Act.put, List.setIfInBounds_toArray, List.set_cons_zero, List.set_cons_succ]
    refine wpAnyL_pureD (i := 5) 8 (.slice ta T.length tc) rfl rfl (by kernel_rfl) (by kernel_rfl) (by kernel_rfl) (fun _ _ _ h => h) (Or.inl ⟨by rfl, fun u _ => ?_⟩) ?_
    · go_simp
    try simp only [Act.put, List.setIfInBounds_toArray, List.set_cons_zero, List.set_cons_succ]
    refine wpAnyL_done (by kernel_rfl) ?_ _
    try simp only [Act.put, List.setIfInBounds_toArray, List.set_cons_zero, List.set_cons_succ]
    obtain ⟨V9, hV9⟩ : ∃ u, u = V.drew := ⟨_, rfl⟩
    rw [← hV9] at hj0
    rw [← hV9]
    replace PEE := Lib.hid (PEE.out.keep hj0)
    replace PD := Lib.hid (PD.out.keep hj0)
    replace PS := Lib.hid (PS.out.keep hj0)
    replace PT := Lib.hid (PT.out.keep hj0)
    replace HB := Lib.hid (HB.out.trans (hj0.mono HB.out.size))
    clear hj0 hV9
    obtain ⟨g0, g1⟩ := HF.out V9 HB.out
    go_wp2_with fail
    refine (S1.out V9 PEE.out PD.out).mono ?_
    rintro e w0 ⟨rfl, hb⟩
    replace PEE := Lib.hid (PEE.out.keep hb)
    replace PD := Lib.hid (PD.out.keep hb)
    replace PS := Lib.hid (PS.out.keep hb)
    replace PT := Lib.hid (PT.out.keep hb)
    replace HB := Lib.hid (HB.out.trans (hb.mono HB.out.size))
    clear hb
    clear g0 g1
    obtain ⟨g0, g1⟩ := HF.out w0 HB.out
    go_wp2_with fail
    refine (S2.out w0 PEE.out PS.out).mono ?_
    rintro e w1 ⟨rfl, hb⟩
    replace PEE := Lib.hid (PEE.out.keep hb)
    replace PD := Lib.hid (PD.out.keep hb)
    replace PS := Lib.hid (PS.out.keep hb)
    replace PT := Lib.hid (PT.out.keep hb)
    replace HB := Lib.hid (HB.out.trans (hb.mono HB.out.size))
    clear hb
    clear g0 g1
    obtain ⟨g0, g1⟩ := HF.out w1 HB.out
    go_wp2_with fail
    refine (HAW.out w1).mono ?_
    rintro e w2 ⟨rfl, hb⟩
    replace PEE := Lib.hid (PEE.out.keep hb)
    replace PD := Lib.hid (PD.out.keep hb)
    replace PS := Lib.hid (PS.out.keep hb)
    replace PT := Lib.hid (PT.out.keep hb)
    replace HB := Lib.hid (HB.out.trans (hb.mono HB.out.size))
    clear hb
    clear g0 g1
    obtain ⟨g0, g1⟩ := HF.out w2 HB.out
    go_wp2
    go_ret
    exact ⟨rfl, HB0.out.trans (HB.out.mono HB0.out.size)⟩
  have hS2t : smlD n L S = true := by cases hh : smlD n L S with | true => rfl | false => exact absurd hh hS2
  clear hS2
  have S2 : Hid (∀ u, EsAt u a L → IsAt u sa S → Calls Try.prog 42 #[gv n a L.length cap, .slice sa S.length sc] u (fun e w' => e = .returned (.bool true) ∧ Below u.heap.size u w')) := Lib.hid fun u h1 h2 => by
    have := small18_any n a cap L sa sc S u h1 h2
    rwa [hS2t] at this
  by_cases hS3 : smlD n L T = false
  · have S3 : Hid (∀ u, EsAt u a L → IsAt u ta T → Calls Try.prog 42 #[gv n a L.length cap, .slice ta T.length tc] u (fun e w' => e = .returned (.bool false) ∧ Below u.heap.size u w')) := Lib.hid fun u h1 h2 => by
      have := small18_any n a cap L ta tc T u h1 h2
      rwa [hS3] at this
    unfold gv at *
    clear hS3 hS1t hS2t
    obtain ⟨V, hV⟩ : ∃ V, V = (w.alloc (Obj.cells #[.int .i64 n, .slice a L.length cap] 24)).alloc (Obj.cells #[.slice sa S.length sc, .slice ta T.length tc] 70) := ⟨_, rfl⟩
    have hB0 : Below w.heap.size w V := by rw [hV]; exact ((Below.refl _ w).alloc (Nat.le_refl _) _).alloc (by simp) _
    have hG : Blk V w.heap.size 24 #[.int .i64 n, .slice a L.length cap] := by rw [hV]; exact (Blk.new _ _ _).alloc _
    have hP : Blk V (w.heap.size + 1) 70 #[.slice sa S.length sc, .slice ta T.length tc] := by
      rw [hV]
      have := Blk.new (w.alloc (Obj.cells #[.int .i64 n, .slice a L.length cap] 24)) 70 #[.slice sa S.length sc, .slice ta T.length tc]
      rwa [World.size_alloc] at this
    have HV := Lib.hid hV
    have HB0 := Lib.hid hB0
    have HF : Hid (∀ u, Below V.heap.size V u → u.cell? ⟨w.heap.size, 0, none⟩ = some (.int .i64 n) ∧ u.cell? ⟨w.heap.size, 1, none⟩ = some (.slice a L.length cap)) := Lib.hid fun u hu => ⟨(hG.below hu hG.lt).cell 0, (hG.below hu hG.lt).cell 1⟩
    have HX : Hid (∀ u, Below V.heap.size V u → u.cell? ⟨w.heap.size + 1, 0, none⟩ = some (.slice sa S.length sc) ∧ u.cell? ⟨w.heap.size + 1, 1, none⟩ = some (.slice ta T.length tc)) := Lib.hid fun u hu => ⟨(hP.below hu hP.lt).cell 0, (hP.below hu hP.lt).cell 1⟩
    have HB : Hid (Below V.heap.size V V) := Lib.hid (Below.refl _ _)
    have PEE := Lib.hid (h.keep hB0)
    have PD := Lib.hid (ho.keep hB0)
    have PS := Lib.hid (hs.keep hB0)
    have PT := Lib.hid (ht.keep hB0)
    clear hV hB0 hG hP h ho hs ht
    go_enter Try.func9, Try.ntmps9
    go_wp2
    rw [← HV.out]
    have hj0 : Below V.heap.size V V.drew := (Below.refl _ _).drew
    refine wp_region_late (S := fun u => Below V.heap.size V u) (X := []) (by kernel_rfl) ?_
    refine wpAnyL_pureD (i := 0) 21 (.pointer (some ⟨w.heap.size + 1, 0, none⟩)) rfl rfl (by kernel_rfl) (by kernel_rfl) (by kernel_rfl) (fun _ _ _ h => h) (Or.inl ⟨by rfl, fun u _ => ?_⟩) ?_
    · go_simp
    try simp only [Act.put, List.setIfInBounds_toArray, List.set_cons_zero, List.set_cons_succ]
    refine wpAnyL_takeD (i := 1) 22 (.slice sa S.length sc) rfl rfl (by kernel_rfl) (by kernel_rfl) (by kernel_rfl) (by kernel_rfl) (by kernel_rfl) (fun _ _ _ h => h) hj0 (Or.inl ⟨by rfl, fun u hu => ?_⟩) ?_
    · obtain ⟨t0, t1⟩ := HX.out u hu
      go_simp
    try simp only [Act.put, List.setIfInBounds_toArray, List.set_cons_zero, List.set_cons_succ]
    refine wpAnyL_pureD (i := 2) 23 (.pointer (some ⟨w.heap.size + 1, 1, none⟩)) rfl rfl (by kernel_rfl) (by kernel_rfl) (by kernel_rfl) (fun _ _ _ h => h) (Or.inl ⟨by rfl, fun u _ => ?_⟩) ?_
    · go_simp
    try simp only [Act.put, List.setIfInBounds_toArray, List.set_cons_zero, List.set_cons_succ]
    refine wpAnyL_takeD (i := 3) 24 (.slice ta T.length tc) rfl rfl (by kernel_rfl) (by kernel_rfl) (by kernel_rfl) (by kernel_rfl) (by kernel_rfl) (fun _ _ _ h => h) hj0 (Or.inl ⟨by rfl, fun u hu => ?_⟩) ?_
    · obtain ⟨t0, t1⟩ := HX.out u hu
      go_simp
    try simp only [Act.put, List.setIfInBounds_toArray, List.set_cons_zero, List.set_cons_succ]
    refine wpAnyL_pureD (i := 4) 7 (.slice sa S.length sc) rfl rfl (by kernel_rfl) (by kernel_rfl) (by kernel_rfl) (fun _ _ _ h => h) (Or.inl ⟨by rfl, fun u _ => ?_⟩) ?_
    · go_simp
    try simp only [Act.put, List.setIfInBounds_toArray, List.set_cons_zero, List.set_cons_succ]
    refine wpAnyL_pureD (i := 5) 8 (.slice ta T.length tc) rfl rfl (by kernel_rfl) (by kernel_rfl) (by kernel_rfl) (fun _ _ _ h => h) (Or.inl ⟨by rfl, fun u _ => ?_⟩) ?_
    · go_simp
    try simp only [Act.put, List.setIfInBounds_toArray, List.set_cons_zero, List.set_cons_succ]
    refine wpAnyL_done (by kernel_rfl) ?_ _
    try simp only [Act.put, List.setIfInBounds_toArray, List.set_cons_zero, List.set_cons_succ]
    obtain ⟨V9, hV9⟩ : ∃ u, u = V.drew := ⟨_, rfl⟩
    rw [← hV9] at hj0
    rw [← hV9]
    replace PEE := Lib.hid (PEE.out.keep hj0)
    replace PD := Lib.hid (PD.out.keep hj0)
    replace PS := Lib.hid (PS.out.keep hj0)
    replace PT := Lib.hid (PT.out.keep hj0)
    replace HB := Lib.hid (HB.out.trans (hj0.mono HB.out.size))
    clear hj0 hV9
    obtain ⟨g0, g1⟩ := HF.out V9 HB.out
    go_wp2_with fail
    refine (S1.out V9 PEE.out PD.out).mono ?_
    rintro e w0 ⟨rfl, hb⟩
    replace PEE := Lib.hid (PEE.out.keep hb)
    replace PD := Lib.hid (PD.out.keep hb)
    replace PS := Lib.hid (PS.out.keep hb)
    replace PT := Lib.hid (PT.out.keep hb)
    replace HB := Lib.hid (HB.out.trans (hb.mono HB.out.size))
    clear hb
    clear g0 g1
    obtain ⟨g0, g1⟩ := HF.out w0 HB.out
    go_wp2_with fail
    refine (S2.out w0 PEE.out PS.out).mono ?_
    rintro e w1 ⟨rfl, hb⟩
    replace PEE := Lib.hid (PEE.out.keep hb)
    replace PD := Lib.hid (PD.out.keep hb)
    replace PS := Lib.hid (PS.out.keep hb)
    replace PT := Lib.hid (PT.out.keep hb)
    replace HB := Lib.hid (HB.out.trans (hb.mono HB.out.size))
    clear hb
    clear g0 g1
    obtain ⟨g0, g1⟩ := HF.out w1 HB.out
    go_wp2_with fail
    refine (S3.out w1 PEE.out PT.out).mono ?_
    rintro e w2 ⟨rfl, hb⟩
    replace PEE := Lib.hid (PEE.out.keep hb)
    replace PD := Lib.hid (PD.out.keep hb)
    replace PS := Lib.hid (PS.out.keep hb)
    replace PT := Lib.hid (PT.out.keep hb)
    replace HB := Lib.hid (HB.out.trans (hb.mono HB.out.size))
    clear hb
    clear g0 g1
    obtain ⟨g0, g1⟩ := HF.out w2 HB.out
    go_wp2_with fail
    refine (HAW.out w2).mono ?_
    rintro e w3 ⟨rfl, hb⟩
    replace PEE := Lib.hid (PEE.out.keep hb)
    replace PD := Lib.hid (PD.out.keep hb)
    replace PS := Lib.hid (PS.out.keep hb)
    replace PT := Lib.hid (PT.out.keep hb)
    replace HB := Lib.hid (HB.out.trans (hb.mono HB.out.size))
    clear hb
    clear g0 g1
    obtain ⟨g0, g1⟩ := HF.out w3 HB.out
    go_wp2
    go_ret
    exact ⟨rfl, HB0.out.trans (HB.out.mono HB0.out.size)⟩
  have hS3t : smlD n L T = true := by cases hh : smlD n L T with | true => rfl | false => exact absurd hh hS3
  clear hS3
  have S3 : Hid (∀ u, EsAt u a L → IsAt u ta T → Calls Try.prog 42 #[gv n a L.length cap, .slice ta T.length tc] u (fun e w' => e = .returned (.bool true) ∧ Below u.heap.size u w')) := Lib.hid fun u h1 h2 => by
    have := small18_any n a cap L ta tc T u h1 h2
    rwa [hS3t] at this
  have q1 := sml_out hS1t
  have q2 := sml_out hS2t
  have q3 := sml_out hS3t
  have hn1 := q1.right.lo
  have hn2 := q1.right.hi
  obtain ⟨N, rfl⟩ : ∃ N : Nat, n = N := ⟨n.toNat, by omega⟩
  have hR := q1.right
  have hl := q1.few
  have bD := smD_bq q1 rfl
  have bS := smD_bq q2 rfl
  have bT := smD_bq q3 rfl
  have bA := bD.ch bS (by omega) hR hl
  have bC := bD.ch bT (by omega) hR hl
  have bU := addT_bq bS bT
  have hCHC : chD (chD D T L) S L = chD D (addT S T N N) L := by rw [ch_ch bD.len hR, addT_comm]
  have hCHA : chD (chD D S L) T L = chD D (addT S T N N) L := ch_ch bD.len hR
  have H1 : Hid (∀ u, EsAt u a L → IsAt u b D → IsAt u sa S → Calls Try.prog 20 #[gv N a L.length cap, .slice b D.length c, .slice sa S.length sc] u (GivesIE u (chD D S L) 0)) := Lib.hid fun u h1 h2 h3 => by
    have := pApply_any N a cap L (by omega) b c D (by have := bD.len; omega) sa sc S (by have := bS.len; omega) u h1 h2 h3
    obtain ⟨e1, e2⟩ := apply_num bD bS (by omega) (by omega) hR hl
    rwa [e1, e2] at this
  have H2 : Hid (∀ p q u, EsAt u a L → IsAt u p (chD D S L) → IsAt u ta T → Calls Try.prog 20 #[gv N a L.length cap, .slice p (chD D S L).length q, .slice ta T.length tc] u (GivesIE u (chD D (addT S T N N) L) 0)) := Lib.hid fun p q u h1 h2 h3 => by
    have := pApply_any N a cap L (by omega) p q (chD D S L) (by have := bA.len; omega) ta tc T (by have := bT.len; omega) u h1 h2 h3
    obtain ⟨e1, e2⟩ := apply_num bA bT (by omega) (by omega) hR hl
    rwa [e1, e2, hCHA] at this
  have H3 : Hid (∀ u, EsAt u a L → IsAt u b D → IsAt u ta T → Calls Try.prog 20 #[gv N a L.length cap, .slice b D.length c, .slice ta T.length tc] u (GivesIE u (chD D T L) 0)) := Lib.hid fun u h1 h2 h3 => by
    have := pApply_any N a cap L (by omega) b c D (by have := bD.len; omega) ta tc T (by have := bT.len; omega) u h1 h2 h3
    obtain ⟨e1, e2⟩ := apply_num bD bT (by omega) (by omega) hR hl
    rwa [e1, e2] at this
  have H4 : Hid (∀ p q u, EsAt u a L → IsAt u p (chD D T L) → IsAt u sa S → Calls Try.prog 20 #[gv N a L.length cap, .slice p (chD D T L).length q, .slice sa S.length sc] u (GivesIE u (chD D (addT S T N N) L) 0)) := Lib.hid fun p q u h1 h2 h3 => by
    have := pApply_any N a cap L (by omega) p q (chD D T L) (by have := bC.len; omega) sa sc S (by have := bS.len; omega) u h1 h2 h3
    obtain ⟨e1, e2⟩ := apply_num bC bS (by omega) (by omega) hR hl
    rwa [e1, e2, hCHC] at this
  have H5 : Hid (∀ p q u, EsAt u a L → IsAt u b D → IsAt u p (addT S T N N) → Calls Try.prog 20 #[gv N a L.length cap, .slice b D.length c, .slice p N q] u (GivesIE u (chD D (addT S T N N) L) 0)) := Lib.hid fun p q u h1 h2 h3 => by
    have := pApply_any N a cap L (by omega) b c D (by have := bD.len; omega) p q (addT S T N N) (by have := bU.len; omega) u h1 h2 h3
    obtain ⟨e1, e2⟩ := apply_num bD bU (by omega) (by omega) hR hl
    rwa [e1, e2, addT_len] at this
  have HT1 : Hid (∀ p q u, IsAt u p (chD D S L) → Calls Try.prog 43 #[.slice p (chD D S L).length q] u (fun e w' => e = .returned (.int .i64 (sumD D)) ∧ Below u.heap.size u w')) := Lib.hid fun p q u h1 => by
    have := rTotal_any p q (chD D S L) (by have := bA.len; omega) (bA.div (by omega) hR).rng u h1
    rwa [chD_total hR (by rw [bD.len])] at this
  have HT2 : Hid (∀ u, IsAt u b D → Calls Try.prog 43 #[.slice b D.length c] u (fun e w' => e = .returned (.int .i64 (sumD D)) ∧ Below u.heap.size u w')) := Lib.hid fun u h1 => rTotal_any b c D (by have := bD.len; omega) (bD.div (by omega) hR).rng u h1
  have LB : Hid ((chD D (addT S T N N) L).length ≤ 1000) := Lib.hid (by rw [chD_len, bD.len]; omega)
  have HSM := Lib.hid same_true
  have HLS : Hid (S.length = N ∧ T.length = N) := Lib.hid ⟨bS.len, bT.len⟩
  have HSB : Hid (∀ v : Nat, v < N → (-60 ≤ iAt S v ∧ iAt S v ≤ 60) ∧ (-60 ≤ iAt T v ∧ iAt T v ≤ 60)) := Lib.hid fun v hv => ⟨bS.bd v hv, bT.bd v hv⟩
  have HU0 := Lib.hid (addT_zero S T N)
  have HUS := Lib.hid (fun i h => addT_next S T N i h)
  have HUL := Lib.hid (fun i => addT_len S T N i)
  have HNN : Hid (N ≤ 1000) := Lib.hid (by omega)
  clear q1 q2 q3 hn1 hn2 hR hl bD bS bT bA bC bU hCHA hCHC hS1t hS2t hS3t
  unfold GivesIE gv at *
  generalize chD D (addT S T N N) L = B at *
  generalize chD D S L = A at *
  generalize chD D T L = C9 at *
  generalize addT S T N = U at *
  generalize sumD D = sd at *
  obtain ⟨V, hV⟩ : ∃ V, V = (w.alloc (Obj.cells #[.int .i64 (N : Int), .slice a L.length cap] 24)).alloc (Obj.cells #[.slice sa S.length sc, .slice ta T.length tc] 70) := ⟨_, rfl⟩
  have hB0 : Below w.heap.size w V := by rw [hV]; exact ((Below.refl _ w).alloc (Nat.le_refl _) _).alloc (by simp) _
  have hG : Blk V w.heap.size 24 #[.int .i64 (N : Int), .slice a L.length cap] := by rw [hV]; exact (Blk.new _ _ _).alloc _
  have hP : Blk V (w.heap.size + 1) 70 #[.slice sa S.length sc, .slice ta T.length tc] := by
    rw [hV]
    have := Blk.new (w.alloc (Obj.cells #[.int .i64 (N : Int), .slice a L.length cap] 24)) 70 #[.slice sa S.length sc, .slice ta T.length tc]
    rwa [World.size_alloc] at this
  have HV := Lib.hid hV
  have HB0 := Lib.hid hB0
  have HF : Hid (∀ u, Below V.heap.size V u → u.cell? ⟨w.heap.size, 0, none⟩ = some (.int .i64 (N : Int)) ∧ u.cell? ⟨w.heap.size, 1, none⟩ = some (.slice a L.length cap)) := Lib.hid fun u hu => ⟨(hG.below hu hG.lt).cell 0, (hG.below hu hG.lt).cell 1⟩
  have HX : Hid (∀ u, Below V.heap.size V u → u.cell? ⟨w.heap.size + 1, 0, none⟩ = some (.slice sa S.length sc) ∧ u.cell? ⟨w.heap.size + 1, 1, none⟩ = some (.slice ta T.length tc)) := Lib.hid fun u hu => ⟨(hP.below hu hP.lt).cell 0, (hP.below hu hP.lt).cell 1⟩
  have HB : Hid (Below V.heap.size V V) := Lib.hid (Below.refl _ _)
  have PEE := Lib.hid (h.keep hB0)
  have PD := Lib.hid (ho.keep hB0)
  have PS := Lib.hid (hs.keep hB0)
  have PT := Lib.hid (ht.keep hB0)
  clear hV hB0 hG hP h ho hs ht
  go_enter Try.func9, Try.ntmps9
  go_wp2
  rw [← HV.out]
  have hj0 : Below V.heap.size V V.drew := (Below.refl _ _).drew
  refine wp_region_late (S := fun u => Below V.heap.size V u) (X := []) (by kernel_rfl) ?_
  refine wpAnyL_pureD (i := 0) 21 (.pointer (some ⟨w.heap.size + 1, 0, none⟩)) rfl rfl (by kernel_rfl) (by kernel_rfl) (by kernel_rfl) (fun _ _ _ h => h) (Or.inl ⟨by rfl, fun u _ => ?_⟩) ?_
  · go_simp
  try simp only [Act.put, List.setIfInBounds_toArray, List.set_cons_zero, List.set_cons_succ]
  refine wpAnyL_takeD (i := 1) 22 (.slice sa S.length sc) rfl rfl (by kernel_rfl) (by kernel_rfl) (by kernel_rfl) (by kernel_rfl) (by kernel_rfl) (fun _ _ _ h => h) hj0 (Or.inl ⟨by rfl, fun u hu => ?_⟩) ?_
  · obtain ⟨t0, t1⟩ := HX.out u hu
    go_simp
  try simp only [Act.put, List.setIfInBounds_toArray, List.set_cons_zero, List.set_cons_succ]
  refine wpAnyL_pureD (i := 2) 23 (.pointer (some ⟨w.heap.size + 1, 1, none⟩)) rfl rfl (by kernel_rfl) (by kernel_rfl) (by kernel_rfl) (fun _ _ _ h => h) (Or.inl ⟨by rfl, fun u _ => ?_⟩) ?_
  · go_simp
  try simp only [Act.put, List.setIfInBounds_toArray, List.set_cons_zero, List.set_cons_succ]
  refine wpAnyL_takeD (i := 3) 24 (.slice ta T.length tc) rfl rfl (by kernel_rfl) (by kernel_rfl) (by kernel_rfl) (by kernel_rfl) (by kernel_rfl) (fun _ _ _ h => h) hj0 (Or.inl ⟨by rfl, fun u hu => ?_⟩) ?_
  · obtain ⟨t0, t1⟩ := HX.out u hu
    go_simp
  try simp only [Act.put, List.setIfInBounds_toArray, List.set_cons_zero, List.set_cons_succ]
  refine wpAnyL_pureD (i := 4) 7 (.slice sa S.length sc) rfl rfl (by kernel_rfl) (by kernel_rfl) (by kernel_rfl) (fun _ _ _ h => h) (Or.inl ⟨by rfl, fun u _ => ?_⟩) ?_
  · go_simp
  try simp only [Act.put, List.setIfInBounds_toArray, List.set_cons_zero, List.set_cons_succ]
  refine wpAnyL_pureD (i := 5) 8 (.slice ta T.length tc) rfl rfl (by kernel_rfl) (by kernel_rfl) (by kernel_rfl) (fun _ _ _ h => h) (Or.inl ⟨by rfl, fun u _ => ?_⟩) ?_
  · go_simp
  try simp only [Act.put, List.setIfInBounds_toArray, List.set_cons_zero, List.set_cons_succ]
  refine wpAnyL_done (by kernel_rfl) ?_ _
  try simp only [Act.put, List.setIfInBounds_toArray, List.set_cons_zero, List.set_cons_succ]
  obtain ⟨V9, hV9⟩ : ∃ u, u = V.drew := ⟨_, rfl⟩
  rw [← hV9] at hj0
  rw [← hV9]
  replace PEE := Lib.hid (PEE.out.keep hj0)
  replace PD := Lib.hid (PD.out.keep hj0)
  replace PS := Lib.hid (PS.out.keep hj0)
  replace PT := Lib.hid (PT.out.keep hj0)
  replace HB := Lib.hid (HB.out.trans (hj0.mono HB.out.size))
  clear hj0 hV9
  obtain ⟨g0, g1⟩ := HF.out V9 HB.out
  go_wp2_with fail
  refine (S1.out V9 PEE.out PD.out).mono ?_
  rintro e w0 ⟨rfl, hb⟩
  replace PEE := Lib.hid (PEE.out.keep hb)
  replace PD := Lib.hid (PD.out.keep hb)
  replace PS := Lib.hid (PS.out.keep hb)
  replace PT := Lib.hid (PT.out.keep hb)
  replace HB := Lib.hid (HB.out.trans (hb.mono HB.out.size))
  clear hb
  clear g0 g1
  obtain ⟨g0, g1⟩ := HF.out w0 HB.out
  go_wp2_with fail
  refine (S2.out w0 PEE.out PS.out).mono ?_
  rintro e w1 ⟨rfl, hb⟩
  replace PEE := Lib.hid (PEE.out.keep hb)
  replace PD := Lib.hid (PD.out.keep hb)
  replace PS := Lib.hid (PS.out.keep hb)
  replace PT := Lib.hid (PT.out.keep hb)
  replace HB := Lib.hid (HB.out.trans (hb.mono HB.out.size))
  clear hb
  clear g0 g1
  obtain ⟨g0, g1⟩ := HF.out w1 HB.out
  go_wp2_with fail
  refine (S3.out w1 PEE.out PT.out).mono ?_
  rintro e w2 ⟨rfl, hb⟩
  replace PEE := Lib.hid (PEE.out.keep hb)
  replace PD := Lib.hid (PD.out.keep hb)
  replace PS := Lib.hid (PS.out.keep hb)
  replace PT := Lib.hid (PT.out.keep hb)
  replace HB := Lib.hid (HB.out.trans (hb.mono HB.out.size))
  clear hb
  clear g0 g1
  obtain ⟨g0, g1⟩ := HF.out w2 HB.out
  have hmk : (Instr.makeSlice 26 (.int .i64 (N : Int)) (.int .i64 (N : Int))).run Try.prog w2 = .ok (.slice (some ⟨w2.heap.size, 0, none⟩) N N) (w2.alloc (.cells (flat encI (List.replicate N 0)).toArray 3)) := make_scr N (by have := HNN.out; omega) _
  obtain ⟨W9, hW9⟩ : ∃ v, v = w2.alloc (.cells (flat encI (List.replicate N 0)).toArray 3) := ⟨_, rfl⟩
  obtain ⟨g, hgg⟩ : ∃ v, v = w2.heap.size := ⟨_, rfl⟩
  have hR0 : RowB encI 3 W9 g (List.replicate N 0) := by rw [hW9, hgg]; exact RowB.new _ _ _ _
  have hbn : Below w2.heap.size w2 W9 := by rw [hW9]; exact (Below.refl _ _).alloc (Nat.le_refl _) _
  have HGE : Hid (w2.heap.size ≤ g) := Lib.hid (by rw [hgg]; exact Nat.le_refl _)
  rw [← hW9, ← hgg] at hmk
  have HRB : Hid (RowB encI 3 W9 g (U 0)) := Lib.hid (by rw [HU0.out]; exact hR0)
  have HBN := Lib.hid hbn
  clear hW9 hgg hR0 hbn
  go_wp2
  clear g0 g1
  go_loopw [47] (fun x wr => ∃ i : Nat, i ≤ N ∧ x = .int .i64 i ∧ RowB encI 3 wr g (U i) ∧ Below w2.heap.size w2 wr) (fun x _ => N - (intOf x).toNat)
  case atStart => exact ⟨0, by omega, rfl, HRB.out, HBN.out⟩
  case round =>
    obtain ⟨i, hi, rfl, hp, hb⟩ := hrel
    have HBI := Lib.hid hb
    have HPI := Lib.hid hp
    by_cases hlt : i < N
    · have i1 : (i : Int) < (N : Int) := by omega
      have i2 : (0 : Int) ≤ (i : Int) := by omega
      have i3 : (i : Int) < (S.length : Int) := by rw [HLS.out.1]; exact i1
      have i4 : (i : Int) < (T.length : Int) := by rw [HLS.out.2]; exact i1
      have HLT := Lib.hid hlt
      have hbd := HSB.out i hlt
      have hml := HNN.out
      obtain ⟨b1, o1, hb1, q1, x1⟩ := (PS.out.keep hb).one i (by rw [HLS.out.1]; exact hlt)
      subst hb1
      obtain ⟨b2, o2, hb2, q2, x2⟩ := (PT.out.keep hb).one i (by rw [HLS.out.2]; exact hlt)
      subst hb2
      have HX9 : Hid (∀ u, Below wr.heap.size wr u → u.cell? ⟨b1, o1 + i, none⟩ = some (.int .i64 (iAt S i)) ∧ u.cell? ⟨b2, o2 + i, none⟩ = some (.int .i64 (iAt T i))) := Lib.hid fun u hu => ⟨(hu.cell (p := ⟨b1, o1 + i, none⟩) q1).trans x1, (hu.cell (p := ⟨b2, o2 + i, none⟩) q2).trans x2⟩
      have HUI := Lib.hid (HUS.out i hlt)
      have s1 := hp.cell i (by rw [HUL.out]; exact hlt)
      have s2 : wr.frozen? ⟨g, i, none⟩ = false := Blk.frozen hp i
      generalize iAt S i = x at *
      generalize iAt T i = y at *
      have HPN : Hid (RowB encI 3 (wr.setCell ⟨g, i, none⟩ (.int .i64 (x + y))) g (U (i + 1))) := Lib.hid (by rw [← HUI.out]; exact hp.set i _)
      have HBX : Hid (Below w2.heap.size w2 (wr.setCell ⟨g, i, none⟩ (.int .i64 (x + y)))) := Lib.hid (hb.setCell (p := ⟨g, i, none⟩) HGE.out _)
      generalize iAt (U i) i = old at s1
      clear hp hb hlt x1 x2 q1 q2
      go_wp2
      have hj0 : Below wr.heap.size wr wr.drew := (Below.refl _ _).drew
      refine wp_region_late (S := fun u => Below wr.heap.size wr u) (X := [12]) (by kernel_rfl) ?_
      refine wpAnyL_pureD (i := 0) 50 (.slice (some ⟨g, 0, none⟩) N N) rfl rfl (by kernel_rfl) (by kernel_rfl) (by kernel_rfl) (fun _ _ _ h => h) (Or.inl ⟨by rfl, fun u _ => ?_⟩) ?_
      · go_simp
      try simp only [Act.put, List.setIfInBounds_toArray, List.set_cons_zero, List.set_cons_succ]
      refine wpAnyL_pureD (i := 1) 51 (.int .i64 (i : Int)) rfl rfl (by kernel_rfl) (by kernel_rfl) (by kernel_rfl) (fun _ _ _ h => h) (Or.inl ⟨by rfl, fun u _ => ?_⟩) ?_
      · go_simp
      try simp only [Act.put, List.setIfInBounds_toArray, List.set_cons_zero, List.set_cons_succ]
      refine wpAnyL_pureD (i := 2) 52 (.slice (some ⟨b1, o1, none⟩) S.length sc) rfl rfl (by kernel_rfl) (by kernel_rfl) (by kernel_rfl) (fun _ _ _ h => h) (Or.inl ⟨by rfl, fun u _ => ?_⟩) ?_
      · go_simp
      try simp only [Act.put, List.setIfInBounds_toArray, List.set_cons_zero, List.set_cons_succ]
      refine wpAnyL_pureD (i := 3) 53 (.int .i64 (i : Int)) rfl rfl (by kernel_rfl) (by kernel_rfl) (by kernel_rfl) (fun _ _ _ h => h) (Or.inl ⟨by rfl, fun u _ => ?_⟩) ?_
      · go_simp
      try simp only [Act.put, List.setIfInBounds_toArray, List.set_cons_zero, List.set_cons_succ]
      refine wpAnyL_pureD (i := 4) 54 (.pointer (some ⟨b1, o1 + i, none⟩)) rfl rfl (by kernel_rfl) (by kernel_rfl) (by kernel_rfl) (fun _ _ _ h => h) (Or.inl ⟨by rfl, fun u _ => ?_⟩) ?_
      · go_simp
      try simp only [Act.put, List.setIfInBounds_toArray, List.set_cons_zero, List.set_cons_succ]
      refine wpAnyL_takeD (i := 5) 55 (.int .i64 x) rfl rfl (by kernel_rfl) (by kernel_rfl) (by kernel_rfl) (by kernel_rfl) (by kernel_rfl) (fun _ _ _ h => h) hj0 (Or.inl ⟨by rfl, fun u hu => ?_⟩) ?_
      · obtain ⟨t0, t1⟩ := HX9.out u hu
        go_simp
      try simp only [Act.put, List.setIfInBounds_toArray, List.set_cons_zero, List.set_cons_succ]
      refine wpAnyL_pureD (i := 6) 56 (.slice (some ⟨b2, o2, none⟩) T.length tc) rfl rfl (by kernel_rfl) (by kernel_rfl) (by kernel_rfl) (fun _ _ _ h => h) (Or.inl ⟨by rfl, fun u _ => ?_⟩) ?_
      · go_simp
      try simp only [Act.put, List.setIfInBounds_toArray, List.set_cons_zero, List.set_cons_succ]
      refine wpAnyL_pureD (i := 7) 57 (.int .i64 (i : Int)) rfl rfl (by kernel_rfl) (by kernel_rfl) (by kernel_rfl) (fun _ _ _ h => h) (Or.inl ⟨by rfl, fun u _ => ?_⟩) ?_
      · go_simp
      try simp only [Act.put, List.setIfInBounds_toArray, List.set_cons_zero, List.set_cons_succ]
      refine wpAnyL_pureD (i := 8) 58 (.pointer (some ⟨b2, o2 + i, none⟩)) rfl rfl (by kernel_rfl) (by kernel_rfl) (by kernel_rfl) (fun _ _ _ h => h) (Or.inl ⟨by rfl, fun u _ => ?_⟩) ?_
      · go_simp
      try simp only [Act.put, List.setIfInBounds_toArray, List.set_cons_zero, List.set_cons_succ]
      refine wpAnyL_takeD (i := 9) 59 (.int .i64 y) rfl rfl (by kernel_rfl) (by kernel_rfl) (by kernel_rfl) (by kernel_rfl) (by kernel_rfl) (fun _ _ _ h => h) hj0 (Or.inl ⟨by rfl, fun u hu => ?_⟩) ?_
      · obtain ⟨t0, t1⟩ := HX9.out u hu
        go_simp
      try simp only [Act.put, List.setIfInBounds_toArray, List.set_cons_zero, List.set_cons_succ]
      refine wpAnyL_pureD (i := 10) 60 (.int .i64 (x + y)) rfl rfl (by kernel_rfl) (by kernel_rfl) (by kernel_rfl) (fun _ _ _ h => h) (Or.inl ⟨by rfl, fun u _ => ?_⟩) ?_
      · go_simp
        try (rw [IntKind.wrap_i64]; omega)
      try simp only [Act.put, List.setIfInBounds_toArray, List.set_cons_zero, List.set_cons_succ]
      refine wpAnyL_pureD (i := 11) 61 (.pointer (some ⟨g, i, none⟩)) rfl rfl (by kernel_rfl) (by kernel_rfl) (by kernel_rfl) (fun _ _ _ h => h) (Or.inl ⟨by rfl, fun u _ => ?_⟩) ?_
      · go_simp
      try simp only [Act.put, List.setIfInBounds_toArray, List.set_cons_zero, List.set_cons_succ]
      refine wpAnyL_one (i := 12) (by kernel_rfl) rfl (fun K hK => ?_)
      go_simp
      refine hK.out _ _ (fun h => absurd (by decide) h) ?_
      clear hK K
      refine wpAnyL_done (by kernel_rfl) ?_ _
      try simp only [Act.put, List.setIfInBounds_toArray, List.set_cons_zero, List.set_cons_succ]
      go_wp2
      have HPD : Hid (RowB encI 3 ((wr.setCell ⟨g, i, none⟩ (.int .i64 (x + y))).drew) g (U (i + 1))) := Lib.hid (HPN.out.below (Below.refl _ _).drew HPN.out.lt)
      go_roundw
      case rel => exact ⟨i + 1, by have := HLT.out; omega, by go_num, by first | exact HPD.out | exact HPN.out, by first | exact HBX.out.drew | exact HBX.out⟩
      case measure => have := HLT.out; simp [intOf]; omega
    · obtain rfl : i = N := by omega
      have i1 : ¬ (i : Int) < (i : Int) := by omega
      have PU := Lib.hid (hp.row encI_len)
      replace PEE := Lib.hid (PEE.out.keep hb)
      replace PD := Lib.hid (PD.out.keep hb)
      replace PS := Lib.hid (PS.out.keep hb)
      replace PT := Lib.hid (PT.out.keep hb)
      replace HB := Lib.hid (HB.out.trans (hb.mono HB.out.size))
      obtain ⟨g0, g1⟩ := HF.out wr HB.out
      clear hp hb
      go_wp2_with fail
      refine (H1.out wr PEE.out PD.out PS.out).mono ?_
      rintro e w50 ⟨p1, q1, rfl, hpA, hb⟩
      replace PEE := Lib.hid (PEE.out.keep hb)
      replace PD := Lib.hid (PD.out.keep hb)
      replace PS := Lib.hid (PS.out.keep hb)
      replace PT := Lib.hid (PT.out.keep hb)
      replace PU := Lib.hid (PU.out.keep hb)
      replace HB := Lib.hid (HB.out.trans (hb.mono HB.out.size))
      clear hb
      have PA := Lib.hid hpA
      clear hpA
      clear g0 g1
      obtain ⟨g0, g1⟩ := HF.out w50 HB.out
      go_wp2_with fail
      refine (H2.out _ _ w50 PEE.out PA.out PT.out).mono ?_
      rintro e w51 ⟨p2, q2, rfl, hpB1, hb⟩
      replace PEE := Lib.hid (PEE.out.keep hb)
      replace PD := Lib.hid (PD.out.keep hb)
      replace PS := Lib.hid (PS.out.keep hb)
      replace PT := Lib.hid (PT.out.keep hb)
      replace PU := Lib.hid (PU.out.keep hb)
      replace PA := Lib.hid (PA.out.keep hb)
      replace HB := Lib.hid (HB.out.trans (hb.mono HB.out.size))
      clear hb
      have PB1 := Lib.hid hpB1
      clear hpB1
      clear g0 g1
      obtain ⟨g0, g1⟩ := HF.out w51 HB.out
      go_wp2_with fail
      refine (H3.out w51 PEE.out PD.out PT.out).mono ?_
      rintro e w52 ⟨p3, q3, rfl, hpC, hb⟩
      replace PEE := Lib.hid (PEE.out.keep hb)
      replace PD := Lib.hid (PD.out.keep hb)
      replace PS := Lib.hid (PS.out.keep hb)
      replace PT := Lib.hid (PT.out.keep hb)
      replace PU := Lib.hid (PU.out.keep hb)
      replace PA := Lib.hid (PA.out.keep hb)
      replace PB1 := Lib.hid (PB1.out.keep hb)
      replace HB := Lib.hid (HB.out.trans (hb.mono HB.out.size))
      clear hb
      have PC := Lib.hid hpC
      clear hpC
      clear g0 g1
      obtain ⟨g0, g1⟩ := HF.out w52 HB.out
      go_wp2_with fail
      refine (H4.out _ _ w52 PEE.out PC.out PS.out).mono ?_
      rintro e w53 ⟨p4, q4, rfl, hpB2, hb⟩
      clear PC
      clear PS
      clear PT
      replace PEE := Lib.hid (PEE.out.keep hb)
      replace PD := Lib.hid (PD.out.keep hb)
      replace PU := Lib.hid (PU.out.keep hb)
      replace PA := Lib.hid (PA.out.keep hb)
      replace PB1 := Lib.hid (PB1.out.keep hb)
      replace HB := Lib.hid (HB.out.trans (hb.mono HB.out.size))
      clear hb
      have PB2 := Lib.hid hpB2
      clear hpB2
      clear g0 g1
      obtain ⟨g0, g1⟩ := HF.out w53 HB.out
      go_wp2_with fail
      refine (H5.out _ _ w53 PEE.out PD.out PU.out).mono ?_
      rintro e w54 ⟨p5, q5, rfl, hpB3, hb⟩
      clear PU
      clear PEE
      replace PD := Lib.hid (PD.out.keep hb)
      replace PA := Lib.hid (PA.out.keep hb)
      replace PB1 := Lib.hid (PB1.out.keep hb)
      replace PB2 := Lib.hid (PB2.out.keep hb)
      replace HB := Lib.hid (HB.out.trans (hb.mono HB.out.size))
      clear hb
      have PB3 := Lib.hid hpB3
      clear hpB3
      clear g0 g1
      obtain ⟨g0, g1⟩ := HF.out w54 HB.out
      go_wp2_with fail
      refine (HT1.out _ _ w54 PA.out).mono ?_
      rintro e w55 ⟨rfl, hb⟩
      clear PA
      replace PD := Lib.hid (PD.out.keep hb)
      replace PB1 := Lib.hid (PB1.out.keep hb)
      replace PB2 := Lib.hid (PB2.out.keep hb)
      replace PB3 := Lib.hid (PB3.out.keep hb)
      replace HB := Lib.hid (HB.out.trans (hb.mono HB.out.size))
      clear hb
      clear g0 g1
      obtain ⟨g0, g1⟩ := HF.out w55 HB.out
      go_wp2_with fail
      refine (HT2.out w55 PD.out).mono ?_
      rintro e w56 ⟨rfl, hb⟩
      clear PD
      replace PB1 := Lib.hid (PB1.out.keep hb)
      replace PB2 := Lib.hid (PB2.out.keep hb)
      replace PB3 := Lib.hid (PB3.out.keep hb)
      replace HB := Lib.hid (HB.out.trans (hb.mono HB.out.size))
      clear hb
      clear g0 g1
      obtain ⟨g0, g1⟩ := HF.out w56 HB.out
      go_wp2_with fail
      refine (HSM.out w56 _ _ _ _ B LB.out PB1.out PB2.out).mono ?_
      rintro e w57 ⟨rfl, hb⟩
      clear PB2
      replace PB1 := Lib.hid (PB1.out.keep hb)
      replace PB3 := Lib.hid (PB3.out.keep hb)
      replace HB := Lib.hid (HB.out.trans (hb.mono HB.out.size))
      clear hb
      clear g0 g1
      obtain ⟨g0, g1⟩ := HF.out w57 HB.out
      go_wp2_with fail
      refine (HSM.out w57 _ _ _ _ B LB.out PB1.out PB3.out).mono ?_
      rintro e w58 ⟨rfl, hb⟩
      clear PB1
      clear PB3
      replace HB := Lib.hid (HB.out.trans (hb.mono HB.out.size))
      clear hb
      clear g0 g1
      obtain ⟨g0, g1⟩ := HF.out w58 HB.out
      go_wp2_with fail
      refine (HAW.out w58).mono ?_
      rintro e w59 ⟨rfl, hb⟩
      replace HB := Lib.hid (HB.out.trans (hb.mono HB.out.size))
      clear hb
      clear g0 g1
      obtain ⟨g0, g1⟩ := HF.out w59 HB.out
      go_wp2
      go_ret
      exact ⟨rfl, HB0.out.trans (HB.out.mono HB0.out.size)⟩
end Go.Proofs.Ytgejkgeojjgclaa
