/- The reference: contraction. -/
import Derived.Test.YtndjjafpdiehdaaZLb
import Derived.Test.YtndjjafpdiehdaaZLc
import Derived.Test.YtndjjafpdiehdaaQ16
namespace Go.Proofs.Ytndjjafpdiehdaa
open Go.RowKit Go.Shelf Go.Proofs.Gr
attribute [local go_sem] Oper.semAt_some

set_option maxHeartbeats 12800000 in
set_option maxRecDepth 100000 in
theorem rplaces_any (N : Nat) (a : Option Addr) (cap : Nat) (L : List E) (hL : L.length ≤ 100000) (hR : Right N L) (e : Nat) (he : e < (endsG L).length) (w : World) (h : EsAt w a L) :
    Calls Try.prog 63 #[gv N a L.length cap, .int .i64 e] w (GivesI w (plL N (mgF (pAt (endsG L) e)))) := by
  have HC := Lib.hid (fun w h => rends_any N a cap L hL hR w h)
  have hnr : N ≤ 12 := by have := hR.hi; omega
  have hin := fun p hp => ends_rng hR.rng p hp
  have hln : (endsG L).length ≤ 50 * 100000 := by have := ends_all hR; omega
  generalize endsG L = P at *
  have HMV := Lib.hid (fun x y w => rmoved_any N (by omega) x y w)
  have HEQ : Hid ((pAt P e).1 = (pAt P e).2 → plL N (mgR ((N : Int), (N : Int))) = plL N (mgF (pAt P e))) := Lib.hid fun h => plL_congr _ _ _ fun v hv => by rw [mgR_big (by omega), mgF_eq h]
  have HNE : Hid ((pAt P e).1 ≠ (pAt P e).2 → plL N (mgR (pAt P e)) = plL N (mgF (pAt P e))) := Lib.hid fun h => plL_congr _ _ _ fun v _ => mgR_ne h v
  have HLR := Lib.hid (plL_len N (mgF (pAt P e)))
  generalize plL N (mgF (pAt P e)) = RR at *
  unfold GivesI gv at *
  unfold GivesP at HC
  clear hin
  obtain ⟨W, hW⟩ : ∃ W, W = w.alloc (Obj.cells #[.int .i64 N, .slice a L.length cap] 24) := ⟨_, rfl⟩
  have hB0 : Below w.heap.size w W := by rw [hW]; exact (Below.refl _ w).alloc (Nat.le_refl _) _
  have hG : Blk W w.heap.size 24 #[.int .i64 N, .slice a L.length cap] := by rw [hW]; exact Blk.new _ _ _
  have hWs : W.heap.size = w.heap.size + 1 := by rw [hW]; simp
  have HW := Lib.hid hW
  have HWS := Lib.hid hWs
  have HB0 := Lib.hid hB0
  have HE := Lib.hid (h.keep hB0)
  have HF : Hid (∀ u, Below W.heap.size W u → u.cell? ⟨w.heap.size, 0, none⟩ = some (.int .i64 N) ∧ u.cell? ⟨w.heap.size, 1, none⟩ = some (.slice a L.length cap)) := Lib.hid fun u hu => ⟨(hG.below hu hG.lt).cell 0, (hG.below hu hG.lt).cell 1⟩
  obtain ⟨g0, g1⟩ := HF.out W (Below.refl _ _)
  clear hB0 hG hW hWs h
  go_enter Try.func63, Try.ntmps63
  go_wp2_with fail
  rw [← HW.out]
  refine (HC.out _ HE.out).mono ?_
  rintro r w1 ⟨a1, c1, rfl, hp, hb⟩
  clear g0 g1
  obtain ⟨b1, o1, hbb, q1, x1, x2⟩ := hp.two e he
  subst hbb
  generalize pAt P e = p at *
  obtain ⟨xa, xb⟩ := p
  simp only at x1 x2 HEQ HNE
  have i1 : (e : Int) < (P.length : Int) := by omega
  have i2 : (0 : Int) ≤ (e : Int) := by omega
  obtain ⟨V, hV⟩ : ∃ V, V = w1.alloc (Obj.cells #[.int .i64 xa, .int .i64 xb] 25) := ⟨_, rfl⟩
  have hbV : Below W.heap.size W V := by rw [hV]; exact hb.alloc hb.size _
  have hvb : Blk V w1.heap.size 25 #[.int .i64 xa, .int .i64 xb] := by rw [hV]; exact Blk.new _ _ _
  have z0 : (w1.alloc (Obj.cells #[.int .i64 xa, .int .i64 xb] 25)).cell? ⟨w1.heap.size, 0, none⟩ = some (.int .i64 xa) := by rw [← hV]; exact hvb.cell 0
  have z1 : (w1.alloc (Obj.cells #[.int .i64 xa, .int .i64 xb] 25)).cell? ⟨w1.heap.size, 1, none⟩ = some (.int .i64 xb) := by rw [← hV]; exact hvb.cell 1
  obtain ⟨g0, g1⟩ := HF.out V hbV
  rw [hV] at g0 g1
  have HV := Lib.hid hV
  clear hV hb hp hvb
  by_cases hx : xa = xb
  · subst hx
    have HMV2 := Lib.hid (HMV.out (N : Int) (N : Int) V)
    rw [HEQ.out rfl] at HMV2
    go_wp2_with fail
    rw [← HV.out]
    refine HMV2.out.mono ?_
    rintro r w2 ⟨a2, c2, rfl, hr, hb2⟩
    have HRR := Lib.hid hr
    have HEND := Lib.hid (HB0.out.trans ((hbV.trans (hb2.mono hbV.size)).mono HB0.out.size))
    clear hr hb2 hbV g0 g1
    go_wp2
    go_ret
    first | exact ⟨a2, ⟨c2, rfl⟩, HRR.out, HEND.out⟩ | exact ⟨a2, c2, rfl, HRR.out, HEND.out⟩
  · have d1 : (xa == xb) = false := by simpa using hx
    have HMV2 := Lib.hid (HMV.out xa xb V)
    rw [HNE.out hx] at HMV2
    go_wp2_with fail
    rw [← HV.out]
    refine HMV2.out.mono ?_
    rintro r w2 ⟨a2, c2, rfl, hr, hb2⟩
    have HRR := Lib.hid hr
    have HEND := Lib.hid (HB0.out.trans ((hbV.trans (hb2.mono hbV.size)).mono HB0.out.size))
    clear hr hb2 hbV g0 g1
    go_wp2
    go_ret
    first | exact ⟨a2, ⟨c2, rfl⟩, HRR.out, HEND.out⟩ | exact ⟨a2, c2, rfl, HRR.out, HEND.out⟩
/-- Hands back a graph of its own and an error's number. -/
def GivesGF (w : World) (m : Int) (J : List E) (k : Nat) (e : Ending) (w' : World) : Prop := ∃ a c, e = .returned (.tuple #[.agg #[.int .i64 m, .slice a J.length c], .int .i64 (k : Int)]) ∧ EsAt w' a J ∧ (∀ p, p < w.heap.size → Away a J.length p) ∧ Below w.heap.size w w'
theorem GivesGF.weak {w : World} {m : Int} {J : List E} {k : Nat} {e : Ending} {w' : World} (h : GivesGF w m J k e w') : GivesGW w m J k e w' := by
  obtain ⟨a, c, h1, h2, -, h3⟩ := h
  exact ⟨a, c, h1, h2, h3⟩
set_option maxHeartbeats 12800000 in
set_option maxRecDepth 100000 in
theorem rshort_any (N : Nat) (a : Option Addr) (cap : Nat) (L : List E) (hL : L.length ≤ 100000) (hR : Right N L) (e : Nat) (he : e < (endsG L).length) (m : Int) (J : List E) (k : Nat) (hM : Makes (mgF (pAt (endsG L) e) N) (mvP (mgF (pAt (endsG L) e)) (dropP (endsG L) e)) m J k) (w : World) (h : EsAt w a L) :
    Calls Try.prog 62 #[gv N a L.length cap, .int .i64 e] w (GivesGF w m J k) := by
  obtain ⟨hJl, -, hM⟩ := hM
  have HO := Lib.hid (fun w h => rothers_any N a cap L hL hR e he w h)
  have HPL := Lib.hid (fun w h => rplaces_any N a cap L hL hR e he w h)
  have HC := Lib.hid (fun w h => rends_any N a cap L hL hR w h)
  have hnr : N ≤ 12 := by have := hR.hi; omega
  have hin := fun p hp => ends_rng hR.rng p hp
  have hln : (endsG L).length ≤ 50 * 100000 := by have := ends_all hR; omega
  generalize endsG L = P at *
  have hpe := hin (pAt P e) (by rw [← pAt_get P e he]; exact List.getElem_mem he)
  have hdl := dropP_len P e he
  have HSE := Lib.hid (fun b c d f w h ht => rsent_any (mgF (pAt P e)) N b c d f (dropP P e) (by omega) (fun p hp => by have := hin p (dropP_mem hp); omega) w h ht)
  have HFN : Hid (mgF (pAt P e) N = if (pAt P e).1 = (pAt P e).2 then (N : Int) else (N : Int) - 1) := Lib.hid (mgF_n (by omega) (by omega))
  have HM := Lib.hid hM
  generalize mvP (mgF (pAt P e)) (dropP P e) = Q at *
  generalize mgF (pAt P e) N = NN at *
  generalize plL N (mgF (pAt P e)) = PLL at *
  generalize dropP P e = DP at *
  unfold GivesGF gv at *
  unfold GivesGE gv at HM
  unfold GivesI at HPL
  unfold GivesP at HO HSE HC
  clear hM hin hdl hpe
  obtain ⟨W, hW⟩ : ∃ W, W = (w.alloc (Obj.cells #[.int .i64 N, .slice a L.length cap] 24)).alloc (Obj.cells #[.int .i64 0, .slice none 0 0] 24) := ⟨_, rfl⟩
  have hB0 : Below w.heap.size w W := by rw [hW]; exact ((Below.refl _ w).alloc (Nat.le_refl _) _).alloc (by simp) _
  have hG : Blk W w.heap.size 24 #[.int .i64 N, .slice a L.length cap] := by rw [hW]; exact (Blk.new _ _ _).alloc _
  have hWs : W.heap.size = w.heap.size + 2 := by rw [hW]; simp
  have hR : Blk W (w.heap.size + 1) 24 #[.int .i64 0, .slice none 0 0] := by
    rw [hW]
    have := Blk.new (w.alloc (Obj.cells #[.int .i64 N, .slice a L.length cap] 24)) 24 #[.int .i64 0, .slice none 0 0]
    rwa [World.size_alloc] at this
  have HR1 := Lib.hid hR
  have HW := Lib.hid hW
  have HWS := Lib.hid hWs
  have HB0 := Lib.hid hB0
  have HE := Lib.hid (h.keep hB0)
  have HF : Hid (∀ u, Below W.heap.size W u → u.cell? ⟨w.heap.size, 0, none⟩ = some (.int .i64 N) ∧ u.cell? ⟨w.heap.size, 1, none⟩ = some (.slice a L.length cap)) := Lib.hid fun u hu => ⟨(hG.below hu hG.lt).cell 0, (hG.below hu hG.lt).cell 1⟩
  obtain ⟨g0, g1⟩ := HF.out W (Below.refl _ _)
  clear hB0 hG hW hWs h hR
  go_enter Try.func62, Try.ntmps62
  go_wp2_with fail
  rw [← HW.out]
  refine (HC.out _ HE.out).mono ?_
  rintro r w1 ⟨a1, c1, rfl, hp, hb⟩
  clear g0 g1
  obtain ⟨b1, o1, hbb, q1, x1, x2⟩ := hp.two e he
  subst hbb
  generalize pAt P e = p at *
  obtain ⟨xa, xb⟩ := p
  simp only at x1 x2 HFN
  have i1 : (e : Int) < (P.length : Int) := by omega
  have i2 : (0 : Int) ≤ (e : Int) := by omega
  obtain ⟨V, hV⟩ : ∃ V, V = w1.alloc (Obj.cells #[.int .i64 xa, .int .i64 xb] 25) := ⟨_, rfl⟩
  have hbV : Below W.heap.size W V := by rw [hV]; exact hb.alloc hb.size _
  have hvb : Blk V w1.heap.size 25 #[.int .i64 xa, .int .i64 xb] := by rw [hV]; exact Blk.new _ _ _
  have z0 : (w1.alloc (Obj.cells #[.int .i64 xa, .int .i64 xb] 25)).cell? ⟨w1.heap.size, 0, none⟩ = some (.int .i64 xa) := by rw [← hV]; exact hvb.cell 0
  have z1 : (w1.alloc (Obj.cells #[.int .i64 xa, .int .i64 xb] 25)).cell? ⟨w1.heap.size, 1, none⟩ = some (.int .i64 xb) := by rw [← hV]; exact hvb.cell 1
  obtain ⟨g0, g1⟩ := HF.out V hbV
  rw [hV] at g0 g1
  have HV := Lib.hid hV
  clear hV hb hp hvb
  by_cases hx : xa = xb
  · subst hx
    have d1 : (xa != xa) = false := by simp
    have hnn : NN = (N : Int) := by rw [HFN.out, if_pos rfl]
    subst hnn
    go_wp2_with fail
    rw [← HV.out]
    have hj0 : Below W.heap.size W V.drew := hbV.drew
    refine wp_region_late (S := fun u => Below W.heap.size W u) (X := [11]) (by kernel_rfl) ?_
    clear hbV g0 g1 z0 z1
    refine wpAnyL_pureD (i := 0) 22 (.int .i64 (N : Int)) rfl rfl (by kernel_rfl) (by kernel_rfl) (by kernel_rfl) (fun _ _ _ h => h) (Or.inl ⟨by rfl, fun u _ => ?_⟩) ?_
    · go_simp
    try simp only [Act.put, List.setIfInBounds_toArray, List.set_cons_zero, List.set_cons_succ]
    refine wpAnyL_takeD (i := 1) 23 (.agg #[.int .i64 N, .slice a L.length cap]) rfl rfl (by kernel_rfl) (by kernel_rfl) (by kernel_rfl) (by kernel_rfl) (by kernel_rfl) (fun _ _ _ h => h) hj0 (Or.inl ⟨by rfl, fun u hu => ?_⟩) ?_
    · obtain ⟨t0, t1⟩ := HF.out u hu
      go_simp
    try simp only [Act.put, List.setIfInBounds_toArray, List.set_cons_zero, List.set_cons_succ]
    refine wpAnyL_pureD (i := 2) 24 (.int .i64 e) rfl rfl (by kernel_rfl) (by kernel_rfl) (by kernel_rfl) (fun _ _ _ h => h) (Or.inl ⟨by rfl, fun u _ => ?_⟩) ?_
    · go_simp
    try simp only [Act.put, List.setIfInBounds_toArray, List.set_cons_zero, List.set_cons_succ]
    refine wpAnyL_takeD (i := 4) 26 (.agg #[.int .i64 N, .slice a L.length cap]) rfl rfl (by kernel_rfl) (by kernel_rfl) (by kernel_rfl) (by kernel_rfl) (by kernel_rfl) (fun _ _ _ h => h) hj0 (Or.inl ⟨by rfl, fun u hu => ?_⟩) ?_
    · obtain ⟨t0, t1⟩ := HF.out u hu
      go_simp
    try simp only [Act.put, List.setIfInBounds_toArray, List.set_cons_zero, List.set_cons_succ]
    refine wpAnyL_pureD (i := 5) 27 (.int .i64 e) rfl rfl (by kernel_rfl) (by kernel_rfl) (by kernel_rfl) (fun _ _ _ h => h) (Or.inl ⟨by rfl, fun u _ => ?_⟩) ?_
    · go_simp
    try simp only [Act.put, List.setIfInBounds_toArray, List.set_cons_zero, List.set_cons_succ]
    refine wpAnyL_one (i := 3) (by kernel_rfl) rfl (fun K hK => ?_)
    go_simp
    go_at_call 87
    refine (HO.out _ (HE.out.keep hj0)).mono ?_
    rintro r x2 ⟨a3, c3, rfl, hps, hb2⟩
    have hj2 := hj0.trans (hb2.mono hj0.size)
    clear hj0 hb2
    show K _ _
    refine hK.out _ _ (fun _ _ => hj2) ?_
    clear hK K
    try simp only [Act.put, List.setIfInBounds_toArray, List.set_cons_zero, List.set_cons_succ]
    refine wpAnyL_one (i := 6) (by kernel_rfl) rfl (fun K hK => ?_)
    go_simp
    go_at_call 63
    refine (HPL.out _ (HE.out.keep hj2)).mono ?_
    rintro r x3 ⟨a4, c4, rfl, hpl, hb3⟩
    have hj3 := hj2.trans (hb3.mono hj2.size)
    have hps3 := hps.keep hb3
    clear hj2 hb3 hps
    show K _ _
    refine hK.out _ _ (fun _ _ => hj3) ?_
    clear hK K
    try simp only [Act.put, List.setIfInBounds_toArray, List.set_cons_zero, List.set_cons_succ]
    refine wpAnyL_one (i := 7) (by kernel_rfl) rfl (fun K hK => ?_)
    go_simp
    go_at_call 66
    refine (HSE.out _ _ _ _ _ hps3 hpl).mono ?_
    rintro r x4 ⟨a5, c5, rfl, hps4, hb4⟩
    have hj4 := hj3.trans (hb4.mono hj3.size)
    clear hj3 hb4 hps3 hpl
    show K _ _
    refine hK.out _ _ (fun _ _ => hj4) ?_
    clear hK K
    try simp only [Act.put, List.setIfInBounds_toArray, List.set_cons_zero, List.set_cons_succ]
    refine wpAnyL_one (i := 8) (by kernel_rfl) rfl (fun K hK => ?_)
    go_simp
    go_at_call 65
    refine (HM.out _ _ _ hps4).mono ?_
    rintro r x5 ⟨a2, c2, rfl, -, he2, hb5⟩
    have hj5 : Below W.heap.size W x5 := hj4.trans (hb5.mono hj4.size)
    have HFR : Hid (∀ p, p < w.heap.size → Away a2 J.length p) := Lib.hid fun p hp => away_own he2 (.inl (by have := hj4.size; have := HWS.out; omega))
    clear hps4 hb5
    have hRr : Blk x5 (w.heap.size + 1) 24 #[.int .i64 0, .slice none 0 0] := HR1.out.below hj5 HR1.out.lt
    obtain ⟨r1, r3, r2, r4, r5, r6, hes, hbf⟩ := tail_facts x5 x4.heap.size (w.heap.size + 1) w.heap.size m J a2 c2 he2 (by have := hj4.size; have := HWS.out; omega) hRr
    have HES := Lib.hid hes
    have HBF := Lib.hid (hbf w (HB0.out.trans (hj5.mono HB0.out.size)) (by omega))
    clear hRr hes hbf
    show K _ _
    refine hK.out _ _ (fun _ _ => hj5) ?_
    clear hK K
    try simp only [Act.put, List.setIfInBounds_toArray, List.set_cons_zero, List.set_cons_succ]
    refine wpAnyL_pureD (i := 9) 31 (.agg #[.int .i64 m, .slice a2 J.length c2]) rfl rfl (by kernel_rfl) (by kernel_rfl) (by kernel_rfl) (fun _ _ _ h => h) (Or.inl ⟨by rfl, fun u _ => ?_⟩) ?_
    · go_simp
    try simp only [Act.put, List.setIfInBounds_toArray, List.set_cons_zero, List.set_cons_succ]
    refine wpAnyL_pureD (i := 10) 32 (.int .i64 (k : Nat)) rfl rfl (by kernel_rfl) (by kernel_rfl) (by kernel_rfl) (fun _ _ _ h => h) (Or.inl ⟨by rfl, fun u _ => ?_⟩) ?_
    · go_simp
    try simp only [Act.put, List.setIfInBounds_toArray, List.set_cons_zero, List.set_cons_succ]
    refine wpAnyL_one (i := 11) (by kernel_rfl) rfl (fun K hK => ?_)
    go_simp
    refine hK.out _ _ (fun h => absurd (by decide) h) ?_
    clear hK K
    try simp only [Act.put, List.setIfInBounds_toArray, List.set_cons_zero, List.set_cons_succ]
    refine wpAnyL_pureD (i := 12) 5 (.int .i64 (k : Nat)) rfl rfl (by kernel_rfl) (by kernel_rfl) (by kernel_rfl) (fun _ _ _ h => h) (Or.inl ⟨by rfl, fun u _ => ?_⟩) ?_
    · go_simp
    try simp only [Act.put, List.setIfInBounds_toArray, List.set_cons_zero, List.set_cons_succ]
    refine wpAnyL_done (by kernel_rfl) ?_ _
    try simp only [Act.put, List.setIfInBounds_toArray, List.set_cons_zero, List.set_cons_succ]
    go_wp2
    refine bodyPost_ret (v := .tuple #[.agg #[.int .i64 m, .slice a2 J.length c2], .int .i64 ((k : Nat) : Int)]) (by simp [results, Try.results62, go_sem, r5, r6]) rfl ?_
    exact ⟨a2, c2, rfl, HES.out, HFR.out, HBF.out⟩
  · have d1 : (xa != xb) = true := by rw [bne_iff_ne]; exact hx
    have hnn : NN = (N : Int) - 1 := by rw [HFN.out, if_neg hx]
    subst hnn
    go_wp2_with fail
    rw [← HV.out]
    have hj0 : Below W.heap.size W V.drew := hbV.drew
    refine wp_region_late (S := fun u => Below W.heap.size W u) (X := [11]) (by kernel_rfl) ?_
    clear hbV g0 g1 z0 z1
    refine wpAnyL_pureD (i := 0) 22 (.int .i64 ((N : Int) - 1)) rfl rfl (by kernel_rfl) (by kernel_rfl) (by kernel_rfl) (fun _ _ _ h => h) (Or.inl ⟨by rfl, fun u _ => ?_⟩) ?_
    · go_simp
    try simp only [Act.put, List.setIfInBounds_toArray, List.set_cons_zero, List.set_cons_succ]
    refine wpAnyL_takeD (i := 1) 23 (.agg #[.int .i64 N, .slice a L.length cap]) rfl rfl (by kernel_rfl) (by kernel_rfl) (by kernel_rfl) (by kernel_rfl) (by kernel_rfl) (fun _ _ _ h => h) hj0 (Or.inl ⟨by rfl, fun u hu => ?_⟩) ?_
    · obtain ⟨t0, t1⟩ := HF.out u hu
      go_simp
    try simp only [Act.put, List.setIfInBounds_toArray, List.set_cons_zero, List.set_cons_succ]
    refine wpAnyL_pureD (i := 2) 24 (.int .i64 e) rfl rfl (by kernel_rfl) (by kernel_rfl) (by kernel_rfl) (fun _ _ _ h => h) (Or.inl ⟨by rfl, fun u _ => ?_⟩) ?_
    · go_simp
    try simp only [Act.put, List.setIfInBounds_toArray, List.set_cons_zero, List.set_cons_succ]
    refine wpAnyL_takeD (i := 4) 26 (.agg #[.int .i64 N, .slice a L.length cap]) rfl rfl (by kernel_rfl) (by kernel_rfl) (by kernel_rfl) (by kernel_rfl) (by kernel_rfl) (fun _ _ _ h => h) hj0 (Or.inl ⟨by rfl, fun u hu => ?_⟩) ?_
    · obtain ⟨t0, t1⟩ := HF.out u hu
      go_simp
    try simp only [Act.put, List.setIfInBounds_toArray, List.set_cons_zero, List.set_cons_succ]
    refine wpAnyL_pureD (i := 5) 27 (.int .i64 e) rfl rfl (by kernel_rfl) (by kernel_rfl) (by kernel_rfl) (fun _ _ _ h => h) (Or.inl ⟨by rfl, fun u _ => ?_⟩) ?_
    · go_simp
    try simp only [Act.put, List.setIfInBounds_toArray, List.set_cons_zero, List.set_cons_succ]
    refine wpAnyL_one (i := 3) (by kernel_rfl) rfl (fun K hK => ?_)
    go_simp
    go_at_call 87
    refine (HO.out _ (HE.out.keep hj0)).mono ?_
    rintro r x2 ⟨a3, c3, rfl, hps, hb2⟩
    have hj2 := hj0.trans (hb2.mono hj0.size)
    clear hj0 hb2
    show K _ _
    refine hK.out _ _ (fun _ _ => hj2) ?_
    clear hK K
    try simp only [Act.put, List.setIfInBounds_toArray, List.set_cons_zero, List.set_cons_succ]
    refine wpAnyL_one (i := 6) (by kernel_rfl) rfl (fun K hK => ?_)
    go_simp
    go_at_call 63
    refine (HPL.out _ (HE.out.keep hj2)).mono ?_
    rintro r x3 ⟨a4, c4, rfl, hpl, hb3⟩
    have hj3 := hj2.trans (hb3.mono hj2.size)
    have hps3 := hps.keep hb3
    clear hj2 hb3 hps
    show K _ _
    refine hK.out _ _ (fun _ _ => hj3) ?_
    clear hK K
    try simp only [Act.put, List.setIfInBounds_toArray, List.set_cons_zero, List.set_cons_succ]
    refine wpAnyL_one (i := 7) (by kernel_rfl) rfl (fun K hK => ?_)
    go_simp
    go_at_call 66
    refine (HSE.out _ _ _ _ _ hps3 hpl).mono ?_
    rintro r x4 ⟨a5, c5, rfl, hps4, hb4⟩
    have hj4 := hj3.trans (hb4.mono hj3.size)
    clear hj3 hb4 hps3 hpl
    show K _ _
    refine hK.out _ _ (fun _ _ => hj4) ?_
    clear hK K
    try simp only [Act.put, List.setIfInBounds_toArray, List.set_cons_zero, List.set_cons_succ]
    refine wpAnyL_one (i := 8) (by kernel_rfl) rfl (fun K hK => ?_)
    go_simp
    go_at_call 65
    refine (HM.out _ _ _ hps4).mono ?_
    rintro r x5 ⟨a2, c2, rfl, -, he2, hb5⟩
    have hj5 : Below W.heap.size W x5 := hj4.trans (hb5.mono hj4.size)
    have HFR : Hid (∀ p, p < w.heap.size → Away a2 J.length p) := Lib.hid fun p hp => away_own he2 (.inl (by have := hj4.size; have := HWS.out; omega))
    clear hps4 hb5
    have hRr : Blk x5 (w.heap.size + 1) 24 #[.int .i64 0, .slice none 0 0] := HR1.out.below hj5 HR1.out.lt
    obtain ⟨r1, r3, r2, r4, r5, r6, hes, hbf⟩ := tail_facts x5 x4.heap.size (w.heap.size + 1) w.heap.size m J a2 c2 he2 (by have := hj4.size; have := HWS.out; omega) hRr
    have HES := Lib.hid hes
    have HBF := Lib.hid (hbf w (HB0.out.trans (hj5.mono HB0.out.size)) (by omega))
    clear hRr hes hbf
    show K _ _
    refine hK.out _ _ (fun _ _ => hj5) ?_
    clear hK K
    try simp only [Act.put, List.setIfInBounds_toArray, List.set_cons_zero, List.set_cons_succ]
    refine wpAnyL_pureD (i := 9) 31 (.agg #[.int .i64 m, .slice a2 J.length c2]) rfl rfl (by kernel_rfl) (by kernel_rfl) (by kernel_rfl) (fun _ _ _ h => h) (Or.inl ⟨by rfl, fun u _ => ?_⟩) ?_
    · go_simp
    try simp only [Act.put, List.setIfInBounds_toArray, List.set_cons_zero, List.set_cons_succ]
    refine wpAnyL_pureD (i := 10) 32 (.int .i64 (k : Nat)) rfl rfl (by kernel_rfl) (by kernel_rfl) (by kernel_rfl) (fun _ _ _ h => h) (Or.inl ⟨by rfl, fun u _ => ?_⟩) ?_
    · go_simp
    try simp only [Act.put, List.setIfInBounds_toArray, List.set_cons_zero, List.set_cons_succ]
    refine wpAnyL_one (i := 11) (by kernel_rfl) rfl (fun K hK => ?_)
    go_simp
    refine hK.out _ _ (fun h => absurd (by decide) h) ?_
    clear hK K
    try simp only [Act.put, List.setIfInBounds_toArray, List.set_cons_zero, List.set_cons_succ]
    refine wpAnyL_pureD (i := 12) 5 (.int .i64 (k : Nat)) rfl rfl (by kernel_rfl) (by kernel_rfl) (by kernel_rfl) (fun _ _ _ h => h) (Or.inl ⟨by rfl, fun u _ => ?_⟩) ?_
    · go_simp
    try simp only [Act.put, List.setIfInBounds_toArray, List.set_cons_zero, List.set_cons_succ]
    refine wpAnyL_done (by kernel_rfl) ?_ _
    try simp only [Act.put, List.setIfInBounds_toArray, List.set_cons_zero, List.set_cons_succ]
    go_wp2
    refine bodyPost_ret (v := .tuple #[.agg #[.int .i64 m, .slice a2 J.length c2], .int .i64 ((k : Nat) : Int)]) (by simp [results, Try.results62, go_sem, r5, r6]) rfl ?_
    exact ⟨a2, c2, rfl, HES.out, HFR.out, HBF.out⟩
set_option maxHeartbeats 12800000 in
set_option maxRecDepth 100000 in
theorem rDelete_err (n : Int) (a : Option Addr) (cap : Nat) (L : List E) (hL : L.length ≤ 100000) (e : Int) (hk : sgE n L e ≠ 0) (w : World) (h : EsAt w a L) :
    Calls Try.prog 14 #[gv n a L.length cap, .int .i64 e] w (GivesGW w 0 [] (sgE n L e)) := by
  have HC := Lib.hid (fun w h => rsingle_any n a cap L hL e w h)
  generalize sgE n L e = k at *
  have q0 : (((k : Nat) : Int) != 0) = true := by rw [bne_iff_ne]; omega
  unfold GivesGW gv at *
  obtain ⟨W, hW⟩ : ∃ W, W = (w.alloc (Obj.cells #[.int .i64 n, .slice a L.length cap] 24)).alloc (Obj.cells #[.int .i64 0, .slice none 0 0] 24) := ⟨_, rfl⟩
  have hB0 : Below w.heap.size w W := by rw [hW]; exact ((Below.refl _ w).alloc (Nat.le_refl _) _).alloc (by simp) _
  have hG : Blk W w.heap.size 24 #[.int .i64 n, .slice a L.length cap] := by rw [hW]; exact (Blk.new _ _ _).alloc _
  have hWs : W.heap.size = w.heap.size + 2 := by rw [hW]; simp
  have hR : Blk W (w.heap.size + 1) 24 #[.int .i64 0, .slice none 0 0] := by
    rw [hW]
    have := Blk.new (w.alloc (Obj.cells #[.int .i64 n, .slice a L.length cap] 24)) 24 #[.int .i64 0, .slice none 0 0]
    rwa [World.size_alloc] at this
  have HR1 := Lib.hid hR
  have HW := Lib.hid hW
  have HWS := Lib.hid hWs
  have HB0 := Lib.hid hB0
  have HE := Lib.hid (h.keep hB0)
  have HF : Hid (∀ u, Below W.heap.size W u → u.cell? ⟨w.heap.size, 0, none⟩ = some (.int .i64 n) ∧ u.cell? ⟨w.heap.size, 1, none⟩ = some (.slice a L.length cap)) := Lib.hid fun u hu => ⟨(hG.below hu hG.lt).cell 0, (hG.below hu hG.lt).cell 1⟩
  obtain ⟨g0, g1⟩ := HF.out W (Below.refl _ _)
  clear hB0 hG hW hWs h hR
  go_enter Try.func14, Try.ntmps14
  go_wp2_with fail
  rw [← HW.out]
  refine (HC.out _ HE.out).mono ?_
  rintro r w1 ⟨rfl, hb⟩
  clear g0 g1
  have hRr : Blk w1 (w.heap.size + 1) 24 #[.int .i64 0, .slice none 0 0] := HR1.out.below hb HR1.out.lt
  have r1 : w1.cell? ⟨w.heap.size + 1, 0, none⟩ = some (.int .i64 0) := hRr.cell 0
  have r3 : w1.frozen? ⟨w.heap.size + 1, 0, none⟩ = false := hRr.frozen 0
  have r2 : w1.cell? ⟨w.heap.size + 1, 1, none⟩ = some (.slice none 0 0) := hRr.cell 1
  have r4 : w1.frozen? ⟨w.heap.size + 1, 1, none⟩ = false := hRr.frozen 1
  have r7 : (w1.setCell ⟨w.heap.size + 1, 0, none⟩ (.int .i64 0)).cell? ⟨w.heap.size + 1, 1, none⟩ = some (.slice none 0 0) := (hRr.set_ 0 (.int .i64 0)).cell 1
  have r8 : (w1.setCell ⟨w.heap.size + 1, 0, none⟩ (.int .i64 0)).frozen? ⟨w.heap.size + 1, 1, none⟩ = false := (hRr.set_ 0 (.int .i64 0)).frozen 1
  have HEND := Lib.hid (HB0.out.trans (hb.mono HB0.out.size))
  have HEND2 := Lib.hid ((HEND.out.setCell (p := ⟨w.heap.size + 1, 0, none⟩) (by show w.heap.size ≤ w.heap.size + 1; omega) (.int .i64 0)).setCell (p := ⟨w.heap.size + 1, 1, none⟩) (by show w.heap.size ≤ w.heap.size + 1; omega) (.slice none 0 0))
  have r5 : ((w1.setCell ⟨w.heap.size + 1, 0, none⟩ (.int .i64 0)).setCell ⟨w.heap.size + 1, 1, none⟩ (.slice none 0 0)).cell? ⟨w.heap.size + 1, 0, none⟩ = some (.int .i64 0) := ((hRr.set_ 0 (.int .i64 0)).set_ 1 (.slice none 0 0)).cell 0
  have r6 : ((w1.setCell ⟨w.heap.size + 1, 0, none⟩ (.int .i64 0)).setCell ⟨w.heap.size + 1, 1, none⟩ (.slice none 0 0)).cell? ⟨w.heap.size + 1, 1, none⟩ = some (.slice none 0 0) := ((hRr.set_ 0 (.int .i64 0)).set_ 1 (.slice none 0 0)).cell 1
  clear hRr hb
  go_wp2
  refine bodyPost_ret (v := .tuple #[.agg #[.int .i64 0, .slice none 0 0], .int .i64 (k : Nat)]) (by simp [results, Try.results14, go_sem, r5, r6]) rfl ?_
  exact ⟨none, 0, rfl, RowAt.nil _ _ _ _, by first | exact HEND2.out | exact HEND.out⟩
set_option maxHeartbeats 12800000 in
set_option maxRecDepth 100000 in
theorem rContract_err (n : Int) (a : Option Addr) (cap : Nat) (L : List E) (hL : L.length ≤ 100000) (e : Int) (hk : sgE n L e ≠ 0) (w : World) (h : EsAt w a L) :
    Calls Try.prog 16 #[gv n a L.length cap, .int .i64 e] w (GivesGW w 0 [] (sgE n L e)) := by
  have HC := Lib.hid (fun w h => rsingle_any n a cap L hL e w h)
  generalize sgE n L e = k at *
  have q0 : (((k : Nat) : Int) != 0) = true := by rw [bne_iff_ne]; omega
  unfold GivesGW gv at *
  obtain ⟨W, hW⟩ : ∃ W, W = (w.alloc (Obj.cells #[.int .i64 n, .slice a L.length cap] 24)).alloc (Obj.cells #[.int .i64 0, .slice none 0 0] 24) := ⟨_, rfl⟩
  have hB0 : Below w.heap.size w W := by rw [hW]; exact ((Below.refl _ w).alloc (Nat.le_refl _) _).alloc (by simp) _
  have hG : Blk W w.heap.size 24 #[.int .i64 n, .slice a L.length cap] := by rw [hW]; exact (Blk.new _ _ _).alloc _
  have hWs : W.heap.size = w.heap.size + 2 := by rw [hW]; simp
  have hR : Blk W (w.heap.size + 1) 24 #[.int .i64 0, .slice none 0 0] := by
    rw [hW]
    have := Blk.new (w.alloc (Obj.cells #[.int .i64 n, .slice a L.length cap] 24)) 24 #[.int .i64 0, .slice none 0 0]
    rwa [World.size_alloc] at this
  have HR1 := Lib.hid hR
  have HW := Lib.hid hW
  have HWS := Lib.hid hWs
  have HB0 := Lib.hid hB0
  have HE := Lib.hid (h.keep hB0)
  have HF : Hid (∀ u, Below W.heap.size W u → u.cell? ⟨w.heap.size, 0, none⟩ = some (.int .i64 n) ∧ u.cell? ⟨w.heap.size, 1, none⟩ = some (.slice a L.length cap)) := Lib.hid fun u hu => ⟨(hG.below hu hG.lt).cell 0, (hG.below hu hG.lt).cell 1⟩
  obtain ⟨g0, g1⟩ := HF.out W (Below.refl _ _)
  clear hB0 hG hW hWs h hR
  go_enter Try.func16, Try.ntmps16
  go_wp2_with fail
  rw [← HW.out]
  refine (HC.out _ HE.out).mono ?_
  rintro r w1 ⟨rfl, hb⟩
  clear g0 g1
  have hRr : Blk w1 (w.heap.size + 1) 24 #[.int .i64 0, .slice none 0 0] := HR1.out.below hb HR1.out.lt
  have r1 : w1.cell? ⟨w.heap.size + 1, 0, none⟩ = some (.int .i64 0) := hRr.cell 0
  have r3 : w1.frozen? ⟨w.heap.size + 1, 0, none⟩ = false := hRr.frozen 0
  have r2 : w1.cell? ⟨w.heap.size + 1, 1, none⟩ = some (.slice none 0 0) := hRr.cell 1
  have r4 : w1.frozen? ⟨w.heap.size + 1, 1, none⟩ = false := hRr.frozen 1
  have r7 : (w1.setCell ⟨w.heap.size + 1, 0, none⟩ (.int .i64 0)).cell? ⟨w.heap.size + 1, 1, none⟩ = some (.slice none 0 0) := (hRr.set_ 0 (.int .i64 0)).cell 1
  have r8 : (w1.setCell ⟨w.heap.size + 1, 0, none⟩ (.int .i64 0)).frozen? ⟨w.heap.size + 1, 1, none⟩ = false := (hRr.set_ 0 (.int .i64 0)).frozen 1
  have HEND := Lib.hid (HB0.out.trans (hb.mono HB0.out.size))
  have HEND2 := Lib.hid ((HEND.out.setCell (p := ⟨w.heap.size + 1, 0, none⟩) (by show w.heap.size ≤ w.heap.size + 1; omega) (.int .i64 0)).setCell (p := ⟨w.heap.size + 1, 1, none⟩) (by show w.heap.size ≤ w.heap.size + 1; omega) (.slice none 0 0))
  have r5 : ((w1.setCell ⟨w.heap.size + 1, 0, none⟩ (.int .i64 0)).setCell ⟨w.heap.size + 1, 1, none⟩ (.slice none 0 0)).cell? ⟨w.heap.size + 1, 0, none⟩ = some (.int .i64 0) := ((hRr.set_ 0 (.int .i64 0)).set_ 1 (.slice none 0 0)).cell 0
  have r6 : ((w1.setCell ⟨w.heap.size + 1, 0, none⟩ (.int .i64 0)).setCell ⟨w.heap.size + 1, 1, none⟩ (.slice none 0 0)).cell? ⟨w.heap.size + 1, 1, none⟩ = some (.slice none 0 0) := ((hRr.set_ 0 (.int .i64 0)).set_ 1 (.slice none 0 0)).cell 1
  clear hRr hb
  go_wp2
  refine bodyPost_ret (v := .tuple #[.agg #[.int .i64 0, .slice none 0 0], .int .i64 (k : Nat)]) (by simp [results, Try.results16, go_sem, r5, r6]) rfl ?_
  exact ⟨none, 0, rfl, RowAt.nil _ _ _ _, by first | exact HEND2.out | exact HEND.out⟩
set_option maxHeartbeats 12800000 in
set_option maxRecDepth 100000 in
theorem rVertices_err (n : Int) (a : Option Addr) (cap : Nat) (L : List E) (hL : L.length ≤ 100000) (e : Int) (hk : sgE n L e ≠ 0) (w : World) (h : EsAt w a L) :
    Calls Try.prog 18 #[gv n a L.length cap, .int .i64 e] w (GivesIK w [] (sgE n L e)) := by
  have HC := Lib.hid (fun w h => rsingle_any n a cap L hL e w h)
  generalize sgE n L e = k at *
  have q0 : (((k : Nat) : Int) != 0) = true := by rw [bne_iff_ne]; omega
  unfold GivesIK gv at *
  obtain ⟨W, hW⟩ : ∃ W, W = w.alloc (Obj.cells #[.int .i64 n, .slice a L.length cap] 24) := ⟨_, rfl⟩
  have hB0 : Below w.heap.size w W := by rw [hW]; exact (Below.refl _ w).alloc (Nat.le_refl _) _
  have hG : Blk W w.heap.size 24 #[.int .i64 n, .slice a L.length cap] := by rw [hW]; exact Blk.new _ _ _
  have hWs : W.heap.size = w.heap.size + 1 := by rw [hW]; simp
  have HW := Lib.hid hW
  have HWS := Lib.hid hWs
  have HB0 := Lib.hid hB0
  have HE := Lib.hid (h.keep hB0)
  have HF : Hid (∀ u, Below W.heap.size W u → u.cell? ⟨w.heap.size, 0, none⟩ = some (.int .i64 n) ∧ u.cell? ⟨w.heap.size, 1, none⟩ = some (.slice a L.length cap)) := Lib.hid fun u hu => ⟨(hG.below hu hG.lt).cell 0, (hG.below hu hG.lt).cell 1⟩
  obtain ⟨g0, g1⟩ := HF.out W (Below.refl _ _)
  clear hB0 hG hW hWs h
  go_enter Try.func18, Try.ntmps18
  go_wp2_with fail
  rw [← HW.out]
  refine (HC.out _ HE.out).mono ?_
  rintro r w1 ⟨rfl, hb⟩
  clear g0 g1
  have HEND := Lib.hid (HB0.out.trans (hb.mono HB0.out.size))
  clear hb
  go_wp2
  go_ret2
  first | exact ⟨none, ⟨0, rfl⟩, RowAt.nil _ _ _ _, HEND.out⟩ | exact ⟨none, 0, rfl, RowAt.nil _ _ _ _, HEND.out⟩
set_option maxHeartbeats 12800000 in
set_option maxRecDepth 100000 in
theorem rDelete_ok (N : Nat) (a : Option Addr) (cap : Nat) (L : List E) (hL : L.length ≤ 100000) (e : Nat) (hk : sgE N L e = 0) (m : Int) (J : List E) (hM : Makes N (dropP (endsG L) e) m J 0) (w : World) (h : EsAt w a L) :
    Calls Try.prog 14 #[gv N a L.length cap, .int .i64 e] w (GivesGW w m J 0) := by
  have HC := Lib.hid (fun w h => rsingle_any N a cap L hL e w h)
  rw [hk] at HC
  obtain ⟨h0, -, he⟩ := sgE_zero hk
  have HL := Lib.hid (fun w h => rless_any N a cap L hL (right_of h0) e (by omega) m J 0 hM w h)
  have hJl := hM.1
  unfold GivesGW gv at *
  unfold GivesG1 at HL
  clear hM hk h0 he
  obtain ⟨W, hW⟩ : ∃ W, W = (w.alloc (Obj.cells #[.int .i64 N, .slice a L.length cap] 24)).alloc (Obj.cells #[.int .i64 0, .slice none 0 0] 24) := ⟨_, rfl⟩
  have hB0 : Below w.heap.size w W := by rw [hW]; exact ((Below.refl _ w).alloc (Nat.le_refl _) _).alloc (by simp) _
  have hG : Blk W w.heap.size 24 #[.int .i64 N, .slice a L.length cap] := by rw [hW]; exact (Blk.new _ _ _).alloc _
  have hWs : W.heap.size = w.heap.size + 2 := by rw [hW]; simp
  have hR : Blk W (w.heap.size + 1) 24 #[.int .i64 0, .slice none 0 0] := by
    rw [hW]
    have := Blk.new (w.alloc (Obj.cells #[.int .i64 N, .slice a L.length cap] 24)) 24 #[.int .i64 0, .slice none 0 0]
    rwa [World.size_alloc] at this
  have HR1 := Lib.hid hR
  have HW := Lib.hid hW
  have HWS := Lib.hid hWs
  have HB0 := Lib.hid hB0
  have HE := Lib.hid (h.keep hB0)
  have HF : Hid (∀ u, Below W.heap.size W u → u.cell? ⟨w.heap.size, 0, none⟩ = some (.int .i64 N) ∧ u.cell? ⟨w.heap.size, 1, none⟩ = some (.slice a L.length cap)) := Lib.hid fun u hu => ⟨(hG.below hu hG.lt).cell 0, (hG.below hu hG.lt).cell 1⟩
  obtain ⟨g0, g1⟩ := HF.out W (Below.refl _ _)
  clear hB0 hG hW hWs h hR
  go_enter Try.func14, Try.ntmps14
  go_wp2_with fail
  rw [← HW.out]
  refine (HC.out _ HE.out).mono ?_
  rintro r w1 ⟨rfl, hb⟩
  clear g0 g1
  obtain ⟨g0, g1⟩ := HF.out w1 hb
  go_wp2_with fail
  refine (HL.out _ (HE.out.keep hb)).mono ?_
  rintro r w2 ⟨a2, c2, rfl, hes, hfr, hb2⟩
  have hk2 : Below W.heap.size W w2 := hb.trans (hb2.mono hb.size)
  have hak : Away a2 J.length (w.heap.size + 1) := hfr _ (by have := hb.size; have := HWS.out; omega)
  clear g0 g1 hb hb2 hfr
  have hRr : Blk w2 (w.heap.size + 1) 24 #[.int .i64 0, .slice none 0 0] := HR1.out.below hk2 HR1.out.lt
  obtain ⟨r1, r3, r2, r4, r5, r6, hes2, hbf2, -⟩ := tail_away w2 (w.heap.size + 1) w.heap.size m J a2 c2 hes hak hRr
  have HES := Lib.hid hes2
  have HBF := Lib.hid (hbf2 w (HB0.out.trans (hk2.mono HB0.out.size)) (by omega))
  clear hRr hes2 hbf2 hes hk2 hak
  go_wp2
  refine bodyPost_ret (v := .tuple #[.agg #[.int .i64 m, .slice a2 J.length c2], .int .i64 0]) (by simp [results, Try.results14, go_sem, r5, r6]) rfl ?_
  exact ⟨a2, c2, rfl, HES.out, HBF.out⟩
set_option maxHeartbeats 12800000 in
set_option maxRecDepth 100000 in
theorem rContract_ok (N : Nat) (a : Option Addr) (cap : Nat) (L : List E) (hL : L.length ≤ 100000) (e : Nat) (hk : sgE N L e = 0) (m : Int) (J : List E) (k : Nat) (hM : Makes (mgF (pAt (endsG L) e) N) (mvP (mgF (pAt (endsG L) e)) (dropP (endsG L) e)) m J k) (w : World) (h : EsAt w a L) :
    Calls Try.prog 16 #[gv N a L.length cap, .int .i64 e] w (GivesGW w m J k) := by
  have HC := Lib.hid (fun w h => rsingle_any N a cap L hL e w h)
  rw [hk] at HC
  obtain ⟨h0, -, he⟩ := sgE_zero hk
  have HL := Lib.hid (fun w h => rshort_any N a cap L hL (right_of h0) e (by omega) m J k hM w h)
  have hJl := hM.1
  unfold GivesGW gv at *
  unfold GivesGF at HL
  clear hM hk h0 he
  obtain ⟨W, hW⟩ : ∃ W, W = (w.alloc (Obj.cells #[.int .i64 N, .slice a L.length cap] 24)).alloc (Obj.cells #[.int .i64 0, .slice none 0 0] 24) := ⟨_, rfl⟩
  have hB0 : Below w.heap.size w W := by rw [hW]; exact ((Below.refl _ w).alloc (Nat.le_refl _) _).alloc (by simp) _
  have hG : Blk W w.heap.size 24 #[.int .i64 N, .slice a L.length cap] := by rw [hW]; exact (Blk.new _ _ _).alloc _
  have hWs : W.heap.size = w.heap.size + 2 := by rw [hW]; simp
  have hR : Blk W (w.heap.size + 1) 24 #[.int .i64 0, .slice none 0 0] := by
    rw [hW]
    have := Blk.new (w.alloc (Obj.cells #[.int .i64 N, .slice a L.length cap] 24)) 24 #[.int .i64 0, .slice none 0 0]
    rwa [World.size_alloc] at this
  have HR1 := Lib.hid hR
  have HW := Lib.hid hW
  have HWS := Lib.hid hWs
  have HB0 := Lib.hid hB0
  have HE := Lib.hid (h.keep hB0)
  have HF : Hid (∀ u, Below W.heap.size W u → u.cell? ⟨w.heap.size, 0, none⟩ = some (.int .i64 N) ∧ u.cell? ⟨w.heap.size, 1, none⟩ = some (.slice a L.length cap)) := Lib.hid fun u hu => ⟨(hG.below hu hG.lt).cell 0, (hG.below hu hG.lt).cell 1⟩
  obtain ⟨g0, g1⟩ := HF.out W (Below.refl _ _)
  clear hB0 hG hW hWs h hR
  go_enter Try.func16, Try.ntmps16
  go_wp2_with fail
  rw [← HW.out]
  refine (HC.out _ HE.out).mono ?_
  rintro r w1 ⟨rfl, hb⟩
  clear g0 g1
  obtain ⟨g0, g1⟩ := HF.out w1 hb
  go_wp2_with fail
  refine (HL.out _ (HE.out.keep hb)).mono ?_
  rintro r w2 ⟨a2, c2, rfl, hes, hfr, hb2⟩
  have hk2 : Below W.heap.size W w2 := hb.trans (hb2.mono hb.size)
  have hak : Away a2 J.length (w.heap.size + 1) := hfr _ (by have := hb.size; have := HWS.out; omega)
  clear g0 g1 hb hb2 hfr
  have hRr : Blk w2 (w.heap.size + 1) 24 #[.int .i64 0, .slice none 0 0] := HR1.out.below hk2 HR1.out.lt
  obtain ⟨r1, r3, r2, r4, r5, r6, hes2, hbf2, -⟩ := tail_away w2 (w.heap.size + 1) w.heap.size m J a2 c2 hes hak hRr
  have HES := Lib.hid hes2
  have HBF := Lib.hid (hbf2 w (HB0.out.trans (hk2.mono HB0.out.size)) (by omega))
  clear hRr hes2 hbf2 hes hk2 hak
  go_wp2
  refine bodyPost_ret (v := .tuple #[.agg #[.int .i64 m, .slice a2 J.length c2], .int .i64 (k : Nat)]) (by simp [results, Try.results16, go_sem, r5, r6]) rfl ?_
  exact ⟨a2, c2, rfl, HES.out, HBF.out⟩
set_option maxHeartbeats 12800000 in
set_option maxRecDepth 100000 in
theorem rVertices_ok (N : Nat) (a : Option Addr) (cap : Nat) (L : List E) (hL : L.length ≤ 100000) (e : Nat) (hk : sgE N L e = 0) (w : World) (h : EsAt w a L) :
    Calls Try.prog 18 #[gv N a L.length cap, .int .i64 e] w (GivesIK w (plL N (mgF (pAt (endsG L) e))) 0) := by
  have HC := Lib.hid (fun w h => rsingle_any N a cap L hL e w h)
  rw [hk] at HC
  obtain ⟨h0, -, he⟩ := sgE_zero hk
  have HL := Lib.hid (fun w h => rplaces_any N a cap L hL (right_of h0) e (by omega) w h)
  generalize plL N (mgF (pAt (endsG L) e)) = R at *
  unfold GivesIK gv at *
  unfold GivesI at HL
  clear hk h0 he
  obtain ⟨W, hW⟩ : ∃ W, W = w.alloc (Obj.cells #[.int .i64 N, .slice a L.length cap] 24) := ⟨_, rfl⟩
  have hB0 : Below w.heap.size w W := by rw [hW]; exact (Below.refl _ w).alloc (Nat.le_refl _) _
  have hG : Blk W w.heap.size 24 #[.int .i64 N, .slice a L.length cap] := by rw [hW]; exact Blk.new _ _ _
  have hWs : W.heap.size = w.heap.size + 1 := by rw [hW]; simp
  have HW := Lib.hid hW
  have HWS := Lib.hid hWs
  have HB0 := Lib.hid hB0
  have HE := Lib.hid (h.keep hB0)
  have HF : Hid (∀ u, Below W.heap.size W u → u.cell? ⟨w.heap.size, 0, none⟩ = some (.int .i64 N) ∧ u.cell? ⟨w.heap.size, 1, none⟩ = some (.slice a L.length cap)) := Lib.hid fun u hu => ⟨(hG.below hu hG.lt).cell 0, (hG.below hu hG.lt).cell 1⟩
  obtain ⟨g0, g1⟩ := HF.out W (Below.refl _ _)
  clear hB0 hG hW hWs h
  go_enter Try.func18, Try.ntmps18
  go_wp2_with fail
  rw [← HW.out]
  refine (HC.out _ HE.out).mono ?_
  rintro r w1 ⟨rfl, hb⟩
  clear g0 g1
  obtain ⟨g0, g1⟩ := HF.out w1 hb
  go_wp2_with fail
  refine (HL.out _ (HE.out.keep hb)).mono ?_
  rintro r w2 ⟨a2, c2, rfl, hr, hb2⟩
  have hk2 : Below W.heap.size W w2 := hb.trans (hb2.mono hb.size)
  have HRR := Lib.hid hr
  have HEND := Lib.hid (HB0.out.trans (hk2.mono HB0.out.size))
  clear g0 g1 hb hb2 hr hk2
  go_wp2
  go_ret2
  first | exact ⟨a2, ⟨c2, rfl⟩, HRR.out, HEND.out⟩ | exact ⟨a2, c2, rfl, HRR.out, HEND.out⟩
end Go.Proofs.Ytndjjafpdiehdaa
