/- Change, Apply, Fire, Borrow, FireSet of the reference. -/
import Derived.Test.YtgejkgeojjgclaaFt
namespace Go.Proofs.Ytgejkgeojjgclaa
open Go.RowKit Go.Proofs.Gr Go.Proofs.Cp
attribute [local go_sem] Oper.semAt_some

theorem rMoved_gd (n : Int) (a : Option Addr) (cap : Nat) (L : List E) (hL : L.length ≤ 100000) (hR : Right n L) (b : Option Addr) (c : Nat) (D : List Int) (hD : Div D) (hDN : (D.length : Int) = n) (sa : Option Addr) (sc : Nat) (S : List Int) (hS : ∀ z ∈ S, -1048576 ≤ z ∧ z ≤ 1048576) (hSN : S.length = D.length) (w : World) (h : EsAt w a L) (ho : IsAt w b D) (hs : IsAt w sa S) :
    Calls Try.prog 52 #[gv n a L.length cap, .slice b D.length c, .slice sa S.length sc] w (fun e w' => ∃ p q, e = .returned (.slice p D.length q) ∧ IsAt w' p (chD D S L) ∧ Below w.heap.size w w') := by
  obtain rfl : n = (D.length : Int) := hDN.symm
  have := rMoved_any D.length a cap L hL hR b c D hD rfl sa sc S hSN (fS_sb hS) w h ho hs
  rw [hSN]
  exact this
theorem rright_ch (D S : List Int) (L : List E) (hD : D.length ≤ 1000) (p : Option Addr) (q : Nat) (w : World) (h : IsAt w p (chD D S L)) :
    Calls Try.prog 51 #[.slice p D.length q] w (GivesIE w (chV D S L) (chK D S L)) := by
  have := rright_any p q (chD D S L) (by rw [chD_len]; exact hD) w h
  rw [chD_len] at this
  exact this
set_option maxHeartbeats 12800000 in
set_option maxRecDepth 100000 in
theorem rChange_any (n : Int) (a : Option Addr) (cap : Nat) (L : List E) (hL : L.length ≤ 100000) (b : Option Addr) (c : Nat) (D : List Int) (hD : D.length ≤ 1000) (w : World) (h : EsAt w a L) (ho : IsAt w b D) :
    Calls Try.prog 15 #[gv n a L.length cap, .slice b D.length c] w (GivesIE w (resV (chkGD n L D) (zeroL n) D L) (resK (chkGD n L D) (zeroL n) D L)) := by
  have HC := Lib.hid (fun w h ho => rckS_any n a cap L hL b c D hD w h ho)
  have HX1 : Hid (chkGD n L D ≠ 0 → resK (chkGD n L D) (zeroL n) D L = chkGD n L D ∧ resV (chkGD n L D) (zeroL n) D L = []) := Lib.hid fun h => res_err _ _ _ h
  have HX2 : Hid (chkGD n L D = 0 → resK (chkGD n L D) (zeroL n) D L = chK (zeroL n) D L ∧ resV (chkGD n L D) (zeroL n) D L = chV (zeroL n) D L) := Lib.hid fun h => res_ok _ _ _ h
  have HNN : Hid (chkGD n L D = 0 → 1 ≤ n ∧ n ≤ 12) := Lib.hid fun h => ⟨(chkGD_zero h).1.lo, (chkGD_zero h).1.hi⟩
  have HCH : Hid (chkGD n L D = 0 → ∀ p q u, EsAt u a L → IsAt u p (zeroL n) → IsAt u b D → Calls Try.prog 52 #[gv n a L.length cap, .slice p n.toNat q, .slice b D.length c] u (fun e w' => ∃ p q, e = .returned (.slice p n.toNat q) ∧ IsAt w' p (chD (zeroL n) D L) ∧ Below u.heap.size u w')) := Lib.hid fun hz p q u h1 h2 h3 => by
    obtain ⟨hR, hd, hl⟩ := chkGD_zero hz
    obtain ⟨z1, z2⟩ := zero_div hR
    have := rMoved_gd n a cap L hL hR p q (zeroL n) z1 z2 b c D hd.rng (by omega) u h1 h2 h3
    rw [show (zeroL n).length = n.toNat by simp [zeroL]] at this
    exact this
  have HRT : Hid (chkGD n L D = 0 → ∀ p q u, IsAt u p (chD (zeroL n) D L) → Calls Try.prog 51 #[.slice p n.toNat q] u (GivesIE u (chV (zeroL n) D L) (chK (zeroL n) D L))) := Lib.hid fun hz p q u h1 => by
    have hl : (zeroL n).length = n.toNat := by simp [zeroL]
    obtain ⟨hR, -, -⟩ := chkGD_zero hz
    have h12 := hR.hi
    have := rright_ch (zeroL n) D L (by omega) p q u h1
    rwa [hl] at this
  unfold GivesN GivesIE gv at *
  generalize resK (chkGD n L D) (zeroL n) D L = RK at *
  generalize resV (chkGD n L D) (zeroL n) D L = RV at *
  generalize chkGD n L D = k at *
  generalize chV (zeroL n) D L = X at *
  generalize chK (zeroL n) D L = K at *
  generalize chD (zeroL n) D L = M at *
  obtain ⟨W, hW⟩ : ∃ W, W = w.alloc (Obj.cells #[.int .i64 n, .slice a L.length cap] 24) := ⟨_, rfl⟩
  have hB0 : Below w.heap.size w W := by rw [hW]; exact (Below.refl _ w).alloc (Nat.le_refl _) _
  have hG : Blk W w.heap.size 24 #[.int .i64 n, .slice a L.length cap] := by rw [hW]; exact Blk.new _ _ _
  have hWs : W.heap.size = w.heap.size + 1 := by rw [hW]; simp
  have HW := Lib.hid hW
  have HWS := Lib.hid hWs
  have HB0 := Lib.hid hB0
  have HE1 := Lib.hid (h.keep hB0)
  have HF : Hid (∀ u, Below W.heap.size W u → u.cell? ⟨w.heap.size, 0, none⟩ = some (.int .i64 n) ∧ u.cell? ⟨w.heap.size, 1, none⟩ = some (.slice a L.length cap)) := Lib.hid fun u hu => ⟨(hG.below hu hG.lt).cell 0, (hG.below hu hG.lt).cell 1⟩
  obtain ⟨g0, g1⟩ := HF.out W (Below.refl _ _)
  have HHO := Lib.hid (ho.keep hB0)
  clear ho hB0 hG hW hWs h
  go_enter Try.func15, Try.ntmps15
  go_wp2_with fail
  rw [← HW.out]
  refine (HC.out _ HE1.out HHO.out).mono ?_
  rintro e w1 ⟨rfl, hb⟩
  have HB1 := Lib.hid hb
  clear g0 g1
  obtain ⟨g0, g1⟩ := HF.out w1 hb
  clear hb
  by_cases hk : k ≠ 0
  · have q0 : (((k : Nat) : Int) != 0) = true := by rw [bne_iff_ne]; omega
    have HR := Lib.hid (HX1.out hk)
    have HBE := Lib.hid (HB0.out.trans (HB1.out.mono HB0.out.size))
    clear hk
    go_wp2
    go_ret2
    exact ⟨none, 0, by rw [HR.out.1, HR.out.2]; rfl, by rw [HR.out.2]; exact RowAt.nil _ _ _ _, HBE.out⟩
  obtain rfl : k = 0 := by omega
  have HR := Lib.hid (HX2.out rfl)
  have HCH1 := Lib.hid (HCH.out rfl)
  have HRT1 := Lib.hid (HRT.out rfl)
  have hn := HNN.out rfl
  clear hk HC HX1 HX2 HCH HNN HRT
  obtain ⟨N, rfl⟩ : ∃ N : Nat, n = N := ⟨n.toNat, by omega⟩
  rw [Int.toNat_natCast] at HCH1 HRT1
  have hzr : zeroL (N : Int) = List.replicate N 0 := by unfold zeroL; rw [Int.toNat_natCast]
  rw [hzr] at HCH1
  clear hzr g0 g1
  go_wp2
  have hj0 : Below w1.heap.size w1 w1.drew := (Below.refl _ _).drew
  have HF9 : Hid (∀ u, Below w1.heap.size w1 u → u.cell? ⟨w.heap.size, 0, none⟩ = some (.int .i64 (N : Int)) ∧ u.cell? ⟨w.heap.size, 1, none⟩ = some (.slice a L.length cap)) := Lib.hid fun u hu => HF.out u (HB1.out.trans (hu.mono HB1.out.size))
  refine wp_region_late (S := fun u => Below w1.heap.size w1 u) (X := []) (by kernel_rfl) ?_
  refine wpAnyL_takeD (i := 0) 13 (.agg #[.int .i64 (N : Int), .slice a L.length cap]) rfl rfl (by kernel_rfl) (by kernel_rfl) (by kernel_rfl) (by kernel_rfl) (by kernel_rfl) (fun _ _ _ h => h) hj0 (Or.inl ⟨by rfl, fun u hu => ?_⟩) ?_
  · obtain ⟨t0, t1⟩ := HF9.out u hu
    go_simp
  try simp only [Act.put, List.setIfInBounds_toArray, List.set_cons_zero, List.set_cons_succ]
  refine wpAnyL_pureD (i := 1) 14 (.pointer (some ⟨w.heap.size, 0, none⟩)) rfl rfl (by kernel_rfl) (by kernel_rfl) (by kernel_rfl) (fun _ _ _ h => h) (Or.inl ⟨by rfl, fun u _ => ?_⟩) ?_
  · go_simp
  try simp only [Act.put, List.setIfInBounds_toArray, List.set_cons_zero, List.set_cons_succ]
  refine wpAnyL_takeD (i := 2) 15 (.int .i64 (N : Int)) rfl rfl (by kernel_rfl) (by kernel_rfl) (by kernel_rfl) (by kernel_rfl) (by kernel_rfl) (fun _ _ _ h => h) hj0 (Or.inl ⟨by rfl, fun u hu => ?_⟩) ?_
  · obtain ⟨t0, t1⟩ := HF9.out u hu
    go_simp
  try simp only [Act.put, List.setIfInBounds_toArray, List.set_cons_zero, List.set_cons_succ]
  refine wpAnyL_pureD (i := 4) 17 (.slice b D.length c) rfl rfl (by kernel_rfl) (by kernel_rfl) (by kernel_rfl) (fun _ _ _ h => h) (Or.inl ⟨by rfl, fun u _ => ?_⟩) ?_
  · go_simp
  try simp only [Act.put, List.setIfInBounds_toArray, List.set_cons_zero, List.set_cons_succ]
  refine wpAnyL_one (i := 3) (by kernel_rfl) rfl (fun K9 hK => ?_)
  have hmk := make_divs N (by omega) w1.drew
  go_simp
  clear hmk
  obtain ⟨g, hg⟩ : ∃ g, g = w1.heap.size := ⟨_, rfl⟩
  obtain ⟨u1, hu1⟩ : ∃ u, u = (w1.alloc (.cells (flat encI (List.replicate N 0)).toArray 3)).drew := ⟨_, rfl⟩
  have hj1 : Below w1.heap.size w1 u1 := by rw [hu1]; exact ((Below.refl _ w1).alloc (Nat.le_refl _) _).drew
  have hrz : RowB encI 3 u1 g (List.replicate N 0) := by rw [hu1, hg]; exact RowB.new _ _ _ _
  rw [← hu1, ← hg]
  refine hK.out _ _ (fun _ _ => hj1) ?_
  clear hK K9 hu1 hg
  try simp only [Act.put, List.setIfInBounds_toArray, List.set_cons_zero, List.set_cons_succ]
  refine wpAnyL_one (i := 5) (by kernel_rfl) rfl (fun K hK => ?_)
  go_simp
  go_at_call 52
  refine (HCH1.out (some ⟨g, 0, none⟩) N u1 (HE1.out.keep (HB1.out.trans (hj1.mono HB1.out.size))) (hrz.row encI_len) (HHO.out.keep (HB1.out.trans (hj1.mono HB1.out.size)))).mono ?_
  rintro e y1 ⟨p8, q8, rfl, hr8, hb8⟩
  have hj2 := hj1.trans (hb8.mono hj1.size)
  show K _ _
  refine hK.out _ _ (fun _ _ => hj2) ?_
  clear hK K
  try simp only [Act.put, List.setIfInBounds_toArray, List.set_cons_zero, List.set_cons_succ]
  refine wpAnyL_one (i := 6) (by kernel_rfl) rfl (fun K hK => ?_)
  go_simp
  go_at_call 51
  refine (HRT1.out p8 q8 y1 hr8).mono ?_
  rintro e y2 ⟨p9, q9, rfl, hr9, hb9⟩
  have hj3 := hj2.trans (hb9.mono hj2.size)
  show K _ _
  refine hK.out _ _ (fun _ _ => hj3) ?_
  clear hK K
  try simp only [Act.put, List.setIfInBounds_toArray, List.set_cons_zero, List.set_cons_succ]
  refine wpAnyL_pureD (i := 7) 20 (.slice p9 X.length q9) rfl rfl (by kernel_rfl) (by kernel_rfl) (by kernel_rfl) (fun _ _ _ h => h) (Or.inl ⟨by rfl, fun u _ => ?_⟩) ?_
  · go_simp
  try simp only [Act.put, List.setIfInBounds_toArray, List.set_cons_zero, List.set_cons_succ]
  refine wpAnyL_pureD (i := 8) 21 (.int .i64 (K : Nat)) rfl rfl (by kernel_rfl) (by kernel_rfl) (by kernel_rfl) (fun _ _ _ h => h) (Or.inl ⟨by rfl, fun u _ => ?_⟩) ?_
  · go_simp
  try simp only [Act.put, List.setIfInBounds_toArray, List.set_cons_zero, List.set_cons_succ]
  refine wpAnyL_pureD (i := 9) 4 (.slice p9 X.length q9) rfl rfl (by kernel_rfl) (by kernel_rfl) (by kernel_rfl) (fun _ _ _ h => h) (Or.inl ⟨by rfl, fun u _ => ?_⟩) ?_
  · go_simp
  try simp only [Act.put, List.setIfInBounds_toArray, List.set_cons_zero, List.set_cons_succ]
  refine wpAnyL_pureD (i := 10) 5 (.int .i64 (K : Nat)) rfl rfl (by kernel_rfl) (by kernel_rfl) (by kernel_rfl) (fun _ _ _ h => h) (Or.inl ⟨by rfl, fun u _ => ?_⟩) ?_
  · go_simp
  try simp only [Act.put, List.setIfInBounds_toArray, List.set_cons_zero, List.set_cons_succ]
  refine wpAnyL_done (by kernel_rfl) ?_ _
  try simp only [Act.put, List.setIfInBounds_toArray, List.set_cons_zero, List.set_cons_succ]
  have HBE := Lib.hid (HB0.out.trans ((HB1.out.trans (hj3.mono HB1.out.size)).mono HB0.out.size))
  have HR9 := Lib.hid hr9
  clear hj0 hj1 hj2 hj3 hb8 hr8 hb9 hr9 hrz
  go_wp2
  go_ret2
  exact ⟨p9, q9, by rw [HR.out.1, HR.out.2]; rfl, by rw [HR.out.2]; exact HR9.out, HBE.out⟩
set_option maxHeartbeats 12800000 in
set_option maxRecDepth 100000 in
theorem rApply_any (n : Int) (a : Option Addr) (cap : Nat) (L : List E) (hL : L.length ≤ 100000) (b : Option Addr) (c : Nat) (D : List Int) (hD : D.length ≤ 1000) (sa : Option Addr) (sc : Nat) (S : List Int) (hS : S.length ≤ 1000) (w : World) (h : EsAt w a L) (ho : IsAt w b D) (hs : IsAt w sa S) :
    Calls Try.prog 21 #[gv n a L.length cap, .slice b D.length c, .slice sa S.length sc] w (GivesIE w (resV (appK n L D S) D S L) (resK (appK n L D S) D S L)) := by
  have HC := Lib.hid (fun w h ho => rGiven_any n a cap L hL b c D hD w h ho)
  have HC2 := Lib.hid (fun w h ho => rckS_any n a cap L hL sa sc S hS w h ho)
  have HAK : Hid (appK n L D S = if chkGD n L D ≠ 0 then chkGD n L D else chkGD n L S) := Lib.hid rfl
  have HX1 : Hid (appK n L D S ≠ 0 → resK (appK n L D S) D S L = appK n L D S ∧ resV (appK n L D S) D S L = []) := Lib.hid fun h => res_err _ _ _ h
  have HX2 : Hid (appK n L D S = 0 → resK (appK n L D S) D S L = chK D S L ∧ resV (appK n L D S) D S L = chV D S L) := Lib.hid fun h => res_ok _ _ _ h
  have HCH : Hid (chkGD n L D = 0 → chkGD n L S = 0 → ∀ u, EsAt u a L → IsAt u b D → IsAt u sa S → Calls Try.prog 52 #[gv n a L.length cap, .slice b D.length c, .slice sa S.length sc] u (fun e w' => ∃ p q, e = .returned (.slice p D.length q) ∧ IsAt w' p (chD D S L) ∧ Below u.heap.size u w')) := Lib.hid fun hz hy u h1 h2 h3 => by
    obtain ⟨hR, hd, hl⟩ := chkGD_zero hz
    obtain ⟨-, hd2, hl2⟩ := chkGD_zero hy
    exact rMoved_gd n a cap L hL hR b c D hd hl sa sc S hd2.rng (by omega) u h1 h2 h3
  have HRT := Lib.hid (fun p q u h => rright_ch D S L hD p q u h)
  unfold GivesN GivesIE gv at *
  generalize resK (appK n L D S) D S L = RK at *
  generalize resV (appK n L D S) D S L = RV at *
  generalize appK n L D S = ak at *
  generalize chkGD n L D = k at *
  generalize chkGD n L S = k2 at *
  generalize chV D S L = X at *
  generalize chK D S L = K at *
  generalize chD D S L = M at *
  obtain ⟨W, hW⟩ : ∃ W, W = w.alloc (Obj.cells #[.int .i64 n, .slice a L.length cap] 24) := ⟨_, rfl⟩
  have hB0 : Below w.heap.size w W := by rw [hW]; exact (Below.refl _ w).alloc (Nat.le_refl _) _
  have hG : Blk W w.heap.size 24 #[.int .i64 n, .slice a L.length cap] := by rw [hW]; exact Blk.new _ _ _
  have hWs : W.heap.size = w.heap.size + 1 := by rw [hW]; simp
  have HW := Lib.hid hW
  have HWS := Lib.hid hWs
  have HB0 := Lib.hid hB0
  have HE1 := Lib.hid (h.keep hB0)
  have HF : Hid (∀ u, Below W.heap.size W u → u.cell? ⟨w.heap.size, 0, none⟩ = some (.int .i64 n) ∧ u.cell? ⟨w.heap.size, 1, none⟩ = some (.slice a L.length cap)) := Lib.hid fun u hu => ⟨(hG.below hu hG.lt).cell 0, (hG.below hu hG.lt).cell 1⟩
  obtain ⟨g0, g1⟩ := HF.out W (Below.refl _ _)
  have HHO := Lib.hid (ho.keep hB0)
  have HHS := Lib.hid (hs.keep hB0)
  clear ho hs hB0 hG hW hWs h
  go_enter Try.func21, Try.ntmps21
  go_wp2_with fail
  rw [← HW.out]
  refine (HC.out _ HE1.out HHO.out).mono ?_
  rintro e w1 ⟨rfl, hb⟩
  have HB1 := Lib.hid hb
  clear g0 g1
  obtain ⟨g0, g1⟩ := HF.out w1 hb
  clear hb
  by_cases hk : k ≠ 0
  · have q0 : (((k : Nat) : Int) != 0) = true := by rw [bne_iff_ne]; omega
    have ha : ak = k := by rw [HAK.out, if_pos hk]
    rw [ha] at HX1
    have HR := Lib.hid (HX1.out hk)
    have HBE := Lib.hid (HB0.out.trans (HB1.out.mono HB0.out.size))
    clear hk ha
    go_wp2
    go_ret2
    exact ⟨none, 0, by rw [HR.out.1, HR.out.2]; rfl, by rw [HR.out.2]; exact RowAt.nil _ _ _ _, HBE.out⟩
  obtain rfl : k = 0 := by omega
  have ha : ak = k2 := by rw [HAK.out, if_neg hk]
  subst ha
  clear hk HC
  go_wp2_with fail
  refine (HC2.out _ (HE1.out.keep HB1.out) (HHS.out.keep HB1.out)).mono ?_
  rintro e w2 ⟨rfl, hb⟩
  have HB2 := Lib.hid (HB1.out.trans (hb.mono HB1.out.size))
  clear g0 g1 hb
  obtain ⟨g0, g1⟩ := HF.out w2 HB2.out
  by_cases hk : ak ≠ 0
  · have q0 : (((ak : Nat) : Int) != 0) = true := by rw [bne_iff_ne]; omega
    have HR := Lib.hid (HX1.out hk)
    have HBE := Lib.hid (HB0.out.trans (HB2.out.mono HB0.out.size))
    clear hk
    go_wp2
    go_ret2
    exact ⟨none, 0, by rw [HR.out.1, HR.out.2]; rfl, by rw [HR.out.2]; exact RowAt.nil _ _ _ _, HBE.out⟩
  obtain rfl : ak = 0 := by omega
  have HR := Lib.hid (HX2.out rfl)
  have HCH1 := Lib.hid (HCH.out (by first | exact rfl | trivial) (by first | exact rfl | trivial))
  clear hk HX1 HX2 HCH HC2
  go_wp2_with fail
  refine (HCH1.out w2 (HE1.out.keep HB2.out) (HHO.out.keep HB2.out) (HHS.out.keep HB2.out)).mono ?_
  rintro e w3 ⟨p8, q8, rfl, hr8, hb8⟩
  have HR8 := Lib.hid hr8
  have HJ2 := Lib.hid hb8
  clear hr8 hb8
  go_wp2_with fail
  refine (HRT.out p8 q8 w3 HR8.out).mono ?_
  rintro e w4 ⟨p9, q9, rfl, hr9, hb9⟩
  have hj3 := HJ2.out.trans (hb9.mono HJ2.out.size)
  clear hb9
  have HBE := Lib.hid (HB0.out.trans ((HB2.out.trans (hj3.mono HB2.out.size)).mono HB0.out.size))
  have HR9 := Lib.hid hr9
  clear hj3 hr9
  go_wp2
  go_ret2
  exact ⟨p9, q9, by rw [HR.out.1, HR.out.2]; rfl, by rw [HR.out.2]; exact HR9.out, HBE.out⟩
theorem setK_g {n : Int} {L : List E} {D : List Int} (h : chkGD n L D = 0) (A : List Int) : setK n L D A = subE n A := by
  have h1 : chkG n L = 0 := by
    unfold chkGD at h
    by_cases h2 : chkG n L ≠ 0
    · rw [if_pos h2] at h; exact h
    · omega
  unfold setK chkS
  rw [if_neg (by omega), if_neg (by omega)]
theorem subE_one (n v : Int) : subE n [v] = if isV n v = true then 0 else 2 := by
  unfold subE
  show firstE (sErr n [v]) 1 = _
  rw [firstE, firstE, if_neg (by omega)]
  unfold sErr
  show (if isV n v = false then 2 else _) = _
  cases isV n v with
  | true => rw [if_neg (by decide), if_neg (by omega), if_pos rfl]
  | false => rfl
theorem setS_rng (n t : Int) (A : List Int) (ht : -1 ≤ t ∧ t ≤ 1) : ∀ z ∈ setS n t A, -1048576 ≤ z ∧ z ≤ 1048576 := fun z hz => by
  have := setL_rng n.toNat t A ht A.length z hz; omega
theorem setS_len (n t : Int) (A : List Int) : (setS n t A).length = n.toNat := setL_len _ _ _ _
set_option maxHeartbeats 12800000 in
set_option maxRecDepth 100000 in
theorem rFireSet_any (n : Int) (a : Option Addr) (cap : Nat) (L : List E) (hL : L.length ≤ 100000) (b : Option Addr) (c : Nat) (D : List Int) (hD : D.length ≤ 1000) (sa : Option Addr) (sc : Nat) (A : List Int) (hA : A.length ≤ 100000) (w : World) (h : EsAt w a L) (ho : IsAt w b D) (hs : IsAt w sa A) :
    Calls Try.prog 27 #[gv n a L.length cap, .slice b D.length c, .slice sa A.length sc] w (GivesIE w (resV (setK n L D A) D (setS n (1) A) L) (resK (setK n L D A) D (setS n (1) A) L)) := by
  have HC := Lib.hid (fun w h ho => rGiven_any n a cap L hL b c D hD w h ho)
  have HC2 := Lib.hid (fun w h ho => rsubset_any n a cap L sa sc A hA w h ho)
  have HAK : Hid (setK n L D A = if chkGD n L D ≠ 0 then chkGD n L D else subE n A) := Lib.hid (by
    by_cases h : chkGD n L D ≠ 0
    · rw [if_pos h]; unfold setK; rw [if_pos h]
    · rw [if_neg h]; exact setK_g (by omega) A)
  have HX1 : Hid (setK n L D A ≠ 0 → resK (setK n L D A) D (setS n (1) A) L = setK n L D A ∧ resV (setK n L D A) D (setS n (1) A) L = []) := Lib.hid fun h => res_err _ _ _ h
  have HX2 : Hid (setK n L D A = 0 → resK (setK n L D A) D (setS n (1) A) L = chK D (setS n (1) A) L ∧ resV (setK n L D A) D (setS n (1) A) L = chV D (setS n (1) A) L) := Lib.hid fun h => res_ok _ _ _ h
  have HNN : Hid (setK n L D A = 0 → (1 ≤ n ∧ n ≤ 12) ∧ ∀ i, i < (A : List Int).length → 0 ≤ iAt A i ∧ iAt A i < n) := Lib.hid fun h => ⟨⟨(chkGD_zero (setK_zero h).1).1.lo, (chkGD_zero (setK_zero h).1).1.hi⟩, (setK_zero h).2⟩
  have HCH : Hid (setK n L D A = 0 → ∀ p q u, EsAt u a L → IsAt u b D → IsAt u p (setS n (1) A) → Calls Try.prog 52 #[gv n a L.length cap, .slice b D.length c, .slice p n.toNat q] u (fun e w' => ∃ p q, e = .returned (.slice p D.length q) ∧ IsAt w' p (chD D (setS n (1) A) L) ∧ Below u.heap.size u w')) := Lib.hid fun hz p q u h1 h2 h3 => by
    obtain ⟨hR, hd, hl⟩ := chkGD_zero (setK_zero hz).1
    have hln := setS_len n (1) A
    have := rMoved_gd n a cap L hL hR b c D hd hl p q (setS n (1) A) (setS_rng n (1) A (by omega)) (by omega) u h1 h2 h3
    rwa [hln] at this
  have HRT := Lib.hid (fun p q u h => rright_ch D (setS n (1) A) L hD p q u h)
  have HOF : Hid ((1 ≤ n ∧ n ≤ 12) → (∀ i, i < A.length → 0 ≤ iAt A i ∧ iAt A i < n) → ∀ u, IsAt u sa A → Calls Try.prog 61 #[gv n a L.length cap, .slice sa A.length sc] u (fun e w' => ∃ p q, e = .returned (.slice p n.toNat q) ∧ IsAt w' p (setS n 1 A) ∧ Below u.heap.size u w')) := Lib.hid fun hn hr u h => by
    obtain ⟨N, rfl⟩ : ∃ N : Nat, n = N := ⟨n.toNat, by omega⟩
    exact rOf_any N a L.length cap (by omega) sa sc A hA hr u h
  unfold GivesN GivesIE gv at *
  generalize resK (setK n L D A) D (setS n (1) A) L = RK at *
  generalize resV (setK n L D A) D (setS n (1) A) L = RV at *
  generalize setK n L D A = ak at *
  generalize chkGD n L D = k at *
  generalize chV D (setS n (1) A) L = X at *
  generalize chK D (setS n (1) A) L = K at *
  generalize chD D (setS n (1) A) L = M at *
  generalize setS n (1) A = SS at *
  generalize subE n A = k2 at *
  obtain ⟨W, hW⟩ : ∃ W, W = w.alloc (Obj.cells #[.int .i64 n, .slice a L.length cap] 24) := ⟨_, rfl⟩
  have hB0 : Below w.heap.size w W := by rw [hW]; exact (Below.refl _ w).alloc (Nat.le_refl _) _
  have hG : Blk W w.heap.size 24 #[.int .i64 n, .slice a L.length cap] := by rw [hW]; exact Blk.new _ _ _
  have hWs : W.heap.size = w.heap.size + 1 := by rw [hW]; simp
  have HW := Lib.hid hW
  have HWS := Lib.hid hWs
  have HB0 := Lib.hid hB0
  have HE1 := Lib.hid (h.keep hB0)
  have HF : Hid (∀ u, Below W.heap.size W u → u.cell? ⟨w.heap.size, 0, none⟩ = some (.int .i64 n) ∧ u.cell? ⟨w.heap.size, 1, none⟩ = some (.slice a L.length cap)) := Lib.hid fun u hu => ⟨(hG.below hu hG.lt).cell 0, (hG.below hu hG.lt).cell 1⟩
  obtain ⟨g0, g1⟩ := HF.out W (Below.refl _ _)
  have HHO := Lib.hid (ho.keep hB0)
  have HHS := Lib.hid (hs.keep hB0)
  clear ho hs hB0 hG hW hWs h
  go_enter Try.func27, Try.ntmps27
  go_wp2_with fail
  rw [← HW.out]
  refine (HC.out _ HE1.out HHO.out).mono ?_
  rintro e w1 ⟨rfl, hb⟩
  have HB1 := Lib.hid hb
  clear g0 g1
  obtain ⟨g0, g1⟩ := HF.out w1 hb
  clear hb
  by_cases hk : k ≠ 0
  · have q0 : (((k : Nat) : Int) != 0) = true := by rw [bne_iff_ne]; omega
    have ha : ak = k := by rw [HAK.out, if_pos hk]
    rw [ha] at HX1
    have HR := Lib.hid (HX1.out hk)
    have HBE := Lib.hid (HB0.out.trans (HB1.out.mono HB0.out.size))
    clear hk ha
    go_wp2
    go_ret2
    exact ⟨none, 0, by rw [HR.out.1, HR.out.2]; rfl, by rw [HR.out.2]; exact RowAt.nil _ _ _ _, HBE.out⟩
  obtain rfl : k = 0 := by omega
  have ha : ak = k2 := by rw [HAK.out, if_neg hk]
  subst ha
  clear hk HC
  go_wp2_with fail
  refine (HC2.out _ (HE1.out.keep HB1.out) (HHS.out.keep HB1.out)).mono ?_
  rintro e w2 ⟨rfl, hb⟩
  have HB2 := Lib.hid (HB1.out.trans (hb.mono HB1.out.size))
  clear g0 g1 hb
  obtain ⟨g0, g1⟩ := HF.out w2 HB2.out
  by_cases hk : ak ≠ 0
  · have q0 : (((ak : Nat) : Int) != 0) = true := by rw [bne_iff_ne]; omega
    have HR := Lib.hid (HX1.out hk)
    have HBE := Lib.hid (HB0.out.trans (HB2.out.mono HB0.out.size))
    clear hk
    go_wp2
    go_ret2
    exact ⟨none, 0, by rw [HR.out.1, HR.out.2]; rfl, by rw [HR.out.2]; exact RowAt.nil _ _ _ _, HBE.out⟩
  obtain rfl : ak = 0 := by omega
  have HR := Lib.hid (HX2.out rfl)
  have HCH1 := Lib.hid (HCH.out (by first | exact rfl | trivial))
  have hn := (HNN.out (by first | exact rfl | trivial)).1
  have HOF1 := Lib.hid (HOF.out hn (HNN.out (by first | exact rfl | trivial)).2)
  clear hk HX1 HX2 HCH HC2 HNN HOF
  obtain ⟨N, rfl⟩ : ∃ N : Nat, n = N := ⟨n.toNat, by omega⟩
  rw [Int.toNat_natCast] at HCH1 HOF1
  clear g0 g1
  go_wp2
  have hj0 : Below w2.heap.size w2 w2.drew := (Below.refl _ _).drew
  have HF9 : Hid (∀ u, Below w2.heap.size w2 u → u.cell? ⟨w.heap.size, 0, none⟩ = some (.int .i64 (N : Int)) ∧ u.cell? ⟨w.heap.size, 1, none⟩ = some (.slice a L.length cap)) := Lib.hid fun u hu => HF.out u (HB2.out.trans (hu.mono HB2.out.size))
  refine wp_region_late (S := fun u => Below w2.heap.size w2 u) (X := []) (by kernel_rfl) ?_
  refine wpAnyL_takeD (i := 0) 22 (.agg #[.int .i64 (N : Int), .slice a L.length cap]) rfl rfl (by kernel_rfl) (by kernel_rfl) (by kernel_rfl) (by kernel_rfl) (by kernel_rfl) (fun _ _ _ h => h) hj0 (Or.inl ⟨by rfl, fun u hu => ?_⟩) ?_
  · obtain ⟨t0, t1⟩ := HF9.out u hu
    go_simp
  try simp only [Act.put, List.setIfInBounds_toArray, List.set_cons_zero, List.set_cons_succ]
  refine wpAnyL_pureD (i := 1) 23 (.slice b D.length c) rfl rfl (by kernel_rfl) (by kernel_rfl) (by kernel_rfl) (fun _ _ _ h => h) (Or.inl ⟨by rfl, fun u _ => ?_⟩) ?_
  · go_simp
  try simp only [Act.put, List.setIfInBounds_toArray, List.set_cons_zero, List.set_cons_succ]
  refine wpAnyL_takeD (i := 2) 24 (.agg #[.int .i64 (N : Int), .slice a L.length cap]) rfl rfl (by kernel_rfl) (by kernel_rfl) (by kernel_rfl) (by kernel_rfl) (by kernel_rfl) (fun _ _ _ h => h) hj0 (Or.inl ⟨by rfl, fun u hu => ?_⟩) ?_
  · obtain ⟨t0, t1⟩ := HF9.out u hu
    go_simp
  try simp only [Act.put, List.setIfInBounds_toArray, List.set_cons_zero, List.set_cons_succ]
  refine wpAnyL_pureD (i := 3) 25 (.slice sa A.length sc) rfl rfl (by kernel_rfl) (by kernel_rfl) (by kernel_rfl) (fun _ _ _ h => h) (Or.inl ⟨by rfl, fun u _ => ?_⟩) ?_
  · go_simp
  try simp only [Act.put, List.setIfInBounds_toArray, List.set_cons_zero, List.set_cons_succ]
  refine wpAnyL_one (i := 4) (by kernel_rfl) rfl (fun K hK => ?_)
  go_simp
  go_at_call 61
  refine (HOF1.out _ (HHS.out.keep (HB2.out.trans (hj0.mono HB2.out.size)))).mono ?_
  rintro e y0 ⟨p7, q7, rfl, hr7, hb7⟩
  have hj1 := hj0.trans (hb7.mono hj0.size)
  show K _ _
  refine hK.out _ _ (fun _ _ => hj1) ?_
  clear hK K
  try simp only [Act.put, List.setIfInBounds_toArray, List.set_cons_zero, List.set_cons_succ]
  refine wpAnyL_one (i := 5) (by kernel_rfl) rfl (fun K hK => ?_)
  go_simp
  go_at_call 52
  refine (HCH1.out p7 q7 y0 (HE1.out.keep (HB2.out.trans (hj1.mono HB2.out.size))) (HHO.out.keep (HB2.out.trans (hj1.mono HB2.out.size))) hr7).mono ?_
  rintro e y1 ⟨p8, q8, rfl, hr8, hb8⟩
  have hj2 := hj1.trans (hb8.mono hj1.size)
  show K _ _
  refine hK.out _ _ (fun _ _ => hj2) ?_
  clear hK K
  try simp only [Act.put, List.setIfInBounds_toArray, List.set_cons_zero, List.set_cons_succ]
  refine wpAnyL_one (i := 6) (by kernel_rfl) rfl (fun K hK => ?_)
  go_simp
  go_at_call 51
  refine (HRT.out p8 q8 y1 hr8).mono ?_
  rintro e y2 ⟨p9, q9, rfl, hr9, hb9⟩
  have hj3 := hj2.trans (hb9.mono hj2.size)
  show K _ _
  refine hK.out _ _ (fun _ _ => hj3) ?_
  clear hK K
  try simp only [Act.put, List.setIfInBounds_toArray, List.set_cons_zero, List.set_cons_succ]
  refine wpAnyL_pureD (i := 7) 29 (.slice p9 X.length q9) rfl rfl (by kernel_rfl) (by kernel_rfl) (by kernel_rfl) (fun _ _ _ h => h) (Or.inl ⟨by rfl, fun u _ => ?_⟩) ?_
  · go_simp
  try simp only [Act.put, List.setIfInBounds_toArray, List.set_cons_zero, List.set_cons_succ]
  refine wpAnyL_pureD (i := 8) 30 (.int .i64 (K : Nat)) rfl rfl (by kernel_rfl) (by kernel_rfl) (by kernel_rfl) (fun _ _ _ h => h) (Or.inl ⟨by rfl, fun u _ => ?_⟩) ?_
  · go_simp
  try simp only [Act.put, List.setIfInBounds_toArray, List.set_cons_zero, List.set_cons_succ]
  refine wpAnyL_pureD (i := 9) 6 (.slice p9 X.length q9) rfl rfl (by kernel_rfl) (by kernel_rfl) (by kernel_rfl) (fun _ _ _ h => h) (Or.inl ⟨by rfl, fun u _ => ?_⟩) ?_
  · go_simp
  try simp only [Act.put, List.setIfInBounds_toArray, List.set_cons_zero, List.set_cons_succ]
  refine wpAnyL_pureD (i := 10) 7 (.int .i64 (K : Nat)) rfl rfl (by kernel_rfl) (by kernel_rfl) (by kernel_rfl) (fun _ _ _ h => h) (Or.inl ⟨by rfl, fun u _ => ?_⟩) ?_
  · go_simp
  try simp only [Act.put, List.setIfInBounds_toArray, List.set_cons_zero, List.set_cons_succ]
  refine wpAnyL_done (by kernel_rfl) ?_ _
  try simp only [Act.put, List.setIfInBounds_toArray, List.set_cons_zero, List.set_cons_succ]
  clear hj0 hj1 hj2 hb7 hr7 hb8 hr8 hb9
  have HBE := Lib.hid (HB0.out.trans ((HB2.out.trans (hj3.mono HB2.out.size)).mono HB0.out.size))
  have HR9 := Lib.hid hr9
  clear hj3 hr9
  go_wp2
  go_ret2
  exact ⟨p9, q9, by rw [HR.out.1, HR.out.2]; rfl, by rw [HR.out.2]; exact HR9.out, HBE.out⟩
set_option maxHeartbeats 12800000 in
set_option maxRecDepth 100000 in
theorem rFire_any (n : Int) (a : Option Addr) (cap : Nat) (L : List E) (hL : L.length ≤ 100000) (b : Option Addr) (c : Nat) (D : List Int) (hD : D.length ≤ 1000) (v : Int) (w : World) (h : EsAt w a L) (ho : IsAt w b D) :
    Calls Try.prog 23 #[gv n a L.length cap, .slice b D.length c, .int .i64 v] w (GivesIE w (resV (setK n L D [v]) D (setS n (1) [v]) L) (resK (setK n L D [v]) D (setS n (1) [v]) L)) := by
  have HC := Lib.hid (fun w h ho => rGiven_any n a cap L hL b c D hD w h ho)
  have HC2 := Lib.hid (fun w => vertex_any n a L.length cap v w)
  have HAK : Hid (setK n L D [v] = if chkGD n L D ≠ 0 then chkGD n L D else if isV n v = true then 0 else 2) := Lib.hid (by
    by_cases h : chkGD n L D ≠ 0
    · rw [if_pos h]; unfold setK; rw [if_pos h]
    · rw [if_neg h, setK_g (by omega), subE_one])
  have HX1 : Hid (setK n L D [v] ≠ 0 → resK (setK n L D [v]) D (setS n (1) [v]) L = setK n L D [v] ∧ resV (setK n L D [v]) D (setS n (1) [v]) L = []) := Lib.hid fun h => res_err _ _ _ h
  have HX2 : Hid (setK n L D [v] = 0 → resK (setK n L D [v]) D (setS n (1) [v]) L = chK D (setS n (1) [v]) L ∧ resV (setK n L D [v]) D (setS n (1) [v]) L = chV D (setS n (1) [v]) L) := Lib.hid fun h => res_ok _ _ _ h
  have HNN : Hid (setK n L D [v] = 0 → (1 ≤ n ∧ n ≤ 12) ∧ ∀ i, i < ([v] : List Int).length → 0 ≤ iAt [v] i ∧ iAt [v] i < n) := Lib.hid fun h => ⟨⟨(chkGD_zero (setK_zero h).1).1.lo, (chkGD_zero (setK_zero h).1).1.hi⟩, (setK_zero h).2⟩
  have HCH : Hid (setK n L D [v] = 0 → ∀ p q u, EsAt u a L → IsAt u b D → IsAt u p (setS n (1) [v]) → Calls Try.prog 52 #[gv n a L.length cap, .slice b D.length c, .slice p n.toNat q] u (fun e w' => ∃ p q, e = .returned (.slice p D.length q) ∧ IsAt w' p (chD D (setS n (1) [v]) L) ∧ Below u.heap.size u w')) := Lib.hid fun hz p q u h1 h2 h3 => by
    obtain ⟨hR, hd, hl⟩ := chkGD_zero (setK_zero hz).1
    have hln := setS_len n (1) [v]
    have := rMoved_gd n a cap L hL hR b c D hd hl p q (setS n (1) [v]) (setS_rng n (1) [v] (by omega)) (by omega) u h1 h2 h3
    rwa [hln] at this
  have HRT := Lib.hid (fun p q u h => rright_ch D (setS n (1) [v]) L hD p q u h)
  have HOF : Hid ((1 ≤ n ∧ n ≤ 12) → (0 ≤ v ∧ v < n) → ∀ u, Calls Try.prog 60 #[gv n a L.length cap, .int .i64 v, .int .i64 (1)] u (fun e w' => ∃ p q, e = .returned (.slice p n.toNat q) ∧ IsAt w' p (setS n (1) [v]) ∧ Below u.heap.size u w')) := Lib.hid fun hn hr u => by
    obtain ⟨N, rfl⟩ : ∃ N : Nat, n = N := ⟨n.toNat, by omega⟩
    obtain ⟨x, rfl⟩ : ∃ x : Nat, v = x := ⟨v.toNat, by omega⟩
    exact rOne_any N a L.length cap (by omega) x (by omega) (1) u
  unfold GivesN GivesIE gv at *
  generalize resK (setK n L D [v]) D (setS n (1) [v]) L = RK at *
  generalize resV (setK n L D [v]) D (setS n (1) [v]) L = RV at *
  generalize setK n L D [v] = ak at *
  generalize chkGD n L D = k at *
  generalize chV D (setS n (1) [v]) L = X at *
  generalize chK D (setS n (1) [v]) L = K at *
  generalize chD D (setS n (1) [v]) L = M at *
  generalize setS n (1) [v] = SS at *
  obtain ⟨W, hW⟩ : ∃ W, W = w.alloc (Obj.cells #[.int .i64 n, .slice a L.length cap] 24) := ⟨_, rfl⟩
  have hB0 : Below w.heap.size w W := by rw [hW]; exact (Below.refl _ w).alloc (Nat.le_refl _) _
  have hG : Blk W w.heap.size 24 #[.int .i64 n, .slice a L.length cap] := by rw [hW]; exact Blk.new _ _ _
  have hWs : W.heap.size = w.heap.size + 1 := by rw [hW]; simp
  have HW := Lib.hid hW
  have HWS := Lib.hid hWs
  have HB0 := Lib.hid hB0
  have HE1 := Lib.hid (h.keep hB0)
  have HF : Hid (∀ u, Below W.heap.size W u → u.cell? ⟨w.heap.size, 0, none⟩ = some (.int .i64 n) ∧ u.cell? ⟨w.heap.size, 1, none⟩ = some (.slice a L.length cap)) := Lib.hid fun u hu => ⟨(hG.below hu hG.lt).cell 0, (hG.below hu hG.lt).cell 1⟩
  obtain ⟨g0, g1⟩ := HF.out W (Below.refl _ _)
  have HHO := Lib.hid (ho.keep hB0)
  clear ho hB0 hG hW hWs h
  go_enter Try.func23, Try.ntmps23
  go_wp2_with fail
  rw [← HW.out]
  refine (HC.out _ HE1.out HHO.out).mono ?_
  rintro e w1 ⟨rfl, hb⟩
  have HB1 := Lib.hid hb
  clear g0 g1
  obtain ⟨g0, g1⟩ := HF.out w1 hb
  clear hb
  by_cases hk : k ≠ 0
  · have q0 : (((k : Nat) : Int) != 0) = true := by rw [bne_iff_ne]; omega
    have ha : ak = k := by rw [HAK.out, if_pos hk]
    rw [ha] at HX1
    have HR := Lib.hid (HX1.out hk)
    have HBE := Lib.hid (HB0.out.trans (HB1.out.mono HB0.out.size))
    clear hk ha
    go_wp2
    go_ret2
    exact ⟨none, 0, by rw [HR.out.1, HR.out.2]; rfl, by rw [HR.out.2]; exact RowAt.nil _ _ _ _, HBE.out⟩
  obtain rfl : k = 0 := by omega
  have ha : ak = if isV n v = true then 0 else 2 := by rw [HAK.out, if_neg hk]
  clear hk HC HAK
  generalize isV n v = vv at *
  go_wp2_with fail
  refine (HC2.out _).mono ?_
  rintro e w2 ⟨rfl, hb⟩
  have HB2 := Lib.hid (HB1.out.trans (hb.mono HB1.out.size))
  clear g0 g1 hb
  obtain ⟨g0, g1⟩ := HF.out w2 HB2.out
  cases vv with
  | false =>
    rw [if_neg (by decide)] at ha
    subst ha
    have HR := Lib.hid (HX1.out (by decide))
    have HBE := Lib.hid (HB0.out.trans (HB2.out.mono HB0.out.size))
    go_wp2
    go_ret2
    exact ⟨none, 0, by rw [HR.out.1, HR.out.2]; rfl, by rw [HR.out.2]; exact RowAt.nil _ _ _ _, HBE.out⟩
  | true =>
    rw [if_pos rfl] at ha
    subst ha
    have HR := Lib.hid (HX2.out (by first | exact rfl | trivial))
    have HCH1 := Lib.hid (HCH.out (by first | exact rfl | trivial))
    have hn := (HNN.out (by first | exact rfl | trivial)).1
    have hv0 := (HNN.out (by first | exact rfl | trivial)).2 0 (by simp)
    have hv1 : 0 ≤ v ∧ v < n := hv0
    have HOF1 := Lib.hid (HOF.out hn hv1)
    clear HX1 HX2 HCH HC2 HNN HOF hv0 hv1
    obtain ⟨N, rfl⟩ : ∃ N : Nat, n = N := ⟨n.toNat, by omega⟩
    rw [Int.toNat_natCast] at HCH1 HOF1
    clear g0 g1
    go_wp2
    have hj0 : Below w2.heap.size w2 w2.drew := (Below.refl _ _).drew
    have HF9 : Hid (∀ u, Below w2.heap.size w2 u → u.cell? ⟨w.heap.size, 0, none⟩ = some (.int .i64 (N : Int)) ∧ u.cell? ⟨w.heap.size, 1, none⟩ = some (.slice a L.length cap)) := Lib.hid fun u hu => HF.out u (HB2.out.trans (hu.mono HB2.out.size))
    refine wp_region_late (S := fun u => Below w2.heap.size w2 u) (X := []) (by kernel_rfl) ?_
    refine wpAnyL_takeD (i := 0) 19 (.agg #[.int .i64 (N : Int), .slice a L.length cap]) rfl rfl (by kernel_rfl) (by kernel_rfl) (by kernel_rfl) (by kernel_rfl) (by kernel_rfl) (fun _ _ _ h => h) hj0 (Or.inl ⟨by rfl, fun u hu => ?_⟩) ?_
    · obtain ⟨t0, t1⟩ := HF9.out u hu
      go_simp
    try simp only [Act.put, List.setIfInBounds_toArray, List.set_cons_zero, List.set_cons_succ]
    refine wpAnyL_pureD (i := 1) 20 (.slice b D.length c) rfl rfl (by kernel_rfl) (by kernel_rfl) (by kernel_rfl) (fun _ _ _ h => h) (Or.inl ⟨by rfl, fun u _ => ?_⟩) ?_
    · go_simp
    try simp only [Act.put, List.setIfInBounds_toArray, List.set_cons_zero, List.set_cons_succ]
    refine wpAnyL_takeD (i := 2) 21 (.agg #[.int .i64 (N : Int), .slice a L.length cap]) rfl rfl (by kernel_rfl) (by kernel_rfl) (by kernel_rfl) (by kernel_rfl) (by kernel_rfl) (fun _ _ _ h => h) hj0 (Or.inl ⟨by rfl, fun u hu => ?_⟩) ?_
    · obtain ⟨t0, t1⟩ := HF9.out u hu
      go_simp
    try simp only [Act.put, List.setIfInBounds_toArray, List.set_cons_zero, List.set_cons_succ]
    refine wpAnyL_pureD (i := 3) 22 (.int .i64 v) rfl rfl (by kernel_rfl) (by kernel_rfl) (by kernel_rfl) (fun _ _ _ h => h) (Or.inl ⟨by rfl, fun u _ => ?_⟩) ?_
    · go_simp
    try simp only [Act.put, List.setIfInBounds_toArray, List.set_cons_zero, List.set_cons_succ]
    refine wpAnyL_one (i := 4) (by kernel_rfl) rfl (fun K hK => ?_)
    go_simp
    go_at_call 60
    refine (HOF1.out _).mono ?_
    rintro e y0 ⟨p7, q7, rfl, hr7, hb7⟩
    have hj1 := hj0.trans (hb7.mono hj0.size)
    show K _ _
    refine hK.out _ _ (fun _ _ => hj1) ?_
    clear hK K
    try simp only [Act.put, List.setIfInBounds_toArray, List.set_cons_zero, List.set_cons_succ]
    refine wpAnyL_one (i := 5) (by kernel_rfl) rfl (fun K hK => ?_)
    go_simp
    go_at_call 52
    refine (HCH1.out p7 q7 y0 (HE1.out.keep (HB2.out.trans (hj1.mono HB2.out.size))) (HHO.out.keep (HB2.out.trans (hj1.mono HB2.out.size))) hr7).mono ?_
    rintro e y1 ⟨p8, q8, rfl, hr8, hb8⟩
    have hj2 := hj1.trans (hb8.mono hj1.size)
    show K _ _
    refine hK.out _ _ (fun _ _ => hj2) ?_
    clear hK K
    try simp only [Act.put, List.setIfInBounds_toArray, List.set_cons_zero, List.set_cons_succ]
    refine wpAnyL_one (i := 6) (by kernel_rfl) rfl (fun K hK => ?_)
    go_simp
    go_at_call 51
    refine (HRT.out p8 q8 y1 hr8).mono ?_
    rintro e y2 ⟨p9, q9, rfl, hr9, hb9⟩
    have hj3 := hj2.trans (hb9.mono hj2.size)
    show K _ _
    refine hK.out _ _ (fun _ _ => hj3) ?_
    clear hK K
    try simp only [Act.put, List.setIfInBounds_toArray, List.set_cons_zero, List.set_cons_succ]
    refine wpAnyL_pureD (i := 7) 26 (.slice p9 X.length q9) rfl rfl (by kernel_rfl) (by kernel_rfl) (by kernel_rfl) (fun _ _ _ h => h) (Or.inl ⟨by rfl, fun u _ => ?_⟩) ?_
    · go_simp
    try simp only [Act.put, List.setIfInBounds_toArray, List.set_cons_zero, List.set_cons_succ]
    refine wpAnyL_pureD (i := 8) 27 (.int .i64 (K : Nat)) rfl rfl (by kernel_rfl) (by kernel_rfl) (by kernel_rfl) (fun _ _ _ h => h) (Or.inl ⟨by rfl, fun u _ => ?_⟩) ?_
    · go_simp
    try simp only [Act.put, List.setIfInBounds_toArray, List.set_cons_zero, List.set_cons_succ]
    refine wpAnyL_pureD (i := 9) 6 (.slice p9 X.length q9) rfl rfl (by kernel_rfl) (by kernel_rfl) (by kernel_rfl) (fun _ _ _ h => h) (Or.inl ⟨by rfl, fun u _ => ?_⟩) ?_
    · go_simp
    try simp only [Act.put, List.setIfInBounds_toArray, List.set_cons_zero, List.set_cons_succ]
    refine wpAnyL_pureD (i := 10) 7 (.int .i64 (K : Nat)) rfl rfl (by kernel_rfl) (by kernel_rfl) (by kernel_rfl) (fun _ _ _ h => h) (Or.inl ⟨by rfl, fun u _ => ?_⟩) ?_
    · go_simp
    try simp only [Act.put, List.setIfInBounds_toArray, List.set_cons_zero, List.set_cons_succ]
    refine wpAnyL_done (by kernel_rfl) ?_ _
    try simp only [Act.put, List.setIfInBounds_toArray, List.set_cons_zero, List.set_cons_succ]
    clear hj0 hj1 hj2 hb7 hr7 hb8 hr8 hb9
    have HBE := Lib.hid (HB0.out.trans ((HB2.out.trans (hj3.mono HB2.out.size)).mono HB0.out.size))
    have HR9 := Lib.hid hr9
    clear hj3 hr9
    go_wp2
    go_ret2
    exact ⟨p9, q9, by rw [HR.out.1, HR.out.2]; rfl, by rw [HR.out.2]; exact HR9.out, HBE.out⟩
set_option maxHeartbeats 12800000 in
set_option maxRecDepth 100000 in
theorem rBorrow_any (n : Int) (a : Option Addr) (cap : Nat) (L : List E) (hL : L.length ≤ 100000) (b : Option Addr) (c : Nat) (D : List Int) (hD : D.length ≤ 1000) (v : Int) (w : World) (h : EsAt w a L) (ho : IsAt w b D) :
    Calls Try.prog 25 #[gv n a L.length cap, .slice b D.length c, .int .i64 v] w (GivesIE w (resV (setK n L D [v]) D (setS n (-1) [v]) L) (resK (setK n L D [v]) D (setS n (-1) [v]) L)) := by
  have HC := Lib.hid (fun w h ho => rGiven_any n a cap L hL b c D hD w h ho)
  have HC2 := Lib.hid (fun w => vertex_any n a L.length cap v w)
  have HAK : Hid (setK n L D [v] = if chkGD n L D ≠ 0 then chkGD n L D else if isV n v = true then 0 else 2) := Lib.hid (by
    by_cases h : chkGD n L D ≠ 0
    · rw [if_pos h]; unfold setK; rw [if_pos h]
    · rw [if_neg h, setK_g (by omega), subE_one])
  have HX1 : Hid (setK n L D [v] ≠ 0 → resK (setK n L D [v]) D (setS n (-1) [v]) L = setK n L D [v] ∧ resV (setK n L D [v]) D (setS n (-1) [v]) L = []) := Lib.hid fun h => res_err _ _ _ h
  have HX2 : Hid (setK n L D [v] = 0 → resK (setK n L D [v]) D (setS n (-1) [v]) L = chK D (setS n (-1) [v]) L ∧ resV (setK n L D [v]) D (setS n (-1) [v]) L = chV D (setS n (-1) [v]) L) := Lib.hid fun h => res_ok _ _ _ h
  have HNN : Hid (setK n L D [v] = 0 → (1 ≤ n ∧ n ≤ 12) ∧ ∀ i, i < ([v] : List Int).length → 0 ≤ iAt [v] i ∧ iAt [v] i < n) := Lib.hid fun h => ⟨⟨(chkGD_zero (setK_zero h).1).1.lo, (chkGD_zero (setK_zero h).1).1.hi⟩, (setK_zero h).2⟩
  have HCH : Hid (setK n L D [v] = 0 → ∀ p q u, EsAt u a L → IsAt u b D → IsAt u p (setS n (-1) [v]) → Calls Try.prog 52 #[gv n a L.length cap, .slice b D.length c, .slice p n.toNat q] u (fun e w' => ∃ p q, e = .returned (.slice p D.length q) ∧ IsAt w' p (chD D (setS n (-1) [v]) L) ∧ Below u.heap.size u w')) := Lib.hid fun hz p q u h1 h2 h3 => by
    obtain ⟨hR, hd, hl⟩ := chkGD_zero (setK_zero hz).1
    have hln := setS_len n (-1) [v]
    have := rMoved_gd n a cap L hL hR b c D hd hl p q (setS n (-1) [v]) (setS_rng n (-1) [v] (by omega)) (by omega) u h1 h2 h3
    rwa [hln] at this
  have HRT := Lib.hid (fun p q u h => rright_ch D (setS n (-1) [v]) L hD p q u h)
  have HOF : Hid ((1 ≤ n ∧ n ≤ 12) → (0 ≤ v ∧ v < n) → ∀ u, Calls Try.prog 60 #[gv n a L.length cap, .int .i64 v, .int .i64 (-1)] u (fun e w' => ∃ p q, e = .returned (.slice p n.toNat q) ∧ IsAt w' p (setS n (-1) [v]) ∧ Below u.heap.size u w')) := Lib.hid fun hn hr u => by
    obtain ⟨N, rfl⟩ : ∃ N : Nat, n = N := ⟨n.toNat, by omega⟩
    obtain ⟨x, rfl⟩ : ∃ x : Nat, v = x := ⟨v.toNat, by omega⟩
    exact rOne_any N a L.length cap (by omega) x (by omega) (-1) u
  unfold GivesN GivesIE gv at *
  generalize resK (setK n L D [v]) D (setS n (-1) [v]) L = RK at *
  generalize resV (setK n L D [v]) D (setS n (-1) [v]) L = RV at *
  generalize setK n L D [v] = ak at *
  generalize chkGD n L D = k at *
  generalize chV D (setS n (-1) [v]) L = X at *
  generalize chK D (setS n (-1) [v]) L = K at *
  generalize chD D (setS n (-1) [v]) L = M at *
  generalize setS n (-1) [v] = SS at *
  obtain ⟨W, hW⟩ : ∃ W, W = w.alloc (Obj.cells #[.int .i64 n, .slice a L.length cap] 24) := ⟨_, rfl⟩
  have hB0 : Below w.heap.size w W := by rw [hW]; exact (Below.refl _ w).alloc (Nat.le_refl _) _
  have hG : Blk W w.heap.size 24 #[.int .i64 n, .slice a L.length cap] := by rw [hW]; exact Blk.new _ _ _
  have hWs : W.heap.size = w.heap.size + 1 := by rw [hW]; simp
  have HW := Lib.hid hW
  have HWS := Lib.hid hWs
  have HB0 := Lib.hid hB0
  have HE1 := Lib.hid (h.keep hB0)
  have HF : Hid (∀ u, Below W.heap.size W u → u.cell? ⟨w.heap.size, 0, none⟩ = some (.int .i64 n) ∧ u.cell? ⟨w.heap.size, 1, none⟩ = some (.slice a L.length cap)) := Lib.hid fun u hu => ⟨(hG.below hu hG.lt).cell 0, (hG.below hu hG.lt).cell 1⟩
  obtain ⟨g0, g1⟩ := HF.out W (Below.refl _ _)
  have HHO := Lib.hid (ho.keep hB0)
  clear ho hB0 hG hW hWs h
  go_enter Try.func25, Try.ntmps25
  go_wp2_with fail
  rw [← HW.out]
  refine (HC.out _ HE1.out HHO.out).mono ?_
  rintro e w1 ⟨rfl, hb⟩
  have HB1 := Lib.hid hb
  clear g0 g1
  obtain ⟨g0, g1⟩ := HF.out w1 hb
  clear hb
  by_cases hk : k ≠ 0
  · have q0 : (((k : Nat) : Int) != 0) = true := by rw [bne_iff_ne]; omega
    have ha : ak = k := by rw [HAK.out, if_pos hk]
    rw [ha] at HX1
    have HR := Lib.hid (HX1.out hk)
    have HBE := Lib.hid (HB0.out.trans (HB1.out.mono HB0.out.size))
    clear hk ha
    go_wp2
    go_ret2
    exact ⟨none, 0, by rw [HR.out.1, HR.out.2]; rfl, by rw [HR.out.2]; exact RowAt.nil _ _ _ _, HBE.out⟩
  obtain rfl : k = 0 := by omega
  have ha : ak = if isV n v = true then 0 else 2 := by rw [HAK.out, if_neg hk]
  clear hk HC HAK
  generalize isV n v = vv at *
  go_wp2_with fail
  refine (HC2.out _).mono ?_
  rintro e w2 ⟨rfl, hb⟩
  have HB2 := Lib.hid (HB1.out.trans (hb.mono HB1.out.size))
  clear g0 g1 hb
  obtain ⟨g0, g1⟩ := HF.out w2 HB2.out
  cases vv with
  | false =>
    rw [if_neg (by decide)] at ha
    subst ha
    have HR := Lib.hid (HX1.out (by decide))
    have HBE := Lib.hid (HB0.out.trans (HB2.out.mono HB0.out.size))
    go_wp2
    go_ret2
    exact ⟨none, 0, by rw [HR.out.1, HR.out.2]; rfl, by rw [HR.out.2]; exact RowAt.nil _ _ _ _, HBE.out⟩
  | true =>
    rw [if_pos rfl] at ha
    subst ha
    have HR := Lib.hid (HX2.out (by first | exact rfl | trivial))
    have HCH1 := Lib.hid (HCH.out (by first | exact rfl | trivial))
    have hn := (HNN.out (by first | exact rfl | trivial)).1
    have hv0 := (HNN.out (by first | exact rfl | trivial)).2 0 (by simp)
    have hv1 : 0 ≤ v ∧ v < n := hv0
    have HOF1 := Lib.hid (HOF.out hn hv1)
    clear HX1 HX2 HCH HC2 HNN HOF hv0 hv1
    obtain ⟨N, rfl⟩ : ∃ N : Nat, n = N := ⟨n.toNat, by omega⟩
    rw [Int.toNat_natCast] at HCH1 HOF1
    clear g0 g1
    go_wp2
    have hj0 : Below w2.heap.size w2 w2.drew := (Below.refl _ _).drew
    have HF9 : Hid (∀ u, Below w2.heap.size w2 u → u.cell? ⟨w.heap.size, 0, none⟩ = some (.int .i64 (N : Int)) ∧ u.cell? ⟨w.heap.size, 1, none⟩ = some (.slice a L.length cap)) := Lib.hid fun u hu => HF.out u (HB2.out.trans (hu.mono HB2.out.size))
    refine wp_region_late (S := fun u => Below w2.heap.size w2 u) (X := []) (by kernel_rfl) ?_
    refine wpAnyL_takeD (i := 0) 19 (.agg #[.int .i64 (N : Int), .slice a L.length cap]) rfl rfl (by kernel_rfl) (by kernel_rfl) (by kernel_rfl) (by kernel_rfl) (by kernel_rfl) (fun _ _ _ h => h) hj0 (Or.inl ⟨by rfl, fun u hu => ?_⟩) ?_
    · obtain ⟨t0, t1⟩ := HF9.out u hu
      go_simp
    try simp only [Act.put, List.setIfInBounds_toArray, List.set_cons_zero, List.set_cons_succ]
    refine wpAnyL_pureD (i := 1) 20 (.slice b D.length c) rfl rfl (by kernel_rfl) (by kernel_rfl) (by kernel_rfl) (fun _ _ _ h => h) (Or.inl ⟨by rfl, fun u _ => ?_⟩) ?_
    · go_simp
    try simp only [Act.put, List.setIfInBounds_toArray, List.set_cons_zero, List.set_cons_succ]
    refine wpAnyL_takeD (i := 2) 21 (.agg #[.int .i64 (N : Int), .slice a L.length cap]) rfl rfl (by kernel_rfl) (by kernel_rfl) (by kernel_rfl) (by kernel_rfl) (by kernel_rfl) (fun _ _ _ h => h) hj0 (Or.inl ⟨by rfl, fun u hu => ?_⟩) ?_
    · obtain ⟨t0, t1⟩ := HF9.out u hu
      go_simp
    try simp only [Act.put, List.setIfInBounds_toArray, List.set_cons_zero, List.set_cons_succ]
    refine wpAnyL_pureD (i := 3) 22 (.int .i64 v) rfl rfl (by kernel_rfl) (by kernel_rfl) (by kernel_rfl) (fun _ _ _ h => h) (Or.inl ⟨by rfl, fun u _ => ?_⟩) ?_
    · go_simp
    try simp only [Act.put, List.setIfInBounds_toArray, List.set_cons_zero, List.set_cons_succ]
    refine wpAnyL_one (i := 4) (by kernel_rfl) rfl (fun K hK => ?_)
    go_simp
    go_at_call 60
    refine (HOF1.out _).mono ?_
    rintro e y0 ⟨p7, q7, rfl, hr7, hb7⟩
    have hj1 := hj0.trans (hb7.mono hj0.size)
    show K _ _
    refine hK.out _ _ (fun _ _ => hj1) ?_
    clear hK K
    try simp only [Act.put, List.setIfInBounds_toArray, List.set_cons_zero, List.set_cons_succ]
    refine wpAnyL_one (i := 5) (by kernel_rfl) rfl (fun K hK => ?_)
    go_simp
    go_at_call 52
    refine (HCH1.out p7 q7 y0 (HE1.out.keep (HB2.out.trans (hj1.mono HB2.out.size))) (HHO.out.keep (HB2.out.trans (hj1.mono HB2.out.size))) hr7).mono ?_
    rintro e y1 ⟨p8, q8, rfl, hr8, hb8⟩
    have hj2 := hj1.trans (hb8.mono hj1.size)
    show K _ _
    refine hK.out _ _ (fun _ _ => hj2) ?_
    clear hK K
    try simp only [Act.put, List.setIfInBounds_toArray, List.set_cons_zero, List.set_cons_succ]
    refine wpAnyL_one (i := 6) (by kernel_rfl) rfl (fun K hK => ?_)
    go_simp
    go_at_call 51
    refine (HRT.out p8 q8 y1 hr8).mono ?_
    rintro e y2 ⟨p9, q9, rfl, hr9, hb9⟩
    have hj3 := hj2.trans (hb9.mono hj2.size)
    show K _ _
    refine hK.out _ _ (fun _ _ => hj3) ?_
    clear hK K
    try simp only [Act.put, List.setIfInBounds_toArray, List.set_cons_zero, List.set_cons_succ]
    refine wpAnyL_pureD (i := 7) 26 (.slice p9 X.length q9) rfl rfl (by kernel_rfl) (by kernel_rfl) (by kernel_rfl) (fun _ _ _ h => h) (Or.inl ⟨by rfl, fun u _ => ?_⟩) ?_
    · go_simp
    try simp only [Act.put, List.setIfInBounds_toArray, List.set_cons_zero, List.set_cons_succ]
    refine wpAnyL_pureD (i := 8) 27 (.int .i64 (K : Nat)) rfl rfl (by kernel_rfl) (by kernel_rfl) (by kernel_rfl) (fun _ _ _ h => h) (Or.inl ⟨by rfl, fun u _ => ?_⟩) ?_
    · go_simp
    try simp only [Act.put, List.setIfInBounds_toArray, List.set_cons_zero, List.set_cons_succ]
    refine wpAnyL_pureD (i := 9) 6 (.slice p9 X.length q9) rfl rfl (by kernel_rfl) (by kernel_rfl) (by kernel_rfl) (fun _ _ _ h => h) (Or.inl ⟨by rfl, fun u _ => ?_⟩) ?_
    · go_simp
    try simp only [Act.put, List.setIfInBounds_toArray, List.set_cons_zero, List.set_cons_succ]
    refine wpAnyL_pureD (i := 10) 7 (.int .i64 (K : Nat)) rfl rfl (by kernel_rfl) (by kernel_rfl) (by kernel_rfl) (fun _ _ _ h => h) (Or.inl ⟨by rfl, fun u _ => ?_⟩) ?_
    · go_simp
    try simp only [Act.put, List.setIfInBounds_toArray, List.set_cons_zero, List.set_cons_succ]
    refine wpAnyL_done (by kernel_rfl) ?_ _
    try simp only [Act.put, List.setIfInBounds_toArray, List.set_cons_zero, List.set_cons_succ]
    clear hj0 hj1 hj2 hb7 hr7 hb8 hr8 hb9
    have HBE := Lib.hid (HB0.out.trans ((HB2.out.trans (hj3.mono HB2.out.size)).mono HB0.out.size))
    have HR9 := Lib.hid hr9
    clear hj3 hr9
    go_wp2
    go_ret2
    exact ⟨p9, q9, by rw [HR.out.1, HR.out.2]; rfl, by rw [HR.out.2]; exact HR9.out, HBE.out⟩
end Go.Proofs.Ytgejkgeojjgclaa
