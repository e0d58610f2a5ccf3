/- Change, Apply, Fire, Borrow, FireSet of the program. -/
import Derived.Test.YtgejkgeojjgclaaFd
namespace Go.Proofs.Ytgejkgeojjgclaa
open Go.RowKit Go.Proofs.Gr Go.Proofs.Cp
attribute [local go_sem] Oper.semAt_some

/-- The result of a script, or an error. -/
def resK (k : Nat) (D S : List Int) (L : List E) : Nat := if k ≠ 0 then k else chK D S L
def resV (k : Nat) (D S : List Int) (L : List E) : List Int := if k ≠ 0 then [] else chV D S L
theorem res_err {k : Nat} (D S : List Int) (L : List E) (h : k ≠ 0) : resK k D S L = k ∧ resV k D S L = [] := by
  unfold resK resV; rw [if_pos h, if_pos h]; exact ⟨rfl, rfl⟩
theorem res_ok {k : Nat} (D S : List Int) (L : List E) (h : k = 0) : resK k D S L = chK D S L ∧ resV k D S L = chV D S L := by
  unfold resK resV; rw [if_neg (by omega), if_neg (by omega)]; exact ⟨rfl, rfl⟩
def zeroL (n : Int) : List Int := List.replicate n.toNat 0
theorem zero_div {n : Int} {L : List E} (h : Right n L) : Div (zeroL n) ∧ ((zeroL n).length : Int) = n := by
  have h1 := h.lo
  have h2 := h.hi
  refine ⟨⟨by simp [zeroL]; omega, by simp [zeroL]; omega, fun z hz => ?_⟩, by simp [zeroL]; omega⟩
  unfold zeroL at hz
  rw [List.mem_replicate] at hz
  omega
/-- The contract of changed, for right things. -/
theorem pchanged_gd (n : Int) (a : Option Addr) (cap : Nat) (L : List E) (hL : L.length ≤ 100000) (hR : Right n L) (b : Option Addr) (c : Nat) (D : List Int) (hD : Div D) (hDN : (D.length : Int) = n) (sa : Option Addr) (sc : Nat) (S : List Int) (hS : Div S) (hSN : (S.length : Int) = n) (w : World) (h : EsAt w a L) (ho : IsAt w b D) (hs : IsAt w sa S) :
    Calls Try.prog 50 #[gv n a L.length cap, .slice b D.length c, .slice sa S.length sc] w (GivesIE w (chV D S L) (chK D S L)) := by
  obtain rfl : n = (D.length : Int) := hDN.symm
  have e : S.length = D.length := by omega
  have := pchanged_any D.length a cap L hL hR b c D hD rfl sa sc S hS e w h ho hs
  rw [e]
  exact this
set_option maxHeartbeats 12800000 in
set_option maxRecDepth 100000 in
theorem pChange_any (n : Int) (a : Option Addr) (cap : Nat) (L : List E) (hL : L.length ≤ 100000) (b : Option Addr) (c : Nat) (D : List Int) (hD : D.length ≤ 1000) (w : World) (h : EsAt w a L) (ho : IsAt w b D) :
    Calls Try.prog 14 #[gv n a L.length cap, .slice b D.length c] w (GivesIE w (resV (chkGD n L D) (zeroL n) D L) (resK (chkGD n L D) (zeroL n) D L)) := by
  have HC := Lib.hid (fun w h ho => pckS_any n a cap L hL b c D hD w h ho)
  have HX1 : Hid (chkGD n L D ≠ 0 → resK (chkGD n L D) (zeroL n) D L = chkGD n L D ∧ resV (chkGD n L D) (zeroL n) D L = []) := Lib.hid fun h => res_err _ _ _ h
  have HX2 : Hid (chkGD n L D = 0 → resK (chkGD n L D) (zeroL n) D L = chK (zeroL n) D L ∧ resV (chkGD n L D) (zeroL n) D L = chV (zeroL n) D L) := Lib.hid fun h => res_ok _ _ _ h
  have HNN : Hid (chkGD n L D = 0 → 1 ≤ n ∧ n ≤ 12) := Lib.hid fun h => ⟨(chkGD_zero h).1.lo, (chkGD_zero h).1.hi⟩
  have HCH : Hid (chkGD n L D = 0 → ∀ p q u, EsAt u a L → IsAt u p (zeroL n) → IsAt u b D → Calls Try.prog 50 #[gv n a L.length cap, .slice p n.toNat q, .slice b D.length c] u (GivesIE u (chV (zeroL n) D L) (chK (zeroL n) D L))) := Lib.hid fun hz p q u h1 h2 h3 => by
    obtain ⟨hR, hd, hl⟩ := chkGD_zero hz
    obtain ⟨z1, z2⟩ := zero_div hR
    have := pchanged_gd n a cap L hL hR p q (zeroL n) z1 z2 b c D hd hl u h1 h2 h3
    rw [show (zeroL n).length = n.toNat by simp [zeroL]] at this
    exact this
  unfold GivesN GivesIE gv at *
  generalize resK (chkGD n L D) (zeroL n) D L = RK at *
  generalize resV (chkGD n L D) (zeroL n) D L = RV at *
  generalize chkGD n L D = k at *
  generalize chV (zeroL n) D L = X at *
  generalize chK (zeroL n) D L = K at *
  obtain ⟨W, hW⟩ : ∃ W, W = w.alloc (Obj.cells #[.int .i64 n, .slice a L.length cap] 24) := ⟨_, rfl⟩
  have hB0 : Below w.heap.size w W := by rw [hW]; exact (Below.refl _ w).alloc (Nat.le_refl _) _
  have hG : Blk W w.heap.size 24 #[.int .i64 n, .slice a L.length cap] := by rw [hW]; exact Blk.new _ _ _
  have hWs : W.heap.size = w.heap.size + 1 := by rw [hW]; simp
  have HW := Lib.hid hW
  have HWS := Lib.hid hWs
  have HB0 := Lib.hid hB0
  have HE1 := Lib.hid (h.keep hB0)
  have HF : Hid (∀ u, Below W.heap.size W u → u.cell? ⟨w.heap.size, 0, none⟩ = some (.int .i64 n) ∧ u.cell? ⟨w.heap.size, 1, none⟩ = some (.slice a L.length cap)) := Lib.hid fun u hu => ⟨(hG.below hu hG.lt).cell 0, (hG.below hu hG.lt).cell 1⟩
  obtain ⟨g0, g1⟩ := HF.out W (Below.refl _ _)
  have HHO := Lib.hid (ho.keep hB0)
  clear ho hB0 hG hW hWs h
  go_enter Try.func14, Try.ntmps14
  go_wp2_with fail
  rw [← HW.out]
  refine (HC.out _ HE1.out HHO.out).mono ?_
  rintro e w1 ⟨rfl, hb⟩
  have HB1 := Lib.hid hb
  clear g0 g1
  obtain ⟨g0, g1⟩ := HF.out w1 hb
  clear hb
  by_cases hk : k ≠ 0
  · have q0 : (((k : Nat) : Int) != 0) = true := by rw [bne_iff_ne]; omega
    have HR := Lib.hid (HX1.out hk)
    have HBE := Lib.hid (HB0.out.trans (HB1.out.mono HB0.out.size))
    clear hk
    go_wp2
    go_ret2
    exact ⟨none, 0, by rw [HR.out.1, HR.out.2]; rfl, by rw [HR.out.2]; exact RowAt.nil _ _ _ _, HBE.out⟩
  obtain rfl : k = 0 := by omega
  have HR := Lib.hid (HX2.out rfl)
  have HCH1 := Lib.hid (HCH.out rfl)
  have hn := HNN.out rfl
  clear hk HC HX1 HX2 HCH HNN
  obtain ⟨N, rfl⟩ : ∃ N : Nat, n = N := ⟨n.toNat, by omega⟩
  rw [Int.toNat_natCast] at HCH1
  have hzr : zeroL (N : Int) = List.replicate N 0 := by unfold zeroL; rw [Int.toNat_natCast]
  rw [hzr] at HCH1
  clear hzr g0 g1
  go_wp2
  have hj0 : Below w1.heap.size w1 w1.drew := (Below.refl _ _).drew
  have HF9 : Hid (∀ u, Below w1.heap.size w1 u → u.cell? ⟨w.heap.size, 0, none⟩ = some (.int .i64 (N : Int)) ∧ u.cell? ⟨w.heap.size, 1, none⟩ = some (.slice a L.length cap)) := Lib.hid fun u hu => HF.out u (HB1.out.trans (hu.mono HB1.out.size))
  refine wp_region_late (S := fun u => Below w1.heap.size w1 u) (X := []) (by kernel_rfl) ?_
  refine wpAnyL_takeD (i := 0) 13 (.agg #[.int .i64 (N : Int), .slice a L.length cap]) rfl rfl (by kernel_rfl) (by kernel_rfl) (by kernel_rfl) (by kernel_rfl) (by kernel_rfl) (fun _ _ _ h => h) hj0 (Or.inl ⟨by rfl, fun u hu => ?_⟩) ?_
  · obtain ⟨t0, t1⟩ := HF9.out u hu
    go_simp
  try simp only [Act.put, List.setIfInBounds_toArray, List.set_cons_zero, List.set_cons_succ]
  refine wpAnyL_pureD (i := 1) 14 (.pointer (some ⟨w.heap.size, 0, none⟩)) rfl rfl (by kernel_rfl) (by kernel_rfl) (by kernel_rfl) (fun _ _ _ h => h) (Or.inl ⟨by rfl, fun u _ => ?_⟩) ?_
  · go_simp
  try simp only [Act.put, List.setIfInBounds_toArray, List.set_cons_zero, List.set_cons_succ]
  refine wpAnyL_takeD (i := 2) 15 (.int .i64 (N : Int)) rfl rfl (by kernel_rfl) (by kernel_rfl) (by kernel_rfl) (by kernel_rfl) (by kernel_rfl) (fun _ _ _ h => h) hj0 (Or.inl ⟨by rfl, fun u hu => ?_⟩) ?_
  · obtain ⟨t0, t1⟩ := HF9.out u hu
    go_simp
  try simp only [Act.put, List.setIfInBounds_toArray, List.set_cons_zero, List.set_cons_succ]
  refine wpAnyL_pureD (i := 4) 17 (.slice b D.length c) rfl rfl (by kernel_rfl) (by kernel_rfl) (by kernel_rfl) (fun _ _ _ h => h) (Or.inl ⟨by rfl, fun u _ => ?_⟩) ?_
  · go_simp
  try simp only [Act.put, List.setIfInBounds_toArray, List.set_cons_zero, List.set_cons_succ]
  refine wpAnyL_one (i := 3) (by kernel_rfl) rfl (fun K9 hK => ?_)
  have hmk := make_divs N (by omega) w1.drew
  go_simp
  clear hmk
  obtain ⟨g, hg⟩ : ∃ g, g = w1.heap.size := ⟨_, rfl⟩
  obtain ⟨u1, hu1⟩ : ∃ u, u = (w1.alloc (.cells (flat encI (List.replicate N 0)).toArray 3)).drew := ⟨_, rfl⟩
  have hj1 : Below w1.heap.size w1 u1 := by rw [hu1]; exact ((Below.refl _ w1).alloc (Nat.le_refl _) _).drew
  have hrz : RowB encI 3 u1 g (List.replicate N 0) := by rw [hu1, hg]; exact RowB.new _ _ _ _
  rw [← hu1, ← hg]
  refine hK.out _ _ (fun _ _ => hj1) ?_
  clear hK K9 hu1 hg
  try simp only [Act.put, List.setIfInBounds_toArray, List.set_cons_zero, List.set_cons_succ]
  refine wpAnyL_one (i := 5) (by kernel_rfl) rfl (fun K9 hK => ?_)
  go_simp
  go_at_call 50
  refine (HCH1.out (some ⟨g, 0, none⟩) N u1 (HE1.out.keep (HB1.out.trans (hj1.mono HB1.out.size))) (hrz.row encI_len) (HHO.out.keep (HB1.out.trans (hj1.mono HB1.out.size)))).mono ?_
  rintro e y1 ⟨p9, q9, rfl, hr9, hb9⟩
  have hj2 := hj1.trans (hb9.mono hj1.size)
  show K9 _ _
  refine hK.out _ _ (fun _ _ => hj2) ?_
  clear hK K9
  try simp only [Act.put, List.setIfInBounds_toArray, List.set_cons_zero, List.set_cons_succ]
  refine wpAnyL_pureD (i := 6) 19 (.slice p9 X.length q9) rfl rfl (by kernel_rfl) (by kernel_rfl) (by kernel_rfl) (fun _ _ _ h => h) (Or.inl ⟨by rfl, fun u _ => ?_⟩) ?_
  · go_simp
  try simp only [Act.put, List.setIfInBounds_toArray, List.set_cons_zero, List.set_cons_succ]
  refine wpAnyL_pureD (i := 7) 20 (.int .i64 (K : Nat)) rfl rfl (by kernel_rfl) (by kernel_rfl) (by kernel_rfl) (fun _ _ _ h => h) (Or.inl ⟨by rfl, fun u _ => ?_⟩) ?_
  · go_simp
  try simp only [Act.put, List.setIfInBounds_toArray, List.set_cons_zero, List.set_cons_succ]
  refine wpAnyL_pureD (i := 8) 4 (.slice p9 X.length q9) rfl rfl (by kernel_rfl) (by kernel_rfl) (by kernel_rfl) (fun _ _ _ h => h) (Or.inl ⟨by rfl, fun u _ => ?_⟩) ?_
  · go_simp
  try simp only [Act.put, List.setIfInBounds_toArray, List.set_cons_zero, List.set_cons_succ]
  refine wpAnyL_pureD (i := 9) 5 (.int .i64 (K : Nat)) rfl rfl (by kernel_rfl) (by kernel_rfl) (by kernel_rfl) (fun _ _ _ h => h) (Or.inl ⟨by rfl, fun u _ => ?_⟩) ?_
  · go_simp
  try simp only [Act.put, List.setIfInBounds_toArray, List.set_cons_zero, List.set_cons_succ]
  refine wpAnyL_done (by kernel_rfl) ?_ _
  try simp only [Act.put, List.setIfInBounds_toArray, List.set_cons_zero, List.set_cons_succ]
  have HBE := Lib.hid (HB0.out.trans ((HB1.out.trans (hj2.mono HB1.out.size)).mono HB0.out.size))
  have HR9 := Lib.hid hr9
  clear hj0 hj1 hj2 hb9 hr9 hrz
  go_wp2
  go_ret2
  exact ⟨p9, q9, by rw [HR.out.1, HR.out.2]; rfl, by rw [HR.out.2]; exact HR9.out, HBE.out⟩
end Go.Proofs.Ytgejkgeojjgclaa
