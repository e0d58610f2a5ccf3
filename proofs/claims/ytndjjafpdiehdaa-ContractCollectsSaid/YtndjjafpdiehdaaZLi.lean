/- The reference: collecting, subdividing, new numbers of single edges. -/
import Derived.Test.YtndjjafpdiehdaaZLh
import Derived.Test.YtndjjafpdiehdaaZLe
import Derived.Test.YtndjjafpdiehdaaQ16
namespace Go.Proofs.Ytndjjafpdiehdaa
open Go.RowKit Go.Shelf Go.Proofs.Gr
attribute [local go_sem] Oper.semAt_some

set_option maxHeartbeats 12800000 in
set_option maxRecDepth 100000 in
theorem rCol_sg (n : Int) (a : Option Addr) (cap : Nat) (L : List E) (hL : L.length ≤ 100000) (e : Int) (b : Option Addr) (c : Nat) (D : List Int) (hk : sgE n L e ≠ 0) (w : World) (h : EsAt w a L) :
    Calls Try.prog 31 #[gv n a L.length cap, .int .i64 e, .slice b D.length c] w (GivesIK w [] (sgE n L e)) := by
  have HC := Lib.hid (fun w h => rsingle_any n a cap L hL e w h)
  generalize sgE n L e = k at *
  have q0 : (((k : Nat) : Int) != 0) = true := by rw [bne_iff_ne]; omega
  unfold GivesIK gv at *
  obtain ⟨W, hW⟩ : ∃ W, W = w.alloc (Obj.cells #[.int .i64 n, .slice a L.length cap] 24) := ⟨_, rfl⟩
  have hB0 : Below w.heap.size w W := by rw [hW]; exact (Below.refl _ w).alloc (Nat.le_refl _) _
  have hG : Blk W w.heap.size 24 #[.int .i64 n, .slice a L.length cap] := by rw [hW]; exact Blk.new _ _ _
  have hWs : W.heap.size = w.heap.size + 1 := by rw [hW]; simp
  have HW := Lib.hid hW
  have HWS := Lib.hid hWs
  have HB0 := Lib.hid hB0
  have HE := Lib.hid (h.keep hB0)
  have HF : Hid (∀ u, Below W.heap.size W u → u.cell? ⟨w.heap.size, 0, none⟩ = some (.int .i64 n) ∧ u.cell? ⟨w.heap.size, 1, none⟩ = some (.slice a L.length cap)) := Lib.hid fun u hu => ⟨(hG.below hu hG.lt).cell 0, (hG.below hu hG.lt).cell 1⟩
  obtain ⟨g0, g1⟩ := HF.out W (Below.refl _ _)
  clear hB0 hG hW hWs h
  go_enter Try.func31, Try.ntmps31
  go_wp2_with fail
  rw [← HW.out]
  refine (HC.out _ HE.out).mono ?_
  rintro r w1 ⟨rfl, hb⟩
  clear g0 g1
  have HEND := Lib.hid (HB0.out.trans (hb.mono HB0.out.size))
  clear hb
  go_wp2
  go_ret2
  exact ⟨none, 0, rfl, RowAt.nil _ _ _ _, HEND.out⟩
set_option maxHeartbeats 12800000 in
set_option maxRecDepth 100000 in
theorem rCol_dv (n : Int) (a : Option Addr) (cap : Nat) (L : List E) (hL : L.length ≤ 100000) (e : Int) (b : Option Addr) (c : Nat) (D : List Int) (hD : D.length ≤ 100000) (h0 : sgE n L e = 0) (hk : dvE n D ≠ 0) (w : World) (h : EsAt w a L) (hd : IsAt w b D) :
    Calls Try.prog 31 #[gv n a L.length cap, .int .i64 e, .slice b D.length c] w (GivesIK w [] (dvE n D)) := by
  have HC := Lib.hid (fun w h => rsingle_any n a cap L hL e w h)
  have HDV := Lib.hid (fun w h hd => rchips_any n a cap L b c D hD w h hd)
  rw [h0] at HC
  generalize dvE n D = kk at *
  have q0 : (((kk : Nat) : Int) != 0) = true := by rw [bne_iff_ne]; omega
  unfold GivesIK gv at *
  unfold GivesN at HDV
  obtain ⟨W, hW⟩ : ∃ W, W = w.alloc (Obj.cells #[.int .i64 n, .slice a L.length cap] 24) := ⟨_, rfl⟩
  have hB0 : Below w.heap.size w W := by rw [hW]; exact (Below.refl _ w).alloc (Nat.le_refl _) _
  have hG : Blk W w.heap.size 24 #[.int .i64 n, .slice a L.length cap] := by rw [hW]; exact Blk.new _ _ _
  have hWs : W.heap.size = w.heap.size + 1 := by rw [hW]; simp
  have HW := Lib.hid hW
  have HWS := Lib.hid hWs
  have HB0 := Lib.hid hB0
  have HE := Lib.hid (h.keep hB0)
  have HF : Hid (∀ u, Below W.heap.size W u → u.cell? ⟨w.heap.size, 0, none⟩ = some (.int .i64 n) ∧ u.cell? ⟨w.heap.size, 1, none⟩ = some (.slice a L.length cap)) := Lib.hid fun u hu => ⟨(hG.below hu hG.lt).cell 0, (hG.below hu hG.lt).cell 1⟩
  obtain ⟨g0, g1⟩ := HF.out W (Below.refl _ _)
  have HD := Lib.hid (hd.keep hB0)
  clear hd hB0 hG hW hWs h
  go_enter Try.func31, Try.ntmps31
  go_wp2_with fail
  rw [← HW.out]
  refine (HC.out _ HE.out).mono ?_
  rintro r w1 ⟨rfl, hb⟩
  clear g0 g1
  obtain ⟨g0, g1⟩ := HF.out w1 hb
  go_wp2_with fail
  refine (HDV.out _ (HE.out.keep hb) (HD.out.keep hb)).mono ?_
  rintro r w2 ⟨rfl, hb2⟩
  have hk2 := hb.trans (hb2.mono hb.size)
  clear hb hb2 g0 g1
  have HEND := Lib.hid (HB0.out.trans (hk2.mono HB0.out.size))
  clear hk2
  go_wp2
  go_ret2
  exact ⟨none, 0, rfl, RowAt.nil _ _ _ _, HEND.out⟩
set_option maxHeartbeats 12800000 in
set_option maxRecDepth 100000 in
theorem rCol_ok (N : Nat) (a : Option Addr) (cap : Nat) (L : List E) (hL : L.length ≤ 100000) (e : Nat) (b : Option Addr) (c : Nat) (D : List Int) (hD : D.length ≤ 100000) (h0 : sgE N L e = 0) (hk : dvE N D = 0) (w : World) (h : EsAt w a L) (hd : IsAt w b D) :
    Calls Try.prog 31 #[gv N a L.length cap, .int .i64 e, .slice b D.length c] w (GivesIK w (colR (mgF (pAt (endsG L) e)) D (mgF (pAt (endsG L) e) N).toNat) (colK (mgF (pAt (endsG L) e)) D (mgF (pAt (endsG L) e) N).toNat)) := by
  have HC := Lib.hid (fun w h => rsingle_any N a cap L hL e w h)
  have HDV := Lib.hid (fun w h hd => rchips_any N a cap L b c D hD w h hd)
  rw [hk] at HDV
  rw [h0] at HC
  have hDn : (D.length : Int) = N ∧ D.all rngD = true := by
    unfold dvE at hk
    split at hk
    · omega
    · split at hk
      · exact ⟨by omega, by assumption⟩
      · omega
  obtain ⟨hDn, hDr⟩ := hDn
  obtain ⟨h1, -, he⟩ := sgE_zero h0
  have hR := right_of h1
  have hep : e < (endsG L).length := by omega
  have hpe := ends_in hR (pAt (endsG L) e) (by rw [← pAt_get _ e hep]; exact List.getElem_mem hep)
  have hfn := mgF_n (n := N) hpe.1 hpe.2
  have hnr := hR.hi
  have hnl := hR.lo
  obtain ⟨M, hM⟩ : ∃ M : Nat, mgF (pAt (endsG L) e) N = M := ⟨(mgF (pAt (endsG L) e) N).toNat, by
    have : 0 ≤ mgF (pAt (endsG L) e) N := by rw [hfn]; split <;> omega
    omega⟩
  have hM12 : M ≤ 12 := by rw [hM] at hfn; split at hfn <;> omega
  have HCO := Lib.hid (fun w h hd => rCollected_any N a cap L hL hR e hep b c D hD (by omega) hDr M hM w h hd)
  rw [hM, show ((M : Nat) : Int).toNat = M by omega]
  have hcl0 := colL_len (mgF (pAt (endsG L) e)) D M N
  have hDN : D.length = N := by omega
  have HCR : Hid (colR (mgF (pAt (endsG L) e)) D M = if (colL (mgF (pAt (endsG L) e)) D M N).all rngD = true then colL (mgF (pAt (endsG L) e)) D M N else []) := Lib.hid (by unfold colR; rw [hDN])
  have HCK : Hid (colK (mgF (pAt (endsG L) e)) D M = if (colL (mgF (pAt (endsG L) e)) D M N).all rngD = true then 0 else 11) := Lib.hid (by unfold colK; rw [hDN])
  generalize colR (mgF (pAt (endsG L) e)) D M = RR at *
  generalize colK (mgF (pAt (endsG L) e)) D M = KK at *
  generalize colL (mgF (pAt (endsG L) e)) D M N = CL at *
  have HCH : Hid (∀ d c w, IsAt w d CL → Calls Try.prog 74 #[.agg #[.int .i64 (CL.length : Nat), .slice none 0 0], .slice d CL.length c] w (fun e w' => e = .returned (.int .i64 ((if CL.all rngD = true then 0 else 2 : Nat) : Nat)) ∧ Below w.heap.size w w')) := Lib.hid fun d c w h => by
    have := rchips_any (CL.length : Nat) none 0 [] d c CL (by omega) w (RowAt.nil _ _ _ _) h
    unfold dvE GivesN at this
    rw [if_neg (by simp)] at this
    exact this
  unfold GivesIK gv at *
  unfold GivesI at HCO
  unfold GivesN at HDV
  clear hfn hM hk h0 h1 hpe hDr hR he hDn hDN hcl0 hep hnr hnl
  cases hal : CL.all rngD
  · rw [hal] at HCR HCK HCH
    rw [if_neg (by simp)] at HCR HCK HCH
    have q0 : (((2 : Nat) : Int) != 0) = true := by decide
    clear hal
    obtain ⟨W, hW⟩ : ∃ W, W = w.alloc (Obj.cells #[.int .i64 N, .slice a L.length cap] 24) := ⟨_, rfl⟩
    have hB0 : Below w.heap.size w W := by rw [hW]; exact (Below.refl _ w).alloc (Nat.le_refl _) _
    have hG : Blk W w.heap.size 24 #[.int .i64 N, .slice a L.length cap] := by rw [hW]; exact Blk.new _ _ _
    have hWs : W.heap.size = w.heap.size + 1 := by rw [hW]; simp
    have HW := Lib.hid hW
    have HWS := Lib.hid hWs
    have HB0 := Lib.hid hB0
    have HE := Lib.hid (h.keep hB0)
    have HF : Hid (∀ u, Below W.heap.size W u → u.cell? ⟨w.heap.size, 0, none⟩ = some (.int .i64 N) ∧ u.cell? ⟨w.heap.size, 1, none⟩ = some (.slice a L.length cap)) := Lib.hid fun u hu => ⟨(hG.below hu hG.lt).cell 0, (hG.below hu hG.lt).cell 1⟩
    obtain ⟨g0, g1⟩ := HF.out W (Below.refl _ _)
    have HD := Lib.hid (hd.keep hB0)
    clear hd hB0 hG hW hWs h
    go_enter Try.func31, Try.ntmps31
    go_wp2_with fail
    rw [← HW.out]
    refine (HC.out _ HE.out).mono ?_
    rintro r w1 ⟨rfl, hb⟩
    clear g0 g1
    obtain ⟨g0, g1⟩ := HF.out w1 hb
    go_wp2_with fail
    refine (HDV.out _ (HE.out.keep hb) (HD.out.keep hb)).mono ?_
    rintro r w2 ⟨rfl, hb2⟩
    have hk2 := hb.trans (hb2.mono hb.size)
    clear hb hb2 g0 g1
    obtain ⟨g0, g1⟩ := HF.out w2 hk2
    go_wp2_with fail
    refine (HCO.out _ (HE.out.keep hk2) (HD.out.keep hk2)).mono ?_
    rintro r w3 ⟨a5, c5, rfl, hcl, hb3⟩
    have hk3 := hk2.trans (hb3.mono hk2.size)
    clear hk2 hb3 g0 g1
    go_wp2_with fail
    refine (HCH.out _ _ _ hcl).mono ?_
    rintro r w4 ⟨rfl, hb4⟩
    have hk4 := hk3.trans (hb4.mono hk3.size)
    have HCL2 := Lib.hid (hcl.keep hb4)
    have HEND := Lib.hid (HB0.out.trans (hk4.mono HB0.out.size))
    clear hk3 hb4 hk4 hcl
    go_wp2
    go_ret2
    exact ⟨none, 0, by rw [HCR.out, HCK.out]; rfl, by rw [HCR.out]; exact RowAt.nil _ _ _ _, HEND.out⟩
  · rw [hal] at HCR HCK HCH
    rw [if_pos rfl] at HCR HCK HCH
    clear hal
    obtain ⟨W, hW⟩ : ∃ W, W = w.alloc (Obj.cells #[.int .i64 N, .slice a L.length cap] 24) := ⟨_, rfl⟩
    have hB0 : Below w.heap.size w W := by rw [hW]; exact (Below.refl _ w).alloc (Nat.le_refl _) _
    have hG : Blk W w.heap.size 24 #[.int .i64 N, .slice a L.length cap] := by rw [hW]; exact Blk.new _ _ _
    have hWs : W.heap.size = w.heap.size + 1 := by rw [hW]; simp
    have HW := Lib.hid hW
    have HWS := Lib.hid hWs
    have HB0 := Lib.hid hB0
    have HE := Lib.hid (h.keep hB0)
    have HF : Hid (∀ u, Below W.heap.size W u → u.cell? ⟨w.heap.size, 0, none⟩ = some (.int .i64 N) ∧ u.cell? ⟨w.heap.size, 1, none⟩ = some (.slice a L.length cap)) := Lib.hid fun u hu => ⟨(hG.below hu hG.lt).cell 0, (hG.below hu hG.lt).cell 1⟩
    obtain ⟨g0, g1⟩ := HF.out W (Below.refl _ _)
    have HD := Lib.hid (hd.keep hB0)
    clear hd hB0 hG hW hWs h
    go_enter Try.func31, Try.ntmps31
    go_wp2_with fail
    rw [← HW.out]
    refine (HC.out _ HE.out).mono ?_
    rintro r w1 ⟨rfl, hb⟩
    clear g0 g1
    obtain ⟨g0, g1⟩ := HF.out w1 hb
    go_wp2_with fail
    refine (HDV.out _ (HE.out.keep hb) (HD.out.keep hb)).mono ?_
    rintro r w2 ⟨rfl, hb2⟩
    have hk2 := hb.trans (hb2.mono hb.size)
    clear hb hb2 g0 g1
    obtain ⟨g0, g1⟩ := HF.out w2 hk2
    go_wp2_with fail
    refine (HCO.out _ (HE.out.keep hk2) (HD.out.keep hk2)).mono ?_
    rintro r w3 ⟨a5, c5, rfl, hcl, hb3⟩
    have hk3 := hk2.trans (hb3.mono hk2.size)
    clear hk2 hb3 g0 g1
    go_wp2_with fail
    refine (HCH.out _ _ _ hcl).mono ?_
    rintro r w4 ⟨rfl, hb4⟩
    have hk4 := hk3.trans (hb4.mono hk3.size)
    have HCL2 := Lib.hid (hcl.keep hb4)
    have HEND := Lib.hid (HB0.out.trans (hk4.mono HB0.out.size))
    clear hk3 hb4 hk4 hcl
    go_wp2
    go_ret2
    exact ⟨a5, c5, by rw [HCR.out, HCK.out]; rfl, by rw [HCR.out]; exact HCL2.out, HEND.out⟩
set_option maxHeartbeats 12800000 in
set_option maxRecDepth 100000 in
theorem rFiner_any (n : Int) (a : Option Addr) (cap : Nat) (L : List E) (hL : L.length ≤ 100000) (q : Nat) (hq : q ≤ 11) (hR : Right n L) (hx : n + (q : Int) * (endsG L).length ≤ 12) (m : Int) (J : List E) (k : Nat) (hM : Makes (n + (q : Int) * (endsG L).length) (subP n q (endsG L) (endsG L).length) m J k) (w : World) (h : EsAt w a L) :
    Calls Try.prog 72 #[gv n a L.length cap, .int .i64 ((q : Int) + 1)] w (GivesG1 w m J) := by
  obtain ⟨i0, hi0, hz0, hz1, hz2⟩ := info_parts infoP
  have HC := Lib.hid (fun w h => rends_any n a cap L hL hR w h)
  have hnr := hR.lo
  obtain ⟨hJl, -, hM⟩ := hM
  have hln : (endsG L).length ≤ 50 * 100000 := by have := ends_all hR; omega
  generalize endsG L = P at *
  have p0 : 0 ≤ (q : Int) * (P.length : Int) := Int.mul_nonneg (by omega) (by omega)
  have p1 : (q : Int) * (P.length : Int) ≤ 11 * (P.length : Int) := Int.mul_le_mul_of_nonneg_right (by omega) (by omega)
  have HM := Lib.hid hM
  have HSL : Hid (∀ i, i ≤ P.length → (subP n q P i).length ≤ 60000000) := Lib.hid fun i hi => by
    rw [subP_len]
    have h1 : i * (q + 1) ≤ P.length * 12 := Nat.mul_le_mul hi (by omega)
    omega
  have HNL : Hid (∀ i, i ≤ P.length → 1 ≤ nxP n q i ∧ nxP n q i ≤ 12) := Lib.hid fun i hi => by
    have h1 := nxP_low n q i
    have h2 := nxP_mono n q i P.length hi
    rw [nxP_eq n q P.length] at h2
    omega
  have HNE : Hid (nxP n q P.length = n + (q : Int) * P.length) := Lib.hid (nxP_eq n q P.length)
  have HS0 : Hid (subP n q P 0 = []) := Lib.hid rfl
  have HSS : Hid (∀ i, subP n q P (i + 1) = subP n q P i ++ wayP (pAt P i).1 (nxP n q i) q ++ [(lastP (pAt P i).1 (nxP n q i) q, (pAt P i).2)]) := Lib.hid fun i => rfl
  have HN0 : Hid (nxP n q 0 = n) := Lib.hid rfl
  have HNS : Hid (∀ i, nxP n q (i + 1) = nxP n q i + q) := Lib.hid fun i => rfl
  have HW0 : Hid (∀ x nx, wayP x nx 0 = []) := Lib.hid fun _ _ => rfl
  have HYS : Hid (∀ x nx j, wayP x nx (j + 1) = wayP x nx j ++ [(lastP x nx j, nx + j)]) := Lib.hid fun _ _ _ => rfl
  have HWL := Lib.hid wayP_len
  have HL0 : Hid (∀ x nx, lastP x nx 0 = x) := Lib.hid fun _ _ => rfl
  have HLS := Lib.hid lastP_succ
  have HX0 : Hid (∀ nx : Int, nx + ((0 : Nat) : Int) = nx) := Lib.hid fun nx => by simp
  have HXS : Hid (∀ (nx : Int) (j : Nat), nx + ((j + 1 : Nat) : Int) = nx + (j : Int) + 1) := Lib.hid fun nx j => by omega
  generalize subP n q P = S at *
  generalize nxP n q = NX at *
  unfold GivesG1 gv at *
  unfold GivesGE gv at *
  unfold GivesP at HC
  clear hM hR
  obtain ⟨W, hW⟩ : ∃ W, W = (w.alloc (Obj.cells #[.int .i64 n, .slice a L.length cap] 24)).alloc (Obj.cells #[.int .i64 0, .slice none 0 0] 24) := ⟨_, rfl⟩
  have hB0 : Below w.heap.size w W := by rw [hW]; exact ((Below.refl _ w).alloc (Nat.le_refl _) _).alloc (by simp) _
  have hG : Blk W w.heap.size 24 #[.int .i64 n, .slice a L.length cap] := by rw [hW]; exact (Blk.new _ _ _).alloc _
  have hWs : W.heap.size = w.heap.size + 2 := by rw [hW]; simp
  have hR : Blk W (w.heap.size + 1) 24 #[.int .i64 0, .slice none 0 0] := by
    rw [hW]
    have := Blk.new (w.alloc (Obj.cells #[.int .i64 n, .slice a L.length cap] 24)) 24 #[.int .i64 0, .slice none 0 0]
    rwa [World.size_alloc] at this
  have HR1 := Lib.hid hR
  have HW := Lib.hid hW
  have HWS := Lib.hid hWs
  have HB0 := Lib.hid hB0
  have HE := Lib.hid (h.keep hB0)
  have HF : Hid (∀ u, Below W.heap.size W u → u.cell? ⟨w.heap.size, 0, none⟩ = some (.int .i64 n) ∧ u.cell? ⟨w.heap.size, 1, none⟩ = some (.slice a L.length cap)) := Lib.hid fun u hu => ⟨(hG.below hu hG.lt).cell 0, (hG.below hu hG.lt).cell 1⟩
  obtain ⟨g0, g1⟩ := HF.out W (Below.refl _ _)
  clear hB0 hG hW hWs h hR
  go_enter Try.func72, Try.ntmps72
  go_wp2_with fail
  rw [← HW.out]
  refine (HC.out _ HE.out).mono ?_
  rintro r w1 ⟨a1, c1, rfl, hp1, hb⟩
  clear g0 g1
  obtain ⟨g0, g1⟩ := HF.out w1 hb
  have HB1 := Lib.hid hb
  have HP := Lib.hid hp1
  clear hb hp1
  go_wp2
  clear g0 g1
  go_loopw [6, 7, 8] (fun u s x wr => ∃ i : Nat, i ≤ P.length ∧ x = .int .i64 i ∧ u = .int .i64 (NX i) ∧ wr.ownsRow w1.heap.size 25 2 s (S i).length (flat encP (S i)) ∧ Below w1.heap.size w1 wr) (fun _ _ x _ => P.length - (intOf x).toNat)
  case atStart => exact ⟨0, by omega, rfl, by rw [HN0.out], by rw [HS0.out]; exact World.ownsRow_nil _ _ _ _, Below.refl _ _⟩
  case round =>
    obtain ⟨i, hi, rfl, rfl, hown, hb⟩ := hrel
    by_cases hlt : i < P.length
    · have i1 : (i : Int) < (P.length : Int) := by omega
      have i2 : (0 : Int) ≤ (i : Int) := by omega
      obtain ⟨b1, o1, hbb, q1, x1, x2⟩ := (HP.out.keep hb).two i hlt
      subst hbb
      have HSn := Lib.hid (HSS.out i)
      have HNn := Lib.hid (HNS.out i)
      have hnl := HNL.out i (by omega)
      have hnu := HNL.out (i + 1) (by omega)
      rw [HNn.out] at hnu
      have hsl := HSL.out i (by omega)
      obtain ⟨ta, tb, HPI⟩ : ∃ ta tb, Hid (pAt P i = (ta, tb)) := ⟨_, _, Lib.hid rfl⟩
      have HX12 : Hid (∀ u, Below w1.heap.size w1 u → u.cell? ⟨b1, o1 + i * 2, none⟩ = some (.int .i64 ta) ∧ u.cell? ⟨b1, o1 + i * 2 + 1, none⟩ = some (.int .i64 tb)) := Lib.hid fun u hu => by
        obtain ⟨b5, o5, e1, -, y1, y2⟩ := (HP.out.keep hu).two i hlt
        simp only [Option.some.injEq, Addr.mk.injEq] at e1
        obtain ⟨rfl, rfl, -⟩ := e1
        rw [HPI.out] at y1 y2
        exact ⟨y1, y2⟩
      rw [HPI.out] at x1 x2 HSn
      simp only at x1 x2 HSn
      generalize NX i = nx at *
      generalize S i = Si at *
      have HOW0 := Lib.hid hown
      have HBW0 := Lib.hid hb
      clear hown hb
      go_wp2
      clear x1 x2
      go_loopw [6, 7, 9, 10] (fun u s l x wr => ∃ j : Nat, j ≤ q ∧ x = .int .i64 ((j : Int) + 1) ∧ u = .int .i64 (nx + j) ∧ l = .int .i64 (lastP ta nx j) ∧ wr.ownsRow w1.heap.size 25 2 s (Si ++ wayP ta nx j).length (flat encP (Si ++ wayP ta nx j)) ∧ Below w1.heap.size w1 wr) (fun _ _ _ x _ => q + 1 - (intOf x).toNat)
      case atStart => exact ⟨0, by omega, rfl, by rw [HX0.out nx], by rw [HL0.out ta nx], by rw [HW0.out ta nx]; simpa using HOW0.out, HBW0.out⟩
      case round =>
        obtain ⟨j, hj, rfl, rfl, rfl, hown, hb⟩ := hrel
        have HOW := Lib.hid hown
        have HBr := Lib.hid hb
        have hwl := HWL.out ta nx j
        have HWn := Lib.hid (HYS.out ta nx j)
        have HLn := Lib.hid (HLS.out ta nx j)
        have hll : (Si ++ wayP ta nx j).length = Si.length + j := by rw [List.length_append, hwl]
        generalize hQQ : Si ++ wayP ta nx j = SW at *
        have hsw : SW.length ≤ 60000020 := by rw [hll]; omega
        generalize hla : lastP ta nx j = la at *
        have HLA := Lib.hid hla
        obtain ⟨x1, x2⟩ := HX12.out wr hb
        clear hla hll hown hb hwl
        by_cases hlj : j < q
        · have j1 : (j : Int) + 1 < (q : Int) + 1 := by omega
          have c5 : IntKind.i64.wrap (nx + (j : Int) + 1) = nx + (j : Int) + 1 := IntWalk.i64_in _ (by omega)
          have c6 : IntKind.i64.wrap ((j : Int) + 1 + 1) = (j : Int) + 1 + 1 := IntWalk.i64_in _ (by omega)
          have HSW : Hid (Si ++ wayP ta nx (j + 1) = SW ++ [(la, nx + j)]) := Lib.hid (by rw [HWn.out, ← List.append_assoc, hQQ])
          clear hQQ HWn
          go_wp2_with (at_builtin; refine wpList_append_own _ rfl _ _ 56 rfl w1.heap.size 25 i0 (.agg #[.int .i64 0, .int .i64 0]) 2 16 Try.underlying56 hi0 hz0 hz1 hz2 rfl (by decide) _ _ _ rfl (HOW.out.alloc _) ⟨_, 0, none⟩ 1 1 [.int .i64 la, .int .i64 (nx + j)] rfl rfl (lit_row _ _ _) (by simp [Value.oneCell']) (by unfold maxLen; omega) (by omega) (by rw [World.size_alloc]; have := HBr.out.size; omega) ?_; intro v1 w3 hown1 hgrow1 _; have hB3 : Below w1.heap.size w1 w3 := below_push (w := w1) HBr.out (fun k hk => (HOW.out.lt k hk).1) hgrow1)
          have HOW3 : Hid (w3.ownsRow w1.heap.size 25 2 v1 (SW ++ [(la, nx + (j : Int))]).length (flat encP (SW ++ [(la, nx + (j : Int))]))) := by
            rw [List.length_append, flatP_snoc]
            exact hown1
          have HB3 := Lib.hid hB3
          clear hown1 hgrow1 hB3 x1 x2
          go_wp2
          go_roundw
          case rel => exact ⟨j + 1, by omega, by push_cast; rfl, by rw [HXS.out nx j], by rw [HLn.out], by rw [HSW.out]; exact HOW3.out, HB3.out⟩
          case measure => simp [intOf]; omega
        · obtain rfl : j = q := by omega
          have j1 : ¬ (j : Int) + 1 < (j : Int) + 1 := by omega
          have HSW : Hid (S (i + 1) = SW ++ [(la, tb)]) := Lib.hid (by rw [HSn.out, ← hQQ, HLA.out])
          clear hQQ HWn
          go_wp2_with (at_builtin; refine wpList_append_own _ rfl _ _ 56 rfl w1.heap.size 25 i0 (.agg #[.int .i64 0, .int .i64 0]) 2 16 Try.underlying56 hi0 hz0 hz1 hz2 rfl (by decide) _ _ _ rfl (HOW.out.alloc _) ⟨_, 0, none⟩ 1 1 [.int .i64 la, .int .i64 tb] rfl rfl (lit_row _ _ _) (by simp [Value.oneCell']) (by unfold maxLen; omega) (by omega) (by rw [World.size_alloc]; have := HBr.out.size; omega) ?_; intro v1 w3 hown1 hgrow1 _; have hB3 : Below w1.heap.size w1 w3 := below_push (w := w1) HBr.out (fun k hk => (HOW.out.lt k hk).1) hgrow1)
          have HOW3 : Hid (w3.ownsRow w1.heap.size 25 2 v1 (SW ++ [(la, tb)]).length (flat encP (SW ++ [(la, tb)]))) := by
            rw [List.length_append, flatP_snoc]
            exact hown1
          have HB3 := Lib.hid hB3
          clear hown1 hgrow1 hB3 x1 x2
          go_wp2
          go_roundw
          case rel => exact ⟨i + 1, by omega, by go_num, by rw [HNn.out], by rw [HSW.out]; exact HOW3.out, HB3.out⟩
          case measure => simp [intOf]; omega
    · obtain rfl : i = P.length := by omega
      have i1 : ¬ (P.length : Int) < (P.length : Int) := by omega
      obtain ⟨sa, sc, rfl, hps⟩ := RowAt.of_own encP_len hown
      clear hown
      have hk2 : Below W.heap.size W wr := HB1.out.trans (hb.mono HB1.out.size)
      clear hb
      rw [HNE.out]
      go_wp2_with fail
      refine (HM.out _ _ _ hps).mono ?_
      rintro r x5 ⟨a2, c2, rfl, hes5, he2, hb5⟩
      clear hps
      have hj5 : Below W.heap.size W x5 := hk2.trans (hb5.mono hk2.size)
      obtain ⟨X, hX⟩ : ∃ X, X = (x5.alloc (Obj.cells #[.int .i64 m, .slice a2 J.length c2] 24)) := ⟨_, rfl⟩
      have hj : Below W.heap.size W X := by rw [hX]; exact hj5.alloc hj5.size _
      have hkb : Away a2 J.length (w.heap.size + 1) := away_own he2 (.inl (by have := hk2.size; have := HWS.out; omega))
      have HFR : Hid (∀ p, p < w.heap.size → Away a2 J.length p) := Lib.hid fun p hp => away_own he2 (.inl (by have := hk2.size; have := HWS.out; omega))
      have hes : EsAt X a2 J := by rw [hX]; exact hes5.keep ((Below.refl _ _).alloc (Nat.le_refl _) _)
      have hRr : Blk X (w.heap.size + 1) 24 #[.int .i64 0, .slice none 0 0] := HR1.out.below hj HR1.out.lt
      obtain ⟨r1, r3, r2, r4, r5, r6, hes2, hbf2, -⟩ := tail_away _ (w.heap.size + 1) w.heap.size m J a2 c2 hes hkb hRr
      have HES := Lib.hid hes2
      have HBF := Lib.hid (hbf2 w (HB0.out.trans (hj.mono HB0.out.size)) (by omega))
      rw [hX] at r1 r2 r3 r4 r5 r6 HES HBF
      clear hX hkb hes hj hRr hes2 hbf2 hj5 hk2 he2 hes5 hb5
      go_wp2
      refine bodyPost_ret (v := .agg #[.int .i64 m, .slice a2 J.length c2]) (by simp [results, Try.results72, go_sem, r5, r6]) rfl ?_
      exact ⟨a2, c2, rfl, HES.out, HFR.out, HBF.out⟩
set_option maxHeartbeats 12800000 in
set_option maxRecDepth 100000 in
theorem rSub_err (n : Int) (a : Option Addr) (cap : Nat) (L : List E) (hL : L.length ≤ 100000) (k : Int) (hk : subKE n L k ≠ 0) (w : World) (h : EsAt w a L) :
    Calls Try.prog 26 #[gv n a L.length cap, .int .i64 k] w (GivesGW w 0 [] (subKE n L k)) := by
  have HC := Lib.hid (fun w h => rfiner_any n a cap L hL k w h)
  generalize subKE n L k = kk at *
  have q0 : (((kk : Nat) : Int) != 0) = true := by rw [bne_iff_ne]; omega
  unfold GivesN at HC
  unfold GivesGW gv at *
  obtain ⟨W, hW⟩ : ∃ W, W = (w.alloc (Obj.cells #[.int .i64 n, .slice a L.length cap] 24)).alloc (Obj.cells #[.int .i64 0, .slice none 0 0] 24) := ⟨_, rfl⟩
  have hB0 : Below w.heap.size w W := by rw [hW]; exact ((Below.refl _ w).alloc (Nat.le_refl _) _).alloc (by simp) _
  have hG : Blk W w.heap.size 24 #[.int .i64 n, .slice a L.length cap] := by rw [hW]; exact (Blk.new _ _ _).alloc _
  have hWs : W.heap.size = w.heap.size + 2 := by rw [hW]; simp
  have hR : Blk W (w.heap.size + 1) 24 #[.int .i64 0, .slice none 0 0] := by
    rw [hW]
    have := Blk.new (w.alloc (Obj.cells #[.int .i64 n, .slice a L.length cap] 24)) 24 #[.int .i64 0, .slice none 0 0]
    rwa [World.size_alloc] at this
  have HR1 := Lib.hid hR
  have HW := Lib.hid hW
  have HWS := Lib.hid hWs
  have HB0 := Lib.hid hB0
  have HE := Lib.hid (h.keep hB0)
  have HF : Hid (∀ u, Below W.heap.size W u → u.cell? ⟨w.heap.size, 0, none⟩ = some (.int .i64 n) ∧ u.cell? ⟨w.heap.size, 1, none⟩ = some (.slice a L.length cap)) := Lib.hid fun u hu => ⟨(hG.below hu hG.lt).cell 0, (hG.below hu hG.lt).cell 1⟩
  obtain ⟨g0, g1⟩ := HF.out W (Below.refl _ _)
  clear hB0 hG hW hWs h hR
  go_enter Try.func26, Try.ntmps26
  go_wp2_with fail
  rw [← HW.out]
  refine (HC.out _ HE.out).mono ?_
  rintro r w1 ⟨rfl, hb⟩
  clear g0 g1
  have hRr : Blk w1 (w.heap.size + 1) 24 #[.int .i64 0, .slice none 0 0] := HR1.out.below hb HR1.out.lt
  have r1 : w1.cell? ⟨w.heap.size + 1, 0, none⟩ = some (.int .i64 0) := hRr.cell 0
  have r3 : w1.frozen? ⟨w.heap.size + 1, 0, none⟩ = false := hRr.frozen 0
  have r2 : w1.cell? ⟨w.heap.size + 1, 1, none⟩ = some (.slice none 0 0) := hRr.cell 1
  have r4 : w1.frozen? ⟨w.heap.size + 1, 1, none⟩ = false := hRr.frozen 1
  have r7 : (w1.setCell ⟨w.heap.size + 1, 0, none⟩ (.int .i64 0)).cell? ⟨w.heap.size + 1, 1, none⟩ = some (.slice none 0 0) := (hRr.set_ 0 (.int .i64 0)).cell 1
  have r8 : (w1.setCell ⟨w.heap.size + 1, 0, none⟩ (.int .i64 0)).frozen? ⟨w.heap.size + 1, 1, none⟩ = false := (hRr.set_ 0 (.int .i64 0)).frozen 1
  have HEND := Lib.hid (HB0.out.trans (hb.mono HB0.out.size))
  have HEND2 := Lib.hid ((HEND.out.setCell (p := ⟨w.heap.size + 1, 0, none⟩) (by show w.heap.size ≤ w.heap.size + 1; omega) (.int .i64 0)).setCell (p := ⟨w.heap.size + 1, 1, none⟩) (by show w.heap.size ≤ w.heap.size + 1; omega) (.slice none 0 0))
  have r5 : ((w1.setCell ⟨w.heap.size + 1, 0, none⟩ (.int .i64 0)).setCell ⟨w.heap.size + 1, 1, none⟩ (.slice none 0 0)).cell? ⟨w.heap.size + 1, 0, none⟩ = some (.int .i64 0) := ((hRr.set_ 0 (.int .i64 0)).set_ 1 (.slice none 0 0)).cell 0
  have r6 : ((w1.setCell ⟨w.heap.size + 1, 0, none⟩ (.int .i64 0)).setCell ⟨w.heap.size + 1, 1, none⟩ (.slice none 0 0)).cell? ⟨w.heap.size + 1, 1, none⟩ = some (.slice none 0 0) := ((hRr.set_ 0 (.int .i64 0)).set_ 1 (.slice none 0 0)).cell 1
  clear hRr hb
  go_wp2
  refine bodyPost_ret (v := .tuple #[.agg #[.int .i64 0, .slice none 0 0], .int .i64 (kk : Nat)]) (by simp [results, Try.results26, go_sem, r5, r6]) rfl ?_
  exact ⟨none, 0, rfl, RowAt.nil _ _ _ _, by first | exact HEND2.out | exact HEND.out⟩
set_option maxHeartbeats 12800000 in
set_option maxRecDepth 100000 in
theorem rSub_ok (n : Int) (a : Option Addr) (cap : Nat) (L : List E) (hL : L.length ≤ 100000) (q : Nat) (hk : subKE n L ((q : Int) + 1) = 0) (m : Int) (J : List E) (k : Nat) (hM : Makes (n + (q : Int) * (endsG L).length) (subP n q (endsG L) (endsG L).length) m J k) (w : World) (h : EsAt w a L) :
    Calls Try.prog 26 #[gv n a L.length cap, .int .i64 ((q : Int) + 1)] w (GivesGW w m J 0) := by
  have HC := Lib.hid (fun w h => rfiner_any n a cap L hL ((q : Int) + 1) w h)
  obtain ⟨h0, q', hq, hqe, hx⟩ := subKE_zero hk
  obtain rfl : q' = q := by omega
  have HN := Lib.hid (fun w h => rFiner_any n a cap L hL q' hq (right_of h0) hx m J k hM w h)
  have hJl := hM.1
  rw [hk] at HC
  unfold GivesN at HC
  unfold GivesG1 at HN
  unfold GivesGW gv at *
  clear hM hk h0 hx hqe
  obtain ⟨W, hW⟩ : ∃ W, W = (w.alloc (Obj.cells #[.int .i64 n, .slice a L.length cap] 24)).alloc (Obj.cells #[.int .i64 0, .slice none 0 0] 24) := ⟨_, rfl⟩
  have hB0 : Below w.heap.size w W := by rw [hW]; exact ((Below.refl _ w).alloc (Nat.le_refl _) _).alloc (by simp) _
  have hG : Blk W w.heap.size 24 #[.int .i64 n, .slice a L.length cap] := by rw [hW]; exact (Blk.new _ _ _).alloc _
  have hWs : W.heap.size = w.heap.size + 2 := by rw [hW]; simp
  have hR : Blk W (w.heap.size + 1) 24 #[.int .i64 0, .slice none 0 0] := by
    rw [hW]
    have := Blk.new (w.alloc (Obj.cells #[.int .i64 n, .slice a L.length cap] 24)) 24 #[.int .i64 0, .slice none 0 0]
    rwa [World.size_alloc] at this
  have HR1 := Lib.hid hR
  have HW := Lib.hid hW
  have HWS := Lib.hid hWs
  have HB0 := Lib.hid hB0
  have HE := Lib.hid (h.keep hB0)
  have HF : Hid (∀ u, Below W.heap.size W u → u.cell? ⟨w.heap.size, 0, none⟩ = some (.int .i64 n) ∧ u.cell? ⟨w.heap.size, 1, none⟩ = some (.slice a L.length cap)) := Lib.hid fun u hu => ⟨(hG.below hu hG.lt).cell 0, (hG.below hu hG.lt).cell 1⟩
  obtain ⟨g0, g1⟩ := HF.out W (Below.refl _ _)
  clear hB0 hG hW hWs h hR
  go_enter Try.func26, Try.ntmps26
  go_wp2_with fail
  rw [← HW.out]
  refine (HC.out _ HE.out).mono ?_
  rintro r w1 ⟨rfl, hb⟩
  clear g0 g1
  obtain ⟨g0, g1⟩ := HF.out w1 hb
  go_wp2_with fail
  refine (HN.out _ (HE.out.keep hb)).mono ?_
  rintro r w2 ⟨a2, c2, rfl, hes, hfr, hb2⟩
  have hk2 : Below W.heap.size W w2 := hb.trans (hb2.mono hb.size)
  have hak : Away a2 J.length (w.heap.size + 1) := hfr _ (by have := hb.size; have := HWS.out; omega)
  clear g0 g1 hb hb2 hfr
  have hRr : Blk w2 (w.heap.size + 1) 24 #[.int .i64 0, .slice none 0 0] := HR1.out.below hk2 HR1.out.lt
  obtain ⟨r1, r3, r2, r4, r5, r6, hes2, hbf2, -⟩ := tail_away w2 (w.heap.size + 1) w.heap.size m J a2 c2 hes hak hRr
  have HES := Lib.hid hes2
  have HBF := Lib.hid (hbf2 w (HB0.out.trans (hk2.mono HB0.out.size)) (by omega))
  clear hRr hes2 hbf2 hes hk2 hak
  go_wp2
  refine bodyPost_ret (v := .tuple #[.agg #[.int .i64 m, .slice a2 J.length c2], .int .i64 0]) (by simp [results, Try.results26, go_sem, r5, r6]) rfl ?_
  exact ⟨a2, c2, rfl, HES.out, HBF.out⟩
set_option maxHeartbeats 12800000 in
set_option maxRecDepth 100000 in
theorem rSingles_err (n : Int) (a : Option Addr) (cap : Nat) (L : List E) (hL : L.length ≤ 100000) (e : Int) (hk : sgE n L e ≠ 0) (w : World) (h : EsAt w a L) :
    Calls Try.prog 24 #[gv n a L.length cap, .int .i64 e] w (GivesII w [] [] (sgE n L e)) := by
  have HC := Lib.hid (fun w h => rsingle_any n a cap L hL e w h)
  generalize sgE n L e = k at *
  have q0 : (((k : Nat) : Int) != 0) = true := by rw [bne_iff_ne]; omega
  unfold GivesII gv at *
  obtain ⟨W, hW⟩ : ∃ W, W = w.alloc (Obj.cells #[.int .i64 n, .slice a L.length cap] 24) := ⟨_, rfl⟩
  have hB0 : Below w.heap.size w W := by rw [hW]; exact (Below.refl _ w).alloc (Nat.le_refl _) _
  have hG : Blk W w.heap.size 24 #[.int .i64 n, .slice a L.length cap] := by rw [hW]; exact Blk.new _ _ _
  have hWs : W.heap.size = w.heap.size + 1 := by rw [hW]; simp
  have HW := Lib.hid hW
  have HWS := Lib.hid hWs
  have HB0 := Lib.hid hB0
  have HE := Lib.hid (h.keep hB0)
  have HF : Hid (∀ u, Below W.heap.size W u → u.cell? ⟨w.heap.size, 0, none⟩ = some (.int .i64 n) ∧ u.cell? ⟨w.heap.size, 1, none⟩ = some (.slice a L.length cap)) := Lib.hid fun u hu => ⟨(hG.below hu hG.lt).cell 0, (hG.below hu hG.lt).cell 1⟩
  obtain ⟨g0, g1⟩ := HF.out W (Below.refl _ _)
  clear hB0 hG hW hWs h
  go_enter Try.func24, Try.ntmps24
  go_wp2_with fail
  rw [← HW.out]
  refine (HC.out _ HE.out).mono ?_
  rintro r w1 ⟨rfl, hb⟩
  clear g0 g1
  have HEND := Lib.hid (HB0.out.trans (hb.mono HB0.out.size))
  clear hb
  go_wp2
  refine bodyPost_ret (v := .tuple #[.slice none 0 0, .slice none 0 0, .int .i64 (k : Nat)]) (by simp [results, Try.results24, go_sem]) rfl ?_
  exact ⟨none, 0, none, 0, rfl, RowAt.nil _ _ _ _, RowAt.nil _ _ _ _, HEND.out⟩
set_option maxHeartbeats 12800000 in
set_option maxRecDepth 100000 in
theorem rSingles_ok (N : Nat) (a : Option Addr) (cap : Nat) (L : List E) (hL : L.length ≤ 100000) (e : Nat) (hk : sgE N L e = 0) (h20 : (endsG L).length ≤ 100000) (w : World) (h : EsAt w a L) :
    Calls Try.prog 24 #[gv N a L.length cap, .int .i64 e] w (GivesII w (plc (endsG L) e) (plc (mvP (mgF (pAt (endsG L) e)) (endsG L)) e) 0) := by
  have HC := Lib.hid (fun w h => rsingle_any N a cap L hL e w h)
  rw [hk] at HC
  obtain ⟨h0, -, he⟩ := sgE_zero hk
  have HN := Lib.hid (fun w h => rnumbers_any N a cap L hL (right_of h0) e (by omega) h20 w h)
  rw [plc_asc (ends_asc (right_of h0)) e]
  generalize lessL (endsG L).length e = LS at *
  generalize plc (mvP (mgF (pAt (endsG L) e)) (endsG L)) e = SS at *
  unfold GivesII gv at *
  clear hk h0 he h20
  obtain ⟨W, hW⟩ : ∃ W, W = w.alloc (Obj.cells #[.int .i64 N, .slice a L.length cap] 24) := ⟨_, rfl⟩
  have hB0 : Below w.heap.size w W := by rw [hW]; exact (Below.refl _ w).alloc (Nat.le_refl _) _
  have hG : Blk W w.heap.size 24 #[.int .i64 N, .slice a L.length cap] := by rw [hW]; exact Blk.new _ _ _
  have hWs : W.heap.size = w.heap.size + 1 := by rw [hW]; simp
  have HW := Lib.hid hW
  have HWS := Lib.hid hWs
  have HB0 := Lib.hid hB0
  have HE := Lib.hid (h.keep hB0)
  have HF : Hid (∀ u, Below W.heap.size W u → u.cell? ⟨w.heap.size, 0, none⟩ = some (.int .i64 N) ∧ u.cell? ⟨w.heap.size, 1, none⟩ = some (.slice a L.length cap)) := Lib.hid fun u hu => ⟨(hG.below hu hG.lt).cell 0, (hG.below hu hG.lt).cell 1⟩
  obtain ⟨g0, g1⟩ := HF.out W (Below.refl _ _)
  clear hB0 hG hW hWs h
  go_enter Try.func24, Try.ntmps24
  go_wp2_with fail
  rw [← HW.out]
  refine (HC.out _ HE.out).mono ?_
  rintro r w1 ⟨rfl, hb⟩
  clear g0 g1
  obtain ⟨g0, g1⟩ := HF.out w1 hb
  go_wp2_with fail
  refine (HN.out _ (HE.out.keep hb)).mono ?_
  rintro r w2 ⟨a1, c1, a2, c2, rfl, h1, h2, hb2⟩
  have H1 := Lib.hid h1
  have H2 := Lib.hid h2
  have HEND := Lib.hid (HB0.out.trans ((hb.trans (hb2.mono hb.size)).mono HB0.out.size))
  clear g0 g1 hb hb2 h1 h2
  go_wp2
  refine bodyPost_ret (v := .tuple #[.slice a1 LS.length c1, .slice a2 SS.length c2, .int .i64 0]) (by simp [results, Try.results24, go_sem]) rfl ?_
  exact ⟨a1, c1, a2, c2, rfl, H1.out, H2.out, HEND.out⟩
end Go.Proofs.Ytndjjafpdiehdaa
