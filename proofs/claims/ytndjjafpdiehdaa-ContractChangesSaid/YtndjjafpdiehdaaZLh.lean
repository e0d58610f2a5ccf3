/- The reference: divisors that are spread and collected. -/
import Derived.Test.YtndjjafpdiehdaaZLg
namespace Go.Proofs.Ytndjjafpdiehdaa
open Go.RowKit Go.Shelf Go.Proofs.Gr
attribute [local go_sem] Oper.semAt_some

set_option maxHeartbeats 12800000 in
set_option maxRecDepth 100000 in
theorem rSpr_sub (n : Int) (a : Option Addr) (cap : Nat) (L : List E) (hL : L.length ≤ 100000) (k : Int) (b : Option Addr) (c : Nat) (D : List Int) (hk : subKE n L k ≠ 0) (w : World) (h : EsAt w a L) :
    Calls Try.prog 28 #[gv n a L.length cap, .int .i64 k, .slice b D.length c] w (GivesIK w [] (subKE n L k)) := by
  have HC := Lib.hid (fun w h => rfiner_any n a cap L hL k w h)
  generalize subKE n L k = kk at *
  have q0 : (((kk : Nat) : Int) != 0) = true := by rw [bne_iff_ne]; omega
  unfold GivesIK gv at *
  unfold GivesN at HC
  obtain ⟨W, hW⟩ : ∃ W, W = w.alloc (Obj.cells #[.int .i64 n, .slice a L.length cap] 24) := ⟨_, rfl⟩
  have hB0 : Below w.heap.size w W := by rw [hW]; exact (Below.refl _ w).alloc (Nat.le_refl _) _
  have hG : Blk W w.heap.size 24 #[.int .i64 n, .slice a L.length cap] := by rw [hW]; exact Blk.new _ _ _
  have hWs : W.heap.size = w.heap.size + 1 := by rw [hW]; simp
  have HW := Lib.hid hW
  have HWS := Lib.hid hWs
  have HB0 := Lib.hid hB0
  have HE := Lib.hid (h.keep hB0)
  have HF : Hid (∀ u, Below W.heap.size W u → u.cell? ⟨w.heap.size, 0, none⟩ = some (.int .i64 n) ∧ u.cell? ⟨w.heap.size, 1, none⟩ = some (.slice a L.length cap)) := Lib.hid fun u hu => ⟨(hG.below hu hG.lt).cell 0, (hG.below hu hG.lt).cell 1⟩
  obtain ⟨g0, g1⟩ := HF.out W (Below.refl _ _)
  clear hB0 hG hW hWs h
  go_enter Try.func28, Try.ntmps28
  go_wp2_with fail
  rw [← HW.out]
  refine (HC.out _ HE.out).mono ?_
  rintro r w1 ⟨rfl, hb⟩
  clear g0 g1
  have HEND := Lib.hid (HB0.out.trans (hb.mono HB0.out.size))
  clear hb
  go_wp2
  go_ret2
  exact ⟨none, 0, rfl, RowAt.nil _ _ _ _, HEND.out⟩
set_option maxHeartbeats 12800000 in
set_option maxRecDepth 100000 in
theorem rSpr_dv (n : Int) (a : Option Addr) (cap : Nat) (L : List E) (hL : L.length ≤ 100000) (k : Int) (b : Option Addr) (c : Nat) (D : List Int) (hD : D.length ≤ 100000) (hs : subKE n L k = 0) (hk : dvE n D ≠ 0) (w : World) (h : EsAt w a L) (hd : IsAt w b D) :
    Calls Try.prog 28 #[gv n a L.length cap, .int .i64 k, .slice b D.length c] w (GivesIK w [] (dvE n D)) := by
  have HC := Lib.hid (fun w h => rfiner_any n a cap L hL k w h)
  have HDV := Lib.hid (fun w h hd => rchips_any n a cap L b c D hD w h hd)
  rw [hs] at HC
  generalize dvE n D = kk at *
  have q0 : (((kk : Nat) : Int) != 0) = true := by rw [bne_iff_ne]; omega
  unfold GivesIK gv at *
  unfold GivesN at HC HDV
  obtain ⟨W, hW⟩ : ∃ W, W = w.alloc (Obj.cells #[.int .i64 n, .slice a L.length cap] 24) := ⟨_, rfl⟩
  have hB0 : Below w.heap.size w W := by rw [hW]; exact (Below.refl _ w).alloc (Nat.le_refl _) _
  have hG : Blk W w.heap.size 24 #[.int .i64 n, .slice a L.length cap] := by rw [hW]; exact Blk.new _ _ _
  have hWs : W.heap.size = w.heap.size + 1 := by rw [hW]; simp
  have HW := Lib.hid hW
  have HWS := Lib.hid hWs
  have HB0 := Lib.hid hB0
  have HE := Lib.hid (h.keep hB0)
  have HF : Hid (∀ u, Below W.heap.size W u → u.cell? ⟨w.heap.size, 0, none⟩ = some (.int .i64 n) ∧ u.cell? ⟨w.heap.size, 1, none⟩ = some (.slice a L.length cap)) := Lib.hid fun u hu => ⟨(hG.below hu hG.lt).cell 0, (hG.below hu hG.lt).cell 1⟩
  obtain ⟨g0, g1⟩ := HF.out W (Below.refl _ _)
  have HD := Lib.hid (hd.keep hB0)
  clear hd hB0 hG hW hWs h
  go_enter Try.func28, Try.ntmps28
  go_wp2_with fail
  rw [← HW.out]
  refine (HC.out _ HE.out).mono ?_
  rintro r w1 ⟨rfl, hb⟩
  clear g0 g1
  obtain ⟨g0, g1⟩ := HF.out w1 hb
  go_wp2_with fail
  refine (HDV.out _ (HE.out.keep hb) (HD.out.keep hb)).mono ?_
  rintro r w2 ⟨rfl, hb2⟩
  have hk2 := hb.trans (hb2.mono hb.size)
  clear hb hb2 g0 g1
  have HEND := Lib.hid (HB0.out.trans (hk2.mono HB0.out.size))
  clear hk2
  go_wp2
  go_ret2
  exact ⟨none, 0, rfl, RowAt.nil _ _ _ _, HEND.out⟩
set_option maxHeartbeats 12800000 in
set_option maxRecDepth 100000 in
theorem rSpr_ok (n : Int) (a : Option Addr) (cap : Nat) (L : List E) (hL : L.length ≤ 100000) (q : Nat) (b : Option Addr) (c : Nat) (D : List Int) (hD : D.length ≤ 100000) (hs : subKE n L ((q : Int) + 1) = 0) (hk : dvE n D = 0) (w : World) (h : EsAt w a L) (hd : IsAt w b D) :
    Calls Try.prog 28 #[gv n a L.length cap, .int .i64 ((q : Int) + 1), .slice b D.length c] w (GivesIK w (D ++ List.replicate (q * (endsG L).length) 0) 0) := by
  obtain ⟨i0, hi0, hz0, hz1, hz2⟩ := info_parts infoI
  have HC := Lib.hid (fun w h => rfiner_any n a cap L hL ((q : Int) + 1) w h)
  have HDV := Lib.hid (fun w h hd => rchips_any n a cap L b c D hD w h hd)
  have hDn : (D.length : Int) = n := by
    unfold dvE at hk
    split at hk
    · omega
    · omega
  obtain ⟨h0, q', hq, hqe, hx⟩ := subKE_zero hs
  obtain rfl : q' = q := by omega
  have hR := right_of h0
  have hnr := chkG_n h0
  have HZ := Lib.hid (fun w h => rsize_any n a cap L hL hR w h)
  rw [← endsG_len hR.rng] at HZ
  rw [hs] at HC
  rw [hk] at HDV
  generalize (endsG L).length = z at *
  have hp0 : 0 ≤ (q' : Int) * (z : Int) := Int.mul_nonneg (by omega) (by omega)
  obtain ⟨K, hK0⟩ : ∃ K : Nat, K = q' * z := ⟨_, rfl⟩
  have hK1 : ((K : Nat) : Int) = (q' : Int) * (z : Int) := by rw [hK0, Int.natCast_mul]
  have c1 : IntKind.i64.wrap ((q' : Int) + 1 - 1) = (q' : Int) := by rw [show (q' : Int) + 1 - 1 = q' by omega]; exact IntWalk.i64_in _ (by omega)
  have c4' : IntKind.i64.wrap (q' : Int) = (q' : Int) := IntWalk.i64_in _ (by omega)
  have c2 : IntKind.i64.wrap ((q' : Int) * (z : Int)) = ((K : Nat) : Int) := by rw [← hK1]; exact IntWalk.i64_in _ (by omega)
  rw [← hK0]
  have hKs : K ≤ 12 := by omega
  have hDl : D.length ≤ 12 := by omega
  have hD0 : 0 < D.length := by omega
  have HLEN : Hid ((D ++ List.replicate K (0 : Int)).length = D.length + K) := Lib.hid (by rw [List.length_append, List.length_replicate])
  unfold GivesIK gv at *
  unfold GivesN at HC HDV HZ
  clear hs hk hx hp0 hK0 hK1 hR h0 hqe
  obtain ⟨W, hW⟩ : ∃ W, W = w.alloc (Obj.cells #[.int .i64 n, .slice a L.length cap] 24) := ⟨_, rfl⟩
  have hB0 : Below w.heap.size w W := by rw [hW]; exact (Below.refl _ w).alloc (Nat.le_refl _) _
  have hG : Blk W w.heap.size 24 #[.int .i64 n, .slice a L.length cap] := by rw [hW]; exact Blk.new _ _ _
  have hWs : W.heap.size = w.heap.size + 1 := by rw [hW]; simp
  have HW := Lib.hid hW
  have HWS := Lib.hid hWs
  have HB0 := Lib.hid hB0
  have HE := Lib.hid (h.keep hB0)
  have HF : Hid (∀ u, Below W.heap.size W u → u.cell? ⟨w.heap.size, 0, none⟩ = some (.int .i64 n) ∧ u.cell? ⟨w.heap.size, 1, none⟩ = some (.slice a L.length cap)) := Lib.hid fun u hu => ⟨(hG.below hu hG.lt).cell 0, (hG.below hu hG.lt).cell 1⟩
  obtain ⟨g0, g1⟩ := HF.out W (Below.refl _ _)
  have HD := Lib.hid (hd.keep hB0)
  clear hd hB0 hG hW hWs h
  go_enter Try.func28, Try.ntmps28
  go_wp2_with fail
  rw [← HW.out]
  refine (HC.out _ HE.out).mono ?_
  rintro r w1 ⟨rfl, hb⟩
  clear g0 g1
  obtain ⟨g0, g1⟩ := HF.out w1 hb
  go_wp2_with fail
  refine (HDV.out _ (HE.out.keep hb) (HD.out.keep hb)).mono ?_
  rintro r w2 ⟨rfl, hb2⟩
  have hk2 := hb.trans (hb2.mono hb.size)
  clear hb hb2 g0 g1
  obtain ⟨b1, o1, hbb, -, -⟩ := HD.out 0 (by omega)
  subst hbb
  have hsr1 : Hid (∀ u, Below W.heap.size W u → ∀ t v, (flat encI D)[t]? = some v → u.cell? ((⟨b1, o1, none⟩ : Addr).add t) = some v) := Lib.hid fun u hu t v hv => (HD.out.keep hu).cells (by decide) encI_len t v hv
  have s1 : Hid ((flat encI D).length = D.length * 1) := Lib.hid (flat_len encI_len D)
  have ONE : Hid (∀ Q : List Int, ∀ u ∈ flat encI Q, u.oneCell' = true) := Lib.hid fun Q u hu => by
    rw [flatI_map] at hu
    obtain ⟨z, -, rfl⟩ := List.mem_map.1 hu
    rfl
  go_wp2_with fail
  have hj0 : Below W.heap.size W w2.drew := hk2.drew
  refine wp_region_late (S := fun u => Below W.heap.size W u) (X := []) (by kernel_rfl) ?_
  refine wpAnyL_pureD (i := 1) 23 (.slice (some ⟨b1, o1, none⟩) D.length c) rfl rfl (by kernel_rfl) (by kernel_rfl) (by kernel_rfl) (fun _ _ _ h => h) (Or.inl ⟨by rfl, fun u _ => ?_⟩) ?_
  · go_simp
  try simp only [Act.put, List.setIfInBounds_toArray, List.set_cons_zero, List.set_cons_succ]
  refine wpAnyL_pureD (i := 3) 25 (.int .i64 ((q' : Int) + 1)) rfl rfl (by kernel_rfl) (by kernel_rfl) (by kernel_rfl) (fun _ _ _ h => h) (Or.inl ⟨by rfl, fun u _ => ?_⟩) ?_
  · go_simp
  try simp only [Act.put, List.setIfInBounds_toArray, List.set_cons_zero, List.set_cons_succ]
  refine wpAnyL_pureD (i := 4) 26 (.int .i64 q') rfl rfl (by kernel_rfl) (by kernel_rfl) (by kernel_rfl) (fun _ _ _ h => h) (Or.inl ⟨by rfl, fun u _ => ?_⟩) ?_
  · go_simp
  try simp only [Act.put, List.setIfInBounds_toArray, List.set_cons_zero, List.set_cons_succ]
  refine wpAnyL_takeD (i := 5) 27 (.agg #[.int .i64 n, .slice a L.length cap]) rfl rfl (by kernel_rfl) (by kernel_rfl) (by kernel_rfl) (by kernel_rfl) (by kernel_rfl) (fun _ _ _ h => h) hj0 (Or.inl ⟨by rfl, fun u hu => ?_⟩) ?_
  · obtain ⟨t0, t1⟩ := HF.out u hu
    go_simp
  try simp only [Act.put, List.setIfInBounds_toArray, List.set_cons_zero, List.set_cons_succ]
  refine wpAnyL_one (i := 0) (by kernel_rfl) rfl (fun K2 hK => ?_)
  go_simp
  obtain ⟨x2, hx2⟩ : ∃ x2, x2 = (w2.alloc (Obj.cells #[] 3)).drew := ⟨_, rfl⟩
  have hj2 : Below W.heap.size W x2 := by rw [hx2]; exact (hk2.alloc hk2.size _).drew
  have hown1 : x2.ownsRow W.heap.size 3 1 (.slice (some ⟨w2.heap.size, 0, none⟩) 0 0) 0 [] := by
    rw [hx2]
    exact own_keep (World.ownsRow_made w2 #[] 0 hk2.size (Nat.zero_le _) rfl) (Below.refl _ _).drew
  rw [← hx2]
  refine hK.out _ _ (fun _ _ => hj2) ?_
  clear hK K2 hx2 hj0 hk2
  try simp only [Act.put, List.setIfInBounds_toArray, List.set_cons_zero, List.set_cons_succ]
  refine wpAnyL_one (i := 2) (by kernel_rfl) rfl (fun K2 hK => ?_)
  rw [if_pos (by rfl)]
  refine wp_append_own _ _ _ 48 rfl W.heap.size 3 i0 (.int .i64 0) 1 8 Try.underlying48 hi0 hz0 hz1 hz2 rfl (by decide) _ 0 [] rfl hown1 ⟨b1, o1, none⟩ D.length c (flat encI D) rfl s1.out (hsr1.out _ hj2) (ONE.out _) (by unfold maxLen; omega) (by omega) (hj2.size) ?_
  intro v3 x3 hown2 hgr2 _
  have hj3 : Below W.heap.size W x3 := hj2.grown hgr2 hj2.size (fun k hk => (hown1.lt k hk).1)
  refine hK.out (Act.put _ (some 24) v3) x3 (fun _ _ => hj3) ?_
  clear hK K2 hgr2 hj2 hown1
  rw [List.nil_append, Nat.zero_add] at hown2
  obtain ⟨g3, c3, hv3⟩ : ∃ g3 c3, v3 = .slice (some ⟨g3, 0, none⟩) D.length c3 := by
    rcases hown2.2 with ⟨_, h0⟩ | ⟨g, c3, cur, hv, -⟩
    · omega
    · exact ⟨g, c3, hv⟩
  subst hv3
  try simp only [Act.put, List.setIfInBounds_toArray, List.set_cons_zero, List.set_cons_succ]
  refine wpAnyL_one (i := 6) (by kernel_rfl) rfl (fun K hK => ?_)
  go_simp
  go_at_call 35
  refine (HZ.out _ (HE.out.keep hj3)).mono ?_
  rintro r x5 ⟨rfl, hb1⟩
  have hj5 := hj3.trans (hb1.mono hj3.size)
  have hown5 := own_keep hown2 hb1
  clear hj3 hb1 hown2
  show K _ _
  refine hK.out _ _ (fun _ _ => hj5) ?_
  clear hK K
  try simp only [Act.put, List.setIfInBounds_toArray, List.set_cons_zero, List.set_cons_succ]
  refine wpAnyL_pureD (i := 7) 29 (.int .i64 (K : Nat)) rfl rfl (by kernel_rfl) (by kernel_rfl) (by kernel_rfl) (fun _ _ _ h => h) (Or.inl ⟨by rfl, fun u _ => ?_⟩) ?_
  · go_simp
  try simp only [Act.put, List.setIfInBounds_toArray, List.set_cons_zero, List.set_cons_succ]
  refine wpAnyL_one (i := 8) (by kernel_rfl) rfl (fun K2 hK => ?_)
  rw [if_pos (by rfl)]
  obtain ⟨a4, c4, x4, hr4, hrow, hbl⟩ := append_zeros x5 W.heap.size g3 c3 D K (by omega) _ hown5
  have hj4 := hbl W hj5
  refine Go.Lib.wp_append_run x5 (.tmp 24) (.tmp 29) 48 3 rfl _ _ rfl rfl _ x4 hr4 ?_
  refine hK.out (Act.put _ (some 30) (.slice a4 (D.length + K) c4)) x4 (fun _ _ => hj4) ?_
  clear hK K2 hbl hr4 hown5 hj5
  try simp only [Act.put, List.setIfInBounds_toArray, List.set_cons_zero, List.set_cons_succ]
  refine wpAnyL_pureD (i := 9) 6 (.slice a4 (D.length + K) c4) rfl rfl (by kernel_rfl) (by kernel_rfl) (by kernel_rfl) (fun _ _ _ h => h) (Or.inl ⟨by rfl, fun u _ => ?_⟩) ?_
  · go_simp
  try simp only [Act.put, List.setIfInBounds_toArray, List.set_cons_zero, List.set_cons_succ]
  refine wpAnyL_pureD (i := 10) 7 (.int .i64 0) rfl rfl (by kernel_rfl) (by kernel_rfl) (by kernel_rfl) (fun _ _ _ h => h) (Or.inl ⟨by rfl, fun u _ => ?_⟩) ?_
  · go_simp
  try simp only [Act.put, List.setIfInBounds_toArray, List.set_cons_zero, List.set_cons_succ]
  refine wpAnyL_done (by kernel_rfl) ?_ _
  try simp only [Act.put, List.setIfInBounds_toArray, List.set_cons_zero, List.set_cons_succ]
  have HROW := Lib.hid hrow
  have HEND := Lib.hid (HB0.out.trans (hj4.mono HB0.out.size))
  clear hrow hj4
  go_wp2
  go_ret2
  exact ⟨a4, c4, by rw [HLEN.out]; rfl, HROW.out, HEND.out⟩
theorem last_place {n : Int} {p : Int × Int} (h1 : 0 ≤ p.1 ∧ p.1 < n) (h2 : 0 ≤ p.2 ∧ p.2 < n) : (mgF p (n - 1) < n - 2 → mgF p n = n - 1) ∧ (¬ mgF p (n - 1) < n - 2 → mgF p n = mgF p (n - 1) + 1) := by
  have := mn_mx p
  unfold mgF
  split <;> split <;> (try split) <;> (try split) <;> omega
set_option maxHeartbeats 12800000 in
set_option maxRecDepth 100000 in
theorem rCollected_any (N : Nat) (a : Option Addr) (cap : Nat) (L : List E) (hL : L.length ≤ 100000) (hR : Right N L) (e : Nat) (he : e < (endsG L).length) (b : Option Addr) (c : Nat) (D : List Int) (hD : D.length ≤ 100000) (hDn : D.length = N) (hDr : D.all rngD = true) (M : Nat) (hM : mgF (pAt (endsG L) e) N = M) (w : World) (h : EsAt w a L) (hd : IsAt w b D) :
    Calls Try.prog 76 #[gv N a L.length cap, .int .i64 e, .slice b D.length c] w (GivesI w (colL (mgF (pAt (endsG L) e)) D M N)) := by
  have HPL := Lib.hid (fun w h => rplaces_any N a cap L hL hR e he w h)
  have HDA := Lib.hid (all_at hDr)
  have hnr := hR.lo
  have hnh := hR.hi
  have hpe := ends_in hR (pAt (endsG L) e) (by rw [← pAt_get _ e he]; exact List.getElem_mem he)
  have HLP := last_place hpe.1 hpe.2
  have HFR : Hid (∀ v : Nat, v < N → 0 ≤ mgF (pAt (endsG L) e) v ∧ mgF (pAt (endsG L) e) v < M) := Lib.hid fun v hv => by
    have := mgF_rng (n := N) hpe.1 hpe.2 v (by omega)
    rwa [hM] at this
  have hM12 : M ≤ 12 := by
    have := mgF_n (n := N) hpe.1 hpe.2
    rw [hM] at this
    split at this <;> omega
  rw [hM] at HLP
  have hpat : ∀ i, i < N → iAt (plL N (mgF (pAt (endsG L) e))) i = mgF (pAt (endsG L) e) i := fun i hi => plL_at N _ i hi
  have hpln := plL_len N (mgF (pAt (endsG L) e))
  have HC0 : Hid (colL (mgF (pAt (endsG L) e)) D M 0 = List.replicate M 0) := Lib.hid rfl
  have HCS : Hid (∀ i : Nat, colL (mgF (pAt (endsG L) e)) D M (i + 1) = (colL (mgF (pAt (endsG L) e)) D M i).set (mgF (pAt (endsG L) e) i).toNat (iAt (colL (mgF (pAt (endsG L) e)) D M i) (mgF (pAt (endsG L) e) i).toNat + iAt D i)) := Lib.hid fun i => rfl
  have HCL := Lib.hid (fun i => colL_len (mgF (pAt (endsG L) e)) D M i)
  have HCB := Lib.hid (fun i h j => colL_low (mgF (pAt (endsG L) e)) D HDA.out M i h j)
  generalize plL N (mgF (pAt (endsG L) e)) = PLL at *
  generalize colL (mgF (pAt (endsG L) e)) D M = CL at *
  generalize mgF (pAt (endsG L) e) = f at *
  obtain ⟨v9, hv9⟩ : ∃ v9 : Nat, f ((N : Int) - 1) = v9 := by
    have := HFR.out (N - 1) (by omega)
    rw [show ((N - 1 : Nat) : Int) = (N : Int) - 1 by omega] at this
    exact ⟨(f ((N : Int) - 1)).toNat, by omega⟩
  have hv9m : v9 < M := by
    have := HFR.out (N - 1) (by omega)
    rw [show ((N - 1 : Nat) : Int) = (N : Int) - 1 by omega] at this
    omega
  rw [hv9] at HLP
  obtain ⟨hlp1, hlp2⟩ := HLP
  have HPAT := Lib.hid hpat
  have HV9 := Lib.hid hv9
  obtain ⟨n1, hn1⟩ : ∃ n1 : Nat, (N : Int) - 1 = n1 := ⟨N - 1, by omega⟩
  obtain ⟨M9, hM9⟩ : ∃ M9 : Nat, (v9 : Int) + 1 = M9 := ⟨v9 + 1, by omega⟩
  have c1 : IntKind.i64.wrap ((N : Int) - 1) = (n1 : Int) := by rw [hn1]; exact IntWalk.i64_in _ (by omega)
  have c2 : IntKind.i64.wrap ((N : Int) - 2) = (N : Int) - 2 := IntWalk.i64_in _ (by omega)
  have c3' : IntKind.i64.wrap ((v9 : Int) + 1) = (M9 : Int) := by rw [hM9]; exact IntWalk.i64_in _ (by omega)
  have i5 : (n1 : Int) < (PLL.length : Int) := by omega
  have i6 : (0 : Int) ≤ (n1 : Int) := by omega
  have i7 : M9 ≤ 12 := by omega
  have i8 : n1 ≤ 12 := by omega
  have hm1 : ((v9 : Int) < (N : Int) - 2 → M = n1) ∧ (¬ (v9 : Int) < (N : Int) - 2 → M = M9) := ⟨fun h => by have := hlp1 h; omega, fun h => by have := hlp2 h; omega⟩
  have HV8 : Hid (f (n1 : Int) = v9) := Lib.hid (by rw [← hn1]; exact HV9.out)
  have hn1N : n1 < N := by omega
  have HDN := Lib.hid hDn
  have hD0 : 0 < D.length := by omega
  clear hn1 hM9 hlp1 hlp2 HV9 hDn
  unfold GivesI gv at *
  clear hpe hpat hv9 hDr
  obtain ⟨W, hW⟩ : ∃ W, W = w.alloc (Obj.cells #[.int .i64 N, .slice a L.length cap] 24) := ⟨_, rfl⟩
  have hB0 : Below w.heap.size w W := by rw [hW]; exact (Below.refl _ w).alloc (Nat.le_refl _) _
  have hG : Blk W w.heap.size 24 #[.int .i64 N, .slice a L.length cap] := by rw [hW]; exact Blk.new _ _ _
  have hWs : W.heap.size = w.heap.size + 1 := by rw [hW]; simp
  have HW := Lib.hid hW
  have HWS := Lib.hid hWs
  have HB0 := Lib.hid hB0
  have HE := Lib.hid (h.keep hB0)
  have HF : Hid (∀ u, Below W.heap.size W u → u.cell? ⟨w.heap.size, 0, none⟩ = some (.int .i64 N) ∧ u.cell? ⟨w.heap.size, 1, none⟩ = some (.slice a L.length cap)) := Lib.hid fun u hu => ⟨(hG.below hu hG.lt).cell 0, (hG.below hu hG.lt).cell 1⟩
  obtain ⟨g0, g1⟩ := HF.out W (Below.refl _ _)
  have HD := Lib.hid (hd.keep hB0)
  clear hd hB0 hG hW hWs h
  go_enter Try.func76, Try.ntmps76
  go_wp2_with fail
  rw [← HW.out]
  refine (HPL.out _ HE.out).mono ?_
  rintro r w1 ⟨a3, c3, rfl, hpl, hb⟩
  clear g0 g1
  obtain ⟨g0, g1⟩ := HF.out w1 hb
  obtain ⟨b3, o3, hbb, -, -⟩ := hpl 0 (by omega)
  subst hbb
  obtain ⟨b2, o2, hbb, -, -⟩ := HD.out 0 (by omega)
  subst hbb
  have HPW := Lib.hid hpl
  have HB1 := Lib.hid hb
  have HDT : Hid (∀ u, Below W.heap.size W u → ∀ i, i < D.length → u.cell? ⟨b2, o2 + i, none⟩ = some (.int .i64 (iAt D i))) := Lib.hid fun u hu i hi => by
    obtain ⟨b5, o5, e1, -, y1⟩ := (HD.out.keep hu).one i hi
    simp only [Option.some.injEq, Addr.mk.injEq] at e1
    obtain ⟨rfl, rfl, -⟩ := e1
    exact y1
  have HTW : Hid (∀ u, Below w1.heap.size w1 u → ∀ i, i < N → u.cell? ⟨b3, o3 + i, none⟩ = some (.int .i64 (f i))) := Lib.hid fun u hu i hi => by
    obtain ⟨b5, o5, e1, -, y1⟩ := (HPW.out.keep hu).one i (by omega)
    simp only [Option.some.injEq, Addr.mk.injEq] at e1
    obtain ⟨rfl, rfl, -⟩ := e1
    rw [HPAT.out i hi] at y1
    exact y1
  have HT9 : Hid (∀ u, Below w1.heap.size w1 u → u.cell? ⟨b3, o3 + n1, none⟩ = some (.int .i64 v9)) := Lib.hid fun u hu => by
    have := HTW.out u hu n1 hn1N
    rwa [HV8.out] at this
  have y9 := HT9.out w1 (Below.refl _ _)
  have hmk : (Instr.makeSlice 48 (.int .i64 (M9 : Int)) (.int .i64 (M9 : Int))).run Try.prog w1 = .ok (.slice (some ⟨w1.heap.size, 0, none⟩) M9 M9) (w1.alloc (.cells (flat encI (List.replicate M9 0)).toArray 3)) := make_divs M9 (by omega) _
  obtain ⟨x3, hx3⟩ : ∃ x3, x3 = w1.alloc (.cells (flat encI (List.replicate M9 0)).toArray 3) := ⟨_, rfl⟩
  obtain ⟨gp, hgp⟩ : ∃ gp, gp = w1.heap.size := ⟨_, rfl⟩
  have hrb : RowB encI 3 x3 gp (List.replicate M9 0) := by rw [hx3, hgp]; exact RowB.new _ _ _ _
  have hk5 : Below w1.heap.size w1 x3 := by rw [hx3]; exact (Below.refl _ _).alloc (Nat.le_refl _) _
  rw [← hx3, ← hgp] at hmk
  have HGP0 : Hid (w1.heap.size ≤ gp) := Lib.hid (Nat.le_of_eq hgp.symm)
  have HRB0 := Lib.hid hrb
  clear hx3 hgp hrb hpl hb
  go_wp2_with fail
  clear hmk g0 g1 y9
  by_cases hr : (v9 : Int) < (N : Int) - 2
  · obtain rfl : M = n1 := hm1.1 (by omega)
    have hj0 : Below w1.heap.size w1 x3.drew := hk5.drew
    refine wp_region_late (S := fun u => Below w1.heap.size w1 u) (X := []) (by kernel_rfl) ?_
    refine wpAnyL_pureD (i := 0) 21 (.slice (some ⟨b3, o3, none⟩) PLL.length c3) rfl rfl (by kernel_rfl) (by kernel_rfl) (by kernel_rfl) (fun _ _ _ h => h) (Or.inl ⟨by rfl, fun u _ => ?_⟩) ?_
    · go_simp
    try simp only [Act.put, List.setIfInBounds_toArray, List.set_cons_zero, List.set_cons_succ]
    refine wpAnyL_pureD (i := 1) 22 (.pointer (some ⟨w.heap.size, 0, none⟩)) rfl rfl (by kernel_rfl) (by kernel_rfl) (by kernel_rfl) (fun _ _ _ h => h) (Or.inl ⟨by rfl, fun u _ => ?_⟩) ?_
    · go_simp
    try simp only [Act.put, List.setIfInBounds_toArray, List.set_cons_zero, List.set_cons_succ]
    refine wpAnyL_takeD (i := 2) 23 (.int .i64 N) rfl rfl (by kernel_rfl) (by kernel_rfl) (by kernel_rfl) (by kernel_rfl) (by kernel_rfl) (fun _ _ _ h => h) hj0 (Or.inl ⟨by rfl, fun u hu => ?_⟩) ?_
    · obtain ⟨t0, t1⟩ := HF.out u (HB1.out.trans (hu.mono HB1.out.size))
      have t2 := HT9.out u hu
      go_simp
    try simp only [Act.put, List.setIfInBounds_toArray, List.set_cons_zero, List.set_cons_succ]
    refine wpAnyL_pureD (i := 3) 24 (.int .i64 M) rfl rfl (by kernel_rfl) (by kernel_rfl) (by kernel_rfl) (fun _ _ _ h => h) (Or.inl ⟨by rfl, fun u _ => ?_⟩) ?_
    · go_simp
    try simp only [Act.put, List.setIfInBounds_toArray, List.set_cons_zero, List.set_cons_succ]
    refine wpAnyL_pureD (i := 4) 25 (.pointer (some ⟨b3, o3 + M, none⟩)) rfl rfl (by kernel_rfl) (by kernel_rfl) (by kernel_rfl) (fun _ _ _ h => h) (Or.inl ⟨by rfl, fun u _ => ?_⟩) ?_
    · go_simp
    try simp only [Act.put, List.setIfInBounds_toArray, List.set_cons_zero, List.set_cons_succ]
    refine wpAnyL_takeD (i := 5) 26 (.int .i64 v9) rfl rfl (by kernel_rfl) (by kernel_rfl) (by kernel_rfl) (by kernel_rfl) (by kernel_rfl) (fun _ _ _ h => h) hj0 (Or.inl ⟨by rfl, fun u hu => ?_⟩) ?_
    · obtain ⟨t0, t1⟩ := HF.out u (HB1.out.trans (hu.mono HB1.out.size))
      have t2 := HT9.out u hu
      go_simp
    try simp only [Act.put, List.setIfInBounds_toArray, List.set_cons_zero, List.set_cons_succ]
    refine wpAnyL_pureD (i := 6) 27 (.pointer (some ⟨w.heap.size, 0, none⟩)) rfl rfl (by kernel_rfl) (by kernel_rfl) (by kernel_rfl) (fun _ _ _ h => h) (Or.inl ⟨by rfl, fun u _ => ?_⟩) ?_
    · go_simp
    try simp only [Act.put, List.setIfInBounds_toArray, List.set_cons_zero, List.set_cons_succ]
    refine wpAnyL_takeD (i := 7) 28 (.int .i64 N) rfl rfl (by kernel_rfl) (by kernel_rfl) (by kernel_rfl) (by kernel_rfl) (by kernel_rfl) (fun _ _ _ h => h) hj0 (Or.inl ⟨by rfl, fun u hu => ?_⟩) ?_
    · obtain ⟨t0, t1⟩ := HF.out u (HB1.out.trans (hu.mono HB1.out.size))
      have t2 := HT9.out u hu
      go_simp
    try simp only [Act.put, List.setIfInBounds_toArray, List.set_cons_zero, List.set_cons_succ]
    refine wpAnyL_pureD (i := 8) 29 (.int .i64 ((N : Int) - 2)) rfl rfl (by kernel_rfl) (by kernel_rfl) (by kernel_rfl) (fun _ _ _ h => h) (Or.inl ⟨by rfl, fun u _ => ?_⟩) ?_
    · go_simp
    try simp only [Act.put, List.setIfInBounds_toArray, List.set_cons_zero, List.set_cons_succ]
    refine wpAnyL_pureD (i := 9) 30 (.bool true) rfl rfl (by kernel_rfl) (by kernel_rfl) (by kernel_rfl) (fun _ _ _ h => h) (Or.inl ⟨by rfl, fun u _ => ?_⟩) ?_
    · go_simp
    try simp only [Act.put, List.setIfInBounds_toArray, List.set_cons_zero, List.set_cons_succ]
    refine wpAnyL_done (by kernel_rfl) ?_ _
    try simp only [Act.put, List.setIfInBounds_toArray, List.set_cons_zero, List.set_cons_succ]
    clear hk5
    obtain ⟨g0, g1⟩ := HF.out x3.drew (HB1.out.trans (hj0.mono HB1.out.size))
    have hmk2 : (Instr.makeSlice 48 (.int .i64 (M : Int)) (.int .i64 (M : Int))).run Try.prog x3.drew = .ok (.slice (some ⟨x3.drew.heap.size, 0, none⟩) M M) (x3.drew.alloc (.cells (flat encI (List.replicate M 0)).toArray 3)) := make_divs M (by omega) _
    obtain ⟨x4, hx4⟩ : ∃ x4, x4 = x3.drew.alloc (.cells (flat encI (List.replicate M 0)).toArray 3) := ⟨_, rfl⟩
    obtain ⟨gq, hgq⟩ : ∃ gq, gq = x3.drew.heap.size := ⟨_, rfl⟩
    have hrb : RowB encI 3 x4 gq (CL 0) := by rw [hx4, hgq, HC0.out]; exact RowB.new _ _ _ _
    have hk6 : Below w1.heap.size w1 x4 := by rw [hx4]; exact hj0.alloc hj0.size _
    rw [← hx4, ← hgq] at hmk2
    have HGP : Hid (w1.heap.size ≤ gq) := Lib.hid (by have := hj0.size; omega)
    have HRB := Lib.hid hrb
    have HKX := Lib.hid hk6
    clear hx4 hgq hrb hk6 hj0 HRB0
    go_wp2
    clear hmk2
    clear g0 g1
    go_loopw [9] (fun x wr => ∃ i : Nat, i ≤ N ∧ x = .int .i64 i ∧ RowB encI 3 wr gq (CL i) ∧ Below w1.heap.size w1 wr) (fun x _ => N - (intOf x).toNat)
    case atStart => exact ⟨0, by omega, rfl, HRB.out, HKX.out⟩
    case round =>
      obtain ⟨i, hi, rfl, hrb, hb⟩ := hrel
      obtain ⟨g0, g1⟩ := HF.out wr (HB1.out.trans (hb.mono HB1.out.size))
      by_cases hlt : i < N
      · have i1 : (i : Int) < (N : Int) := by omega
        have i2 : (0 : Int) ≤ (i : Int) := by omega
        have i3 : (i : Int) < (PLL.length : Int) := by omega
        have i4 : (i : Int) < (D.length : Int) := by rw [HDN.out]; exact i1
        obtain ⟨t, ht⟩ : ∃ t : Nat, f (i : Int) = t := ⟨(f (i : Int)).toNat, by have := HFR.out i hlt; omega⟩
        have htm : t < M := by have := HFR.out i hlt; omega
        have t1' : (t : Int) < (M : Int) := by omega
        have t2' : (0 : Int) ≤ (t : Int) := by omega
        have HCn := Lib.hid (HCS.out i)
        have hcb := HCB.out i (by rw [HDN.out]; exact hi) (f (i : Int)).toNat
        have hda := HDA.out i (by rw [HDN.out]; exact hlt)
        rw [ht, show ((t : Nat) : Int).toNat = t by omega] at HCn hcb
        obtain ⟨z, hz⟩ : ∃ z, z = iAt (CL i) t := ⟨_, rfl⟩
        obtain ⟨dv, hdv⟩ : ∃ dv, dv = iAt D i := ⟨_, rfl⟩
        have HLD : Hid (∀ u, Below wr.heap.size wr u → (u.cell? ⟨b3, o3 + i, none⟩ = some (.int .i64 t) ∧ u.cell? ⟨gq, t, none⟩ = some (.int .i64 z)) ∧ u.cell? ⟨b2, o2 + i, none⟩ = some (.int .i64 dv) ∧ u.frozen? ⟨gq, t, none⟩ = false) := Lib.hid fun u hu => by
          have hbu := hb.trans (hu.mono hb.size)
          refine ⟨⟨by have := HTW.out u hbu i hlt; rw [ht] at this; exact this, ?_⟩, by rw [hdv]; exact HDT.out u (HB1.out.trans (hbu.mono HB1.out.size)) i (by rw [HDN.out]; exact hlt), ?_⟩
          · rw [hz]; exact RowB.cell (Blk.below hrb hu (Blk.lt hrb)) t (by rw [HCL.out]; exact htm)
          · exact Blk.frozen (Blk.below hrb hu (Blk.lt hrb)) t
        rw [← hz] at hcb HCn
        rw [← hdv] at hda HCn
        have c7 : IntKind.i64.wrap (z + dv) = z + dv := IntWalk.i64_in _ (by omega)
        have HRr := Lib.hid hrb
        have HBr := Lib.hid hb
        clear hrb hb hz hdv ht
        go_wp2
        clear g0 g1
        have hj0 : Below wr.heap.size wr wr.drew := (Below.refl _ _).drew
        obtain ⟨⟨y0, y1⟩, y2, y3⟩ := HLD.out wr.drew hj0
        refine wp_region_late (S := fun u => Below wr.heap.size wr u) (X := [18]) (by kernel_rfl) ?_
        refine wpAnyL_pureD (i := 0) 41 (.slice (some ⟨gq, 0, none⟩) M M) rfl rfl (by kernel_rfl) (by kernel_rfl) (by kernel_rfl) (fun _ _ _ h => h) (Or.inl ⟨by rfl, fun u _ => ?_⟩) ?_
        · go_simp
        try simp only [Act.put, List.setIfInBounds_toArray, List.set_cons_zero, List.set_cons_succ]
        refine wpAnyL_pureD (i := 1) 42 (.slice (some ⟨b3, o3, none⟩) PLL.length c3) rfl rfl (by kernel_rfl) (by kernel_rfl) (by kernel_rfl) (fun _ _ _ h => h) (Or.inl ⟨by rfl, fun u _ => ?_⟩) ?_
        · go_simp
        try simp only [Act.put, List.setIfInBounds_toArray, List.set_cons_zero, List.set_cons_succ]
        refine wpAnyL_pureD (i := 2) 43 (.int .i64 i) rfl rfl (by kernel_rfl) (by kernel_rfl) (by kernel_rfl) (fun _ _ _ h => h) (Or.inl ⟨by rfl, fun u _ => ?_⟩) ?_
        · go_simp
        try simp only [Act.put, List.setIfInBounds_toArray, List.set_cons_zero, List.set_cons_succ]
        refine wpAnyL_pureD (i := 3) 44 (.pointer (some ⟨b3, o3 + i, none⟩)) rfl rfl (by kernel_rfl) (by kernel_rfl) (by kernel_rfl) (fun _ _ _ h => h) (Or.inl ⟨by rfl, fun u _ => ?_⟩) ?_
        · go_simp
        try simp only [Act.put, List.setIfInBounds_toArray, List.set_cons_zero, List.set_cons_succ]
        refine wpAnyL_takeD (i := 4) 45 (.int .i64 t) rfl rfl (by kernel_rfl) (by kernel_rfl) (by kernel_rfl) (by kernel_rfl) (by kernel_rfl) (fun _ _ _ h => h) hj0 (Or.inl ⟨by rfl, fun u hu => ?_⟩) ?_
        · obtain ⟨⟨t0, t1⟩, t2, t3⟩ := HLD.out u hu
          go_simp
        try simp only [Act.put, List.setIfInBounds_toArray, List.set_cons_zero, List.set_cons_succ]
        refine wpAnyL_pureD (i := 5) 46 (.slice (some ⟨gq, 0, none⟩) M M) rfl rfl (by kernel_rfl) (by kernel_rfl) (by kernel_rfl) (fun _ _ _ h => h) (Or.inl ⟨by rfl, fun u _ => ?_⟩) ?_
        · go_simp
        try simp only [Act.put, List.setIfInBounds_toArray, List.set_cons_zero, List.set_cons_succ]
        refine wpAnyL_pureD (i := 6) 47 (.slice (some ⟨b3, o3, none⟩) PLL.length c3) rfl rfl (by kernel_rfl) (by kernel_rfl) (by kernel_rfl) (fun _ _ _ h => h) (Or.inl ⟨by rfl, fun u _ => ?_⟩) ?_
        · go_simp
        try simp only [Act.put, List.setIfInBounds_toArray, List.set_cons_zero, List.set_cons_succ]
        refine wpAnyL_pureD (i := 7) 48 (.int .i64 i) rfl rfl (by kernel_rfl) (by kernel_rfl) (by kernel_rfl) (fun _ _ _ h => h) (Or.inl ⟨by rfl, fun u _ => ?_⟩) ?_
        · go_simp
        try simp only [Act.put, List.setIfInBounds_toArray, List.set_cons_zero, List.set_cons_succ]
        refine wpAnyL_pureD (i := 8) 49 (.pointer (some ⟨b3, o3 + i, none⟩)) rfl rfl (by kernel_rfl) (by kernel_rfl) (by kernel_rfl) (fun _ _ _ h => h) (Or.inl ⟨by rfl, fun u _ => ?_⟩) ?_
        · go_simp
        try simp only [Act.put, List.setIfInBounds_toArray, List.set_cons_zero, List.set_cons_succ]
        refine wpAnyL_takeD (i := 9) 50 (.int .i64 t) rfl rfl (by kernel_rfl) (by kernel_rfl) (by kernel_rfl) (by kernel_rfl) (by kernel_rfl) (fun _ _ _ h => h) hj0 (Or.inl ⟨by rfl, fun u hu => ?_⟩) ?_
        · obtain ⟨⟨t0, t1⟩, t2, t3⟩ := HLD.out u hu
          go_simp
        try simp only [Act.put, List.setIfInBounds_toArray, List.set_cons_zero, List.set_cons_succ]
        refine wpAnyL_pureD (i := 10) 51 (.pointer (some ⟨gq, t, none⟩)) rfl rfl (by kernel_rfl) (by kernel_rfl) (by kernel_rfl) (fun _ _ _ h => h) (Or.inl ⟨by rfl, fun u _ => ?_⟩) ?_
        · go_simp
        try simp only [Act.put, List.setIfInBounds_toArray, List.set_cons_zero, List.set_cons_succ]
        refine wpAnyL_takeD (i := 11) 52 (.int .i64 z) rfl rfl (by kernel_rfl) (by kernel_rfl) (by kernel_rfl) (by kernel_rfl) (by kernel_rfl) (fun _ _ _ h => h) hj0 (Or.inl ⟨by rfl, fun u hu => ?_⟩) ?_
        · obtain ⟨⟨t0, t1⟩, t2, t3⟩ := HLD.out u hu
          go_simp
        try simp only [Act.put, List.setIfInBounds_toArray, List.set_cons_zero, List.set_cons_succ]
        refine wpAnyL_pureD (i := 12) 53 (.slice (some ⟨b2, o2, none⟩) D.length c) rfl rfl (by kernel_rfl) (by kernel_rfl) (by kernel_rfl) (fun _ _ _ h => h) (Or.inl ⟨by rfl, fun u _ => ?_⟩) ?_
        · go_simp
        try simp only [Act.put, List.setIfInBounds_toArray, List.set_cons_zero, List.set_cons_succ]
        refine wpAnyL_pureD (i := 13) 54 (.int .i64 i) rfl rfl (by kernel_rfl) (by kernel_rfl) (by kernel_rfl) (fun _ _ _ h => h) (Or.inl ⟨by rfl, fun u _ => ?_⟩) ?_
        · go_simp
        try simp only [Act.put, List.setIfInBounds_toArray, List.set_cons_zero, List.set_cons_succ]
        refine wpAnyL_pureD (i := 14) 55 (.pointer (some ⟨b2, o2 + i, none⟩)) rfl rfl (by kernel_rfl) (by kernel_rfl) (by kernel_rfl) (fun _ _ _ h => h) (Or.inl ⟨by rfl, fun u _ => ?_⟩) ?_
        · go_simp
        try simp only [Act.put, List.setIfInBounds_toArray, List.set_cons_zero, List.set_cons_succ]
        refine wpAnyL_takeD (i := 15) 56 (.int .i64 dv) rfl rfl (by kernel_rfl) (by kernel_rfl) (by kernel_rfl) (by kernel_rfl) (by kernel_rfl) (fun _ _ _ h => h) hj0 (Or.inl ⟨by rfl, fun u hu => ?_⟩) ?_
        · obtain ⟨⟨t0, t1⟩, t2, t3⟩ := HLD.out u hu
          go_simp
        try simp only [Act.put, List.setIfInBounds_toArray, List.set_cons_zero, List.set_cons_succ]
        refine wpAnyL_pureD (i := 16) 57 (.int .i64 (z + dv)) rfl rfl (by kernel_rfl) (by kernel_rfl) (by kernel_rfl) (fun _ _ _ h => h) (Or.inl ⟨by rfl, fun u _ => ?_⟩) ?_
        · go_simp
        try simp only [Act.put, List.setIfInBounds_toArray, List.set_cons_zero, List.set_cons_succ]
        refine wpAnyL_pureD (i := 17) 58 (.pointer (some ⟨gq, t, none⟩)) rfl rfl (by kernel_rfl) (by kernel_rfl) (by kernel_rfl) (fun _ _ _ h => h) (Or.inl ⟨by rfl, fun u _ => ?_⟩) ?_
        · go_simp
        try simp only [Act.put, List.setIfInBounds_toArray, List.set_cons_zero, List.set_cons_succ]
        refine wpAnyL_one (i := 18) (by kernel_rfl) rfl (fun K hK => ?_)
        go_simp
        refine hK.out _ _ (fun h => absurd (by decide) h) ?_
        clear hK K
        try simp only [Act.put, List.setIfInBounds_toArray, List.set_cons_zero, List.set_cons_succ]
        refine wpAnyL_done (by kernel_rfl) ?_ _
        try simp only [Act.put, List.setIfInBounds_toArray, List.set_cons_zero, List.set_cons_succ]
        have HRN : Hid (RowB encI 3 (wr.drew.setCell ⟨gq, t, none⟩ (.int .i64 (z + dv))) gq (CL (i + 1))) := Lib.hid (by rw [HCn.out]; exact RowB.set (Blk.below HRr.out hj0 (Blk.lt HRr.out)) t _)
        have HBN : Hid (Below w1.heap.size w1 (wr.drew.setCell ⟨gq, t, none⟩ (.int .i64 (z + dv)))) := Lib.hid ((HBr.out.trans (hj0.mono HBr.out.size)).setCell (p := ⟨gq, t, none⟩) HGP.out _)
        clear hj0 y0 y1 y2 y3
        go_wp2
        go_roundw
        case rel => exact ⟨i + 1, by omega, by go_num, HRN.out, HBN.out⟩
        case measure => simp [intOf]; omega
      · obtain rfl : i = N := by omega
        have i1 : ¬ (i : Int) < (i : Int) := by omega
        have HRW : Hid (IsAt wr (some ⟨gq, 0, none⟩) (CL i)) := Lib.hid (hrb.row encI_len)
        have HEND := Lib.hid (HB0.out.trans ((HB1.out.trans (hb.mono HB1.out.size)).mono HB0.out.size))
        have hcl := HCL.out i
        have HCLn := Lib.hid hcl
        clear hrb hb hcl
        go_wp2
        go_ret
        exact ⟨some ⟨gq, 0, none⟩, ⟨M, by rw [HCLn.out]; rfl⟩, HRW.out, HEND.out⟩
  · obtain rfl : M = M9 := hm1.2 (by omega)
    have hj0 : Below w1.heap.size w1 x3.drew := hk5.drew
    refine wp_region_late (S := fun u => Below w1.heap.size w1 u) (X := []) (by kernel_rfl) ?_
    refine wpAnyL_pureD (i := 0) 21 (.slice (some ⟨b3, o3, none⟩) PLL.length c3) rfl rfl (by kernel_rfl) (by kernel_rfl) (by kernel_rfl) (fun _ _ _ h => h) (Or.inl ⟨by rfl, fun u _ => ?_⟩) ?_
    · go_simp
    try simp only [Act.put, List.setIfInBounds_toArray, List.set_cons_zero, List.set_cons_succ]
    refine wpAnyL_pureD (i := 1) 22 (.pointer (some ⟨w.heap.size, 0, none⟩)) rfl rfl (by kernel_rfl) (by kernel_rfl) (by kernel_rfl) (fun _ _ _ h => h) (Or.inl ⟨by rfl, fun u _ => ?_⟩) ?_
    · go_simp
    try simp only [Act.put, List.setIfInBounds_toArray, List.set_cons_zero, List.set_cons_succ]
    refine wpAnyL_takeD (i := 2) 23 (.int .i64 N) rfl rfl (by kernel_rfl) (by kernel_rfl) (by kernel_rfl) (by kernel_rfl) (by kernel_rfl) (fun _ _ _ h => h) hj0 (Or.inl ⟨by rfl, fun u hu => ?_⟩) ?_
    · obtain ⟨t0, t1⟩ := HF.out u (HB1.out.trans (hu.mono HB1.out.size))
      have t2 := HT9.out u hu
      go_simp
    try simp only [Act.put, List.setIfInBounds_toArray, List.set_cons_zero, List.set_cons_succ]
    refine wpAnyL_pureD (i := 3) 24 (.int .i64 n1) rfl rfl (by kernel_rfl) (by kernel_rfl) (by kernel_rfl) (fun _ _ _ h => h) (Or.inl ⟨by rfl, fun u _ => ?_⟩) ?_
    · go_simp
    try simp only [Act.put, List.setIfInBounds_toArray, List.set_cons_zero, List.set_cons_succ]
    refine wpAnyL_pureD (i := 4) 25 (.pointer (some ⟨b3, o3 + n1, none⟩)) rfl rfl (by kernel_rfl) (by kernel_rfl) (by kernel_rfl) (fun _ _ _ h => h) (Or.inl ⟨by rfl, fun u _ => ?_⟩) ?_
    · go_simp
    try simp only [Act.put, List.setIfInBounds_toArray, List.set_cons_zero, List.set_cons_succ]
    refine wpAnyL_takeD (i := 5) 26 (.int .i64 v9) rfl rfl (by kernel_rfl) (by kernel_rfl) (by kernel_rfl) (by kernel_rfl) (by kernel_rfl) (fun _ _ _ h => h) hj0 (Or.inl ⟨by rfl, fun u hu => ?_⟩) ?_
    · obtain ⟨t0, t1⟩ := HF.out u (HB1.out.trans (hu.mono HB1.out.size))
      have t2 := HT9.out u hu
      go_simp
    try simp only [Act.put, List.setIfInBounds_toArray, List.set_cons_zero, List.set_cons_succ]
    refine wpAnyL_pureD (i := 6) 27 (.pointer (some ⟨w.heap.size, 0, none⟩)) rfl rfl (by kernel_rfl) (by kernel_rfl) (by kernel_rfl) (fun _ _ _ h => h) (Or.inl ⟨by rfl, fun u _ => ?_⟩) ?_
    · go_simp
    try simp only [Act.put, List.setIfInBounds_toArray, List.set_cons_zero, List.set_cons_succ]
    refine wpAnyL_takeD (i := 7) 28 (.int .i64 N) rfl rfl (by kernel_rfl) (by kernel_rfl) (by kernel_rfl) (by kernel_rfl) (by kernel_rfl) (fun _ _ _ h => h) hj0 (Or.inl ⟨by rfl, fun u hu => ?_⟩) ?_
    · obtain ⟨t0, t1⟩ := HF.out u (HB1.out.trans (hu.mono HB1.out.size))
      have t2 := HT9.out u hu
      go_simp
    try simp only [Act.put, List.setIfInBounds_toArray, List.set_cons_zero, List.set_cons_succ]
    refine wpAnyL_pureD (i := 8) 29 (.int .i64 ((N : Int) - 2)) rfl rfl (by kernel_rfl) (by kernel_rfl) (by kernel_rfl) (fun _ _ _ h => h) (Or.inl ⟨by rfl, fun u _ => ?_⟩) ?_
    · go_simp
    try simp only [Act.put, List.setIfInBounds_toArray, List.set_cons_zero, List.set_cons_succ]
    refine wpAnyL_pureD (i := 9) 30 (.bool false) rfl rfl (by kernel_rfl) (by kernel_rfl) (by kernel_rfl) (fun _ _ _ h => h) (Or.inl ⟨by rfl, fun u _ => ?_⟩) ?_
    · go_simp
    try simp only [Act.put, List.setIfInBounds_toArray, List.set_cons_zero, List.set_cons_succ]
    refine wpAnyL_done (by kernel_rfl) ?_ _
    try simp only [Act.put, List.setIfInBounds_toArray, List.set_cons_zero, List.set_cons_succ]
    have HGP := HGP0
    have HRB : Hid (RowB encI 3 x3.drew gp (CL 0)) := Lib.hid (by rw [HC0.out]; exact HRB0.out)
    have HKX := Lib.hid hj0
    obtain ⟨g0, g1⟩ := HF.out x3.drew (HB1.out.trans (hj0.mono HB1.out.size))
    clear hj0 HRB0 hk5
    go_wp2
    clear g0 g1
    go_loopw [9] (fun x wr => ∃ i : Nat, i ≤ N ∧ x = .int .i64 i ∧ RowB encI 3 wr gp (CL i) ∧ Below w1.heap.size w1 wr) (fun x _ => N - (intOf x).toNat)
    case atStart => exact ⟨0, by omega, rfl, HRB.out, HKX.out⟩
    case round =>
      obtain ⟨i, hi, rfl, hrb, hb⟩ := hrel
      obtain ⟨g0, g1⟩ := HF.out wr (HB1.out.trans (hb.mono HB1.out.size))
      by_cases hlt : i < N
      · have i1 : (i : Int) < (N : Int) := by omega
        have i2 : (0 : Int) ≤ (i : Int) := by omega
        have i3 : (i : Int) < (PLL.length : Int) := by omega
        have i4 : (i : Int) < (D.length : Int) := by rw [HDN.out]; exact i1
        obtain ⟨t, ht⟩ : ∃ t : Nat, f (i : Int) = t := ⟨(f (i : Int)).toNat, by have := HFR.out i hlt; omega⟩
        have htm : t < M := by have := HFR.out i hlt; omega
        have t1' : (t : Int) < (M : Int) := by omega
        have t2' : (0 : Int) ≤ (t : Int) := by omega
        have HCn := Lib.hid (HCS.out i)
        have hcb := HCB.out i (by rw [HDN.out]; exact hi) (f (i : Int)).toNat
        have hda := HDA.out i (by rw [HDN.out]; exact hlt)
        rw [ht, show ((t : Nat) : Int).toNat = t by omega] at HCn hcb
        obtain ⟨z, hz⟩ : ∃ z, z = iAt (CL i) t := ⟨_, rfl⟩
        obtain ⟨dv, hdv⟩ : ∃ dv, dv = iAt D i := ⟨_, rfl⟩
        have HLD : Hid (∀ u, Below wr.heap.size wr u → (u.cell? ⟨b3, o3 + i, none⟩ = some (.int .i64 t) ∧ u.cell? ⟨gp, t, none⟩ = some (.int .i64 z)) ∧ u.cell? ⟨b2, o2 + i, none⟩ = some (.int .i64 dv) ∧ u.frozen? ⟨gp, t, none⟩ = false) := Lib.hid fun u hu => by
          have hbu := hb.trans (hu.mono hb.size)
          refine ⟨⟨by have := HTW.out u hbu i hlt; rw [ht] at this; exact this, ?_⟩, by rw [hdv]; exact HDT.out u (HB1.out.trans (hbu.mono HB1.out.size)) i (by rw [HDN.out]; exact hlt), ?_⟩
          · rw [hz]; exact RowB.cell (Blk.below hrb hu (Blk.lt hrb)) t (by rw [HCL.out]; exact htm)
          · exact Blk.frozen (Blk.below hrb hu (Blk.lt hrb)) t
        rw [← hz] at hcb HCn
        rw [← hdv] at hda HCn
        have c7 : IntKind.i64.wrap (z + dv) = z + dv := IntWalk.i64_in _ (by omega)
        have HRr := Lib.hid hrb
        have HBr := Lib.hid hb
        clear hrb hb hz hdv ht
        go_wp2
        clear g0 g1
        have hj0 : Below wr.heap.size wr wr.drew := (Below.refl _ _).drew
        obtain ⟨⟨y0, y1⟩, y2, y3⟩ := HLD.out wr.drew hj0
        refine wp_region_late (S := fun u => Below wr.heap.size wr u) (X := [18]) (by kernel_rfl) ?_
        refine wpAnyL_pureD (i := 0) 41 (.slice (some ⟨gp, 0, none⟩) M M) rfl rfl (by kernel_rfl) (by kernel_rfl) (by kernel_rfl) (fun _ _ _ h => h) (Or.inl ⟨by rfl, fun u _ => ?_⟩) ?_
        · go_simp
        try simp only [Act.put, List.setIfInBounds_toArray, List.set_cons_zero, List.set_cons_succ]
        refine wpAnyL_pureD (i := 1) 42 (.slice (some ⟨b3, o3, none⟩) PLL.length c3) rfl rfl (by kernel_rfl) (by kernel_rfl) (by kernel_rfl) (fun _ _ _ h => h) (Or.inl ⟨by rfl, fun u _ => ?_⟩) ?_
        · go_simp
        try simp only [Act.put, List.setIfInBounds_toArray, List.set_cons_zero, List.set_cons_succ]
        refine wpAnyL_pureD (i := 2) 43 (.int .i64 i) rfl rfl (by kernel_rfl) (by kernel_rfl) (by kernel_rfl) (fun _ _ _ h => h) (Or.inl ⟨by rfl, fun u _ => ?_⟩) ?_
        · go_simp
        try simp only [Act.put, List.setIfInBounds_toArray, List.set_cons_zero, List.set_cons_succ]
        refine wpAnyL_pureD (i := 3) 44 (.pointer (some ⟨b3, o3 + i, none⟩)) rfl rfl (by kernel_rfl) (by kernel_rfl) (by kernel_rfl) (fun _ _ _ h => h) (Or.inl ⟨by rfl, fun u _ => ?_⟩) ?_
        · go_simp
        try simp only [Act.put, List.setIfInBounds_toArray, List.set_cons_zero, List.set_cons_succ]
        refine wpAnyL_takeD (i := 4) 45 (.int .i64 t) rfl rfl (by kernel_rfl) (by kernel_rfl) (by kernel_rfl) (by kernel_rfl) (by kernel_rfl) (fun _ _ _ h => h) hj0 (Or.inl ⟨by rfl, fun u hu => ?_⟩) ?_
        · obtain ⟨⟨t0, t1⟩, t2, t3⟩ := HLD.out u hu
          go_simp
        try simp only [Act.put, List.setIfInBounds_toArray, List.set_cons_zero, List.set_cons_succ]
        refine wpAnyL_pureD (i := 5) 46 (.slice (some ⟨gp, 0, none⟩) M M) rfl rfl (by kernel_rfl) (by kernel_rfl) (by kernel_rfl) (fun _ _ _ h => h) (Or.inl ⟨by rfl, fun u _ => ?_⟩) ?_
        · go_simp
        try simp only [Act.put, List.setIfInBounds_toArray, List.set_cons_zero, List.set_cons_succ]
        refine wpAnyL_pureD (i := 6) 47 (.slice (some ⟨b3, o3, none⟩) PLL.length c3) rfl rfl (by kernel_rfl) (by kernel_rfl) (by kernel_rfl) (fun _ _ _ h => h) (Or.inl ⟨by rfl, fun u _ => ?_⟩) ?_
        · go_simp
        try simp only [Act.put, List.setIfInBounds_toArray, List.set_cons_zero, List.set_cons_succ]
        refine wpAnyL_pureD (i := 7) 48 (.int .i64 i) rfl rfl (by kernel_rfl) (by kernel_rfl) (by kernel_rfl) (fun _ _ _ h => h) (Or.inl ⟨by rfl, fun u _ => ?_⟩) ?_
        · go_simp
        try simp only [Act.put, List.setIfInBounds_toArray, List.set_cons_zero, List.set_cons_succ]
        refine wpAnyL_pureD (i := 8) 49 (.pointer (some ⟨b3, o3 + i, none⟩)) rfl rfl (by kernel_rfl) (by kernel_rfl) (by kernel_rfl) (fun _ _ _ h => h) (Or.inl ⟨by rfl, fun u _ => ?_⟩) ?_
        · go_simp
        try simp only [Act.put, List.setIfInBounds_toArray, List.set_cons_zero, List.set_cons_succ]
        refine wpAnyL_takeD (i := 9) 50 (.int .i64 t) rfl rfl (by kernel_rfl) (by kernel_rfl) (by kernel_rfl) (by kernel_rfl) (by kernel_rfl) (fun _ _ _ h => h) hj0 (Or.inl ⟨by rfl, fun u hu => ?_⟩) ?_
        · obtain ⟨⟨t0, t1⟩, t2, t3⟩ := HLD.out u hu
          go_simp
        try simp only [Act.put, List.setIfInBounds_toArray, List.set_cons_zero, List.set_cons_succ]
        refine wpAnyL_pureD (i := 10) 51 (.pointer (some ⟨gp, t, none⟩)) rfl rfl (by kernel_rfl) (by kernel_rfl) (by kernel_rfl) (fun _ _ _ h => h) (Or.inl ⟨by rfl, fun u _ => ?_⟩) ?_
        · go_simp
        try simp only [Act.put, List.setIfInBounds_toArray, List.set_cons_zero, List.set_cons_succ]
        refine wpAnyL_takeD (i := 11) 52 (.int .i64 z) rfl rfl (by kernel_rfl) (by kernel_rfl) (by kernel_rfl) (by kernel_rfl) (by kernel_rfl) (fun _ _ _ h => h) hj0 (Or.inl ⟨by rfl, fun u hu => ?_⟩) ?_
        · obtain ⟨⟨t0, t1⟩, t2, t3⟩ := HLD.out u hu
          go_simp
        try simp only [Act.put, List.setIfInBounds_toArray, List.set_cons_zero, List.set_cons_succ]
        refine wpAnyL_pureD (i := 12) 53 (.slice (some ⟨b2, o2, none⟩) D.length c) rfl rfl (by kernel_rfl) (by kernel_rfl) (by kernel_rfl) (fun _ _ _ h => h) (Or.inl ⟨by rfl, fun u _ => ?_⟩) ?_
        · go_simp
        try simp only [Act.put, List.setIfInBounds_toArray, List.set_cons_zero, List.set_cons_succ]
        refine wpAnyL_pureD (i := 13) 54 (.int .i64 i) rfl rfl (by kernel_rfl) (by kernel_rfl) (by kernel_rfl) (fun _ _ _ h => h) (Or.inl ⟨by rfl, fun u _ => ?_⟩) ?_
        · go_simp
        try simp only [Act.put, List.setIfInBounds_toArray, List.set_cons_zero, List.set_cons_succ]
        refine wpAnyL_pureD (i := 14) 55 (.pointer (some ⟨b2, o2 + i, none⟩)) rfl rfl (by kernel_rfl) (by kernel_rfl) (by kernel_rfl) (fun _ _ _ h => h) (Or.inl ⟨by rfl, fun u _ => ?_⟩) ?_
        · go_simp
        try simp only [Act.put, List.setIfInBounds_toArray, List.set_cons_zero, List.set_cons_succ]
        refine wpAnyL_takeD (i := 15) 56 (.int .i64 dv) rfl rfl (by kernel_rfl) (by kernel_rfl) (by kernel_rfl) (by kernel_rfl) (by kernel_rfl) (fun _ _ _ h => h) hj0 (Or.inl ⟨by rfl, fun u hu => ?_⟩) ?_
        · obtain ⟨⟨t0, t1⟩, t2, t3⟩ := HLD.out u hu
          go_simp
        try simp only [Act.put, List.setIfInBounds_toArray, List.set_cons_zero, List.set_cons_succ]
        refine wpAnyL_pureD (i := 16) 57 (.int .i64 (z + dv)) rfl rfl (by kernel_rfl) (by kernel_rfl) (by kernel_rfl) (fun _ _ _ h => h) (Or.inl ⟨by rfl, fun u _ => ?_⟩) ?_
        · go_simp
        try simp only [Act.put, List.setIfInBounds_toArray, List.set_cons_zero, List.set_cons_succ]
        refine wpAnyL_pureD (i := 17) 58 (.pointer (some ⟨gp, t, none⟩)) rfl rfl (by kernel_rfl) (by kernel_rfl) (by kernel_rfl) (fun _ _ _ h => h) (Or.inl ⟨by rfl, fun u _ => ?_⟩) ?_
        · go_simp
        try simp only [Act.put, List.setIfInBounds_toArray, List.set_cons_zero, List.set_cons_succ]
        refine wpAnyL_one (i := 18) (by kernel_rfl) rfl (fun K hK => ?_)
        go_simp
        refine hK.out _ _ (fun h => absurd (by decide) h) ?_
        clear hK K
        try simp only [Act.put, List.setIfInBounds_toArray, List.set_cons_zero, List.set_cons_succ]
        refine wpAnyL_done (by kernel_rfl) ?_ _
        try simp only [Act.put, List.setIfInBounds_toArray, List.set_cons_zero, List.set_cons_succ]
        have HRN : Hid (RowB encI 3 (wr.drew.setCell ⟨gp, t, none⟩ (.int .i64 (z + dv))) gp (CL (i + 1))) := Lib.hid (by rw [HCn.out]; exact RowB.set (Blk.below HRr.out hj0 (Blk.lt HRr.out)) t _)
        have HBN : Hid (Below w1.heap.size w1 (wr.drew.setCell ⟨gp, t, none⟩ (.int .i64 (z + dv)))) := Lib.hid ((HBr.out.trans (hj0.mono HBr.out.size)).setCell (p := ⟨gp, t, none⟩) HGP.out _)
        clear hj0 y0 y1 y2 y3
        go_wp2
        go_roundw
        case rel => exact ⟨i + 1, by omega, by go_num, HRN.out, HBN.out⟩
        case measure => simp [intOf]; omega
      · obtain rfl : i = N := by omega
        have i1 : ¬ (i : Int) < (i : Int) := by omega
        have HRW : Hid (IsAt wr (some ⟨gp, 0, none⟩) (CL i)) := Lib.hid (hrb.row encI_len)
        have HEND := Lib.hid (HB0.out.trans ((HB1.out.trans (hb.mono HB1.out.size)).mono HB0.out.size))
        have hcl := HCL.out i
        have HCLn := Lib.hid hcl
        clear hrb hb hcl
        go_wp2
        go_ret
        exact ⟨some ⟨gp, 0, none⟩, ⟨M, by rw [HCLn.out]; rfl⟩, HRW.out, HEND.out⟩
end Go.Proofs.Ytndjjafpdiehdaa
