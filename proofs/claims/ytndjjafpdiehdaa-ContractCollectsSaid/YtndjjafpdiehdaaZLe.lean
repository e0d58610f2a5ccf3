/- The reference: the order of ends; how many come before one. -/
import Derived.Test.YtndjjafpdiehdaaZLd
import Derived.Test.YtndjjafpdiehdaaQ17
namespace Go.Proofs.Ytndjjafpdiehdaa
open Go.RowKit Go.Shelf Go.Proofs.Gr
attribute [local go_sem] Oper.semAt_some

theorem eql_pair (x y x' y' : Int) (w : World) : (binOp .eql 25 (.agg #[.int .i64 x, .int .i64 y]) (.agg #[.int .i64 x', .int .i64 y'])).run Try.prog w = .ok (.bool ((x == x') && (y == y'))) w := by
  rw [run_eql_struct, eq_pair]; rfl
set_option maxHeartbeats 12800000 in
set_option maxRecDepth 100000 in
theorem rbefore_any (x y : Int × Int) (w : World) : Calls Try.prog 95 #[pw x, pw y] w (fun e w' => e = .returned (.bool (ltP x y)) ∧ Below w.heap.size w w') := by
  unfold pw
  obtain ⟨xa, xb⟩ := x
  obtain ⟨ya, yb⟩ := y
  have HR : Hid (ltP (xa, xb) (ya, yb) = (decide (xa < ya) || (decide (xa = ya) && decide (xb < yb)))) := Lib.hid rfl
  generalize ltP (xa, xb) (ya, yb) = R at *
  simp only
  by_cases h1 : xa < ya
  · have d1 : decide (xa < ya) = true := decide_eq_true h1
    have HRv : Hid (R = true) := Lib.hid (by rw [HR.out, d1]; rfl)
    clear h1
    obtain ⟨W, hW⟩ : ∃ W, W = (w.alloc (Obj.cells #[.int .i64 xa, .int .i64 xb] 25)).alloc (Obj.cells #[.int .i64 ya, .int .i64 yb] 25) := ⟨_, rfl⟩
    have hB0 : Below w.heap.size w W := by rw [hW]; exact ((Below.refl _ w).alloc (Nat.le_refl _) _).alloc (by simp) _
    have hb1 : Blk W w.heap.size 25 #[.int .i64 xa, .int .i64 xb] := by rw [hW]; exact (Blk.new _ _ _).alloc _
    have hb2 : Blk W (w.heap.size + 1) 25 #[.int .i64 ya, .int .i64 yb] := by
      rw [hW]
      have := Blk.new (w.alloc (Obj.cells #[.int .i64 xa, .int .i64 xb] 25)) 25 #[.int .i64 ya, .int .i64 yb]
      rwa [World.size_alloc] at this
    have f0 : W.cell? ⟨w.heap.size, 0, none⟩ = some (.int .i64 xa) := hb1.cell 0
    have f1 : W.cell? ⟨w.heap.size, 1, none⟩ = some (.int .i64 xb) := hb1.cell 1
    have f2 : W.cell? ⟨w.heap.size + 1, 0, none⟩ = some (.int .i64 ya) := hb2.cell 0
    have f3 : W.cell? ⟨w.heap.size + 1, 1, none⟩ = some (.int .i64 yb) := hb2.cell 1
    rw [hW] at f0 f1 f2 f3
    have HW := Lib.hid hW
    have HB0 := Lib.hid hB0
    clear hW hB0 hb1 hb2
    go_enter Try.func95, Try.ntmps95
    go_wp2
    rw [← HW.out]
    go_ret
    exact ⟨by rw [HRv.out]; rfl, HB0.out⟩
  · have d1 : decide (xa < ya) = false := decide_eq_false h1
    by_cases h2 : xa = ya
    · subst h2
      have d2 : (xa == xa) = true := by simp
      have HRv : Hid (R = decide (xb < yb)) := Lib.hid (by rw [HR.out, d1]; simp)
      clear h1
      obtain ⟨W, hW⟩ : ∃ W, W = (w.alloc (Obj.cells #[.int .i64 xa, .int .i64 xb] 25)).alloc (Obj.cells #[.int .i64 xa, .int .i64 yb] 25) := ⟨_, rfl⟩
      have hB0 : Below w.heap.size w W := by rw [hW]; exact ((Below.refl _ w).alloc (Nat.le_refl _) _).alloc (by simp) _
      have hb1 : Blk W w.heap.size 25 #[.int .i64 xa, .int .i64 xb] := by rw [hW]; exact (Blk.new _ _ _).alloc _
      have hb2 : Blk W (w.heap.size + 1) 25 #[.int .i64 xa, .int .i64 yb] := by
        rw [hW]
        have := Blk.new (w.alloc (Obj.cells #[.int .i64 xa, .int .i64 xb] 25)) 25 #[.int .i64 xa, .int .i64 yb]
        rwa [World.size_alloc] at this
      have f0 : W.cell? ⟨w.heap.size, 0, none⟩ = some (.int .i64 xa) := hb1.cell 0
      have f1 : W.cell? ⟨w.heap.size, 1, none⟩ = some (.int .i64 xb) := hb1.cell 1
      have f2 : W.cell? ⟨w.heap.size + 1, 0, none⟩ = some (.int .i64 xa) := hb2.cell 0
      have f3 : W.cell? ⟨w.heap.size + 1, 1, none⟩ = some (.int .i64 yb) := hb2.cell 1
      rw [hW] at f0 f1 f2 f3
      have HW := Lib.hid hW
      have HB0 := Lib.hid hB0
      clear hW hB0 hb1 hb2
      go_enter Try.func95, Try.ntmps95
      go_wp2
      rw [← HW.out]
      go_ret
      exact ⟨by rw [HRv.out]; rfl, HB0.out⟩
    · have d2 : (xa == ya) = false := by simpa using h2
      have HRv : Hid (R = false) := Lib.hid (by rw [HR.out, d1]; simp [h2])
      clear h1
      obtain ⟨W, hW⟩ : ∃ W, W = (w.alloc (Obj.cells #[.int .i64 xa, .int .i64 xb] 25)).alloc (Obj.cells #[.int .i64 ya, .int .i64 yb] 25) := ⟨_, rfl⟩
      have hB0 : Below w.heap.size w W := by rw [hW]; exact ((Below.refl _ w).alloc (Nat.le_refl _) _).alloc (by simp) _
      have hb1 : Blk W w.heap.size 25 #[.int .i64 xa, .int .i64 xb] := by rw [hW]; exact (Blk.new _ _ _).alloc _
      have hb2 : Blk W (w.heap.size + 1) 25 #[.int .i64 ya, .int .i64 yb] := by
        rw [hW]
        have := Blk.new (w.alloc (Obj.cells #[.int .i64 xa, .int .i64 xb] 25)) 25 #[.int .i64 ya, .int .i64 yb]
        rwa [World.size_alloc] at this
      have f0 : W.cell? ⟨w.heap.size, 0, none⟩ = some (.int .i64 xa) := hb1.cell 0
      have f1 : W.cell? ⟨w.heap.size, 1, none⟩ = some (.int .i64 xb) := hb1.cell 1
      have f2 : W.cell? ⟨w.heap.size + 1, 0, none⟩ = some (.int .i64 ya) := hb2.cell 0
      have f3 : W.cell? ⟨w.heap.size + 1, 1, none⟩ = some (.int .i64 yb) := hb2.cell 1
      rw [hW] at f0 f1 f2 f3
      have HW := Lib.hid hW
      have HB0 := Lib.hid hB0
      clear hW hB0 hb1 hb2
      go_enter Try.func95, Try.ntmps95
      go_wp2
      rw [← HW.out]
      go_ret
      exact ⟨by rw [HRv.out]; rfl, HB0.out⟩
set_option maxHeartbeats 12800000 in
set_option maxRecDepth 100000 in
theorem rnumbers_any (N : Nat) (a : Option Addr) (cap : Nat) (L : List E) (hL : L.length ≤ 100000) (hR : Right N L) (e : Nat) (he : e < (endsG L).length) (h20 : (endsG L).length ≤ 100000) (w : World) (h : EsAt w a L) :
    Calls Try.prog 70 #[gv N a L.length cap, .int .i64 e] w (fun r w' => ∃ a1 c1 a2 c2, r = .returned (.tuple #[.slice a1 (lessL (endsG L).length e).length c1, .slice a2 (plc (mvP (mgF (pAt (endsG L) e)) (endsG L)) e).length c2]) ∧ IsAt w' a1 (lessL (endsG L).length e) ∧ IsAt w' a2 (plc (mvP (mgF (pAt (endsG L) e)) (endsG L)) e) ∧ Below w.heap.size w w') := by
  obtain ⟨i0, hi0, hz0, hz1, hz2⟩ := info_parts infoI
  have HEN := Lib.hid (fun w h => rends_any N a cap L hL hR w h)
  have HPL := Lib.hid (fun w h => rplaces_any N a cap L hL hR e he w h)
  have hin := fun p hp => ends_rng hR.rng p hp
  generalize endsG L = P at *
  have HSE := Lib.hid (fun b c d f w h ht => rsent_any (mgF (pAt P e)) N b c d f P (by omega) (fun p hp => by have := hin p hp; omega) w h ht)
  have hql := mvP_len (mgF (pAt P e)) P
  have HBE := Lib.hid (fun x y w => rbefore_any x y w)
  unfold pw at HBE
  generalize mvP (mgF (pAt P e)) P = Q at *
  generalize plL N (mgF (pAt P e)) = PLL at *
  have hqe : e < Q.length := by omega
  have hq5 : Q.length ≤ 100000 := by omega
  have HAL : Hid (∀ i, i < Q.length → iAt (lessL Q.length e) i = if i = e then -1 else if e < i then (i : Int) - 1 else i) := Lib.hid fun i hi => lessL_at Q.length e i hi
  have HAS : Hid (∀ i, i < Q.length → iAt (plc Q e) i = if i = e then -1 else (cntI Q e i Q.length : Int)) := Lib.hid fun i hi => plc_at Q e i hi
  have HLL := Lib.hid (lessL_len Q.length e)
  have HSL := Lib.hid (plc_len Q e)
  have HCT : Hid (∀ i j, cntI Q e i (j + 1) = cntI Q e i j + (if (decide (j ≠ e) && ltI Q j i) = true then 1 else 0)) := Lib.hid fun i j => rfl
  have HC0 : Hid (∀ i, cntI Q e i 0 = 0) := Lib.hid fun i => rfl
  have HCL : Hid (∀ i j, cntI Q e i j ≤ j) := Lib.hid fun i j => cntB_le _ j
  rw [← hql]
  generalize lessL Q.length e = LS at *
  generalize plc Q e = SS at *
  generalize cntI Q e = CI at *
  unfold gv at *
  unfold GivesI at HPL
  unfold GivesP at HEN HSE
  clear hin he hql h20
  obtain ⟨W, hW⟩ : ∃ W, W = w.alloc (Obj.cells #[.int .i64 N, .slice a L.length cap] 24) := ⟨_, rfl⟩
  have hB0 : Below w.heap.size w W := by rw [hW]; exact (Below.refl _ w).alloc (Nat.le_refl _) _
  have hG : Blk W w.heap.size 24 #[.int .i64 N, .slice a L.length cap] := by rw [hW]; exact Blk.new _ _ _
  have hWs : W.heap.size = w.heap.size + 1 := by rw [hW]; simp
  have HW := Lib.hid hW
  have HWS := Lib.hid hWs
  have HB0 := Lib.hid hB0
  have HE := Lib.hid (h.keep hB0)
  have HF : Hid (∀ u, Below W.heap.size W u → u.cell? ⟨w.heap.size, 0, none⟩ = some (.int .i64 N) ∧ u.cell? ⟨w.heap.size, 1, none⟩ = some (.slice a L.length cap)) := Lib.hid fun u hu => ⟨(hG.below hu hG.lt).cell 0, (hG.below hu hG.lt).cell 1⟩
  obtain ⟨g0, g1⟩ := HF.out W (Below.refl _ _)
  clear hB0 hG hW hWs h
  go_enter Try.func70, Try.ntmps70
  go_wp2_with fail
  rw [← HW.out]
  clear g0 g1
  have hj0 : Below W.heap.size W W.drew := (Below.refl _ _).drew
  refine wp_region_late (S := fun u => Below W.heap.size W u) (X := []) (by kernel_rfl) ?_
  refine wpAnyL_takeD (i := 0) 13 (.agg #[.int .i64 N, .slice a L.length cap]) rfl rfl (by kernel_rfl) (by kernel_rfl) (by kernel_rfl) (by kernel_rfl) (by kernel_rfl) (fun _ _ _ h => h) hj0 (Or.inl ⟨by rfl, fun u hu => ?_⟩) ?_
  · obtain ⟨t0, t1⟩ := HF.out u hu
    go_simp
  try simp only [Act.put, List.setIfInBounds_toArray, List.set_cons_zero, List.set_cons_succ]
  refine wpAnyL_takeD (i := 2) 15 (.agg #[.int .i64 N, .slice a L.length cap]) rfl rfl (by kernel_rfl) (by kernel_rfl) (by kernel_rfl) (by kernel_rfl) (by kernel_rfl) (fun _ _ _ h => h) hj0 (Or.inl ⟨by rfl, fun u hu => ?_⟩) ?_
  · obtain ⟨t0, t1⟩ := HF.out u hu
    go_simp
  try simp only [Act.put, List.setIfInBounds_toArray, List.set_cons_zero, List.set_cons_succ]
  refine wpAnyL_pureD (i := 3) 16 (.int .i64 e) rfl rfl (by kernel_rfl) (by kernel_rfl) (by kernel_rfl) (fun _ _ _ h => h) (Or.inl ⟨by rfl, fun u _ => ?_⟩) ?_
  · go_simp
  try simp only [Act.put, List.setIfInBounds_toArray, List.set_cons_zero, List.set_cons_succ]
  refine wpAnyL_one (i := 1) (by kernel_rfl) rfl (fun K hK => ?_)
  go_simp
  go_at_call 34
  refine (HEN.out _ (HE.out.keep hj0)).mono ?_
  rintro r x2 ⟨a3, c3, rfl, hps, hb2⟩
  have hj2 := hj0.trans (hb2.mono hj0.size)
  clear hj0 hb2
  show K _ _
  refine hK.out _ _ (fun _ _ => hj2) ?_
  clear hK K
  try simp only [Act.put, List.setIfInBounds_toArray, List.set_cons_zero, List.set_cons_succ]
  refine wpAnyL_one (i := 4) (by kernel_rfl) rfl (fun K hK => ?_)
  go_simp
  go_at_call 63
  refine (HPL.out _ (HE.out.keep hj2)).mono ?_
  rintro r x3 ⟨a4, c4, rfl, hpl, hb3⟩
  have hj3 := hj2.trans (hb3.mono hj2.size)
  have hps3 := hps.keep hb3
  clear hj2 hb3 hps
  show K _ _
  refine hK.out _ _ (fun _ _ => hj3) ?_
  clear hK K
  try simp only [Act.put, List.setIfInBounds_toArray, List.set_cons_zero, List.set_cons_succ]
  refine wpAnyL_one (i := 5) (by kernel_rfl) rfl (fun K hK => ?_)
  go_simp
  go_at_call 66
  refine (HSE.out _ _ _ _ _ hps3 hpl).mono ?_
  rintro r w5 ⟨a5, c1, rfl, hq, hb5⟩
  have hj5 := hj3.trans (hb5.mono hj3.size)
  clear hj3 hb5 hps3 hpl
  show K _ _
  refine hK.out _ _ (fun _ _ => hj5) ?_
  clear hK K
  try simp only [Act.put, List.setIfInBounds_toArray, List.set_cons_zero, List.set_cons_succ]
  refine wpAnyL_pureD (i := 6) 6 (.slice a5 Q.length c1) rfl rfl (by kernel_rfl) (by kernel_rfl) (by kernel_rfl) (fun _ _ _ h => h) (Or.inl ⟨by rfl, fun u _ => ?_⟩) ?_
  · go_simp
  try simp only [Act.put, List.setIfInBounds_toArray, List.set_cons_zero, List.set_cons_succ]
  refine wpAnyL_done (by kernel_rfl) ?_ _
  try simp only [Act.put, List.setIfInBounds_toArray, List.set_cons_zero, List.set_cons_succ]
  have HJ5 := Lib.hid hj5
  obtain ⟨b1, o1, hbb, q1, -⟩ := hq 0 (by omega)
  subst hbb
  have HQ := Lib.hid hq
  clear hj5 hq
  go_wp2
  go_loopw [7, 8, 9] (fun s t v wr => ∃ i : Nat, i ≤ Q.length ∧ v = .int .i64 i ∧ wr.ownsRow w5.heap.size 3 1 s (LS.take i).length (flat encI (LS.take i)) ∧ wr.ownsRow w5.heap.size 3 1 t (SS.take i).length (flat encI (SS.take i)) ∧ OwnApart s t ∧ Below w5.heap.size w5 wr) (fun _ _ v _ => Q.length - (intOf v).toNat)
  case atStart => exact ⟨0, by omega, rfl, World.ownsRow_nil _ _ _ _, World.ownsRow_nil _ _ _ _, OwnApart.nil, Below.refl _ _⟩
  case round =>
    obtain ⟨i, hi, rfl, hs, ht, hap, hb⟩ := hrel
    by_cases hlt : i < Q.length
    · have i1 : (i : Int) < (Q.length : Int) := by omega
      have i2 : (0 : Int) ≤ (i : Int) := by omega
      have HLo := Lib.hid hs
      have HSo := Lib.hid ht
      have HAP := Lib.hid hap
      have HBr := Lib.hid hb
      have HLn := Lib.hid (take_iAt LS i (by rw [HLL.out]; exact hlt))
      have HSn := Lib.hid (take_iAt SS i (by rw [HSL.out]; exact hlt))
      have HALi := Lib.hid (HAL.out i hlt)
      have HASi := Lib.hid (HAS.out i hlt)
      have hl1 : (LS.take i).length = i := by rw [List.length_take, HLL.out]; omega
      have hl2 : (SS.take i).length = i := by rw [List.length_take, HSL.out]; omega
      have HL1 := Lib.hid hl1
      have HL2 := Lib.hid hl2
      have hLS : (LS.take i).length ≤ 100000 := by omega
      have hSS : (SS.take i).length ≤ 100000 := by omega
      clear hs ht hap hb hl1 hl2
      generalize LS.take i = LT at *
      generalize SS.take i = ST at *
      by_cases hie : i = e
      · have d1 : ((i : Int) == (e : Int)) = true := by simp [hie]
        rw [if_pos hie] at HALi HASi
        clear hie
        go_wp2_with (first | (at_builtin; refine wpList_append_lies _ rfl _ _ 33 rfl w5.heap.size 3 i0 (.int .i64 0) 1 8 Try.underlying33 hi0 hz0 hz1 hz2 rfl (by decide) _ _ _ rfl (HLo.out.alloc _) ⟨_, 0, none⟩ 1 1 [.int .i64 (-1)] rfl rfl (lit_row _ _ _) (by simp [Value.oneCell']) (by decide) (by unfold maxLen; omega) (by omega) (by rw [World.size_alloc]; have := HBr.out.size; omega) (wr.heap.size + 1) (World.size_alloc ..) ?_; intro gn3 cn3 w3 hown3 hgrow3 hlie3 _; have hB3 : Below w5.heap.size w5 w3 := below_push (w := w5) HBr.out (fun k hk => (HLo.out.lt k hk).1) hgrow3; have hfar3 := own_far (HSo.out.alloc _) hgrow3 (fun k h1 h2 => HAP.out.symm k h1 h2); have hapn3 := OwnApart.new HSo.out HAP.out.symm gn3 _ hlie3 (Nat.le_succ _); have HL3 : Hid (w3.ownsRow w5.heap.size 3 1 (.slice (some ⟨gn3, 0, none⟩) (LT.length + 1) cn3) (LT ++ [(-1)]).length (flat encI (LT ++ [(-1)]))) := Lib.hid (by rw [List.length_append, flatI_snoc]; exact hown3); have HS3 := Lib.hid hfar3; have HA3 := Lib.hid (hapn3 (LT.length + 1) cn3); have HB3 := Lib.hid hB3; have HLN : Hid (LS.take (i + 1) = LT ++ [(-1)]) := Lib.hid (by rw [HLn.out, HALi.out]); clear hown3 hgrow3 hlie3 hB3 hfar3 hapn3) | (at_builtin; refine wpList_append_lies _ rfl _ _ 33 rfl w5.heap.size 3 i0 (.int .i64 0) 1 8 Try.underlying33 hi0 hz0 hz1 hz2 rfl (by decide) _ _ _ rfl (HS3.out.alloc _) ⟨_, 0, none⟩ 1 1 [.int .i64 (-1)] rfl rfl (lit_row _ _ _) (by simp [Value.oneCell']) (by decide) (by unfold maxLen; omega) (by omega) (by rw [World.size_alloc]; have := HB3.out.size; omega) (w3.heap.size + 1) (World.size_alloc ..) ?_; intro gn4 cn4 w4 hown4 hgrow4 hlie4 _; have hB4 : Below w5.heap.size w5 w4 := below_push (w := w5) HB3.out (fun k hk => (HS3.out.lt k hk).1) hgrow4; have hfar4 := own_far (HL3.out.alloc _) hgrow4 (fun k h1 h2 => HA3.out.symm k h1 h2); have hapn4 := OwnApart.new HL3.out HA3.out.symm gn4 _ hlie4 (Nat.le_succ _); have HS4 : Hid (w4.ownsRow w5.heap.size 3 1 (.slice (some ⟨gn4, 0, none⟩) (ST.length + 1) cn4) (ST ++ [(-1)]).length (flat encI (ST ++ [(-1)]))) := Lib.hid (by rw [List.length_append, flatI_snoc]; exact hown4); have HL4 := Lib.hid hfar4; have HA4 := Lib.hid (hapn4 (ST.length + 1) cn4); have HB4 := Lib.hid hB4; have HSN : Hid (SS.take (i + 1) = ST ++ [(-1)]) := Lib.hid (by rw [HSn.out, HASi.out]); clear hown4 hgrow4 hlie4 hB4 hfar4 hapn4))
        go_wp2
        go_roundw
        case rel => exact ⟨i + 1, by omega, by go_num, by rw [HLN.out]; exact HL4.out, by rw [HSN.out]; exact HS4.out, HA4.out, HB4.out⟩
        case measure => simp [intOf]; omega
      · have d1 : ((i : Int) == (e : Int)) = false := by rw [beq_eq_false_iff_ne]; omega
        rw [if_neg hie] at HALi HASi
        by_cases hei : e < i
        · have d2 : decide ((e : Int) < (i : Int)) = true := decide_eq_true (by omega)
          have c9 : IntKind.i64.wrap ((i : Int) - 1) = (i : Int) - 1 := IntWalk.i64_in _ (by omega)
          rw [if_pos hei] at HALi
          go_wp2_with (at_builtin; refine wpList_append_lies _ rfl _ _ 33 rfl w5.heap.size 3 i0 (.int .i64 0) 1 8 Try.underlying33 hi0 hz0 hz1 hz2 rfl (by decide) _ _ _ rfl (HLo.out.alloc _) ⟨_, 0, none⟩ 1 1 [.int .i64 ((i : Int) - 1)] rfl rfl (lit_row _ _ _) (by simp [Value.oneCell']) (by decide) (by unfold maxLen; omega) (by omega) (by rw [World.size_alloc]; have := HBr.out.size; omega) (wr.heap.size + 1) (World.size_alloc ..) ?_; intro gn3 cn3 w3 hown3 hgrow3 hlie3 _; have hB3 : Below w5.heap.size w5 w3 := below_push (w := w5) HBr.out (fun k hk => (HLo.out.lt k hk).1) hgrow3; have hfar3 := own_far (HSo.out.alloc _) hgrow3 (fun k h1 h2 => HAP.out.symm k h1 h2); have hapn3 := OwnApart.new HSo.out HAP.out.symm gn3 _ hlie3 (Nat.le_succ _); have HL3 : Hid (w3.ownsRow w5.heap.size 3 1 (.slice (some ⟨gn3, 0, none⟩) (LT.length + 1) cn3) (LT ++ [((i : Int) - 1)]).length (flat encI (LT ++ [((i : Int) - 1)]))) := Lib.hid (by rw [List.length_append, flatI_snoc]; exact hown3); have HS3 := Lib.hid hfar3; have HA3 := Lib.hid (hapn3 (LT.length + 1) cn3); have HB3 := Lib.hid hB3; have HLN : Hid (LS.take (i + 1) = LT ++ [((i : Int) - 1)]) := Lib.hid (by rw [HLn.out, HALi.out]); clear hown3 hgrow3 hlie3 hB3 hfar3 hapn3)
          clear hie hei d1 d2
          obtain ⟨sa, sb, HPI⟩ : ∃ sa sb, Hid (pAt Q i = (sa, sb)) := ⟨_, _, Lib.hid rfl⟩
          have HQI : Hid (∀ u, Below w5.heap.size w5 u → u.cell? ⟨b1, o1 + i * 2, none⟩ = some (.int .i64 sa) ∧ u.cell? ⟨b1, o1 + i * 2 + 1, none⟩ = some (.int .i64 sb)) := Lib.hid fun u hu => by
            obtain ⟨b3, o3, hb3, -, z1, z2⟩ := (HQ.out.keep hu).two i hlt
            injection hb3 with hb4
            injection hb4 with e1 e2
            subst e1 e2
            rw [HPI.out] at z1 z2
            exact ⟨z1, z2⟩
          have HCT2 := Lib.hid (HCT.out i)
          have HC02 := Lib.hid (HC0.out i)
          have HCL2 := Lib.hid (HCL.out i)
          generalize CI i = C at *
          go_wp2
          go_loopw [11, 12] (fun c x wr => ∃ j : Nat, j ≤ Q.length ∧ x = .int .i64 j ∧ c = .int .i64 (C j : Nat) ∧ wr.ownsRow w5.heap.size 3 1 (.slice (some ⟨gn3, 0, none⟩) (LT.length + 1) cn3) (LT ++ [((i : Int) - 1)]).length (flat encI (LT ++ [((i : Int) - 1)])) ∧ wr.ownsRow w5.heap.size 3 1 u8 ST.length (flat encI ST) ∧ Below w5.heap.size w5 wr) (fun _ x _ => Q.length - (intOf x).toNat)
          case atStart => exact ⟨0, by omega, rfl, by rw [HC02.out]; rfl, HL3.out, HS3.out, HB3.out⟩
          case round =>
            obtain ⟨j, hj, rfl, rfl, hs, ht, hb⟩ := hrel
            have HLo := Lib.hid hs
            have HSo := Lib.hid ht
            have HBr := Lib.hid hb
            have hcl := HCL2.out j
            clear hs ht
            by_cases hjl : j < Q.length
            · have j1 : (j : Int) < (Q.length : Int) := by omega
              have j2 : (0 : Int) ≤ (j : Int) := by omega
              obtain ⟨ta, tb, HPJ⟩ : ∃ ta tb, Hid (pAt Q j = (ta, tb)) := ⟨_, _, Lib.hid rfl⟩
              have HS : Hid (∀ u, Below wr.heap.size wr u → u.cell? ⟨b1, o1 + j * 2, none⟩ = some (.int .i64 ta) ∧ u.cell? ⟨b1, o1 + j * 2 + 1, none⟩ = some (.int .i64 tb) ∧ u.cell? ⟨b1, o1 + i * 2, none⟩ = some (.int .i64 sa) ∧ u.cell? ⟨b1, o1 + i * 2 + 1, none⟩ = some (.int .i64 sb)) := Lib.hid fun u hu => by
                have hu5 := HBr.out.trans (hu.mono HBr.out.size)
                obtain ⟨b3, o3, hb3, -, z1, z2⟩ := (HQ.out.keep hu5).two j hjl
                injection hb3 with hb4
                injection hb4 with e1 e2
                subst e1 e2
                rw [HPJ.out] at z1 z2
                exact ⟨z1, z2, HQI.out u hu5⟩
              have HCS := Lib.hid (HCT2.out j)
              clear hb
              by_cases hej : j = e
              · have d1 : ((j : Int) != (e : Int)) = false := by simp [hej]
                have HV : Hid ((decide (j ≠ e) && ltI Q j i) = false) := Lib.hid (by simp [hej])
                clear hej
                go_wp2
                have hj0 : Below wr.heap.size wr wr.drew := (Below.refl _ _).drew
                refine wp_region_late (S := fun u => Below wr.heap.size wr u) (X := []) (by kernel_rfl) ?_
                refine wpAnyL_pureD (i := 0) 50 (.int .i64 j) rfl rfl (by kernel_rfl) (by kernel_rfl) (by kernel_rfl) (fun _ _ _ h => h) (Or.inl ⟨by rfl, fun u _ => ?_⟩) ?_
                · go_simp
                try simp only [Act.put, List.setIfInBounds_toArray, List.set_cons_zero, List.set_cons_succ]
                refine wpAnyL_pureD (i := 1) 51 (.int .i64 e) rfl rfl (by kernel_rfl) (by kernel_rfl) (by kernel_rfl) (fun _ _ _ h => h) (Or.inl ⟨by rfl, fun u _ => ?_⟩) ?_
                · go_simp
                try simp only [Act.put, List.setIfInBounds_toArray, List.set_cons_zero, List.set_cons_succ]
                refine wpAnyL_pureD (i := 2) 52 (.bool false) rfl rfl (by kernel_rfl) (by kernel_rfl) (by kernel_rfl) (fun _ _ _ h => h) (Or.inl ⟨by rfl, fun u _ => ?_⟩) ?_
                · go_simp
                try simp only [Act.put, List.setIfInBounds_toArray, List.set_cons_zero, List.set_cons_succ]
                refine wpAnyL_pureD (i := 3) 53 (.bool false) rfl rfl (by kernel_rfl) (by kernel_rfl) (by kernel_rfl) (fun _ _ _ h => h) (Or.inl ⟨by rfl, fun u _ => ?_⟩) ?_
                · go_simp
                try simp only [Act.put, List.setIfInBounds_toArray, List.set_cons_zero, List.set_cons_succ]
                refine wpAnyL_pureD (i := 4) 54 undef rfl rfl (by kernel_rfl) (by kernel_rfl) (by kernel_rfl) (fun _ _ _ h => h) (Or.inr ⟨by kernel_rfl, rfl⟩) ?_
                try simp only [Act.put, List.setIfInBounds_toArray, List.set_cons_zero, List.set_cons_succ]
                refine wpAnyL_pureD (i := 5) 55 undef rfl rfl (by kernel_rfl) (by kernel_rfl) (by kernel_rfl) (fun _ _ _ h => h) (Or.inr ⟨by kernel_rfl, rfl⟩) ?_
                try simp only [Act.put, List.setIfInBounds_toArray, List.set_cons_zero, List.set_cons_succ]
                refine wpAnyL_pureD (i := 6) 56 undef rfl rfl (by kernel_rfl) (by kernel_rfl) (by kernel_rfl) (fun _ _ _ h => h) (Or.inr ⟨by kernel_rfl, rfl⟩) ?_
                try simp only [Act.put, List.setIfInBounds_toArray, List.set_cons_zero, List.set_cons_succ]
                refine wpAnyL_pureD (i := 7) 57 undef rfl rfl (by kernel_rfl) (by kernel_rfl) (by kernel_rfl) (fun _ _ _ h => h) (Or.inr ⟨by kernel_rfl, rfl⟩) ?_
                try simp only [Act.put, List.setIfInBounds_toArray, List.set_cons_zero, List.set_cons_succ]
                refine wpAnyL_pureD (i := 8) 58 undef rfl rfl (by kernel_rfl) (by kernel_rfl) (by kernel_rfl) (fun _ _ _ h => h) (Or.inr ⟨by kernel_rfl, rfl⟩) ?_
                try simp only [Act.put, List.setIfInBounds_toArray, List.set_cons_zero, List.set_cons_succ]
                refine wpAnyL_pureD (i := 9) 59 undef rfl rfl (by kernel_rfl) (by kernel_rfl) (by kernel_rfl) (fun _ _ _ h => h) (Or.inr ⟨by kernel_rfl, rfl⟩) ?_
                try simp only [Act.put, List.setIfInBounds_toArray, List.set_cons_zero, List.set_cons_succ]
                refine wpAnyL_pureD (i := 10) 60 undef rfl rfl (by kernel_rfl) (by kernel_rfl) (by kernel_rfl) (fun _ _ _ h => h) (Or.inr ⟨by kernel_rfl, rfl⟩) ?_
                try simp only [Act.put, List.setIfInBounds_toArray, List.set_cons_zero, List.set_cons_succ]
                refine wpAnyL_pureD (i := 11) 61 undef rfl rfl (by kernel_rfl) (by kernel_rfl) (by kernel_rfl) (fun _ _ _ h => h) (Or.inr ⟨by kernel_rfl, rfl⟩) ?_
                try simp only [Act.put, List.setIfInBounds_toArray, List.set_cons_zero, List.set_cons_succ]
                refine wpAnyL_pureD (i := 12) 62 undef rfl rfl (by kernel_rfl) (by kernel_rfl) (by kernel_rfl) (fun _ _ _ h => h) (Or.inr ⟨by kernel_rfl, rfl⟩) ?_
                try simp only [Act.put, List.setIfInBounds_toArray, List.set_cons_zero, List.set_cons_succ]
                refine wpAnyL_pureD (i := 13) 63 undef rfl rfl (by kernel_rfl) (by kernel_rfl) (by kernel_rfl) (fun _ _ _ h => h) (Or.inr ⟨by kernel_rfl, rfl⟩) ?_
                try simp only [Act.put, List.setIfInBounds_toArray, List.set_cons_zero, List.set_cons_succ]
                refine wpAnyL_pureD (i := 14) 64 undef rfl rfl (by kernel_rfl) (by kernel_rfl) (by kernel_rfl) (fun _ _ _ h => h) (Or.inr ⟨by kernel_rfl, rfl⟩) ?_
                try simp only [Act.put, List.setIfInBounds_toArray, List.set_cons_zero, List.set_cons_succ]
                refine wpAnyL_pureD (i := 15) 65 undef rfl rfl (by kernel_rfl) (by kernel_rfl) (by kernel_rfl) (fun _ _ _ h => h) (Or.inr ⟨by kernel_rfl, rfl⟩) ?_
                try simp only [Act.put, List.setIfInBounds_toArray, List.set_cons_zero, List.set_cons_succ]
                refine wpAnyL_pureD (i := 16) 66 undef rfl rfl (by kernel_rfl) (by kernel_rfl) (by kernel_rfl) (fun _ _ _ h => h) (Or.inr ⟨by kernel_rfl, rfl⟩) ?_
                try simp only [Act.put, List.setIfInBounds_toArray, List.set_cons_zero, List.set_cons_succ]
                refine wpAnyL_pureD (i := 17) 67 undef rfl rfl (by kernel_rfl) (by kernel_rfl) (by kernel_rfl) (fun _ _ _ h => h) (Or.inr ⟨by kernel_rfl, rfl⟩) ?_
                try simp only [Act.put, List.setIfInBounds_toArray, List.set_cons_zero, List.set_cons_succ]
                refine wpAnyL_pureD (i := 18) 68 undef rfl rfl (by kernel_rfl) (by kernel_rfl) (by kernel_rfl) (fun _ _ _ h => h) (Or.inr ⟨by kernel_rfl, rfl⟩) ?_
                try simp only [Act.put, List.setIfInBounds_toArray, List.set_cons_zero, List.set_cons_succ]
                refine wpAnyL_pureD (i := 19) 69 undef rfl rfl (by kernel_rfl) (by kernel_rfl) (by kernel_rfl) (fun _ _ _ h => h) (Or.inr ⟨by kernel_rfl, rfl⟩) ?_
                try simp only [Act.put, List.setIfInBounds_toArray, List.set_cons_zero, List.set_cons_succ]
                refine wpAnyL_pureD (i := 20) 70 undef rfl rfl (by kernel_rfl) (by kernel_rfl) (by kernel_rfl) (fun _ _ _ h => h) (Or.inr ⟨by kernel_rfl, rfl⟩) ?_
                try simp only [Act.put, List.setIfInBounds_toArray, List.set_cons_zero, List.set_cons_succ]
                refine wpAnyL_pureD (i := 21) 71 undef rfl rfl (by kernel_rfl) (by kernel_rfl) (by kernel_rfl) (fun _ _ _ h => h) (Or.inr ⟨by kernel_rfl, rfl⟩) ?_
                try simp only [Act.put, List.setIfInBounds_toArray, List.set_cons_zero, List.set_cons_succ]
                refine wpAnyL_pureD (i := 22) 72 undef rfl rfl (by kernel_rfl) (by kernel_rfl) (by kernel_rfl) (fun _ _ _ h => h) (Or.inr ⟨by kernel_rfl, rfl⟩) ?_
                try simp only [Act.put, List.setIfInBounds_toArray, List.set_cons_zero, List.set_cons_succ]
                refine wpAnyL_pureD (i := 23) 73 undef rfl rfl (by kernel_rfl) (by kernel_rfl) (by kernel_rfl) (fun _ _ _ h => h) (Or.inr ⟨by kernel_rfl, rfl⟩) ?_
                try simp only [Act.put, List.setIfInBounds_toArray, List.set_cons_zero, List.set_cons_succ]
                refine wpAnyL_pureD (i := 24) 74 undef rfl rfl (by kernel_rfl) (by kernel_rfl) (by kernel_rfl) (fun _ _ _ h => h) (Or.inr ⟨by kernel_rfl, rfl⟩) ?_
                try simp only [Act.put, List.setIfInBounds_toArray, List.set_cons_zero, List.set_cons_succ]
                refine wpAnyL_pureD (i := 25) 75 undef rfl rfl (by kernel_rfl) (by kernel_rfl) (by kernel_rfl) (fun _ _ _ h => h) (Or.inr ⟨by kernel_rfl, rfl⟩) ?_
                try simp only [Act.put, List.setIfInBounds_toArray, List.set_cons_zero, List.set_cons_succ]
                refine wpAnyL_pureD (i := 26) 76 undef rfl rfl (by kernel_rfl) (by kernel_rfl) (by kernel_rfl) (fun _ _ _ h => h) (Or.inr ⟨by kernel_rfl, rfl⟩) ?_
                try simp only [Act.put, List.setIfInBounds_toArray, List.set_cons_zero, List.set_cons_succ]
                refine wpAnyL_pureD (i := 27) 77 undef rfl rfl (by kernel_rfl) (by kernel_rfl) (by kernel_rfl) (fun _ _ _ h => h) (Or.inr ⟨by kernel_rfl, rfl⟩) ?_
                try simp only [Act.put, List.setIfInBounds_toArray, List.set_cons_zero, List.set_cons_succ]
                refine wpAnyL_pureD (i := 28) 78 undef rfl rfl (by kernel_rfl) (by kernel_rfl) (by kernel_rfl) (fun _ _ _ h => h) (Or.inr ⟨by kernel_rfl, rfl⟩) ?_
                try simp only [Act.put, List.setIfInBounds_toArray, List.set_cons_zero, List.set_cons_succ]
                refine wpAnyL_pureD (i := 29) 79 (.bool false) rfl rfl (by kernel_rfl) (by kernel_rfl) (by kernel_rfl) (fun _ _ _ h => h) (Or.inl ⟨by rfl, fun u _ => ?_⟩) ?_
                · go_simp
                try simp only [Act.put, List.setIfInBounds_toArray, List.set_cons_zero, List.set_cons_succ]
                refine wpAnyL_done (by kernel_rfl) ?_ _
                try simp only [Act.put, List.setIfInBounds_toArray, List.set_cons_zero, List.set_cons_succ]
                have HB4 : Hid (Below w5.heap.size w5 wr.drew) := Lib.hid (HBr.out.trans (hj0.mono HBr.out.size))
                have HL4 := Lib.hid (own_keep HLo.out hj0)
                have HS4 := Lib.hid (own_keep HSo.out hj0)
                clear hj0
                have HCn : Hid (C (j + 1) = C j) := Lib.hid (by rw [HCS.out, HV.out]; rfl)
                go_wp2
                go_roundw
                case rel => exact ⟨j + 1, by omega, by go_num, by rw [HCn.out], HL4.out, HS4.out, HB4.out⟩
                case measure => simp [intOf]; omega
              · have d1 : ((j : Int) != (e : Int)) = true := by rw [bne_iff_ne]; omega
                cases hlt2 : ltP (ta, tb) (sa, sb)
                · have HBF2 : Hid (∀ w, Calls Try.prog 95 #[.agg #[.int .i64 ta, .int .i64 tb], .agg #[.int .i64 sa, .int .i64 sb]] w (fun e w' => e = .returned (.bool false) ∧ Below w.heap.size w w')) := Lib.hid fun w => by have := HBE.out (ta, tb) (sa, sb) w; rw [hlt2] at this; exact this
                  by_cases heqp : ta = sa ∧ tb = sb
                  · have heq : ∀ w, (binOp .eql 25 (.agg #[.int .i64 ta, .int .i64 tb]) (.agg #[.int .i64 sa, .int .i64 sb])).run Try.prog w = .ok (.bool true) w := fun w => by rw [eql_pair]; simp [heqp]
                    have hpe : ((ta, tb) : Int × Int) = (sa, sb) := by rw [heqp.1, heqp.2]
                    by_cases hji : j < i
                    · have hlj : decide ((j : Int) < (i : Int)) = true := decide_eq_true (by omega)
                      have HV : Hid ((decide (j ≠ e) && ltI Q j i) = true) := Lib.hid (by unfold ltI; rw [HPJ.out, HPI.out, hlt2]; simp [hpe, hej, hji])
                      clear hej hlt2 heqp hpe
                      go_wp2
                      have hj0 : Below wr.heap.size wr wr.drew := (Below.refl _ _).drew
                      refine wp_region_late (S := fun u => Below wr.heap.size wr u) (X := []) (by kernel_rfl) ?_
                      refine wpAnyL_pureD (i := 0) 50 (.int .i64 j) rfl rfl (by kernel_rfl) (by kernel_rfl) (by kernel_rfl) (fun _ _ _ h => h) (Or.inl ⟨by rfl, fun u _ => ?_⟩) ?_
                      · go_simp
                      try simp only [Act.put, List.setIfInBounds_toArray, List.set_cons_zero, List.set_cons_succ]
                      refine wpAnyL_pureD (i := 1) 51 (.int .i64 e) rfl rfl (by kernel_rfl) (by kernel_rfl) (by kernel_rfl) (fun _ _ _ h => h) (Or.inl ⟨by rfl, fun u _ => ?_⟩) ?_
                      · go_simp
                      try simp only [Act.put, List.setIfInBounds_toArray, List.set_cons_zero, List.set_cons_succ]
                      refine wpAnyL_pureD (i := 2) 52 (.bool true) rfl rfl (by kernel_rfl) (by kernel_rfl) (by kernel_rfl) (fun _ _ _ h => h) (Or.inl ⟨by rfl, fun u _ => ?_⟩) ?_
                      · go_simp
                      try simp only [Act.put, List.setIfInBounds_toArray, List.set_cons_zero, List.set_cons_succ]
                      refine wpAnyL_pureD (i := 3) 53 (.bool true) rfl rfl (by kernel_rfl) (by kernel_rfl) (by kernel_rfl) (fun _ _ _ h => h) (Or.inl ⟨by rfl, fun u _ => ?_⟩) ?_
                      · go_simp
                      try simp only [Act.put, List.setIfInBounds_toArray, List.set_cons_zero, List.set_cons_succ]
                      refine wpAnyL_pureD (i := 4) 54 (.slice (some ⟨b1, o1, none⟩) Q.length c1) rfl rfl (by kernel_rfl) (by kernel_rfl) (by kernel_rfl) (fun _ _ _ h => h) (Or.inl ⟨by rfl, fun u _ => ?_⟩) ?_
                      · go_simp
                      try simp only [Act.put, List.setIfInBounds_toArray, List.set_cons_zero, List.set_cons_succ]
                      refine wpAnyL_pureD (i := 5) 55 (.int .i64 j) rfl rfl (by kernel_rfl) (by kernel_rfl) (by kernel_rfl) (fun _ _ _ h => h) (Or.inl ⟨by rfl, fun u _ => ?_⟩) ?_
                      · go_simp
                      try simp only [Act.put, List.setIfInBounds_toArray, List.set_cons_zero, List.set_cons_succ]
                      refine wpAnyL_pureD (i := 6) 56 (.pointer (some ⟨b1, o1 + j * 2, none⟩)) rfl rfl (by kernel_rfl) (by kernel_rfl) (by kernel_rfl) (fun _ _ _ h => h) (Or.inl ⟨by rfl, fun u _ => ?_⟩) ?_
                      · go_simp
                      try simp only [Act.put, List.setIfInBounds_toArray, List.set_cons_zero, List.set_cons_succ]
                      refine wpAnyL_takeD (i := 7) 57 (.agg #[.int .i64 ta, .int .i64 tb]) rfl rfl (by kernel_rfl) (by kernel_rfl) (by kernel_rfl) (by kernel_rfl) (by kernel_rfl) (fun _ _ _ h => h) hj0 (Or.inl ⟨by rfl, fun u hu => ?_⟩) ?_
                      · obtain ⟨t0, t1, t2, t3⟩ := HS.out u hu
                        go_simp
                      try simp only [Act.put, List.setIfInBounds_toArray, List.set_cons_zero, List.set_cons_succ]
                      refine wpAnyL_pureD (i := 8) 58 (.slice (some ⟨b1, o1, none⟩) Q.length c1) rfl rfl (by kernel_rfl) (by kernel_rfl) (by kernel_rfl) (fun _ _ _ h => h) (Or.inl ⟨by rfl, fun u _ => ?_⟩) ?_
                      · go_simp
                      try simp only [Act.put, List.setIfInBounds_toArray, List.set_cons_zero, List.set_cons_succ]
                      refine wpAnyL_pureD (i := 9) 59 (.int .i64 i) rfl rfl (by kernel_rfl) (by kernel_rfl) (by kernel_rfl) (fun _ _ _ h => h) (Or.inl ⟨by rfl, fun u _ => ?_⟩) ?_
                      · go_simp
                      try simp only [Act.put, List.setIfInBounds_toArray, List.set_cons_zero, List.set_cons_succ]
                      refine wpAnyL_pureD (i := 10) 60 (.pointer (some ⟨b1, o1 + i * 2, none⟩)) rfl rfl (by kernel_rfl) (by kernel_rfl) (by kernel_rfl) (fun _ _ _ h => h) (Or.inl ⟨by rfl, fun u _ => ?_⟩) ?_
                      · go_simp
                      try simp only [Act.put, List.setIfInBounds_toArray, List.set_cons_zero, List.set_cons_succ]
                      refine wpAnyL_takeD (i := 11) 61 (.agg #[.int .i64 sa, .int .i64 sb]) rfl rfl (by kernel_rfl) (by kernel_rfl) (by kernel_rfl) (by kernel_rfl) (by kernel_rfl) (fun _ _ _ h => h) hj0 (Or.inl ⟨by rfl, fun u hu => ?_⟩) ?_
                      · obtain ⟨t0, t1, t2, t3⟩ := HS.out u hu
                        go_simp
                      try simp only [Act.put, List.setIfInBounds_toArray, List.set_cons_zero, List.set_cons_succ]
                      refine wpAnyL_one (i := 12) (by kernel_rfl) rfl (fun K hK => ?_)
                      go_simp
                      go_at_call 95
                      refine (HBF2.out _).mono ?_
                      rintro r x2 ⟨rfl, hb2⟩
                      have hj2 := hj0.trans (hb2.mono hj0.size)
                      clear hj0 hb2
                      show K _ _
                      refine hK.out _ _ (fun _ _ => hj2) ?_
                      clear hK K
                      try simp only [Act.put, List.setIfInBounds_toArray, List.set_cons_zero, List.set_cons_succ]
                      refine wpAnyL_pureD (i := 13) 63 (.bool false) rfl rfl (by kernel_rfl) (by kernel_rfl) (by kernel_rfl) (fun _ _ _ h => h) (Or.inl ⟨by rfl, fun u _ => ?_⟩) ?_
                      · go_simp
                      try simp only [Act.put, List.setIfInBounds_toArray, List.set_cons_zero, List.set_cons_succ]
                      refine wpAnyL_pureD (i := 14) 64 (.slice (some ⟨b1, o1, none⟩) Q.length c1) rfl rfl (by kernel_rfl) (by kernel_rfl) (by kernel_rfl) (fun _ _ _ h => h) (Or.inl ⟨by rfl, fun u _ => ?_⟩) ?_
                      · go_simp
                      try simp only [Act.put, List.setIfInBounds_toArray, List.set_cons_zero, List.set_cons_succ]
                      refine wpAnyL_pureD (i := 15) 65 (.int .i64 j) rfl rfl (by kernel_rfl) (by kernel_rfl) (by kernel_rfl) (fun _ _ _ h => h) (Or.inl ⟨by rfl, fun u _ => ?_⟩) ?_
                      · go_simp
                      try simp only [Act.put, List.setIfInBounds_toArray, List.set_cons_zero, List.set_cons_succ]
                      refine wpAnyL_pureD (i := 16) 66 (.pointer (some ⟨b1, o1 + j * 2, none⟩)) rfl rfl (by kernel_rfl) (by kernel_rfl) (by kernel_rfl) (fun _ _ _ h => h) (Or.inl ⟨by rfl, fun u _ => ?_⟩) ?_
                      · go_simp
                      try simp only [Act.put, List.setIfInBounds_toArray, List.set_cons_zero, List.set_cons_succ]
                      refine wpAnyL_takeD (i := 17) 67 (.agg #[.int .i64 ta, .int .i64 tb]) rfl rfl (by kernel_rfl) (by kernel_rfl) (by kernel_rfl) (by kernel_rfl) (by kernel_rfl) (fun _ _ _ h => h) hj2 (Or.inl ⟨by rfl, fun u hu => ?_⟩) ?_
                      · obtain ⟨t0, t1, t2, t3⟩ := HS.out u hu
                        go_simp
                      try simp only [Act.put, List.setIfInBounds_toArray, List.set_cons_zero, List.set_cons_succ]
                      refine wpAnyL_pureD (i := 18) 68 (.slice (some ⟨b1, o1, none⟩) Q.length c1) rfl rfl (by kernel_rfl) (by kernel_rfl) (by kernel_rfl) (fun _ _ _ h => h) (Or.inl ⟨by rfl, fun u _ => ?_⟩) ?_
                      · go_simp
                      try simp only [Act.put, List.setIfInBounds_toArray, List.set_cons_zero, List.set_cons_succ]
                      refine wpAnyL_pureD (i := 19) 69 (.int .i64 i) rfl rfl (by kernel_rfl) (by kernel_rfl) (by kernel_rfl) (fun _ _ _ h => h) (Or.inl ⟨by rfl, fun u _ => ?_⟩) ?_
                      · go_simp
                      try simp only [Act.put, List.setIfInBounds_toArray, List.set_cons_zero, List.set_cons_succ]
                      refine wpAnyL_pureD (i := 20) 70 (.pointer (some ⟨b1, o1 + i * 2, none⟩)) rfl rfl (by kernel_rfl) (by kernel_rfl) (by kernel_rfl) (fun _ _ _ h => h) (Or.inl ⟨by rfl, fun u _ => ?_⟩) ?_
                      · go_simp
                      try simp only [Act.put, List.setIfInBounds_toArray, List.set_cons_zero, List.set_cons_succ]
                      refine wpAnyL_takeD (i := 21) 71 (.agg #[.int .i64 sa, .int .i64 sb]) rfl rfl (by kernel_rfl) (by kernel_rfl) (by kernel_rfl) (by kernel_rfl) (by kernel_rfl) (fun _ _ _ h => h) hj2 (Or.inl ⟨by rfl, fun u hu => ?_⟩) ?_
                      · obtain ⟨t0, t1, t2, t3⟩ := HS.out u hu
                        go_simp
                      try simp only [Act.put, List.setIfInBounds_toArray, List.set_cons_zero, List.set_cons_succ]
                      refine wpAnyL_pureD (i := 22) 72 (.bool true) rfl rfl (by kernel_rfl) (by kernel_rfl) (by kernel_rfl) (fun _ _ _ h => h) (Or.inl ⟨by rfl, fun u _ => ?_⟩) ?_
                      · go_simp
                        try exact heq _
                      try simp only [Act.put, List.setIfInBounds_toArray, List.set_cons_zero, List.set_cons_succ]
                      refine wpAnyL_pureD (i := 23) 73 (.bool true) rfl rfl (by kernel_rfl) (by kernel_rfl) (by kernel_rfl) (fun _ _ _ h => h) (Or.inl ⟨by rfl, fun u _ => ?_⟩) ?_
                      · go_simp
                      try simp only [Act.put, List.setIfInBounds_toArray, List.set_cons_zero, List.set_cons_succ]
                      refine wpAnyL_pureD (i := 24) 74 (.int .i64 j) rfl rfl (by kernel_rfl) (by kernel_rfl) (by kernel_rfl) (fun _ _ _ h => h) (Or.inl ⟨by rfl, fun u _ => ?_⟩) ?_
                      · go_simp
                      try simp only [Act.put, List.setIfInBounds_toArray, List.set_cons_zero, List.set_cons_succ]
                      refine wpAnyL_pureD (i := 25) 75 (.int .i64 i) rfl rfl (by kernel_rfl) (by kernel_rfl) (by kernel_rfl) (fun _ _ _ h => h) (Or.inl ⟨by rfl, fun u _ => ?_⟩) ?_
                      · go_simp
                      try simp only [Act.put, List.setIfInBounds_toArray, List.set_cons_zero, List.set_cons_succ]
                      refine wpAnyL_pureD (i := 26) 76 (.bool true) rfl rfl (by kernel_rfl) (by kernel_rfl) (by kernel_rfl) (fun _ _ _ h => h) (Or.inl ⟨by rfl, fun u _ => ?_⟩) ?_
                      · go_simp
                        all_goals first | exact hlj | omega
                      try simp only [Act.put, List.setIfInBounds_toArray, List.set_cons_zero, List.set_cons_succ]
                      refine wpAnyL_pureD (i := 27) 77 (.bool true) rfl rfl (by kernel_rfl) (by kernel_rfl) (by kernel_rfl) (fun _ _ _ h => h) (Or.inl ⟨by rfl, fun u _ => ?_⟩) ?_
                      · go_simp
                      try simp only [Act.put, List.setIfInBounds_toArray, List.set_cons_zero, List.set_cons_succ]
                      refine wpAnyL_pureD (i := 28) 78 (.bool true) rfl rfl (by kernel_rfl) (by kernel_rfl) (by kernel_rfl) (fun _ _ _ h => h) (Or.inl ⟨by rfl, fun u _ => ?_⟩) ?_
                      · go_simp
                      try simp only [Act.put, List.setIfInBounds_toArray, List.set_cons_zero, List.set_cons_succ]
                      refine wpAnyL_pureD (i := 29) 79 (.bool true) rfl rfl (by kernel_rfl) (by kernel_rfl) (by kernel_rfl) (fun _ _ _ h => h) (Or.inl ⟨by rfl, fun u _ => ?_⟩) ?_
                      · go_simp
                      try simp only [Act.put, List.setIfInBounds_toArray, List.set_cons_zero, List.set_cons_succ]
                      refine wpAnyL_done (by kernel_rfl) ?_ _
                      try simp only [Act.put, List.setIfInBounds_toArray, List.set_cons_zero, List.set_cons_succ]
                      have HB4 : Hid (Below w5.heap.size w5 x2) := Lib.hid (HBr.out.trans (hj2.mono HBr.out.size))
                      have HL4 := Lib.hid (own_keep HLo.out hj2)
                      have HS4 := Lib.hid (own_keep HSo.out hj2)
                      clear hj2
                      have HCn : Hid (C (j + 1) = C j + 1) := Lib.hid (by rw [HCS.out, HV.out]; rfl)
                      go_wp2
                      go_roundw
                      case rel => exact ⟨j + 1, by omega, by go_num, by rw [HCn.out]; push_cast; rfl, HL4.out, HS4.out, HB4.out⟩
                      case measure => simp [intOf]; omega
                    · have hlj : decide ((j : Int) < (i : Int)) = false := decide_eq_false (by omega)
                      have HV : Hid ((decide (j ≠ e) && ltI Q j i) = false) := Lib.hid (by unfold ltI; rw [HPJ.out, HPI.out, hlt2]; simp [hji])
                      clear hej hlt2 heqp hpe
                      go_wp2
                      have hj0 : Below wr.heap.size wr wr.drew := (Below.refl _ _).drew
                      refine wp_region_late (S := fun u => Below wr.heap.size wr u) (X := []) (by kernel_rfl) ?_
                      refine wpAnyL_pureD (i := 0) 50 (.int .i64 j) rfl rfl (by kernel_rfl) (by kernel_rfl) (by kernel_rfl) (fun _ _ _ h => h) (Or.inl ⟨by rfl, fun u _ => ?_⟩) ?_
                      · go_simp
                      try simp only [Act.put, List.setIfInBounds_toArray, List.set_cons_zero, List.set_cons_succ]
                      refine wpAnyL_pureD (i := 1) 51 (.int .i64 e) rfl rfl (by kernel_rfl) (by kernel_rfl) (by kernel_rfl) (fun _ _ _ h => h) (Or.inl ⟨by rfl, fun u _ => ?_⟩) ?_
                      · go_simp
                      try simp only [Act.put, List.setIfInBounds_toArray, List.set_cons_zero, List.set_cons_succ]
                      refine wpAnyL_pureD (i := 2) 52 (.bool true) rfl rfl (by kernel_rfl) (by kernel_rfl) (by kernel_rfl) (fun _ _ _ h => h) (Or.inl ⟨by rfl, fun u _ => ?_⟩) ?_
                      · go_simp
                      try simp only [Act.put, List.setIfInBounds_toArray, List.set_cons_zero, List.set_cons_succ]
                      refine wpAnyL_pureD (i := 3) 53 (.bool true) rfl rfl (by kernel_rfl) (by kernel_rfl) (by kernel_rfl) (fun _ _ _ h => h) (Or.inl ⟨by rfl, fun u _ => ?_⟩) ?_
                      · go_simp
                      try simp only [Act.put, List.setIfInBounds_toArray, List.set_cons_zero, List.set_cons_succ]
                      refine wpAnyL_pureD (i := 4) 54 (.slice (some ⟨b1, o1, none⟩) Q.length c1) rfl rfl (by kernel_rfl) (by kernel_rfl) (by kernel_rfl) (fun _ _ _ h => h) (Or.inl ⟨by rfl, fun u _ => ?_⟩) ?_
                      · go_simp
                      try simp only [Act.put, List.setIfInBounds_toArray, List.set_cons_zero, List.set_cons_succ]
                      refine wpAnyL_pureD (i := 5) 55 (.int .i64 j) rfl rfl (by kernel_rfl) (by kernel_rfl) (by kernel_rfl) (fun _ _ _ h => h) (Or.inl ⟨by rfl, fun u _ => ?_⟩) ?_
                      · go_simp
                      try simp only [Act.put, List.setIfInBounds_toArray, List.set_cons_zero, List.set_cons_succ]
                      refine wpAnyL_pureD (i := 6) 56 (.pointer (some ⟨b1, o1 + j * 2, none⟩)) rfl rfl (by kernel_rfl) (by kernel_rfl) (by kernel_rfl) (fun _ _ _ h => h) (Or.inl ⟨by rfl, fun u _ => ?_⟩) ?_
                      · go_simp
                      try simp only [Act.put, List.setIfInBounds_toArray, List.set_cons_zero, List.set_cons_succ]
                      refine wpAnyL_takeD (i := 7) 57 (.agg #[.int .i64 ta, .int .i64 tb]) rfl rfl (by kernel_rfl) (by kernel_rfl) (by kernel_rfl) (by kernel_rfl) (by kernel_rfl) (fun _ _ _ h => h) hj0 (Or.inl ⟨by rfl, fun u hu => ?_⟩) ?_
                      · obtain ⟨t0, t1, t2, t3⟩ := HS.out u hu
                        go_simp
                      try simp only [Act.put, List.setIfInBounds_toArray, List.set_cons_zero, List.set_cons_succ]
                      refine wpAnyL_pureD (i := 8) 58 (.slice (some ⟨b1, o1, none⟩) Q.length c1) rfl rfl (by kernel_rfl) (by kernel_rfl) (by kernel_rfl) (fun _ _ _ h => h) (Or.inl ⟨by rfl, fun u _ => ?_⟩) ?_
                      · go_simp
                      try simp only [Act.put, List.setIfInBounds_toArray, List.set_cons_zero, List.set_cons_succ]
                      refine wpAnyL_pureD (i := 9) 59 (.int .i64 i) rfl rfl (by kernel_rfl) (by kernel_rfl) (by kernel_rfl) (fun _ _ _ h => h) (Or.inl ⟨by rfl, fun u _ => ?_⟩) ?_
                      · go_simp
                      try simp only [Act.put, List.setIfInBounds_toArray, List.set_cons_zero, List.set_cons_succ]
                      refine wpAnyL_pureD (i := 10) 60 (.pointer (some ⟨b1, o1 + i * 2, none⟩)) rfl rfl (by kernel_rfl) (by kernel_rfl) (by kernel_rfl) (fun _ _ _ h => h) (Or.inl ⟨by rfl, fun u _ => ?_⟩) ?_
                      · go_simp
                      try simp only [Act.put, List.setIfInBounds_toArray, List.set_cons_zero, List.set_cons_succ]
                      refine wpAnyL_takeD (i := 11) 61 (.agg #[.int .i64 sa, .int .i64 sb]) rfl rfl (by kernel_rfl) (by kernel_rfl) (by kernel_rfl) (by kernel_rfl) (by kernel_rfl) (fun _ _ _ h => h) hj0 (Or.inl ⟨by rfl, fun u hu => ?_⟩) ?_
                      · obtain ⟨t0, t1, t2, t3⟩ := HS.out u hu
                        go_simp
                      try simp only [Act.put, List.setIfInBounds_toArray, List.set_cons_zero, List.set_cons_succ]
                      refine wpAnyL_one (i := 12) (by kernel_rfl) rfl (fun K hK => ?_)
                      go_simp
                      go_at_call 95
                      refine (HBF2.out _).mono ?_
                      rintro r x2 ⟨rfl, hb2⟩
                      have hj2 := hj0.trans (hb2.mono hj0.size)
                      clear hj0 hb2
                      show K _ _
                      refine hK.out _ _ (fun _ _ => hj2) ?_
                      clear hK K
                      try simp only [Act.put, List.setIfInBounds_toArray, List.set_cons_zero, List.set_cons_succ]
                      refine wpAnyL_pureD (i := 13) 63 (.bool false) rfl rfl (by kernel_rfl) (by kernel_rfl) (by kernel_rfl) (fun _ _ _ h => h) (Or.inl ⟨by rfl, fun u _ => ?_⟩) ?_
                      · go_simp
                      try simp only [Act.put, List.setIfInBounds_toArray, List.set_cons_zero, List.set_cons_succ]
                      refine wpAnyL_pureD (i := 14) 64 (.slice (some ⟨b1, o1, none⟩) Q.length c1) rfl rfl (by kernel_rfl) (by kernel_rfl) (by kernel_rfl) (fun _ _ _ h => h) (Or.inl ⟨by rfl, fun u _ => ?_⟩) ?_
                      · go_simp
                      try simp only [Act.put, List.setIfInBounds_toArray, List.set_cons_zero, List.set_cons_succ]
                      refine wpAnyL_pureD (i := 15) 65 (.int .i64 j) rfl rfl (by kernel_rfl) (by kernel_rfl) (by kernel_rfl) (fun _ _ _ h => h) (Or.inl ⟨by rfl, fun u _ => ?_⟩) ?_
                      · go_simp
                      try simp only [Act.put, List.setIfInBounds_toArray, List.set_cons_zero, List.set_cons_succ]
                      refine wpAnyL_pureD (i := 16) 66 (.pointer (some ⟨b1, o1 + j * 2, none⟩)) rfl rfl (by kernel_rfl) (by kernel_rfl) (by kernel_rfl) (fun _ _ _ h => h) (Or.inl ⟨by rfl, fun u _ => ?_⟩) ?_
                      · go_simp
                      try simp only [Act.put, List.setIfInBounds_toArray, List.set_cons_zero, List.set_cons_succ]
                      refine wpAnyL_takeD (i := 17) 67 (.agg #[.int .i64 ta, .int .i64 tb]) rfl rfl (by kernel_rfl) (by kernel_rfl) (by kernel_rfl) (by kernel_rfl) (by kernel_rfl) (fun _ _ _ h => h) hj2 (Or.inl ⟨by rfl, fun u hu => ?_⟩) ?_
                      · obtain ⟨t0, t1, t2, t3⟩ := HS.out u hu
                        go_simp
                      try simp only [Act.put, List.setIfInBounds_toArray, List.set_cons_zero, List.set_cons_succ]
                      refine wpAnyL_pureD (i := 18) 68 (.slice (some ⟨b1, o1, none⟩) Q.length c1) rfl rfl (by kernel_rfl) (by kernel_rfl) (by kernel_rfl) (fun _ _ _ h => h) (Or.inl ⟨by rfl, fun u _ => ?_⟩) ?_
                      · go_simp
                      try simp only [Act.put, List.setIfInBounds_toArray, List.set_cons_zero, List.set_cons_succ]
                      refine wpAnyL_pureD (i := 19) 69 (.int .i64 i) rfl rfl (by kernel_rfl) (by kernel_rfl) (by kernel_rfl) (fun _ _ _ h => h) (Or.inl ⟨by rfl, fun u _ => ?_⟩) ?_
                      · go_simp
                      try simp only [Act.put, List.setIfInBounds_toArray, List.set_cons_zero, List.set_cons_succ]
                      refine wpAnyL_pureD (i := 20) 70 (.pointer (some ⟨b1, o1 + i * 2, none⟩)) rfl rfl (by kernel_rfl) (by kernel_rfl) (by kernel_rfl) (fun _ _ _ h => h) (Or.inl ⟨by rfl, fun u _ => ?_⟩) ?_
                      · go_simp
                      try simp only [Act.put, List.setIfInBounds_toArray, List.set_cons_zero, List.set_cons_succ]
                      refine wpAnyL_takeD (i := 21) 71 (.agg #[.int .i64 sa, .int .i64 sb]) rfl rfl (by kernel_rfl) (by kernel_rfl) (by kernel_rfl) (by kernel_rfl) (by kernel_rfl) (fun _ _ _ h => h) hj2 (Or.inl ⟨by rfl, fun u hu => ?_⟩) ?_
                      · obtain ⟨t0, t1, t2, t3⟩ := HS.out u hu
                        go_simp
                      try simp only [Act.put, List.setIfInBounds_toArray, List.set_cons_zero, List.set_cons_succ]
                      refine wpAnyL_pureD (i := 22) 72 (.bool true) rfl rfl (by kernel_rfl) (by kernel_rfl) (by kernel_rfl) (fun _ _ _ h => h) (Or.inl ⟨by rfl, fun u _ => ?_⟩) ?_
                      · go_simp
                        try exact heq _
                      try simp only [Act.put, List.setIfInBounds_toArray, List.set_cons_zero, List.set_cons_succ]
                      refine wpAnyL_pureD (i := 23) 73 (.bool true) rfl rfl (by kernel_rfl) (by kernel_rfl) (by kernel_rfl) (fun _ _ _ h => h) (Or.inl ⟨by rfl, fun u _ => ?_⟩) ?_
                      · go_simp
                      try simp only [Act.put, List.setIfInBounds_toArray, List.set_cons_zero, List.set_cons_succ]
                      refine wpAnyL_pureD (i := 24) 74 (.int .i64 j) rfl rfl (by kernel_rfl) (by kernel_rfl) (by kernel_rfl) (fun _ _ _ h => h) (Or.inl ⟨by rfl, fun u _ => ?_⟩) ?_
                      · go_simp
                      try simp only [Act.put, List.setIfInBounds_toArray, List.set_cons_zero, List.set_cons_succ]
                      refine wpAnyL_pureD (i := 25) 75 (.int .i64 i) rfl rfl (by kernel_rfl) (by kernel_rfl) (by kernel_rfl) (fun _ _ _ h => h) (Or.inl ⟨by rfl, fun u _ => ?_⟩) ?_
                      · go_simp
                      try simp only [Act.put, List.setIfInBounds_toArray, List.set_cons_zero, List.set_cons_succ]
                      refine wpAnyL_pureD (i := 26) 76 (.bool false) rfl rfl (by kernel_rfl) (by kernel_rfl) (by kernel_rfl) (fun _ _ _ h => h) (Or.inl ⟨by rfl, fun u _ => ?_⟩) ?_
                      · go_simp
                        all_goals first | exact hlj | omega
                      try simp only [Act.put, List.setIfInBounds_toArray, List.set_cons_zero, List.set_cons_succ]
                      refine wpAnyL_pureD (i := 27) 77 (.bool false) rfl rfl (by kernel_rfl) (by kernel_rfl) (by kernel_rfl) (fun _ _ _ h => h) (Or.inl ⟨by rfl, fun u _ => ?_⟩) ?_
                      · go_simp
                      try simp only [Act.put, List.setIfInBounds_toArray, List.set_cons_zero, List.set_cons_succ]
                      refine wpAnyL_pureD (i := 28) 78 (.bool false) rfl rfl (by kernel_rfl) (by kernel_rfl) (by kernel_rfl) (fun _ _ _ h => h) (Or.inl ⟨by rfl, fun u _ => ?_⟩) ?_
                      · go_simp
                      try simp only [Act.put, List.setIfInBounds_toArray, List.set_cons_zero, List.set_cons_succ]
                      refine wpAnyL_pureD (i := 29) 79 (.bool false) rfl rfl (by kernel_rfl) (by kernel_rfl) (by kernel_rfl) (fun _ _ _ h => h) (Or.inl ⟨by rfl, fun u _ => ?_⟩) ?_
                      · go_simp
                      try simp only [Act.put, List.setIfInBounds_toArray, List.set_cons_zero, List.set_cons_succ]
                      refine wpAnyL_done (by kernel_rfl) ?_ _
                      try simp only [Act.put, List.setIfInBounds_toArray, List.set_cons_zero, List.set_cons_succ]
                      have HB4 : Hid (Below w5.heap.size w5 x2) := Lib.hid (HBr.out.trans (hj2.mono HBr.out.size))
                      have HL4 := Lib.hid (own_keep HLo.out hj2)
                      have HS4 := Lib.hid (own_keep HSo.out hj2)
                      clear hj2
                      have HCn : Hid (C (j + 1) = C j) := Lib.hid (by rw [HCS.out, HV.out]; rfl)
                      go_wp2
                      go_roundw
                      case rel => exact ⟨j + 1, by omega, by go_num, by rw [HCn.out], HL4.out, HS4.out, HB4.out⟩
                      case measure => simp [intOf]; omega
                  · have heq : ∀ w, (binOp .eql 25 (.agg #[.int .i64 ta, .int .i64 tb]) (.agg #[.int .i64 sa, .int .i64 sb])).run Try.prog w = .ok (.bool false) w := fun w => by
                      rw [eql_pair]
                      have : ((ta == sa) && (tb == sb)) = false := by
                        cases h1 : (ta == sa) <;> cases h2 : (tb == sb) <;> simp_all
                      rw [this]
                    have HV : Hid ((decide (j ≠ e) && ltI Q j i) = false) := Lib.hid (by unfold ltI; rw [HPJ.out, HPI.out, hlt2]; simp; omega)
                    clear hej hlt2 heqp
                    go_wp2
                    have hj0 : Below wr.heap.size wr wr.drew := (Below.refl _ _).drew
                    refine wp_region_late (S := fun u => Below wr.heap.size wr u) (X := []) (by kernel_rfl) ?_
                    refine wpAnyL_pureD (i := 0) 50 (.int .i64 j) rfl rfl (by kernel_rfl) (by kernel_rfl) (by kernel_rfl) (fun _ _ _ h => h) (Or.inl ⟨by rfl, fun u _ => ?_⟩) ?_
                    · go_simp
                    try simp only [Act.put, List.setIfInBounds_toArray, List.set_cons_zero, List.set_cons_succ]
                    refine wpAnyL_pureD (i := 1) 51 (.int .i64 e) rfl rfl (by kernel_rfl) (by kernel_rfl) (by kernel_rfl) (fun _ _ _ h => h) (Or.inl ⟨by rfl, fun u _ => ?_⟩) ?_
                    · go_simp
                    try simp only [Act.put, List.setIfInBounds_toArray, List.set_cons_zero, List.set_cons_succ]
                    refine wpAnyL_pureD (i := 2) 52 (.bool true) rfl rfl (by kernel_rfl) (by kernel_rfl) (by kernel_rfl) (fun _ _ _ h => h) (Or.inl ⟨by rfl, fun u _ => ?_⟩) ?_
                    · go_simp
                    try simp only [Act.put, List.setIfInBounds_toArray, List.set_cons_zero, List.set_cons_succ]
                    refine wpAnyL_pureD (i := 3) 53 (.bool true) rfl rfl (by kernel_rfl) (by kernel_rfl) (by kernel_rfl) (fun _ _ _ h => h) (Or.inl ⟨by rfl, fun u _ => ?_⟩) ?_
                    · go_simp
                    try simp only [Act.put, List.setIfInBounds_toArray, List.set_cons_zero, List.set_cons_succ]
                    refine wpAnyL_pureD (i := 4) 54 (.slice (some ⟨b1, o1, none⟩) Q.length c1) rfl rfl (by kernel_rfl) (by kernel_rfl) (by kernel_rfl) (fun _ _ _ h => h) (Or.inl ⟨by rfl, fun u _ => ?_⟩) ?_
                    · go_simp
                    try simp only [Act.put, List.setIfInBounds_toArray, List.set_cons_zero, List.set_cons_succ]
                    refine wpAnyL_pureD (i := 5) 55 (.int .i64 j) rfl rfl (by kernel_rfl) (by kernel_rfl) (by kernel_rfl) (fun _ _ _ h => h) (Or.inl ⟨by rfl, fun u _ => ?_⟩) ?_
                    · go_simp
                    try simp only [Act.put, List.setIfInBounds_toArray, List.set_cons_zero, List.set_cons_succ]
                    refine wpAnyL_pureD (i := 6) 56 (.pointer (some ⟨b1, o1 + j * 2, none⟩)) rfl rfl (by kernel_rfl) (by kernel_rfl) (by kernel_rfl) (fun _ _ _ h => h) (Or.inl ⟨by rfl, fun u _ => ?_⟩) ?_
                    · go_simp
                    try simp only [Act.put, List.setIfInBounds_toArray, List.set_cons_zero, List.set_cons_succ]
                    refine wpAnyL_takeD (i := 7) 57 (.agg #[.int .i64 ta, .int .i64 tb]) rfl rfl (by kernel_rfl) (by kernel_rfl) (by kernel_rfl) (by kernel_rfl) (by kernel_rfl) (fun _ _ _ h => h) hj0 (Or.inl ⟨by rfl, fun u hu => ?_⟩) ?_
                    · obtain ⟨t0, t1, t2, t3⟩ := HS.out u hu
                      go_simp
                    try simp only [Act.put, List.setIfInBounds_toArray, List.set_cons_zero, List.set_cons_succ]
                    refine wpAnyL_pureD (i := 8) 58 (.slice (some ⟨b1, o1, none⟩) Q.length c1) rfl rfl (by kernel_rfl) (by kernel_rfl) (by kernel_rfl) (fun _ _ _ h => h) (Or.inl ⟨by rfl, fun u _ => ?_⟩) ?_
                    · go_simp
                    try simp only [Act.put, List.setIfInBounds_toArray, List.set_cons_zero, List.set_cons_succ]
                    refine wpAnyL_pureD (i := 9) 59 (.int .i64 i) rfl rfl (by kernel_rfl) (by kernel_rfl) (by kernel_rfl) (fun _ _ _ h => h) (Or.inl ⟨by rfl, fun u _ => ?_⟩) ?_
                    · go_simp
                    try simp only [Act.put, List.setIfInBounds_toArray, List.set_cons_zero, List.set_cons_succ]
                    refine wpAnyL_pureD (i := 10) 60 (.pointer (some ⟨b1, o1 + i * 2, none⟩)) rfl rfl (by kernel_rfl) (by kernel_rfl) (by kernel_rfl) (fun _ _ _ h => h) (Or.inl ⟨by rfl, fun u _ => ?_⟩) ?_
                    · go_simp
                    try simp only [Act.put, List.setIfInBounds_toArray, List.set_cons_zero, List.set_cons_succ]
                    refine wpAnyL_takeD (i := 11) 61 (.agg #[.int .i64 sa, .int .i64 sb]) rfl rfl (by kernel_rfl) (by kernel_rfl) (by kernel_rfl) (by kernel_rfl) (by kernel_rfl) (fun _ _ _ h => h) hj0 (Or.inl ⟨by rfl, fun u hu => ?_⟩) ?_
                    · obtain ⟨t0, t1, t2, t3⟩ := HS.out u hu
                      go_simp
                    try simp only [Act.put, List.setIfInBounds_toArray, List.set_cons_zero, List.set_cons_succ]
                    refine wpAnyL_one (i := 12) (by kernel_rfl) rfl (fun K hK => ?_)
                    go_simp
                    go_at_call 95
                    refine (HBF2.out _).mono ?_
                    rintro r x2 ⟨rfl, hb2⟩
                    have hj2 := hj0.trans (hb2.mono hj0.size)
                    clear hj0 hb2
                    show K _ _
                    refine hK.out _ _ (fun _ _ => hj2) ?_
                    clear hK K
                    try simp only [Act.put, List.setIfInBounds_toArray, List.set_cons_zero, List.set_cons_succ]
                    refine wpAnyL_pureD (i := 13) 63 (.bool false) rfl rfl (by kernel_rfl) (by kernel_rfl) (by kernel_rfl) (fun _ _ _ h => h) (Or.inl ⟨by rfl, fun u _ => ?_⟩) ?_
                    · go_simp
                    try simp only [Act.put, List.setIfInBounds_toArray, List.set_cons_zero, List.set_cons_succ]
                    refine wpAnyL_pureD (i := 14) 64 (.slice (some ⟨b1, o1, none⟩) Q.length c1) rfl rfl (by kernel_rfl) (by kernel_rfl) (by kernel_rfl) (fun _ _ _ h => h) (Or.inl ⟨by rfl, fun u _ => ?_⟩) ?_
                    · go_simp
                    try simp only [Act.put, List.setIfInBounds_toArray, List.set_cons_zero, List.set_cons_succ]
                    refine wpAnyL_pureD (i := 15) 65 (.int .i64 j) rfl rfl (by kernel_rfl) (by kernel_rfl) (by kernel_rfl) (fun _ _ _ h => h) (Or.inl ⟨by rfl, fun u _ => ?_⟩) ?_
                    · go_simp
                    try simp only [Act.put, List.setIfInBounds_toArray, List.set_cons_zero, List.set_cons_succ]
                    refine wpAnyL_pureD (i := 16) 66 (.pointer (some ⟨b1, o1 + j * 2, none⟩)) rfl rfl (by kernel_rfl) (by kernel_rfl) (by kernel_rfl) (fun _ _ _ h => h) (Or.inl ⟨by rfl, fun u _ => ?_⟩) ?_
                    · go_simp
                    try simp only [Act.put, List.setIfInBounds_toArray, List.set_cons_zero, List.set_cons_succ]
                    refine wpAnyL_takeD (i := 17) 67 (.agg #[.int .i64 ta, .int .i64 tb]) rfl rfl (by kernel_rfl) (by kernel_rfl) (by kernel_rfl) (by kernel_rfl) (by kernel_rfl) (fun _ _ _ h => h) hj2 (Or.inl ⟨by rfl, fun u hu => ?_⟩) ?_
                    · obtain ⟨t0, t1, t2, t3⟩ := HS.out u hu
                      go_simp
                    try simp only [Act.put, List.setIfInBounds_toArray, List.set_cons_zero, List.set_cons_succ]
                    refine wpAnyL_pureD (i := 18) 68 (.slice (some ⟨b1, o1, none⟩) Q.length c1) rfl rfl (by kernel_rfl) (by kernel_rfl) (by kernel_rfl) (fun _ _ _ h => h) (Or.inl ⟨by rfl, fun u _ => ?_⟩) ?_
                    · go_simp
                    try simp only [Act.put, List.setIfInBounds_toArray, List.set_cons_zero, List.set_cons_succ]
                    refine wpAnyL_pureD (i := 19) 69 (.int .i64 i) rfl rfl (by kernel_rfl) (by kernel_rfl) (by kernel_rfl) (fun _ _ _ h => h) (Or.inl ⟨by rfl, fun u _ => ?_⟩) ?_
                    · go_simp
                    try simp only [Act.put, List.setIfInBounds_toArray, List.set_cons_zero, List.set_cons_succ]
                    refine wpAnyL_pureD (i := 20) 70 (.pointer (some ⟨b1, o1 + i * 2, none⟩)) rfl rfl (by kernel_rfl) (by kernel_rfl) (by kernel_rfl) (fun _ _ _ h => h) (Or.inl ⟨by rfl, fun u _ => ?_⟩) ?_
                    · go_simp
                    try simp only [Act.put, List.setIfInBounds_toArray, List.set_cons_zero, List.set_cons_succ]
                    refine wpAnyL_takeD (i := 21) 71 (.agg #[.int .i64 sa, .int .i64 sb]) rfl rfl (by kernel_rfl) (by kernel_rfl) (by kernel_rfl) (by kernel_rfl) (by kernel_rfl) (fun _ _ _ h => h) hj2 (Or.inl ⟨by rfl, fun u hu => ?_⟩) ?_
                    · obtain ⟨t0, t1, t2, t3⟩ := HS.out u hu
                      go_simp
                    try simp only [Act.put, List.setIfInBounds_toArray, List.set_cons_zero, List.set_cons_succ]
                    refine wpAnyL_pureD (i := 22) 72 (.bool false) rfl rfl (by kernel_rfl) (by kernel_rfl) (by kernel_rfl) (fun _ _ _ h => h) (Or.inl ⟨by rfl, fun u _ => ?_⟩) ?_
                    · go_simp
                      try exact heq _
                    try simp only [Act.put, List.setIfInBounds_toArray, List.set_cons_zero, List.set_cons_succ]
                    refine wpAnyL_pureD (i := 23) 73 (.bool false) rfl rfl (by kernel_rfl) (by kernel_rfl) (by kernel_rfl) (fun _ _ _ h => h) (Or.inl ⟨by rfl, fun u _ => ?_⟩) ?_
                    · go_simp
                    try simp only [Act.put, List.setIfInBounds_toArray, List.set_cons_zero, List.set_cons_succ]
                    refine wpAnyL_pureD (i := 24) 74 undef rfl rfl (by kernel_rfl) (by kernel_rfl) (by kernel_rfl) (fun _ _ _ h => h) (Or.inr ⟨by kernel_rfl, rfl⟩) ?_
                    try simp only [Act.put, List.setIfInBounds_toArray, List.set_cons_zero, List.set_cons_succ]
                    refine wpAnyL_pureD (i := 25) 75 undef rfl rfl (by kernel_rfl) (by kernel_rfl) (by kernel_rfl) (fun _ _ _ h => h) (Or.inr ⟨by kernel_rfl, rfl⟩) ?_
                    try simp only [Act.put, List.setIfInBounds_toArray, List.set_cons_zero, List.set_cons_succ]
                    refine wpAnyL_pureD (i := 26) 76 undef rfl rfl (by kernel_rfl) (by kernel_rfl) (by kernel_rfl) (fun _ _ _ h => h) (Or.inr ⟨by kernel_rfl, rfl⟩) ?_
                    try simp only [Act.put, List.setIfInBounds_toArray, List.set_cons_zero, List.set_cons_succ]
                    refine wpAnyL_pureD (i := 27) 77 (.bool false) rfl rfl (by kernel_rfl) (by kernel_rfl) (by kernel_rfl) (fun _ _ _ h => h) (Or.inl ⟨by rfl, fun u _ => ?_⟩) ?_
                    · go_simp
                    try simp only [Act.put, List.setIfInBounds_toArray, List.set_cons_zero, List.set_cons_succ]
                    refine wpAnyL_pureD (i := 28) 78 (.bool false) rfl rfl (by kernel_rfl) (by kernel_rfl) (by kernel_rfl) (fun _ _ _ h => h) (Or.inl ⟨by rfl, fun u _ => ?_⟩) ?_
                    · go_simp
                    try simp only [Act.put, List.setIfInBounds_toArray, List.set_cons_zero, List.set_cons_succ]
                    refine wpAnyL_pureD (i := 29) 79 (.bool false) rfl rfl (by kernel_rfl) (by kernel_rfl) (by kernel_rfl) (fun _ _ _ h => h) (Or.inl ⟨by rfl, fun u _ => ?_⟩) ?_
                    · go_simp
                    try simp only [Act.put, List.setIfInBounds_toArray, List.set_cons_zero, List.set_cons_succ]
                    refine wpAnyL_done (by kernel_rfl) ?_ _
                    try simp only [Act.put, List.setIfInBounds_toArray, List.set_cons_zero, List.set_cons_succ]
                    have HB4 : Hid (Below w5.heap.size w5 x2) := Lib.hid (HBr.out.trans (hj2.mono HBr.out.size))
                    have HL4 := Lib.hid (own_keep HLo.out hj2)
                    have HS4 := Lib.hid (own_keep HSo.out hj2)
                    clear hj2
                    have HCn : Hid (C (j + 1) = C j) := Lib.hid (by rw [HCS.out, HV.out]; rfl)
                    go_wp2
                    go_roundw
                    case rel => exact ⟨j + 1, by omega, by go_num, by rw [HCn.out], HL4.out, HS4.out, HB4.out⟩
                    case measure => simp [intOf]; omega
                · have HBF2 : Hid (∀ w, Calls Try.prog 95 #[.agg #[.int .i64 ta, .int .i64 tb], .agg #[.int .i64 sa, .int .i64 sb]] w (fun e w' => e = .returned (.bool true) ∧ Below w.heap.size w w')) := Lib.hid fun w => by have := HBE.out (ta, tb) (sa, sb) w; rw [hlt2] at this; exact this
                  have HV : Hid ((decide (j ≠ e) && ltI Q j i) = true) := Lib.hid (by unfold ltI; rw [HPJ.out, HPI.out, hlt2]; simp [hej])
                  clear hej hlt2
                  go_wp2
                  have hj0 : Below wr.heap.size wr wr.drew := (Below.refl _ _).drew
                  refine wp_region_late (S := fun u => Below wr.heap.size wr u) (X := []) (by kernel_rfl) ?_
                  refine wpAnyL_pureD (i := 0) 50 (.int .i64 j) rfl rfl (by kernel_rfl) (by kernel_rfl) (by kernel_rfl) (fun _ _ _ h => h) (Or.inl ⟨by rfl, fun u _ => ?_⟩) ?_
                  · go_simp
                  try simp only [Act.put, List.setIfInBounds_toArray, List.set_cons_zero, List.set_cons_succ]
                  refine wpAnyL_pureD (i := 1) 51 (.int .i64 e) rfl rfl (by kernel_rfl) (by kernel_rfl) (by kernel_rfl) (fun _ _ _ h => h) (Or.inl ⟨by rfl, fun u _ => ?_⟩) ?_
                  · go_simp
                  try simp only [Act.put, List.setIfInBounds_toArray, List.set_cons_zero, List.set_cons_succ]
                  refine wpAnyL_pureD (i := 2) 52 (.bool true) rfl rfl (by kernel_rfl) (by kernel_rfl) (by kernel_rfl) (fun _ _ _ h => h) (Or.inl ⟨by rfl, fun u _ => ?_⟩) ?_
                  · go_simp
                  try simp only [Act.put, List.setIfInBounds_toArray, List.set_cons_zero, List.set_cons_succ]
                  refine wpAnyL_pureD (i := 3) 53 (.bool true) rfl rfl (by kernel_rfl) (by kernel_rfl) (by kernel_rfl) (fun _ _ _ h => h) (Or.inl ⟨by rfl, fun u _ => ?_⟩) ?_
                  · go_simp
                  try simp only [Act.put, List.setIfInBounds_toArray, List.set_cons_zero, List.set_cons_succ]
                  refine wpAnyL_pureD (i := 4) 54 (.slice (some ⟨b1, o1, none⟩) Q.length c1) rfl rfl (by kernel_rfl) (by kernel_rfl) (by kernel_rfl) (fun _ _ _ h => h) (Or.inl ⟨by rfl, fun u _ => ?_⟩) ?_
                  · go_simp
                  try simp only [Act.put, List.setIfInBounds_toArray, List.set_cons_zero, List.set_cons_succ]
                  refine wpAnyL_pureD (i := 5) 55 (.int .i64 j) rfl rfl (by kernel_rfl) (by kernel_rfl) (by kernel_rfl) (fun _ _ _ h => h) (Or.inl ⟨by rfl, fun u _ => ?_⟩) ?_
                  · go_simp
                  try simp only [Act.put, List.setIfInBounds_toArray, List.set_cons_zero, List.set_cons_succ]
                  refine wpAnyL_pureD (i := 6) 56 (.pointer (some ⟨b1, o1 + j * 2, none⟩)) rfl rfl (by kernel_rfl) (by kernel_rfl) (by kernel_rfl) (fun _ _ _ h => h) (Or.inl ⟨by rfl, fun u _ => ?_⟩) ?_
                  · go_simp
                  try simp only [Act.put, List.setIfInBounds_toArray, List.set_cons_zero, List.set_cons_succ]
                  refine wpAnyL_takeD (i := 7) 57 (.agg #[.int .i64 ta, .int .i64 tb]) rfl rfl (by kernel_rfl) (by kernel_rfl) (by kernel_rfl) (by kernel_rfl) (by kernel_rfl) (fun _ _ _ h => h) hj0 (Or.inl ⟨by rfl, fun u hu => ?_⟩) ?_
                  · obtain ⟨t0, t1, t2, t3⟩ := HS.out u hu
                    go_simp
                  try simp only [Act.put, List.setIfInBounds_toArray, List.set_cons_zero, List.set_cons_succ]
                  refine wpAnyL_pureD (i := 8) 58 (.slice (some ⟨b1, o1, none⟩) Q.length c1) rfl rfl (by kernel_rfl) (by kernel_rfl) (by kernel_rfl) (fun _ _ _ h => h) (Or.inl ⟨by rfl, fun u _ => ?_⟩) ?_
                  · go_simp
                  try simp only [Act.put, List.setIfInBounds_toArray, List.set_cons_zero, List.set_cons_succ]
                  refine wpAnyL_pureD (i := 9) 59 (.int .i64 i) rfl rfl (by kernel_rfl) (by kernel_rfl) (by kernel_rfl) (fun _ _ _ h => h) (Or.inl ⟨by rfl, fun u _ => ?_⟩) ?_
                  · go_simp
                  try simp only [Act.put, List.setIfInBounds_toArray, List.set_cons_zero, List.set_cons_succ]
                  refine wpAnyL_pureD (i := 10) 60 (.pointer (some ⟨b1, o1 + i * 2, none⟩)) rfl rfl (by kernel_rfl) (by kernel_rfl) (by kernel_rfl) (fun _ _ _ h => h) (Or.inl ⟨by rfl, fun u _ => ?_⟩) ?_
                  · go_simp
                  try simp only [Act.put, List.setIfInBounds_toArray, List.set_cons_zero, List.set_cons_succ]
                  refine wpAnyL_takeD (i := 11) 61 (.agg #[.int .i64 sa, .int .i64 sb]) rfl rfl (by kernel_rfl) (by kernel_rfl) (by kernel_rfl) (by kernel_rfl) (by kernel_rfl) (fun _ _ _ h => h) hj0 (Or.inl ⟨by rfl, fun u hu => ?_⟩) ?_
                  · obtain ⟨t0, t1, t2, t3⟩ := HS.out u hu
                    go_simp
                  try simp only [Act.put, List.setIfInBounds_toArray, List.set_cons_zero, List.set_cons_succ]
                  refine wpAnyL_one (i := 12) (by kernel_rfl) rfl (fun K hK => ?_)
                  go_simp
                  go_at_call 95
                  refine (HBF2.out _).mono ?_
                  rintro r x2 ⟨rfl, hb2⟩
                  have hj2 := hj0.trans (hb2.mono hj0.size)
                  clear hj0 hb2
                  show K _ _
                  refine hK.out _ _ (fun _ _ => hj2) ?_
                  clear hK K
                  try simp only [Act.put, List.setIfInBounds_toArray, List.set_cons_zero, List.set_cons_succ]
                  refine wpAnyL_pureD (i := 13) 63 (.bool true) rfl rfl (by kernel_rfl) (by kernel_rfl) (by kernel_rfl) (fun _ _ _ h => h) (Or.inl ⟨by rfl, fun u _ => ?_⟩) ?_
                  · go_simp
                  try simp only [Act.put, List.setIfInBounds_toArray, List.set_cons_zero, List.set_cons_succ]
                  refine wpAnyL_pureD (i := 14) 64 undef rfl rfl (by kernel_rfl) (by kernel_rfl) (by kernel_rfl) (fun _ _ _ h => h) (Or.inr ⟨by kernel_rfl, rfl⟩) ?_
                  try simp only [Act.put, List.setIfInBounds_toArray, List.set_cons_zero, List.set_cons_succ]
                  refine wpAnyL_pureD (i := 15) 65 undef rfl rfl (by kernel_rfl) (by kernel_rfl) (by kernel_rfl) (fun _ _ _ h => h) (Or.inr ⟨by kernel_rfl, rfl⟩) ?_
                  try simp only [Act.put, List.setIfInBounds_toArray, List.set_cons_zero, List.set_cons_succ]
                  refine wpAnyL_pureD (i := 16) 66 undef rfl rfl (by kernel_rfl) (by kernel_rfl) (by kernel_rfl) (fun _ _ _ h => h) (Or.inr ⟨by kernel_rfl, rfl⟩) ?_
                  try simp only [Act.put, List.setIfInBounds_toArray, List.set_cons_zero, List.set_cons_succ]
                  refine wpAnyL_pureD (i := 17) 67 undef rfl rfl (by kernel_rfl) (by kernel_rfl) (by kernel_rfl) (fun _ _ _ h => h) (Or.inr ⟨by kernel_rfl, rfl⟩) ?_
                  try simp only [Act.put, List.setIfInBounds_toArray, List.set_cons_zero, List.set_cons_succ]
                  refine wpAnyL_pureD (i := 18) 68 undef rfl rfl (by kernel_rfl) (by kernel_rfl) (by kernel_rfl) (fun _ _ _ h => h) (Or.inr ⟨by kernel_rfl, rfl⟩) ?_
                  try simp only [Act.put, List.setIfInBounds_toArray, List.set_cons_zero, List.set_cons_succ]
                  refine wpAnyL_pureD (i := 19) 69 undef rfl rfl (by kernel_rfl) (by kernel_rfl) (by kernel_rfl) (fun _ _ _ h => h) (Or.inr ⟨by kernel_rfl, rfl⟩) ?_
                  try simp only [Act.put, List.setIfInBounds_toArray, List.set_cons_zero, List.set_cons_succ]
                  refine wpAnyL_pureD (i := 20) 70 undef rfl rfl (by kernel_rfl) (by kernel_rfl) (by kernel_rfl) (fun _ _ _ h => h) (Or.inr ⟨by kernel_rfl, rfl⟩) ?_
                  try simp only [Act.put, List.setIfInBounds_toArray, List.set_cons_zero, List.set_cons_succ]
                  refine wpAnyL_pureD (i := 21) 71 undef rfl rfl (by kernel_rfl) (by kernel_rfl) (by kernel_rfl) (fun _ _ _ h => h) (Or.inr ⟨by kernel_rfl, rfl⟩) ?_
                  try simp only [Act.put, List.setIfInBounds_toArray, List.set_cons_zero, List.set_cons_succ]
                  refine wpAnyL_pureD (i := 22) 72 undef rfl rfl (by kernel_rfl) (by kernel_rfl) (by kernel_rfl) (fun _ _ _ h => h) (Or.inr ⟨by kernel_rfl, rfl⟩) ?_
                  try simp only [Act.put, List.setIfInBounds_toArray, List.set_cons_zero, List.set_cons_succ]
                  refine wpAnyL_pureD (i := 23) 73 undef rfl rfl (by kernel_rfl) (by kernel_rfl) (by kernel_rfl) (fun _ _ _ h => h) (Or.inr ⟨by kernel_rfl, rfl⟩) ?_
                  try simp only [Act.put, List.setIfInBounds_toArray, List.set_cons_zero, List.set_cons_succ]
                  refine wpAnyL_pureD (i := 24) 74 undef rfl rfl (by kernel_rfl) (by kernel_rfl) (by kernel_rfl) (fun _ _ _ h => h) (Or.inr ⟨by kernel_rfl, rfl⟩) ?_
                  try simp only [Act.put, List.setIfInBounds_toArray, List.set_cons_zero, List.set_cons_succ]
                  refine wpAnyL_pureD (i := 25) 75 undef rfl rfl (by kernel_rfl) (by kernel_rfl) (by kernel_rfl) (fun _ _ _ h => h) (Or.inr ⟨by kernel_rfl, rfl⟩) ?_
                  try simp only [Act.put, List.setIfInBounds_toArray, List.set_cons_zero, List.set_cons_succ]
                  refine wpAnyL_pureD (i := 26) 76 undef rfl rfl (by kernel_rfl) (by kernel_rfl) (by kernel_rfl) (fun _ _ _ h => h) (Or.inr ⟨by kernel_rfl, rfl⟩) ?_
                  try simp only [Act.put, List.setIfInBounds_toArray, List.set_cons_zero, List.set_cons_succ]
                  refine wpAnyL_pureD (i := 27) 77 undef rfl rfl (by kernel_rfl) (by kernel_rfl) (by kernel_rfl) (fun _ _ _ h => h) (Or.inr ⟨by kernel_rfl, rfl⟩) ?_
                  try simp only [Act.put, List.setIfInBounds_toArray, List.set_cons_zero, List.set_cons_succ]
                  refine wpAnyL_pureD (i := 28) 78 (.bool true) rfl rfl (by kernel_rfl) (by kernel_rfl) (by kernel_rfl) (fun _ _ _ h => h) (Or.inl ⟨by rfl, fun u _ => ?_⟩) ?_
                  · go_simp
                  try simp only [Act.put, List.setIfInBounds_toArray, List.set_cons_zero, List.set_cons_succ]
                  refine wpAnyL_pureD (i := 29) 79 (.bool true) rfl rfl (by kernel_rfl) (by kernel_rfl) (by kernel_rfl) (fun _ _ _ h => h) (Or.inl ⟨by rfl, fun u _ => ?_⟩) ?_
                  · go_simp
                  try simp only [Act.put, List.setIfInBounds_toArray, List.set_cons_zero, List.set_cons_succ]
                  refine wpAnyL_done (by kernel_rfl) ?_ _
                  try simp only [Act.put, List.setIfInBounds_toArray, List.set_cons_zero, List.set_cons_succ]
                  have HB4 : Hid (Below w5.heap.size w5 x2) := Lib.hid (HBr.out.trans (hj2.mono HBr.out.size))
                  have HL4 := Lib.hid (own_keep HLo.out hj2)
                  have HS4 := Lib.hid (own_keep HSo.out hj2)
                  clear hj2
                  have HCn : Hid (C (j + 1) = C j + 1) := Lib.hid (by rw [HCS.out, HV.out]; rfl)
                  go_wp2
                  go_roundw
                  case rel => exact ⟨j + 1, by omega, by go_num, by rw [HCn.out]; push_cast; rfl, HL4.out, HS4.out, HB4.out⟩
                  case measure => simp [intOf]; omega
            · obtain rfl : j = Q.length := by omega
              have j1 : ¬ (Q.length : Int) < (Q.length : Int) := by omega
              clear hb
              go_wp2_with (at_builtin; refine wpList_append_lies _ rfl _ _ 33 rfl w5.heap.size 3 i0 (.int .i64 0) 1 8 Try.underlying33 hi0 hz0 hz1 hz2 rfl (by decide) _ _ _ rfl (HSo.out.alloc _) ⟨_, 0, none⟩ 1 1 [.int .i64 (C Q.length : Int)] rfl rfl (lit_row _ _ _) (by simp [Value.oneCell']) (by decide) (by unfold maxLen; omega) (by omega) (by rw [World.size_alloc]; have := HBr.out.size; omega) (wr.heap.size + 1) (World.size_alloc ..) ?_; intro gn4 cn4 w4 hown4 hgrow4 hlie4 _; have hB4 : Below w5.heap.size w5 w4 := below_push (w := w5) HBr.out (fun k hk => (HSo.out.lt k hk).1) hgrow4; have hfar4 := own_far (HLo.out.alloc _) hgrow4 (fun k h1 h2 => HA3.out.symm k h1 h2); have hapn4 := OwnApart.new HLo.out HA3.out.symm gn4 _ hlie4 (Nat.le_succ _); have HS4 : Hid (w4.ownsRow w5.heap.size 3 1 (.slice (some ⟨gn4, 0, none⟩) (ST.length + 1) cn4) (ST ++ [(C Q.length : Int)]).length (flat encI (ST ++ [(C Q.length : Int)]))) := Lib.hid (by rw [List.length_append, flatI_snoc]; exact hown4); have HL4 := Lib.hid hfar4; have HA4 := Lib.hid (hapn4 (ST.length + 1) cn4); have HB4 := Lib.hid hB4; have HSN : Hid (SS.take (i + 1) = ST ++ [(C Q.length : Int)]) := Lib.hid (by rw [HSn.out, HASi.out]); clear hown4 hgrow4 hlie4 hB4 hfar4 hapn4)
              go_wp2
              go_roundw
              case rel => exact ⟨i + 1, by omega, by go_num, by rw [HLN.out]; exact HL4.out, by rw [HSN.out]; exact HS4.out, HA4.out, HB4.out⟩
              case measure => simp [intOf]; omega
        · have d2 : decide ((e : Int) < (i : Int)) = false := decide_eq_false (by omega)
          rw [if_neg hei] at HALi
          go_wp2_with (at_builtin; refine wpList_append_lies _ rfl _ _ 33 rfl w5.heap.size 3 i0 (.int .i64 0) 1 8 Try.underlying33 hi0 hz0 hz1 hz2 rfl (by decide) _ _ _ rfl (HLo.out.alloc _) ⟨_, 0, none⟩ 1 1 [.int .i64 (i : Int)] rfl rfl (lit_row _ _ _) (by simp [Value.oneCell']) (by decide) (by unfold maxLen; omega) (by omega) (by rw [World.size_alloc]; have := HBr.out.size; omega) (wr.heap.size + 1) (World.size_alloc ..) ?_; intro gn3 cn3 w3 hown3 hgrow3 hlie3 _; have hB3 : Below w5.heap.size w5 w3 := below_push (w := w5) HBr.out (fun k hk => (HLo.out.lt k hk).1) hgrow3; have hfar3 := own_far (HSo.out.alloc _) hgrow3 (fun k h1 h2 => HAP.out.symm k h1 h2); have hapn3 := OwnApart.new HSo.out HAP.out.symm gn3 _ hlie3 (Nat.le_succ _); have HL3 : Hid (w3.ownsRow w5.heap.size 3 1 (.slice (some ⟨gn3, 0, none⟩) (LT.length + 1) cn3) (LT ++ [(i : Int)]).length (flat encI (LT ++ [(i : Int)]))) := Lib.hid (by rw [List.length_append, flatI_snoc]; exact hown3); have HS3 := Lib.hid hfar3; have HA3 := Lib.hid (hapn3 (LT.length + 1) cn3); have HB3 := Lib.hid hB3; have HLN : Hid (LS.take (i + 1) = LT ++ [(i : Int)]) := Lib.hid (by rw [HLn.out, HALi.out]); clear hown3 hgrow3 hlie3 hB3 hfar3 hapn3)
          clear hie hei d1 d2
          obtain ⟨sa, sb, HPI⟩ : ∃ sa sb, Hid (pAt Q i = (sa, sb)) := ⟨_, _, Lib.hid rfl⟩
          have HQI : Hid (∀ u, Below w5.heap.size w5 u → u.cell? ⟨b1, o1 + i * 2, none⟩ = some (.int .i64 sa) ∧ u.cell? ⟨b1, o1 + i * 2 + 1, none⟩ = some (.int .i64 sb)) := Lib.hid fun u hu => by
            obtain ⟨b3, o3, hb3, -, z1, z2⟩ := (HQ.out.keep hu).two i hlt
            injection hb3 with hb4
            injection hb4 with e1 e2
            subst e1 e2
            rw [HPI.out] at z1 z2
            exact ⟨z1, z2⟩
          have HCT2 := Lib.hid (HCT.out i)
          have HC02 := Lib.hid (HC0.out i)
          have HCL2 := Lib.hid (HCL.out i)
          generalize CI i = C at *
          go_wp2
          go_loopw [11, 12] (fun c x wr => ∃ j : Nat, j ≤ Q.length ∧ x = .int .i64 j ∧ c = .int .i64 (C j : Nat) ∧ wr.ownsRow w5.heap.size 3 1 (.slice (some ⟨gn3, 0, none⟩) (LT.length + 1) cn3) (LT ++ [(i : Int)]).length (flat encI (LT ++ [(i : Int)])) ∧ wr.ownsRow w5.heap.size 3 1 u8 ST.length (flat encI ST) ∧ Below w5.heap.size w5 wr) (fun _ x _ => Q.length - (intOf x).toNat)
          case atStart => exact ⟨0, by omega, rfl, by rw [HC02.out]; rfl, HL3.out, HS3.out, HB3.out⟩
          case round =>
            obtain ⟨j, hj, rfl, rfl, hs, ht, hb⟩ := hrel
            have HLo := Lib.hid hs
            have HSo := Lib.hid ht
            have HBr := Lib.hid hb
            have hcl := HCL2.out j
            clear hs ht
            by_cases hjl : j < Q.length
            · have j1 : (j : Int) < (Q.length : Int) := by omega
              have j2 : (0 : Int) ≤ (j : Int) := by omega
              obtain ⟨ta, tb, HPJ⟩ : ∃ ta tb, Hid (pAt Q j = (ta, tb)) := ⟨_, _, Lib.hid rfl⟩
              have HS : Hid (∀ u, Below wr.heap.size wr u → u.cell? ⟨b1, o1 + j * 2, none⟩ = some (.int .i64 ta) ∧ u.cell? ⟨b1, o1 + j * 2 + 1, none⟩ = some (.int .i64 tb) ∧ u.cell? ⟨b1, o1 + i * 2, none⟩ = some (.int .i64 sa) ∧ u.cell? ⟨b1, o1 + i * 2 + 1, none⟩ = some (.int .i64 sb)) := Lib.hid fun u hu => by
                have hu5 := HBr.out.trans (hu.mono HBr.out.size)
                obtain ⟨b3, o3, hb3, -, z1, z2⟩ := (HQ.out.keep hu5).two j hjl
                injection hb3 with hb4
                injection hb4 with e1 e2
                subst e1 e2
                rw [HPJ.out] at z1 z2
                exact ⟨z1, z2, HQI.out u hu5⟩
              have HCS := Lib.hid (HCT2.out j)
              clear hb
              by_cases hej : j = e
              · have d1 : ((j : Int) != (e : Int)) = false := by simp [hej]
                have HV : Hid ((decide (j ≠ e) && ltI Q j i) = false) := Lib.hid (by simp [hej])
                clear hej
                go_wp2
                have hj0 : Below wr.heap.size wr wr.drew := (Below.refl _ _).drew
                refine wp_region_late (S := fun u => Below wr.heap.size wr u) (X := []) (by kernel_rfl) ?_
                refine wpAnyL_pureD (i := 0) 50 (.int .i64 j) rfl rfl (by kernel_rfl) (by kernel_rfl) (by kernel_rfl) (fun _ _ _ h => h) (Or.inl ⟨by rfl, fun u _ => ?_⟩) ?_
                · go_simp
                try simp only [Act.put, List.setIfInBounds_toArray, List.set_cons_zero, List.set_cons_succ]
                refine wpAnyL_pureD (i := 1) 51 (.int .i64 e) rfl rfl (by kernel_rfl) (by kernel_rfl) (by kernel_rfl) (fun _ _ _ h => h) (Or.inl ⟨by rfl, fun u _ => ?_⟩) ?_
                · go_simp
                try simp only [Act.put, List.setIfInBounds_toArray, List.set_cons_zero, List.set_cons_succ]
                refine wpAnyL_pureD (i := 2) 52 (.bool false) rfl rfl (by kernel_rfl) (by kernel_rfl) (by kernel_rfl) (fun _ _ _ h => h) (Or.inl ⟨by rfl, fun u _ => ?_⟩) ?_
                · go_simp
                try simp only [Act.put, List.setIfInBounds_toArray, List.set_cons_zero, List.set_cons_succ]
                refine wpAnyL_pureD (i := 3) 53 (.bool false) rfl rfl (by kernel_rfl) (by kernel_rfl) (by kernel_rfl) (fun _ _ _ h => h) (Or.inl ⟨by rfl, fun u _ => ?_⟩) ?_
                · go_simp
                try simp only [Act.put, List.setIfInBounds_toArray, List.set_cons_zero, List.set_cons_succ]
                refine wpAnyL_pureD (i := 4) 54 undef rfl rfl (by kernel_rfl) (by kernel_rfl) (by kernel_rfl) (fun _ _ _ h => h) (Or.inr ⟨by kernel_rfl, rfl⟩) ?_
                try simp only [Act.put, List.setIfInBounds_toArray, List.set_cons_zero, List.set_cons_succ]
                refine wpAnyL_pureD (i := 5) 55 undef rfl rfl (by kernel_rfl) (by kernel_rfl) (by kernel_rfl) (fun _ _ _ h => h) (Or.inr ⟨by kernel_rfl, rfl⟩) ?_
                try simp only [Act.put, List.setIfInBounds_toArray, List.set_cons_zero, List.set_cons_succ]
                refine wpAnyL_pureD (i := 6) 56 undef rfl rfl (by kernel_rfl) (by kernel_rfl) (by kernel_rfl) (fun _ _ _ h => h) (Or.inr ⟨by kernel_rfl, rfl⟩) ?_
                try simp only [Act.put, List.setIfInBounds_toArray, List.set_cons_zero, List.set_cons_succ]
                refine wpAnyL_pureD (i := 7) 57 undef rfl rfl (by kernel_rfl) (by kernel_rfl) (by kernel_rfl) (fun _ _ _ h => h) (Or.inr ⟨by kernel_rfl, rfl⟩) ?_
                try simp only [Act.put, List.setIfInBounds_toArray, List.set_cons_zero, List.set_cons_succ]
                refine wpAnyL_pureD (i := 8) 58 undef rfl rfl (by kernel_rfl) (by kernel_rfl) (by kernel_rfl) (fun _ _ _ h => h) (Or.inr ⟨by kernel_rfl, rfl⟩) ?_
                try simp only [Act.put, List.setIfInBounds_toArray, List.set_cons_zero, List.set_cons_succ]
                refine wpAnyL_pureD (i := 9) 59 undef rfl rfl (by kernel_rfl) (by kernel_rfl) (by kernel_rfl) (fun _ _ _ h => h) (Or.inr ⟨by kernel_rfl, rfl⟩) ?_
                try simp only [Act.put, List.setIfInBounds_toArray, List.set_cons_zero, List.set_cons_succ]
                refine wpAnyL_pureD (i := 10) 60 undef rfl rfl (by kernel_rfl) (by kernel_rfl) (by kernel_rfl) (fun _ _ _ h => h) (Or.inr ⟨by kernel_rfl, rfl⟩) ?_
                try simp only [Act.put, List.setIfInBounds_toArray, List.set_cons_zero, List.set_cons_succ]
                refine wpAnyL_pureD (i := 11) 61 undef rfl rfl (by kernel_rfl) (by kernel_rfl) (by kernel_rfl) (fun _ _ _ h => h) (Or.inr ⟨by kernel_rfl, rfl⟩) ?_
                try simp only [Act.put, List.setIfInBounds_toArray, List.set_cons_zero, List.set_cons_succ]
                refine wpAnyL_pureD (i := 12) 62 undef rfl rfl (by kernel_rfl) (by kernel_rfl) (by kernel_rfl) (fun _ _ _ h => h) (Or.inr ⟨by kernel_rfl, rfl⟩) ?_
                try simp only [Act.put, List.setIfInBounds_toArray, List.set_cons_zero, List.set_cons_succ]
                refine wpAnyL_pureD (i := 13) 63 undef rfl rfl (by kernel_rfl) (by kernel_rfl) (by kernel_rfl) (fun _ _ _ h => h) (Or.inr ⟨by kernel_rfl, rfl⟩) ?_
                try simp only [Act.put, List.setIfInBounds_toArray, List.set_cons_zero, List.set_cons_succ]
                refine wpAnyL_pureD (i := 14) 64 undef rfl rfl (by kernel_rfl) (by kernel_rfl) (by kernel_rfl) (fun _ _ _ h => h) (Or.inr ⟨by kernel_rfl, rfl⟩) ?_
                try simp only [Act.put, List.setIfInBounds_toArray, List.set_cons_zero, List.set_cons_succ]
                refine wpAnyL_pureD (i := 15) 65 undef rfl rfl (by kernel_rfl) (by kernel_rfl) (by kernel_rfl) (fun _ _ _ h => h) (Or.inr ⟨by kernel_rfl, rfl⟩) ?_
                try simp only [Act.put, List.setIfInBounds_toArray, List.set_cons_zero, List.set_cons_succ]
                refine wpAnyL_pureD (i := 16) 66 undef rfl rfl (by kernel_rfl) (by kernel_rfl) (by kernel_rfl) (fun _ _ _ h => h) (Or.inr ⟨by kernel_rfl, rfl⟩) ?_
                try simp only [Act.put, List.setIfInBounds_toArray, List.set_cons_zero, List.set_cons_succ]
                refine wpAnyL_pureD (i := 17) 67 undef rfl rfl (by kernel_rfl) (by kernel_rfl) (by kernel_rfl) (fun _ _ _ h => h) (Or.inr ⟨by kernel_rfl, rfl⟩) ?_
                try simp only [Act.put, List.setIfInBounds_toArray, List.set_cons_zero, List.set_cons_succ]
                refine wpAnyL_pureD (i := 18) 68 undef rfl rfl (by kernel_rfl) (by kernel_rfl) (by kernel_rfl) (fun _ _ _ h => h) (Or.inr ⟨by kernel_rfl, rfl⟩) ?_
                try simp only [Act.put, List.setIfInBounds_toArray, List.set_cons_zero, List.set_cons_succ]
                refine wpAnyL_pureD (i := 19) 69 undef rfl rfl (by kernel_rfl) (by kernel_rfl) (by kernel_rfl) (fun _ _ _ h => h) (Or.inr ⟨by kernel_rfl, rfl⟩) ?_
                try simp only [Act.put, List.setIfInBounds_toArray, List.set_cons_zero, List.set_cons_succ]
                refine wpAnyL_pureD (i := 20) 70 undef rfl rfl (by kernel_rfl) (by kernel_rfl) (by kernel_rfl) (fun _ _ _ h => h) (Or.inr ⟨by kernel_rfl, rfl⟩) ?_
                try simp only [Act.put, List.setIfInBounds_toArray, List.set_cons_zero, List.set_cons_succ]
                refine wpAnyL_pureD (i := 21) 71 undef rfl rfl (by kernel_rfl) (by kernel_rfl) (by kernel_rfl) (fun _ _ _ h => h) (Or.inr ⟨by kernel_rfl, rfl⟩) ?_
                try simp only [Act.put, List.setIfInBounds_toArray, List.set_cons_zero, List.set_cons_succ]
                refine wpAnyL_pureD (i := 22) 72 undef rfl rfl (by kernel_rfl) (by kernel_rfl) (by kernel_rfl) (fun _ _ _ h => h) (Or.inr ⟨by kernel_rfl, rfl⟩) ?_
                try simp only [Act.put, List.setIfInBounds_toArray, List.set_cons_zero, List.set_cons_succ]
                refine wpAnyL_pureD (i := 23) 73 undef rfl rfl (by kernel_rfl) (by kernel_rfl) (by kernel_rfl) (fun _ _ _ h => h) (Or.inr ⟨by kernel_rfl, rfl⟩) ?_
                try simp only [Act.put, List.setIfInBounds_toArray, List.set_cons_zero, List.set_cons_succ]
                refine wpAnyL_pureD (i := 24) 74 undef rfl rfl (by kernel_rfl) (by kernel_rfl) (by kernel_rfl) (fun _ _ _ h => h) (Or.inr ⟨by kernel_rfl, rfl⟩) ?_
                try simp only [Act.put, List.setIfInBounds_toArray, List.set_cons_zero, List.set_cons_succ]
                refine wpAnyL_pureD (i := 25) 75 undef rfl rfl (by kernel_rfl) (by kernel_rfl) (by kernel_rfl) (fun _ _ _ h => h) (Or.inr ⟨by kernel_rfl, rfl⟩) ?_
                try simp only [Act.put, List.setIfInBounds_toArray, List.set_cons_zero, List.set_cons_succ]
                refine wpAnyL_pureD (i := 26) 76 undef rfl rfl (by kernel_rfl) (by kernel_rfl) (by kernel_rfl) (fun _ _ _ h => h) (Or.inr ⟨by kernel_rfl, rfl⟩) ?_
                try simp only [Act.put, List.setIfInBounds_toArray, List.set_cons_zero, List.set_cons_succ]
                refine wpAnyL_pureD (i := 27) 77 undef rfl rfl (by kernel_rfl) (by kernel_rfl) (by kernel_rfl) (fun _ _ _ h => h) (Or.inr ⟨by kernel_rfl, rfl⟩) ?_
                try simp only [Act.put, List.setIfInBounds_toArray, List.set_cons_zero, List.set_cons_succ]
                refine wpAnyL_pureD (i := 28) 78 undef rfl rfl (by kernel_rfl) (by kernel_rfl) (by kernel_rfl) (fun _ _ _ h => h) (Or.inr ⟨by kernel_rfl, rfl⟩) ?_
                try simp only [Act.put, List.setIfInBounds_toArray, List.set_cons_zero, List.set_cons_succ]
                refine wpAnyL_pureD (i := 29) 79 (.bool false) rfl rfl (by kernel_rfl) (by kernel_rfl) (by kernel_rfl) (fun _ _ _ h => h) (Or.inl ⟨by rfl, fun u _ => ?_⟩) ?_
                · go_simp
                try simp only [Act.put, List.setIfInBounds_toArray, List.set_cons_zero, List.set_cons_succ]
                refine wpAnyL_done (by kernel_rfl) ?_ _
                try simp only [Act.put, List.setIfInBounds_toArray, List.set_cons_zero, List.set_cons_succ]
                have HB4 : Hid (Below w5.heap.size w5 wr.drew) := Lib.hid (HBr.out.trans (hj0.mono HBr.out.size))
                have HL4 := Lib.hid (own_keep HLo.out hj0)
                have HS4 := Lib.hid (own_keep HSo.out hj0)
                clear hj0
                have HCn : Hid (C (j + 1) = C j) := Lib.hid (by rw [HCS.out, HV.out]; rfl)
                go_wp2
                go_roundw
                case rel => exact ⟨j + 1, by omega, by go_num, by rw [HCn.out], HL4.out, HS4.out, HB4.out⟩
                case measure => simp [intOf]; omega
              · have d1 : ((j : Int) != (e : Int)) = true := by rw [bne_iff_ne]; omega
                cases hlt2 : ltP (ta, tb) (sa, sb)
                · have HBF2 : Hid (∀ w, Calls Try.prog 95 #[.agg #[.int .i64 ta, .int .i64 tb], .agg #[.int .i64 sa, .int .i64 sb]] w (fun e w' => e = .returned (.bool false) ∧ Below w.heap.size w w')) := Lib.hid fun w => by have := HBE.out (ta, tb) (sa, sb) w; rw [hlt2] at this; exact this
                  by_cases heqp : ta = sa ∧ tb = sb
                  · have heq : ∀ w, (binOp .eql 25 (.agg #[.int .i64 ta, .int .i64 tb]) (.agg #[.int .i64 sa, .int .i64 sb])).run Try.prog w = .ok (.bool true) w := fun w => by rw [eql_pair]; simp [heqp]
                    have hpe : ((ta, tb) : Int × Int) = (sa, sb) := by rw [heqp.1, heqp.2]
                    by_cases hji : j < i
                    · have hlj : decide ((j : Int) < (i : Int)) = true := decide_eq_true (by omega)
                      have HV : Hid ((decide (j ≠ e) && ltI Q j i) = true) := Lib.hid (by unfold ltI; rw [HPJ.out, HPI.out, hlt2]; simp [hpe, hej, hji])
                      clear hej hlt2 heqp hpe
                      go_wp2
                      have hj0 : Below wr.heap.size wr wr.drew := (Below.refl _ _).drew
                      refine wp_region_late (S := fun u => Below wr.heap.size wr u) (X := []) (by kernel_rfl) ?_
                      refine wpAnyL_pureD (i := 0) 50 (.int .i64 j) rfl rfl (by kernel_rfl) (by kernel_rfl) (by kernel_rfl) (fun _ _ _ h => h) (Or.inl ⟨by rfl, fun u _ => ?_⟩) ?_
                      · go_simp
                      try simp only [Act.put, List.setIfInBounds_toArray, List.set_cons_zero, List.set_cons_succ]
                      refine wpAnyL_pureD (i := 1) 51 (.int .i64 e) rfl rfl (by kernel_rfl) (by kernel_rfl) (by kernel_rfl) (fun _ _ _ h => h) (Or.inl ⟨by rfl, fun u _ => ?_⟩) ?_
                      · go_simp
                      try simp only [Act.put, List.setIfInBounds_toArray, List.set_cons_zero, List.set_cons_succ]
                      refine wpAnyL_pureD (i := 2) 52 (.bool true) rfl rfl (by kernel_rfl) (by kernel_rfl) (by kernel_rfl) (fun _ _ _ h => h) (Or.inl ⟨by rfl, fun u _ => ?_⟩) ?_
                      · go_simp
                      try simp only [Act.put, List.setIfInBounds_toArray, List.set_cons_zero, List.set_cons_succ]
                      refine wpAnyL_pureD (i := 3) 53 (.bool true) rfl rfl (by kernel_rfl) (by kernel_rfl) (by kernel_rfl) (fun _ _ _ h => h) (Or.inl ⟨by rfl, fun u _ => ?_⟩) ?_
                      · go_simp
                      try simp only [Act.put, List.setIfInBounds_toArray, List.set_cons_zero, List.set_cons_succ]
                      refine wpAnyL_pureD (i := 4) 54 (.slice (some ⟨b1, o1, none⟩) Q.length c1) rfl rfl (by kernel_rfl) (by kernel_rfl) (by kernel_rfl) (fun _ _ _ h => h) (Or.inl ⟨by rfl, fun u _ => ?_⟩) ?_
                      · go_simp
                      try simp only [Act.put, List.setIfInBounds_toArray, List.set_cons_zero, List.set_cons_succ]
                      refine wpAnyL_pureD (i := 5) 55 (.int .i64 j) rfl rfl (by kernel_rfl) (by kernel_rfl) (by kernel_rfl) (fun _ _ _ h => h) (Or.inl ⟨by rfl, fun u _ => ?_⟩) ?_
                      · go_simp
                      try simp only [Act.put, List.setIfInBounds_toArray, List.set_cons_zero, List.set_cons_succ]
                      refine wpAnyL_pureD (i := 6) 56 (.pointer (some ⟨b1, o1 + j * 2, none⟩)) rfl rfl (by kernel_rfl) (by kernel_rfl) (by kernel_rfl) (fun _ _ _ h => h) (Or.inl ⟨by rfl, fun u _ => ?_⟩) ?_
                      · go_simp
                      try simp only [Act.put, List.setIfInBounds_toArray, List.set_cons_zero, List.set_cons_succ]
                      refine wpAnyL_takeD (i := 7) 57 (.agg #[.int .i64 ta, .int .i64 tb]) rfl rfl (by kernel_rfl) (by kernel_rfl) (by kernel_rfl) (by kernel_rfl) (by kernel_rfl) (fun _ _ _ h => h) hj0 (Or.inl ⟨by rfl, fun u hu => ?_⟩) ?_
                      · obtain ⟨t0, t1, t2, t3⟩ := HS.out u hu
                        go_simp
                      try simp only [Act.put, List.setIfInBounds_toArray, List.set_cons_zero, List.set_cons_succ]
                      refine wpAnyL_pureD (i := 8) 58 (.slice (some ⟨b1, o1, none⟩) Q.length c1) rfl rfl (by kernel_rfl) (by kernel_rfl) (by kernel_rfl) (fun _ _ _ h => h) (Or.inl ⟨by rfl, fun u _ => ?_⟩) ?_
                      · go_simp
                      try simp only [Act.put, List.setIfInBounds_toArray, List.set_cons_zero, List.set_cons_succ]
                      refine wpAnyL_pureD (i := 9) 59 (.int .i64 i) rfl rfl (by kernel_rfl) (by kernel_rfl) (by kernel_rfl) (fun _ _ _ h => h) (Or.inl ⟨by rfl, fun u _ => ?_⟩) ?_
                      · go_simp
                      try simp only [Act.put, List.setIfInBounds_toArray, List.set_cons_zero, List.set_cons_succ]
                      refine wpAnyL_pureD (i := 10) 60 (.pointer (some ⟨b1, o1 + i * 2, none⟩)) rfl rfl (by kernel_rfl) (by kernel_rfl) (by kernel_rfl) (fun _ _ _ h => h) (Or.inl ⟨by rfl, fun u _ => ?_⟩) ?_
                      · go_simp
                      try simp only [Act.put, List.setIfInBounds_toArray, List.set_cons_zero, List.set_cons_succ]
                      refine wpAnyL_takeD (i := 11) 61 (.agg #[.int .i64 sa, .int .i64 sb]) rfl rfl (by kernel_rfl) (by kernel_rfl) (by kernel_rfl) (by kernel_rfl) (by kernel_rfl) (fun _ _ _ h => h) hj0 (Or.inl ⟨by rfl, fun u hu => ?_⟩) ?_
                      · obtain ⟨t0, t1, t2, t3⟩ := HS.out u hu
                        go_simp
                      try simp only [Act.put, List.setIfInBounds_toArray, List.set_cons_zero, List.set_cons_succ]
                      refine wpAnyL_one (i := 12) (by kernel_rfl) rfl (fun K hK => ?_)
                      go_simp
                      go_at_call 95
                      refine (HBF2.out _).mono ?_
                      rintro r x2 ⟨rfl, hb2⟩
                      have hj2 := hj0.trans (hb2.mono hj0.size)
                      clear hj0 hb2
                      show K _ _
                      refine hK.out _ _ (fun _ _ => hj2) ?_
                      clear hK K
                      try simp only [Act.put, List.setIfInBounds_toArray, List.set_cons_zero, List.set_cons_succ]
                      refine wpAnyL_pureD (i := 13) 63 (.bool false) rfl rfl (by kernel_rfl) (by kernel_rfl) (by kernel_rfl) (fun _ _ _ h => h) (Or.inl ⟨by rfl, fun u _ => ?_⟩) ?_
                      · go_simp
                      try simp only [Act.put, List.setIfInBounds_toArray, List.set_cons_zero, List.set_cons_succ]
                      refine wpAnyL_pureD (i := 14) 64 (.slice (some ⟨b1, o1, none⟩) Q.length c1) rfl rfl (by kernel_rfl) (by kernel_rfl) (by kernel_rfl) (fun _ _ _ h => h) (Or.inl ⟨by rfl, fun u _ => ?_⟩) ?_
                      · go_simp
                      try simp only [Act.put, List.setIfInBounds_toArray, List.set_cons_zero, List.set_cons_succ]
                      refine wpAnyL_pureD (i := 15) 65 (.int .i64 j) rfl rfl (by kernel_rfl) (by kernel_rfl) (by kernel_rfl) (fun _ _ _ h => h) (Or.inl ⟨by rfl, fun u _ => ?_⟩) ?_
                      · go_simp
                      try simp only [Act.put, List.setIfInBounds_toArray, List.set_cons_zero, List.set_cons_succ]
                      refine wpAnyL_pureD (i := 16) 66 (.pointer (some ⟨b1, o1 + j * 2, none⟩)) rfl rfl (by kernel_rfl) (by kernel_rfl) (by kernel_rfl) (fun _ _ _ h => h) (Or.inl ⟨by rfl, fun u _ => ?_⟩) ?_
                      · go_simp
                      try simp only [Act.put, List.setIfInBounds_toArray, List.set_cons_zero, List.set_cons_succ]
                      refine wpAnyL_takeD (i := 17) 67 (.agg #[.int .i64 ta, .int .i64 tb]) rfl rfl (by kernel_rfl) (by kernel_rfl) (by kernel_rfl) (by kernel_rfl) (by kernel_rfl) (fun _ _ _ h => h) hj2 (Or.inl ⟨by rfl, fun u hu => ?_⟩) ?_
                      · obtain ⟨t0, t1, t2, t3⟩ := HS.out u hu
                        go_simp
                      try simp only [Act.put, List.setIfInBounds_toArray, List.set_cons_zero, List.set_cons_succ]
                      refine wpAnyL_pureD (i := 18) 68 (.slice (some ⟨b1, o1, none⟩) Q.length c1) rfl rfl (by kernel_rfl) (by kernel_rfl) (by kernel_rfl) (fun _ _ _ h => h) (Or.inl ⟨by rfl, fun u _ => ?_⟩) ?_
                      · go_simp
                      try simp only [Act.put, List.setIfInBounds_toArray, List.set_cons_zero, List.set_cons_succ]
                      refine wpAnyL_pureD (i := 19) 69 (.int .i64 i) rfl rfl (by kernel_rfl) (by kernel_rfl) (by kernel_rfl) (fun _ _ _ h => h) (Or.inl ⟨by rfl, fun u _ => ?_⟩) ?_
                      · go_simp
                      try simp only [Act.put, List.setIfInBounds_toArray, List.set_cons_zero, List.set_cons_succ]
                      refine wpAnyL_pureD (i := 20) 70 (.pointer (some ⟨b1, o1 + i * 2, none⟩)) rfl rfl (by kernel_rfl) (by kernel_rfl) (by kernel_rfl) (fun _ _ _ h => h) (Or.inl ⟨by rfl, fun u _ => ?_⟩) ?_
                      · go_simp
                      try simp only [Act.put, List.setIfInBounds_toArray, List.set_cons_zero, List.set_cons_succ]
                      refine wpAnyL_takeD (i := 21) 71 (.agg #[.int .i64 sa, .int .i64 sb]) rfl rfl (by kernel_rfl) (by kernel_rfl) (by kernel_rfl) (by kernel_rfl) (by kernel_rfl) (fun _ _ _ h => h) hj2 (Or.inl ⟨by rfl, fun u hu => ?_⟩) ?_
                      · obtain ⟨t0, t1, t2, t3⟩ := HS.out u hu
                        go_simp
                      try simp only [Act.put, List.setIfInBounds_toArray, List.set_cons_zero, List.set_cons_succ]
                      refine wpAnyL_pureD (i := 22) 72 (.bool true) rfl rfl (by kernel_rfl) (by kernel_rfl) (by kernel_rfl) (fun _ _ _ h => h) (Or.inl ⟨by rfl, fun u _ => ?_⟩) ?_
                      · go_simp
                        try exact heq _
                      try simp only [Act.put, List.setIfInBounds_toArray, List.set_cons_zero, List.set_cons_succ]
                      refine wpAnyL_pureD (i := 23) 73 (.bool true) rfl rfl (by kernel_rfl) (by kernel_rfl) (by kernel_rfl) (fun _ _ _ h => h) (Or.inl ⟨by rfl, fun u _ => ?_⟩) ?_
                      · go_simp
                      try simp only [Act.put, List.setIfInBounds_toArray, List.set_cons_zero, List.set_cons_succ]
                      refine wpAnyL_pureD (i := 24) 74 (.int .i64 j) rfl rfl (by kernel_rfl) (by kernel_rfl) (by kernel_rfl) (fun _ _ _ h => h) (Or.inl ⟨by rfl, fun u _ => ?_⟩) ?_
                      · go_simp
                      try simp only [Act.put, List.setIfInBounds_toArray, List.set_cons_zero, List.set_cons_succ]
                      refine wpAnyL_pureD (i := 25) 75 (.int .i64 i) rfl rfl (by kernel_rfl) (by kernel_rfl) (by kernel_rfl) (fun _ _ _ h => h) (Or.inl ⟨by rfl, fun u _ => ?_⟩) ?_
                      · go_simp
                      try simp only [Act.put, List.setIfInBounds_toArray, List.set_cons_zero, List.set_cons_succ]
                      refine wpAnyL_pureD (i := 26) 76 (.bool true) rfl rfl (by kernel_rfl) (by kernel_rfl) (by kernel_rfl) (fun _ _ _ h => h) (Or.inl ⟨by rfl, fun u _ => ?_⟩) ?_
                      · go_simp
                        all_goals first | exact hlj | omega
                      try simp only [Act.put, List.setIfInBounds_toArray, List.set_cons_zero, List.set_cons_succ]
                      refine wpAnyL_pureD (i := 27) 77 (.bool true) rfl rfl (by kernel_rfl) (by kernel_rfl) (by kernel_rfl) (fun _ _ _ h => h) (Or.inl ⟨by rfl, fun u _ => ?_⟩) ?_
                      · go_simp
                      try simp only [Act.put, List.setIfInBounds_toArray, List.set_cons_zero, List.set_cons_succ]
                      refine wpAnyL_pureD (i := 28) 78 (.bool true) rfl rfl (by kernel_rfl) (by kernel_rfl) (by kernel_rfl) (fun _ _ _ h => h) (Or.inl ⟨by rfl, fun u _ => ?_⟩) ?_
                      · go_simp
                      try simp only [Act.put, List.setIfInBounds_toArray, List.set_cons_zero, List.set_cons_succ]
                      refine wpAnyL_pureD (i := 29) 79 (.bool true) rfl rfl (by kernel_rfl) (by kernel_rfl) (by kernel_rfl) (fun _ _ _ h => h) (Or.inl ⟨by rfl, fun u _ => ?_⟩) ?_
                      · go_simp
                      try simp only [Act.put, List.setIfInBounds_toArray, List.set_cons_zero, List.set_cons_succ]
                      refine wpAnyL_done (by kernel_rfl) ?_ _
                      try simp only [Act.put, List.setIfInBounds_toArray, List.set_cons_zero, List.set_cons_succ]
                      have HB4 : Hid (Below w5.heap.size w5 x2) := Lib.hid (HBr.out.trans (hj2.mono HBr.out.size))
                      have HL4 := Lib.hid (own_keep HLo.out hj2)
                      have HS4 := Lib.hid (own_keep HSo.out hj2)
                      clear hj2
                      have HCn : Hid (C (j + 1) = C j + 1) := Lib.hid (by rw [HCS.out, HV.out]; rfl)
                      go_wp2
                      go_roundw
                      case rel => exact ⟨j + 1, by omega, by go_num, by rw [HCn.out]; push_cast; rfl, HL4.out, HS4.out, HB4.out⟩
                      case measure => simp [intOf]; omega
                    · have hlj : decide ((j : Int) < (i : Int)) = false := decide_eq_false (by omega)
                      have HV : Hid ((decide (j ≠ e) && ltI Q j i) = false) := Lib.hid (by unfold ltI; rw [HPJ.out, HPI.out, hlt2]; simp [hji])
                      clear hej hlt2 heqp hpe
                      go_wp2
                      have hj0 : Below wr.heap.size wr wr.drew := (Below.refl _ _).drew
                      refine wp_region_late (S := fun u => Below wr.heap.size wr u) (X := []) (by kernel_rfl) ?_
                      refine wpAnyL_pureD (i := 0) 50 (.int .i64 j) rfl rfl (by kernel_rfl) (by kernel_rfl) (by kernel_rfl) (fun _ _ _ h => h) (Or.inl ⟨by rfl, fun u _ => ?_⟩) ?_
                      · go_simp
                      try simp only [Act.put, List.setIfInBounds_toArray, List.set_cons_zero, List.set_cons_succ]
                      refine wpAnyL_pureD (i := 1) 51 (.int .i64 e) rfl rfl (by kernel_rfl) (by kernel_rfl) (by kernel_rfl) (fun _ _ _ h => h) (Or.inl ⟨by rfl, fun u _ => ?_⟩) ?_
                      · go_simp
                      try simp only [Act.put, List.setIfInBounds_toArray, List.set_cons_zero, List.set_cons_succ]
                      refine wpAnyL_pureD (i := 2) 52 (.bool true) rfl rfl (by kernel_rfl) (by kernel_rfl) (by kernel_rfl) (fun _ _ _ h => h) (Or.inl ⟨by rfl, fun u _ => ?_⟩) ?_
                      · go_simp
                      try simp only [Act.put, List.setIfInBounds_toArray, List.set_cons_zero, List.set_cons_succ]
                      refine wpAnyL_pureD (i := 3) 53 (.bool true) rfl rfl (by kernel_rfl) (by kernel_rfl) (by kernel_rfl) (fun _ _ _ h => h) (Or.inl ⟨by rfl, fun u _ => ?_⟩) ?_
                      · go_simp
                      try simp only [Act.put, List.setIfInBounds_toArray, List.set_cons_zero, List.set_cons_succ]
                      refine wpAnyL_pureD (i := 4) 54 (.slice (some ⟨b1, o1, none⟩) Q.length c1) rfl rfl (by kernel_rfl) (by kernel_rfl) (by kernel_rfl) (fun _ _ _ h => h) (Or.inl ⟨by rfl, fun u _ => ?_⟩) ?_
                      · go_simp
                      try simp only [Act.put, List.setIfInBounds_toArray, List.set_cons_zero, List.set_cons_succ]
                      refine wpAnyL_pureD (i := 5) 55 (.int .i64 j) rfl rfl (by kernel_rfl) (by kernel_rfl) (by kernel_rfl) (fun _ _ _ h => h) (Or.inl ⟨by rfl, fun u _ => ?_⟩) ?_
                      · go_simp
                      try simp only [Act.put, List.setIfInBounds_toArray, List.set_cons_zero, List.set_cons_succ]
                      refine wpAnyL_pureD (i := 6) 56 (.pointer (some ⟨b1, o1 + j * 2, none⟩)) rfl rfl (by kernel_rfl) (by kernel_rfl) (by kernel_rfl) (fun _ _ _ h => h) (Or.inl ⟨by rfl, fun u _ => ?_⟩) ?_
                      · go_simp
                      try simp only [Act.put, List.setIfInBounds_toArray, List.set_cons_zero, List.set_cons_succ]
                      refine wpAnyL_takeD (i := 7) 57 (.agg #[.int .i64 ta, .int .i64 tb]) rfl rfl (by kernel_rfl) (by kernel_rfl) (by kernel_rfl) (by kernel_rfl) (by kernel_rfl) (fun _ _ _ h => h) hj0 (Or.inl ⟨by rfl, fun u hu => ?_⟩) ?_
                      · obtain ⟨t0, t1, t2, t3⟩ := HS.out u hu
                        go_simp
                      try simp only [Act.put, List.setIfInBounds_toArray, List.set_cons_zero, List.set_cons_succ]
                      refine wpAnyL_pureD (i := 8) 58 (.slice (some ⟨b1, o1, none⟩) Q.length c1) rfl rfl (by kernel_rfl) (by kernel_rfl) (by kernel_rfl) (fun _ _ _ h => h) (Or.inl ⟨by rfl, fun u _ => ?_⟩) ?_
                      · go_simp
                      try simp only [Act.put, List.setIfInBounds_toArray, List.set_cons_zero, List.set_cons_succ]
                      refine wpAnyL_pureD (i := 9) 59 (.int .i64 i) rfl rfl (by kernel_rfl) (by kernel_rfl) (by kernel_rfl) (fun _ _ _ h => h) (Or.inl ⟨by rfl, fun u _ => ?_⟩) ?_
                      · go_simp
                      try simp only [Act.put, List.setIfInBounds_toArray, List.set_cons_zero, List.set_cons_succ]
                      refine wpAnyL_pureD (i := 10) 60 (.pointer (some ⟨b1, o1 + i * 2, none⟩)) rfl rfl (by kernel_rfl) (by kernel_rfl) (by kernel_rfl) (fun _ _ _ h => h) (Or.inl ⟨by rfl, fun u _ => ?_⟩) ?_
                      · go_simp
                      try simp only [Act.put, List.setIfInBounds_toArray, List.set_cons_zero, List.set_cons_succ]
                      refine wpAnyL_takeD (i := 11) 61 (.agg #[.int .i64 sa, .int .i64 sb]) rfl rfl (by kernel_rfl) (by kernel_rfl) (by kernel_rfl) (by kernel_rfl) (by kernel_rfl) (fun _ _ _ h => h) hj0 (Or.inl ⟨by rfl, fun u hu => ?_⟩) ?_
                      · obtain ⟨t0, t1, t2, t3⟩ := HS.out u hu
                        go_simp
                      try simp only [Act.put, List.setIfInBounds_toArray, List.set_cons_zero, List.set_cons_succ]
                      refine wpAnyL_one (i := 12) (by kernel_rfl) rfl (fun K hK => ?_)
                      go_simp
                      go_at_call 95
                      refine (HBF2.out _).mono ?_
                      rintro r x2 ⟨rfl, hb2⟩
                      have hj2 := hj0.trans (hb2.mono hj0.size)
                      clear hj0 hb2
                      show K _ _
                      refine hK.out _ _ (fun _ _ => hj2) ?_
                      clear hK K
                      try simp only [Act.put, List.setIfInBounds_toArray, List.set_cons_zero, List.set_cons_succ]
                      refine wpAnyL_pureD (i := 13) 63 (.bool false) rfl rfl (by kernel_rfl) (by kernel_rfl) (by kernel_rfl) (fun _ _ _ h => h) (Or.inl ⟨by rfl, fun u _ => ?_⟩) ?_
                      · go_simp
                      try simp only [Act.put, List.setIfInBounds_toArray, List.set_cons_zero, List.set_cons_succ]
                      refine wpAnyL_pureD (i := 14) 64 (.slice (some ⟨b1, o1, none⟩) Q.length c1) rfl rfl (by kernel_rfl) (by kernel_rfl) (by kernel_rfl) (fun _ _ _ h => h) (Or.inl ⟨by rfl, fun u _ => ?_⟩) ?_
                      · go_simp
                      try simp only [Act.put, List.setIfInBounds_toArray, List.set_cons_zero, List.set_cons_succ]
                      refine wpAnyL_pureD (i := 15) 65 (.int .i64 j) rfl rfl (by kernel_rfl) (by kernel_rfl) (by kernel_rfl) (fun _ _ _ h => h) (Or.inl ⟨by rfl, fun u _ => ?_⟩) ?_
                      · go_simp
                      try simp only [Act.put, List.setIfInBounds_toArray, List.set_cons_zero, List.set_cons_succ]
                      refine wpAnyL_pureD (i := 16) 66 (.pointer (some ⟨b1, o1 + j * 2, none⟩)) rfl rfl (by kernel_rfl) (by kernel_rfl) (by kernel_rfl) (fun _ _ _ h => h) (Or.inl ⟨by rfl, fun u _ => ?_⟩) ?_
                      · go_simp
                      try simp only [Act.put, List.setIfInBounds_toArray, List.set_cons_zero, List.set_cons_succ]
                      refine wpAnyL_takeD (i := 17) 67 (.agg #[.int .i64 ta, .int .i64 tb]) rfl rfl (by kernel_rfl) (by kernel_rfl) (by kernel_rfl) (by kernel_rfl) (by kernel_rfl) (fun _ _ _ h => h) hj2 (Or.inl ⟨by rfl, fun u hu => ?_⟩) ?_
                      · obtain ⟨t0, t1, t2, t3⟩ := HS.out u hu
                        go_simp
                      try simp only [Act.put, List.setIfInBounds_toArray, List.set_cons_zero, List.set_cons_succ]
                      refine wpAnyL_pureD (i := 18) 68 (.slice (some ⟨b1, o1, none⟩) Q.length c1) rfl rfl (by kernel_rfl) (by kernel_rfl) (by kernel_rfl) (fun _ _ _ h => h) (Or.inl ⟨by rfl, fun u _ => ?_⟩) ?_
                      · go_simp
                      try simp only [Act.put, List.setIfInBounds_toArray, List.set_cons_zero, List.set_cons_succ]
                      refine wpAnyL_pureD (i := 19) 69 (.int .i64 i) rfl rfl (by kernel_rfl) (by kernel_rfl) (by kernel_rfl) (fun _ _ _ h => h) (Or.inl ⟨by rfl, fun u _ => ?_⟩) ?_
                      · go_simp
                      try simp only [Act.put, List.setIfInBounds_toArray, List.set_cons_zero, List.set_cons_succ]
                      refine wpAnyL_pureD (i := 20) 70 (.pointer (some ⟨b1, o1 + i * 2, none⟩)) rfl rfl (by kernel_rfl) (by kernel_rfl) (by kernel_rfl) (fun _ _ _ h => h) (Or.inl ⟨by rfl, fun u _ => ?_⟩) ?_
                      · go_simp
                      try simp only [Act.put, List.setIfInBounds_toArray, List.set_cons_zero, List.set_cons_succ]
                      refine wpAnyL_takeD (i := 21) 71 (.agg #[.int .i64 sa, .int .i64 sb]) rfl rfl (by kernel_rfl) (by kernel_rfl) (by kernel_rfl) (by kernel_rfl) (by kernel_rfl) (fun _ _ _ h => h) hj2 (Or.inl ⟨by rfl, fun u hu => ?_⟩) ?_
                      · obtain ⟨t0, t1, t2, t3⟩ := HS.out u hu
                        go_simp
                      try simp only [Act.put, List.setIfInBounds_toArray, List.set_cons_zero, List.set_cons_succ]
                      refine wpAnyL_pureD (i := 22) 72 (.bool true) rfl rfl (by kernel_rfl) (by kernel_rfl) (by kernel_rfl) (fun _ _ _ h => h) (Or.inl ⟨by rfl, fun u _ => ?_⟩) ?_
                      · go_simp
                        try exact heq _
                      try simp only [Act.put, List.setIfInBounds_toArray, List.set_cons_zero, List.set_cons_succ]
                      refine wpAnyL_pureD (i := 23) 73 (.bool true) rfl rfl (by kernel_rfl) (by kernel_rfl) (by kernel_rfl) (fun _ _ _ h => h) (Or.inl ⟨by rfl, fun u _ => ?_⟩) ?_
                      · go_simp
                      try simp only [Act.put, List.setIfInBounds_toArray, List.set_cons_zero, List.set_cons_succ]
                      refine wpAnyL_pureD (i := 24) 74 (.int .i64 j) rfl rfl (by kernel_rfl) (by kernel_rfl) (by kernel_rfl) (fun _ _ _ h => h) (Or.inl ⟨by rfl, fun u _ => ?_⟩) ?_
                      · go_simp
                      try simp only [Act.put, List.setIfInBounds_toArray, List.set_cons_zero, List.set_cons_succ]
                      refine wpAnyL_pureD (i := 25) 75 (.int .i64 i) rfl rfl (by kernel_rfl) (by kernel_rfl) (by kernel_rfl) (fun _ _ _ h => h) (Or.inl ⟨by rfl, fun u _ => ?_⟩) ?_
                      · go_simp
                      try simp only [Act.put, List.setIfInBounds_toArray, List.set_cons_zero, List.set_cons_succ]
                      refine wpAnyL_pureD (i := 26) 76 (.bool false) rfl rfl (by kernel_rfl) (by kernel_rfl) (by kernel_rfl) (fun _ _ _ h => h) (Or.inl ⟨by rfl, fun u _ => ?_⟩) ?_
                      · go_simp
                        all_goals first | exact hlj | omega
                      try simp only [Act.put, List.setIfInBounds_toArray, List.set_cons_zero, List.set_cons_succ]
                      refine wpAnyL_pureD (i := 27) 77 (.bool false) rfl rfl (by kernel_rfl) (by kernel_rfl) (by kernel_rfl) (fun _ _ _ h => h) (Or.inl ⟨by rfl, fun u _ => ?_⟩) ?_
                      · go_simp
                      try simp only [Act.put, List.setIfInBounds_toArray, List.set_cons_zero, List.set_cons_succ]
                      refine wpAnyL_pureD (i := 28) 78 (.bool false) rfl rfl (by kernel_rfl) (by kernel_rfl) (by kernel_rfl) (fun _ _ _ h => h) (Or.inl ⟨by rfl, fun u _ => ?_⟩) ?_
                      · go_simp
                      try simp only [Act.put, List.setIfInBounds_toArray, List.set_cons_zero, List.set_cons_succ]
                      refine wpAnyL_pureD (i := 29) 79 (.bool false) rfl rfl (by kernel_rfl) (by kernel_rfl) (by kernel_rfl) (fun _ _ _ h => h) (Or.inl ⟨by rfl, fun u _ => ?_⟩) ?_
                      · go_simp
                      try simp only [Act.put, List.setIfInBounds_toArray, List.set_cons_zero, List.set_cons_succ]
                      refine wpAnyL_done (by kernel_rfl) ?_ _
                      try simp only [Act.put, List.setIfInBounds_toArray, List.set_cons_zero, List.set_cons_succ]
                      have HB4 : Hid (Below w5.heap.size w5 x2) := Lib.hid (HBr.out.trans (hj2.mono HBr.out.size))
                      have HL4 := Lib.hid (own_keep HLo.out hj2)
                      have HS4 := Lib.hid (own_keep HSo.out hj2)
                      clear hj2
                      have HCn : Hid (C (j + 1) = C j) := Lib.hid (by rw [HCS.out, HV.out]; rfl)
                      go_wp2
                      go_roundw
                      case rel => exact ⟨j + 1, by omega, by go_num, by rw [HCn.out], HL4.out, HS4.out, HB4.out⟩
                      case measure => simp [intOf]; omega
                  · have heq : ∀ w, (binOp .eql 25 (.agg #[.int .i64 ta, .int .i64 tb]) (.agg #[.int .i64 sa, .int .i64 sb])).run Try.prog w = .ok (.bool false) w := fun w => by
                      rw [eql_pair]
                      have : ((ta == sa) && (tb == sb)) = false := by
                        cases h1 : (ta == sa) <;> cases h2 : (tb == sb) <;> simp_all
                      rw [this]
                    have HV : Hid ((decide (j ≠ e) && ltI Q j i) = false) := Lib.hid (by unfold ltI; rw [HPJ.out, HPI.out, hlt2]; simp; omega)
                    clear hej hlt2 heqp
                    go_wp2
                    have hj0 : Below wr.heap.size wr wr.drew := (Below.refl _ _).drew
                    refine wp_region_late (S := fun u => Below wr.heap.size wr u) (X := []) (by kernel_rfl) ?_
                    refine wpAnyL_pureD (i := 0) 50 (.int .i64 j) rfl rfl (by kernel_rfl) (by kernel_rfl) (by kernel_rfl) (fun _ _ _ h => h) (Or.inl ⟨by rfl, fun u _ => ?_⟩) ?_
                    · go_simp
                    try simp only [Act.put, List.setIfInBounds_toArray, List.set_cons_zero, List.set_cons_succ]
                    refine wpAnyL_pureD (i := 1) 51 (.int .i64 e) rfl rfl (by kernel_rfl) (by kernel_rfl) (by kernel_rfl) (fun _ _ _ h => h) (Or.inl ⟨by rfl, fun u _ => ?_⟩) ?_
                    · go_simp
                    try simp only [Act.put, List.setIfInBounds_toArray, List.set_cons_zero, List.set_cons_succ]
                    refine wpAnyL_pureD (i := 2) 52 (.bool true) rfl rfl (by kernel_rfl) (by kernel_rfl) (by kernel_rfl) (fun _ _ _ h => h) (Or.inl ⟨by rfl, fun u _ => ?_⟩) ?_
                    · go_simp
                    try simp only [Act.put, List.setIfInBounds_toArray, List.set_cons_zero, List.set_cons_succ]
                    refine wpAnyL_pureD (i := 3) 53 (.bool true) rfl rfl (by kernel_rfl) (by kernel_rfl) (by kernel_rfl) (fun _ _ _ h => h) (Or.inl ⟨by rfl, fun u _ => ?_⟩) ?_
                    · go_simp
                    try simp only [Act.put, List.setIfInBounds_toArray, List.set_cons_zero, List.set_cons_succ]
                    refine wpAnyL_pureD (i := 4) 54 (.slice (some ⟨b1, o1, none⟩) Q.length c1) rfl rfl (by kernel_rfl) (by kernel_rfl) (by kernel_rfl) (fun _ _ _ h => h) (Or.inl ⟨by rfl, fun u _ => ?_⟩) ?_
                    · go_simp
                    try simp only [Act.put, List.setIfInBounds_toArray, List.set_cons_zero, List.set_cons_succ]
                    refine wpAnyL_pureD (i := 5) 55 (.int .i64 j) rfl rfl (by kernel_rfl) (by kernel_rfl) (by kernel_rfl) (fun _ _ _ h => h) (Or.inl ⟨by rfl, fun u _ => ?_⟩) ?_
                    · go_simp
                    try simp only [Act.put, List.setIfInBounds_toArray, List.set_cons_zero, List.set_cons_succ]
                    refine wpAnyL_pureD (i := 6) 56 (.pointer (some ⟨b1, o1 + j * 2, none⟩)) rfl rfl (by kernel_rfl) (by kernel_rfl) (by kernel_rfl) (fun _ _ _ h => h) (Or.inl ⟨by rfl, fun u _ => ?_⟩) ?_
                    · go_simp
                    try simp only [Act.put, List.setIfInBounds_toArray, List.set_cons_zero, List.set_cons_succ]
                    refine wpAnyL_takeD (i := 7) 57 (.agg #[.int .i64 ta, .int .i64 tb]) rfl rfl (by kernel_rfl) (by kernel_rfl) (by kernel_rfl) (by kernel_rfl) (by kernel_rfl) (fun _ _ _ h => h) hj0 (Or.inl ⟨by rfl, fun u hu => ?_⟩) ?_
                    · obtain ⟨t0, t1, t2, t3⟩ := HS.out u hu
                      go_simp
                    try simp only [Act.put, List.setIfInBounds_toArray, List.set_cons_zero, List.set_cons_succ]
                    refine wpAnyL_pureD (i := 8) 58 (.slice (some ⟨b1, o1, none⟩) Q.length c1) rfl rfl (by kernel_rfl) (by kernel_rfl) (by kernel_rfl) (fun _ _ _ h => h) (Or.inl ⟨by rfl, fun u _ => ?_⟩) ?_
                    · go_simp
                    try simp only [Act.put, List.setIfInBounds_toArray, List.set_cons_zero, List.set_cons_succ]
                    refine wpAnyL_pureD (i := 9) 59 (.int .i64 i) rfl rfl (by kernel_rfl) (by kernel_rfl) (by kernel_rfl) (fun _ _ _ h => h) (Or.inl ⟨by rfl, fun u _ => ?_⟩) ?_
                    · go_simp
                    try simp only [Act.put, List.setIfInBounds_toArray, List.set_cons_zero, List.set_cons_succ]
                    refine wpAnyL_pureD (i := 10) 60 (.pointer (some ⟨b1, o1 + i * 2, none⟩)) rfl rfl (by kernel_rfl) (by kernel_rfl) (by kernel_rfl) (fun _ _ _ h => h) (Or.inl ⟨by rfl, fun u _ => ?_⟩) ?_
                    · go_simp
                    try simp only [Act.put, List.setIfInBounds_toArray, List.set_cons_zero, List.set_cons_succ]
                    refine wpAnyL_takeD (i := 11) 61 (.agg #[.int .i64 sa, .int .i64 sb]) rfl rfl (by kernel_rfl) (by kernel_rfl) (by kernel_rfl) (by kernel_rfl) (by kernel_rfl) (fun _ _ _ h => h) hj0 (Or.inl ⟨by rfl, fun u hu => ?_⟩) ?_
                    · obtain ⟨t0, t1, t2, t3⟩ := HS.out u hu
                      go_simp
                    try simp only [Act.put, List.setIfInBounds_toArray, List.set_cons_zero, List.set_cons_succ]
                    refine wpAnyL_one (i := 12) (by kernel_rfl) rfl (fun K hK => ?_)
                    go_simp
                    go_at_call 95
                    refine (HBF2.out _).mono ?_
                    rintro r x2 ⟨rfl, hb2⟩
                    have hj2 := hj0.trans (hb2.mono hj0.size)
                    clear hj0 hb2
                    show K _ _
                    refine hK.out _ _ (fun _ _ => hj2) ?_
                    clear hK K
                    try simp only [Act.put, List.setIfInBounds_toArray, List.set_cons_zero, List.set_cons_succ]
                    refine wpAnyL_pureD (i := 13) 63 (.bool false) rfl rfl (by kernel_rfl) (by kernel_rfl) (by kernel_rfl) (fun _ _ _ h => h) (Or.inl ⟨by rfl, fun u _ => ?_⟩) ?_
                    · go_simp
                    try simp only [Act.put, List.setIfInBounds_toArray, List.set_cons_zero, List.set_cons_succ]
                    refine wpAnyL_pureD (i := 14) 64 (.slice (some ⟨b1, o1, none⟩) Q.length c1) rfl rfl (by kernel_rfl) (by kernel_rfl) (by kernel_rfl) (fun _ _ _ h => h) (Or.inl ⟨by rfl, fun u _ => ?_⟩) ?_
                    · go_simp
                    try simp only [Act.put, List.setIfInBounds_toArray, List.set_cons_zero, List.set_cons_succ]
                    refine wpAnyL_pureD (i := 15) 65 (.int .i64 j) rfl rfl (by kernel_rfl) (by kernel_rfl) (by kernel_rfl) (fun _ _ _ h => h) (Or.inl ⟨by rfl, fun u _ => ?_⟩) ?_
                    · go_simp
                    try simp only [Act.put, List.setIfInBounds_toArray, List.set_cons_zero, List.set_cons_succ]
                    refine wpAnyL_pureD (i := 16) 66 (.pointer (some ⟨b1, o1 + j * 2, none⟩)) rfl rfl (by kernel_rfl) (by kernel_rfl) (by kernel_rfl) (fun _ _ _ h => h) (Or.inl ⟨by rfl, fun u _ => ?_⟩) ?_
                    · go_simp
                    try simp only [Act.put, List.setIfInBounds_toArray, List.set_cons_zero, List.set_cons_succ]
                    refine wpAnyL_takeD (i := 17) 67 (.agg #[.int .i64 ta, .int .i64 tb]) rfl rfl (by kernel_rfl) (by kernel_rfl) (by kernel_rfl) (by kernel_rfl) (by kernel_rfl) (fun _ _ _ h => h) hj2 (Or.inl ⟨by rfl, fun u hu => ?_⟩) ?_
                    · obtain ⟨t0, t1, t2, t3⟩ := HS.out u hu
                      go_simp
                    try simp only [Act.put, List.setIfInBounds_toArray, List.set_cons_zero, List.set_cons_succ]
                    refine wpAnyL_pureD (i := 18) 68 (.slice (some ⟨b1, o1, none⟩) Q.length c1) rfl rfl (by kernel_rfl) (by kernel_rfl) (by kernel_rfl) (fun _ _ _ h => h) (Or.inl ⟨by rfl, fun u _ => ?_⟩) ?_
                    · go_simp
                    try simp only [Act.put, List.setIfInBounds_toArray, List.set_cons_zero, List.set_cons_succ]
                    refine wpAnyL_pureD (i := 19) 69 (.int .i64 i) rfl rfl (by kernel_rfl) (by kernel_rfl) (by kernel_rfl) (fun _ _ _ h => h) (Or.inl ⟨by rfl, fun u _ => ?_⟩) ?_
                    · go_simp
                    try simp only [Act.put, List.setIfInBounds_toArray, List.set_cons_zero, List.set_cons_succ]
                    refine wpAnyL_pureD (i := 20) 70 (.pointer (some ⟨b1, o1 + i * 2, none⟩)) rfl rfl (by kernel_rfl) (by kernel_rfl) (by kernel_rfl) (fun _ _ _ h => h) (Or.inl ⟨by rfl, fun u _ => ?_⟩) ?_
                    · go_simp
                    try simp only [Act.put, List.setIfInBounds_toArray, List.set_cons_zero, List.set_cons_succ]
                    refine wpAnyL_takeD (i := 21) 71 (.agg #[.int .i64 sa, .int .i64 sb]) rfl rfl (by kernel_rfl) (by kernel_rfl) (by kernel_rfl) (by kernel_rfl) (by kernel_rfl) (fun _ _ _ h => h) hj2 (Or.inl ⟨by rfl, fun u hu => ?_⟩) ?_
                    · obtain ⟨t0, t1, t2, t3⟩ := HS.out u hu
                      go_simp
                    try simp only [Act.put, List.setIfInBounds_toArray, List.set_cons_zero, List.set_cons_succ]
                    refine wpAnyL_pureD (i := 22) 72 (.bool false) rfl rfl (by kernel_rfl) (by kernel_rfl) (by kernel_rfl) (fun _ _ _ h => h) (Or.inl ⟨by rfl, fun u _ => ?_⟩) ?_
                    · go_simp
                      try exact heq _
                    try simp only [Act.put, List.setIfInBounds_toArray, List.set_cons_zero, List.set_cons_succ]
                    refine wpAnyL_pureD (i := 23) 73 (.bool false) rfl rfl (by kernel_rfl) (by kernel_rfl) (by kernel_rfl) (fun _ _ _ h => h) (Or.inl ⟨by rfl, fun u _ => ?_⟩) ?_
                    · go_simp
                    try simp only [Act.put, List.setIfInBounds_toArray, List.set_cons_zero, List.set_cons_succ]
                    refine wpAnyL_pureD (i := 24) 74 undef rfl rfl (by kernel_rfl) (by kernel_rfl) (by kernel_rfl) (fun _ _ _ h => h) (Or.inr ⟨by kernel_rfl, rfl⟩) ?_
                    try simp only [Act.put, List.setIfInBounds_toArray, List.set_cons_zero, List.set_cons_succ]
                    refine wpAnyL_pureD (i := 25) 75 undef rfl rfl (by kernel_rfl) (by kernel_rfl) (by kernel_rfl) (fun _ _ _ h => h) (Or.inr ⟨by kernel_rfl, rfl⟩) ?_
                    try simp only [Act.put, List.setIfInBounds_toArray, List.set_cons_zero, List.set_cons_succ]
                    refine wpAnyL_pureD (i := 26) 76 undef rfl rfl (by kernel_rfl) (by kernel_rfl) (by kernel_rfl) (fun _ _ _ h => h) (Or.inr ⟨by kernel_rfl, rfl⟩) ?_
                    try simp only [Act.put, List.setIfInBounds_toArray, List.set_cons_zero, List.set_cons_succ]
                    refine wpAnyL_pureD (i := 27) 77 (.bool false) rfl rfl (by kernel_rfl) (by kernel_rfl) (by kernel_rfl) (fun _ _ _ h => h) (Or.inl ⟨by rfl, fun u _ => ?_⟩) ?_
                    · go_simp
                    try simp only [Act.put, List.setIfInBounds_toArray, List.set_cons_zero, List.set_cons_succ]
                    refine wpAnyL_pureD (i := 28) 78 (.bool false) rfl rfl (by kernel_rfl) (by kernel_rfl) (by kernel_rfl) (fun _ _ _ h => h) (Or.inl ⟨by rfl, fun u _ => ?_⟩) ?_
                    · go_simp
                    try simp only [Act.put, List.setIfInBounds_toArray, List.set_cons_zero, List.set_cons_succ]
                    refine wpAnyL_pureD (i := 29) 79 (.bool false) rfl rfl (by kernel_rfl) (by kernel_rfl) (by kernel_rfl) (fun _ _ _ h => h) (Or.inl ⟨by rfl, fun u _ => ?_⟩) ?_
                    · go_simp
                    try simp only [Act.put, List.setIfInBounds_toArray, List.set_cons_zero, List.set_cons_succ]
                    refine wpAnyL_done (by kernel_rfl) ?_ _
                    try simp only [Act.put, List.setIfInBounds_toArray, List.set_cons_zero, List.set_cons_succ]
                    have HB4 : Hid (Below w5.heap.size w5 x2) := Lib.hid (HBr.out.trans (hj2.mono HBr.out.size))
                    have HL4 := Lib.hid (own_keep HLo.out hj2)
                    have HS4 := Lib.hid (own_keep HSo.out hj2)
                    clear hj2
                    have HCn : Hid (C (j + 1) = C j) := Lib.hid (by rw [HCS.out, HV.out]; rfl)
                    go_wp2
                    go_roundw
                    case rel => exact ⟨j + 1, by omega, by go_num, by rw [HCn.out], HL4.out, HS4.out, HB4.out⟩
                    case measure => simp [intOf]; omega
                · have HBF2 : Hid (∀ w, Calls Try.prog 95 #[.agg #[.int .i64 ta, .int .i64 tb], .agg #[.int .i64 sa, .int .i64 sb]] w (fun e w' => e = .returned (.bool true) ∧ Below w.heap.size w w')) := Lib.hid fun w => by have := HBE.out (ta, tb) (sa, sb) w; rw [hlt2] at this; exact this
                  have HV : Hid ((decide (j ≠ e) && ltI Q j i) = true) := Lib.hid (by unfold ltI; rw [HPJ.out, HPI.out, hlt2]; simp [hej])
                  clear hej hlt2
                  go_wp2
                  have hj0 : Below wr.heap.size wr wr.drew := (Below.refl _ _).drew
                  refine wp_region_late (S := fun u => Below wr.heap.size wr u) (X := []) (by kernel_rfl) ?_
                  refine wpAnyL_pureD (i := 0) 50 (.int .i64 j) rfl rfl (by kernel_rfl) (by kernel_rfl) (by kernel_rfl) (fun _ _ _ h => h) (Or.inl ⟨by rfl, fun u _ => ?_⟩) ?_
                  · go_simp
                  try simp only [Act.put, List.setIfInBounds_toArray, List.set_cons_zero, List.set_cons_succ]
                  refine wpAnyL_pureD (i := 1) 51 (.int .i64 e) rfl rfl (by kernel_rfl) (by kernel_rfl) (by kernel_rfl) (fun _ _ _ h => h) (Or.inl ⟨by rfl, fun u _ => ?_⟩) ?_
                  · go_simp
                  try simp only [Act.put, List.setIfInBounds_toArray, List.set_cons_zero, List.set_cons_succ]
                  refine wpAnyL_pureD (i := 2) 52 (.bool true) rfl rfl (by kernel_rfl) (by kernel_rfl) (by kernel_rfl) (fun _ _ _ h => h) (Or.inl ⟨by rfl, fun u _ => ?_⟩) ?_
                  · go_simp
                  try simp only [Act.put, List.setIfInBounds_toArray, List.set_cons_zero, List.set_cons_succ]
                  refine wpAnyL_pureD (i := 3) 53 (.bool true) rfl rfl (by kernel_rfl) (by kernel_rfl) (by kernel_rfl) (fun _ _ _ h => h) (Or.inl ⟨by rfl, fun u _ => ?_⟩) ?_
                  · go_simp
                  try simp only [Act.put, List.setIfInBounds_toArray, List.set_cons_zero, List.set_cons_succ]
                  refine wpAnyL_pureD (i := 4) 54 (.slice (some ⟨b1, o1, none⟩) Q.length c1) rfl rfl (by kernel_rfl) (by kernel_rfl) (by kernel_rfl) (fun _ _ _ h => h) (Or.inl ⟨by rfl, fun u _ => ?_⟩) ?_
                  · go_simp
                  try simp only [Act.put, List.setIfInBounds_toArray, List.set_cons_zero, List.set_cons_succ]
                  refine wpAnyL_pureD (i := 5) 55 (.int .i64 j) rfl rfl (by kernel_rfl) (by kernel_rfl) (by kernel_rfl) (fun _ _ _ h => h) (Or.inl ⟨by rfl, fun u _ => ?_⟩) ?_
                  · go_simp
                  try simp only [Act.put, List.setIfInBounds_toArray, List.set_cons_zero, List.set_cons_succ]
                  refine wpAnyL_pureD (i := 6) 56 (.pointer (some ⟨b1, o1 + j * 2, none⟩)) rfl rfl (by kernel_rfl) (by kernel_rfl) (by kernel_rfl) (fun _ _ _ h => h) (Or.inl ⟨by rfl, fun u _ => ?_⟩) ?_
                  · go_simp
                  try simp only [Act.put, List.setIfInBounds_toArray, List.set_cons_zero, List.set_cons_succ]
                  refine wpAnyL_takeD (i := 7) 57 (.agg #[.int .i64 ta, .int .i64 tb]) rfl rfl (by kernel_rfl) (by kernel_rfl) (by kernel_rfl) (by kernel_rfl) (by kernel_rfl) (fun _ _ _ h => h) hj0 (Or.inl ⟨by rfl, fun u hu => ?_⟩) ?_
                  · obtain ⟨t0, t1, t2, t3⟩ := HS.out u hu
                    go_simp
                  try simp only [Act.put, List.setIfInBounds_toArray, List.set_cons_zero, List.set_cons_succ]
                  refine wpAnyL_pureD (i := 8) 58 (.slice (some ⟨b1, o1, none⟩) Q.length c1) rfl rfl (by kernel_rfl) (by kernel_rfl) (by kernel_rfl) (fun _ _ _ h => h) (Or.inl ⟨by rfl, fun u _ => ?_⟩) ?_
                  · go_simp
                  try simp only [Act.put, List.setIfInBounds_toArray, List.set_cons_zero, List.set_cons_succ]
                  refine wpAnyL_pureD (i := 9) 59 (.int .i64 i) rfl rfl (by kernel_rfl) (by kernel_rfl) (by kernel_rfl) (fun _ _ _ h => h) (Or.inl ⟨by rfl, fun u _ => ?_⟩) ?_
                  · go_simp
                  try simp only [Act.put, List.setIfInBounds_toArray, List.set_cons_zero, List.set_cons_succ]
                  refine wpAnyL_pureD (i := 10) 60 (.pointer (some ⟨b1, o1 + i * 2, none⟩)) rfl rfl (by kernel_rfl) (by kernel_rfl) (by kernel_rfl) (fun _ _ _ h => h) (Or.inl ⟨by rfl, fun u _ => ?_⟩) ?_
                  · go_simp
                  try simp only [Act.put, List.setIfInBounds_toArray, List.set_cons_zero, List.set_cons_succ]
                  refine wpAnyL_takeD (i := 11) 61 (.agg #[.int .i64 sa, .int .i64 sb]) rfl rfl (by kernel_rfl) (by kernel_rfl) (by kernel_rfl) (by kernel_rfl) (by kernel_rfl) (fun _ _ _ h => h) hj0 (Or.inl ⟨by rfl, fun u hu => ?_⟩) ?_
                  · obtain ⟨t0, t1, t2, t3⟩ := HS.out u hu
                    go_simp
                  try simp only [Act.put, List.setIfInBounds_toArray, List.set_cons_zero, List.set_cons_succ]
                  refine wpAnyL_one (i := 12) (by kernel_rfl) rfl (fun K hK => ?_)
                  go_simp
                  go_at_call 95
                  refine (HBF2.out _).mono ?_
                  rintro r x2 ⟨rfl, hb2⟩
                  have hj2 := hj0.trans (hb2.mono hj0.size)
                  clear hj0 hb2
                  show K _ _
                  refine hK.out _ _ (fun _ _ => hj2) ?_
                  clear hK K
                  try simp only [Act.put, List.setIfInBounds_toArray, List.set_cons_zero, List.set_cons_succ]
                  refine wpAnyL_pureD (i := 13) 63 (.bool true) rfl rfl (by kernel_rfl) (by kernel_rfl) (by kernel_rfl) (fun _ _ _ h => h) (Or.inl ⟨by rfl, fun u _ => ?_⟩) ?_
                  · go_simp
                  try simp only [Act.put, List.setIfInBounds_toArray, List.set_cons_zero, List.set_cons_succ]
                  refine wpAnyL_pureD (i := 14) 64 undef rfl rfl (by kernel_rfl) (by kernel_rfl) (by kernel_rfl) (fun _ _ _ h => h) (Or.inr ⟨by kernel_rfl, rfl⟩) ?_
                  try simp only [Act.put, List.setIfInBounds_toArray, List.set_cons_zero, List.set_cons_succ]
                  refine wpAnyL_pureD (i := 15) 65 undef rfl rfl (by kernel_rfl) (by kernel_rfl) (by kernel_rfl) (fun _ _ _ h => h) (Or.inr ⟨by kernel_rfl, rfl⟩) ?_
                  try simp only [Act.put, List.setIfInBounds_toArray, List.set_cons_zero, List.set_cons_succ]
                  refine wpAnyL_pureD (i := 16) 66 undef rfl rfl (by kernel_rfl) (by kernel_rfl) (by kernel_rfl) (fun _ _ _ h => h) (Or.inr ⟨by kernel_rfl, rfl⟩) ?_
                  try simp only [Act.put, List.setIfInBounds_toArray, List.set_cons_zero, List.set_cons_succ]
                  refine wpAnyL_pureD (i := 17) 67 undef rfl rfl (by kernel_rfl) (by kernel_rfl) (by kernel_rfl) (fun _ _ _ h => h) (Or.inr ⟨by kernel_rfl, rfl⟩) ?_
                  try simp only [Act.put, List.setIfInBounds_toArray, List.set_cons_zero, List.set_cons_succ]
                  refine wpAnyL_pureD (i := 18) 68 undef rfl rfl (by kernel_rfl) (by kernel_rfl) (by kernel_rfl) (fun _ _ _ h => h) (Or.inr ⟨by kernel_rfl, rfl⟩) ?_
                  try simp only [Act.put, List.setIfInBounds_toArray, List.set_cons_zero, List.set_cons_succ]
                  refine wpAnyL_pureD (i := 19) 69 undef rfl rfl (by kernel_rfl) (by kernel_rfl) (by kernel_rfl) (fun _ _ _ h => h) (Or.inr ⟨by kernel_rfl, rfl⟩) ?_
                  try simp only [Act.put, List.setIfInBounds_toArray, List.set_cons_zero, List.set_cons_succ]
                  refine wpAnyL_pureD (i := 20) 70 undef rfl rfl (by kernel_rfl) (by kernel_rfl) (by kernel_rfl) (fun _ _ _ h => h) (Or.inr ⟨by kernel_rfl, rfl⟩) ?_
                  try simp only [Act.put, List.setIfInBounds_toArray, List.set_cons_zero, List.set_cons_succ]
                  refine wpAnyL_pureD (i := 21) 71 undef rfl rfl (by kernel_rfl) (by kernel_rfl) (by kernel_rfl) (fun _ _ _ h => h) (Or.inr ⟨by kernel_rfl, rfl⟩) ?_
                  try simp only [Act.put, List.setIfInBounds_toArray, List.set_cons_zero, List.set_cons_succ]
                  refine wpAnyL_pureD (i := 22) 72 undef rfl rfl (by kernel_rfl) (by kernel_rfl) (by kernel_rfl) (fun _ _ _ h => h) (Or.inr ⟨by kernel_rfl, rfl⟩) ?_
                  try simp only [Act.put, List.setIfInBounds_toArray, List.set_cons_zero, List.set_cons_succ]
                  refine wpAnyL_pureD (i := 23) 73 undef rfl rfl (by kernel_rfl) (by kernel_rfl) (by kernel_rfl) (fun _ _ _ h => h) (Or.inr ⟨by kernel_rfl, rfl⟩) ?_
                  try simp only [Act.put, List.setIfInBounds_toArray, List.set_cons_zero, List.set_cons_succ]
                  refine wpAnyL_pureD (i := 24) 74 undef rfl rfl (by kernel_rfl) (by kernel_rfl) (by kernel_rfl) (fun _ _ _ h => h) (Or.inr ⟨by kernel_rfl, rfl⟩) ?_
                  try simp only [Act.put, List.setIfInBounds_toArray, List.set_cons_zero, List.set_cons_succ]
                  refine wpAnyL_pureD (i := 25) 75 undef rfl rfl (by kernel_rfl) (by kernel_rfl) (by kernel_rfl) (fun _ _ _ h => h) (Or.inr ⟨by kernel_rfl, rfl⟩) ?_
                  try simp only [Act.put, List.setIfInBounds_toArray, List.set_cons_zero, List.set_cons_succ]
                  refine wpAnyL_pureD (i := 26) 76 undef rfl rfl (by kernel_rfl) (by kernel_rfl) (by kernel_rfl) (fun _ _ _ h => h) (Or.inr ⟨by kernel_rfl, rfl⟩) ?_
                  try simp only [Act.put, List.setIfInBounds_toArray, List.set_cons_zero, List.set_cons_succ]
                  refine wpAnyL_pureD (i := 27) 77 undef rfl rfl (by kernel_rfl) (by kernel_rfl) (by kernel_rfl) (fun _ _ _ h => h) (Or.inr ⟨by kernel_rfl, rfl⟩) ?_
                  try simp only [Act.put, List.setIfInBounds_toArray, List.set_cons_zero, List.set_cons_succ]
                  refine wpAnyL_pureD (i := 28) 78 (.bool true) rfl rfl (by kernel_rfl) (by kernel_rfl) (by kernel_rfl) (fun _ _ _ h => h) (Or.inl ⟨by rfl, fun u _ => ?_⟩) ?_
                  · go_simp
                  try simp only [Act.put, List.setIfInBounds_toArray, List.set_cons_zero, List.set_cons_succ]
                  refine wpAnyL_pureD (i := 29) 79 (.bool true) rfl rfl (by kernel_rfl) (by kernel_rfl) (by kernel_rfl) (fun _ _ _ h => h) (Or.inl ⟨by rfl, fun u _ => ?_⟩) ?_
                  · go_simp
                  try simp only [Act.put, List.setIfInBounds_toArray, List.set_cons_zero, List.set_cons_succ]
                  refine wpAnyL_done (by kernel_rfl) ?_ _
                  try simp only [Act.put, List.setIfInBounds_toArray, List.set_cons_zero, List.set_cons_succ]
                  have HB4 : Hid (Below w5.heap.size w5 x2) := Lib.hid (HBr.out.trans (hj2.mono HBr.out.size))
                  have HL4 := Lib.hid (own_keep HLo.out hj2)
                  have HS4 := Lib.hid (own_keep HSo.out hj2)
                  clear hj2
                  have HCn : Hid (C (j + 1) = C j + 1) := Lib.hid (by rw [HCS.out, HV.out]; rfl)
                  go_wp2
                  go_roundw
                  case rel => exact ⟨j + 1, by omega, by go_num, by rw [HCn.out]; push_cast; rfl, HL4.out, HS4.out, HB4.out⟩
                  case measure => simp [intOf]; omega
            · obtain rfl : j = Q.length := by omega
              have j1 : ¬ (Q.length : Int) < (Q.length : Int) := by omega
              clear hb
              go_wp2_with (at_builtin; refine wpList_append_lies _ rfl _ _ 33 rfl w5.heap.size 3 i0 (.int .i64 0) 1 8 Try.underlying33 hi0 hz0 hz1 hz2 rfl (by decide) _ _ _ rfl (HSo.out.alloc _) ⟨_, 0, none⟩ 1 1 [.int .i64 (C Q.length : Int)] rfl rfl (lit_row _ _ _) (by simp [Value.oneCell']) (by decide) (by unfold maxLen; omega) (by omega) (by rw [World.size_alloc]; have := HBr.out.size; omega) (wr.heap.size + 1) (World.size_alloc ..) ?_; intro gn4 cn4 w4 hown4 hgrow4 hlie4 _; have hB4 : Below w5.heap.size w5 w4 := below_push (w := w5) HBr.out (fun k hk => (HSo.out.lt k hk).1) hgrow4; have hfar4 := own_far (HLo.out.alloc _) hgrow4 (fun k h1 h2 => HA3.out.symm k h1 h2); have hapn4 := OwnApart.new HLo.out HA3.out.symm gn4 _ hlie4 (Nat.le_succ _); have HS4 : Hid (w4.ownsRow w5.heap.size 3 1 (.slice (some ⟨gn4, 0, none⟩) (ST.length + 1) cn4) (ST ++ [(C Q.length : Int)]).length (flat encI (ST ++ [(C Q.length : Int)]))) := Lib.hid (by rw [List.length_append, flatI_snoc]; exact hown4); have HL4 := Lib.hid hfar4; have HA4 := Lib.hid (hapn4 (ST.length + 1) cn4); have HB4 := Lib.hid hB4; have HSN : Hid (SS.take (i + 1) = ST ++ [(C Q.length : Int)]) := Lib.hid (by rw [HSn.out, HASi.out]); clear hown4 hgrow4 hlie4 hB4 hfar4 hapn4)
              go_wp2
              go_roundw
              case rel => exact ⟨i + 1, by omega, by go_num, by rw [HLN.out]; exact HL4.out, by rw [HSN.out]; exact HS4.out, HA4.out, HB4.out⟩
              case measure => simp [intOf]; omega
    · obtain rfl : i = Q.length := by omega
      have i1 : ¬ (Q.length : Int) < (Q.length : Int) := by omega
      rw [List.take_of_length_le (by rw [HLL.out]; exact Nat.le_refl _)] at hs
      rw [List.take_of_length_le (by rw [HSL.out]; exact Nat.le_refl _)] at ht
      obtain ⟨a1, c2, rfl, r1⟩ := RowAt.of_own encI_len hs
      obtain ⟨a2, c3, rfl, r2⟩ := RowAt.of_own encI_len ht
      have HR1 := Lib.hid r1
      have HR2 := Lib.hid r2
      have HEND := Lib.hid (HB0.out.trans ((HJ5.out.trans (hb.mono HJ5.out.size)).mono HB0.out.size))
      clear hs ht hap hb r1 r2
      go_wp2
      go_ret2
      exact ⟨a1, c2, a2, ⟨c3, rfl⟩, HR1.out, HR2.out, HEND.out⟩
end Go.Proofs.Ytndjjafpdiehdaa
