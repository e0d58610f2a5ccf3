/- The law of making again. -/
import Derived.Test.YtjaafneoinidkaaHy
import Derived.Test.YtjaafneoinidkaaHv
namespace Go.Proofs.Ytjaafneoinidkaa
open Go.RowKit Go.Shelf Go.Proofs.Gr
attribute [local go_sem] Oper.semAt_some

theorem flat_set2 (Q : List (Int × Int)) (i : Nat) (h : i < Q.length) (a b : Int) : ((flat encP Q).set (i * 2) (.int .i64 a)).set (i * 2 + 1) (.int .i64 b) = flat encP (Q.set i (a, b)) := by
  induction Q generalizing i with
  | nil => simp at h
  | cons t Q ih =>
    obtain ⟨x, y⟩ := t
    cases i with
    | zero => rfl
    | succ i =>
      rw [List.set_cons_succ, flat_cons, flat_cons, ← ih i (by simpa using h), Nat.succ_mul]
      rfl
set_option maxHeartbeats 12800000 in
set_option maxRecDepth 100000 in
theorem remakes_dark (n : Int) (a : Option Addr) (cap : Nat) (L : List E) (m : Int) (HRI : Hid (∀ w, EsAt w a L → Calls Try.prog 48 #[.agg #[.int .i64 n, .slice a L.length cap]] w (fun e w' => e = .returned (.bool false) ∧ Below w.heap.size w w'))) (HA : Awake) (w : World) (h : EsAt w a L) :
    Calls Try.prog 9 #[gv n a L.length cap, .int .u16 m] w (GivesB w true) := by
  unfold GivesB gv
  obtain ⟨W, hW⟩ : ∃ W, W = w.alloc (Obj.cells #[.int .i64 n, .slice a L.length cap] 24) := ⟨_, rfl⟩
  have hB0 : Below w.heap.size w W := by rw [hW]; exact (Below.refl _ w).alloc (Nat.le_refl _) _
  have hG : Blk W w.heap.size 24 #[.int .i64 n, .slice a L.length cap] := by rw [hW]; exact Blk.new _ _ _
  have HW := Lib.hid hW
  have HB0 := Lib.hid hB0
  have hEz : EsAt W a L := h.keep hB0
  have HF : Hid (∀ x, Below W.heap.size W x → x.cell? ⟨w.heap.size, 0, none⟩ = some (.int .i64 n) ∧ x.cell? ⟨w.heap.size, 1, none⟩ = some (.slice a L.length cap) ∧ EsAt x a L) := Lib.hid fun x hx => ⟨(hG.below hx hG.lt).cell 0, (hG.below hx hG.lt).cell 1, hEz.keep hx⟩
  have hk0 : Below W.heap.size W W := Below.refl _ _
  obtain ⟨g0, g1, -⟩ := HF.out W hk0
  clear hB0 hG hW hEz h
  go_enter Try.func9, Try.ntmps9
  go_wp2_with fail
  rw [← HW.out]
  refine (HRI.out _ (HF.out W hk0).2.2).mono ?_
  rintro e x1 ⟨rfl, hb1⟩
  have hk1 : Below W.heap.size W x1 := hk0.trans (hb1.mono hk0.size)
  clear hb1 hk0 g0 g1
  obtain ⟨g0, g1, -⟩ := HF.out x1 hk1
  go_wp2_with fail
  refine (HA _).mono ?_
  rintro e x2 ⟨rfl, hb2⟩
  have hk2 : Below W.heap.size W x2 := hk1.trans (hb2.mono hk1.size)
  clear hb2 hk1 g0 g1
  obtain ⟨g0, g1, -⟩ := HF.out x2 hk2
  have HEND := Lib.hid (HB0.out.trans (hk2.mono HB0.out.size))
  clear hk2 g0 g1
  go_wp2
  go_ret
  exact ⟨rfl, HEND.out⟩
set_option maxHeartbeats 12800000 in
set_option maxRecDepth 100000 in
theorem remakes_ok (n : Int) (a : Option Addr) (cap : Nat) (L : List E) (m : Int) (P : List (Int × Int)) (hPl : P.length ≤ 100000) (R : List (Int × Int)) (f : Nat → Bool) (F : Nat → List (Int × Int)) (HRI : Hid (∀ w, EsAt w a L → Calls Try.prog 48 #[.agg #[.int .i64 n, .slice a L.length cap]] w (fun e w' => e = .returned (.bool true) ∧ Below w.heap.size w w'))) (HA : Awake) (HEN : Hid (∀ w, EsAt w a L → Calls Try.prog 16 #[.agg #[.int .i64 n, .slice a L.length cap]] w (fun e w' => ∃ b d, e = .returned (.tuple #[.slice b P.length d, .int .i64 0]) ∧ PsAt w' b P ∧ Below w.heap.size w w'))) (HCL : Hid (∀ b c w, PsAt w b P → Calls Try.prog 49 #[.slice b P.length c] w (fun e w' => ∃ v, e = .returned v ∧ w'.ownsRow w.heap.size 37 2 v P.length (flat encP P) ∧ Below w.heap.size w w'))) (HT : Hid (∀ i : Nat, i < P.length → (bits BinOp.and IntKind.u16 (m / 2 ^ (i % 16)) 1 == 1) = f i)) (HF0 : Hid (F 0 = P)) (HFL : Hid (∀ i, (F i).length = P.length)) (HFS : Hid (∀ i, i < P.length → F (i + 1) = if f i = true then (F i).set i (swpP (pAt (F i) i)) else F i)) (HRV : Hid (∀ base sa sc w, w.ownsRow base 37 2 (.slice sa P.length sc) P.length (flat encP (F P.length)) → Calls Try.prog 50 #[.slice sa P.length sc] w (fun e w' => e = .returned (.tuple #[]) ∧ w'.ownsRow base 37 2 (.slice sa P.length sc) P.length (flat encP R) ∧ w.grownBy w' (Value.slice sa P.length sc).ownBlock))) (HRL : Hid (P.length = R.length)) (HMK : Hid (∀ b c w, PsAt w b R → Calls Try.prog 23 #[.int .i64 n, .slice b P.length c] w (fun e w' => ∃ a2 c2, e = .returned (.tuple #[.agg #[.int .i64 n, .slice a2 L.length c2], .int .i64 0]) ∧ EsAt w' a2 L ∧ Below w.heap.size w w'))) (HSM : Hid (∀ a1 a2 c1 c2 w, EsAt w a1 L → EsAt w a2 L → Calls Try.prog 25 #[.agg #[.int .i64 n, .slice a1 L.length c1], .agg #[.int .i64 n, .slice a2 L.length c2]] w (fun e w' => e = .returned (.bool true) ∧ Below w.heap.size w w'))) (w : World) (h : EsAt w a L) :
    Calls Try.prog 9 #[gv n a L.length cap, .int .u16 m] w (GivesB w true) := by
  unfold GivesB gv
  obtain ⟨W, hW⟩ : ∃ W, W = w.alloc (Obj.cells #[.int .i64 n, .slice a L.length cap] 24) := ⟨_, rfl⟩
  have hB0 : Below w.heap.size w W := by rw [hW]; exact (Below.refl _ w).alloc (Nat.le_refl _) _
  have hG : Blk W w.heap.size 24 #[.int .i64 n, .slice a L.length cap] := by rw [hW]; exact Blk.new _ _ _
  have HW := Lib.hid hW
  have HB0 := Lib.hid hB0
  have hEz : EsAt W a L := h.keep hB0
  have HF : Hid (∀ x, Below W.heap.size W x → x.cell? ⟨w.heap.size, 0, none⟩ = some (.int .i64 n) ∧ x.cell? ⟨w.heap.size, 1, none⟩ = some (.slice a L.length cap) ∧ EsAt x a L) := Lib.hid fun x hx => ⟨(hG.below hx hG.lt).cell 0, (hG.below hx hG.lt).cell 1, hEz.keep hx⟩
  have hk0 : Below W.heap.size W W := Below.refl _ _
  obtain ⟨g0, g1, -⟩ := HF.out W hk0
  clear hB0 hG hW hEz h
  go_enter Try.func9, Try.ntmps9
  go_wp2_with fail
  rw [← HW.out]
  refine (HRI.out _ (HF.out W hk0).2.2).mono ?_
  rintro e x1 ⟨rfl, hb1⟩
  have hk1 : Below W.heap.size W x1 := hk0.trans (hb1.mono hk0.size)
  clear hb1 hk0 g0 g1
  obtain ⟨g0, g1, -⟩ := HF.out x1 hk1
  go_wp2_with fail
  refine (HEN.out _ (HF.out x1 hk1).2.2).mono ?_
  rintro e x2 ⟨b3, d3, rfl, hP_2, hb2⟩
  have hk2 : Below W.heap.size W x2 := hk1.trans (hb2.mono hk1.size)
  clear hb2 hk1 g0 g1
  obtain ⟨g0, g1, -⟩ := HF.out x2 hk2
  go_wp2_with fail
  refine (HCL.out b3 d3 x2 hP_2).mono ?_
  rintro e x9 ⟨v9, rfl, hown, hb9⟩
  have hown2 : x9.ownsRow W.heap.size 37 2 v9 P.length (flat encP P) := hown.mono hk2.size
  have hk99 := hk2.trans (hb9.mono hk2.size)
  obtain ⟨sa, sc, rfl, -⟩ := of_own_len encP_len hown2 rfl
  have HO0 := Lib.hid hown2
  have HB9 := Lib.hid hk99
  clear hb9 hk2 g0 g1 hown hown2 hk99 hP_2
  go_wp2
  go_loopw [24] (fun x wr => ∃ i : Nat, i ≤ P.length ∧ x = .int .i64 i ∧ wr.ownsRow W.heap.size 37 2 (.slice sa P.length sc) P.length (flat encP (F i)) ∧ Below W.heap.size W wr) (fun x _ => P.length - (intOf x).toNat)
  case atStart => exact ⟨0, by omega, rfl, by rw [HF0.out]; exact HO0.out, HB9.out⟩
  case round =>
    obtain ⟨i, hi, rfl, hown, hb⟩ := hrel
    by_cases hlt : i < P.length
    · have i1 : (i : Int) < (P.length : Int) := by omega
      have i2 : (0 : Int) ≤ (i : Int) := by omega
      have hTt := HT.out i hlt
      have hFL := HFL.out i
      have HFN := Lib.hid (HFS.out i hlt)
      generalize F i = Q at *
      obtain ⟨g, c9, hv⟩ := own_pos hown (by omega)
      injection hv with e1 e2 e3
      subst e1 e3
      have hg1 := (hown.lt g rfl).1
      have hg2 := (hown.lt g rfl).2
      obtain ⟨ta, htA⟩ : ∃ t, t = (pAt Q i).1 := ⟨_, rfl⟩
      obtain ⟨tb, htB⟩ : ∃ t, t = (pAt Q i).2 := ⟨_, rfl⟩
      have hQi : Q[i]'(by omega) = (ta, tb) := by rw [htA, htB, pAt_get Q i (by omega)]
      have x1 : wr.cell? ⟨g, i * 2, none⟩ = some (.int .i64 ta) := by
        have := hown.cellAt (i * 2) (by omega)
        have h2 := flat_at (k := 2) (enc := encP) encP_len Q i 0 (by omega) (by decide)
        rw [Nat.add_zero] at h2
        rw [this, h2, hQi]; rfl
      have x2 : wr.cell? ⟨g, i * 2 + 1, none⟩ = some (.int .i64 tb) := by
        have := hown.cellAt (i * 2 + 1) (by omega)
        have h2 := flat_at (k := 2) (enc := encP) encP_len Q i 1 (by omega) (by decide)
        rw [this, h2, hQi]; rfl
      have own2 := (hown.stored (i * 2) (.int .i64 tb)).1
      have own3 := (own2.stored (i * 2 + 1) (.int .i64 ta)).1
      rw [flat_set2 Q i (by omega)] at own3
      have y2 : wr.frozen? ⟨g, i * 2, none⟩ = false := hown.frozenAt _
      have y4 : wr.frozen? ⟨g, i * 2 + 1, none⟩ = false := hown.frozenAt _
      have HBN : Hid (Below W.heap.size W ((wr.setCell ⟨g, i * 2, none⟩ (.int .i64 tb)).setCell ⟨g, i * 2 + 1, none⟩ (.int .i64 ta)).drew) := Lib.hid ((hb.setCell (p := ⟨g, i * 2, none⟩) hg1 _).setCell (p := ⟨g, i * 2 + 1, none⟩) hg1 _).drew
      have HON : Hid (((wr.setCell ⟨g, i * 2, none⟩ (.int .i64 tb)).setCell ⟨g, i * 2 + 1, none⟩ (.int .i64 ta)).drew.ownsRow W.heap.size 37 2 (.slice (some ⟨g, 0, none⟩) P.length sc) P.length (flat encP (Q.set i (tb, ta)))) := Lib.hid own3
      have HOW := Lib.hid hown
      have HBr := Lib.hid hb
      have HS : Hid (∀ u, Below wr.heap.size wr u → u.cell? ⟨g, i * 2, none⟩ = some (.int .i64 ta) ∧ u.cell? ⟨g, i * 2 + 1, none⟩ = some (.int .i64 tb)) := Lib.hid fun u hu => ⟨(hu.cell (p := ⟨g, i * 2, none⟩) hg2).trans x1, (hu.cell (p := ⟨g, i * 2 + 1, none⟩) hg2).trans x2⟩
      have hk2 : Below wr.heap.size wr wr.drew := (Below.refl _ _).drew
      have HQs : Hid ((tb, ta) = swpP (pAt Q i)) := Lib.hid (by rw [htA, htB]; rfl)
      clear own2 own3 hown hb hQi htA htB
      cases hf : f i
      · rw [hf] at hTt HFN
        have HF2 : Hid (F (i + 1) = Q) := Lib.hid (by have := HFN.out; simpa using this)
        clear hf y2 y4 x1 x2 HS hk2
        go_wp2
        go_roundw
        case rel => exact ⟨i + 1, by omega, by go_num, by rw [HF2.out]; exact HOW.out, HBr.out⟩
        case measure => simp [intOf]; omega
      · rw [hf] at hTt HFN
        have HF2 : Hid (F (i + 1) = Q.set i (tb, ta)) := Lib.hid (by have := HFN.out; rw [HQs.out]; simpa using this)
        clear hf
        go_wp2
        refine wp_region_late (S := fun u => Below wr.heap.size wr u) (X := [14]) (by kernel_rfl) ?_
        refine wpAnyL_pureD (i := 0) 33 (.slice (some ⟨g, 0, none⟩) P.length sc) rfl rfl (by kernel_rfl) (by kernel_rfl) (by kernel_rfl) (fun _ _ _ h => h) (Or.inl ⟨by rfl, fun u _ => ?_⟩) ?_
        · go_simp
        try simp only [Act.put, List.setIfInBounds_toArray, List.set_cons_zero, List.set_cons_succ]
        refine wpAnyL_pureD (i := 1) 34 (.int .i64 (i : Int)) rfl rfl (by kernel_rfl) (by kernel_rfl) (by kernel_rfl) (fun _ _ _ h => h) (Or.inl ⟨by rfl, fun u _ => ?_⟩) ?_
        · go_simp
        try simp only [Act.put, List.setIfInBounds_toArray, List.set_cons_zero, List.set_cons_succ]
        refine wpAnyL_pureD (i := 2) 35 (.slice (some ⟨g, 0, none⟩) P.length sc) rfl rfl (by kernel_rfl) (by kernel_rfl) (by kernel_rfl) (fun _ _ _ h => h) (Or.inl ⟨by rfl, fun u _ => ?_⟩) ?_
        · go_simp
        try simp only [Act.put, List.setIfInBounds_toArray, List.set_cons_zero, List.set_cons_succ]
        refine wpAnyL_pureD (i := 3) 36 (.int .i64 (i : Int)) rfl rfl (by kernel_rfl) (by kernel_rfl) (by kernel_rfl) (fun _ _ _ h => h) (Or.inl ⟨by rfl, fun u _ => ?_⟩) ?_
        · go_simp
        try simp only [Act.put, List.setIfInBounds_toArray, List.set_cons_zero, List.set_cons_succ]
        refine wpAnyL_pureD (i := 4) 37 (.pointer (some ⟨g, i * 2, none⟩)) rfl rfl (by kernel_rfl) (by kernel_rfl) (by kernel_rfl) (fun _ _ _ h => h) (Or.inl ⟨by rfl, fun u _ => ?_⟩) ?_
        · go_simp
        try simp only [Act.put, List.setIfInBounds_toArray, List.set_cons_zero, List.set_cons_succ]
        refine wpAnyL_pureD (i := 5) 38 (.pointer (some ⟨g, i * 2 + 1, none⟩)) rfl rfl (by kernel_rfl) (by kernel_rfl) (by kernel_rfl) (fun _ _ _ h => h) (Or.inl ⟨by rfl, fun u _ => ?_⟩) ?_
        · go_simp
        try simp only [Act.put, List.setIfInBounds_toArray, List.set_cons_zero, List.set_cons_succ]
        refine wpAnyL_takeD (i := 6) 39 (.int .i64 tb) rfl rfl (by kernel_rfl) (by kernel_rfl) (by kernel_rfl) (by kernel_rfl) (by kernel_rfl) (fun _ _ _ h => h) hk2 (Or.inl ⟨by rfl, fun u hu => ?_⟩) ?_
        · obtain ⟨t0, t1⟩ := HS.out u hu
          go_simp
        try simp only [Act.put, List.setIfInBounds_toArray, List.set_cons_zero, List.set_cons_succ]
        refine wpAnyL_pureD (i := 7) 40 (.slice (some ⟨g, 0, none⟩) P.length sc) rfl rfl (by kernel_rfl) (by kernel_rfl) (by kernel_rfl) (fun _ _ _ h => h) (Or.inl ⟨by rfl, fun u _ => ?_⟩) ?_
        · go_simp
        try simp only [Act.put, List.setIfInBounds_toArray, List.set_cons_zero, List.set_cons_succ]
        refine wpAnyL_pureD (i := 8) 41 (.int .i64 (i : Int)) rfl rfl (by kernel_rfl) (by kernel_rfl) (by kernel_rfl) (fun _ _ _ h => h) (Or.inl ⟨by rfl, fun u _ => ?_⟩) ?_
        · go_simp
        try simp only [Act.put, List.setIfInBounds_toArray, List.set_cons_zero, List.set_cons_succ]
        refine wpAnyL_pureD (i := 9) 42 (.pointer (some ⟨g, i * 2, none⟩)) rfl rfl (by kernel_rfl) (by kernel_rfl) (by kernel_rfl) (fun _ _ _ h => h) (Or.inl ⟨by rfl, fun u _ => ?_⟩) ?_
        · go_simp
        try simp only [Act.put, List.setIfInBounds_toArray, List.set_cons_zero, List.set_cons_succ]
        refine wpAnyL_pureD (i := 10) 43 (.pointer (some ⟨g, i * 2, none⟩)) rfl rfl (by kernel_rfl) (by kernel_rfl) (by kernel_rfl) (fun _ _ _ h => h) (Or.inl ⟨by rfl, fun u _ => ?_⟩) ?_
        · go_simp
        try simp only [Act.put, List.setIfInBounds_toArray, List.set_cons_zero, List.set_cons_succ]
        refine wpAnyL_takeD (i := 11) 44 (.int .i64 ta) rfl rfl (by kernel_rfl) (by kernel_rfl) (by kernel_rfl) (by kernel_rfl) (by kernel_rfl) (fun _ _ _ h => h) hk2 (Or.inl ⟨by rfl, fun u hu => ?_⟩) ?_
        · obtain ⟨t0, t1⟩ := HS.out u hu
          go_simp
        try simp only [Act.put, List.setIfInBounds_toArray, List.set_cons_zero, List.set_cons_succ]
        refine wpAnyL_pureD (i := 12) 45 (.agg #[.int .i64 tb, .int .i64 ta]) rfl rfl (by kernel_rfl) (by kernel_rfl) (by kernel_rfl) (fun _ _ _ h => h) (Or.inl ⟨by rfl, fun u _ => ?_⟩) ?_
        · go_simp
        try simp only [Act.put, List.setIfInBounds_toArray, List.set_cons_zero, List.set_cons_succ]
        refine wpAnyL_pureD (i := 13) 46 (.pointer (some ⟨g, i * 2, none⟩)) rfl rfl (by kernel_rfl) (by kernel_rfl) (by kernel_rfl) (fun _ _ _ h => h) (Or.inl ⟨by rfl, fun u _ => ?_⟩) ?_
        · go_simp
        try simp only [Act.put, List.setIfInBounds_toArray, List.set_cons_zero, List.set_cons_succ]
        refine wpAnyL_one (i := 14) (by kernel_rfl) rfl (fun K hK => ?_)
        go_simp
        refine hK.out _ _ (fun h => absurd (by decide) h) ?_
        clear hK K
        refine wpAnyL_done (by kernel_rfl) ?_ _
        go_wp2
        go_roundw
        case rel => exact ⟨i + 1, by omega, by go_num, by rw [HF2.out]; exact HON.out, HBN.out⟩
        case measure => simp [intOf]; omega
    · obtain rfl : i = P.length := by omega
      have HRV1 := HRV.out _ _ _ _ hown
      have HLT := Lib.hid (fun k hk => (hown.lt k hk).1)
      have hk999 : Below W.heap.size W wr := hb
      clear hown hb
      have hk999 := hk999
      obtain ⟨g0, g1, -⟩ := HF.out wr hk999
      clear hk999
      go_wp2_with fail
      refine HRV1.mono ?_
      rintro e x8 ⟨rfl, hown8, hgr⟩
      have hk1000 : Below W.heap.size W x8 := hk999.grown hgr hk999.size (fun k hk => HLT.out k hk)
      obtain ⟨sa', sc', e8, hr8⟩ := of_own_len encP_len hown8 HRL.out
      injection e8 with e81 _ e83
      subst e81 e83
      have hR_0 : PsAt x8 sa R := hr8
      clear hown8 hgr hr8 hk999 g0 g1
      obtain ⟨g0, g1, -⟩ := HF.out x8 hk1000
      go_wp2_with fail
      refine (HMK.out sa sc _ hR_0).mono ?_
      rintro e x1001 ⟨a7, c7, rfl, hJ_1001, hb1001⟩
      have hk1001 : Below W.heap.size W x1001 := hk1000.trans (hb1001.mono hk1000.size)
      have hR_1001 := hR_0.keep hb1001
      clear hb1001 hk1000 g0 g1 hR_0
      obtain ⟨g0, g1, -⟩ := HF.out x1001 hk1001
      obtain ⟨Y1, hY1⟩ : ∃ Y, Y = x1001.alloc (Obj.cells #[.int .i64 n, .slice a7 L.length c7] 24) := ⟨_, rfl⟩
      have hy : Below x1001.heap.size x1001 Y1 := by rw [hY1]; exact (Below.refl _ _).alloc (Nat.le_refl _) _
      have hz : Below W.heap.size W Y1 := hk1001.trans (hy.mono hk1001.size)
      have hQ : Blk Y1 x1001.heap.size 24 #[.int .i64 n, .slice a7 L.length c7] := by rw [hY1]; exact Blk.new _ _ _
      have HBY1 : Hid (Below w.heap.size w Y1) := Lib.hid (HB0.out.trans (hz.mono HB0.out.size))
      have HFY1 : Hid (∀ x, Below Y1.heap.size Y1 x → x.cell? ⟨w.heap.size, 0, none⟩ = some (.int .i64 n) ∧ x.cell? ⟨w.heap.size, 1, none⟩ = some (.slice a L.length cap) ∧ x.cell? ⟨x1001.heap.size, 0, none⟩ = some (.int .i64 n) ∧ x.cell? ⟨x1001.heap.size, 1, none⟩ = some (.slice a7 L.length c7) ∧ EsAt x a L ∧ PsAt x sa R ∧ EsAt x a7 L) := Lib.hid fun x hx => ⟨(HF.out x (hz.trans (hx.mono hz.size))).1, (HF.out x (hz.trans (hx.mono hz.size))).2.1, (hQ.below hx hQ.lt).cell 0, (hQ.below hx hQ.lt).cell 1, (HF.out x (hz.trans (hx.mono hz.size))).2.2, (hR_1001.keep hy).keep hx, (hJ_1001.keep hy).keep hx⟩
      clear g0 g1 hk1001 hz hQ hy hR_1001 hJ_1001
      have hk1002 : Below Y1.heap.size Y1 Y1 := Below.refl _ _
      have g0 : (x1001.alloc (Obj.cells #[.int .i64 n, .slice a7 L.length c7] 24)).cell? ⟨w.heap.size, 0, none⟩ = some (.int .i64 n) := by rw [← hY1]; exact (HFY1.out _ hk1002).1
      have g1 : (x1001.alloc (Obj.cells #[.int .i64 n, .slice a7 L.length c7] 24)).cell? ⟨w.heap.size, 1, none⟩ = some (.slice a L.length cap) := by rw [← hY1]; exact (HFY1.out _ hk1002).2.1
      have g2 : (x1001.alloc (Obj.cells #[.int .i64 n, .slice a7 L.length c7] 24)).cell? ⟨x1001.heap.size, 0, none⟩ = some (.int .i64 n) := by rw [← hY1]; exact (HFY1.out _ hk1002).2.2.1
      have g3 : (x1001.alloc (Obj.cells #[.int .i64 n, .slice a7 L.length c7] 24)).cell? ⟨x1001.heap.size, 1, none⟩ = some (.slice a7 L.length c7) := by rw [← hY1]; exact (HFY1.out _ hk1002).2.2.2.1
      have HY1 := Lib.hid hY1
      clear hY1
      go_wp2_with fail
      rw [← HY1.out]
      refine (HSM.out _ _ _ _ _ (HFY1.out Y1 hk1002).2.2.2.2.1 (HFY1.out Y1 hk1002).2.2.2.2.2.2).mono ?_
      rintro e x1003 ⟨rfl, hb1003⟩
      have hk1003 : Below Y1.heap.size Y1 x1003 := hk1002.trans (hb1003.mono hk1002.size)
      clear hb1003 hk1002 g0 g1 g2 g3
      obtain ⟨g0, g1, g2, g3, -⟩ := HFY1.out x1003 hk1003
      go_wp2_with fail
      refine (HA _).mono ?_
      rintro e x1004 ⟨rfl, hb1004⟩
      have hk1004 : Below Y1.heap.size Y1 x1004 := hk1003.trans (hb1004.mono hk1003.size)
      clear hb1004 hk1003 g0 g1 g2 g3
      obtain ⟨g0, g1, g2, g3, -⟩ := HFY1.out x1004 hk1004
      have HEND := Lib.hid (HBY1.out.trans (hk1004.mono HBY1.out.size))
      clear hk1004 g0 g1 g2 g3
      go_wp2
      go_ret
      exact ⟨rfl, HEND.out⟩
theorem remakes_any (n : Int) (a : Option Addr) (cap : Nat) (L : List E) (m : Int) (w : World) (h : EsAt w a L) :
    Calls Try.prog 9 #[gv n a L.length cap, .int .u16 m] w (GivesB w true) := by
  cases hr : rightG n L with
  | false => exact remakes_dark n a cap L m (Lib.hid fun w h => by have := right_any n a cap L w h; rw [hr] at this; exact this) awake_any w h
  | true =>
    have hl : lightG n L = true := by unfold rightG at hr; exact (Bool.and_eq_true_iff.1 hr).1
    have hk : chkG n L = 0 := by unfold rightG at hr; exact of_decide_eq_true (Bool.and_eq_true_iff.1 hr).2
    have hlen := light_len hl
    have HRI : Hid (∀ w, EsAt w a L → Calls Try.prog 48 #[.agg #[.int .i64 n, .slice a L.length cap]] w (fun e w' => e = .returned (.bool true) ∧ Below w.heap.size w w')) := Lib.hid fun w h => by have := right_any n a cap L w h; rw [hr] at this; exact this
    obtain ⟨N, rfl, h1, h2⟩ := nat_of_chk hk
    have hR := right_of hk
    have hPl : (endsG L).length ≤ 2000 := by have := ends_all hR; omega
    obtain ⟨f, hf⟩ : ∃ f : Nat → Bool, f = fun i => (bits BinOp.and IntKind.u16 (m / 2 ^ (i % 16)) 1 == 1) := ⟨_, rfl⟩
    obtain ⟨Q, hQ⟩ : ∃ Q, Q = Fl (endsG L) f (endsG L).length := ⟨_, rfl⟩
    have hql : Q.length = (endsG L).length := by rw [hQ, Fl_len]
    have hrl : (endsG L).length = Q.reverse.length := by rw [List.length_reverse, hql]
    refine remakes_ok (N : Int) a cap L m (endsG L) (by omega) Q.reverse f (Fl (endsG L) f) HRI awake_any ?_ ?_ ?_ (Lib.hid (Fl_zero _ _)) (Lib.hid fun i => Fl_len _ _ _) ?_ ?_ (Lib.hid hrl) ?_ ?_ w h
    · exact Lib.hid fun w h => by have := pends_any (N : Int) a cap L (by omega) w h; rw [hk, if_pos rfl] at this; exact this
    · exact Lib.hid fun b c w hp => pclone_any b c (endsG L) (by omega) w hp
    · exact Lib.hid fun i _ => by rw [hf]
    · refine Lib.hid fun i _ => ?_
      by_cases e : f i = true
      · rw [if_pos e]; exact Fl_set _ _ _ e
      · rw [if_neg e]; exact Fl_skip _ _ _ (by simpa using e)
    · refine Lib.hid ?_
      rw [← hQ, ← hql]
      intro base sa sc w hown
      exact preverse_any base sa sc Q (by omega) w hown
    · refine Lib.hid ?_
      rw [hrl]
      intro b c w hp
      refine (pmake_ok N (by omega) (by omega) b c Q.reverse (by omega) w hp).mono ?_
      rintro e w' ⟨k, hg, ⟨rfl, j, hj, hkk⟩ | ⟨rfl, -, x, y, hx, hy, hz⟩ | ⟨rfl, -, -⟩⟩
      · subst hQ
        exact absurd (remake_err hR.rng f j hj) hkk
      · subst hQ
        rw [remake_cnt hR f x y] at hz
        have := bet_max hR (x : Int) y
        omega
      · subst hQ
        rw [remake_join hR f] at hg
        obtain ⟨a2, c2, e1, e2, _, e4⟩ := hg
        exact ⟨a2, c2, e1, e2, e4⟩
    · exact Lib.hid fun a1 a2 c1 c2 w h1 h2 => same_any (N : Int) a1 a2 c1 c2 L w (by omega) h1 h2
end Go.Proofs.Ytjaafneoinidkaa
