/- Right graphs with orientations; lists of bools that are equal. -/
import Derived.Test.YtlnaahkheankoaaQ13
import Derived.Test.YtlnaahkheankoaaQ09
namespace Go.Proofs.Ytlnaahkheankoaa
open Go.RowKit Go.Shelf Go.Proofs.Gr
attribute [local go_sem] Oper.semAt_some

set_option maxHeartbeats 12800000 in
set_option maxRecDepth 100000 in
theorem pequalB_true (a b : Option Addr) (c d : Nat) (D : List Bool) (hD : D.length ≤ 100000) (w : World) (h1 : BsAt w a D) (h2 : BsAt w b D) :
    Calls Try.prog 44 #[.slice a D.length c, .slice b D.length d] w (fun e w' => e = .returned (.bool true) ∧ Below w.heap.size w w') := by
  have d1 : ((D.length : Int) != (D.length : Int)) = false := by simp
  have H1 := Lib.hid h1
  have H2 := Lib.hid h2
  clear h1 h2
  go_enter Try.func44, Try.ntmps44
  go_wp2
  go_loopw [13] (fun x wr => ∃ i : Nat, i ≤ D.length ∧ x = .int .i64 i ∧ Below w.heap.size w wr) (fun x _ => D.length - (intOf x).toNat)
  case atStart => exact ⟨0, by omega, rfl, Below.refl _ _⟩
  case round =>
    obtain ⟨i, hi, rfl, hb⟩ := hrel
    by_cases hlt : i < D.length
    · have i1 : (i : Int) < (D.length : Int) := by omega
      have i2 : (0 : Int) ≤ (i : Int) := by omega
      obtain ⟨b1, o1, hb1, q1, x1⟩ := (H1.out.keep hb).bit i hlt
      obtain ⟨b2, o2, hb2, q2, x2⟩ := (H2.out.keep hb).bit i hlt
      subst hb1 hb2
      have HXY : Hid (∀ u, Below wr.heap.size wr u → u.cell? ⟨b1, o1 + i, none⟩ = some (.bool (bAt D i)) ∧ u.cell? ⟨b2, o2 + i, none⟩ = some (.bool (bAt D i))) := Lib.hid fun u hu => by
        obtain ⟨b3, o3, e1, -, y1⟩ := (H1.out.keep (hb.trans (hu.mono hb.size))).bit i hlt
        obtain ⟨b4, o4, e2, -, y2⟩ := (H2.out.keep (hb.trans (hu.mono hb.size))).bit i hlt
        injection e1 with e1; injection e1 with e3 e4
        injection e2 with e2; injection e2 with e5 e6
        subst e3 e4 e5 e6
        exact ⟨y1, y2⟩
      have HBr := Lib.hid hb
      clear hb x1 x2
      generalize bAt D i = z at *
      have d2 : (z != z) = false := by simp
      go_wp2
      have hj0 : Below wr.heap.size wr wr.drew := (Below.refl _ _).drew
      refine wp_region_late (S := fun u => Below wr.heap.size wr u) (X := []) (by kernel_rfl) ?_
      refine wpAnyL_pureD (i := 0) 16 (.slice (some ⟨b1, o1, none⟩) D.length c) rfl rfl (by kernel_rfl) (by kernel_rfl) (by kernel_rfl) (fun _ _ _ h => h) (Or.inl ⟨by rfl, fun u _ => ?_⟩) ?_
      · go_simp
      try simp only [Act.put, List.setIfInBounds_toArray, List.set_cons_zero, List.set_cons_succ]
      refine wpAnyL_pureD (i := 1) 17 (.int .i64 i) rfl rfl (by kernel_rfl) (by kernel_rfl) (by kernel_rfl) (fun _ _ _ h => h) (Or.inl ⟨by rfl, fun u _ => ?_⟩) ?_
      · go_simp
      try simp only [Act.put, List.setIfInBounds_toArray, List.set_cons_zero, List.set_cons_succ]
      refine wpAnyL_pureD (i := 2) 18 (.pointer (some ⟨b1, o1 + i, none⟩)) rfl rfl (by kernel_rfl) (by kernel_rfl) (by kernel_rfl) (fun _ _ _ h => h) (Or.inl ⟨by rfl, fun u _ => ?_⟩) ?_
      · go_simp
      try simp only [Act.put, List.setIfInBounds_toArray, List.set_cons_zero, List.set_cons_succ]
      refine wpAnyL_takeD (i := 3) 19 (.bool z) rfl rfl (by kernel_rfl) (by kernel_rfl) (by kernel_rfl) (by kernel_rfl) (by kernel_rfl) (fun _ _ _ h => h) hj0 (Or.inl ⟨by rfl, fun u hu => ?_⟩) ?_
      · obtain ⟨t0, t1⟩ := HXY.out u hu
        go_simp
      try simp only [Act.put, List.setIfInBounds_toArray, List.set_cons_zero, List.set_cons_succ]
      refine wpAnyL_pureD (i := 4) 20 (.slice (some ⟨b2, o2, none⟩) D.length d) rfl rfl (by kernel_rfl) (by kernel_rfl) (by kernel_rfl) (fun _ _ _ h => h) (Or.inl ⟨by rfl, fun u _ => ?_⟩) ?_
      · go_simp
      try simp only [Act.put, List.setIfInBounds_toArray, List.set_cons_zero, List.set_cons_succ]
      refine wpAnyL_pureD (i := 5) 21 (.int .i64 i) rfl rfl (by kernel_rfl) (by kernel_rfl) (by kernel_rfl) (fun _ _ _ h => h) (Or.inl ⟨by rfl, fun u _ => ?_⟩) ?_
      · go_simp
      try simp only [Act.put, List.setIfInBounds_toArray, List.set_cons_zero, List.set_cons_succ]
      refine wpAnyL_pureD (i := 6) 22 (.pointer (some ⟨b2, o2 + i, none⟩)) rfl rfl (by kernel_rfl) (by kernel_rfl) (by kernel_rfl) (fun _ _ _ h => h) (Or.inl ⟨by rfl, fun u _ => ?_⟩) ?_
      · go_simp
      try simp only [Act.put, List.setIfInBounds_toArray, List.set_cons_zero, List.set_cons_succ]
      refine wpAnyL_takeD (i := 7) 23 (.bool z) rfl rfl (by kernel_rfl) (by kernel_rfl) (by kernel_rfl) (by kernel_rfl) (by kernel_rfl) (fun _ _ _ h => h) hj0 (Or.inl ⟨by rfl, fun u hu => ?_⟩) ?_
      · obtain ⟨t0, t1⟩ := HXY.out u hu
        go_simp
      try simp only [Act.put, List.setIfInBounds_toArray, List.set_cons_zero, List.set_cons_succ]
      refine wpAnyL_pureD (i := 8) 24 (.bool false) rfl rfl (by kernel_rfl) (by kernel_rfl) (by kernel_rfl) (fun _ _ _ h => h) (Or.inl ⟨by rfl, fun u _ => ?_⟩) ?_
      · go_simp
      try simp only [Act.put, List.setIfInBounds_toArray, List.set_cons_zero, List.set_cons_succ]
      refine wpAnyL_done (by kernel_rfl) ?_ _
      try simp only [Act.put, List.setIfInBounds_toArray, List.set_cons_zero, List.set_cons_succ]
      have HBN := Lib.hid (HBr.out.trans (hj0.mono HBr.out.size))
      clear hj0
      go_wp2
      go_roundw
      case rel => exact ⟨i + 1, by omega, by go_num, HBN.out⟩
      case measure => simp [intOf]; omega
    · obtain rfl : i = D.length := by omega
      have i1 : ¬ (D.length : Int) < (D.length : Int) := by omega
      have HEND := Lib.hid hb
      clear hb
      go_wp2
      go_ret
      exact ⟨rfl, HEND.out⟩
set_option maxHeartbeats 12800000 in
set_option maxRecDepth 100000 in
theorem rcheckO_all (n : Int) (a : Option Addr) (cap : Nat) (L : List E) (hL : L.length ≤ 100000) (b : Option Addr) (c : Nat) (O : List Bool) (w : World) (h : EsAt w a L) (ho : BsAt w b O) :
    Calls Try.prog 21 #[gv n a L.length cap, .slice b O.length c] w (GivesN w (chkO n L O : Nat)) := by
  have HC := Lib.hid (fun w h => rcheck_any n a cap L (by omega) w h)
  have HSZ : Hid (chkG n L = 0 → ∀ w, EsAt w a L → Calls Try.prog 26 #[gv n a L.length cap] w (GivesN w (sizeG L))) := Lib.hid fun hz w h => rsize_any n a cap L hL (right_of hz) w h
  have HK : Hid (chkO n L O = if chkG n L ≠ 0 then chkG n L else if (O.length : Int) = sizeG L then 0 else 8) := Lib.hid rfl
  unfold GivesN gv at *
  generalize chkO n L O = R at *
  generalize chkG n L = k at *
  generalize sizeG L = S at *
  obtain ⟨W, hW⟩ : ∃ W, W = w.alloc (Obj.cells #[.int .i64 n, .slice a L.length cap] 24) := ⟨_, rfl⟩
  have hB0 : Below w.heap.size w W := by rw [hW]; exact (Below.refl _ w).alloc (Nat.le_refl _) _
  have hG : Blk W w.heap.size 24 #[.int .i64 n, .slice a L.length cap] := by rw [hW]; exact Blk.new _ _ _
  have hWs : W.heap.size = w.heap.size + 1 := by rw [hW]; simp
  have HW := Lib.hid hW
  have HWS := Lib.hid hWs
  have HB0 := Lib.hid hB0
  have HE := Lib.hid (h.keep hB0)
  have HF : Hid (∀ u, Below W.heap.size W u → u.cell? ⟨w.heap.size, 0, none⟩ = some (.int .i64 n) ∧ u.cell? ⟨w.heap.size, 1, none⟩ = some (.slice a L.length cap)) := Lib.hid fun u hu => ⟨(hG.below hu hG.lt).cell 0, (hG.below hu hG.lt).cell 1⟩
  obtain ⟨g0, g1⟩ := HF.out W (Below.refl _ _)
  have HO := Lib.hid (ho.keep hB0)
  clear ho hB0 hG hW hWs h
  go_enter Try.func21, Try.ntmps21
  go_wp2_with fail
  rw [← HW.out]
  refine (HC.out _ HE.out).mono ?_
  rintro e w1 ⟨rfl, hb⟩
  by_cases hk : k ≠ 0
  · have q0 : (((k : Nat) : Int) != 0) = true := by rw [bne_iff_ne]; omega
    have HR : Hid (R = k) := Lib.hid (by rw [HK.out, if_pos hk])
    have HEND := Lib.hid (HB0.out.trans (hb.mono HB0.out.size))
    clear hk g0 g1 hb
    go_wp2
    go_ret
    exact ⟨by rw [HR.out]; rfl, HEND.out⟩
  · have hk0 : k = 0 := by omega
    have HSZ2 := Lib.hid (HSZ.out hk0)
    subst hk0
    clear g0 g1 hk
    obtain ⟨g0, g1⟩ := HF.out w1 hb
    have HE1 := Lib.hid (HE.out.keep hb)
    have HBE := Lib.hid (HB0.out.trans (hb.mono HB0.out.size))
    clear hb
    go_wp2_with fail
    refine (HSZ2.out _ HE1.out).mono ?_
    rintro e w2 ⟨rfl, hb2⟩
    have HEND := Lib.hid (HBE.out.trans (hb2.mono HBE.out.size))
    clear hb2 g0 g1
    by_cases hs : (O.length : Int) = S
    · have d2 : ((O.length : Int) != S) = false := by rw [bne_eq_false_iff_eq]; exact hs
      have HR : Hid (R = 0) := Lib.hid (by rw [HK.out, if_neg (by omega), if_pos hs])
      clear hs
      go_wp2
      go_ret
      exact ⟨by rw [HR.out]; rfl, HEND.out⟩
    · have d2 : ((O.length : Int) != S) = true := by rw [bne_iff_ne]; exact hs
      have HR : Hid (R = 8) := Lib.hid (by rw [HK.out, if_neg (by omega), if_neg hs])
      clear hs
      go_wp2
      go_ret
      exact ⟨by rw [HR.out]; rfl, HEND.out⟩
def rightO (n : Int) (L : List E) (O : List Bool) : Bool := fewG n L && decide (chkO n L O = 0)
set_option maxHeartbeats 12800000 in
set_option maxRecDepth 100000 in
theorem right_few (n : Int) (a : Option Addr) (cap : Nat) (L : List E) (b : Option Addr) (c : Nat) (O : List Bool)  (HFW : Hid (∀ w, EsAt w a L → Calls Try.prog 12 #[.agg #[.int .i64 n, .slice a L.length cap]] w (fun e w' => e = .returned (.bool false) ∧ Below w.heap.size w w'))) (w : World) (h : EsAt w a L) (ho : BsAt w b O) :
    Calls Try.prog 43 #[gv n a L.length cap, .slice b O.length c] w (GivesB w false) := by
  unfold GivesB gv
  obtain ⟨W, hW⟩ : ∃ W, W = w.alloc (Obj.cells #[.int .i64 n, .slice a L.length cap] 24) := ⟨_, rfl⟩
  have hB0 : Below w.heap.size w W := by rw [hW]; exact (Below.refl _ w).alloc (Nat.le_refl _) _
  have hG : Blk W w.heap.size 24 #[.int .i64 n, .slice a L.length cap] := by rw [hW]; exact Blk.new _ _ _
  have HW := Lib.hid hW
  have HB0 := Lib.hid hB0
  have hEz : EsAt W a L := h.keep hB0
  have hOz : BsAt W b O := ho.keep hB0
  have HF : Hid (∀ x, Below W.heap.size W x → x.cell? ⟨w.heap.size, 0, none⟩ = some (.int .i64 n) ∧ x.cell? ⟨w.heap.size, 1, none⟩ = some (.slice a L.length cap) ∧ EsAt x a L ∧ BsAt x b O) := Lib.hid fun x hx => ⟨(hG.below hx hG.lt).cell 0, (hG.below hx hG.lt).cell 1, hEz.keep hx, hOz.keep hx⟩
  have hk0 : Below W.heap.size W W := Below.refl _ _
  obtain ⟨g0, g1, -⟩ := HF.out W hk0
  clear hB0 hG hW hEz h hOz ho
  go_enter Try.func43, Try.ntmps43
  go_wp2_with fail
  rw [← HW.out]
  refine (HFW.out _ (HF.out W hk0).2.2.1).mono ?_
  rintro e x1 ⟨rfl, hb1⟩
  have hk1 : Below W.heap.size W x1 := hk0.trans (hb1.mono hk0.size)
  clear hb1 hk0 g0 g1
  obtain ⟨g0, g1, -⟩ := HF.out x1 hk1
  have HEND := Lib.hid (HB0.out.trans (hk1.mono HB0.out.size))
  clear hk1 g0 g1
  go_wp2
  go_ret
  exact ⟨rfl, HEND.out⟩
set_option maxHeartbeats 12800000 in
set_option maxRecDepth 100000 in
theorem right_err (n : Int) (a : Option Addr) (cap : Nat) (L : List E) (b : Option Addr) (c : Nat) (O : List Bool) (k : Nat) (hk : k ≠ 0) (HFW : Hid (∀ w, EsAt w a L → Calls Try.prog 12 #[.agg #[.int .i64 n, .slice a L.length cap]] w (fun e w' => e = .returned (.bool true) ∧ Below w.heap.size w w'))) (HCR : Hid (∀ w, EsAt w a L → BsAt w b O → Calls Try.prog 21 #[.agg #[.int .i64 n, .slice a L.length cap], .slice b O.length c] w (fun e w' => e = .returned (.int .i64 ((k : Nat) : Int)) ∧ Below w.heap.size w w'))) (w : World) (h : EsAt w a L) (ho : BsAt w b O) :
    Calls Try.prog 43 #[gv n a L.length cap, .slice b O.length c] w (GivesB w false) := by
  unfold GivesB gv
  obtain ⟨W, hW⟩ : ∃ W, W = w.alloc (Obj.cells #[.int .i64 n, .slice a L.length cap] 24) := ⟨_, rfl⟩
  have hB0 : Below w.heap.size w W := by rw [hW]; exact (Below.refl _ w).alloc (Nat.le_refl _) _
  have hG : Blk W w.heap.size 24 #[.int .i64 n, .slice a L.length cap] := by rw [hW]; exact Blk.new _ _ _
  have HW := Lib.hid hW
  have HB0 := Lib.hid hB0
  have hEz : EsAt W a L := h.keep hB0
  have hOz : BsAt W b O := ho.keep hB0
  have HF : Hid (∀ x, Below W.heap.size W x → x.cell? ⟨w.heap.size, 0, none⟩ = some (.int .i64 n) ∧ x.cell? ⟨w.heap.size, 1, none⟩ = some (.slice a L.length cap) ∧ EsAt x a L ∧ BsAt x b O) := Lib.hid fun x hx => ⟨(hG.below hx hG.lt).cell 0, (hG.below hx hG.lt).cell 1, hEz.keep hx, hOz.keep hx⟩
  have hk0 : Below W.heap.size W W := Below.refl _ _
  obtain ⟨g0, g1, -⟩ := HF.out W hk0
  clear hB0 hG hW hEz h hOz ho
  have q1 : (((k : Nat) : Int) == 0) = false := by rw [beq_eq_false_iff_ne]; omega
  go_enter Try.func43, Try.ntmps43
  go_wp2_with fail
  rw [← HW.out]
  refine (HFW.out _ (HF.out W hk0).2.2.1).mono ?_
  rintro e x1 ⟨rfl, hb1⟩
  have hk1 : Below W.heap.size W x1 := hk0.trans (hb1.mono hk0.size)
  clear hb1 hk0 g0 g1
  obtain ⟨g0, g1, -⟩ := HF.out x1 hk1
  go_wp2_with fail
  refine (HCR.out _ (HF.out x1 hk1).2.2.1 (HF.out x1 hk1).2.2.2).mono ?_
  rintro e x2 ⟨rfl, hb2⟩
  have hk2 : Below W.heap.size W x2 := hk1.trans (hb2.mono hk1.size)
  clear hb2 hk1 g0 g1
  obtain ⟨g0, g1, -⟩ := HF.out x2 hk2
  have HEND := Lib.hid (HB0.out.trans (hk2.mono HB0.out.size))
  clear hk2 g0 g1
  go_wp2
  go_ret
  exact ⟨rfl, HEND.out⟩
set_option maxHeartbeats 12800000 in
set_option maxRecDepth 100000 in
theorem right_ok (n : Int) (a : Option Addr) (cap : Nat) (L : List E) (b : Option Addr) (c : Nat) (O : List Bool) (k : Nat) (hk : k = 0) (HFW : Hid (∀ w, EsAt w a L → Calls Try.prog 12 #[.agg #[.int .i64 n, .slice a L.length cap]] w (fun e w' => e = .returned (.bool true) ∧ Below w.heap.size w w'))) (HCR : Hid (∀ w, EsAt w a L → BsAt w b O → Calls Try.prog 21 #[.agg #[.int .i64 n, .slice a L.length cap], .slice b O.length c] w (fun e w' => e = .returned (.int .i64 ((k : Nat) : Int)) ∧ Below w.heap.size w w'))) (w : World) (h : EsAt w a L) (ho : BsAt w b O) :
    Calls Try.prog 43 #[gv n a L.length cap, .slice b O.length c] w (GivesB w true) := by
  unfold GivesB gv
  obtain ⟨W, hW⟩ : ∃ W, W = w.alloc (Obj.cells #[.int .i64 n, .slice a L.length cap] 24) := ⟨_, rfl⟩
  have hB0 : Below w.heap.size w W := by rw [hW]; exact (Below.refl _ w).alloc (Nat.le_refl _) _
  have hG : Blk W w.heap.size 24 #[.int .i64 n, .slice a L.length cap] := by rw [hW]; exact Blk.new _ _ _
  have HW := Lib.hid hW
  have HB0 := Lib.hid hB0
  have hEz : EsAt W a L := h.keep hB0
  have hOz : BsAt W b O := ho.keep hB0
  have HF : Hid (∀ x, Below W.heap.size W x → x.cell? ⟨w.heap.size, 0, none⟩ = some (.int .i64 n) ∧ x.cell? ⟨w.heap.size, 1, none⟩ = some (.slice a L.length cap) ∧ EsAt x a L ∧ BsAt x b O) := Lib.hid fun x hx => ⟨(hG.below hx hG.lt).cell 0, (hG.below hx hG.lt).cell 1, hEz.keep hx, hOz.keep hx⟩
  have hk0 : Below W.heap.size W W := Below.refl _ _
  obtain ⟨g0, g1, -⟩ := HF.out W hk0
  clear hB0 hG hW hEz h hOz ho
  have q1 : (((k : Nat) : Int) == 0) = true := by rw [hk]; rfl
  go_enter Try.func43, Try.ntmps43
  go_wp2_with fail
  rw [← HW.out]
  refine (HFW.out _ (HF.out W hk0).2.2.1).mono ?_
  rintro e x1 ⟨rfl, hb1⟩
  have hk1 : Below W.heap.size W x1 := hk0.trans (hb1.mono hk0.size)
  clear hb1 hk0 g0 g1
  obtain ⟨g0, g1, -⟩ := HF.out x1 hk1
  go_wp2_with fail
  refine (HCR.out _ (HF.out x1 hk1).2.2.1 (HF.out x1 hk1).2.2.2).mono ?_
  rintro e x2 ⟨rfl, hb2⟩
  have hk2 : Below W.heap.size W x2 := hk1.trans (hb2.mono hk1.size)
  clear hb2 hk1 g0 g1
  obtain ⟨g0, g1, -⟩ := HF.out x2 hk2
  have HEND := Lib.hid (HB0.out.trans (hk2.mono HB0.out.size))
  clear hk2 g0 g1
  go_wp2
  go_ret
  exact ⟨rfl, HEND.out⟩
theorem right_any (n : Int) (a : Option Addr) (cap : Nat) (L : List E) (b : Option Addr) (c : Nat) (O : List Bool) (w : World) (h : EsAt w a L) (ho : BsAt w b O) :
    Calls Try.prog 43 #[gv n a L.length cap, .slice b O.length c] w (GivesB w (rightO n L O)) := by
  unfold rightO
  cases hf : fewG n L with
  | false => exact right_few n a cap L b c O (FewHid hf) w h ho
  | true =>
    have hl := few_len hf
    rw [Bool.true_and]
    by_cases hk : chkO n L O = 0
    · rw [decide_eq_true hk]
      exact right_ok n a cap L b c O _ hk (FewHid hf) (Lib.hid fun w h ho => rcheckO_all n a cap L (by omega) b c O w h ho) w h ho
    · rw [decide_eq_false hk]
      exact right_err n a cap L b c O _ hk (FewHid hf) (Lib.hid fun w h ho => rcheckO_all n a cap L (by omega) b c O w h ho) w h ho
end Go.Proofs.Ytlnaahkheankoaa
