/- The law of checks, indegrees, divisors and sources. -/
import Derived.Test.YtlnaahkheankoaaQ14
import Derived.Test.YtlnaahkheankoaaQ09
namespace Go.Proofs.Ytlnaahkheankoaa
open Go.RowKit Go.Shelf Go.Proofs.Gr
attribute [local go_sem] Oper.semAt_some

def Awake14 : Prop := ∀ w, Calls Try.prog 13 #[] w (fun e w' => e = .returned (.bool true) ∧ Below w.heap.size w w')
theorem awake14_any : Awake14 := awake14
set_option maxHeartbeats 12800000 in
set_option maxRecDepth 100000 in
theorem checks_dark (n : Int) (a : Option Addr) (cap : Nat) (L : List E) (b : Option Addr) (c : Nat) (O : List Bool)  (HFW : Hid (∀ w, EsAt w a L → Calls Try.prog 12 #[.agg #[.int .i64 n, .slice a L.length cap]] w (fun e w' => e = .returned (.bool false) ∧ Below w.heap.size w w'))) (HA : Awake14) (w : World) (h : EsAt w a L) (ho : BsAt w b O) :
    Calls Try.prog 3 #[gv n a L.length cap, .slice b O.length c] w (GivesB w true) := by
  unfold GivesB gv
  obtain ⟨W, hW⟩ : ∃ W, W = w.alloc (Obj.cells #[.int .i64 n, .slice a L.length cap] 24) := ⟨_, rfl⟩
  have hB0 : Below w.heap.size w W := by rw [hW]; exact (Below.refl _ w).alloc (Nat.le_refl _) _
  have hG : Blk W w.heap.size 24 #[.int .i64 n, .slice a L.length cap] := by rw [hW]; exact Blk.new _ _ _
  have HW := Lib.hid hW
  have HB0 := Lib.hid hB0
  have hEz : EsAt W a L := h.keep hB0
  have hOz : BsAt W b O := ho.keep hB0
  have HF : Hid (∀ x, Below W.heap.size W x → x.cell? ⟨w.heap.size, 0, none⟩ = some (.int .i64 n) ∧ x.cell? ⟨w.heap.size, 1, none⟩ = some (.slice a L.length cap) ∧ EsAt x a L ∧ BsAt x b O) := Lib.hid fun x hx => ⟨(hG.below hx hG.lt).cell 0, (hG.below hx hG.lt).cell 1, hEz.keep hx, hOz.keep hx⟩
  have hk0 : Below W.heap.size W W := Below.refl _ _
  obtain ⟨g0, g1, -⟩ := HF.out W hk0
  clear hB0 hG hW hEz h hOz ho
  go_enter Try.func3, Try.ntmps3
  go_wp2_with fail
  rw [← HW.out]
  refine (HFW.out _ (HF.out W hk0).2.2.1).mono ?_
  rintro e x1 ⟨rfl, hb1⟩
  have hk1 : Below W.heap.size W x1 := hk0.trans (hb1.mono hk0.size)
  clear hb1 hk0 g0 g1
  obtain ⟨g0, g1, -⟩ := HF.out x1 hk1
  go_wp2_with fail
  refine (HA _).mono ?_
  rintro e x2 ⟨rfl, hb2⟩
  have hk2 : Below W.heap.size W x2 := hk1.trans (hb2.mono hk1.size)
  clear hb2 hk1 g0 g1
  obtain ⟨g0, g1, -⟩ := HF.out x2 hk2
  have HEND := Lib.hid (HB0.out.trans (hk2.mono HB0.out.size))
  clear hk2 g0 g1
  go_wp2
  go_ret
  exact ⟨rfl, HEND.out⟩
set_option maxHeartbeats 12800000 in
set_option maxRecDepth 100000 in
theorem checks_long (n : Int) (a : Option Addr) (cap : Nat) (L : List E) (b : Option Addr) (c : Nat) (O : List Bool) (hl : 100 < O.length) (HFW : Hid (∀ w, EsAt w a L → Calls Try.prog 12 #[.agg #[.int .i64 n, .slice a L.length cap]] w (fun e w' => e = .returned (.bool true) ∧ Below w.heap.size w w'))) (HA : Awake14) (w : World) (h : EsAt w a L) (ho : BsAt w b O) :
    Calls Try.prog 3 #[gv n a L.length cap, .slice b O.length c] w (GivesB w true) := by
  unfold GivesB gv
  obtain ⟨W, hW⟩ : ∃ W, W = w.alloc (Obj.cells #[.int .i64 n, .slice a L.length cap] 24) := ⟨_, rfl⟩
  have hB0 : Below w.heap.size w W := by rw [hW]; exact (Below.refl _ w).alloc (Nat.le_refl _) _
  have hG : Blk W w.heap.size 24 #[.int .i64 n, .slice a L.length cap] := by rw [hW]; exact Blk.new _ _ _
  have HW := Lib.hid hW
  have HB0 := Lib.hid hB0
  have hEz : EsAt W a L := h.keep hB0
  have hOz : BsAt W b O := ho.keep hB0
  have HF : Hid (∀ x, Below W.heap.size W x → x.cell? ⟨w.heap.size, 0, none⟩ = some (.int .i64 n) ∧ x.cell? ⟨w.heap.size, 1, none⟩ = some (.slice a L.length cap) ∧ EsAt x a L ∧ BsAt x b O) := Lib.hid fun x hx => ⟨(hG.below hx hG.lt).cell 0, (hG.below hx hG.lt).cell 1, hEz.keep hx, hOz.keep hx⟩
  have hk0 : Below W.heap.size W W := Below.refl _ _
  obtain ⟨g0, g1, -⟩ := HF.out W hk0
  clear hB0 hG hW hEz h hOz ho
  have l1 : (100 : Int) < (O.length : Int) := by omega
  go_enter Try.func3, Try.ntmps3
  go_wp2_with fail
  rw [← HW.out]
  refine (HFW.out _ (HF.out W hk0).2.2.1).mono ?_
  rintro e x1 ⟨rfl, hb1⟩
  have hk1 : Below W.heap.size W x1 := hk0.trans (hb1.mono hk0.size)
  clear hb1 hk0 g0 g1
  obtain ⟨g0, g1, -⟩ := HF.out x1 hk1
  go_wp2_with fail
  refine (HA _).mono ?_
  rintro e x2 ⟨rfl, hb2⟩
  have hk2 : Below W.heap.size W x2 := hk1.trans (hb2.mono hk1.size)
  clear hb2 hk1 g0 g1
  obtain ⟨g0, g1, -⟩ := HF.out x2 hk2
  have HEND := Lib.hid (HB0.out.trans (hk2.mono HB0.out.size))
  clear hk2 g0 g1
  go_wp2
  go_ret
  exact ⟨rfl, HEND.out⟩
set_option maxHeartbeats 12800000 in
set_option maxRecDepth 100000 in
theorem checks_of (n : Int) (a : Option Addr) (cap : Nat) (L : List E) (b : Option Addr) (c : Nat) (O : List Bool) (hl : ¬ 100 < O.length) (A D X : List Int) (hAl : A.length ≤ 100000) (hDl : D.length ≤ 100000) (hXl : X.length ≤ 100000) (k : Nat) (HFW : Hid (∀ w, EsAt w a L → Calls Try.prog 12 #[.agg #[.int .i64 n, .slice a L.length cap]] w (fun e w' => e = .returned (.bool true) ∧ Below w.heap.size w w'))) (HA : Awake14) (HPI : Hid (∀ w, EsAt w a L → BsAt w b O → Calls Try.prog 14 #[.agg #[.int .i64 n, .slice a L.length cap], .slice b O.length c] w (fun e w' => ∃ b1 d1, e = .returned (.tuple #[.slice b1 A.length d1, .int .i64 ((k : Nat) : Int)]) ∧ IsAt w' b1 A ∧ Below w.heap.size w w'))) (HRI : Hid (∀ w, EsAt w a L → BsAt w b O → Calls Try.prog 15 #[.agg #[.int .i64 n, .slice a L.length cap], .slice b O.length c] w (fun e w' => ∃ b1 d1, e = .returned (.tuple #[.slice b1 A.length d1, .int .i64 ((k : Nat) : Int)]) ∧ IsAt w' b1 A ∧ Below w.heap.size w w'))) (HPD : Hid (∀ w, EsAt w a L → BsAt w b O → Calls Try.prog 16 #[.agg #[.int .i64 n, .slice a L.length cap], .slice b O.length c] w (fun e w' => ∃ b1 d1, e = .returned (.tuple #[.slice b1 D.length d1, .int .i64 ((k : Nat) : Int)]) ∧ IsAt w' b1 D ∧ Below w.heap.size w w'))) (HRD : Hid (∀ w, EsAt w a L → BsAt w b O → Calls Try.prog 17 #[.agg #[.int .i64 n, .slice a L.length cap], .slice b O.length c] w (fun e w' => ∃ b1 d1, e = .returned (.tuple #[.slice b1 D.length d1, .int .i64 ((k : Nat) : Int)]) ∧ IsAt w' b1 D ∧ Below w.heap.size w w'))) (HPS : Hid (∀ w, EsAt w a L → BsAt w b O → Calls Try.prog 18 #[.agg #[.int .i64 n, .slice a L.length cap], .slice b O.length c] w (fun e w' => ∃ b1 d1, e = .returned (.tuple #[.slice b1 X.length d1, .int .i64 ((k : Nat) : Int)]) ∧ IsAt w' b1 X ∧ Below w.heap.size w w'))) (HRS : Hid (∀ w, EsAt w a L → BsAt w b O → Calls Try.prog 19 #[.agg #[.int .i64 n, .slice a L.length cap], .slice b O.length c] w (fun e w' => ∃ b1 d1, e = .returned (.tuple #[.slice b1 X.length d1, .int .i64 ((k : Nat) : Int)]) ∧ IsAt w' b1 X ∧ Below w.heap.size w w'))) (HCP : Hid (∀ w, EsAt w a L → BsAt w b O → Calls Try.prog 20 #[.agg #[.int .i64 n, .slice a L.length cap], .slice b O.length c] w (fun e w' => e = .returned (.int .i64 ((k : Nat) : Int)) ∧ Below w.heap.size w w'))) (HCR : Hid (∀ w, EsAt w a L → BsAt w b O → Calls Try.prog 21 #[.agg #[.int .i64 n, .slice a L.length cap], .slice b O.length c] w (fun e w' => e = .returned (.int .i64 ((k : Nat) : Int)) ∧ Below w.heap.size w w'))) (w : World) (h : EsAt w a L) (ho : BsAt w b O) :
    Calls Try.prog 3 #[gv n a L.length cap, .slice b O.length c] w (GivesB w true) := by
  unfold GivesB gv
  obtain ⟨W, hW⟩ : ∃ W, W = w.alloc (Obj.cells #[.int .i64 n, .slice a L.length cap] 24) := ⟨_, rfl⟩
  have hB0 : Below w.heap.size w W := by rw [hW]; exact (Below.refl _ w).alloc (Nat.le_refl _) _
  have hG : Blk W w.heap.size 24 #[.int .i64 n, .slice a L.length cap] := by rw [hW]; exact Blk.new _ _ _
  have HW := Lib.hid hW
  have HB0 := Lib.hid hB0
  have hEz : EsAt W a L := h.keep hB0
  have hOz : BsAt W b O := ho.keep hB0
  have HF : Hid (∀ x, Below W.heap.size W x → x.cell? ⟨w.heap.size, 0, none⟩ = some (.int .i64 n) ∧ x.cell? ⟨w.heap.size, 1, none⟩ = some (.slice a L.length cap) ∧ EsAt x a L ∧ BsAt x b O) := Lib.hid fun x hx => ⟨(hG.below hx hG.lt).cell 0, (hG.below hx hG.lt).cell 1, hEz.keep hx, hOz.keep hx⟩
  have hk0 : Below W.heap.size W W := Below.refl _ _
  obtain ⟨g0, g1, -⟩ := HF.out W hk0
  clear hB0 hG hW hEz h hOz ho
  have l1 : ¬ (100 : Int) < (O.length : Int) := by omega
  have q1 : (((k : Nat) : Int) == ((k : Nat) : Int)) = true := by simp
  go_enter Try.func3, Try.ntmps3
  go_wp2_with fail
  rw [← HW.out]
  refine (HFW.out _ (HF.out W hk0).2.2.1).mono ?_
  rintro e x1 ⟨rfl, hb1⟩
  have hk1 : Below W.heap.size W x1 := hk0.trans (hb1.mono hk0.size)
  clear hb1 hk0 g0 g1
  obtain ⟨g0, g1, -⟩ := HF.out x1 hk1
  go_wp2_with fail
  refine (HPI.out _ (HF.out x1 hk1).2.2.1 (HF.out x1 hk1).2.2.2).mono ?_
  rintro e x2 ⟨b1, d1, rfl, hA_2, hb2⟩
  have hk2 : Below W.heap.size W x2 := hk1.trans (hb2.mono hk1.size)
  clear hb2 hk1 g0 g1
  obtain ⟨g0, g1, -⟩ := HF.out x2 hk2
  go_wp2_with fail
  refine (HRI.out _ (HF.out x2 hk2).2.2.1 (HF.out x2 hk2).2.2.2).mono ?_
  rintro e x3 ⟨b2, d2, rfl, hB_3, hb3⟩
  have hk3 : Below W.heap.size W x3 := hk2.trans (hb3.mono hk2.size)
  have hA_3 := hA_2.keep hb3
  clear hb3 hk2 g0 g1 hA_2
  obtain ⟨g0, g1, -⟩ := HF.out x3 hk3
  go_wp2_with fail
  refine (HPD.out _ (HF.out x3 hk3).2.2.1 (HF.out x3 hk3).2.2.2).mono ?_
  rintro e x4 ⟨b3, d3, rfl, hC_4, hb4⟩
  have hk4 : Below W.heap.size W x4 := hk3.trans (hb4.mono hk3.size)
  have hA_4 := hA_3.keep hb4
  have hB_4 := hB_3.keep hb4
  clear hb4 hk3 g0 g1 hA_3 hB_3
  obtain ⟨g0, g1, -⟩ := HF.out x4 hk4
  go_wp2_with fail
  refine (HRD.out _ (HF.out x4 hk4).2.2.1 (HF.out x4 hk4).2.2.2).mono ?_
  rintro e x5 ⟨b4, d4, rfl, hD_5, hb5⟩
  have hk5 : Below W.heap.size W x5 := hk4.trans (hb5.mono hk4.size)
  have hA_5 := hA_4.keep hb5
  have hB_5 := hB_4.keep hb5
  have hC_5 := hC_4.keep hb5
  clear hb5 hk4 g0 g1 hA_4 hB_4 hC_4
  obtain ⟨g0, g1, -⟩ := HF.out x5 hk5
  go_wp2_with fail
  refine (HPS.out _ (HF.out x5 hk5).2.2.1 (HF.out x5 hk5).2.2.2).mono ?_
  rintro e x6 ⟨b5, d5, rfl, hX_6, hb6⟩
  have hk6 : Below W.heap.size W x6 := hk5.trans (hb6.mono hk5.size)
  have hA_6 := hA_5.keep hb6
  have hB_6 := hB_5.keep hb6
  have hC_6 := hC_5.keep hb6
  have hD_6 := hD_5.keep hb6
  clear hb6 hk5 g0 g1 hA_5 hB_5 hC_5 hD_5
  obtain ⟨g0, g1, -⟩ := HF.out x6 hk6
  go_wp2_with fail
  refine (HRS.out _ (HF.out x6 hk6).2.2.1 (HF.out x6 hk6).2.2.2).mono ?_
  rintro e x7 ⟨b6, d6, rfl, hY_7, hb7⟩
  have hk7 : Below W.heap.size W x7 := hk6.trans (hb7.mono hk6.size)
  have hA_7 := hA_6.keep hb7
  have hB_7 := hB_6.keep hb7
  have hC_7 := hC_6.keep hb7
  have hD_7 := hD_6.keep hb7
  have hX_7 := hX_6.keep hb7
  clear hb7 hk6 g0 g1 hA_6 hB_6 hC_6 hD_6 hX_6
  obtain ⟨g0, g1, -⟩ := HF.out x7 hk7
  go_wp2_with fail
  have hj0 : Below W.heap.size W x7.drew := hk7.drew
  refine wp_region_late (S := fun u => Below W.heap.size W u) (X := []) (by kernel_rfl) ?_
  have hA_j0 := hA_7.keep ((Below.refl _ x7).drew)
  have hB_j0 := hB_7.keep ((Below.refl _ x7).drew)
  have hC_j0 := hC_7.keep ((Below.refl _ x7).drew)
  have hD_j0 := hD_7.keep ((Below.refl _ x7).drew)
  have hX_j0 := hX_7.keep ((Below.refl _ x7).drew)
  have hY_j0 := hY_7.keep ((Below.refl _ x7).drew)
  refine wpAnyL_one (i := 0) (by kernel_rfl) rfl (fun K hK => ?_)
  go_simp
  go_at_call 13
  refine (HA _).mono ?_
  rintro e y1 ⟨rfl, hb1⟩
  have hj1 := hj0.trans (hb1.mono hj0.size)
  have hA_j1 := hA_j0.keep hb1
  have hB_j1 := hB_j0.keep hb1
  have hC_j1 := hC_j0.keep hb1
  have hD_j1 := hD_j0.keep hb1
  have hX_j1 := hX_j0.keep hb1
  have hY_j1 := hY_j0.keep hb1
  show K _ _
  refine hK.out _ _ (fun _ _ => hj1) ?_
  clear hK K hb1
  try simp only [Act.put, List.setIfInBounds_toArray, List.set_cons_zero, List.set_cons_succ]
  refine wpAnyL_pureD (i := 1) 63 (.bool true) rfl rfl (by kernel_rfl) (by kernel_rfl) (by kernel_rfl) (fun _ _ _ h => h) (Or.inl ⟨by rfl, fun u _ => ?_⟩) ?_
  · go_simp
  try simp only [Act.put, List.setIfInBounds_toArray, List.set_cons_zero, List.set_cons_succ]
  refine wpAnyL_takeD (i := 2) 64 (.agg #[.int .i64 n, .slice a L.length cap]) rfl rfl (by kernel_rfl) (by kernel_rfl) (by kernel_rfl) (by kernel_rfl) (by kernel_rfl) (fun _ _ _ h => h) hj1 (Or.inl ⟨by rfl, fun u hu => ?_⟩) ?_
  · obtain ⟨t0, t1, -⟩ := HF.out u hu
    go_simp
  try simp only [Act.put, List.setIfInBounds_toArray, List.set_cons_zero, List.set_cons_succ]
  refine wpAnyL_pureD (i := 3) 65 (.slice b O.length c) rfl rfl (by kernel_rfl) (by kernel_rfl) (by kernel_rfl) (fun _ _ _ h => h) (Or.inl ⟨by rfl, fun u _ => ?_⟩) ?_
  · go_simp
  try simp only [Act.put, List.setIfInBounds_toArray, List.set_cons_zero, List.set_cons_succ]
  refine wpAnyL_takeD (i := 5) 67 (.agg #[.int .i64 n, .slice a L.length cap]) rfl rfl (by kernel_rfl) (by kernel_rfl) (by kernel_rfl) (by kernel_rfl) (by kernel_rfl) (fun _ _ _ h => h) hj1 (Or.inl ⟨by rfl, fun u hu => ?_⟩) ?_
  · obtain ⟨t0, t1, -⟩ := HF.out u hu
    go_simp
  try simp only [Act.put, List.setIfInBounds_toArray, List.set_cons_zero, List.set_cons_succ]
  refine wpAnyL_pureD (i := 6) 68 (.slice b O.length c) rfl rfl (by kernel_rfl) (by kernel_rfl) (by kernel_rfl) (fun _ _ _ h => h) (Or.inl ⟨by rfl, fun u _ => ?_⟩) ?_
  · go_simp
  try simp only [Act.put, List.setIfInBounds_toArray, List.set_cons_zero, List.set_cons_succ]
  refine wpAnyL_one (i := 4) (by kernel_rfl) rfl (fun K hK => ?_)
  go_simp
  go_at_call 20
  refine (HCP.out _ (HF.out y1 hj1).2.2.1 (HF.out y1 hj1).2.2.2).mono ?_
  rintro e y2 ⟨rfl, hb2⟩
  have hj2 := hj1.trans (hb2.mono hj1.size)
  have hA_j2 := hA_j1.keep hb2
  have hB_j2 := hB_j1.keep hb2
  have hC_j2 := hC_j1.keep hb2
  have hD_j2 := hD_j1.keep hb2
  have hX_j2 := hX_j1.keep hb2
  have hY_j2 := hY_j1.keep hb2
  show K _ _
  refine hK.out _ _ (fun _ _ => hj2) ?_
  clear hK K hb2
  try simp only [Act.put, List.setIfInBounds_toArray, List.set_cons_zero, List.set_cons_succ]
  refine wpAnyL_one (i := 7) (by kernel_rfl) rfl (fun K hK => ?_)
  go_simp
  go_at_call 21
  refine (HCR.out _ (HF.out y2 hj2).2.2.1 (HF.out y2 hj2).2.2.2).mono ?_
  rintro e y3 ⟨rfl, hb3⟩
  have hj3 := hj2.trans (hb3.mono hj2.size)
  have hA_j3 := hA_j2.keep hb3
  have hB_j3 := hB_j2.keep hb3
  have hC_j3 := hC_j2.keep hb3
  have hD_j3 := hD_j2.keep hb3
  have hX_j3 := hX_j2.keep hb3
  have hY_j3 := hY_j2.keep hb3
  show K _ _
  refine hK.out _ _ (fun _ _ => hj3) ?_
  clear hK K hb3
  try simp only [Act.put, List.setIfInBounds_toArray, List.set_cons_zero, List.set_cons_succ]
  refine wpAnyL_pureD (i := 8) 70 (.bool true) rfl rfl (by kernel_rfl) (by kernel_rfl) (by kernel_rfl) (fun _ _ _ h => h) (Or.inl ⟨by rfl, fun u _ => ?_⟩) ?_
  · go_simp
  try simp only [Act.put, List.setIfInBounds_toArray, List.set_cons_zero, List.set_cons_succ]
  refine wpAnyL_pureD (i := 9) 71 (.bool true) rfl rfl (by kernel_rfl) (by kernel_rfl) (by kernel_rfl) (fun _ _ _ h => h) (Or.inl ⟨by rfl, fun u _ => ?_⟩) ?_
  · go_simp
  try simp only [Act.put, List.setIfInBounds_toArray, List.set_cons_zero, List.set_cons_succ]
  refine wpAnyL_pureD (i := 10) 72 (.bool true) rfl rfl (by kernel_rfl) (by kernel_rfl) (by kernel_rfl) (fun _ _ _ h => h) (Or.inl ⟨by rfl, fun u _ => ?_⟩) ?_
  · go_simp
  try simp only [Act.put, List.setIfInBounds_toArray, List.set_cons_zero, List.set_cons_succ]
  refine wpAnyL_pureD (i := 11) 73 (.slice b1 A.length d1) rfl rfl (by kernel_rfl) (by kernel_rfl) (by kernel_rfl) (fun _ _ _ h => h) (Or.inl ⟨by rfl, fun u _ => ?_⟩) ?_
  · go_simp
  try simp only [Act.put, List.setIfInBounds_toArray, List.set_cons_zero, List.set_cons_succ]
  refine wpAnyL_pureD (i := 12) 74 (.slice b2 A.length d2) rfl rfl (by kernel_rfl) (by kernel_rfl) (by kernel_rfl) (fun _ _ _ h => h) (Or.inl ⟨by rfl, fun u _ => ?_⟩) ?_
  · go_simp
  try simp only [Act.put, List.setIfInBounds_toArray, List.set_cons_zero, List.set_cons_succ]
  refine wpAnyL_one (i := 13) (by kernel_rfl) rfl (fun K hK => ?_)
  go_simp
  go_at_call 22
  refine (rsameI_true b1 b2 d1 d2 A hAl _ hA_j3 hB_j3).mono ?_
  rintro e y4 ⟨rfl, hb4⟩
  have hj4 := hj3.trans (hb4.mono hj3.size)
  have hA_j4 := hA_j3.keep hb4
  have hB_j4 := hB_j3.keep hb4
  have hC_j4 := hC_j3.keep hb4
  have hD_j4 := hD_j3.keep hb4
  have hX_j4 := hX_j3.keep hb4
  have hY_j4 := hY_j3.keep hb4
  show K _ _
  refine hK.out _ _ (fun _ _ => hj4) ?_
  clear hK K hb4
  try simp only [Act.put, List.setIfInBounds_toArray, List.set_cons_zero, List.set_cons_succ]
  refine wpAnyL_pureD (i := 14) 76 (.bool true) rfl rfl (by kernel_rfl) (by kernel_rfl) (by kernel_rfl) (fun _ _ _ h => h) (Or.inl ⟨by rfl, fun u _ => ?_⟩) ?_
  · go_simp
  try simp only [Act.put, List.setIfInBounds_toArray, List.set_cons_zero, List.set_cons_succ]
  refine wpAnyL_pureD (i := 15) 77 (.bool true) rfl rfl (by kernel_rfl) (by kernel_rfl) (by kernel_rfl) (fun _ _ _ h => h) (Or.inl ⟨by rfl, fun u _ => ?_⟩) ?_
  · go_simp
  try simp only [Act.put, List.setIfInBounds_toArray, List.set_cons_zero, List.set_cons_succ]
  refine wpAnyL_pureD (i := 16) 78 (.int .i64 ((k : Nat) : Int)) rfl rfl (by kernel_rfl) (by kernel_rfl) (by kernel_rfl) (fun _ _ _ h => h) (Or.inl ⟨by rfl, fun u _ => ?_⟩) ?_
  · go_simp
  try simp only [Act.put, List.setIfInBounds_toArray, List.set_cons_zero, List.set_cons_succ]
  refine wpAnyL_pureD (i := 17) 79 (.int .i64 ((k : Nat) : Int)) rfl rfl (by kernel_rfl) (by kernel_rfl) (by kernel_rfl) (fun _ _ _ h => h) (Or.inl ⟨by rfl, fun u _ => ?_⟩) ?_
  · go_simp
  try simp only [Act.put, List.setIfInBounds_toArray, List.set_cons_zero, List.set_cons_succ]
  refine wpAnyL_pureD (i := 18) 80 (.bool true) rfl rfl (by kernel_rfl) (by kernel_rfl) (by kernel_rfl) (fun _ _ _ h => h) (Or.inl ⟨by rfl, fun u _ => ?_⟩) ?_
  · go_simp
  try simp only [Act.put, List.setIfInBounds_toArray, List.set_cons_zero, List.set_cons_succ]
  refine wpAnyL_pureD (i := 19) 81 (.bool true) rfl rfl (by kernel_rfl) (by kernel_rfl) (by kernel_rfl) (fun _ _ _ h => h) (Or.inl ⟨by rfl, fun u _ => ?_⟩) ?_
  · go_simp
  try simp only [Act.put, List.setIfInBounds_toArray, List.set_cons_zero, List.set_cons_succ]
  refine wpAnyL_pureD (i := 20) 82 (.bool true) rfl rfl (by kernel_rfl) (by kernel_rfl) (by kernel_rfl) (fun _ _ _ h => h) (Or.inl ⟨by rfl, fun u _ => ?_⟩) ?_
  · go_simp
  try simp only [Act.put, List.setIfInBounds_toArray, List.set_cons_zero, List.set_cons_succ]
  refine wpAnyL_pureD (i := 21) 83 (.slice b3 D.length d3) rfl rfl (by kernel_rfl) (by kernel_rfl) (by kernel_rfl) (fun _ _ _ h => h) (Or.inl ⟨by rfl, fun u _ => ?_⟩) ?_
  · go_simp
  try simp only [Act.put, List.setIfInBounds_toArray, List.set_cons_zero, List.set_cons_succ]
  refine wpAnyL_pureD (i := 22) 84 (.slice b4 D.length d4) rfl rfl (by kernel_rfl) (by kernel_rfl) (by kernel_rfl) (fun _ _ _ h => h) (Or.inl ⟨by rfl, fun u _ => ?_⟩) ?_
  · go_simp
  try simp only [Act.put, List.setIfInBounds_toArray, List.set_cons_zero, List.set_cons_succ]
  refine wpAnyL_one (i := 23) (by kernel_rfl) rfl (fun K hK => ?_)
  go_simp
  go_at_call 23
  refine (rsameD_true b3 b4 d3 d4 D hDl _ hC_j4 hD_j4).mono ?_
  rintro e y5 ⟨rfl, hb5⟩
  have hj5 := hj4.trans (hb5.mono hj4.size)
  have hA_j5 := hA_j4.keep hb5
  have hB_j5 := hB_j4.keep hb5
  have hC_j5 := hC_j4.keep hb5
  have hD_j5 := hD_j4.keep hb5
  have hX_j5 := hX_j4.keep hb5
  have hY_j5 := hY_j4.keep hb5
  show K _ _
  refine hK.out _ _ (fun _ _ => hj5) ?_
  clear hK K hb5
  try simp only [Act.put, List.setIfInBounds_toArray, List.set_cons_zero, List.set_cons_succ]
  refine wpAnyL_pureD (i := 24) 86 (.bool true) rfl rfl (by kernel_rfl) (by kernel_rfl) (by kernel_rfl) (fun _ _ _ h => h) (Or.inl ⟨by rfl, fun u _ => ?_⟩) ?_
  · go_simp
  try simp only [Act.put, List.setIfInBounds_toArray, List.set_cons_zero, List.set_cons_succ]
  refine wpAnyL_pureD (i := 25) 87 (.bool true) rfl rfl (by kernel_rfl) (by kernel_rfl) (by kernel_rfl) (fun _ _ _ h => h) (Or.inl ⟨by rfl, fun u _ => ?_⟩) ?_
  · go_simp
  try simp only [Act.put, List.setIfInBounds_toArray, List.set_cons_zero, List.set_cons_succ]
  refine wpAnyL_pureD (i := 26) 88 (.int .i64 ((k : Nat) : Int)) rfl rfl (by kernel_rfl) (by kernel_rfl) (by kernel_rfl) (fun _ _ _ h => h) (Or.inl ⟨by rfl, fun u _ => ?_⟩) ?_
  · go_simp
  try simp only [Act.put, List.setIfInBounds_toArray, List.set_cons_zero, List.set_cons_succ]
  refine wpAnyL_pureD (i := 27) 89 (.int .i64 ((k : Nat) : Int)) rfl rfl (by kernel_rfl) (by kernel_rfl) (by kernel_rfl) (fun _ _ _ h => h) (Or.inl ⟨by rfl, fun u _ => ?_⟩) ?_
  · go_simp
  try simp only [Act.put, List.setIfInBounds_toArray, List.set_cons_zero, List.set_cons_succ]
  refine wpAnyL_pureD (i := 28) 90 (.bool true) rfl rfl (by kernel_rfl) (by kernel_rfl) (by kernel_rfl) (fun _ _ _ h => h) (Or.inl ⟨by rfl, fun u _ => ?_⟩) ?_
  · go_simp
  try simp only [Act.put, List.setIfInBounds_toArray, List.set_cons_zero, List.set_cons_succ]
  refine wpAnyL_pureD (i := 29) 91 (.bool true) rfl rfl (by kernel_rfl) (by kernel_rfl) (by kernel_rfl) (fun _ _ _ h => h) (Or.inl ⟨by rfl, fun u _ => ?_⟩) ?_
  · go_simp
  try simp only [Act.put, List.setIfInBounds_toArray, List.set_cons_zero, List.set_cons_succ]
  refine wpAnyL_pureD (i := 30) 92 (.bool true) rfl rfl (by kernel_rfl) (by kernel_rfl) (by kernel_rfl) (fun _ _ _ h => h) (Or.inl ⟨by rfl, fun u _ => ?_⟩) ?_
  · go_simp
  try simp only [Act.put, List.setIfInBounds_toArray, List.set_cons_zero, List.set_cons_succ]
  refine wpAnyL_pureD (i := 31) 93 (.slice b5 X.length d5) rfl rfl (by kernel_rfl) (by kernel_rfl) (by kernel_rfl) (fun _ _ _ h => h) (Or.inl ⟨by rfl, fun u _ => ?_⟩) ?_
  · go_simp
  try simp only [Act.put, List.setIfInBounds_toArray, List.set_cons_zero, List.set_cons_succ]
  refine wpAnyL_pureD (i := 32) 94 (.slice b6 X.length d6) rfl rfl (by kernel_rfl) (by kernel_rfl) (by kernel_rfl) (fun _ _ _ h => h) (Or.inl ⟨by rfl, fun u _ => ?_⟩) ?_
  · go_simp
  try simp only [Act.put, List.setIfInBounds_toArray, List.set_cons_zero, List.set_cons_succ]
  refine wpAnyL_one (i := 33) (by kernel_rfl) rfl (fun K hK => ?_)
  go_simp
  go_at_call 22
  refine (rsameI_true b5 b6 d5 d6 X hXl _ hX_j5 hY_j5).mono ?_
  rintro e y6 ⟨rfl, hb6⟩
  have hj6 := hj5.trans (hb6.mono hj5.size)
  have hA_j6 := hA_j5.keep hb6
  have hB_j6 := hB_j5.keep hb6
  have hC_j6 := hC_j5.keep hb6
  have hD_j6 := hD_j5.keep hb6
  have hX_j6 := hX_j5.keep hb6
  have hY_j6 := hY_j5.keep hb6
  show K _ _
  refine hK.out _ _ (fun _ _ => hj6) ?_
  clear hK K hb6
  try simp only [Act.put, List.setIfInBounds_toArray, List.set_cons_zero, List.set_cons_succ]
  refine wpAnyL_pureD (i := 34) 96 (.bool true) rfl rfl (by kernel_rfl) (by kernel_rfl) (by kernel_rfl) (fun _ _ _ h => h) (Or.inl ⟨by rfl, fun u _ => ?_⟩) ?_
  · go_simp
  try simp only [Act.put, List.setIfInBounds_toArray, List.set_cons_zero, List.set_cons_succ]
  refine wpAnyL_pureD (i := 35) 97 (.bool true) rfl rfl (by kernel_rfl) (by kernel_rfl) (by kernel_rfl) (fun _ _ _ h => h) (Or.inl ⟨by rfl, fun u _ => ?_⟩) ?_
  · go_simp
  try simp only [Act.put, List.setIfInBounds_toArray, List.set_cons_zero, List.set_cons_succ]
  refine wpAnyL_pureD (i := 36) 98 (.int .i64 ((k : Nat) : Int)) rfl rfl (by kernel_rfl) (by kernel_rfl) (by kernel_rfl) (fun _ _ _ h => h) (Or.inl ⟨by rfl, fun u _ => ?_⟩) ?_
  · go_simp
  try simp only [Act.put, List.setIfInBounds_toArray, List.set_cons_zero, List.set_cons_succ]
  refine wpAnyL_pureD (i := 37) 99 (.int .i64 ((k : Nat) : Int)) rfl rfl (by kernel_rfl) (by kernel_rfl) (by kernel_rfl) (fun _ _ _ h => h) (Or.inl ⟨by rfl, fun u _ => ?_⟩) ?_
  · go_simp
  try simp only [Act.put, List.setIfInBounds_toArray, List.set_cons_zero, List.set_cons_succ]
  refine wpAnyL_pureD (i := 38) 100 (.bool true) rfl rfl (by kernel_rfl) (by kernel_rfl) (by kernel_rfl) (fun _ _ _ h => h) (Or.inl ⟨by rfl, fun u _ => ?_⟩) ?_
  · go_simp
  try simp only [Act.put, List.setIfInBounds_toArray, List.set_cons_zero, List.set_cons_succ]
  refine wpAnyL_pureD (i := 39) 101 (.bool true) rfl rfl (by kernel_rfl) (by kernel_rfl) (by kernel_rfl) (fun _ _ _ h => h) (Or.inl ⟨by rfl, fun u _ => ?_⟩) ?_
  · go_simp
  try simp only [Act.put, List.setIfInBounds_toArray, List.set_cons_zero, List.set_cons_succ]
  refine wpAnyL_pureD (i := 40) 4 (.bool true) rfl rfl (by kernel_rfl) (by kernel_rfl) (by kernel_rfl) (fun _ _ _ h => h) (Or.inl ⟨by rfl, fun u _ => ?_⟩) ?_
  · go_simp
  try simp only [Act.put, List.setIfInBounds_toArray, List.set_cons_zero, List.set_cons_succ]
  refine wpAnyL_done (by kernel_rfl) ?_ _
  try simp only [Act.put, List.setIfInBounds_toArray, List.set_cons_zero, List.set_cons_succ]
  have hend := hj6
  have HEND := Lib.hid (HB0.out.trans (hend.mono HB0.out.size))
  clear hend hj0
  go_wp2
  go_ret
  exact ⟨rfl, HEND.out⟩
theorem okL_le {α : Type} (k : Nat) (l : List α) : (okL k l).length ≤ l.length := by
  unfold okL
  split
  · exact Nat.le_refl _
  · simp
theorem checks_any (n : Int) (a : Option Addr) (cap : Nat) (L : List E) (b : Option Addr) (c : Nat) (O : List Bool) (w : World) (h : EsAt w a L) (ho : BsAt w b O) :
    Calls Try.prog 3 #[gv n a L.length cap, .slice b O.length c] w (GivesB w true) := by
  cases hf : fewG n L with
  | false => exact checks_dark n a cap L b c O (FewHid hf) awake14_any w h ho
  | true =>
    have hl := few_len hf
    by_cases hO : 100 < O.length
    · exact checks_long n a cap L b c O hO (FewHid hf) awake14_any w h ho
    have hO2 : O.length ≤ 100000000 := by omega
    have hn : chkO n L O = 0 → n.toNat ≤ 12 := fun hz => by have := chkG_n (chkO_zero hz).1; omega
    have b1 : (okL (chkO n L O) (inO n L O)).length ≤ 100000 := by
      by_cases hz : chkO n L O = 0
      · rw [okL_pos _ hz, inO_len]; have := hn hz; omega
      · rw [okL_neg _ hz]; simp
    have b2 : (okL (chkO n L O) (lessL (inO n L O))).length ≤ 100000 := by
      by_cases hz : chkO n L O = 0
      · rw [okL_pos _ hz, lessL_len, inO_len]; have := hn hz; omega
      · rw [okL_neg _ hz]; simp
    have b3 : (okL (chkO n L O) (srcO n L O)).length ≤ 100000 := by
      by_cases hz : chkO n L O = 0
      · rw [okL_pos _ hz]
        have h1 : (srcO n L O).length ≤ n.toNat := srcL_len _ _
        have := hn hz
        omega
      · rw [okL_neg _ hz]; simp
    exact checks_of n a cap L b c O hO _ _ _ b1 b2 b3 (chkO n L O) (FewHid hf) awake14_any
      (Lib.hid fun w h ho => (pindegrees_any n a cap L (by omega) b c O hO2 w h ho).mono fun _ _ h => h.weak)
      (Lib.hid fun w h ho => rindegrees_any n a cap L (by omega) b c O hO2 w h ho)
      (Lib.hid fun w h ho => pdivisor_any n a cap L (by omega) b c O hO2 w h ho)
      (Lib.hid fun w h ho => rdivisor_any n a cap L (by omega) b c O hO2 w h ho)
      (Lib.hid fun w h ho => pSources_any n a cap L (by omega) b c O hO2 w h ho)
      (Lib.hid fun w h ho => rsources_any n a cap L (by omega) b c O hO2 w h ho)
      (Lib.hid fun w h ho => pcheckO_any n a cap L (by omega) b c O hO2 w h ho)
      (Lib.hid fun w h ho => rcheckO_any n a cap L (by omega) b c O hO2 w h ho) w h ho
end Go.Proofs.Ytlnaahkheankoaa
