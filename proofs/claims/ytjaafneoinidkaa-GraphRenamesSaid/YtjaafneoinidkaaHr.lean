/- The law of cuts. -/
import Derived.Test.YtjaafneoinidkaaHq
namespace Go.Proofs.Ytjaafneoinidkaa
open Go.RowKit Go.Shelf Go.Proofs.Gr
attribute [local go_sem] Oper.semAt_some

set_option maxHeartbeats 12800000 in
set_option maxRecDepth 100000 in
theorem cuts_dark (n : Int) (a : Option Addr) (cap : Nat) (L : List E) (b : Option Addr) (c : Nat) (S : List Int) (HLI : Hid (∀ w, EsAt w a L → Calls Try.prog 12 #[.agg #[.int .i64 n, .slice a L.length cap]] w (fun e w' => e = .returned (.bool false) ∧ Below w.heap.size w w'))) (HA : Awake) (w : World) (h : EsAt w a L) (hv : IsAt w b S) :
    Calls Try.prog 6 #[gv n a L.length cap, .slice b S.length c] w (GivesB w true) := by
  unfold GivesB gv
  obtain ⟨W, hW⟩ : ∃ W, W = w.alloc (Obj.cells #[.int .i64 n, .slice a L.length cap] 24) := ⟨_, rfl⟩
  have hB0 : Below w.heap.size w W := by rw [hW]; exact (Below.refl _ w).alloc (Nat.le_refl _) _
  have hG : Blk W w.heap.size 24 #[.int .i64 n, .slice a L.length cap] := by rw [hW]; exact Blk.new _ _ _
  have HW := Lib.hid hW
  have HB0 := Lib.hid hB0
  have hEz : EsAt W a L := h.keep hB0
  have hVz : IsAt W b S := hv.keep hB0
  have HF : Hid (∀ x, Below W.heap.size W x → x.cell? ⟨w.heap.size, 0, none⟩ = some (.int .i64 n) ∧ x.cell? ⟨w.heap.size, 1, none⟩ = some (.slice a L.length cap) ∧ EsAt x a L ∧ IsAt x b S) := Lib.hid fun x hx => ⟨(hG.below hx hG.lt).cell 0, (hG.below hx hG.lt).cell 1, hEz.keep hx, hVz.keep hx⟩
  have hk0 : Below W.heap.size W W := Below.refl _ _
  obtain ⟨g0, g1, -⟩ := HF.out W hk0
  clear hB0 hG hW hEz h hVz hv
  go_enter Try.func6, Try.ntmps6
  go_wp2_with fail
  rw [← HW.out]
  refine (HLI.out _ (HF.out W hk0).2.2.1).mono ?_
  rintro e x1 ⟨rfl, hb1⟩
  have hk1 : Below W.heap.size W x1 := hk0.trans (hb1.mono hk0.size)
  clear hb1 hk0 g0 g1
  obtain ⟨g0, g1, -⟩ := HF.out x1 hk1
  go_wp2_with fail
  refine (HA _).mono ?_
  rintro e x2 ⟨rfl, hb2⟩
  have hk2 : Below W.heap.size W x2 := hk1.trans (hb2.mono hk1.size)
  clear hb2 hk1 g0 g1
  obtain ⟨g0, g1, -⟩ := HF.out x2 hk2
  have HEND := Lib.hid (HB0.out.trans (hk2.mono HB0.out.size))
  clear hk2 g0 g1
  go_wp2
  go_ret
  exact ⟨rfl, HEND.out⟩
set_option maxHeartbeats 12800000 in
set_option maxRecDepth 100000 in
theorem cuts_long (n : Int) (a : Option Addr) (cap : Nat) (L : List E) (b : Option Addr) (c : Nat) (S : List Int) (hS : 40 < S.length) (HLI : Hid (∀ w, EsAt w a L → Calls Try.prog 12 #[.agg #[.int .i64 n, .slice a L.length cap]] w (fun e w' => e = .returned (.bool true) ∧ Below w.heap.size w w'))) (HA : Awake) (w : World) (h : EsAt w a L) (hv : IsAt w b S) :
    Calls Try.prog 6 #[gv n a L.length cap, .slice b S.length c] w (GivesB w true) := by
  unfold GivesB gv
  obtain ⟨W, hW⟩ : ∃ W, W = w.alloc (Obj.cells #[.int .i64 n, .slice a L.length cap] 24) := ⟨_, rfl⟩
  have hB0 : Below w.heap.size w W := by rw [hW]; exact (Below.refl _ w).alloc (Nat.le_refl _) _
  have hG : Blk W w.heap.size 24 #[.int .i64 n, .slice a L.length cap] := by rw [hW]; exact Blk.new _ _ _
  have HW := Lib.hid hW
  have HB0 := Lib.hid hB0
  have hEz : EsAt W a L := h.keep hB0
  have hVz : IsAt W b S := hv.keep hB0
  have HF : Hid (∀ x, Below W.heap.size W x → x.cell? ⟨w.heap.size, 0, none⟩ = some (.int .i64 n) ∧ x.cell? ⟨w.heap.size, 1, none⟩ = some (.slice a L.length cap) ∧ EsAt x a L ∧ IsAt x b S) := Lib.hid fun x hx => ⟨(hG.below hx hG.lt).cell 0, (hG.below hx hG.lt).cell 1, hEz.keep hx, hVz.keep hx⟩
  have hk0 : Below W.heap.size W W := Below.refl _ _
  obtain ⟨g0, g1, -⟩ := HF.out W hk0
  clear hB0 hG hW hEz h hVz hv
  have l1 : decide (40 < ((S.length : Nat) : Int)) = true := decide_eq_true (by omega)
  go_enter Try.func6, Try.ntmps6
  go_wp2_with fail
  rw [← HW.out]
  refine (HLI.out _ (HF.out W hk0).2.2.1).mono ?_
  rintro e x1 ⟨rfl, hb1⟩
  have hk1 : Below W.heap.size W x1 := hk0.trans (hb1.mono hk0.size)
  clear hb1 hk0 g0 g1
  obtain ⟨g0, g1, -⟩ := HF.out x1 hk1
  go_wp2_with fail
  refine (HA _).mono ?_
  rintro e x2 ⟨rfl, hb2⟩
  have hk2 : Below W.heap.size W x2 := hk1.trans (hb2.mono hk1.size)
  clear hb2 hk1 g0 g1
  obtain ⟨g0, g1, -⟩ := HF.out x2 hk2
  have HEND := Lib.hid (HB0.out.trans (hk2.mono HB0.out.size))
  clear hk2 g0 g1
  go_wp2
  go_ret
  exact ⟨rfl, HEND.out⟩
set_option maxHeartbeats 12800000 in
set_option maxRecDepth 100000 in
theorem cuts_err (n : Int) (a : Option Addr) (cap : Nat) (L : List E) (b : Option Addr) (c : Nat) (S : List Int) (k : Nat) (hk : k ≠ 0) (hS : S.length ≤ 40) (HLI : Hid (∀ w, EsAt w a L → Calls Try.prog 12 #[.agg #[.int .i64 n, .slice a L.length cap]] w (fun e w' => e = .returned (.bool true) ∧ Below w.heap.size w w'))) (HA : Awake) (HC : Hid (∀ w, EsAt w a L → Calls Try.prog 14 #[.agg #[.int .i64 n, .slice a L.length cap]] w (fun e w' => e = .returned (.int .i64 (k : Int)) ∧ Below w.heap.size w w'))) (HCU : Hid (∀ w, EsAt w a L → IsAt w b S → Calls Try.prog 37 #[.agg #[.int .i64 n, .slice a L.length cap], .slice b S.length c] w (fun e w' => ∃ b d, e = .returned (.tuple #[.slice b 0 d, .int .i64 (k : Int)]) ∧ Below w.heap.size w w'))) (HIN : Hid (∀ w, EsAt w a L → IsAt w b S → Calls Try.prog 38 #[.agg #[.int .i64 n, .slice a L.length cap], .slice b S.length c] w (fun e w' => ∃ a c, e = .returned (.tuple #[.agg #[.int .i64 0, .slice a 0 c], .int .i64 (k : Int)]) ∧ Below w.heap.size w w'))) (HPS : Hid (∀ w, EsAt w a L → IsAt w b S → Calls Try.prog 39 #[.agg #[.int .i64 n, .slice a L.length cap], .slice b S.length c] w (fun e w' => e = .returned (.int .i64 (k : Int)) ∧ Below w.heap.size w w'))) (HSM : ∀ m a1 a2 c1 c2 (M : List E) w, M.length ≤ 100000 → EsAt w a1 M → EsAt w a2 M → Calls Try.prog 25 #[.agg #[.int .i64 m, .slice a1 M.length c1], .agg #[.int .i64 m, .slice a2 M.length c2]] w (fun e w' => e = .returned (.bool true) ∧ Below w.heap.size w w')) (w : World) (h : EsAt w a L) (hv : IsAt w b S) :
    Calls Try.prog 6 #[gv n a L.length cap, .slice b S.length c] w (GivesB w true) := by
  unfold GivesB gv
  obtain ⟨W, hW⟩ : ∃ W, W = w.alloc (Obj.cells #[.int .i64 n, .slice a L.length cap] 24) := ⟨_, rfl⟩
  have hB0 : Below w.heap.size w W := by rw [hW]; exact (Below.refl _ w).alloc (Nat.le_refl _) _
  have hG : Blk W w.heap.size 24 #[.int .i64 n, .slice a L.length cap] := by rw [hW]; exact Blk.new _ _ _
  have HW := Lib.hid hW
  have HB0 := Lib.hid hB0
  have hEz : EsAt W a L := h.keep hB0
  have hVz : IsAt W b S := hv.keep hB0
  have HF : Hid (∀ x, Below W.heap.size W x → x.cell? ⟨w.heap.size, 0, none⟩ = some (.int .i64 n) ∧ x.cell? ⟨w.heap.size, 1, none⟩ = some (.slice a L.length cap) ∧ EsAt x a L ∧ IsAt x b S) := Lib.hid fun x hx => ⟨(hG.below hx hG.lt).cell 0, (hG.below hx hG.lt).cell 1, hEz.keep hx, hVz.keep hx⟩
  have hk0 : Below W.heap.size W W := Below.refl _ _
  obtain ⟨g0, g1, -⟩ := HF.out W hk0
  clear hB0 hG hW hEz h hVz hv
  have l1 : decide (40 < ((S.length : Nat) : Int)) = false := decide_eq_false (by omega)
  have q0 : (((k : Nat) : Int) != 0) = true := by rw [bne_iff_ne]; omega
  have q1 : (((k : Nat) : Int) == 0) = false := by rw [beq_eq_false_iff_ne]; omega
  go_enter Try.func6, Try.ntmps6
  go_wp2_with fail
  rw [← HW.out]
  refine (HLI.out _ (HF.out W hk0).2.2.1).mono ?_
  rintro e x1 ⟨rfl, hb1⟩
  have hk1 : Below W.heap.size W x1 := hk0.trans (hb1.mono hk0.size)
  clear hb1 hk0 g0 g1
  obtain ⟨g0, g1, -⟩ := HF.out x1 hk1
  go_wp2_with fail
  refine (HC.out _ (HF.out x1 hk1).2.2.1).mono ?_
  rintro e x2 ⟨rfl, hb2⟩
  have hk2 : Below W.heap.size W x2 := hk1.trans (hb2.mono hk1.size)
  clear hb2 hk1 g0 g1
  obtain ⟨g0, g1, -⟩ := HF.out x2 hk2
  go_wp2_with fail
  refine (HCU.out _ (HF.out x2 hk2).2.2.1 (HF.out x2 hk2).2.2.2).mono ?_
  rintro e x3 ⟨b7, d7, rfl, hb3⟩
  have hk3 : Below W.heap.size W x3 := hk2.trans (hb3.mono hk2.size)
  clear hb3 hk2 g0 g1
  obtain ⟨g0, g1, -⟩ := HF.out x3 hk3
  go_wp2_with fail
  refine (HIN.out _ (HF.out x3 hk3).2.2.1 (HF.out x3 hk3).2.2.2).mono ?_
  rintro e x4 ⟨a9, c9, rfl, hb4⟩
  have hk4 : Below W.heap.size W x4 := hk3.trans (hb4.mono hk3.size)
  clear hb4 hk3 g0 g1
  obtain ⟨g0, g1, -⟩ := HF.out x4 hk4
  obtain ⟨Y1, hY1⟩ : ∃ Y, Y = x4.alloc (Obj.cells #[.int .i64 0, .slice a9 0 c9] 24) := ⟨_, rfl⟩
  have hy : Below x4.heap.size x4 Y1 := by rw [hY1]; exact (Below.refl _ _).alloc (Nat.le_refl _) _
  have hz : Below W.heap.size W Y1 := hk4.trans (hy.mono hk4.size)
  have hQ : Blk Y1 x4.heap.size 24 #[.int .i64 0, .slice a9 0 c9] := by rw [hY1]; exact Blk.new _ _ _
  have HBY1 : Hid (Below w.heap.size w Y1) := Lib.hid (HB0.out.trans (hz.mono HB0.out.size))
  have HFY1 : Hid (∀ x, Below Y1.heap.size Y1 x → x.cell? ⟨w.heap.size, 0, none⟩ = some (.int .i64 n) ∧ x.cell? ⟨w.heap.size, 1, none⟩ = some (.slice a L.length cap) ∧ x.cell? ⟨x4.heap.size, 0, none⟩ = some (.int .i64 0) ∧ x.cell? ⟨x4.heap.size, 1, none⟩ = some (.slice a9 0 c9) ∧ EsAt x a L ∧ IsAt x b S) := Lib.hid fun x hx => ⟨(HF.out x (hz.trans (hx.mono hz.size))).1, (HF.out x (hz.trans (hx.mono hz.size))).2.1, (hQ.below hx hQ.lt).cell 0, (hQ.below hx hQ.lt).cell 1, (HF.out x (hz.trans (hx.mono hz.size))).2.2.1, (HF.out x (hz.trans (hx.mono hz.size))).2.2.2⟩
  clear g0 g1 hk4 hz hQ hy
  have hk0 : Below Y1.heap.size Y1 Y1 := Below.refl _ _
  have g0 : (x4.alloc (Obj.cells #[.int .i64 0, .slice a9 0 c9] 24)).cell? ⟨w.heap.size, 0, none⟩ = some (.int .i64 n) := by rw [← hY1]; exact (HFY1.out _ hk0).1
  have g1 : (x4.alloc (Obj.cells #[.int .i64 0, .slice a9 0 c9] 24)).cell? ⟨w.heap.size, 1, none⟩ = some (.slice a L.length cap) := by rw [← hY1]; exact (HFY1.out _ hk0).2.1
  have g2 : (x4.alloc (Obj.cells #[.int .i64 0, .slice a9 0 c9] 24)).cell? ⟨x4.heap.size, 0, none⟩ = some (.int .i64 0) := by rw [← hY1]; exact (HFY1.out _ hk0).2.2.1
  have g3 : (x4.alloc (Obj.cells #[.int .i64 0, .slice a9 0 c9] 24)).cell? ⟨x4.heap.size, 1, none⟩ = some (.slice a9 0 c9) := by rw [← hY1]; exact (HFY1.out _ hk0).2.2.2.1
  have HY1 := Lib.hid hY1
  clear hY1
  go_wp2_with fail
  rw [← HY1.out]
  refine (HA _).mono ?_
  rintro e x1 ⟨rfl, hb1⟩
  have hk1 : Below Y1.heap.size Y1 x1 := hk0.trans (hb1.mono hk0.size)
  clear hb1 hk0 g0 g1 g2 g3
  obtain ⟨g0, g1, g2, g3, -⟩ := HFY1.out x1 hk1
  go_wp2_with fail
  refine (HPS.out _ (HFY1.out x1 hk1).2.2.2.2.1 (HFY1.out x1 hk1).2.2.2.2.2).mono ?_
  rintro e x2 ⟨rfl, hb2⟩
  have hk2 : Below Y1.heap.size Y1 x2 := hk1.trans (hb2.mono hk1.size)
  clear hb2 hk1 g0 g1 g2 g3
  obtain ⟨g0, g1, g2, g3, -⟩ := HFY1.out x2 hk2
  go_wp2_with fail
  have hj0 : Below Y1.heap.size Y1 x2.drew := hk2.drew
  refine wp_region_late (S := fun u => Below Y1.heap.size Y1 u) (X := [18]) (by kernel_rfl) ?_
  refine wpAnyL_pureD (i := 0) 85 (.int .i64 (k : Int)) rfl rfl (by kernel_rfl) (by kernel_rfl) (by kernel_rfl) (fun _ _ _ h => h) (Or.inl ⟨by rfl, fun u _ => ?_⟩) ?_
  · go_simp
  try simp only [Act.put, List.setIfInBounds_toArray, List.set_cons_zero, List.set_cons_succ]
  refine wpAnyL_pureD (i := 1) 86 (.bool true) rfl rfl (by kernel_rfl) (by kernel_rfl) (by kernel_rfl) (fun _ _ _ h => h) (Or.inl ⟨by rfl, fun u _ => ?_⟩) ?_
  · go_simp
  try simp only [Act.put, List.setIfInBounds_toArray, List.set_cons_zero, List.set_cons_succ]
  refine wpAnyL_pureD (i := 2) 87 (.bool true) rfl rfl (by kernel_rfl) (by kernel_rfl) (by kernel_rfl) (fun _ _ _ h => h) (Or.inl ⟨by rfl, fun u _ => ?_⟩) ?_
  · go_simp
  try simp only [Act.put, List.setIfInBounds_toArray, List.set_cons_zero, List.set_cons_succ]
  refine wpAnyL_takeD (i := 3) 88 (.agg #[.int .i64 0, .slice a9 0 c9]) rfl rfl (by kernel_rfl) (by kernel_rfl) (by kernel_rfl) (by kernel_rfl) (by kernel_rfl) (fun _ _ _ h => h) hj0 (Or.inl ⟨by rfl, fun u hu => ?_⟩) ?_
  · obtain ⟨t0, t1, t2, t3, -⟩ := HFY1.out u hu
    go_simp
  try simp only [Act.put, List.setIfInBounds_toArray, List.set_cons_zero, List.set_cons_succ]
  refine wpAnyL_pureD (i := 4) 89 (.agg #[.int .i64 0, .slice none 0 0]) rfl rfl (by kernel_rfl) (by kernel_rfl) (by kernel_rfl) (fun _ _ _ h => h) (Or.inl ⟨by rfl, fun u _ => ?_⟩) ?_
  · go_simp
  try simp only [Act.put, List.setIfInBounds_toArray, List.set_cons_zero, List.set_cons_succ]
  refine wpAnyL_one (i := 5) (by kernel_rfl) rfl (fun K hK => ?_)
  go_simp
  go_at_call 25
  refine (HSM 0 a9 none c9 0 [] _ (by simp) (RowAt.nil _ _ _ _) (RowAt.nil _ _ _ _)).mono ?_
  rintro e y1 ⟨rfl, hb1⟩
  have hj1 := hj0.trans (hb1.mono hj0.size)
  show K _ _
  refine hK.out _ _ (fun _ _ => hj1) ?_
  clear hK K hb1
  try simp only [Act.put, List.setIfInBounds_toArray, List.set_cons_zero, List.set_cons_succ]
  refine wpAnyL_pureD (i := 6) 91 (.bool true) rfl rfl (by kernel_rfl) (by kernel_rfl) (by kernel_rfl) (fun _ _ _ h => h) (Or.inl ⟨by rfl, fun u _ => ?_⟩) ?_
  · go_simp
  try simp only [Act.put, List.setIfInBounds_toArray, List.set_cons_zero, List.set_cons_succ]
  refine wpAnyL_pureD (i := 7) 92 (.bool true) rfl rfl (by kernel_rfl) (by kernel_rfl) (by kernel_rfl) (fun _ _ _ h => h) (Or.inl ⟨by rfl, fun u _ => ?_⟩) ?_
  · go_simp
  try simp only [Act.put, List.setIfInBounds_toArray, List.set_cons_zero, List.set_cons_succ]
  refine wpAnyL_pureD (i := 8) 93 undef rfl rfl (by kernel_rfl) (by kernel_rfl) (by kernel_rfl) (fun _ _ _ h => h) (Or.inr ⟨by kernel_rfl, rfl⟩) ?_
  try simp only [Act.put, List.setIfInBounds_toArray, List.set_cons_zero, List.set_cons_succ]
  refine wpAnyL_pureD (i := 9) 94 undef rfl rfl (by kernel_rfl) (by kernel_rfl) (by kernel_rfl) (fun _ _ _ h => h) (Or.inr ⟨by kernel_rfl, rfl⟩) ?_
  try simp only [Act.put, List.setIfInBounds_toArray, List.set_cons_zero, List.set_cons_succ]
  refine wpAnyL_pureD (i := 10) 95 undef rfl rfl (by kernel_rfl) (by kernel_rfl) (by kernel_rfl) (fun _ _ _ h => h) (Or.inr ⟨by kernel_rfl, rfl⟩) ?_
  try simp only [Act.put, List.setIfInBounds_toArray, List.set_cons_zero, List.set_cons_succ]
  refine wpAnyL_pureD (i := 11) 96 undef rfl rfl (by kernel_rfl) (by kernel_rfl) (by kernel_rfl) (fun _ _ _ h => h) (Or.inr ⟨by kernel_rfl, rfl⟩) ?_
  try simp only [Act.put, List.setIfInBounds_toArray, List.set_cons_zero, List.set_cons_succ]
  refine wpAnyL_pureD (i := 12) 97 undef rfl rfl (by kernel_rfl) (by kernel_rfl) (by kernel_rfl) (fun _ _ _ h => h) (Or.inr ⟨by kernel_rfl, rfl⟩) ?_
  try simp only [Act.put, List.setIfInBounds_toArray, List.set_cons_zero, List.set_cons_succ]
  refine wpAnyL_pureD (i := 13) 98 undef rfl rfl (by kernel_rfl) (by kernel_rfl) (by kernel_rfl) (fun _ _ _ h => h) (Or.inr ⟨by kernel_rfl, rfl⟩) ?_
  try simp only [Act.put, List.setIfInBounds_toArray, List.set_cons_zero, List.set_cons_succ]
  refine wpAnyL_pureD (i := 14) 99 undef rfl rfl (by kernel_rfl) (by kernel_rfl) (by kernel_rfl) (fun _ _ _ h => h) (Or.inr ⟨by kernel_rfl, rfl⟩) ?_
  try simp only [Act.put, List.setIfInBounds_toArray, List.set_cons_zero, List.set_cons_succ]
  refine wpAnyL_pureD (i := 15) 100 undef rfl rfl (by kernel_rfl) (by kernel_rfl) (by kernel_rfl) (fun _ _ _ h => h) (Or.inr ⟨by kernel_rfl, rfl⟩) ?_
  try simp only [Act.put, List.setIfInBounds_toArray, List.set_cons_zero, List.set_cons_succ]
  refine wpAnyL_pureD (i := 16) 101 undef rfl rfl (by kernel_rfl) (by kernel_rfl) (by kernel_rfl) (fun _ _ _ h => h) (Or.inr ⟨by kernel_rfl, rfl⟩) ?_
  try simp only [Act.put, List.setIfInBounds_toArray, List.set_cons_zero, List.set_cons_succ]
  refine wpAnyL_pureD (i := 17) 102 (.bool true) rfl rfl (by kernel_rfl) (by kernel_rfl) (by kernel_rfl) (fun _ _ _ h => h) (Or.inl ⟨by rfl, fun u _ => ?_⟩) ?_
  · go_simp
  try simp only [Act.put, List.setIfInBounds_toArray, List.set_cons_zero, List.set_cons_succ]
  refine wpAnyL_one (i := 18) (by kernel_rfl) rfl (fun K hK => ?_)
  go_simp
  refine hK.out _ _ (fun h => absurd (by decide) h) ?_
  clear hK K
  refine wpAnyL_done (by kernel_rfl) ?_ _
  try simp only [Act.put, List.setIfInBounds_toArray, List.set_cons_zero, List.set_cons_succ]
  have hend := hj1
  have HEND := Lib.hid (HBY1.out.trans (hend.mono HBY1.out.size))
  clear hend hj0
  go_wp2
  go_ret
  exact ⟨rfl, HEND.out⟩
set_option maxHeartbeats 12800000 in
set_option maxRecDepth 100000 in
theorem cuts_set (n : Int) (a : Option Addr) (cap : Nat) (L : List E) (b : Option Addr) (c : Nat) (S : List Int) (k : Nat) (hk : k ≠ 0) (hS : S.length ≤ 40) (HLI : Hid (∀ w, EsAt w a L → Calls Try.prog 12 #[.agg #[.int .i64 n, .slice a L.length cap]] w (fun e w' => e = .returned (.bool true) ∧ Below w.heap.size w w'))) (HA : Awake) (HC : Hid (∀ w, EsAt w a L → Calls Try.prog 14 #[.agg #[.int .i64 n, .slice a L.length cap]] w (fun e w' => e = .returned (.int .i64 0) ∧ Below w.heap.size w w'))) (HRS : Hid (∀ w, EsAt w a L → IsAt w b S → Calls Try.prog 36 #[.agg #[.int .i64 n, .slice a L.length cap], .slice b S.length c] w (fun e w' => e = .returned (.int .i64 (k : Int)) ∧ Below w.heap.size w w'))) (HCU : Hid (∀ w, EsAt w a L → IsAt w b S → Calls Try.prog 37 #[.agg #[.int .i64 n, .slice a L.length cap], .slice b S.length c] w (fun e w' => ∃ b d, e = .returned (.tuple #[.slice b 0 d, .int .i64 (k : Int)]) ∧ Below w.heap.size w w'))) (HIN : Hid (∀ w, EsAt w a L → IsAt w b S → Calls Try.prog 38 #[.agg #[.int .i64 n, .slice a L.length cap], .slice b S.length c] w (fun e w' => ∃ a c, e = .returned (.tuple #[.agg #[.int .i64 0, .slice a 0 c], .int .i64 (k : Int)]) ∧ Below w.heap.size w w'))) (HPS : Hid (∀ w, EsAt w a L → IsAt w b S → Calls Try.prog 39 #[.agg #[.int .i64 n, .slice a L.length cap], .slice b S.length c] w (fun e w' => e = .returned (.int .i64 (k : Int)) ∧ Below w.heap.size w w'))) (HSM : ∀ m a1 a2 c1 c2 (M : List E) w, M.length ≤ 100000 → EsAt w a1 M → EsAt w a2 M → Calls Try.prog 25 #[.agg #[.int .i64 m, .slice a1 M.length c1], .agg #[.int .i64 m, .slice a2 M.length c2]] w (fun e w' => e = .returned (.bool true) ∧ Below w.heap.size w w')) (w : World) (h : EsAt w a L) (hv : IsAt w b S) :
    Calls Try.prog 6 #[gv n a L.length cap, .slice b S.length c] w (GivesB w true) := by
  unfold GivesB gv
  obtain ⟨W, hW⟩ : ∃ W, W = w.alloc (Obj.cells #[.int .i64 n, .slice a L.length cap] 24) := ⟨_, rfl⟩
  have hB0 : Below w.heap.size w W := by rw [hW]; exact (Below.refl _ w).alloc (Nat.le_refl _) _
  have hG : Blk W w.heap.size 24 #[.int .i64 n, .slice a L.length cap] := by rw [hW]; exact Blk.new _ _ _
  have HW := Lib.hid hW
  have HB0 := Lib.hid hB0
  have hEz : EsAt W a L := h.keep hB0
  have hVz : IsAt W b S := hv.keep hB0
  have HF : Hid (∀ x, Below W.heap.size W x → x.cell? ⟨w.heap.size, 0, none⟩ = some (.int .i64 n) ∧ x.cell? ⟨w.heap.size, 1, none⟩ = some (.slice a L.length cap) ∧ EsAt x a L ∧ IsAt x b S) := Lib.hid fun x hx => ⟨(hG.below hx hG.lt).cell 0, (hG.below hx hG.lt).cell 1, hEz.keep hx, hVz.keep hx⟩
  have hk0 : Below W.heap.size W W := Below.refl _ _
  obtain ⟨g0, g1, -⟩ := HF.out W hk0
  clear hB0 hG hW hEz h hVz hv
  have l1 : decide (40 < ((S.length : Nat) : Int)) = false := decide_eq_false (by omega)
  have q0 : (((k : Nat) : Int) != 0) = true := by rw [bne_iff_ne]; omega
  have q1 : (((k : Nat) : Int) == 0) = false := by rw [beq_eq_false_iff_ne]; omega
  go_enter Try.func6, Try.ntmps6
  go_wp2_with fail
  rw [← HW.out]
  refine (HLI.out _ (HF.out W hk0).2.2.1).mono ?_
  rintro e x1 ⟨rfl, hb1⟩
  have hk1 : Below W.heap.size W x1 := hk0.trans (hb1.mono hk0.size)
  clear hb1 hk0 g0 g1
  obtain ⟨g0, g1, -⟩ := HF.out x1 hk1
  go_wp2_with fail
  refine (HC.out _ (HF.out x1 hk1).2.2.1).mono ?_
  rintro e x2 ⟨rfl, hb2⟩
  have hk2 : Below W.heap.size W x2 := hk1.trans (hb2.mono hk1.size)
  clear hb2 hk1 g0 g1
  obtain ⟨g0, g1, -⟩ := HF.out x2 hk2
  go_wp2_with fail
  refine (HRS.out _ (HF.out x2 hk2).2.2.1 (HF.out x2 hk2).2.2.2).mono ?_
  rintro e x3 ⟨rfl, hb3⟩
  have hk3 : Below W.heap.size W x3 := hk2.trans (hb3.mono hk2.size)
  clear hb3 hk2 g0 g1
  obtain ⟨g0, g1, -⟩ := HF.out x3 hk3
  go_wp2_with fail
  refine (HCU.out _ (HF.out x3 hk3).2.2.1 (HF.out x3 hk3).2.2.2).mono ?_
  rintro e x4 ⟨b7, d7, rfl, hb4⟩
  have hk4 : Below W.heap.size W x4 := hk3.trans (hb4.mono hk3.size)
  clear hb4 hk3 g0 g1
  obtain ⟨g0, g1, -⟩ := HF.out x4 hk4
  go_wp2_with fail
  refine (HIN.out _ (HF.out x4 hk4).2.2.1 (HF.out x4 hk4).2.2.2).mono ?_
  rintro e x5 ⟨a9, c9, rfl, hb5⟩
  have hk5 : Below W.heap.size W x5 := hk4.trans (hb5.mono hk4.size)
  clear hb5 hk4 g0 g1
  obtain ⟨g0, g1, -⟩ := HF.out x5 hk5
  obtain ⟨Y1, hY1⟩ : ∃ Y, Y = x5.alloc (Obj.cells #[.int .i64 0, .slice a9 0 c9] 24) := ⟨_, rfl⟩
  have hy : Below x5.heap.size x5 Y1 := by rw [hY1]; exact (Below.refl _ _).alloc (Nat.le_refl _) _
  have hz : Below W.heap.size W Y1 := hk5.trans (hy.mono hk5.size)
  have hQ : Blk Y1 x5.heap.size 24 #[.int .i64 0, .slice a9 0 c9] := by rw [hY1]; exact Blk.new _ _ _
  have HBY1 : Hid (Below w.heap.size w Y1) := Lib.hid (HB0.out.trans (hz.mono HB0.out.size))
  have HFY1 : Hid (∀ x, Below Y1.heap.size Y1 x → x.cell? ⟨w.heap.size, 0, none⟩ = some (.int .i64 n) ∧ x.cell? ⟨w.heap.size, 1, none⟩ = some (.slice a L.length cap) ∧ x.cell? ⟨x5.heap.size, 0, none⟩ = some (.int .i64 0) ∧ x.cell? ⟨x5.heap.size, 1, none⟩ = some (.slice a9 0 c9) ∧ EsAt x a L ∧ IsAt x b S) := Lib.hid fun x hx => ⟨(HF.out x (hz.trans (hx.mono hz.size))).1, (HF.out x (hz.trans (hx.mono hz.size))).2.1, (hQ.below hx hQ.lt).cell 0, (hQ.below hx hQ.lt).cell 1, (HF.out x (hz.trans (hx.mono hz.size))).2.2.1, (HF.out x (hz.trans (hx.mono hz.size))).2.2.2⟩
  clear g0 g1 hk5 hz hQ hy
  have hk0 : Below Y1.heap.size Y1 Y1 := Below.refl _ _
  have g0 : (x5.alloc (Obj.cells #[.int .i64 0, .slice a9 0 c9] 24)).cell? ⟨w.heap.size, 0, none⟩ = some (.int .i64 n) := by rw [← hY1]; exact (HFY1.out _ hk0).1
  have g1 : (x5.alloc (Obj.cells #[.int .i64 0, .slice a9 0 c9] 24)).cell? ⟨w.heap.size, 1, none⟩ = some (.slice a L.length cap) := by rw [← hY1]; exact (HFY1.out _ hk0).2.1
  have g2 : (x5.alloc (Obj.cells #[.int .i64 0, .slice a9 0 c9] 24)).cell? ⟨x5.heap.size, 0, none⟩ = some (.int .i64 0) := by rw [← hY1]; exact (HFY1.out _ hk0).2.2.1
  have g3 : (x5.alloc (Obj.cells #[.int .i64 0, .slice a9 0 c9] 24)).cell? ⟨x5.heap.size, 1, none⟩ = some (.slice a9 0 c9) := by rw [← hY1]; exact (HFY1.out _ hk0).2.2.2.1
  have HY1 := Lib.hid hY1
  clear hY1
  go_wp2_with fail
  rw [← HY1.out]
  refine (HA _).mono ?_
  rintro e x1 ⟨rfl, hb1⟩
  have hk1 : Below Y1.heap.size Y1 x1 := hk0.trans (hb1.mono hk0.size)
  clear hb1 hk0 g0 g1 g2 g3
  obtain ⟨g0, g1, g2, g3, -⟩ := HFY1.out x1 hk1
  go_wp2_with fail
  refine (HPS.out _ (HFY1.out x1 hk1).2.2.2.2.1 (HFY1.out x1 hk1).2.2.2.2.2).mono ?_
  rintro e x2 ⟨rfl, hb2⟩
  have hk2 : Below Y1.heap.size Y1 x2 := hk1.trans (hb2.mono hk1.size)
  clear hb2 hk1 g0 g1 g2 g3
  obtain ⟨g0, g1, g2, g3, -⟩ := HFY1.out x2 hk2
  go_wp2_with fail
  have hj0 : Below Y1.heap.size Y1 x2.drew := hk2.drew
  refine wp_region_late (S := fun u => Below Y1.heap.size Y1 u) (X := [18]) (by kernel_rfl) ?_
  refine wpAnyL_pureD (i := 0) 85 (.int .i64 (k : Int)) rfl rfl (by kernel_rfl) (by kernel_rfl) (by kernel_rfl) (fun _ _ _ h => h) (Or.inl ⟨by rfl, fun u _ => ?_⟩) ?_
  · go_simp
  try simp only [Act.put, List.setIfInBounds_toArray, List.set_cons_zero, List.set_cons_succ]
  refine wpAnyL_pureD (i := 1) 86 (.bool true) rfl rfl (by kernel_rfl) (by kernel_rfl) (by kernel_rfl) (fun _ _ _ h => h) (Or.inl ⟨by rfl, fun u _ => ?_⟩) ?_
  · go_simp
  try simp only [Act.put, List.setIfInBounds_toArray, List.set_cons_zero, List.set_cons_succ]
  refine wpAnyL_pureD (i := 2) 87 (.bool true) rfl rfl (by kernel_rfl) (by kernel_rfl) (by kernel_rfl) (fun _ _ _ h => h) (Or.inl ⟨by rfl, fun u _ => ?_⟩) ?_
  · go_simp
  try simp only [Act.put, List.setIfInBounds_toArray, List.set_cons_zero, List.set_cons_succ]
  refine wpAnyL_takeD (i := 3) 88 (.agg #[.int .i64 0, .slice a9 0 c9]) rfl rfl (by kernel_rfl) (by kernel_rfl) (by kernel_rfl) (by kernel_rfl) (by kernel_rfl) (fun _ _ _ h => h) hj0 (Or.inl ⟨by rfl, fun u hu => ?_⟩) ?_
  · obtain ⟨t0, t1, t2, t3, -⟩ := HFY1.out u hu
    go_simp
  try simp only [Act.put, List.setIfInBounds_toArray, List.set_cons_zero, List.set_cons_succ]
  refine wpAnyL_pureD (i := 4) 89 (.agg #[.int .i64 0, .slice none 0 0]) rfl rfl (by kernel_rfl) (by kernel_rfl) (by kernel_rfl) (fun _ _ _ h => h) (Or.inl ⟨by rfl, fun u _ => ?_⟩) ?_
  · go_simp
  try simp only [Act.put, List.setIfInBounds_toArray, List.set_cons_zero, List.set_cons_succ]
  refine wpAnyL_one (i := 5) (by kernel_rfl) rfl (fun K hK => ?_)
  go_simp
  go_at_call 25
  refine (HSM 0 a9 none c9 0 [] _ (by simp) (RowAt.nil _ _ _ _) (RowAt.nil _ _ _ _)).mono ?_
  rintro e y1 ⟨rfl, hb1⟩
  have hj1 := hj0.trans (hb1.mono hj0.size)
  show K _ _
  refine hK.out _ _ (fun _ _ => hj1) ?_
  clear hK K hb1
  try simp only [Act.put, List.setIfInBounds_toArray, List.set_cons_zero, List.set_cons_succ]
  refine wpAnyL_pureD (i := 6) 91 (.bool true) rfl rfl (by kernel_rfl) (by kernel_rfl) (by kernel_rfl) (fun _ _ _ h => h) (Or.inl ⟨by rfl, fun u _ => ?_⟩) ?_
  · go_simp
  try simp only [Act.put, List.setIfInBounds_toArray, List.set_cons_zero, List.set_cons_succ]
  refine wpAnyL_pureD (i := 7) 92 (.bool true) rfl rfl (by kernel_rfl) (by kernel_rfl) (by kernel_rfl) (fun _ _ _ h => h) (Or.inl ⟨by rfl, fun u _ => ?_⟩) ?_
  · go_simp
  try simp only [Act.put, List.setIfInBounds_toArray, List.set_cons_zero, List.set_cons_succ]
  refine wpAnyL_pureD (i := 8) 93 undef rfl rfl (by kernel_rfl) (by kernel_rfl) (by kernel_rfl) (fun _ _ _ h => h) (Or.inr ⟨by kernel_rfl, rfl⟩) ?_
  try simp only [Act.put, List.setIfInBounds_toArray, List.set_cons_zero, List.set_cons_succ]
  refine wpAnyL_pureD (i := 9) 94 undef rfl rfl (by kernel_rfl) (by kernel_rfl) (by kernel_rfl) (fun _ _ _ h => h) (Or.inr ⟨by kernel_rfl, rfl⟩) ?_
  try simp only [Act.put, List.setIfInBounds_toArray, List.set_cons_zero, List.set_cons_succ]
  refine wpAnyL_pureD (i := 10) 95 undef rfl rfl (by kernel_rfl) (by kernel_rfl) (by kernel_rfl) (fun _ _ _ h => h) (Or.inr ⟨by kernel_rfl, rfl⟩) ?_
  try simp only [Act.put, List.setIfInBounds_toArray, List.set_cons_zero, List.set_cons_succ]
  refine wpAnyL_pureD (i := 11) 96 undef rfl rfl (by kernel_rfl) (by kernel_rfl) (by kernel_rfl) (fun _ _ _ h => h) (Or.inr ⟨by kernel_rfl, rfl⟩) ?_
  try simp only [Act.put, List.setIfInBounds_toArray, List.set_cons_zero, List.set_cons_succ]
  refine wpAnyL_pureD (i := 12) 97 undef rfl rfl (by kernel_rfl) (by kernel_rfl) (by kernel_rfl) (fun _ _ _ h => h) (Or.inr ⟨by kernel_rfl, rfl⟩) ?_
  try simp only [Act.put, List.setIfInBounds_toArray, List.set_cons_zero, List.set_cons_succ]
  refine wpAnyL_pureD (i := 13) 98 undef rfl rfl (by kernel_rfl) (by kernel_rfl) (by kernel_rfl) (fun _ _ _ h => h) (Or.inr ⟨by kernel_rfl, rfl⟩) ?_
  try simp only [Act.put, List.setIfInBounds_toArray, List.set_cons_zero, List.set_cons_succ]
  refine wpAnyL_pureD (i := 14) 99 undef rfl rfl (by kernel_rfl) (by kernel_rfl) (by kernel_rfl) (fun _ _ _ h => h) (Or.inr ⟨by kernel_rfl, rfl⟩) ?_
  try simp only [Act.put, List.setIfInBounds_toArray, List.set_cons_zero, List.set_cons_succ]
  refine wpAnyL_pureD (i := 15) 100 undef rfl rfl (by kernel_rfl) (by kernel_rfl) (by kernel_rfl) (fun _ _ _ h => h) (Or.inr ⟨by kernel_rfl, rfl⟩) ?_
  try simp only [Act.put, List.setIfInBounds_toArray, List.set_cons_zero, List.set_cons_succ]
  refine wpAnyL_pureD (i := 16) 101 undef rfl rfl (by kernel_rfl) (by kernel_rfl) (by kernel_rfl) (fun _ _ _ h => h) (Or.inr ⟨by kernel_rfl, rfl⟩) ?_
  try simp only [Act.put, List.setIfInBounds_toArray, List.set_cons_zero, List.set_cons_succ]
  refine wpAnyL_pureD (i := 17) 102 (.bool true) rfl rfl (by kernel_rfl) (by kernel_rfl) (by kernel_rfl) (fun _ _ _ h => h) (Or.inl ⟨by rfl, fun u _ => ?_⟩) ?_
  · go_simp
  try simp only [Act.put, List.setIfInBounds_toArray, List.set_cons_zero, List.set_cons_succ]
  refine wpAnyL_one (i := 18) (by kernel_rfl) rfl (fun K hK => ?_)
  go_simp
  refine hK.out _ _ (fun h => absurd (by decide) h) ?_
  clear hK K
  refine wpAnyL_done (by kernel_rfl) ?_ _
  try simp only [Act.put, List.setIfInBounds_toArray, List.set_cons_zero, List.set_cons_succ]
  have hend := hj1
  have HEND := Lib.hid (HBY1.out.trans (hend.mono HBY1.out.size))
  clear hend hj0
  go_wp2
  go_ret
  exact ⟨rfl, HEND.out⟩
set_option maxHeartbeats 12800000 in
set_option maxRecDepth 100000 in
theorem cuts_empty (n : Int) (a : Option Addr) (cap : Nat) (L : List E) (b : Option Addr) (c : Nat) (K : List Int) (HLI : Hid (∀ w, EsAt w a L → Calls Try.prog 12 #[.agg #[.int .i64 n, .slice a L.length cap]] w (fun e w' => e = .returned (.bool true) ∧ Below w.heap.size w w'))) (HA : Awake) (HC : Hid (∀ w, EsAt w a L → Calls Try.prog 14 #[.agg #[.int .i64 n, .slice a L.length cap]] w (fun e w' => e = .returned (.int .i64 0) ∧ Below w.heap.size w w'))) (HRS : Hid (∀ w, EsAt w a L → IsAt w b [] → Calls Try.prog 36 #[.agg #[.int .i64 n, .slice a L.length cap], .slice b 0 c] w (fun e w' => e = .returned (.int .i64 0) ∧ Below w.heap.size w w'))) (HCU : Hid (∀ w, EsAt w a L → IsAt w b [] → Calls Try.prog 37 #[.agg #[.int .i64 n, .slice a L.length cap], .slice b 0 c] w (fun e w' => ∃ b d, e = .returned (.tuple #[.slice b K.length d, .int .i64 0]) ∧ IsAt w' b K ∧ Below w.heap.size w w'))) (HIN : Hid (∀ w, EsAt w a L → IsAt w b [] → Calls Try.prog 38 #[.agg #[.int .i64 n, .slice a L.length cap], .slice b 0 c] w (fun e w' => ∃ a c, e = .returned (.tuple #[.agg #[.int .i64 0, .slice a 0 c], .int .i64 14]) ∧ Below w.heap.size w w'))) (HPS : Hid (∀ w, EsAt w a L → IsAt w b [] → Calls Try.prog 39 #[.agg #[.int .i64 n, .slice a L.length cap], .slice b 0 c] w (fun e w' => e = .returned (.int .i64 0) ∧ Below w.heap.size w w'))) (HRC : Hid (∀ w, EsAt w a L → IsAt w b [] → Calls Try.prog 40 #[.agg #[.int .i64 n, .slice a L.length cap], .slice b 0 c] w (fun e w' => ∃ b d, e = .returned (.slice b K.length d) ∧ IsAt w' b K ∧ Below w.heap.size w w'))) (HEQ : ∀ b d b2 d2 w, IsAt w b K → IsAt w b2 K → Calls Try.prog 34 #[.slice b K.length d, .slice b2 K.length d2] w (fun e w' => e = .returned (.bool true) ∧ Below w.heap.size w w')) (HSM : ∀ m a1 a2 c1 c2 (M : List E) w, M.length ≤ 100000 → EsAt w a1 M → EsAt w a2 M → Calls Try.prog 25 #[.agg #[.int .i64 m, .slice a1 M.length c1], .agg #[.int .i64 m, .slice a2 M.length c2]] w (fun e w' => e = .returned (.bool true) ∧ Below w.heap.size w w')) (w : World) (h : EsAt w a L) (hv : IsAt w b []) :
    Calls Try.prog 6 #[gv n a L.length cap, .slice b 0 c] w (GivesB w true) := by
  unfold GivesB gv
  obtain ⟨W, hW⟩ : ∃ W, W = w.alloc (Obj.cells #[.int .i64 n, .slice a L.length cap] 24) := ⟨_, rfl⟩
  have hB0 : Below w.heap.size w W := by rw [hW]; exact (Below.refl _ w).alloc (Nat.le_refl _) _
  have hG : Blk W w.heap.size 24 #[.int .i64 n, .slice a L.length cap] := by rw [hW]; exact Blk.new _ _ _
  have HW := Lib.hid hW
  have HB0 := Lib.hid hB0
  have hEz : EsAt W a L := h.keep hB0
  have hVz : IsAt W b [] := hv.keep hB0
  have HF : Hid (∀ x, Below W.heap.size W x → x.cell? ⟨w.heap.size, 0, none⟩ = some (.int .i64 n) ∧ x.cell? ⟨w.heap.size, 1, none⟩ = some (.slice a L.length cap) ∧ EsAt x a L ∧ IsAt x b []) := Lib.hid fun x hx => ⟨(hG.below hx hG.lt).cell 0, (hG.below hx hG.lt).cell 1, hEz.keep hx, hVz.keep hx⟩
  have hk0 : Below W.heap.size W W := Below.refl _ _
  obtain ⟨g0, g1, -⟩ := HF.out W hk0
  clear hB0 hG hW hEz h hVz hv
  go_enter Try.func6, Try.ntmps6
  go_wp2_with fail
  rw [← HW.out]
  refine (HLI.out _ (HF.out W hk0).2.2.1).mono ?_
  rintro e x1 ⟨rfl, hb1⟩
  have hk1 : Below W.heap.size W x1 := hk0.trans (hb1.mono hk0.size)
  clear hb1 hk0 g0 g1
  obtain ⟨g0, g1, -⟩ := HF.out x1 hk1
  go_wp2_with fail
  refine (HC.out _ (HF.out x1 hk1).2.2.1).mono ?_
  rintro e x2 ⟨rfl, hb2⟩
  have hk2 : Below W.heap.size W x2 := hk1.trans (hb2.mono hk1.size)
  clear hb2 hk1 g0 g1
  obtain ⟨g0, g1, -⟩ := HF.out x2 hk2
  go_wp2_with fail
  refine (HRS.out _ (HF.out x2 hk2).2.2.1 (HF.out x2 hk2).2.2.2).mono ?_
  rintro e x3 ⟨rfl, hb3⟩
  have hk3 : Below W.heap.size W x3 := hk2.trans (hb3.mono hk2.size)
  clear hb3 hk2 g0 g1
  obtain ⟨g0, g1, -⟩ := HF.out x3 hk3
  go_wp2_with fail
  refine (HCU.out _ (HF.out x3 hk3).2.2.1 (HF.out x3 hk3).2.2.2).mono ?_
  rintro e x4 ⟨b7, d7, rfl, hK_4, hb4⟩
  have hk4 : Below W.heap.size W x4 := hk3.trans (hb4.mono hk3.size)
  clear hb4 hk3 g0 g1
  obtain ⟨g0, g1, -⟩ := HF.out x4 hk4
  go_wp2_with fail
  refine (HIN.out _ (HF.out x4 hk4).2.2.1 (HF.out x4 hk4).2.2.2).mono ?_
  rintro e x5 ⟨a9, c9, rfl, hb5⟩
  have hk5 : Below W.heap.size W x5 := hk4.trans (hb5.mono hk4.size)
  have hK_5 := hK_4.keep hb5
  clear hb5 hk4 g0 g1 hK_4
  obtain ⟨g0, g1, -⟩ := HF.out x5 hk5
  obtain ⟨Y1, hY1⟩ : ∃ Y, Y = x5.alloc (Obj.cells #[.int .i64 0, .slice a9 0 c9] 24) := ⟨_, rfl⟩
  have hy : Below x5.heap.size x5 Y1 := by rw [hY1]; exact (Below.refl _ _).alloc (Nat.le_refl _) _
  have hz : Below W.heap.size W Y1 := hk5.trans (hy.mono hk5.size)
  have hQ : Blk Y1 x5.heap.size 24 #[.int .i64 0, .slice a9 0 c9] := by rw [hY1]; exact Blk.new _ _ _
  have HBY1 : Hid (Below w.heap.size w Y1) := Lib.hid (HB0.out.trans (hz.mono HB0.out.size))
  have HFY1 : Hid (∀ x, Below Y1.heap.size Y1 x → x.cell? ⟨w.heap.size, 0, none⟩ = some (.int .i64 n) ∧ x.cell? ⟨w.heap.size, 1, none⟩ = some (.slice a L.length cap) ∧ x.cell? ⟨x5.heap.size, 0, none⟩ = some (.int .i64 0) ∧ x.cell? ⟨x5.heap.size, 1, none⟩ = some (.slice a9 0 c9) ∧ EsAt x a L ∧ IsAt x b [] ∧ IsAt x b7 K) := Lib.hid fun x hx => ⟨(HF.out x (hz.trans (hx.mono hz.size))).1, (HF.out x (hz.trans (hx.mono hz.size))).2.1, (hQ.below hx hQ.lt).cell 0, (hQ.below hx hQ.lt).cell 1, (HF.out x (hz.trans (hx.mono hz.size))).2.2.1, (HF.out x (hz.trans (hx.mono hz.size))).2.2.2, (hK_5.keep hy).keep hx⟩
  clear g0 g1 hk5 hz hQ hy hK_5
  have hk0 : Below Y1.heap.size Y1 Y1 := Below.refl _ _
  have g0 : (x5.alloc (Obj.cells #[.int .i64 0, .slice a9 0 c9] 24)).cell? ⟨w.heap.size, 0, none⟩ = some (.int .i64 n) := by rw [← hY1]; exact (HFY1.out _ hk0).1
  have g1 : (x5.alloc (Obj.cells #[.int .i64 0, .slice a9 0 c9] 24)).cell? ⟨w.heap.size, 1, none⟩ = some (.slice a L.length cap) := by rw [← hY1]; exact (HFY1.out _ hk0).2.1
  have g2 : (x5.alloc (Obj.cells #[.int .i64 0, .slice a9 0 c9] 24)).cell? ⟨x5.heap.size, 0, none⟩ = some (.int .i64 0) := by rw [← hY1]; exact (HFY1.out _ hk0).2.2.1
  have g3 : (x5.alloc (Obj.cells #[.int .i64 0, .slice a9 0 c9] 24)).cell? ⟨x5.heap.size, 1, none⟩ = some (.slice a9 0 c9) := by rw [← hY1]; exact (HFY1.out _ hk0).2.2.2.1
  have HY1 := Lib.hid hY1
  clear hY1
  go_wp2_with fail
  rw [← HY1.out]
  refine (HA _).mono ?_
  rintro e x1 ⟨rfl, hb1⟩
  have hk1 : Below Y1.heap.size Y1 x1 := hk0.trans (hb1.mono hk0.size)
  clear hb1 hk0 g0 g1 g2 g3
  obtain ⟨g0, g1, g2, g3, -⟩ := HFY1.out x1 hk1
  go_wp2_with fail
  refine (HPS.out _ (HFY1.out x1 hk1).2.2.2.2.1 (HFY1.out x1 hk1).2.2.2.2.2.1).mono ?_
  rintro e x2 ⟨rfl, hb2⟩
  have hk2 : Below Y1.heap.size Y1 x2 := hk1.trans (hb2.mono hk1.size)
  clear hb2 hk1 g0 g1 g2 g3
  obtain ⟨g0, g1, g2, g3, -⟩ := HFY1.out x2 hk2
  go_wp2_with fail
  refine (HRC.out _ (HFY1.out x2 hk2).2.2.2.2.1 (HFY1.out x2 hk2).2.2.2.2.2.1).mono ?_
  rintro e x3 ⟨b6, d6, rfl, hM_3, hb3⟩
  have hk3 : Below Y1.heap.size Y1 x3 := hk2.trans (hb3.mono hk2.size)
  clear hb3 hk2 g0 g1 g2 g3
  obtain ⟨g0, g1, g2, g3, -⟩ := HFY1.out x3 hk3
  go_wp2_with fail
  refine (HEQ _ _ _ _ _ (HFY1.out x3 hk3).2.2.2.2.2.2 hM_3).mono ?_
  rintro e x4 ⟨rfl, hb4⟩
  have hk4 : Below Y1.heap.size Y1 x4 := hk3.trans (hb4.mono hk3.size)
  have hM_4 := hM_3.keep hb4
  clear hb4 hk3 g0 g1 g2 g3 hM_3
  obtain ⟨g0, g1, g2, g3, -⟩ := HFY1.out x4 hk4
  go_wp2_with fail
  have hj0 : Below Y1.heap.size Y1 x4.drew := hk4.drew
  refine wp_region_late (S := fun u => Below Y1.heap.size Y1 u) (X := [18]) (by kernel_rfl) ?_
  have hM_j0 := hM_4.keep ((Below.refl _ x4).drew)
  refine wpAnyL_pureD (i := 0) 85 (.int .i64 14) rfl rfl (by kernel_rfl) (by kernel_rfl) (by kernel_rfl) (fun _ _ _ h => h) (Or.inl ⟨by rfl, fun u _ => ?_⟩) ?_
  · go_simp
  try simp only [Act.put, List.setIfInBounds_toArray, List.set_cons_zero, List.set_cons_succ]
  refine wpAnyL_pureD (i := 1) 86 (.bool true) rfl rfl (by kernel_rfl) (by kernel_rfl) (by kernel_rfl) (fun _ _ _ h => h) (Or.inl ⟨by rfl, fun u _ => ?_⟩) ?_
  · go_simp
  try simp only [Act.put, List.setIfInBounds_toArray, List.set_cons_zero, List.set_cons_succ]
  refine wpAnyL_pureD (i := 2) 87 (.bool true) rfl rfl (by kernel_rfl) (by kernel_rfl) (by kernel_rfl) (fun _ _ _ h => h) (Or.inl ⟨by rfl, fun u _ => ?_⟩) ?_
  · go_simp
  try simp only [Act.put, List.setIfInBounds_toArray, List.set_cons_zero, List.set_cons_succ]
  refine wpAnyL_takeD (i := 3) 88 (.agg #[.int .i64 0, .slice a9 0 c9]) rfl rfl (by kernel_rfl) (by kernel_rfl) (by kernel_rfl) (by kernel_rfl) (by kernel_rfl) (fun _ _ _ h => h) hj0 (Or.inl ⟨by rfl, fun u hu => ?_⟩) ?_
  · obtain ⟨t0, t1, t2, t3, -⟩ := HFY1.out u hu
    go_simp
  try simp only [Act.put, List.setIfInBounds_toArray, List.set_cons_zero, List.set_cons_succ]
  refine wpAnyL_pureD (i := 4) 89 (.agg #[.int .i64 0, .slice none 0 0]) rfl rfl (by kernel_rfl) (by kernel_rfl) (by kernel_rfl) (fun _ _ _ h => h) (Or.inl ⟨by rfl, fun u _ => ?_⟩) ?_
  · go_simp
  try simp only [Act.put, List.setIfInBounds_toArray, List.set_cons_zero, List.set_cons_succ]
  refine wpAnyL_one (i := 5) (by kernel_rfl) rfl (fun K hK => ?_)
  go_simp
  go_at_call 25
  refine (HSM 0 a9 none c9 0 [] _ (by simp) (RowAt.nil _ _ _ _) (RowAt.nil _ _ _ _)).mono ?_
  rintro e y1 ⟨rfl, hb1⟩
  have hj1 := hj0.trans (hb1.mono hj0.size)
  have hM_j1 := hM_j0.keep hb1
  show K _ _
  refine hK.out _ _ (fun _ _ => hj1) ?_
  clear hK K hb1
  try simp only [Act.put, List.setIfInBounds_toArray, List.set_cons_zero, List.set_cons_succ]
  refine wpAnyL_pureD (i := 6) 91 (.bool true) rfl rfl (by kernel_rfl) (by kernel_rfl) (by kernel_rfl) (fun _ _ _ h => h) (Or.inl ⟨by rfl, fun u _ => ?_⟩) ?_
  · go_simp
  try simp only [Act.put, List.setIfInBounds_toArray, List.set_cons_zero, List.set_cons_succ]
  refine wpAnyL_pureD (i := 7) 92 (.bool true) rfl rfl (by kernel_rfl) (by kernel_rfl) (by kernel_rfl) (fun _ _ _ h => h) (Or.inl ⟨by rfl, fun u _ => ?_⟩) ?_
  · go_simp
  try simp only [Act.put, List.setIfInBounds_toArray, List.set_cons_zero, List.set_cons_succ]
  refine wpAnyL_pureD (i := 8) 93 undef rfl rfl (by kernel_rfl) (by kernel_rfl) (by kernel_rfl) (fun _ _ _ h => h) (Or.inr ⟨by kernel_rfl, rfl⟩) ?_
  try simp only [Act.put, List.setIfInBounds_toArray, List.set_cons_zero, List.set_cons_succ]
  refine wpAnyL_pureD (i := 9) 94 undef rfl rfl (by kernel_rfl) (by kernel_rfl) (by kernel_rfl) (fun _ _ _ h => h) (Or.inr ⟨by kernel_rfl, rfl⟩) ?_
  try simp only [Act.put, List.setIfInBounds_toArray, List.set_cons_zero, List.set_cons_succ]
  refine wpAnyL_pureD (i := 10) 95 undef rfl rfl (by kernel_rfl) (by kernel_rfl) (by kernel_rfl) (fun _ _ _ h => h) (Or.inr ⟨by kernel_rfl, rfl⟩) ?_
  try simp only [Act.put, List.setIfInBounds_toArray, List.set_cons_zero, List.set_cons_succ]
  refine wpAnyL_pureD (i := 11) 96 undef rfl rfl (by kernel_rfl) (by kernel_rfl) (by kernel_rfl) (fun _ _ _ h => h) (Or.inr ⟨by kernel_rfl, rfl⟩) ?_
  try simp only [Act.put, List.setIfInBounds_toArray, List.set_cons_zero, List.set_cons_succ]
  refine wpAnyL_pureD (i := 12) 97 undef rfl rfl (by kernel_rfl) (by kernel_rfl) (by kernel_rfl) (fun _ _ _ h => h) (Or.inr ⟨by kernel_rfl, rfl⟩) ?_
  try simp only [Act.put, List.setIfInBounds_toArray, List.set_cons_zero, List.set_cons_succ]
  refine wpAnyL_pureD (i := 13) 98 undef rfl rfl (by kernel_rfl) (by kernel_rfl) (by kernel_rfl) (fun _ _ _ h => h) (Or.inr ⟨by kernel_rfl, rfl⟩) ?_
  try simp only [Act.put, List.setIfInBounds_toArray, List.set_cons_zero, List.set_cons_succ]
  refine wpAnyL_pureD (i := 14) 99 undef rfl rfl (by kernel_rfl) (by kernel_rfl) (by kernel_rfl) (fun _ _ _ h => h) (Or.inr ⟨by kernel_rfl, rfl⟩) ?_
  try simp only [Act.put, List.setIfInBounds_toArray, List.set_cons_zero, List.set_cons_succ]
  refine wpAnyL_pureD (i := 15) 100 undef rfl rfl (by kernel_rfl) (by kernel_rfl) (by kernel_rfl) (fun _ _ _ h => h) (Or.inr ⟨by kernel_rfl, rfl⟩) ?_
  try simp only [Act.put, List.setIfInBounds_toArray, List.set_cons_zero, List.set_cons_succ]
  refine wpAnyL_pureD (i := 16) 101 undef rfl rfl (by kernel_rfl) (by kernel_rfl) (by kernel_rfl) (fun _ _ _ h => h) (Or.inr ⟨by kernel_rfl, rfl⟩) ?_
  try simp only [Act.put, List.setIfInBounds_toArray, List.set_cons_zero, List.set_cons_succ]
  refine wpAnyL_pureD (i := 17) 102 (.bool true) rfl rfl (by kernel_rfl) (by kernel_rfl) (by kernel_rfl) (fun _ _ _ h => h) (Or.inl ⟨by rfl, fun u _ => ?_⟩) ?_
  · go_simp
  try simp only [Act.put, List.setIfInBounds_toArray, List.set_cons_zero, List.set_cons_succ]
  refine wpAnyL_one (i := 18) (by kernel_rfl) rfl (fun K hK => ?_)
  go_simp
  refine hK.out _ _ (fun h => absurd (by decide) h) ?_
  clear hK K
  refine wpAnyL_done (by kernel_rfl) ?_ _
  try simp only [Act.put, List.setIfInBounds_toArray, List.set_cons_zero, List.set_cons_succ]
  have hend := hj1
  have HEND := Lib.hid (HBY1.out.trans (hend.mono HBY1.out.size))
  clear hend hj0
  go_wp2
  go_ret
  exact ⟨rfl, HEND.out⟩
set_option maxHeartbeats 12800000 in
set_option maxRecDepth 100000 in
theorem cuts_ok (n : Int) (a : Option Addr) (cap : Nat) (L : List E) (b : Option Addr) (c : Nat) (S : List Int) (K : List Int) (m : Int) (J : List E) (hJl : J.length ≤ 100000) (hS : S.length ≤ 40) (hS0 : 0 < S.length) (HLI : Hid (∀ w, EsAt w a L → Calls Try.prog 12 #[.agg #[.int .i64 n, .slice a L.length cap]] w (fun e w' => e = .returned (.bool true) ∧ Below w.heap.size w w'))) (HA : Awake) (HC : Hid (∀ w, EsAt w a L → Calls Try.prog 14 #[.agg #[.int .i64 n, .slice a L.length cap]] w (fun e w' => e = .returned (.int .i64 0) ∧ Below w.heap.size w w'))) (HRS : Hid (∀ w, EsAt w a L → IsAt w b S → Calls Try.prog 36 #[.agg #[.int .i64 n, .slice a L.length cap], .slice b S.length c] w (fun e w' => e = .returned (.int .i64 0) ∧ Below w.heap.size w w'))) (HCU : Hid (∀ w, EsAt w a L → IsAt w b S → Calls Try.prog 37 #[.agg #[.int .i64 n, .slice a L.length cap], .slice b S.length c] w (fun e w' => ∃ b d, e = .returned (.tuple #[.slice b K.length d, .int .i64 0]) ∧ IsAt w' b K ∧ Below w.heap.size w w'))) (HIN : Hid (∀ w, EsAt w a L → IsAt w b S → Calls Try.prog 38 #[.agg #[.int .i64 n, .slice a L.length cap], .slice b S.length c] w (fun e w' => ∃ a c, e = .returned (.tuple #[.agg #[.int .i64 m, .slice a J.length c], .int .i64 0]) ∧ EsAt w' a J ∧ Below w.heap.size w w'))) (HPS : Hid (∀ w, EsAt w a L → IsAt w b S → Calls Try.prog 39 #[.agg #[.int .i64 n, .slice a L.length cap], .slice b S.length c] w (fun e w' => e = .returned (.int .i64 0) ∧ Below w.heap.size w w'))) (HRC : Hid (∀ w, EsAt w a L → IsAt w b S → Calls Try.prog 40 #[.agg #[.int .i64 n, .slice a L.length cap], .slice b S.length c] w (fun e w' => ∃ b d, e = .returned (.slice b K.length d) ∧ IsAt w' b K ∧ Below w.heap.size w w'))) (HEQ : ∀ b d b2 d2 w, IsAt w b K → IsAt w b2 K → Calls Try.prog 34 #[.slice b K.length d, .slice b2 K.length d2] w (fun e w' => e = .returned (.bool true) ∧ Below w.heap.size w w')) (HRI : Hid (∀ w, EsAt w a L → IsAt w b S → Calls Try.prog 41 #[.agg #[.int .i64 n, .slice a L.length cap], .slice b S.length c] w (fun e w' => ∃ a c, e = .returned (.agg #[.int .i64 m, .slice a J.length c]) ∧ EsAt w' a J ∧ Below w.heap.size w w'))) (HSM : ∀ m a1 a2 c1 c2 (M : List E) w, M.length ≤ 100000 → EsAt w a1 M → EsAt w a2 M → Calls Try.prog 25 #[.agg #[.int .i64 m, .slice a1 M.length c1], .agg #[.int .i64 m, .slice a2 M.length c2]] w (fun e w' => e = .returned (.bool true) ∧ Below w.heap.size w w')) (w : World) (h : EsAt w a L) (hv : IsAt w b S) :
    Calls Try.prog 6 #[gv n a L.length cap, .slice b S.length c] w (GivesB w true) := by
  unfold GivesB gv
  obtain ⟨W, hW⟩ : ∃ W, W = w.alloc (Obj.cells #[.int .i64 n, .slice a L.length cap] 24) := ⟨_, rfl⟩
  have hB0 : Below w.heap.size w W := by rw [hW]; exact (Below.refl _ w).alloc (Nat.le_refl _) _
  have hG : Blk W w.heap.size 24 #[.int .i64 n, .slice a L.length cap] := by rw [hW]; exact Blk.new _ _ _
  have HW := Lib.hid hW
  have HB0 := Lib.hid hB0
  have hEz : EsAt W a L := h.keep hB0
  have hVz : IsAt W b S := hv.keep hB0
  have HF : Hid (∀ x, Below W.heap.size W x → x.cell? ⟨w.heap.size, 0, none⟩ = some (.int .i64 n) ∧ x.cell? ⟨w.heap.size, 1, none⟩ = some (.slice a L.length cap) ∧ EsAt x a L ∧ IsAt x b S) := Lib.hid fun x hx => ⟨(hG.below hx hG.lt).cell 0, (hG.below hx hG.lt).cell 1, hEz.keep hx, hVz.keep hx⟩
  have hk0 : Below W.heap.size W W := Below.refl _ _
  obtain ⟨g0, g1, -⟩ := HF.out W hk0
  clear hB0 hG hW hEz h hVz hv
  have l1 : decide (40 < ((S.length : Nat) : Int)) = false := decide_eq_false (by omega)
  have l2 : (((S.length : Nat) : Int) == 0) = false := by rw [beq_eq_false_iff_ne]; omega
  go_enter Try.func6, Try.ntmps6
  go_wp2_with fail
  rw [← HW.out]
  refine (HLI.out _ (HF.out W hk0).2.2.1).mono ?_
  rintro e x1 ⟨rfl, hb1⟩
  have hk1 : Below W.heap.size W x1 := hk0.trans (hb1.mono hk0.size)
  clear hb1 hk0 g0 g1
  obtain ⟨g0, g1, -⟩ := HF.out x1 hk1
  go_wp2_with fail
  refine (HC.out _ (HF.out x1 hk1).2.2.1).mono ?_
  rintro e x2 ⟨rfl, hb2⟩
  have hk2 : Below W.heap.size W x2 := hk1.trans (hb2.mono hk1.size)
  clear hb2 hk1 g0 g1
  obtain ⟨g0, g1, -⟩ := HF.out x2 hk2
  go_wp2_with fail
  refine (HRS.out _ (HF.out x2 hk2).2.2.1 (HF.out x2 hk2).2.2.2).mono ?_
  rintro e x3 ⟨rfl, hb3⟩
  have hk3 : Below W.heap.size W x3 := hk2.trans (hb3.mono hk2.size)
  clear hb3 hk2 g0 g1
  obtain ⟨g0, g1, -⟩ := HF.out x3 hk3
  go_wp2_with fail
  refine (HCU.out _ (HF.out x3 hk3).2.2.1 (HF.out x3 hk3).2.2.2).mono ?_
  rintro e x4 ⟨b7, d7, rfl, hK_4, hb4⟩
  have hk4 : Below W.heap.size W x4 := hk3.trans (hb4.mono hk3.size)
  clear hb4 hk3 g0 g1
  obtain ⟨g0, g1, -⟩ := HF.out x4 hk4
  go_wp2_with fail
  refine (HIN.out _ (HF.out x4 hk4).2.2.1 (HF.out x4 hk4).2.2.2).mono ?_
  rintro e x5 ⟨a9, c9, rfl, hJ_5, hb5⟩
  have hk5 : Below W.heap.size W x5 := hk4.trans (hb5.mono hk4.size)
  have hK_5 := hK_4.keep hb5
  clear hb5 hk4 g0 g1 hK_4
  obtain ⟨g0, g1, -⟩ := HF.out x5 hk5
  obtain ⟨Y1, hY1⟩ : ∃ Y, Y = x5.alloc (Obj.cells #[.int .i64 m, .slice a9 J.length c9] 24) := ⟨_, rfl⟩
  have hy : Below x5.heap.size x5 Y1 := by rw [hY1]; exact (Below.refl _ _).alloc (Nat.le_refl _) _
  have hz : Below W.heap.size W Y1 := hk5.trans (hy.mono hk5.size)
  have hQ : Blk Y1 x5.heap.size 24 #[.int .i64 m, .slice a9 J.length c9] := by rw [hY1]; exact Blk.new _ _ _
  have HBY1 : Hid (Below w.heap.size w Y1) := Lib.hid (HB0.out.trans (hz.mono HB0.out.size))
  have HFY1 : Hid (∀ x, Below Y1.heap.size Y1 x → x.cell? ⟨w.heap.size, 0, none⟩ = some (.int .i64 n) ∧ x.cell? ⟨w.heap.size, 1, none⟩ = some (.slice a L.length cap) ∧ x.cell? ⟨x5.heap.size, 0, none⟩ = some (.int .i64 m) ∧ x.cell? ⟨x5.heap.size, 1, none⟩ = some (.slice a9 J.length c9) ∧ EsAt x a L ∧ IsAt x b S ∧ IsAt x b7 K ∧ EsAt x a9 J) := Lib.hid fun x hx => ⟨(HF.out x (hz.trans (hx.mono hz.size))).1, (HF.out x (hz.trans (hx.mono hz.size))).2.1, (hQ.below hx hQ.lt).cell 0, (hQ.below hx hQ.lt).cell 1, (HF.out x (hz.trans (hx.mono hz.size))).2.2.1, (HF.out x (hz.trans (hx.mono hz.size))).2.2.2, (hK_5.keep hy).keep hx, (hJ_5.keep hy).keep hx⟩
  clear g0 g1 hk5 hz hQ hy hK_5 hJ_5
  have hk0 : Below Y1.heap.size Y1 Y1 := Below.refl _ _
  have g0 : (x5.alloc (Obj.cells #[.int .i64 m, .slice a9 J.length c9] 24)).cell? ⟨w.heap.size, 0, none⟩ = some (.int .i64 n) := by rw [← hY1]; exact (HFY1.out _ hk0).1
  have g1 : (x5.alloc (Obj.cells #[.int .i64 m, .slice a9 J.length c9] 24)).cell? ⟨w.heap.size, 1, none⟩ = some (.slice a L.length cap) := by rw [← hY1]; exact (HFY1.out _ hk0).2.1
  have g2 : (x5.alloc (Obj.cells #[.int .i64 m, .slice a9 J.length c9] 24)).cell? ⟨x5.heap.size, 0, none⟩ = some (.int .i64 m) := by rw [← hY1]; exact (HFY1.out _ hk0).2.2.1
  have g3 : (x5.alloc (Obj.cells #[.int .i64 m, .slice a9 J.length c9] 24)).cell? ⟨x5.heap.size, 1, none⟩ = some (.slice a9 J.length c9) := by rw [← hY1]; exact (HFY1.out _ hk0).2.2.2.1
  have HY1 := Lib.hid hY1
  clear hY1
  go_wp2_with fail
  rw [← HY1.out]
  refine (HA _).mono ?_
  rintro e x1 ⟨rfl, hb1⟩
  have hk1 : Below Y1.heap.size Y1 x1 := hk0.trans (hb1.mono hk0.size)
  clear hb1 hk0 g0 g1 g2 g3
  obtain ⟨g0, g1, g2, g3, -⟩ := HFY1.out x1 hk1
  go_wp2_with fail
  refine (HPS.out _ (HFY1.out x1 hk1).2.2.2.2.1 (HFY1.out x1 hk1).2.2.2.2.2.1).mono ?_
  rintro e x2 ⟨rfl, hb2⟩
  have hk2 : Below Y1.heap.size Y1 x2 := hk1.trans (hb2.mono hk1.size)
  clear hb2 hk1 g0 g1 g2 g3
  obtain ⟨g0, g1, g2, g3, -⟩ := HFY1.out x2 hk2
  go_wp2_with fail
  refine (HRC.out _ (HFY1.out x2 hk2).2.2.2.2.1 (HFY1.out x2 hk2).2.2.2.2.2.1).mono ?_
  rintro e x3 ⟨b6, d6, rfl, hM_3, hb3⟩
  have hk3 : Below Y1.heap.size Y1 x3 := hk2.trans (hb3.mono hk2.size)
  clear hb3 hk2 g0 g1 g2 g3
  obtain ⟨g0, g1, g2, g3, -⟩ := HFY1.out x3 hk3
  go_wp2_with fail
  refine (HEQ _ _ _ _ _ (HFY1.out x3 hk3).2.2.2.2.2.2.1 hM_3).mono ?_
  rintro e x4 ⟨rfl, hb4⟩
  have hk4 : Below Y1.heap.size Y1 x4 := hk3.trans (hb4.mono hk3.size)
  have hM_4 := hM_3.keep hb4
  clear hb4 hk3 g0 g1 g2 g3 hM_3
  obtain ⟨g0, g1, g2, g3, -⟩ := HFY1.out x4 hk4
  go_wp2_with fail
  have hj0 : Below Y1.heap.size Y1 x4.drew := hk4.drew
  refine wp_region_late (S := fun u => Below Y1.heap.size Y1 u) (X := [18]) (by kernel_rfl) ?_
  have hM_j0 := hM_4.keep ((Below.refl _ x4).drew)
  refine wpAnyL_pureD (i := 0) 85 (.int .i64 0) rfl rfl (by kernel_rfl) (by kernel_rfl) (by kernel_rfl) (fun _ _ _ h => h) (Or.inl ⟨by rfl, fun u _ => ?_⟩) ?_
  · go_simp
  try simp only [Act.put, List.setIfInBounds_toArray, List.set_cons_zero, List.set_cons_succ]
  refine wpAnyL_pureD (i := 1) 86 (.bool false) rfl rfl (by kernel_rfl) (by kernel_rfl) (by kernel_rfl) (fun _ _ _ h => h) (Or.inl ⟨by rfl, fun u _ => ?_⟩) ?_
  · go_simp
  try simp only [Act.put, List.setIfInBounds_toArray, List.set_cons_zero, List.set_cons_succ]
  refine wpAnyL_pureD (i := 2) 87 (.bool false) rfl rfl (by kernel_rfl) (by kernel_rfl) (by kernel_rfl) (fun _ _ _ h => h) (Or.inl ⟨by rfl, fun u _ => ?_⟩) ?_
  · go_simp
  try simp only [Act.put, List.setIfInBounds_toArray, List.set_cons_zero, List.set_cons_succ]
  refine wpAnyL_pureD (i := 3) 88 undef rfl rfl (by kernel_rfl) (by kernel_rfl) (by kernel_rfl) (fun _ _ _ h => h) (Or.inr ⟨by kernel_rfl, rfl⟩) ?_
  try simp only [Act.put, List.setIfInBounds_toArray, List.set_cons_zero, List.set_cons_succ]
  refine wpAnyL_pureD (i := 4) 89 undef rfl rfl (by kernel_rfl) (by kernel_rfl) (by kernel_rfl) (fun _ _ _ h => h) (Or.inr ⟨by kernel_rfl, rfl⟩) ?_
  try simp only [Act.put, List.setIfInBounds_toArray, List.set_cons_zero, List.set_cons_succ]
  refine wpAnyL_pureD (i := 5) 90 undef rfl rfl (by kernel_rfl) (by kernel_rfl) (by kernel_rfl) (fun _ _ _ h => h) (Or.inr ⟨by kernel_rfl, rfl⟩) ?_
  try simp only [Act.put, List.setIfInBounds_toArray, List.set_cons_zero, List.set_cons_succ]
  refine wpAnyL_pureD (i := 6) 91 (.bool false) rfl rfl (by kernel_rfl) (by kernel_rfl) (by kernel_rfl) (fun _ _ _ h => h) (Or.inl ⟨by rfl, fun u _ => ?_⟩) ?_
  · go_simp
  try simp only [Act.put, List.setIfInBounds_toArray, List.set_cons_zero, List.set_cons_succ]
  refine wpAnyL_pureD (i := 7) 92 (.bool false) rfl rfl (by kernel_rfl) (by kernel_rfl) (by kernel_rfl) (fun _ _ _ h => h) (Or.inl ⟨by rfl, fun u _ => ?_⟩) ?_
  · go_simp
  try simp only [Act.put, List.setIfInBounds_toArray, List.set_cons_zero, List.set_cons_succ]
  refine wpAnyL_pureD (i := 8) 93 (.int .i64 0) rfl rfl (by kernel_rfl) (by kernel_rfl) (by kernel_rfl) (fun _ _ _ h => h) (Or.inl ⟨by rfl, fun u _ => ?_⟩) ?_
  · go_simp
  try simp only [Act.put, List.setIfInBounds_toArray, List.set_cons_zero, List.set_cons_succ]
  refine wpAnyL_pureD (i := 9) 94 (.bool true) rfl rfl (by kernel_rfl) (by kernel_rfl) (by kernel_rfl) (fun _ _ _ h => h) (Or.inl ⟨by rfl, fun u _ => ?_⟩) ?_
  · go_simp
  try simp only [Act.put, List.setIfInBounds_toArray, List.set_cons_zero, List.set_cons_succ]
  refine wpAnyL_pureD (i := 10) 95 (.bool true) rfl rfl (by kernel_rfl) (by kernel_rfl) (by kernel_rfl) (fun _ _ _ h => h) (Or.inl ⟨by rfl, fun u _ => ?_⟩) ?_
  · go_simp
  try simp only [Act.put, List.setIfInBounds_toArray, List.set_cons_zero, List.set_cons_succ]
  refine wpAnyL_takeD (i := 11) 96 (.agg #[.int .i64 m, .slice a9 J.length c9]) rfl rfl (by kernel_rfl) (by kernel_rfl) (by kernel_rfl) (by kernel_rfl) (by kernel_rfl) (fun _ _ _ h => h) hj0 (Or.inl ⟨by rfl, fun u hu => ?_⟩) ?_
  · obtain ⟨t0, t1, t2, t3, -⟩ := HFY1.out u hu
    go_simp
  try simp only [Act.put, List.setIfInBounds_toArray, List.set_cons_zero, List.set_cons_succ]
  refine wpAnyL_takeD (i := 12) 97 (.agg #[.int .i64 n, .slice a L.length cap]) rfl rfl (by kernel_rfl) (by kernel_rfl) (by kernel_rfl) (by kernel_rfl) (by kernel_rfl) (fun _ _ _ h => h) hj0 (Or.inl ⟨by rfl, fun u hu => ?_⟩) ?_
  · obtain ⟨t0, t1, t2, t3, -⟩ := HFY1.out u hu
    go_simp
  try simp only [Act.put, List.setIfInBounds_toArray, List.set_cons_zero, List.set_cons_succ]
  refine wpAnyL_pureD (i := 13) 98 (.slice b S.length c) rfl rfl (by kernel_rfl) (by kernel_rfl) (by kernel_rfl) (fun _ _ _ h => h) (Or.inl ⟨by rfl, fun u _ => ?_⟩) ?_
  · go_simp
  try simp only [Act.put, List.setIfInBounds_toArray, List.set_cons_zero, List.set_cons_succ]
  refine wpAnyL_one (i := 14) (by kernel_rfl) rfl (fun K hK => ?_)
  go_simp
  go_at_call 41
  refine (HRI.out _ (HFY1.out x4.drew hj0).2.2.2.2.1 (HFY1.out x4.drew hj0).2.2.2.2.2.1).mono ?_
  rintro e y1 ⟨a8, c8, rfl, hI_j1, hb1⟩
  have hj1 := hj0.trans (hb1.mono hj0.size)
  have hM_j1 := hM_j0.keep hb1
  show K _ _
  refine hK.out _ _ (fun _ _ => hj1) ?_
  clear hK K hb1
  try simp only [Act.put, List.setIfInBounds_toArray, List.set_cons_zero, List.set_cons_succ]
  refine wpAnyL_one (i := 15) (by kernel_rfl) rfl (fun K hK => ?_)
  go_simp
  go_at_call 25
  refine (HSM m a9 a8 c9 c8 J _ hJl (HFY1.out y1 hj1).2.2.2.2.2.2.2 hI_j1).mono ?_
  rintro e y2 ⟨rfl, hb2⟩
  have hj2 := hj1.trans (hb2.mono hj1.size)
  have hM_j2 := hM_j1.keep hb2
  have hI_j2 := hI_j1.keep hb2
  show K _ _
  refine hK.out _ _ (fun _ _ => hj2) ?_
  clear hK K hb2
  try simp only [Act.put, List.setIfInBounds_toArray, List.set_cons_zero, List.set_cons_succ]
  refine wpAnyL_pureD (i := 16) 101 (.bool true) rfl rfl (by kernel_rfl) (by kernel_rfl) (by kernel_rfl) (fun _ _ _ h => h) (Or.inl ⟨by rfl, fun u _ => ?_⟩) ?_
  · go_simp
  try simp only [Act.put, List.setIfInBounds_toArray, List.set_cons_zero, List.set_cons_succ]
  refine wpAnyL_pureD (i := 17) 102 (.bool true) rfl rfl (by kernel_rfl) (by kernel_rfl) (by kernel_rfl) (fun _ _ _ h => h) (Or.inl ⟨by rfl, fun u _ => ?_⟩) ?_
  · go_simp
  try simp only [Act.put, List.setIfInBounds_toArray, List.set_cons_zero, List.set_cons_succ]
  refine wpAnyL_one (i := 18) (by kernel_rfl) rfl (fun K hK => ?_)
  go_simp
  refine hK.out _ _ (fun h => absurd (by decide) h) ?_
  clear hK K
  refine wpAnyL_done (by kernel_rfl) ?_ _
  try simp only [Act.put, List.setIfInBounds_toArray, List.set_cons_zero, List.set_cons_succ]
  have hend := hj2
  have HEND := Lib.hid (HBY1.out.trans (hend.mono HBY1.out.size))
  clear hend hj0
  go_wp2
  go_ret
  exact ⟨rfl, HEND.out⟩
theorem same_any (m : Int) (a1 a2 : Option Addr) (c1 c2 : Nat) (M : List E) (w : World) (hM : M.length ≤ 100000) (h1 : EsAt w a1 M) (h2 : EsAt w a2 M) :
    Calls Try.prog 25 #[.agg #[.int .i64 m, .slice a1 M.length c1], .agg #[.int .i64 m, .slice a2 M.length c2]] w (fun e w' => e = .returned (.bool true) ∧ Below w.heap.size w w') := same_true m a1 a2 c1 c2 M hM w h1 h2
theorem equalI_same (K : List Int) (hK : K.length ≤ 1000000) (b : Option Addr) (d : Nat) (b2 : Option Addr) (d2 : Nat) (w : World) (p : IsAt w b K) (q : IsAt w b2 K) :
    Calls Try.prog 34 #[.slice b K.length d, .slice b2 K.length d2] w (fun e w' => e = .returned (.bool true) ∧ Below w.heap.size w w') := by
  have := pequalI_any b b2 d d2 _ _ hK hK w p q
  rw [decide_eq_true rfl] at this
  exact this
theorem chkS_g {n : Int} {L : List E} (h : chkG n L ≠ 0) (S : List Int) : chkS n L S = chkG n L := by unfold chkS; rw [if_pos h]
theorem chkS_s {n : Int} {L : List E} (h : chkG n L = 0) (S : List Int) : chkS n L S = subE n S := by unfold chkS; rw [if_neg (fun h' => h' h)]
theorem cutG_len {n : Int} {L : List E} (hR : Right n L) (hL : L.length ≤ 40) (S : List Int) : (cutG L S).length ≤ 1000000 := by
  have h1 := cutI_le (fun e => outB S (pAt (endsG L) e)) (endsG L).length
  have h2 := ends_all hR
  have h3 : (cutG L S).length ≤ (endsG L).length := h1
  omega
theorem joinT_small (t : Nat → Nat → Int) (n : Nat) (hn : n ≤ 40) : (joinT t n n).length ≤ 100000 := by
  have := joinT_len t n n
  have : n * n ≤ 40 * 40 := Nat.mul_le_mul hn hn
  omega
theorem cuts_any (n : Int) (a : Option Addr) (cap : Nat) (L : List E) (b : Option Addr) (c : Nat) (S : List Int) (w : World) (h : EsAt w a L) (hv : IsAt w b S) :
    Calls Try.prog 6 #[gv n a L.length cap, .slice b S.length c] w (GivesB w true) := by
  cases hl : lightG n L with
  | false => exact cuts_dark n a cap L b c S (Lib.hid fun w h => by have := light_any n a cap L w h; rw [hl] at this; exact this) awake_any w h hv
  | true =>
    have hlen := light_len hl
    have HLI : Hid (∀ w, EsAt w a L → Calls Try.prog 12 #[.agg #[.int .i64 n, .slice a L.length cap]] w (fun e w' => e = .returned (.bool true) ∧ Below w.heap.size w w')) := Lib.hid fun w h => by have := light_any n a cap L w h; rw [hl] at this; exact this
    by_cases hS : 40 < S.length
    · exact cuts_long n a cap L b c S hS HLI awake_any w h hv
    have hSM := fun m a1 a2 c1 c2 M w hM h1 h2 => same_any m a1 a2 c1 c2 M w hM h1 h2
    by_cases hk : chkG n L = 0
    · have hR := right_of hk
      have HC : Hid (∀ w, EsAt w a L → Calls Try.prog 14 #[.agg #[.int .i64 n, .slice a L.length cap]] w (fun e w' => e = .returned (.int .i64 0) ∧ Below w.heap.size w w')) := Lib.hid fun w h => by have := rcheck_any n a cap L (by omega) w h; rw [hk] at this; exact this
      have e1 := chkS_s hk S
      by_cases hs : subE n S = 0
      · by_cases h0 : S.length = 0
        · obtain rfl : S = [] := List.length_eq_zero_iff.1 h0
          rw [hs] at e1
          refine cuts_empty n a cap L b c (cutG L []) HLI awake_any HC ?_ ?_ ?_ ?_ ?_ (equalI_same _ (cutG_len hR hlen [])) hSM w h hv
          · exact Lib.hid fun w h hv => by have := rsubset_any n a cap L b c [] (by simp) w h hv; rw [hs] at this; exact this
          · exact Lib.hid fun w h hv => by have := pcut_any n a cap L (by omega) b c [] (by simp) w h hv; rw [e1, if_pos rfl] at this; exact this
          · refine Lib.hid fun w h _ => (pinduced_empty n a cap L (by omega) b c e1 w h).mono ?_
            rintro e w' ⟨a', c', rfl, -, -, hb⟩
            exact ⟨a', c', rfl, hb⟩
          · exact Lib.hid fun w h hv => by have := psubset_any n a cap L (by omega) b c [] (by simp) w h hv; rw [e1] at this; exact this
          · exact Lib.hid fun w h hv => rcut_any n a cap L (by omega) hR b c [] (by simp) w h hv
        · rw [hs] at e1
          refine cuts_ok n a cap L b c S (cutG L S) S.length (indG L S) (joinT_small _ _ (by omega)) (by omega) (by omega) HLI awake_any HC ?_ ?_ ?_ ?_ ?_ (equalI_same _ (cutG_len hR hlen S)) ?_ hSM w h hv
          · exact Lib.hid fun w h hv => by have := rsubset_any n a cap L b c S (by omega) w h hv; rw [hs] at this; exact this
          · exact Lib.hid fun w h hv => by have := pcut_any n a cap L (by omega) b c S (by omega) w h hv; rw [e1, if_pos rfl] at this; exact this
          · refine Lib.hid fun w h hv => (pinduced_ok n a cap L (by omega) b c S (by omega) (by omega) hk hs w h hv).mono ?_
            rintro e w' ⟨a', c', rfl, h1, -, hb⟩
            exact ⟨a', c', rfl, h1, hb⟩
          · exact Lib.hid fun w h hv => by have := psubset_any n a cap L (by omega) b c S (by omega) w h hv; rw [e1] at this; exact this
          · exact Lib.hid fun w h hv => rcut_any n a cap L (by omega) hR b c S (by omega) w h hv
          · refine Lib.hid fun w h hv => (rinduced_any n a cap L (by omega) hR.srt b c S (by omega) w h hv).mono ?_
            rintro e w' ⟨a', c', rfl, h1, -, hb⟩
            exact ⟨a', c', rfl, h1, hb⟩
      · refine cuts_set n a cap L b c S (subE n S) hs (by omega) HLI awake_any HC ?_ ?_ ?_ ?_ hSM w h hv
        · exact Lib.hid fun w h hv => rsubset_any n a cap L b c S (by omega) w h hv
        · refine Lib.hid fun w h hv => (pcut_any n a cap L (by omega) b c S (by omega) w h hv).mono ?_
          rintro e w' ⟨b', d', rfl, -, hb⟩
          exact ⟨b', d', by rw [e1, if_neg hs]; rfl, hb⟩
        · refine Lib.hid fun w h hv => (pinduced_err n a cap L (by omega) b c S (by omega) (by rw [e1]; exact hs) w h hv).mono ?_
          rintro e w' ⟨a', c', rfl, -, -, hb⟩
          exact ⟨a', c', by rw [e1]; rfl, hb⟩
        · exact Lib.hid fun w h hv => by have := psubset_any n a cap L (by omega) b c S (by omega) w h hv; rw [e1] at this; exact this
    · have e1 := chkS_g hk S
      refine cuts_err n a cap L b c S (chkG n L) hk (by omega) HLI awake_any ?_ ?_ ?_ ?_ hSM w h hv
      · exact Lib.hid fun w h => rcheck_any n a cap L (by omega) w h
      · refine Lib.hid fun w h hv => (pcut_any n a cap L (by omega) b c S (by omega) w h hv).mono ?_
        rintro e w' ⟨b', d', rfl, -, hb⟩
        exact ⟨b', d', by rw [e1, if_neg hk]; rfl, hb⟩
      · refine Lib.hid fun w h hv => (pinduced_err n a cap L (by omega) b c S (by omega) (by rw [e1]; exact hk) w h hv).mono ?_
        rintro e w' ⟨a', c', rfl, -, -, hb⟩
        exact ⟨a', c', by rw [e1]; rfl, hb⟩
      · exact Lib.hid fun w h hv => by have := psubset_any n a cap L (by omega) b c S (by omega) w h hv; rw [e1] at this; exact this
end Go.Proofs.Ytjaafneoinidkaa
