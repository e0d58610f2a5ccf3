/- The reference: the errors of subdividing; graphs in which two vertices are merged. -/
import Derived.Test.YtndjjafpdiehdaaZLd
import Derived.Test.YtndjjafpdiehdaaQ17
namespace Go.Proofs.Ytndjjafpdiehdaa
open Go.RowKit Go.Shelf Go.Proofs.Gr
attribute [local go_sem] Oper.semAt_some

set_option maxHeartbeats 12800000 in
set_option maxRecDepth 100000 in
theorem rfiner_any (n : Int) (a : Option Addr) (cap : Nat) (L : List E) (hL : L.length ≤ 100000) (k : Int) (w : World) (h : EsAt w a L) :
    Calls Try.prog 71 #[gv n a L.length cap, .int .i64 k] w (GivesN w (subKE n L k : Nat)) := by
  have HC := Lib.hid (fun w h => rcheck_any n a cap L (by omega) w h)
  unfold GivesN gv at *
  by_cases hc : chkG n L = 0
  · have hR := right_of hc
    have hs := endsG_len hR.rng
    have hln : (endsG L).length ≤ 50 * 100000 := by have := ends_all hR; omega
    have hnr := chkG_n hc
    have HZ := Lib.hid (fun w h => rsize_any n a cap L hL hR w h)
    rw [← hs] at HZ
    unfold subKE
    rw [if_neg (by simpa using hc)]
    rw [hc] at HC
    generalize (endsG L).length = z at *
    unfold GivesN gv at HZ
    clear hR hs hc
    by_cases h1 : k < 1
    · rw [if_pos (.inl h1)]
      have d1 : decide (k < 1) = true := decide_eq_true (by omega)
      obtain ⟨W, hW⟩ : ∃ W, W = w.alloc (Obj.cells #[.int .i64 n, .slice a L.length cap] 24) := ⟨_, rfl⟩
      have hB0 : Below w.heap.size w W := by rw [hW]; exact (Below.refl _ w).alloc (Nat.le_refl _) _
      have hG : Blk W w.heap.size 24 #[.int .i64 n, .slice a L.length cap] := by rw [hW]; exact Blk.new _ _ _
      have hWs : W.heap.size = w.heap.size + 1 := by rw [hW]; simp
      have HW := Lib.hid hW
      have HWS := Lib.hid hWs
      have HB0 := Lib.hid hB0
      have HE := Lib.hid (h.keep hB0)
      have HF : Hid (∀ u, Below W.heap.size W u → u.cell? ⟨w.heap.size, 0, none⟩ = some (.int .i64 n) ∧ u.cell? ⟨w.heap.size, 1, none⟩ = some (.slice a L.length cap)) := Lib.hid fun u hu => ⟨(hG.below hu hG.lt).cell 0, (hG.below hu hG.lt).cell 1⟩
      obtain ⟨g0, g1⟩ := HF.out W (Below.refl _ _)
      clear hB0 hG hW hWs h
      go_enter Try.func71, Try.ntmps71
      go_wp2_with fail
      rw [← HW.out]
      refine (HC.out _ HE.out).mono ?_
      rintro r w1 ⟨rfl, hb⟩
      clear g0 g1
      obtain ⟨g0, g1⟩ := HF.out w1 hb
      clear g0 g1
      clear h1
      have HEND := Lib.hid (HB0.out.trans (hb.mono HB0.out.size))
      clear hb
      try clear g0 g1
      go_wp2
      go_ret
      exact ⟨rfl, HEND.out⟩
    · by_cases h2 : 12 < k
      · rw [if_pos (.inr h2)]
        have d1 : decide (k < 1) = false := decide_eq_false (by omega)
        have d2 : decide (12 < k) = true := decide_eq_true (by omega)
        obtain ⟨W, hW⟩ : ∃ W, W = w.alloc (Obj.cells #[.int .i64 n, .slice a L.length cap] 24) := ⟨_, rfl⟩
        have hB0 : Below w.heap.size w W := by rw [hW]; exact (Below.refl _ w).alloc (Nat.le_refl _) _
        have hG : Blk W w.heap.size 24 #[.int .i64 n, .slice a L.length cap] := by rw [hW]; exact Blk.new _ _ _
        have hWs : W.heap.size = w.heap.size + 1 := by rw [hW]; simp
        have HW := Lib.hid hW
        have HWS := Lib.hid hWs
        have HB0 := Lib.hid hB0
        have HE := Lib.hid (h.keep hB0)
        have HF : Hid (∀ u, Below W.heap.size W u → u.cell? ⟨w.heap.size, 0, none⟩ = some (.int .i64 n) ∧ u.cell? ⟨w.heap.size, 1, none⟩ = some (.slice a L.length cap)) := Lib.hid fun u hu => ⟨(hG.below hu hG.lt).cell 0, (hG.below hu hG.lt).cell 1⟩
        obtain ⟨g0, g1⟩ := HF.out W (Below.refl _ _)
        clear hB0 hG hW hWs h
        go_enter Try.func71, Try.ntmps71
        go_wp2_with fail
        rw [← HW.out]
        refine (HC.out _ HE.out).mono ?_
        rintro r w1 ⟨rfl, hb⟩
        clear g0 g1
        obtain ⟨g0, g1⟩ := HF.out w1 hb
        clear g0 g1
        clear h1 h2
        have HEND := Lib.hid (HB0.out.trans (hb.mono HB0.out.size))
        clear hb
        try clear g0 g1
        go_wp2
        go_ret
        exact ⟨rfl, HEND.out⟩
      · rw [if_neg (by omega)]
        have hm0 : 0 ≤ (k - 1) * (z : Int) := Int.mul_nonneg (by omega) (by omega)
        have hm1 : (k - 1) * (z : Int) ≤ 11 * (z : Int) := Int.mul_le_mul_of_nonneg_right (by omega) (by omega)
        have c1 : IntKind.i64.wrap (k - 1) = k - 1 := IntWalk.i64_in _ (by omega)
        have c2 : IntKind.i64.wrap ((k - 1) * (z : Int)) = (k - 1) * (z : Int) := IntWalk.i64_in _ (by omega)
        have c3 : IntKind.i64.wrap (n + (k - 1) * (z : Int)) = n + (k - 1) * (z : Int) := IntWalk.i64_in _ (by omega)
        by_cases h3 : 12 < n + (k - 1) * (z : Int)
        · rw [if_pos h3]
          have d3 : decide (12 < n + (k - 1) * (z : Int)) = true := decide_eq_true h3
          have d1 : decide (k < 1) = false := decide_eq_false (by omega)
          have d2 : decide (12 < k) = false := decide_eq_false (by omega)
          clear h1 h2
          obtain ⟨W, hW⟩ : ∃ W, W = w.alloc (Obj.cells #[.int .i64 n, .slice a L.length cap] 24) := ⟨_, rfl⟩
          have hB0 : Below w.heap.size w W := by rw [hW]; exact (Below.refl _ w).alloc (Nat.le_refl _) _
          have hG : Blk W w.heap.size 24 #[.int .i64 n, .slice a L.length cap] := by rw [hW]; exact Blk.new _ _ _
          have hWs : W.heap.size = w.heap.size + 1 := by rw [hW]; simp
          have HW := Lib.hid hW
          have HWS := Lib.hid hWs
          have HB0 := Lib.hid hB0
          have HE := Lib.hid (h.keep hB0)
          have HF : Hid (∀ u, Below W.heap.size W u → u.cell? ⟨w.heap.size, 0, none⟩ = some (.int .i64 n) ∧ u.cell? ⟨w.heap.size, 1, none⟩ = some (.slice a L.length cap)) := Lib.hid fun u hu => ⟨(hG.below hu hG.lt).cell 0, (hG.below hu hG.lt).cell 1⟩
          obtain ⟨g0, g1⟩ := HF.out W (Below.refl _ _)
          clear hB0 hG hW hWs h
          go_enter Try.func71, Try.ntmps71
          go_wp2_with fail
          rw [← HW.out]
          refine (HC.out _ HE.out).mono ?_
          rintro r w1 ⟨rfl, hb⟩
          clear g0 g1
          obtain ⟨g0, g1⟩ := HF.out w1 hb
          go_wp2_with fail
          clear g0 g1
          have hj0 : Below W.heap.size W w1.drew := hb.drew
          refine wp_region_late (S := fun u => Below W.heap.size W u) (X := []) (by kernel_rfl) ?_
          refine wpAnyL_pureD (i := 0) 17 (.pointer (some ⟨w.heap.size, 0, none⟩)) rfl rfl (by kernel_rfl) (by kernel_rfl) (by kernel_rfl) (fun _ _ _ h => h) (Or.inl ⟨by rfl, fun u _ => ?_⟩) ?_
          · go_simp
          try simp only [Act.put, List.setIfInBounds_toArray, List.set_cons_zero, List.set_cons_succ]
          refine wpAnyL_takeD (i := 1) 18 (.int .i64 n) rfl rfl (by kernel_rfl) (by kernel_rfl) (by kernel_rfl) (by kernel_rfl) (by kernel_rfl) (fun _ _ _ h => h) hj0 (Or.inl ⟨by rfl, fun u hu => ?_⟩) ?_
          · obtain ⟨t0, t1⟩ := HF.out u hu
            go_simp
          try simp only [Act.put, List.setIfInBounds_toArray, List.set_cons_zero, List.set_cons_succ]
          refine wpAnyL_pureD (i := 2) 19 (.int .i64 k) rfl rfl (by kernel_rfl) (by kernel_rfl) (by kernel_rfl) (fun _ _ _ h => h) (Or.inl ⟨by rfl, fun u _ => ?_⟩) ?_
          · go_simp
          try simp only [Act.put, List.setIfInBounds_toArray, List.set_cons_zero, List.set_cons_succ]
          refine wpAnyL_pureD (i := 3) 20 (.int .i64 (k - 1)) rfl rfl (by kernel_rfl) (by kernel_rfl) (by kernel_rfl) (fun _ _ _ h => h) (Or.inl ⟨by rfl, fun u _ => ?_⟩) ?_
          · go_simp
          try simp only [Act.put, List.setIfInBounds_toArray, List.set_cons_zero, List.set_cons_succ]
          refine wpAnyL_takeD (i := 4) 21 (.agg #[.int .i64 n, .slice a L.length cap]) rfl rfl (by kernel_rfl) (by kernel_rfl) (by kernel_rfl) (by kernel_rfl) (by kernel_rfl) (fun _ _ _ h => h) hj0 (Or.inl ⟨by rfl, fun u hu => ?_⟩) ?_
          · obtain ⟨t0, t1⟩ := HF.out u hu
            go_simp
          try simp only [Act.put, List.setIfInBounds_toArray, List.set_cons_zero, List.set_cons_succ]
          refine wpAnyL_one (i := 5) (by kernel_rfl) rfl (fun K hK => ?_)
          go_simp
          go_at_call 35
          refine (HZ.out _ (HE.out.keep hj0)).mono ?_
          rintro r x2 ⟨rfl, hb2⟩
          have hj2 := hj0.trans (hb2.mono hj0.size)
          clear hj0 hb2
          show K _ _
          refine hK.out _ _ (fun _ _ => hj2) ?_
          clear hK K
          try simp only [Act.put, List.setIfInBounds_toArray, List.set_cons_zero, List.set_cons_succ]
          refine wpAnyL_pureD (i := 6) 23 (.int .i64 ((k - 1) * (z : Int))) rfl rfl (by kernel_rfl) (by kernel_rfl) (by kernel_rfl) (fun _ _ _ h => h) (Or.inl ⟨by rfl, fun u _ => ?_⟩) ?_
          · go_simp
          try simp only [Act.put, List.setIfInBounds_toArray, List.set_cons_zero, List.set_cons_succ]
          refine wpAnyL_pureD (i := 7) 24 (.int .i64 (n + (k - 1) * (z : Int))) rfl rfl (by kernel_rfl) (by kernel_rfl) (by kernel_rfl) (fun _ _ _ h => h) (Or.inl ⟨by rfl, fun u _ => ?_⟩) ?_
          · go_simp
          try simp only [Act.put, List.setIfInBounds_toArray, List.set_cons_zero, List.set_cons_succ]
          refine wpAnyL_pureD (i := 8) 25 (.bool true) rfl rfl (by kernel_rfl) (by kernel_rfl) (by kernel_rfl) (fun _ _ _ h => h) (Or.inl ⟨by rfl, fun u _ => ?_⟩) ?_
          · go_simp
          try simp only [Act.put, List.setIfInBounds_toArray, List.set_cons_zero, List.set_cons_succ]
          refine wpAnyL_done (by kernel_rfl) ?_ _
          try simp only [Act.put, List.setIfInBounds_toArray, List.set_cons_zero, List.set_cons_succ]
          clear hb c1 c2 c3 hm0 hm1
          have HEND := Lib.hid (HB0.out.trans (hj2.mono HB0.out.size))
          clear hj2
          try clear g0 g1
          go_wp2
          go_ret
          exact ⟨rfl, HEND.out⟩
        · rw [if_neg h3]
          have d3 : decide (12 < n + (k - 1) * (z : Int)) = false := decide_eq_false h3
          have d1 : decide (k < 1) = false := decide_eq_false (by omega)
          have d2 : decide (12 < k) = false := decide_eq_false (by omega)
          clear h1 h2
          obtain ⟨W, hW⟩ : ∃ W, W = w.alloc (Obj.cells #[.int .i64 n, .slice a L.length cap] 24) := ⟨_, rfl⟩
          have hB0 : Below w.heap.size w W := by rw [hW]; exact (Below.refl _ w).alloc (Nat.le_refl _) _
          have hG : Blk W w.heap.size 24 #[.int .i64 n, .slice a L.length cap] := by rw [hW]; exact Blk.new _ _ _
          have hWs : W.heap.size = w.heap.size + 1 := by rw [hW]; simp
          have HW := Lib.hid hW
          have HWS := Lib.hid hWs
          have HB0 := Lib.hid hB0
          have HE := Lib.hid (h.keep hB0)
          have HF : Hid (∀ u, Below W.heap.size W u → u.cell? ⟨w.heap.size, 0, none⟩ = some (.int .i64 n) ∧ u.cell? ⟨w.heap.size, 1, none⟩ = some (.slice a L.length cap)) := Lib.hid fun u hu => ⟨(hG.below hu hG.lt).cell 0, (hG.below hu hG.lt).cell 1⟩
          obtain ⟨g0, g1⟩ := HF.out W (Below.refl _ _)
          clear hB0 hG hW hWs h
          go_enter Try.func71, Try.ntmps71
          go_wp2_with fail
          rw [← HW.out]
          refine (HC.out _ HE.out).mono ?_
          rintro r w1 ⟨rfl, hb⟩
          clear g0 g1
          obtain ⟨g0, g1⟩ := HF.out w1 hb
          go_wp2_with fail
          clear g0 g1
          have hj0 : Below W.heap.size W w1.drew := hb.drew
          refine wp_region_late (S := fun u => Below W.heap.size W u) (X := []) (by kernel_rfl) ?_
          refine wpAnyL_pureD (i := 0) 17 (.pointer (some ⟨w.heap.size, 0, none⟩)) rfl rfl (by kernel_rfl) (by kernel_rfl) (by kernel_rfl) (fun _ _ _ h => h) (Or.inl ⟨by rfl, fun u _ => ?_⟩) ?_
          · go_simp
          try simp only [Act.put, List.setIfInBounds_toArray, List.set_cons_zero, List.set_cons_succ]
          refine wpAnyL_takeD (i := 1) 18 (.int .i64 n) rfl rfl (by kernel_rfl) (by kernel_rfl) (by kernel_rfl) (by kernel_rfl) (by kernel_rfl) (fun _ _ _ h => h) hj0 (Or.inl ⟨by rfl, fun u hu => ?_⟩) ?_
          · obtain ⟨t0, t1⟩ := HF.out u hu
            go_simp
          try simp only [Act.put, List.setIfInBounds_toArray, List.set_cons_zero, List.set_cons_succ]
          refine wpAnyL_pureD (i := 2) 19 (.int .i64 k) rfl rfl (by kernel_rfl) (by kernel_rfl) (by kernel_rfl) (fun _ _ _ h => h) (Or.inl ⟨by rfl, fun u _ => ?_⟩) ?_
          · go_simp
          try simp only [Act.put, List.setIfInBounds_toArray, List.set_cons_zero, List.set_cons_succ]
          refine wpAnyL_pureD (i := 3) 20 (.int .i64 (k - 1)) rfl rfl (by kernel_rfl) (by kernel_rfl) (by kernel_rfl) (fun _ _ _ h => h) (Or.inl ⟨by rfl, fun u _ => ?_⟩) ?_
          · go_simp
          try simp only [Act.put, List.setIfInBounds_toArray, List.set_cons_zero, List.set_cons_succ]
          refine wpAnyL_takeD (i := 4) 21 (.agg #[.int .i64 n, .slice a L.length cap]) rfl rfl (by kernel_rfl) (by kernel_rfl) (by kernel_rfl) (by kernel_rfl) (by kernel_rfl) (fun _ _ _ h => h) hj0 (Or.inl ⟨by rfl, fun u hu => ?_⟩) ?_
          · obtain ⟨t0, t1⟩ := HF.out u hu
            go_simp
          try simp only [Act.put, List.setIfInBounds_toArray, List.set_cons_zero, List.set_cons_succ]
          refine wpAnyL_one (i := 5) (by kernel_rfl) rfl (fun K hK => ?_)
          go_simp
          go_at_call 35
          refine (HZ.out _ (HE.out.keep hj0)).mono ?_
          rintro r x2 ⟨rfl, hb2⟩
          have hj2 := hj0.trans (hb2.mono hj0.size)
          clear hj0 hb2
          show K _ _
          refine hK.out _ _ (fun _ _ => hj2) ?_
          clear hK K
          try simp only [Act.put, List.setIfInBounds_toArray, List.set_cons_zero, List.set_cons_succ]
          refine wpAnyL_pureD (i := 6) 23 (.int .i64 ((k - 1) * (z : Int))) rfl rfl (by kernel_rfl) (by kernel_rfl) (by kernel_rfl) (fun _ _ _ h => h) (Or.inl ⟨by rfl, fun u _ => ?_⟩) ?_
          · go_simp
          try simp only [Act.put, List.setIfInBounds_toArray, List.set_cons_zero, List.set_cons_succ]
          refine wpAnyL_pureD (i := 7) 24 (.int .i64 (n + (k - 1) * (z : Int))) rfl rfl (by kernel_rfl) (by kernel_rfl) (by kernel_rfl) (fun _ _ _ h => h) (Or.inl ⟨by rfl, fun u _ => ?_⟩) ?_
          · go_simp
          try simp only [Act.put, List.setIfInBounds_toArray, List.set_cons_zero, List.set_cons_succ]
          refine wpAnyL_pureD (i := 8) 25 (.bool false) rfl rfl (by kernel_rfl) (by kernel_rfl) (by kernel_rfl) (fun _ _ _ h => h) (Or.inl ⟨by rfl, fun u _ => ?_⟩) ?_
          · go_simp
          try simp only [Act.put, List.setIfInBounds_toArray, List.set_cons_zero, List.set_cons_succ]
          refine wpAnyL_done (by kernel_rfl) ?_ _
          try simp only [Act.put, List.setIfInBounds_toArray, List.set_cons_zero, List.set_cons_succ]
          clear hb c1 c2 c3 hm0 hm1
          have HEND := Lib.hid (HB0.out.trans (hj2.mono HB0.out.size))
          clear hj2
          try clear g0 g1
          go_wp2
          go_ret
          exact ⟨rfl, HEND.out⟩
  · unfold subKE
    rw [if_pos hc]
    generalize chkG n L = e at *
    have q0 : (((e : Nat) : Int) != 0) = true := by rw [bne_iff_ne]; omega
    obtain ⟨W, hW⟩ : ∃ W, W = w.alloc (Obj.cells #[.int .i64 n, .slice a L.length cap] 24) := ⟨_, rfl⟩
    have hB0 : Below w.heap.size w W := by rw [hW]; exact (Below.refl _ w).alloc (Nat.le_refl _) _
    have hG : Blk W w.heap.size 24 #[.int .i64 n, .slice a L.length cap] := by rw [hW]; exact Blk.new _ _ _
    have hWs : W.heap.size = w.heap.size + 1 := by rw [hW]; simp
    have HW := Lib.hid hW
    have HWS := Lib.hid hWs
    have HB0 := Lib.hid hB0
    have HE := Lib.hid (h.keep hB0)
    have HF : Hid (∀ u, Below W.heap.size W u → u.cell? ⟨w.heap.size, 0, none⟩ = some (.int .i64 n) ∧ u.cell? ⟨w.heap.size, 1, none⟩ = some (.slice a L.length cap)) := Lib.hid fun u hu => ⟨(hG.below hu hG.lt).cell 0, (hG.below hu hG.lt).cell 1⟩
    obtain ⟨g0, g1⟩ := HF.out W (Below.refl _ _)
    clear hB0 hG hW hWs h
    go_enter Try.func71, Try.ntmps71
    go_wp2_with fail
    rw [← HW.out]
    refine (HC.out _ HE.out).mono ?_
    rintro r w1 ⟨rfl, hb⟩
    clear g0 g1
    obtain ⟨g0, g1⟩ := HF.out w1 hb
    clear g0 g1
    have HEND := Lib.hid (HB0.out.trans (hb.mono HB0.out.size))
    clear hb
    try clear g0 g1
    go_wp2
    go_ret
    exact ⟨rfl, HEND.out⟩
set_option maxHeartbeats 12800000 in
set_option maxRecDepth 100000 in
theorem rMerge_chk (n : Int) (a : Option Addr) (cap : Nat) (L : List E) (hL : L.length ≤ 100000) (x y : Int) (hk : chkG n L ≠ 0) (w : World) (h : EsAt w a L) :
    Calls Try.prog 20 #[gv n a L.length cap, .int .i64 x, .int .i64 y] w (GivesGW w 0 [] (chkG n L)) := by
  have HC := Lib.hid (fun w h => rcheck_any n a cap L (by omega) w h)
  generalize chkG n L = k at *
  have q0 : (((k : Nat) : Int) != 0) = true := by rw [bne_iff_ne]; omega
  unfold GivesN at HC
  unfold GivesGW gv at *
  obtain ⟨W, hW⟩ : ∃ W, W = (w.alloc (Obj.cells #[.int .i64 n, .slice a L.length cap] 24)).alloc (Obj.cells #[.int .i64 0, .slice none 0 0] 24) := ⟨_, rfl⟩
  have hB0 : Below w.heap.size w W := by rw [hW]; exact ((Below.refl _ w).alloc (Nat.le_refl _) _).alloc (by simp) _
  have hG : Blk W w.heap.size 24 #[.int .i64 n, .slice a L.length cap] := by rw [hW]; exact (Blk.new _ _ _).alloc _
  have hWs : W.heap.size = w.heap.size + 2 := by rw [hW]; simp
  have hR : Blk W (w.heap.size + 1) 24 #[.int .i64 0, .slice none 0 0] := by
    rw [hW]
    have := Blk.new (w.alloc (Obj.cells #[.int .i64 n, .slice a L.length cap] 24)) 24 #[.int .i64 0, .slice none 0 0]
    rwa [World.size_alloc] at this
  have HR1 := Lib.hid hR
  have HW := Lib.hid hW
  have HWS := Lib.hid hWs
  have HB0 := Lib.hid hB0
  have HE := Lib.hid (h.keep hB0)
  have HF : Hid (∀ u, Below W.heap.size W u → u.cell? ⟨w.heap.size, 0, none⟩ = some (.int .i64 n) ∧ u.cell? ⟨w.heap.size, 1, none⟩ = some (.slice a L.length cap)) := Lib.hid fun u hu => ⟨(hG.below hu hG.lt).cell 0, (hG.below hu hG.lt).cell 1⟩
  obtain ⟨g0, g1⟩ := HF.out W (Below.refl _ _)
  clear hB0 hG hW hWs h hR
  go_enter Try.func20, Try.ntmps20
  go_wp2_with fail
  rw [← HW.out]
  refine (HC.out _ HE.out).mono ?_
  rintro r w1 ⟨rfl, hb⟩
  clear g0 g1
  obtain ⟨g0, g1⟩ := HF.out w1 hb
  clear g0 g1
  have hRr : Blk w1 (w.heap.size + 1) 24 #[.int .i64 0, .slice none 0 0] := HR1.out.below hb HR1.out.lt
  have r1 : w1.cell? ⟨w.heap.size + 1, 0, none⟩ = some (.int .i64 0) := hRr.cell 0
  have r3 : w1.frozen? ⟨w.heap.size + 1, 0, none⟩ = false := hRr.frozen 0
  have r2 : w1.cell? ⟨w.heap.size + 1, 1, none⟩ = some (.slice none 0 0) := hRr.cell 1
  have r4 : w1.frozen? ⟨w.heap.size + 1, 1, none⟩ = false := hRr.frozen 1
  have r7 : (w1.setCell ⟨w.heap.size + 1, 0, none⟩ (.int .i64 0)).cell? ⟨w.heap.size + 1, 1, none⟩ = some (.slice none 0 0) := (hRr.set_ 0 (.int .i64 0)).cell 1
  have r8 : (w1.setCell ⟨w.heap.size + 1, 0, none⟩ (.int .i64 0)).frozen? ⟨w.heap.size + 1, 1, none⟩ = false := (hRr.set_ 0 (.int .i64 0)).frozen 1
  have HEND := Lib.hid (HB0.out.trans (hb.mono HB0.out.size))
  have HEND2 := Lib.hid ((HEND.out.setCell (p := ⟨w.heap.size + 1, 0, none⟩) (by show w.heap.size ≤ w.heap.size + 1; omega) (.int .i64 0)).setCell (p := ⟨w.heap.size + 1, 1, none⟩) (by show w.heap.size ≤ w.heap.size + 1; omega) (.slice none 0 0))
  have r5 : ((w1.setCell ⟨w.heap.size + 1, 0, none⟩ (.int .i64 0)).setCell ⟨w.heap.size + 1, 1, none⟩ (.slice none 0 0)).cell? ⟨w.heap.size + 1, 0, none⟩ = some (.int .i64 0) := ((hRr.set_ 0 (.int .i64 0)).set_ 1 (.slice none 0 0)).cell 0
  have r6 : ((w1.setCell ⟨w.heap.size + 1, 0, none⟩ (.int .i64 0)).setCell ⟨w.heap.size + 1, 1, none⟩ (.slice none 0 0)).cell? ⟨w.heap.size + 1, 1, none⟩ = some (.slice none 0 0) := ((hRr.set_ 0 (.int .i64 0)).set_ 1 (.slice none 0 0)).cell 1
  clear hRr hb
  go_wp2
  refine bodyPost_ret (v := .tuple #[.agg #[.int .i64 0, .slice none 0 0], .int .i64 (k : Nat)]) (by simp [results, Try.results20, go_sem, r5, r6]) rfl ?_
  exact ⟨none, 0, rfl, RowAt.nil _ _ _ _, by first | exact HEND2.out | exact HEND.out⟩
set_option maxHeartbeats 12800000 in
set_option maxRecDepth 100000 in
theorem rMerge_x (n : Int) (a : Option Addr) (cap : Nat) (L : List E) (hL : L.length ≤ 100000) (x y : Int) (h0 : chkG n L = 0) (hx : ¬ (0 ≤ x ∧ x < n)) (w : World) (h : EsAt w a L) :
    Calls Try.prog 20 #[gv n a L.length cap, .int .i64 x, .int .i64 y] w (GivesGW w 0 [] 2) := by
  have HC := Lib.hid (fun w h => rcheck_any n a cap L (by omega) w h)
  have HVX : Hid (∀ v w, Calls Try.prog 64 #[.agg #[.int .i64 n, .slice a L.length cap], .int .i64 v] w (fun e w' => e = .returned (.bool (isV n v)) ∧ Below w.heap.size w w')) := Lib.hid fun v w => (vertex_any n a L.length cap v w)
  rw [h0] at HC
  unfold GivesN at HC
  unfold GivesGW gv at *
  have HV1 := Lib.hid (fun w => HVX.out x w)
  rw [show isV n x = false by unfold isV; simp; omega] at HV1
  clear HVX
  obtain ⟨W, hW⟩ : ∃ W, W = (w.alloc (Obj.cells #[.int .i64 n, .slice a L.length cap] 24)).alloc (Obj.cells #[.int .i64 0, .slice none 0 0] 24) := ⟨_, rfl⟩
  have hB0 : Below w.heap.size w W := by rw [hW]; exact ((Below.refl _ w).alloc (Nat.le_refl _) _).alloc (by simp) _
  have hG : Blk W w.heap.size 24 #[.int .i64 n, .slice a L.length cap] := by rw [hW]; exact (Blk.new _ _ _).alloc _
  have hWs : W.heap.size = w.heap.size + 2 := by rw [hW]; simp
  have hR : Blk W (w.heap.size + 1) 24 #[.int .i64 0, .slice none 0 0] := by
    rw [hW]
    have := Blk.new (w.alloc (Obj.cells #[.int .i64 n, .slice a L.length cap] 24)) 24 #[.int .i64 0, .slice none 0 0]
    rwa [World.size_alloc] at this
  have HR1 := Lib.hid hR
  have HW := Lib.hid hW
  have HWS := Lib.hid hWs
  have HB0 := Lib.hid hB0
  have HE := Lib.hid (h.keep hB0)
  have HF : Hid (∀ u, Below W.heap.size W u → u.cell? ⟨w.heap.size, 0, none⟩ = some (.int .i64 n) ∧ u.cell? ⟨w.heap.size, 1, none⟩ = some (.slice a L.length cap)) := Lib.hid fun u hu => ⟨(hG.below hu hG.lt).cell 0, (hG.below hu hG.lt).cell 1⟩
  obtain ⟨g0, g1⟩ := HF.out W (Below.refl _ _)
  clear hB0 hG hW hWs h hR
  go_enter Try.func20, Try.ntmps20
  go_wp2_with fail
  rw [← HW.out]
  refine (HC.out _ HE.out).mono ?_
  rintro r w1 ⟨rfl, hb⟩
  clear g0 g1
  obtain ⟨g0, g1⟩ := HF.out w1 hb
  go_wp2_with fail
  refine (HV1.out _).mono ?_
  rintro r w2 ⟨rfl, hb2⟩
  have hk2 : Below W.heap.size W w2 := hb.trans (hb2.mono hb.size)
  clear hb hb2 g0 g1
  obtain ⟨g0, g1⟩ := HF.out w2 hk2
  clear g0 g1
  have hRr : Blk w2 (w.heap.size + 1) 24 #[.int .i64 0, .slice none 0 0] := HR1.out.below hk2 HR1.out.lt
  have r1 : w2.cell? ⟨w.heap.size + 1, 0, none⟩ = some (.int .i64 0) := hRr.cell 0
  have r3 : w2.frozen? ⟨w.heap.size + 1, 0, none⟩ = false := hRr.frozen 0
  have r2 : w2.cell? ⟨w.heap.size + 1, 1, none⟩ = some (.slice none 0 0) := hRr.cell 1
  have r4 : w2.frozen? ⟨w.heap.size + 1, 1, none⟩ = false := hRr.frozen 1
  have r7 : (w2.setCell ⟨w.heap.size + 1, 0, none⟩ (.int .i64 0)).cell? ⟨w.heap.size + 1, 1, none⟩ = some (.slice none 0 0) := (hRr.set_ 0 (.int .i64 0)).cell 1
  have r8 : (w2.setCell ⟨w.heap.size + 1, 0, none⟩ (.int .i64 0)).frozen? ⟨w.heap.size + 1, 1, none⟩ = false := (hRr.set_ 0 (.int .i64 0)).frozen 1
  have HEND := Lib.hid (HB0.out.trans (hk2.mono HB0.out.size))
  have HEND2 := Lib.hid ((HEND.out.setCell (p := ⟨w.heap.size + 1, 0, none⟩) (by show w.heap.size ≤ w.heap.size + 1; omega) (.int .i64 0)).setCell (p := ⟨w.heap.size + 1, 1, none⟩) (by show w.heap.size ≤ w.heap.size + 1; omega) (.slice none 0 0))
  have r5 : ((w2.setCell ⟨w.heap.size + 1, 0, none⟩ (.int .i64 0)).setCell ⟨w.heap.size + 1, 1, none⟩ (.slice none 0 0)).cell? ⟨w.heap.size + 1, 0, none⟩ = some (.int .i64 0) := ((hRr.set_ 0 (.int .i64 0)).set_ 1 (.slice none 0 0)).cell 0
  have r6 : ((w2.setCell ⟨w.heap.size + 1, 0, none⟩ (.int .i64 0)).setCell ⟨w.heap.size + 1, 1, none⟩ (.slice none 0 0)).cell? ⟨w.heap.size + 1, 1, none⟩ = some (.slice none 0 0) := ((hRr.set_ 0 (.int .i64 0)).set_ 1 (.slice none 0 0)).cell 1
  clear hRr hk2
  go_wp2
  refine bodyPost_ret (v := .tuple #[.agg #[.int .i64 0, .slice none 0 0], .int .i64 2]) (by simp [results, Try.results20, go_sem, r5, r6]) rfl ?_
  exact ⟨none, 0, rfl, RowAt.nil _ _ _ _, by first | exact HEND2.out | exact HEND.out⟩
set_option maxHeartbeats 12800000 in
set_option maxRecDepth 100000 in
theorem rMerge_y (n : Int) (a : Option Addr) (cap : Nat) (L : List E) (hL : L.length ≤ 100000) (x y : Int) (h0 : chkG n L = 0) (hx : 0 ≤ x ∧ x < n) (hy : ¬ (0 ≤ y ∧ y < n)) (w : World) (h : EsAt w a L) :
    Calls Try.prog 20 #[gv n a L.length cap, .int .i64 x, .int .i64 y] w (GivesGW w 0 [] 2) := by
  have HC := Lib.hid (fun w h => rcheck_any n a cap L (by omega) w h)
  have HVX : Hid (∀ v w, Calls Try.prog 64 #[.agg #[.int .i64 n, .slice a L.length cap], .int .i64 v] w (fun e w' => e = .returned (.bool (isV n v)) ∧ Below w.heap.size w w')) := Lib.hid fun v w => (vertex_any n a L.length cap v w)
  rw [h0] at HC
  unfold GivesN at HC
  unfold GivesGW gv at *
  have HV1 := Lib.hid (fun w => HVX.out x w)
  rw [show isV n x = true by unfold isV; simp; omega] at HV1
  have HV2 := Lib.hid (fun w => HVX.out y w)
  rw [show isV n y = false by unfold isV; simp; omega] at HV2
  clear HVX
  obtain ⟨W, hW⟩ : ∃ W, W = (w.alloc (Obj.cells #[.int .i64 n, .slice a L.length cap] 24)).alloc (Obj.cells #[.int .i64 0, .slice none 0 0] 24) := ⟨_, rfl⟩
  have hB0 : Below w.heap.size w W := by rw [hW]; exact ((Below.refl _ w).alloc (Nat.le_refl _) _).alloc (by simp) _
  have hG : Blk W w.heap.size 24 #[.int .i64 n, .slice a L.length cap] := by rw [hW]; exact (Blk.new _ _ _).alloc _
  have hWs : W.heap.size = w.heap.size + 2 := by rw [hW]; simp
  have hR : Blk W (w.heap.size + 1) 24 #[.int .i64 0, .slice none 0 0] := by
    rw [hW]
    have := Blk.new (w.alloc (Obj.cells #[.int .i64 n, .slice a L.length cap] 24)) 24 #[.int .i64 0, .slice none 0 0]
    rwa [World.size_alloc] at this
  have HR1 := Lib.hid hR
  have HW := Lib.hid hW
  have HWS := Lib.hid hWs
  have HB0 := Lib.hid hB0
  have HE := Lib.hid (h.keep hB0)
  have HF : Hid (∀ u, Below W.heap.size W u → u.cell? ⟨w.heap.size, 0, none⟩ = some (.int .i64 n) ∧ u.cell? ⟨w.heap.size, 1, none⟩ = some (.slice a L.length cap)) := Lib.hid fun u hu => ⟨(hG.below hu hG.lt).cell 0, (hG.below hu hG.lt).cell 1⟩
  obtain ⟨g0, g1⟩ := HF.out W (Below.refl _ _)
  clear hB0 hG hW hWs h hR
  go_enter Try.func20, Try.ntmps20
  go_wp2_with fail
  rw [← HW.out]
  refine (HC.out _ HE.out).mono ?_
  rintro r w1 ⟨rfl, hb⟩
  clear g0 g1
  obtain ⟨g0, g1⟩ := HF.out w1 hb
  go_wp2_with fail
  refine (HV1.out _).mono ?_
  rintro r w2 ⟨rfl, hb2⟩
  have hk2 : Below W.heap.size W w2 := hb.trans (hb2.mono hb.size)
  clear hb hb2 g0 g1
  obtain ⟨g0, g1⟩ := HF.out w2 hk2
  go_wp2_with fail
  refine (HV2.out _).mono ?_
  rintro r w3 ⟨rfl, hb2⟩
  have hk3 : Below W.heap.size W w3 := hk2.trans (hb2.mono hk2.size)
  clear hk2 hb2 g0 g1
  obtain ⟨g0, g1⟩ := HF.out w3 hk3
  clear g0 g1
  have hRr : Blk w3 (w.heap.size + 1) 24 #[.int .i64 0, .slice none 0 0] := HR1.out.below hk3 HR1.out.lt
  have r1 : w3.cell? ⟨w.heap.size + 1, 0, none⟩ = some (.int .i64 0) := hRr.cell 0
  have r3 : w3.frozen? ⟨w.heap.size + 1, 0, none⟩ = false := hRr.frozen 0
  have r2 : w3.cell? ⟨w.heap.size + 1, 1, none⟩ = some (.slice none 0 0) := hRr.cell 1
  have r4 : w3.frozen? ⟨w.heap.size + 1, 1, none⟩ = false := hRr.frozen 1
  have r7 : (w3.setCell ⟨w.heap.size + 1, 0, none⟩ (.int .i64 0)).cell? ⟨w.heap.size + 1, 1, none⟩ = some (.slice none 0 0) := (hRr.set_ 0 (.int .i64 0)).cell 1
  have r8 : (w3.setCell ⟨w.heap.size + 1, 0, none⟩ (.int .i64 0)).frozen? ⟨w.heap.size + 1, 1, none⟩ = false := (hRr.set_ 0 (.int .i64 0)).frozen 1
  have HEND := Lib.hid (HB0.out.trans (hk3.mono HB0.out.size))
  have HEND2 := Lib.hid ((HEND.out.setCell (p := ⟨w.heap.size + 1, 0, none⟩) (by show w.heap.size ≤ w.heap.size + 1; omega) (.int .i64 0)).setCell (p := ⟨w.heap.size + 1, 1, none⟩) (by show w.heap.size ≤ w.heap.size + 1; omega) (.slice none 0 0))
  have r5 : ((w3.setCell ⟨w.heap.size + 1, 0, none⟩ (.int .i64 0)).setCell ⟨w.heap.size + 1, 1, none⟩ (.slice none 0 0)).cell? ⟨w.heap.size + 1, 0, none⟩ = some (.int .i64 0) := ((hRr.set_ 0 (.int .i64 0)).set_ 1 (.slice none 0 0)).cell 0
  have r6 : ((w3.setCell ⟨w.heap.size + 1, 0, none⟩ (.int .i64 0)).setCell ⟨w.heap.size + 1, 1, none⟩ (.slice none 0 0)).cell? ⟨w.heap.size + 1, 1, none⟩ = some (.slice none 0 0) := ((hRr.set_ 0 (.int .i64 0)).set_ 1 (.slice none 0 0)).cell 1
  clear hRr hk3
  go_wp2
  refine bodyPost_ret (v := .tuple #[.agg #[.int .i64 0, .slice none 0 0], .int .i64 2]) (by simp [results, Try.results20, go_sem, r5, r6]) rfl ?_
  exact ⟨none, 0, rfl, RowAt.nil _ _ _ _, by first | exact HEND2.out | exact HEND.out⟩
set_option maxHeartbeats 12800000 in
set_option maxRecDepth 100000 in
theorem rMerge_same (n : Int) (a : Option Addr) (cap : Nat) (L : List E) (hL : L.length ≤ 100000) (x : Int) (h0 : chkG n L = 0) (hx : 0 ≤ x ∧ x < n) (w : World) (h : EsAt w a L) :
    Calls Try.prog 20 #[gv n a L.length cap, .int .i64 x, .int .i64 x] w (GivesGW w 0 [] 7) := by
  have HC := Lib.hid (fun w h => rcheck_any n a cap L (by omega) w h)
  have HVX : Hid (∀ v w, Calls Try.prog 64 #[.agg #[.int .i64 n, .slice a L.length cap], .int .i64 v] w (fun e w' => e = .returned (.bool (isV n v)) ∧ Below w.heap.size w w')) := Lib.hid fun v w => (vertex_any n a L.length cap v w)
  rw [h0] at HC
  unfold GivesN at HC
  unfold GivesGW gv at *
  have HV1 := Lib.hid (fun w => HVX.out x w)
  rw [show isV n x = true by unfold isV; simp; omega] at HV1
  have HV2 := Lib.hid (fun w => HVX.out x w)
  rw [show isV n x = true by unfold isV; simp; omega] at HV2
  clear HVX
  obtain ⟨W, hW⟩ : ∃ W, W = (w.alloc (Obj.cells #[.int .i64 n, .slice a L.length cap] 24)).alloc (Obj.cells #[.int .i64 0, .slice none 0 0] 24) := ⟨_, rfl⟩
  have hB0 : Below w.heap.size w W := by rw [hW]; exact ((Below.refl _ w).alloc (Nat.le_refl _) _).alloc (by simp) _
  have hG : Blk W w.heap.size 24 #[.int .i64 n, .slice a L.length cap] := by rw [hW]; exact (Blk.new _ _ _).alloc _
  have hWs : W.heap.size = w.heap.size + 2 := by rw [hW]; simp
  have hR : Blk W (w.heap.size + 1) 24 #[.int .i64 0, .slice none 0 0] := by
    rw [hW]
    have := Blk.new (w.alloc (Obj.cells #[.int .i64 n, .slice a L.length cap] 24)) 24 #[.int .i64 0, .slice none 0 0]
    rwa [World.size_alloc] at this
  have HR1 := Lib.hid hR
  have HW := Lib.hid hW
  have HWS := Lib.hid hWs
  have HB0 := Lib.hid hB0
  have HE := Lib.hid (h.keep hB0)
  have HF : Hid (∀ u, Below W.heap.size W u → u.cell? ⟨w.heap.size, 0, none⟩ = some (.int .i64 n) ∧ u.cell? ⟨w.heap.size, 1, none⟩ = some (.slice a L.length cap)) := Lib.hid fun u hu => ⟨(hG.below hu hG.lt).cell 0, (hG.below hu hG.lt).cell 1⟩
  obtain ⟨g0, g1⟩ := HF.out W (Below.refl _ _)
  clear hB0 hG hW hWs h hR
  go_enter Try.func20, Try.ntmps20
  go_wp2_with fail
  rw [← HW.out]
  refine (HC.out _ HE.out).mono ?_
  rintro r w1 ⟨rfl, hb⟩
  clear g0 g1
  obtain ⟨g0, g1⟩ := HF.out w1 hb
  go_wp2_with fail
  refine (HV1.out _).mono ?_
  rintro r w2 ⟨rfl, hb2⟩
  have hk2 : Below W.heap.size W w2 := hb.trans (hb2.mono hb.size)
  clear hb hb2 g0 g1
  obtain ⟨g0, g1⟩ := HF.out w2 hk2
  go_wp2_with fail
  refine (HV2.out _).mono ?_
  rintro r w3 ⟨rfl, hb2⟩
  have hk3 : Below W.heap.size W w3 := hk2.trans (hb2.mono hk2.size)
  clear hk2 hb2 g0 g1
  obtain ⟨g0, g1⟩ := HF.out w3 hk3
  clear g0 g1
  have hRr : Blk w3 (w.heap.size + 1) 24 #[.int .i64 0, .slice none 0 0] := HR1.out.below hk3 HR1.out.lt
  have r1 : w3.cell? ⟨w.heap.size + 1, 0, none⟩ = some (.int .i64 0) := hRr.cell 0
  have r3 : w3.frozen? ⟨w.heap.size + 1, 0, none⟩ = false := hRr.frozen 0
  have r2 : w3.cell? ⟨w.heap.size + 1, 1, none⟩ = some (.slice none 0 0) := hRr.cell 1
  have r4 : w3.frozen? ⟨w.heap.size + 1, 1, none⟩ = false := hRr.frozen 1
  have r7 : (w3.setCell ⟨w.heap.size + 1, 0, none⟩ (.int .i64 0)).cell? ⟨w.heap.size + 1, 1, none⟩ = some (.slice none 0 0) := (hRr.set_ 0 (.int .i64 0)).cell 1
  have r8 : (w3.setCell ⟨w.heap.size + 1, 0, none⟩ (.int .i64 0)).frozen? ⟨w.heap.size + 1, 1, none⟩ = false := (hRr.set_ 0 (.int .i64 0)).frozen 1
  have HEND := Lib.hid (HB0.out.trans (hk3.mono HB0.out.size))
  have HEND2 := Lib.hid ((HEND.out.setCell (p := ⟨w.heap.size + 1, 0, none⟩) (by show w.heap.size ≤ w.heap.size + 1; omega) (.int .i64 0)).setCell (p := ⟨w.heap.size + 1, 1, none⟩) (by show w.heap.size ≤ w.heap.size + 1; omega) (.slice none 0 0))
  have r5 : ((w3.setCell ⟨w.heap.size + 1, 0, none⟩ (.int .i64 0)).setCell ⟨w.heap.size + 1, 1, none⟩ (.slice none 0 0)).cell? ⟨w.heap.size + 1, 0, none⟩ = some (.int .i64 0) := ((hRr.set_ 0 (.int .i64 0)).set_ 1 (.slice none 0 0)).cell 0
  have r6 : ((w3.setCell ⟨w.heap.size + 1, 0, none⟩ (.int .i64 0)).setCell ⟨w.heap.size + 1, 1, none⟩ (.slice none 0 0)).cell? ⟨w.heap.size + 1, 1, none⟩ = some (.slice none 0 0) := ((hRr.set_ 0 (.int .i64 0)).set_ 1 (.slice none 0 0)).cell 1
  clear hRr hk3
  go_wp2
  refine bodyPost_ret (v := .tuple #[.agg #[.int .i64 0, .slice none 0 0], .int .i64 7]) (by simp [results, Try.results20, go_sem, r5, r6]) rfl ?_
  exact ⟨none, 0, rfl, RowAt.nil _ _ _ _, by first | exact HEND2.out | exact HEND.out⟩
set_option maxHeartbeats 12800000 in
set_option maxRecDepth 100000 in
theorem rMerge_ok (N : Nat) (a : Option Addr) (cap : Nat) (L : List E) (hL : L.length ≤ 100000) (x y : Int) (h0 : chkG N L = 0) (hx : 0 ≤ x ∧ x < N) (hy : 0 ≤ y ∧ y < N) (hxy : x ≠ y) (m : Int) (J : List E) (k : Nat) (hM : Makes (mgF (x, y) N) (mvP (mgF (x, y)) (endsG L)) m J k) (w : World) (h : EsAt w a L) :
    Calls Try.prog 20 #[gv N a L.length cap, .int .i64 x, .int .i64 y] w (GivesGW w m J k) := by
  have HC := Lib.hid (fun w h => rcheck_any N a cap L (by omega) w h)
  have HVX : Hid (∀ v w, Calls Try.prog 64 #[.agg #[.int .i64 N, .slice a L.length cap], .int .i64 v] w (fun e w' => e = .returned (.bool (isV N v)) ∧ Below w.heap.size w w')) := Lib.hid fun v w => (vertex_any N a L.length cap v w)
  rw [h0] at HC
  unfold GivesN at HC
  unfold GivesGW gv at *
  have HV1 := Lib.hid (fun w => HVX.out x w)
  rw [show isV N x = true by unfold isV; simp; omega] at HV1
  have HV2 := Lib.hid (fun w => HVX.out y w)
  rw [show isV N y = true by unfold isV; simp; omega] at HV2
  clear HVX
  have hR := right_of h0
  obtain ⟨hJl, -, hM⟩ := hM
  have hnr : N ≤ 12 := by have := hR.hi; omega
  have hln : (endsG L).length ≤ 50 * 100000 := by have := ends_all hR; omega
  have hin := fun p hp => ends_rng hR.rng p hp
  have HEN := Lib.hid (fun w h => rends_any N a cap L hL hR w h)
  have HMV := Lib.hid (fun w => rmoved_any N (by omega) x y w)
  rw [show plL N (mgR (x, y)) = plL N (mgF (x, y)) from plL_congr _ _ _ fun v _ => mgR_ne hxy v] at HMV
  have HSE := Lib.hid (fun b c d f w h ht => rsent_any (mgF (x, y)) N b c d f (endsG L) (by omega) (fun p hp => by have := hin p hp; omega) w h ht)
  have hmn : mgF (x, y) N = (N : Int) - 1 := by rw [mgF_n hx hy, if_neg hxy]
  rw [hmn] at hM
  have HM := Lib.hid hM
  have c1 : IntKind.i64.wrap ((N : Int) - 1) = (N : Int) - 1 := IntWalk.i64_in _ (by omega)
  have q1 : (x == y) = false := by simpa using hxy
  generalize mvP (mgF (x, y)) (endsG L) = Q at *
  generalize plL N (mgF (x, y)) = PLL at *
  generalize endsG L = P at *
  unfold GivesGE gv at HM
  unfold GivesI at HMV
  unfold GivesP at HEN HSE
  unfold gv at *
  clear hM hin hmn hR h0 hx hy hxy
  obtain ⟨W, hW⟩ : ∃ W, W = (w.alloc (Obj.cells #[.int .i64 N, .slice a L.length cap] 24)).alloc (Obj.cells #[.int .i64 0, .slice none 0 0] 24) := ⟨_, rfl⟩
  have hB0 : Below w.heap.size w W := by rw [hW]; exact ((Below.refl _ w).alloc (Nat.le_refl _) _).alloc (by simp) _
  have hG : Blk W w.heap.size 24 #[.int .i64 N, .slice a L.length cap] := by rw [hW]; exact (Blk.new _ _ _).alloc _
  have hWs : W.heap.size = w.heap.size + 2 := by rw [hW]; simp
  have hR : Blk W (w.heap.size + 1) 24 #[.int .i64 0, .slice none 0 0] := by
    rw [hW]
    have := Blk.new (w.alloc (Obj.cells #[.int .i64 N, .slice a L.length cap] 24)) 24 #[.int .i64 0, .slice none 0 0]
    rwa [World.size_alloc] at this
  have HR1 := Lib.hid hR
  have HW := Lib.hid hW
  have HWS := Lib.hid hWs
  have HB0 := Lib.hid hB0
  have HE := Lib.hid (h.keep hB0)
  have HF : Hid (∀ u, Below W.heap.size W u → u.cell? ⟨w.heap.size, 0, none⟩ = some (.int .i64 N) ∧ u.cell? ⟨w.heap.size, 1, none⟩ = some (.slice a L.length cap)) := Lib.hid fun u hu => ⟨(hG.below hu hG.lt).cell 0, (hG.below hu hG.lt).cell 1⟩
  obtain ⟨g0, g1⟩ := HF.out W (Below.refl _ _)
  clear hB0 hG hW hWs h hR
  go_enter Try.func20, Try.ntmps20
  go_wp2_with fail
  rw [← HW.out]
  refine (HC.out _ HE.out).mono ?_
  rintro r w1 ⟨rfl, hb⟩
  clear g0 g1
  obtain ⟨g0, g1⟩ := HF.out w1 hb
  go_wp2_with fail
  refine (HV1.out _).mono ?_
  rintro r w2 ⟨rfl, hb2⟩
  have hk2 : Below W.heap.size W w2 := hb.trans (hb2.mono hb.size)
  clear hb hb2 g0 g1
  obtain ⟨g0, g1⟩ := HF.out w2 hk2
  go_wp2_with fail
  refine (HV2.out _).mono ?_
  rintro r w3 ⟨rfl, hb2⟩
  have hk3 : Below W.heap.size W w3 := hk2.trans (hb2.mono hk2.size)
  clear hk2 hb2 g0 g1
  obtain ⟨g0, g1⟩ := HF.out w3 hk3
  go_wp2_with fail
  clear g0 g1
  have hj0 : Below W.heap.size W w3.drew := hk3.drew
  refine wp_region_late (S := fun u => Below W.heap.size W u) (X := [14]) (by kernel_rfl) ?_
  clear hk3
  refine wpAnyL_pureD (i := 0) 30 (.pointer (some ⟨w.heap.size, 0, none⟩)) rfl rfl (by kernel_rfl) (by kernel_rfl) (by kernel_rfl) (fun _ _ _ h => h) (Or.inl ⟨by rfl, fun u _ => ?_⟩) ?_
  · go_simp
  try simp only [Act.put, List.setIfInBounds_toArray, List.set_cons_zero, List.set_cons_succ]
  refine wpAnyL_takeD (i := 1) 31 (.int .i64 N) rfl rfl (by kernel_rfl) (by kernel_rfl) (by kernel_rfl) (by kernel_rfl) (by kernel_rfl) (fun _ _ _ h => h) hj0 (Or.inl ⟨by rfl, fun u hu => ?_⟩) ?_
  · obtain ⟨t0, t1⟩ := HF.out u hu
    go_simp
  try simp only [Act.put, List.setIfInBounds_toArray, List.set_cons_zero, List.set_cons_succ]
  refine wpAnyL_pureD (i := 2) 32 (.int .i64 ((N : Int) - 1)) rfl rfl (by kernel_rfl) (by kernel_rfl) (by kernel_rfl) (fun _ _ _ h => h) (Or.inl ⟨by rfl, fun u _ => ?_⟩) ?_
  · go_simp
  try simp only [Act.put, List.setIfInBounds_toArray, List.set_cons_zero, List.set_cons_succ]
  refine wpAnyL_takeD (i := 3) 33 (.agg #[.int .i64 N, .slice a L.length cap]) rfl rfl (by kernel_rfl) (by kernel_rfl) (by kernel_rfl) (by kernel_rfl) (by kernel_rfl) (fun _ _ _ h => h) hj0 (Or.inl ⟨by rfl, fun u hu => ?_⟩) ?_
  · obtain ⟨t0, t1⟩ := HF.out u hu
    go_simp
  try simp only [Act.put, List.setIfInBounds_toArray, List.set_cons_zero, List.set_cons_succ]
  refine wpAnyL_pureD (i := 5) 35 (.pointer (some ⟨w.heap.size, 0, none⟩)) rfl rfl (by kernel_rfl) (by kernel_rfl) (by kernel_rfl) (fun _ _ _ h => h) (Or.inl ⟨by rfl, fun u _ => ?_⟩) ?_
  · go_simp
  try simp only [Act.put, List.setIfInBounds_toArray, List.set_cons_zero, List.set_cons_succ]
  refine wpAnyL_takeD (i := 6) 36 (.int .i64 N) rfl rfl (by kernel_rfl) (by kernel_rfl) (by kernel_rfl) (by kernel_rfl) (by kernel_rfl) (fun _ _ _ h => h) hj0 (Or.inl ⟨by rfl, fun u hu => ?_⟩) ?_
  · obtain ⟨t0, t1⟩ := HF.out u hu
    go_simp
  try simp only [Act.put, List.setIfInBounds_toArray, List.set_cons_zero, List.set_cons_succ]
  refine wpAnyL_pureD (i := 7) 37 (.int .i64 x) rfl rfl (by kernel_rfl) (by kernel_rfl) (by kernel_rfl) (fun _ _ _ h => h) (Or.inl ⟨by rfl, fun u _ => ?_⟩) ?_
  · go_simp
  try simp only [Act.put, List.setIfInBounds_toArray, List.set_cons_zero, List.set_cons_succ]
  refine wpAnyL_pureD (i := 8) 38 (.int .i64 y) rfl rfl (by kernel_rfl) (by kernel_rfl) (by kernel_rfl) (fun _ _ _ h => h) (Or.inl ⟨by rfl, fun u _ => ?_⟩) ?_
  · go_simp
  try simp only [Act.put, List.setIfInBounds_toArray, List.set_cons_zero, List.set_cons_succ]
  refine wpAnyL_one (i := 4) (by kernel_rfl) rfl (fun K hK => ?_)
  go_simp
  go_at_call 34
  refine (HEN.out _ (HE.out.keep hj0)).mono ?_
  rintro r x2 ⟨a3, c3, rfl, hps, hb2⟩
  have hj2 := hj0.trans (hb2.mono hj0.size)
  clear hj0 hb2
  show K _ _
  refine hK.out _ _ (fun _ _ => hj2) ?_
  clear hK K
  try simp only [Act.put, List.setIfInBounds_toArray, List.set_cons_zero, List.set_cons_succ]
  refine wpAnyL_one (i := 9) (by kernel_rfl) rfl (fun K hK => ?_)
  go_simp
  go_at_call 67
  refine (HMV.out _).mono ?_
  rintro r x3 ⟨a4, c4, rfl, hpl, hb3⟩
  have hj3 := hj2.trans (hb3.mono hj2.size)
  have hps3 := hps.keep hb3
  clear hj2 hb3 hps
  show K _ _
  refine hK.out _ _ (fun _ _ => hj3) ?_
  clear hK K
  try simp only [Act.put, List.setIfInBounds_toArray, List.set_cons_zero, List.set_cons_succ]
  refine wpAnyL_one (i := 10) (by kernel_rfl) rfl (fun K hK => ?_)
  go_simp
  go_at_call 66
  refine (HSE.out _ _ _ _ _ hps3 hpl).mono ?_
  rintro r x4 ⟨a5, c5, rfl, hps4, hb4⟩
  have hj4 := hj3.trans (hb4.mono hj3.size)
  clear hj3 hb4 hps3 hpl
  show K _ _
  refine hK.out _ _ (fun _ _ => hj4) ?_
  clear hK K
  try simp only [Act.put, List.setIfInBounds_toArray, List.set_cons_zero, List.set_cons_succ]
  refine wpAnyL_one (i := 11) (by kernel_rfl) rfl (fun K hK => ?_)
  go_simp
  go_at_call 65
  refine (HM.out _ _ _ hps4).mono ?_
  rintro r x5 ⟨a2, c2, rfl, -, he2, hb5⟩
  have hj5 : Below W.heap.size W x5 := hj4.trans (hb5.mono hj4.size)
  clear hps4 hb5
  have hRr : Blk x5 (w.heap.size + 1) 24 #[.int .i64 0, .slice none 0 0] := HR1.out.below hj5 HR1.out.lt
  obtain ⟨r1, r3, r2, r4, r5, r6, hes, hbf⟩ := tail_facts x5 x4.heap.size (w.heap.size + 1) w.heap.size m J a2 c2 he2 (by have := hj4.size; have := HWS.out; omega) hRr
  have HES := Lib.hid hes
  have HBF := Lib.hid (hbf w (HB0.out.trans (hj5.mono HB0.out.size)) (by omega))
  clear hRr hes hbf
  show K _ _
  refine hK.out _ _ (fun _ _ => hj5) ?_
  clear hK K
  try simp only [Act.put, List.setIfInBounds_toArray, List.set_cons_zero, List.set_cons_succ]
  refine wpAnyL_pureD (i := 12) 42 (.agg #[.int .i64 m, .slice a2 J.length c2]) rfl rfl (by kernel_rfl) (by kernel_rfl) (by kernel_rfl) (fun _ _ _ h => h) (Or.inl ⟨by rfl, fun u _ => ?_⟩) ?_
  · go_simp
  try simp only [Act.put, List.setIfInBounds_toArray, List.set_cons_zero, List.set_cons_succ]
  refine wpAnyL_pureD (i := 13) 43 (.int .i64 (k : Nat)) rfl rfl (by kernel_rfl) (by kernel_rfl) (by kernel_rfl) (fun _ _ _ h => h) (Or.inl ⟨by rfl, fun u _ => ?_⟩) ?_
  · go_simp
  try simp only [Act.put, List.setIfInBounds_toArray, List.set_cons_zero, List.set_cons_succ]
  refine wpAnyL_one (i := 14) (by kernel_rfl) rfl (fun K hK => ?_)
  go_simp
  refine hK.out _ _ (fun h => absurd (by decide) h) ?_
  clear hK K
  try simp only [Act.put, List.setIfInBounds_toArray, List.set_cons_zero, List.set_cons_succ]
  refine wpAnyL_pureD (i := 15) 7 (.int .i64 (k : Nat)) rfl rfl (by kernel_rfl) (by kernel_rfl) (by kernel_rfl) (fun _ _ _ h => h) (Or.inl ⟨by rfl, fun u _ => ?_⟩) ?_
  · go_simp
  try simp only [Act.put, List.setIfInBounds_toArray, List.set_cons_zero, List.set_cons_succ]
  refine wpAnyL_done (by kernel_rfl) ?_ _
  try simp only [Act.put, List.setIfInBounds_toArray, List.set_cons_zero, List.set_cons_succ]
  go_wp2
  refine bodyPost_ret (v := .tuple #[.agg #[.int .i64 m, .slice a2 J.length c2], .int .i64 ((k : Nat) : Int)]) (by simp [results, Try.results20, go_sem, r5, r6]) rfl ?_
  exact ⟨a2, c2, rfl, HES.out, HBF.out⟩
end Go.Proofs.Ytndjjafpdiehdaa
