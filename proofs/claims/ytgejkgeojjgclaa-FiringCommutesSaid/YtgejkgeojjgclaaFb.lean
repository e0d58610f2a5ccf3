/- The errors of a graph with a divisor or a script, by both. -/
import Derived.Test.YtgejkgeojjgclaaFa
namespace Go.Proofs.Ytgejkgeojjgclaa
open Go.RowKit Go.Proofs.Gr Go.Proofs.Cp
attribute [local go_sem] Oper.semAt_some

set_option maxHeartbeats 12800000 in
set_option maxRecDepth 100000 in
theorem pckD_any (n : Int) (a : Option Addr) (cap : Nat) (L : List E) (hL : L.length ≤ 100000) (b : Option Addr) (c : Nat) (D : List Int) (hD : D.length ≤ 1000) (w : World) (h : EsAt w a L) (ho : IsAt w b D) :
    Calls Try.prog 53 #[gv n a L.length cap, .slice b D.length c] w (GivesN w (chkGD n L D : Nat)) := by
  have HG := Lib.hid (fun w h => check_any n a cap L (by omega) w h)
  have HC := Lib.hid (fun w h => pCheck_any b c D hD n w h)
  have HE : Hid (chkGD n L D = if chkG n L ≠ 0 then chkG n L else chkD D n) := Lib.hid rfl
  unfold GivesN gv at *
  generalize chkGD n L D = R at *
  generalize chkG n L = k at *
  generalize chkD D n = kd at *
  obtain ⟨W, hW⟩ : ∃ W, W = w.alloc (Obj.cells #[.int .i64 n, .slice a L.length cap] 24) := ⟨_, rfl⟩
  have hB0 : Below w.heap.size w W := by rw [hW]; exact (Below.refl _ w).alloc (Nat.le_refl _) _
  have hG : Blk W w.heap.size 24 #[.int .i64 n, .slice a L.length cap] := by rw [hW]; exact Blk.new _ _ _
  have hWs : W.heap.size = w.heap.size + 1 := by rw [hW]; simp
  have HW := Lib.hid hW
  have HWS := Lib.hid hWs
  have HB0 := Lib.hid hB0
  have HE1 := Lib.hid (h.keep hB0)
  have HF : Hid (∀ u, Below W.heap.size W u → u.cell? ⟨w.heap.size, 0, none⟩ = some (.int .i64 n) ∧ u.cell? ⟨w.heap.size, 1, none⟩ = some (.slice a L.length cap)) := Lib.hid fun u hu => ⟨(hG.below hu hG.lt).cell 0, (hG.below hu hG.lt).cell 1⟩
  obtain ⟨g0, g1⟩ := HF.out W (Below.refl _ _)
  have HHO := Lib.hid (ho.keep hB0)
  clear ho hB0 hG hW hWs h
  go_enter Try.func53, Try.ntmps53
  go_wp2_with fail
  rw [← HW.out]
  refine (HG.out _ HE1.out).mono ?_
  rintro e w1 ⟨rfl, hb⟩
  have HB1 := Lib.hid hb
  clear g0 g1
  obtain ⟨g0, g1⟩ := HF.out w1 hb
  clear hb
  by_cases hk : k ≠ 0
  · have q0 : (((k : Nat) : Int) != 0) = true := by rw [bne_iff_ne]; omega
    have HR : Hid (R = k) := Lib.hid (by rw [HE.out, if_pos hk])
    clear hk
    go_wp2
    go_ret
    exact ⟨by rw [HR.out]; rfl, HB0.out.trans (HB1.out.mono HB0.out.size)⟩
  · obtain rfl : k = 0 := by omega
    have HR : Hid (R = kd) := Lib.hid (by rw [HE.out, if_neg hk])
    clear hk
    go_wp2_with fail
    refine (HC.out _ (HHO.out.keep HB1.out)).mono ?_
    rintro e w2 ⟨rfl, hb⟩
    have HB2 := Lib.hid (HB1.out.trans (hb.mono HB1.out.size))
    clear hb
    go_wp2
    go_ret
    exact ⟨by rw [HR.out]; rfl, HB0.out.trans (HB2.out.mono HB0.out.size)⟩
set_option maxHeartbeats 12800000 in
set_option maxRecDepth 100000 in
theorem rckS_any (n : Int) (a : Option Addr) (cap : Nat) (L : List E) (hL : L.length ≤ 100000) (b : Option Addr) (c : Nat) (D : List Int) (hD : D.length ≤ 1000) (w : World) (h : EsAt w a L) (ho : IsAt w b D) :
    Calls Try.prog 17 #[gv n a L.length cap, .slice b D.length c] w (GivesN w (chkGD n L D : Nat)) := by
  have HG := Lib.hid (fun w h => rcheck_any n a cap L (by omega) w h)
  have HC := Lib.hid (fun w h => rCheck_any b c D hD n w h)
  have HE : Hid (chkGD n L D = if chkG n L ≠ 0 then chkG n L else chkD D n) := Lib.hid rfl
  unfold GivesN gv at *
  generalize chkGD n L D = R at *
  generalize chkG n L = k at *
  generalize chkD D n = kd at *
  obtain ⟨W, hW⟩ : ∃ W, W = w.alloc (Obj.cells #[.int .i64 n, .slice a L.length cap] 24) := ⟨_, rfl⟩
  have hB0 : Below w.heap.size w W := by rw [hW]; exact (Below.refl _ w).alloc (Nat.le_refl _) _
  have hG : Blk W w.heap.size 24 #[.int .i64 n, .slice a L.length cap] := by rw [hW]; exact Blk.new _ _ _
  have hWs : W.heap.size = w.heap.size + 1 := by rw [hW]; simp
  have HW := Lib.hid hW
  have HWS := Lib.hid hWs
  have HB0 := Lib.hid hB0
  have HE1 := Lib.hid (h.keep hB0)
  have HF : Hid (∀ u, Below W.heap.size W u → u.cell? ⟨w.heap.size, 0, none⟩ = some (.int .i64 n) ∧ u.cell? ⟨w.heap.size, 1, none⟩ = some (.slice a L.length cap)) := Lib.hid fun u hu => ⟨(hG.below hu hG.lt).cell 0, (hG.below hu hG.lt).cell 1⟩
  obtain ⟨g0, g1⟩ := HF.out W (Below.refl _ _)
  have HHO := Lib.hid (ho.keep hB0)
  clear ho hB0 hG hW hWs h
  go_enter Try.func17, Try.ntmps17
  go_wp2_with fail
  rw [← HW.out]
  refine (HG.out _ HE1.out).mono ?_
  rintro e w1 ⟨rfl, hb⟩
  have HB1 := Lib.hid hb
  clear g0 g1
  obtain ⟨g0, g1⟩ := HF.out w1 hb
  clear hb
  by_cases hk : k ≠ 0
  · have q0 : (((k : Nat) : Int) != 0) = true := by rw [bne_iff_ne]; omega
    have HR : Hid (R = k) := Lib.hid (by rw [HE.out, if_pos hk])
    clear hk
    go_wp2
    go_ret
    exact ⟨by rw [HR.out]; rfl, HB0.out.trans (HB1.out.mono HB0.out.size)⟩
  · obtain rfl : k = 0 := by omega
    have HR : Hid (R = kd) := Lib.hid (by rw [HE.out, if_neg hk])
    clear hk
    go_wp2_with fail
    refine (HC.out _ (HHO.out.keep HB1.out)).mono ?_
    rintro e w2 ⟨rfl, hb⟩
    have HB2 := Lib.hid (HB1.out.trans (hb.mono HB1.out.size))
    clear hb
    go_wp2
    go_ret
    exact ⟨by rw [HR.out]; rfl, HB0.out.trans (HB2.out.mono HB0.out.size)⟩
set_option maxHeartbeats 12800000 in
set_option maxRecDepth 100000 in
theorem rGiven_any (n : Int) (a : Option Addr) (cap : Nat) (L : List E) (hL : L.length ≤ 100000) (b : Option Addr) (c : Nat) (D : List Int) (hD : D.length ≤ 1000) (w : World) (h : EsAt w a L) (ho : IsAt w b D) :
    Calls Try.prog 57 #[gv n a L.length cap, .slice b D.length c] w (GivesN w (chkGD n L D : Nat)) := by
  have HG := Lib.hid (fun w h => rcheck_any n a cap L (by omega) w h)
  have HC := Lib.hid (fun w h => rCheck_any b c D hD n w h)
  have HE : Hid (chkGD n L D = if chkG n L ≠ 0 then chkG n L else chkD D n) := Lib.hid rfl
  unfold GivesN gv at *
  generalize chkGD n L D = R at *
  generalize chkG n L = k at *
  generalize chkD D n = kd at *
  obtain ⟨W, hW⟩ : ∃ W, W = w.alloc (Obj.cells #[.int .i64 n, .slice a L.length cap] 24) := ⟨_, rfl⟩
  have hB0 : Below w.heap.size w W := by rw [hW]; exact (Below.refl _ w).alloc (Nat.le_refl _) _
  have hG : Blk W w.heap.size 24 #[.int .i64 n, .slice a L.length cap] := by rw [hW]; exact Blk.new _ _ _
  have hWs : W.heap.size = w.heap.size + 1 := by rw [hW]; simp
  have HW := Lib.hid hW
  have HWS := Lib.hid hWs
  have HB0 := Lib.hid hB0
  have HE1 := Lib.hid (h.keep hB0)
  have HF : Hid (∀ u, Below W.heap.size W u → u.cell? ⟨w.heap.size, 0, none⟩ = some (.int .i64 n) ∧ u.cell? ⟨w.heap.size, 1, none⟩ = some (.slice a L.length cap)) := Lib.hid fun u hu => ⟨(hG.below hu hG.lt).cell 0, (hG.below hu hG.lt).cell 1⟩
  obtain ⟨g0, g1⟩ := HF.out W (Below.refl _ _)
  have HHO := Lib.hid (ho.keep hB0)
  clear ho hB0 hG hW hWs h
  go_enter Try.func57, Try.ntmps57
  go_wp2_with fail
  rw [← HW.out]
  refine (HG.out _ HE1.out).mono ?_
  rintro e w1 ⟨rfl, hb⟩
  have HB1 := Lib.hid hb
  clear g0 g1
  obtain ⟨g0, g1⟩ := HF.out w1 hb
  clear hb
  by_cases hk : k ≠ 0
  · have q0 : (((k : Nat) : Int) != 0) = true := by rw [bne_iff_ne]; omega
    have HR : Hid (R = k) := Lib.hid (by rw [HE.out, if_pos hk])
    clear hk
    go_wp2
    go_ret
    exact ⟨by rw [HR.out]; rfl, HB0.out.trans (HB1.out.mono HB0.out.size)⟩
  · obtain rfl : k = 0 := by omega
    have HR : Hid (R = kd) := Lib.hid (by rw [HE.out, if_neg hk])
    clear hk
    go_wp2_with fail
    refine (HC.out _ (HHO.out.keep HB1.out)).mono ?_
    rintro e w2 ⟨rfl, hb⟩
    have HB2 := Lib.hid (HB1.out.trans (hb.mono HB1.out.size))
    clear hb
    go_wp2
    go_ret
    exact ⟨by rw [HR.out]; rfl, HB0.out.trans (HB2.out.mono HB0.out.size)⟩
set_option maxHeartbeats 12800000 in
set_option maxRecDepth 100000 in
theorem pckS_any (n : Int) (a : Option Addr) (cap : Nat) (L : List E) (hL : L.length ≤ 100000) (b : Option Addr) (c : Nat) (D : List Int) (hD : D.length ≤ 1000) (w : World) (h : EsAt w a L) (ho : IsAt w b D) :
    Calls Try.prog 16 #[gv n a L.length cap, .slice b D.length c] w (GivesN w (chkGD n L D : Nat)) := by
  have HC := Lib.hid (fun w h ho => pckD_any n a cap L hL b c D hD w h ho)
  unfold GivesN gv at *
  generalize chkGD n L D = R at *
  obtain ⟨W, hW⟩ : ∃ W, W = w.alloc (Obj.cells #[.int .i64 n, .slice a L.length cap] 24) := ⟨_, rfl⟩
  have hB0 : Below w.heap.size w W := by rw [hW]; exact (Below.refl _ w).alloc (Nat.le_refl _) _
  have hG : Blk W w.heap.size 24 #[.int .i64 n, .slice a L.length cap] := by rw [hW]; exact Blk.new _ _ _
  have hWs : W.heap.size = w.heap.size + 1 := by rw [hW]; simp
  have HW := Lib.hid hW
  have HWS := Lib.hid hWs
  have HB0 := Lib.hid hB0
  have HE1 := Lib.hid (h.keep hB0)
  have HF : Hid (∀ u, Below W.heap.size W u → u.cell? ⟨w.heap.size, 0, none⟩ = some (.int .i64 n) ∧ u.cell? ⟨w.heap.size, 1, none⟩ = some (.slice a L.length cap)) := Lib.hid fun u hu => ⟨(hG.below hu hG.lt).cell 0, (hG.below hu hG.lt).cell 1⟩
  obtain ⟨g0, g1⟩ := HF.out W (Below.refl _ _)
  have HHO := Lib.hid (ho.keep hB0)
  clear ho hB0 hG hW hWs h
  go_enter Try.func16, Try.ntmps16
  go_wp2_with fail
  rw [← HW.out]
  refine (HC.out _ HE1.out HHO.out).mono ?_
  rintro e w1 ⟨rfl, hb⟩
  have HB1 := Lib.hid hb
  clear hb
  go_wp2
  go_ret
  exact ⟨rfl, HB0.out.trans (HB1.out.mono HB0.out.size)⟩
end Go.Proofs.Ytgejkgeojjgclaa
