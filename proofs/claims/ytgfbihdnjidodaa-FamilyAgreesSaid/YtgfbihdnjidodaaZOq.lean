/- Graphs that belong to two kinds. -/
import Derived.Test.YtgfbihdnjidodaaQ18
namespace Go.Proofs.Ytgfbihdnjidodaa
open Go.RowKit Go.Shelf Go.Proofs.Gr
attribute [local go_sem] Oper.semAt_some

set_option maxHeartbeats 12800000 in
set_option maxRecDepth 100000 in
theorem same_A (ka kb : Nat) (t1 : ((ka : Int) == 7) = false) (t2 : ((kb : Int) == 7) = false) (p q : Option Addr) (cp cq : Nat) (K L : List Int) (m : Int) (J : List E) (hJ : J.length ≤ 100000) (M : List Int) (hMl : M.length ≤ 100000) (w : World) (hI1 : IsAt w p K) (hI2 : IsAt w q L)
    (hM1 : ∀ w, IsAt w p K → Calls Try.prog 12 #[.int .i64 ka, .slice p K.length cp] w (fun e x => ∃ a c, e = .returned (.tuple #[.agg #[.int .i64 m, .slice a J.length c], .int .i64 0]) ∧ EsAt x a J ∧ Below w.heap.size w x))
    (hM2 : ∀ w, IsAt w q L → Calls Try.prog 12 #[.int .i64 kb, .slice q L.length cq] w (fun e x => ∃ a c, e = .returned (.tuple #[.agg #[.int .i64 m, .slice a J.length c], .int .i64 0]) ∧ EsAt x a J ∧ Below w.heap.size w x))
    (hC1 : ∀ w, IsAt w p K → Calls Try.prog 22 #[.int .i64 ka, .slice p K.length cp] w (fun e x => ∃ a c, e = .returned (.tuple #[.slice a M.length c, .int .i64 0]) ∧ IsAt x a M ∧ Below w.heap.size w x))
    (hC2 : ∀ w, IsAt w q L → Calls Try.prog 22 #[.int .i64 kb, .slice q L.length cq] w (fun e x => ∃ a c, e = .returned (.tuple #[.slice a M.length c, .int .i64 0]) ∧ IsAt x a M ∧ Below w.heap.size w x)) :
    Calls Try.prog 23 #[.int .i64 ka, .slice p K.length cp, .int .i64 kb, .slice q L.length cq] w (fun e x => e = .returned (.bool true) ∧ Below w.heap.size w x) := by
  have HI1 := Lib.hid hI1
  have HI2 := Lib.hid hI2
  have HM1 := Lib.hid hM1
  have HM2 := Lib.hid hM2
  have HC1 := Lib.hid hC1
  have HC2 := Lib.hid hC2
  have HS := Lib.hid (fun a b c d w h1 h2 => same_true m a b c d J hJ w h1 h2)
  unfold gv at HS
  clear hI1 hI2 hM1 hM2 hC1 hC2 hJ
  go_enter Try.func23, Try.ntmps23
  go_wp2_with fail
  refine (HM1.out w HI1.out).mono ?_
  rintro e x1 ⟨a1, c1, rfl, he1, hb1⟩
  obtain ⟨Z1, hZ1⟩ : ∃ Z, Z = x1.alloc (Obj.cells #[.int .i64 m, .slice a1 J.length c1] 31) := ⟨_, rfl⟩
  have hz1 : Below x1.heap.size x1 Z1 := by rw [hZ1]; exact (Below.refl _ _).alloc (Nat.le_refl _) _
  have HB1 : Hid (Below w.heap.size w Z1) := Lib.hid (hb1.trans (hz1.mono hb1.size))
  have HX1 : Hid (BoxAt Z1 x1.heap.size m a1 J.length c1) := Lib.hid (by rw [hZ1]; exact Blk.new _ _ _)
  have HE1 := Lib.hid (he1.keep hz1)
  have HK2 := Lib.hid (HI2.out.keep HB1.out)
  have HK1 := Lib.hid (HI1.out.keep HB1.out)
  have HZ1 := Lib.hid hZ1
  clear hZ1 hz1 hb1 he1
  go_wp2_with fail
  rw [← HZ1.out]
  refine (HM2.out Z1 HK2.out).mono ?_
  rintro e x2 ⟨a2, c2, rfl, he2, hb2⟩
  obtain ⟨Z2, hZ2⟩ : ∃ Z, Z = x2.alloc (Obj.cells #[.int .i64 m, .slice a2 J.length c2] 31) := ⟨_, rfl⟩
  have hz2 : Below x2.heap.size x2 Z2 := by rw [hZ2]; exact (Below.refl _ _).alloc (Nat.le_refl _) _
  have hb22 : Below Z1.heap.size Z1 Z2 := hb2.trans (hz2.mono hb2.size)
  have HB2 : Hid (Below w.heap.size w Z2) := Lib.hid (HB1.out.trans (hb22.mono HB1.out.size))
  have HX12 := Lib.hid (HX1.out.keep hb22)
  have HX2 : Hid (BoxAt Z2 x2.heap.size m a2 J.length c2) := Lib.hid (by rw [hZ2]; exact Blk.new _ _ _)
  have HE12 := Lib.hid (HE1.out.keep hb22)
  have HE2 := Lib.hid (he2.keep hz2)
  have HK12 := Lib.hid (HK1.out.keep hb22)
  have HK22 := Lib.hid (HK2.out.keep hb22)
  have HZ2 := Lib.hid hZ2
  clear hZ2 hz2 hb2 he2 hb22
  go_wp2_with fail
  rw [← HZ2.out]
  refine (HC1.out Z2 HK12.out).mono ?_
  rintro e x3 ⟨a3, c3, rfl, hm3, hb3⟩
  have HB3 := Lib.hid (HB2.out.trans (hb3.mono HB2.out.size))
  have HX13 := Lib.hid (HX12.out.keep hb3)
  have HX23 := Lib.hid (HX2.out.keep hb3)
  have HE13 := Lib.hid (HE12.out.keep hb3)
  have HE23 := Lib.hid (HE2.out.keep hb3)
  have HK23 := Lib.hid (HK22.out.keep hb3)
  have HM3 := Lib.hid hm3
  clear hb3 hm3
  go_wp2_with fail
  refine (HC2.out x3 HK23.out).mono ?_
  rintro e x4 ⟨a4, c4, rfl, hm4, hb4⟩
  have HB4 := Lib.hid (HB3.out.trans (hb4.mono HB3.out.size))
  have hx1 := HX13.out.keep hb4
  have hx2 := HX23.out.keep hb4
  have HE14 := Lib.hid (HE13.out.keep hb4)
  have HE24 := Lib.hid (HE23.out.keep hb4)
  have HM34 := Lib.hid (HM3.out.keep hb4)
  have HM4 := Lib.hid hm4
  have g0 : x4.cell? ⟨x1.heap.size, 0, none⟩ = some (.int .i64 m) := hx1.cell 0
  have g1 : x4.cell? ⟨x1.heap.size, 1, none⟩ = some (.slice a1 J.length c1) := hx1.cell 1
  have g2 : x4.cell? ⟨x2.heap.size, 0, none⟩ = some (.int .i64 m) := hx2.cell 0
  have g3 : x4.cell? ⟨x2.heap.size, 1, none⟩ = some (.slice a2 J.length c2) := hx2.cell 1
  have HSA := Lib.hid (HS.out a1 a2 c1 c2 x4 HE14.out HE24.out)
  clear hx1 hx2 hb4 hm4
  go_wp2_with fail
  refine HSA.out.mono ?_
  rintro e x5 ⟨rfl, hb5⟩
  have HB5 := Lib.hid (HB4.out.trans (hb5.mono HB4.out.size))
  have HEQ := Lib.hid (equalI_true a3 a4 c3 c4 M hMl x5 (HM34.out.keep hb5) (HM4.out.keep hb5))
  clear hb5 g0 g1 g2 g3
  go_wp2_with fail
  refine HEQ.out.mono ?_
  rintro e x6 ⟨rfl, hb6⟩
  have HB6 := Lib.hid (HB5.out.trans (hb6.mono HB5.out.size))
  clear hb6
  go_wp2
  go_ret
  exact ⟨rfl, HB6.out⟩
set_option maxHeartbeats 12800000 in
set_option maxRecDepth 100000 in
theorem same_B (ka kb : Nat) (t1 : ((ka : Int) == 7) = true) (p q : Option Addr) (cp cq : Nat) (K L : List Int) (m : Int) (J : List E) (hJ : J.length ≤ 100000) (M M2 : List Int) (w : World) (hI1 : IsAt w p K) (hI2 : IsAt w q L)
    (hM1 : ∀ w, IsAt w p K → Calls Try.prog 12 #[.int .i64 ka, .slice p K.length cp] w (fun e x => ∃ a c, e = .returned (.tuple #[.agg #[.int .i64 m, .slice a J.length c], .int .i64 0]) ∧ EsAt x a J ∧ Below w.heap.size w x))
    (hM2 : ∀ w, IsAt w q L → Calls Try.prog 12 #[.int .i64 kb, .slice q L.length cq] w (fun e x => ∃ a c, e = .returned (.tuple #[.agg #[.int .i64 m, .slice a J.length c], .int .i64 0]) ∧ EsAt x a J ∧ Below w.heap.size w x))
    (hC1 : ∀ w, IsAt w p K → Calls Try.prog 22 #[.int .i64 ka, .slice p K.length cp] w (fun e x => ∃ a c, e = .returned (.tuple #[.slice a M.length c, .int .i64 15]) ∧ IsAt x a M ∧ Below w.heap.size w x))
    (hC2 : ∀ w, IsAt w q L → Calls Try.prog 22 #[.int .i64 kb, .slice q L.length cq] w (fun e x => ∃ a c, e = .returned (.tuple #[.slice a M2.length c, .int .i64 0]) ∧ IsAt x a M2 ∧ Below w.heap.size w x)) :
    Calls Try.prog 23 #[.int .i64 ka, .slice p K.length cp, .int .i64 kb, .slice q L.length cq] w (fun e x => e = .returned (.bool true) ∧ Below w.heap.size w x) := by
  have HI1 := Lib.hid hI1
  have HI2 := Lib.hid hI2
  have HM1 := Lib.hid hM1
  have HM2 := Lib.hid hM2
  have HC1 := Lib.hid hC1
  have HC2 := Lib.hid hC2
  have HS := Lib.hid (fun a b c d w h1 h2 => same_true m a b c d J hJ w h1 h2)
  unfold gv at HS
  clear hI1 hI2 hM1 hM2 hC1 hC2 hJ
  go_enter Try.func23, Try.ntmps23
  go_wp2_with fail
  refine (HM1.out w HI1.out).mono ?_
  rintro e x1 ⟨a1, c1, rfl, he1, hb1⟩
  obtain ⟨Z1, hZ1⟩ : ∃ Z, Z = x1.alloc (Obj.cells #[.int .i64 m, .slice a1 J.length c1] 31) := ⟨_, rfl⟩
  have hz1 : Below x1.heap.size x1 Z1 := by rw [hZ1]; exact (Below.refl _ _).alloc (Nat.le_refl _) _
  have HB1 : Hid (Below w.heap.size w Z1) := Lib.hid (hb1.trans (hz1.mono hb1.size))
  have HX1 : Hid (BoxAt Z1 x1.heap.size m a1 J.length c1) := Lib.hid (by rw [hZ1]; exact Blk.new _ _ _)
  have HE1 := Lib.hid (he1.keep hz1)
  have HK2 := Lib.hid (HI2.out.keep HB1.out)
  have HK1 := Lib.hid (HI1.out.keep HB1.out)
  have HZ1 := Lib.hid hZ1
  clear hZ1 hz1 hb1 he1
  go_wp2_with fail
  rw [← HZ1.out]
  refine (HM2.out Z1 HK2.out).mono ?_
  rintro e x2 ⟨a2, c2, rfl, he2, hb2⟩
  obtain ⟨Z2, hZ2⟩ : ∃ Z, Z = x2.alloc (Obj.cells #[.int .i64 m, .slice a2 J.length c2] 31) := ⟨_, rfl⟩
  have hz2 : Below x2.heap.size x2 Z2 := by rw [hZ2]; exact (Below.refl _ _).alloc (Nat.le_refl _) _
  have hb22 : Below Z1.heap.size Z1 Z2 := hb2.trans (hz2.mono hb2.size)
  have HB2 : Hid (Below w.heap.size w Z2) := Lib.hid (HB1.out.trans (hb22.mono HB1.out.size))
  have HX12 := Lib.hid (HX1.out.keep hb22)
  have HX2 : Hid (BoxAt Z2 x2.heap.size m a2 J.length c2) := Lib.hid (by rw [hZ2]; exact Blk.new _ _ _)
  have HE12 := Lib.hid (HE1.out.keep hb22)
  have HE2 := Lib.hid (he2.keep hz2)
  have HK12 := Lib.hid (HK1.out.keep hb22)
  have HK22 := Lib.hid (HK2.out.keep hb22)
  have HZ2 := Lib.hid hZ2
  clear hZ2 hz2 hb2 he2 hb22
  go_wp2_with fail
  rw [← HZ2.out]
  refine (HC1.out Z2 HK12.out).mono ?_
  rintro e x3 ⟨a3, c3, rfl, hm3, hb3⟩
  have HB3 := Lib.hid (HB2.out.trans (hb3.mono HB2.out.size))
  have HX13 := Lib.hid (HX12.out.keep hb3)
  have HX23 := Lib.hid (HX2.out.keep hb3)
  have HE13 := Lib.hid (HE12.out.keep hb3)
  have HE23 := Lib.hid (HE2.out.keep hb3)
  have HK23 := Lib.hid (HK22.out.keep hb3)
  have HM3 := Lib.hid hm3
  clear hb3 hm3
  go_wp2_with fail
  refine (HC2.out x3 HK23.out).mono ?_
  rintro e x4 ⟨a4, c4, rfl, hm4, hb4⟩
  have HB4 := Lib.hid (HB3.out.trans (hb4.mono HB3.out.size))
  have hx1 := HX13.out.keep hb4
  have hx2 := HX23.out.keep hb4
  have HE14 := Lib.hid (HE13.out.keep hb4)
  have HE24 := Lib.hid (HE23.out.keep hb4)
  have HM34 := Lib.hid (HM3.out.keep hb4)
  have HM4 := Lib.hid hm4
  have g0 : x4.cell? ⟨x1.heap.size, 0, none⟩ = some (.int .i64 m) := hx1.cell 0
  have g1 : x4.cell? ⟨x1.heap.size, 1, none⟩ = some (.slice a1 J.length c1) := hx1.cell 1
  have g2 : x4.cell? ⟨x2.heap.size, 0, none⟩ = some (.int .i64 m) := hx2.cell 0
  have g3 : x4.cell? ⟨x2.heap.size, 1, none⟩ = some (.slice a2 J.length c2) := hx2.cell 1
  have HSA := Lib.hid (HS.out a1 a2 c1 c2 x4 HE14.out HE24.out)
  clear hx1 hx2 hb4 hm4
  go_wp2_with fail
  refine HSA.out.mono ?_
  rintro e x5 ⟨rfl, hb5⟩
  have HB5 := Lib.hid (HB4.out.trans (hb5.mono HB4.out.size))
  clear hb5 g0 g1 g2 g3
  go_wp2
  go_ret
  exact ⟨rfl, HB5.out⟩
/-- Two kinds with sizes give one graph. -/
def sameOK (ka : Nat) (K : List Int) (kb : Nat) (L : List Int) : Bool := decide (famE ka K = 0) && decide (famE kb L = 0) && decide (famN ka K = famN kb L) && decide (famJ ka K = famJ kb L) && (decide (ka = 7 ∧ kb ≠ 7) || (decide (ka ≠ 7 ∧ kb ≠ 7) && decide (cycM ka K = cycM kb L)))
theorem conSame (ka kb : Nat) (hka : ka ≤ 8) (hkb : kb ≤ 8) (K L : List Int) (hK : K.length ≤ 1000000) (hL : L.length ≤ 1000000) (h : sameOK ka K kb L = true) (p q : Option Addr) (cp cq : Nat) (w : World) (hI1 : IsAt w p K) (hI2 : IsAt w q L) :
    Calls Try.prog 23 #[.int .i64 ka, .slice p K.length cp, .int .i64 kb, .slice q L.length cq] w (fun e x => e = .returned (.bool true) ∧ Below w.heap.size w x) := by
  unfold sameOK at h
  simp only [Bool.and_eq_true, Bool.or_eq_true, decide_eq_true_eq] at h
  obtain ⟨⟨⟨⟨h1, h2⟩, h3⟩, h4⟩, h5⟩ := h
  have hm1 := fun w h => conMk ka K (famN ka K) (famJ ka K) hka hK h1 rfl rfl p cp w h
  have hm2 := fun w h => conMk kb L (famN ka K) (famJ ka K) hkb hL h2 h3.symm h4.symm q cq w h
  have hJ := famJ_len hka h1
  rcases h5 with ⟨h5, h6⟩ | ⟨⟨h5, h6⟩, h7⟩
  · have e1 : cycE ka K = 15 := by unfold cycE; rw [if_neg (by omega), if_pos h5]
    have e2 : cycE kb L = 0 := by unfold cycE; rw [if_neg (by omega), if_neg h6]
    have hc1 := fun w h => pCyc_all ka hka p cp K hK w h
    have hc2 := fun w h => pCyc_all kb hkb q cq L hL w h
    rw [e1] at hc1
    rw [e2] at hc2
    exact same_B ka kb (by rw [h5]; rfl) p q cp cq K L _ _ hJ _ _ w hI1 hI2 hm1 hm2 hc1 hc2
  · have e1 : cycE ka K = 0 := by unfold cycE; rw [if_neg (by omega), if_neg h5]
    have e2 : cycE kb L = 0 := by unfold cycE; rw [if_neg (by omega), if_neg h6]
    have hc1 := fun w h => pCyc_all ka hka p cp K hK w h
    have hc2 := fun w h => pCyc_all kb hkb q cq L hL w h
    rw [e1] at hc1
    rw [e2, ← h7] at hc2
    exact same_A ka kb (by rw [beq_eq_false_iff_ne]; omega) (by rw [beq_eq_false_iff_ne]; omega) p q cp cq K L _ _ hJ _ (Nat.le_trans (cycM_len ka K hka) (by omega)) w hI1 hI2 hm1 hm2 hc1 hc2
set_option maxRecDepth 100000 in
theorem agr0 : sameOK 3 [3] 1 [3] = true ∧ sameOK 8 [1, 1, 1] 4 [3] = true ∧ sameOK 3 [2] 0 [2] = true ∧ sameOK 1 [2] 4 [2] = true := by decide +kernel
set_option maxRecDepth 100000 in
theorem agr1 : ∀ r : Fin 11, sameOK 6 [1, 1 + (r.1 : Int)] 2 [1 + (r.1 : Int)] = true ∧ sameOK 7 [1, 1 + (r.1 : Int)] 0 [1 + (r.1 : Int)] = true := by decide +kernel
set_option maxHeartbeats 12800000 in
set_option maxRecDepth 100000 in
theorem agrees_any (n : Int) (h0 : 0 ≤ n) (h1 : n ≤ 255) (w : World) : Calls Try.prog 6 #[.int .u8 n] w (fun e x => e = .returned (.bool true) ∧ Below w.heap.size w x) := by
  have HA := Lib.hid (fun w => awakeF_any w)
  obtain ⟨r, hr⟩ : ∃ r : Nat, (r : Int) = n % 11 := ⟨(n % 11).toNat, by omega⟩
  have hr11 : r < 11 := by omega
  have e0 : n.tmod 11 = (r : Int) := by rw [Int.tmod_eq_emod_of_nonneg h0]; exact hr.symm
  have HAG := Lib.hid (agr1 ⟨r, hr11⟩)
  simp only at HAG
  obtain ⟨k, hk⟩ : ∃ k : Int, k = 1 + (r : Int) := ⟨_, rfl⟩
  rw [← hk] at HAG
  have e1 : 1 + (r : Int) = k := hk.symm
  have e2 : IntKind.i64.wrap k = k := IntWalk.i64_in _ (by omega)
  clear hk hr
  go_enter Try.func6, Try.ntmps6
  obtain ⟨Y1, hY1⟩ : ∃ Y, Y = (w.alloc (Obj.cells #[.int .i64 3] 3)).alloc (Obj.cells #[.int .i64 3] 3) := ⟨_, rfl⟩
  have ha1 : IsAt Y1 (some ⟨w.heap.size, 0, none⟩) [3] := by rw [hY1]; exact RowAt.of_blkF (k := 1) (enc := encI) encI_len (Blk.alloc (Blk.new w 3 #[.int .i64 3]) _) rfl
  have hc1 : IsAt Y1 (some ⟨w.heap.size + 1, 0, none⟩) [3] := by
    rw [hY1]
    have := Blk.new (w.alloc (Obj.cells #[.int .i64 3] 3)) 3 #[.int .i64 3]
    rw [World.size_alloc] at this
    exact RowAt.of_blkF (k := 1) (enc := encI) encI_len this rfl
  have hB1 : Below w.heap.size w Y1 := by rw [hY1]; exact ((Below.refl _ _).alloc (Nat.le_refl _) _).alloc (by simp) _
  have HC1 : Hid (Calls Try.prog 23 #[.int .i64 3, .slice (some ⟨w.heap.size, 0, none⟩) 1 1, .int .i64 1, .slice (some ⟨w.heap.size + 1, 0, none⟩) 1 1] Y1 (fun e x => e = .returned (.bool true) ∧ Below Y1.heap.size Y1 x)) := Lib.hid (conSame 3 1 (by omega) (by omega) [3] [3] (by simp) (by simp) agr0.1 _ _ 1 1 Y1 ha1 hc1)
  have HY1 := Lib.hid hY1
  have HBY1 : Hid (Below w.heap.size w Y1) := Lib.hid (hB1)
  clear hY1 ha1 hc1 hB1
  go_wp2_with fail
  rw [← HY1.out]
  refine HC1.out.mono ?_
  rintro e x1 ⟨rfl, hb1⟩
  have HB1 := Lib.hid (HBY1.out.trans (hb1.mono HBY1.out.size))
  clear hb1
  obtain ⟨Y2, hY2⟩ : ∃ Y, Y = (x1.alloc (Obj.cells #[.int .i64 1, .int .i64 1, .int .i64 1] 3)).alloc (Obj.cells #[.int .i64 3] 3) := ⟨_, rfl⟩
  have ha2 : IsAt Y2 (some ⟨x1.heap.size, 0, none⟩) [1, 1, 1] := by rw [hY2]; exact RowAt.of_blkF (k := 1) (enc := encI) encI_len (Blk.alloc (Blk.new x1 3 #[.int .i64 1, .int .i64 1, .int .i64 1]) _) rfl
  have hc2 : IsAt Y2 (some ⟨x1.heap.size + 1, 0, none⟩) [3] := by
    rw [hY2]
    have := Blk.new (x1.alloc (Obj.cells #[.int .i64 1, .int .i64 1, .int .i64 1] 3)) 3 #[.int .i64 3]
    rw [World.size_alloc] at this
    exact RowAt.of_blkF (k := 1) (enc := encI) encI_len this rfl
  have hB2 : Below x1.heap.size x1 Y2 := by rw [hY2]; exact ((Below.refl _ _).alloc (Nat.le_refl _) _).alloc (by simp) _
  have HC2 : Hid (Calls Try.prog 23 #[.int .i64 8, .slice (some ⟨x1.heap.size, 0, none⟩) 3 3, .int .i64 4, .slice (some ⟨x1.heap.size + 1, 0, none⟩) 1 1] Y2 (fun e x => e = .returned (.bool true) ∧ Below Y2.heap.size Y2 x)) := Lib.hid (conSame 8 4 (by omega) (by omega) [1, 1, 1] [3] (by simp) (by simp) agr0.2.1 _ _ 3 1 Y2 ha2 hc2)
  have HY2 := Lib.hid hY2
  have HBY2 : Hid (Below w.heap.size w Y2) := Lib.hid (HB1.out.trans (hB2.mono HB1.out.size))
  clear hY2 ha2 hc2 hB2
  go_wp2_with fail
  rw [← HY2.out]
  refine HC2.out.mono ?_
  rintro e x2 ⟨rfl, hb2⟩
  have HB2 := Lib.hid (HBY2.out.trans (hb2.mono HBY2.out.size))
  clear hb2
  obtain ⟨Y3, hY3⟩ : ∃ Y, Y = (x2.alloc (Obj.cells #[.int .i64 1, .int .i64 k] 3)).alloc (Obj.cells #[.int .i64 k] 3) := ⟨_, rfl⟩
  have ha3 : IsAt Y3 (some ⟨x2.heap.size, 0, none⟩) [1, k] := by rw [hY3]; exact RowAt.of_blkF (k := 1) (enc := encI) encI_len (Blk.alloc (Blk.new x2 3 #[.int .i64 1, .int .i64 k]) _) rfl
  have hc3 : IsAt Y3 (some ⟨x2.heap.size + 1, 0, none⟩) [k] := by
    rw [hY3]
    have := Blk.new (x2.alloc (Obj.cells #[.int .i64 1, .int .i64 k] 3)) 3 #[.int .i64 k]
    rw [World.size_alloc] at this
    exact RowAt.of_blkF (k := 1) (enc := encI) encI_len this rfl
  have hB3 : Below x2.heap.size x2 Y3 := by rw [hY3]; exact ((Below.refl _ _).alloc (Nat.le_refl _) _).alloc (by simp) _
  have HC3 : Hid (Calls Try.prog 23 #[.int .i64 6, .slice (some ⟨x2.heap.size, 0, none⟩) 2 2, .int .i64 2, .slice (some ⟨x2.heap.size + 1, 0, none⟩) 1 1] Y3 (fun e x => e = .returned (.bool true) ∧ Below Y3.heap.size Y3 x)) := Lib.hid (conSame 6 2 (by omega) (by omega) [1, k] [k] (by simp) (by simp) HAG.out.1 _ _ 2 1 Y3 ha3 hc3)
  have HY3 := Lib.hid hY3
  have HBY3 : Hid (Below w.heap.size w Y3) := Lib.hid (HB2.out.trans (hB3.mono HB2.out.size))
  clear hY3 ha3 hc3 hB3
  go_wp2_with fail
  rw [← HY3.out]
  refine HC3.out.mono ?_
  rintro e x3 ⟨rfl, hb3⟩
  have HB3 := Lib.hid (HBY3.out.trans (hb3.mono HBY3.out.size))
  clear hb3
  obtain ⟨Y4, hY4⟩ : ∃ Y, Y = (x3.alloc (Obj.cells #[.int .i64 1, .int .i64 k] 3)).alloc (Obj.cells #[.int .i64 k] 3) := ⟨_, rfl⟩
  have ha4 : IsAt Y4 (some ⟨x3.heap.size, 0, none⟩) [1, k] := by rw [hY4]; exact RowAt.of_blkF (k := 1) (enc := encI) encI_len (Blk.alloc (Blk.new x3 3 #[.int .i64 1, .int .i64 k]) _) rfl
  have hc4 : IsAt Y4 (some ⟨x3.heap.size + 1, 0, none⟩) [k] := by
    rw [hY4]
    have := Blk.new (x3.alloc (Obj.cells #[.int .i64 1, .int .i64 k] 3)) 3 #[.int .i64 k]
    rw [World.size_alloc] at this
    exact RowAt.of_blkF (k := 1) (enc := encI) encI_len this rfl
  have hB4 : Below x3.heap.size x3 Y4 := by rw [hY4]; exact ((Below.refl _ _).alloc (Nat.le_refl _) _).alloc (by simp) _
  have HC4 : Hid (Calls Try.prog 23 #[.int .i64 7, .slice (some ⟨x3.heap.size, 0, none⟩) 2 2, .int .i64 0, .slice (some ⟨x3.heap.size + 1, 0, none⟩) 1 1] Y4 (fun e x => e = .returned (.bool true) ∧ Below Y4.heap.size Y4 x)) := Lib.hid (conSame 7 0 (by omega) (by omega) [1, k] [k] (by simp) (by simp) HAG.out.2 _ _ 2 1 Y4 ha4 hc4)
  have HY4 := Lib.hid hY4
  have HBY4 : Hid (Below w.heap.size w Y4) := Lib.hid (HB3.out.trans (hB4.mono HB3.out.size))
  clear hY4 ha4 hc4 hB4
  go_wp2_with fail
  rw [← HY4.out]
  refine HC4.out.mono ?_
  rintro e x4 ⟨rfl, hb4⟩
  have HB4 := Lib.hid (HBY4.out.trans (hb4.mono HBY4.out.size))
  clear hb4
  obtain ⟨Y5, hY5⟩ : ∃ Y, Y = (x4.alloc (Obj.cells #[.int .i64 2] 3)).alloc (Obj.cells #[.int .i64 2] 3) := ⟨_, rfl⟩
  have ha5 : IsAt Y5 (some ⟨x4.heap.size, 0, none⟩) [2] := by rw [hY5]; exact RowAt.of_blkF (k := 1) (enc := encI) encI_len (Blk.alloc (Blk.new x4 3 #[.int .i64 2]) _) rfl
  have hc5 : IsAt Y5 (some ⟨x4.heap.size + 1, 0, none⟩) [2] := by
    rw [hY5]
    have := Blk.new (x4.alloc (Obj.cells #[.int .i64 2] 3)) 3 #[.int .i64 2]
    rw [World.size_alloc] at this
    exact RowAt.of_blkF (k := 1) (enc := encI) encI_len this rfl
  have hB5 : Below x4.heap.size x4 Y5 := by rw [hY5]; exact ((Below.refl _ _).alloc (Nat.le_refl _) _).alloc (by simp) _
  have HC5 : Hid (Calls Try.prog 23 #[.int .i64 3, .slice (some ⟨x4.heap.size, 0, none⟩) 1 1, .int .i64 0, .slice (some ⟨x4.heap.size + 1, 0, none⟩) 1 1] Y5 (fun e x => e = .returned (.bool true) ∧ Below Y5.heap.size Y5 x)) := Lib.hid (conSame 3 0 (by omega) (by omega) [2] [2] (by simp) (by simp) agr0.2.2.1 _ _ 1 1 Y5 ha5 hc5)
  have HY5 := Lib.hid hY5
  have HBY5 : Hid (Below w.heap.size w Y5) := Lib.hid (HB4.out.trans (hB5.mono HB4.out.size))
  clear hY5 ha5 hc5 hB5
  go_wp2_with fail
  rw [← HY5.out]
  refine HC5.out.mono ?_
  rintro e x5 ⟨rfl, hb5⟩
  have HB5 := Lib.hid (HBY5.out.trans (hb5.mono HBY5.out.size))
  clear hb5
  obtain ⟨Y6, hY6⟩ : ∃ Y, Y = (x5.alloc (Obj.cells #[.int .i64 2] 3)).alloc (Obj.cells #[.int .i64 2] 3) := ⟨_, rfl⟩
  have ha6 : IsAt Y6 (some ⟨x5.heap.size, 0, none⟩) [2] := by rw [hY6]; exact RowAt.of_blkF (k := 1) (enc := encI) encI_len (Blk.alloc (Blk.new x5 3 #[.int .i64 2]) _) rfl
  have hc6 : IsAt Y6 (some ⟨x5.heap.size + 1, 0, none⟩) [2] := by
    rw [hY6]
    have := Blk.new (x5.alloc (Obj.cells #[.int .i64 2] 3)) 3 #[.int .i64 2]
    rw [World.size_alloc] at this
    exact RowAt.of_blkF (k := 1) (enc := encI) encI_len this rfl
  have hB6 : Below x5.heap.size x5 Y6 := by rw [hY6]; exact ((Below.refl _ _).alloc (Nat.le_refl _) _).alloc (by simp) _
  have HC6 : Hid (Calls Try.prog 23 #[.int .i64 1, .slice (some ⟨x5.heap.size, 0, none⟩) 1 1, .int .i64 4, .slice (some ⟨x5.heap.size + 1, 0, none⟩) 1 1] Y6 (fun e x => e = .returned (.bool true) ∧ Below Y6.heap.size Y6 x)) := Lib.hid (conSame 1 4 (by omega) (by omega) [2] [2] (by simp) (by simp) agr0.2.2.2 _ _ 1 1 Y6 ha6 hc6)
  have HY6 := Lib.hid hY6
  have HBY6 : Hid (Below w.heap.size w Y6) := Lib.hid (HB5.out.trans (hB6.mono HB5.out.size))
  clear hY6 ha6 hc6 hB6
  go_wp2_with fail
  rw [← HY6.out]
  refine HC6.out.mono ?_
  rintro e x6 ⟨rfl, hb6⟩
  have HB6 := Lib.hid (HBY6.out.trans (hb6.mono HBY6.out.size))
  clear hb6
  go_wp2_with fail
  refine (HA.out x6).mono ?_
  rintro e x7 ⟨rfl, hb7⟩
  have HB7 := Lib.hid (HB6.out.trans (hb7.mono HB6.out.size))
  clear hb7
  go_wp2
  go_ret
  exact ⟨rfl, HB7.out⟩
end Go.Proofs.Ytgfbihdnjidodaa
