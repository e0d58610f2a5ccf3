/- Graphs of kinds, by the program. And: The family of a kind. -/
import Derived.Test.YtgfbihdnjidodaaQ14
namespace Go.Proofs.Ytgfbihdnjidodaa
open Go.RowKit Go.Shelf Go.Proofs.Gr
attribute [local go_sem] Oper.semAt_some
attribute [local go_sem] run_store_func run_store_nilFunc

set_option maxHeartbeats 12800000 in
set_option maxRecDepth 100000 in
theorem pgraph_err_3 (a : Option Addr) (cap : Nat) (L : List Int) (hL : L.length ≤ 1000000) (hk : chkF 1 L ≠ 0) (w : World) (h : IsAt w a L) :
    Calls Try.prog 29 #[.agg #[.int .i64 1, (.func (.func 58) #[] #[]), (.func (.func 59) #[] #[])], .slice a L.length cap] w (GivesGE w 0 [] (chkF 1 L)) := by
  have HC := Lib.hid (fun w h => pcheckF_any 1 (.func (.func 58) #[] #[]) (.func (.func 59) #[] #[]) a cap L hL w h)
  generalize chkF 1 L = k at *
  have q0 : (((k : Nat) : Int) != 0) = true := by rw [bne_iff_ne]; omega
  unfold GivesGE gv at *
  obtain ⟨W, hW⟩ : ∃ W, W = (w.alloc (Obj.cells #[.int .i64 1, (.func (.func 58) #[] #[]), (.func (.func 59) #[] #[])] 60)).alloc (Obj.cells #[.int .i64 0, .slice none 0 0] 31) := ⟨_, rfl⟩
  have hB0 : Below w.heap.size w W := by rw [hW]; exact ((Below.refl _ w).alloc (Nat.le_refl _) _).alloc (by simp) _
  have hG : Blk W w.heap.size 60 #[.int .i64 1, (.func (.func 58) #[] #[]), (.func (.func 59) #[] #[])] := by rw [hW]; exact (Blk.new _ _ _).alloc _
  have hWs : W.heap.size = w.heap.size + 2 := by rw [hW]; simp
  have hR : Blk W (w.heap.size + 1) 31 #[.int .i64 0, .slice none 0 0] := by
    rw [hW]
    have := Blk.new (w.alloc (Obj.cells #[.int .i64 1, (.func (.func 58) #[] #[]), (.func (.func 59) #[] #[])] 60)) 31 #[.int .i64 0, .slice none 0 0]
    rwa [World.size_alloc] at this
  have HR1 := Lib.hid hR
  have HW := Lib.hid hW
  have HWS := Lib.hid hWs
  have HB0 := Lib.hid hB0
  have HE := Lib.hid (h.keep hB0)
  have HF : Hid (∀ u, Below W.heap.size W u → u.cell? ⟨w.heap.size, 0, none⟩ = some (.int .i64 1) ∧ u.cell? ⟨w.heap.size, 1, none⟩ = some (.func (.func 58) #[] #[]) ∧ u.cell? ⟨w.heap.size, 2, none⟩ = some (.func (.func 59) #[] #[])) := Lib.hid fun u hu => ⟨(hG.below hu hG.lt).cell 0, (hG.below hu hG.lt).cell 1, (hG.below hu hG.lt).cell 2⟩
  obtain ⟨g0, g1, g2⟩ := HF.out W (Below.refl _ _)
  clear hB0 hG hW hWs h hR
  go_enter Try.func29, Try.ntmps29
  go_wp2_with fail
  rw [← HW.out]
  refine (HC.out _ HE.out).mono ?_
  rintro e x1 ⟨rfl, hb⟩
  clear g0 g1 g2
  obtain ⟨g0, g1, g2⟩ := HF.out x1 hb
  have hRr : Blk x1 (w.heap.size + 1) 31 #[.int .i64 0, .slice none 0 0] := HR1.out.below hb HR1.out.lt
  have r1 : x1.cell? ⟨w.heap.size + 1, 0, none⟩ = some (.int .i64 0) := hRr.cell 0
  have r3 : x1.frozen? ⟨w.heap.size + 1, 0, none⟩ = false := hRr.frozen 0
  have r2 : x1.cell? ⟨w.heap.size + 1, 1, none⟩ = some (.slice none 0 0) := hRr.cell 1
  have r4 : x1.frozen? ⟨w.heap.size + 1, 1, none⟩ = false := hRr.frozen 1
  have r7 : (x1.setCell ⟨w.heap.size + 1, 0, none⟩ (.int .i64 0)).cell? ⟨w.heap.size + 1, 1, none⟩ = some (.slice none 0 0) := (hRr.set_ 0 (.int .i64 0)).cell 1
  have r8 : (x1.setCell ⟨w.heap.size + 1, 0, none⟩ (.int .i64 0)).frozen? ⟨w.heap.size + 1, 1, none⟩ = false := (hRr.set_ 0 (.int .i64 0)).frozen 1
  have HEND := Lib.hid (HB0.out.trans (hb.mono HB0.out.size))
  have HEND2 := Lib.hid ((HEND.out.setCell (p := ⟨w.heap.size + 1, 0, none⟩) (by show w.heap.size ≤ w.heap.size + 1; omega) (.int .i64 0)).setCell (p := ⟨w.heap.size + 1, 1, none⟩) (by show w.heap.size ≤ w.heap.size + 1; omega) (.slice none 0 0))
  have r5 : ((x1.setCell ⟨w.heap.size + 1, 0, none⟩ (.int .i64 0)).setCell ⟨w.heap.size + 1, 1, none⟩ (.slice none 0 0)).cell? ⟨w.heap.size + 1, 0, none⟩ = some (.int .i64 0) := ((hRr.set_ 0 (.int .i64 0)).set_ 1 (.slice none 0 0)).cell 0
  have r6 : ((x1.setCell ⟨w.heap.size + 1, 0, none⟩ (.int .i64 0)).setCell ⟨w.heap.size + 1, 1, none⟩ (.slice none 0 0)).cell? ⟨w.heap.size + 1, 1, none⟩ = some (.slice none 0 0) := ((hRr.set_ 0 (.int .i64 0)).set_ 1 (.slice none 0 0)).cell 1
  clear hRr hb
  go_wp2
  refine bodyPost_ret (v := .tuple #[.agg #[.int .i64 0, .slice none 0 0], .int .i64 (k : Nat)]) (by simp [results, Try.results29, go_sem, r5, r6]) rfl ?_
  exact ⟨none, 0, rfl, RowAt.nil _ _ _ _, World.ownsRow_nil _ _ _ _, by first | exact HEND2.out | exact HEND.out⟩
set_option maxHeartbeats 12800000 in
set_option maxRecDepth 100000 in
theorem pgraph_many_3 (a : Option Addr) (cap : Nat) (L : List Int) (hL : L.length ≤ 1000000) (hc : chkF 1 L = 0) (hm : 12 < seqV 0 (seqS 3 L)) (w : World) (h : IsAt w a L) :
    Calls Try.prog 29 #[.agg #[.int .i64 1, (.func (.func 58) #[] #[]), (.func (.func 59) #[] #[])], .slice a L.length cap] w (GivesGE w 0 [] 5) := by
  have HC := Lib.hid (fun w h => pcheckF_any 1 (.func (.func 58) #[] #[]) (.func (.func 59) #[] #[]) a cap L hL w h)
  rw [hc] at HC
  have HL0 : Hid (0 < L.length) := Lib.hid (by have := (chkF_zero hc).1; omega)
  have HDW := Lib.hid (fun B s0 w hl hA hD => pdraw_3 B a cap L hc s0 w hl hA hD)
  unfold Drew at HDW
  generalize seqV 0 (seqS 3 L) = VV at *
  generalize seqP (seqS 3 L) = PP at *
  clear hc
  unfold GivesGE gv at *
  obtain ⟨W, hW⟩ : ∃ W, W = (w.alloc (Obj.cells #[.int .i64 1, (.func (.func 58) #[] #[]), (.func (.func 59) #[] #[])] 60)).alloc (Obj.cells #[.int .i64 0, .slice none 0 0] 31) := ⟨_, rfl⟩
  have hB0 : Below w.heap.size w W := by rw [hW]; exact ((Below.refl _ w).alloc (Nat.le_refl _) _).alloc (by simp) _
  have hG : Blk W w.heap.size 60 #[.int .i64 1, (.func (.func 58) #[] #[]), (.func (.func 59) #[] #[])] := by rw [hW]; exact (Blk.new _ _ _).alloc _
  have hWs : W.heap.size = w.heap.size + 2 := by rw [hW]; simp
  have hR : Blk W (w.heap.size + 1) 31 #[.int .i64 0, .slice none 0 0] := by
    rw [hW]
    have := Blk.new (w.alloc (Obj.cells #[.int .i64 1, (.func (.func 58) #[] #[]), (.func (.func 59) #[] #[])] 60)) 31 #[.int .i64 0, .slice none 0 0]
    rwa [World.size_alloc] at this
  have HR1 := Lib.hid hR
  have HW := Lib.hid hW
  have HWS := Lib.hid hWs
  have HB0 := Lib.hid hB0
  have HE := Lib.hid (h.keep hB0)
  have HF : Hid (∀ u, Below W.heap.size W u → u.cell? ⟨w.heap.size, 0, none⟩ = some (.int .i64 1) ∧ u.cell? ⟨w.heap.size, 1, none⟩ = some (.func (.func 58) #[] #[]) ∧ u.cell? ⟨w.heap.size, 2, none⟩ = some (.func (.func 59) #[] #[])) := Lib.hid fun u hu => ⟨(hG.below hu hG.lt).cell 0, (hG.below hu hG.lt).cell 1, (hG.below hu hG.lt).cell 2⟩
  obtain ⟨g0, g1, g2⟩ := HF.out W (Below.refl _ _)
  clear hB0 hG hW hWs h hR
  go_enter Try.func29, Try.ntmps29
  go_wp2_with fail
  rw [← HW.out]
  refine (HC.out _ HE.out).mono ?_
  rintro e x1 ⟨rfl, hb⟩
  clear g0 g1 g2
  obtain ⟨g0, g1, g2⟩ := HF.out x1 hb
  have HEx := Lib.hid (HE.out.keep hb)
  obtain ⟨V, hV⟩ : ∃ V, V = x1.alloc (Obj.cells #[.int .i64 0, .slice none 0 0] 78) := ⟨_, rfl⟩
  have hDV : DrAt x1.heap.size 0 [] (.slice none 0 0) V := by rw [hV]; exact ⟨Blk.new _ _ _, World.ownsRow_nil _ _ _ _⟩
  have hbV : Below x1.heap.size x1 V := by rw [hV]; exact (Below.refl _ _).alloc (Nat.le_refl _) _
  have hAV : Awy a x1.heap.size (.slice none 0 0) := fun p hp => ⟨by
    obtain ⟨b', o', e1, e2, -⟩ := HEx.out 0 HL0.out
    rw [hp] at e1; injection e1 with e1; rw [e1]; show b' ≠ _; omega, fun h => by cases h⟩
  have HDR := Lib.hid (HDW.out x1.heap.size (.slice none 0 0) V (HEx.out.keep hbV) hAV hDV)
  have hbW : Below W.heap.size W V := hb.trans (hbV.mono hb.size)
  have HBV := Lib.hid hbW
  have HX1 := Lib.hid hb.size
  obtain ⟨B, hB⟩ : ∃ B, B = x1.heap.size := ⟨_, rfl⟩
  rw [← hB] at HDR
  have HBB := Lib.hid hB
  clear g0 g1 g2
  have g0 : (x1.alloc (Obj.cells #[.int .i64 0, .slice none 0 0] 78)).cell? ⟨w.heap.size, 0, none⟩ = some (.int .i64 1) := by rw [← hV]; exact (HF.out V hbW).1
  have g1 : (x1.alloc (Obj.cells #[.int .i64 0, .slice none 0 0] 78)).cell? ⟨w.heap.size, 1, none⟩ = some (.func (.func 58) #[] #[]) := by rw [← hV]; exact (HF.out V hbW).2.1
  have HV := Lib.hid hV
  clear hDV hbV hAV hbW hb hV hB
  go_wp2_with fail
  rw [← HV.out, ← HBB.out]
  refine HDR.out.mono ?_
  rintro e x2 ⟨rfl, s2, hd2, hs2⟩
  rw [List.nil_append] at hd2
  have hk2 : Below W.heap.size W x2 := HBV.out.trans (hs2.below.mono (by rw [HBB.out]; exact HX1.out))
  clear g0 g1
  have v0 : x2.cell? ⟨B, 0, none⟩ = some (.int .i64 VV) := hd2.1.cell 0
  clear hd2 hs2
  have hRr : Blk x2 (w.heap.size + 1) 31 #[.int .i64 0, .slice none 0 0] := HR1.out.below hk2 HR1.out.lt
  have r1 : x2.cell? ⟨w.heap.size + 1, 0, none⟩ = some (.int .i64 0) := hRr.cell 0
  have r3 : x2.frozen? ⟨w.heap.size + 1, 0, none⟩ = false := hRr.frozen 0
  have r2 : x2.cell? ⟨w.heap.size + 1, 1, none⟩ = some (.slice none 0 0) := hRr.cell 1
  have r4 : x2.frozen? ⟨w.heap.size + 1, 1, none⟩ = false := hRr.frozen 1
  have r7 : (x2.setCell ⟨w.heap.size + 1, 0, none⟩ (.int .i64 0)).cell? ⟨w.heap.size + 1, 1, none⟩ = some (.slice none 0 0) := (hRr.set_ 0 (.int .i64 0)).cell 1
  have r8 : (x2.setCell ⟨w.heap.size + 1, 0, none⟩ (.int .i64 0)).frozen? ⟨w.heap.size + 1, 1, none⟩ = false := (hRr.set_ 0 (.int .i64 0)).frozen 1
  have HEND := Lib.hid (HB0.out.trans (hk2.mono HB0.out.size))
  have HEND2 := Lib.hid ((HEND.out.setCell (p := ⟨w.heap.size + 1, 0, none⟩) (by show w.heap.size ≤ w.heap.size + 1; omega) (.int .i64 0)).setCell (p := ⟨w.heap.size + 1, 1, none⟩) (by show w.heap.size ≤ w.heap.size + 1; omega) (.slice none 0 0))
  have r5 : ((x2.setCell ⟨w.heap.size + 1, 0, none⟩ (.int .i64 0)).setCell ⟨w.heap.size + 1, 1, none⟩ (.slice none 0 0)).cell? ⟨w.heap.size + 1, 0, none⟩ = some (.int .i64 0) := ((hRr.set_ 0 (.int .i64 0)).set_ 1 (.slice none 0 0)).cell 0
  have r6 : ((x2.setCell ⟨w.heap.size + 1, 0, none⟩ (.int .i64 0)).setCell ⟨w.heap.size + 1, 1, none⟩ (.slice none 0 0)).cell? ⟨w.heap.size + 1, 1, none⟩ = some (.slice none 0 0) := ((hRr.set_ 0 (.int .i64 0)).set_ 1 (.slice none 0 0)).cell 1
  clear hRr hk2
  go_wp2
  refine bodyPost_ret (v := .tuple #[.agg #[.int .i64 0, .slice none 0 0], .int .i64 5]) (by simp [results, Try.results29, go_sem, r5, r6]) rfl ?_
  exact ⟨none, 0, rfl, RowAt.nil _ _ _ _, World.ownsRow_nil _ _ _ _, by first | exact HEND2.out | exact HEND.out⟩
set_option maxHeartbeats 12800000 in
set_option maxRecDepth 100000 in
theorem pgraph_ok_3 (a : Option Addr) (cap : Nat) (L : List Int) (hL : L.length ≤ 1000000) (hc : chkF 1 L = 0) (hm : seqV 0 (seqS 3 L) ≤ 12) (m : Int) (J : List E) (k : Nat) (hM : Makes (seqV 0 (seqS 3 L)) (seqP (seqS 3 L)) m J k) (w : World) (h : IsAt w a L) :
    Calls Try.prog 29 #[.agg #[.int .i64 1, (.func (.func 58) #[] #[]), (.func (.func 59) #[] #[])], .slice a L.length cap] w (GivesGE w m J k) := by
  have HC := Lib.hid (fun w h => pcheckF_any 1 (.func (.func 58) #[] #[]) (.func (.func 59) #[] #[]) a cap L hL w h)
  rw [hc] at HC
  have HL0 : Hid (0 < L.length) := Lib.hid (by have := (chkF_zero hc).1; omega)
  have HDW := Lib.hid (fun B s0 w hl hA hD => pdraw_3 B a cap L hc s0 w hl hA hD)
  unfold Drew at HDW
  obtain ⟨hJl, hM, -⟩ := hM
  have HM := Lib.hid hM
  generalize seqV 0 (seqS 3 L) = VV at *
  generalize seqP (seqS 3 L) = PP at *
  clear hc hM
  unfold GivesGE gv at *
  obtain ⟨W, hW⟩ : ∃ W, W = (w.alloc (Obj.cells #[.int .i64 1, (.func (.func 58) #[] #[]), (.func (.func 59) #[] #[])] 60)).alloc (Obj.cells #[.int .i64 0, .slice none 0 0] 31) := ⟨_, rfl⟩
  have hB0 : Below w.heap.size w W := by rw [hW]; exact ((Below.refl _ w).alloc (Nat.le_refl _) _).alloc (by simp) _
  have hG : Blk W w.heap.size 60 #[.int .i64 1, (.func (.func 58) #[] #[]), (.func (.func 59) #[] #[])] := by rw [hW]; exact (Blk.new _ _ _).alloc _
  have hWs : W.heap.size = w.heap.size + 2 := by rw [hW]; simp
  have hR : Blk W (w.heap.size + 1) 31 #[.int .i64 0, .slice none 0 0] := by
    rw [hW]
    have := Blk.new (w.alloc (Obj.cells #[.int .i64 1, (.func (.func 58) #[] #[]), (.func (.func 59) #[] #[])] 60)) 31 #[.int .i64 0, .slice none 0 0]
    rwa [World.size_alloc] at this
  have HR1 := Lib.hid hR
  have HW := Lib.hid hW
  have HWS := Lib.hid hWs
  have HB0 := Lib.hid hB0
  have HE := Lib.hid (h.keep hB0)
  have HF : Hid (∀ u, Below W.heap.size W u → u.cell? ⟨w.heap.size, 0, none⟩ = some (.int .i64 1) ∧ u.cell? ⟨w.heap.size, 1, none⟩ = some (.func (.func 58) #[] #[]) ∧ u.cell? ⟨w.heap.size, 2, none⟩ = some (.func (.func 59) #[] #[])) := Lib.hid fun u hu => ⟨(hG.below hu hG.lt).cell 0, (hG.below hu hG.lt).cell 1, (hG.below hu hG.lt).cell 2⟩
  obtain ⟨g0, g1, g2⟩ := HF.out W (Below.refl _ _)
  clear hB0 hG hW hWs h hR
  go_enter Try.func29, Try.ntmps29
  go_wp2_with fail
  rw [← HW.out]
  refine (HC.out _ HE.out).mono ?_
  rintro e x1 ⟨rfl, hb⟩
  clear g0 g1 g2
  obtain ⟨g0, g1, g2⟩ := HF.out x1 hb
  have HEx := Lib.hid (HE.out.keep hb)
  obtain ⟨V, hV⟩ : ∃ V, V = x1.alloc (Obj.cells #[.int .i64 0, .slice none 0 0] 78) := ⟨_, rfl⟩
  have hDV : DrAt x1.heap.size 0 [] (.slice none 0 0) V := by rw [hV]; exact ⟨Blk.new _ _ _, World.ownsRow_nil _ _ _ _⟩
  have hbV : Below x1.heap.size x1 V := by rw [hV]; exact (Below.refl _ _).alloc (Nat.le_refl _) _
  have hAV : Awy a x1.heap.size (.slice none 0 0) := fun p hp => ⟨by
    obtain ⟨b', o', e1, e2, -⟩ := HEx.out 0 HL0.out
    rw [hp] at e1; injection e1 with e1; rw [e1]; show b' ≠ _; omega, fun h => by cases h⟩
  have HDR := Lib.hid (HDW.out x1.heap.size (.slice none 0 0) V (HEx.out.keep hbV) hAV hDV)
  have hbW : Below W.heap.size W V := hb.trans (hbV.mono hb.size)
  have HBV := Lib.hid hbW
  have HX1 := Lib.hid hb.size
  obtain ⟨B, hB⟩ : ∃ B, B = x1.heap.size := ⟨_, rfl⟩
  rw [← hB] at HDR
  have HBB := Lib.hid hB
  clear g0 g1 g2
  have g0 : (x1.alloc (Obj.cells #[.int .i64 0, .slice none 0 0] 78)).cell? ⟨w.heap.size, 0, none⟩ = some (.int .i64 1) := by rw [← hV]; exact (HF.out V hbW).1
  have g1 : (x1.alloc (Obj.cells #[.int .i64 0, .slice none 0 0] 78)).cell? ⟨w.heap.size, 1, none⟩ = some (.func (.func 58) #[] #[]) := by rw [← hV]; exact (HF.out V hbW).2.1
  have HV := Lib.hid hV
  clear hDV hbV hAV hbW hb hV hB
  go_wp2_with fail
  rw [← HV.out, ← HBB.out]
  refine HDR.out.mono ?_
  rintro e x2 ⟨rfl, s2, hd2, hs2⟩
  rw [List.nil_append] at hd2
  have hk2 : Below W.heap.size W x2 := HBV.out.trans (hs2.below.mono (by rw [HBB.out]; exact HX1.out))
  clear g0 g1
  have v0 : x2.cell? ⟨B, 0, none⟩ = some (.int .i64 VV) := hd2.1.cell 0
  obtain ⟨sa, sc, rfl, hps⟩ := RowAt.of_own encP_len hd2.2
  have v1 : x2.cell? ⟨B, 1, none⟩ = some (.slice sa PP.length sc) := hd2.1.cell 1
  clear hd2 hs2
  go_wp2_with fail
  refine (HM.out _ _ _ hps).mono ?_
  rintro r x5 ⟨a2, c2, rfl, -, he2, hb5⟩
  have hj5 : Below W.heap.size W x5 := hk2.trans (hb5.mono hk2.size)
  clear hps hb5 v0 v1
  have hRr : Blk x5 (w.heap.size + 1) 31 #[.int .i64 0, .slice none 0 0] := HR1.out.below hj5 HR1.out.lt
  have hkB : w.heap.size + 1 < x2.heap.size := by have := hk2.size; have := HWS.out; omega
  have HOWN := Lib.hid ((ownsRow_setCell_below (ownsRow_setCell_below he2 (a := ⟨w.heap.size + 1, 0, none⟩) hkB (.int .i64 m)) (a := ⟨w.heap.size + 1, 1, none⟩) hkB (.slice a2 J.length c2)).mono (base' := w.heap.size) (by omega))
  obtain ⟨r1, r3, r2, r4, r5, r6, hes, hbf⟩ := tail_facts x5 x2.heap.size (w.heap.size + 1) w.heap.size m J a2 c2 he2 hkB hRr
  have HES := Lib.hid hes
  have HBF := Lib.hid (hbf w (HB0.out.trans (hj5.mono HB0.out.size)) (by omega))
  clear hRr hes hbf hkB
  clear he2 hj5 hk2
  go_wp2
  refine bodyPost_ret (v := .tuple #[.agg #[.int .i64 m, .slice a2 J.length c2], .int .i64 ((k : Nat) : Int)]) (by simp [results, Try.results29, go_sem, r5, r6]) rfl ?_
  exact ⟨a2, c2, rfl, HES.out, HOWN.out, HBF.out⟩
set_option maxHeartbeats 12800000 in
set_option maxRecDepth 100000 in
theorem pmakeK_3 (a : Option Addr) (cap : Nat) (L : List Int) (m : Int) (J : List E) (k : Nat) (hM : ∀ w, IsAt w a L → Calls Try.prog 29 #[.agg #[.int .i64 1, (.func (.func 58) #[] #[]), (.func (.func 59) #[] #[])], .slice a L.length cap] w (GivesGE w m J k)) (w : World) (h : IsAt w a L) :
    Calls Try.prog 12 #[.int .i64 3, .slice a L.length cap] w (GivesGE w m J k) := by
  have HM := Lib.hid hM
  have HO := Lib.hid (fun w => pof_3 w)
  clear hM
  unfold GivesGE gv at *
  obtain ⟨W, hW⟩ : ∃ W, W = w.alloc (Obj.cells #[.int .i64 0, .slice none 0 0] 31) := ⟨_, rfl⟩
  have HB0 : Hid (Below w.heap.size w W) := Lib.hid (by rw [hW]; exact (Below.refl _ w).alloc (Nat.le_refl _) _)
  have HR1 : Hid (Blk W w.heap.size 31 #[.int .i64 0, .slice none 0 0]) := Lib.hid (by rw [hW]; exact Blk.new _ _ _)
  have HWS : Hid (W.heap.size = w.heap.size + 1) := Lib.hid (by rw [hW]; simp)
  have HE := Lib.hid (h.keep HB0.out)
  have HW := Lib.hid hW
  clear hW h
  go_enter Try.func12, Try.ntmps12
  go_wp2_with fail
  rw [← HW.out]
  refine (HO.out _).mono ?_
  rintro e x1 ⟨rfl, hb⟩
  obtain ⟨Y, hY⟩ : ∃ Y, Y = x1.alloc (Obj.cells #[.int .i64 1, (.func (.func 58) #[] #[]), (.func (.func 59) #[] #[])] 60) := ⟨_, rfl⟩
  have HBY : Hid (Below W.heap.size W Y) := Lib.hid (by rw [hY]; exact hb.alloc hb.size _)
  have HEY := Lib.hid (HE.out.keep HBY.out)
  have HY := Lib.hid hY
  clear hY hb
  go_wp2_with fail
  rw [← HY.out]
  refine (HM.out _ HEY.out).mono ?_
  rintro r x5 ⟨a2, c2, rfl, -, he2, hb5⟩
  have hj5 : Below W.heap.size W x5 := HBY.out.trans (hb5.mono HBY.out.size)
  clear hb5
  have hRr : Blk x5 (w.heap.size) 31 #[.int .i64 0, .slice none 0 0] := HR1.out.below hj5 HR1.out.lt
  have hkB : w.heap.size < Y.heap.size := by have := HBY.out.size; have := HWS.out; omega
  have HOWN := Lib.hid ((ownsRow_setCell_below (ownsRow_setCell_below he2 (a := ⟨w.heap.size, 0, none⟩) hkB (.int .i64 m)) (a := ⟨w.heap.size, 1, none⟩) hkB (.slice a2 J.length c2)).mono (base' := w.heap.size) (by omega))
  obtain ⟨r1, r3, r2, r4, r5, r6, hes, hbf⟩ := tail_facts x5 Y.heap.size (w.heap.size) w.heap.size m J a2 c2 he2 hkB hRr
  have HES := Lib.hid hes
  have HBF := Lib.hid (hbf w (HB0.out.trans (hj5.mono HB0.out.size)) (by omega))
  clear hRr hes hbf hkB
  clear he2 hj5
  go_wp2
  refine bodyPost_ret (v := .tuple #[.agg #[.int .i64 m, .slice a2 J.length c2], .int .i64 ((k : Nat) : Int)]) (by simp [results, Try.results12, go_sem, r5, r6]) rfl ?_
  exact ⟨a2, c2, rfl, HES.out, HOWN.out, HBF.out⟩
set_option maxHeartbeats 12800000 in
set_option maxRecDepth 100000 in
theorem psizes_3 (w : World) : Calls Try.prog 10 #[.int .i64 3] w (fun e x => e = .returned (.tuple #[.int .i64 1, .int .i64 0]) ∧ Below w.heap.size w x) := by
  have HO := Lib.hid (fun w => pof_3 w)
  go_enter Try.func10, Try.ntmps10
  go_wp2_with fail
  refine (HO.out _).mono ?_
  rintro e x1 ⟨rfl, hb⟩
  have HB := Lib.hid (hb.alloc hb.size (Obj.cells #[.int .i64 1, (.func (.func 58) #[] #[]), (.func (.func 59) #[] #[])] 60))
  clear hb
  go_wp2
  go_ret2
  exact ⟨rfl, HB.out⟩
set_option maxHeartbeats 12800000 in
set_option maxRecDepth 100000 in
theorem pgraph_err_4 (a : Option Addr) (cap : Nat) (L : List Int) (hL : L.length ≤ 1000000) (hk : chkF 1 L ≠ 0) (w : World) (h : IsAt w a L) :
    Calls Try.prog 29 #[.agg #[.int .i64 1, (.func (.func 60) #[] #[]), (.func (.func 56) #[] #[])], .slice a L.length cap] w (GivesGE w 0 [] (chkF 1 L)) := by
  have HC := Lib.hid (fun w h => pcheckF_any 1 (.func (.func 60) #[] #[]) (.func (.func 56) #[] #[]) a cap L hL w h)
  generalize chkF 1 L = k at *
  have q0 : (((k : Nat) : Int) != 0) = true := by rw [bne_iff_ne]; omega
  unfold GivesGE gv at *
  obtain ⟨W, hW⟩ : ∃ W, W = (w.alloc (Obj.cells #[.int .i64 1, (.func (.func 60) #[] #[]), (.func (.func 56) #[] #[])] 60)).alloc (Obj.cells #[.int .i64 0, .slice none 0 0] 31) := ⟨_, rfl⟩
  have hB0 : Below w.heap.size w W := by rw [hW]; exact ((Below.refl _ w).alloc (Nat.le_refl _) _).alloc (by simp) _
  have hG : Blk W w.heap.size 60 #[.int .i64 1, (.func (.func 60) #[] #[]), (.func (.func 56) #[] #[])] := by rw [hW]; exact (Blk.new _ _ _).alloc _
  have hWs : W.heap.size = w.heap.size + 2 := by rw [hW]; simp
  have hR : Blk W (w.heap.size + 1) 31 #[.int .i64 0, .slice none 0 0] := by
    rw [hW]
    have := Blk.new (w.alloc (Obj.cells #[.int .i64 1, (.func (.func 60) #[] #[]), (.func (.func 56) #[] #[])] 60)) 31 #[.int .i64 0, .slice none 0 0]
    rwa [World.size_alloc] at this
  have HR1 := Lib.hid hR
  have HW := Lib.hid hW
  have HWS := Lib.hid hWs
  have HB0 := Lib.hid hB0
  have HE := Lib.hid (h.keep hB0)
  have HF : Hid (∀ u, Below W.heap.size W u → u.cell? ⟨w.heap.size, 0, none⟩ = some (.int .i64 1) ∧ u.cell? ⟨w.heap.size, 1, none⟩ = some (.func (.func 60) #[] #[]) ∧ u.cell? ⟨w.heap.size, 2, none⟩ = some (.func (.func 56) #[] #[])) := Lib.hid fun u hu => ⟨(hG.below hu hG.lt).cell 0, (hG.below hu hG.lt).cell 1, (hG.below hu hG.lt).cell 2⟩
  obtain ⟨g0, g1, g2⟩ := HF.out W (Below.refl _ _)
  clear hB0 hG hW hWs h hR
  go_enter Try.func29, Try.ntmps29
  go_wp2_with fail
  rw [← HW.out]
  refine (HC.out _ HE.out).mono ?_
  rintro e x1 ⟨rfl, hb⟩
  clear g0 g1 g2
  obtain ⟨g0, g1, g2⟩ := HF.out x1 hb
  have hRr : Blk x1 (w.heap.size + 1) 31 #[.int .i64 0, .slice none 0 0] := HR1.out.below hb HR1.out.lt
  have r1 : x1.cell? ⟨w.heap.size + 1, 0, none⟩ = some (.int .i64 0) := hRr.cell 0
  have r3 : x1.frozen? ⟨w.heap.size + 1, 0, none⟩ = false := hRr.frozen 0
  have r2 : x1.cell? ⟨w.heap.size + 1, 1, none⟩ = some (.slice none 0 0) := hRr.cell 1
  have r4 : x1.frozen? ⟨w.heap.size + 1, 1, none⟩ = false := hRr.frozen 1
  have r7 : (x1.setCell ⟨w.heap.size + 1, 0, none⟩ (.int .i64 0)).cell? ⟨w.heap.size + 1, 1, none⟩ = some (.slice none 0 0) := (hRr.set_ 0 (.int .i64 0)).cell 1
  have r8 : (x1.setCell ⟨w.heap.size + 1, 0, none⟩ (.int .i64 0)).frozen? ⟨w.heap.size + 1, 1, none⟩ = false := (hRr.set_ 0 (.int .i64 0)).frozen 1
  have HEND := Lib.hid (HB0.out.trans (hb.mono HB0.out.size))
  have HEND2 := Lib.hid ((HEND.out.setCell (p := ⟨w.heap.size + 1, 0, none⟩) (by show w.heap.size ≤ w.heap.size + 1; omega) (.int .i64 0)).setCell (p := ⟨w.heap.size + 1, 1, none⟩) (by show w.heap.size ≤ w.heap.size + 1; omega) (.slice none 0 0))
  have r5 : ((x1.setCell ⟨w.heap.size + 1, 0, none⟩ (.int .i64 0)).setCell ⟨w.heap.size + 1, 1, none⟩ (.slice none 0 0)).cell? ⟨w.heap.size + 1, 0, none⟩ = some (.int .i64 0) := ((hRr.set_ 0 (.int .i64 0)).set_ 1 (.slice none 0 0)).cell 0
  have r6 : ((x1.setCell ⟨w.heap.size + 1, 0, none⟩ (.int .i64 0)).setCell ⟨w.heap.size + 1, 1, none⟩ (.slice none 0 0)).cell? ⟨w.heap.size + 1, 1, none⟩ = some (.slice none 0 0) := ((hRr.set_ 0 (.int .i64 0)).set_ 1 (.slice none 0 0)).cell 1
  clear hRr hb
  go_wp2
  refine bodyPost_ret (v := .tuple #[.agg #[.int .i64 0, .slice none 0 0], .int .i64 (k : Nat)]) (by simp [results, Try.results29, go_sem, r5, r6]) rfl ?_
  exact ⟨none, 0, rfl, RowAt.nil _ _ _ _, World.ownsRow_nil _ _ _ _, by first | exact HEND2.out | exact HEND.out⟩
set_option maxHeartbeats 12800000 in
set_option maxRecDepth 100000 in
theorem pgraph_many_4 (a : Option Addr) (cap : Nat) (L : List Int) (hL : L.length ≤ 1000000) (hc : chkF 1 L = 0) (hm : 12 < seqV 0 (seqS 4 L)) (w : World) (h : IsAt w a L) :
    Calls Try.prog 29 #[.agg #[.int .i64 1, (.func (.func 60) #[] #[]), (.func (.func 56) #[] #[])], .slice a L.length cap] w (GivesGE w 0 [] 5) := by
  have HC := Lib.hid (fun w h => pcheckF_any 1 (.func (.func 60) #[] #[]) (.func (.func 56) #[] #[]) a cap L hL w h)
  rw [hc] at HC
  have HL0 : Hid (0 < L.length) := Lib.hid (by have := (chkF_zero hc).1; omega)
  have HDW := Lib.hid (fun B s0 w hl hA hD => pdraw_4 B a cap L hc s0 w hl hA hD)
  unfold Drew at HDW
  generalize seqV 0 (seqS 4 L) = VV at *
  generalize seqP (seqS 4 L) = PP at *
  clear hc
  unfold GivesGE gv at *
  obtain ⟨W, hW⟩ : ∃ W, W = (w.alloc (Obj.cells #[.int .i64 1, (.func (.func 60) #[] #[]), (.func (.func 56) #[] #[])] 60)).alloc (Obj.cells #[.int .i64 0, .slice none 0 0] 31) := ⟨_, rfl⟩
  have hB0 : Below w.heap.size w W := by rw [hW]; exact ((Below.refl _ w).alloc (Nat.le_refl _) _).alloc (by simp) _
  have hG : Blk W w.heap.size 60 #[.int .i64 1, (.func (.func 60) #[] #[]), (.func (.func 56) #[] #[])] := by rw [hW]; exact (Blk.new _ _ _).alloc _
  have hWs : W.heap.size = w.heap.size + 2 := by rw [hW]; simp
  have hR : Blk W (w.heap.size + 1) 31 #[.int .i64 0, .slice none 0 0] := by
    rw [hW]
    have := Blk.new (w.alloc (Obj.cells #[.int .i64 1, (.func (.func 60) #[] #[]), (.func (.func 56) #[] #[])] 60)) 31 #[.int .i64 0, .slice none 0 0]
    rwa [World.size_alloc] at this
  have HR1 := Lib.hid hR
  have HW := Lib.hid hW
  have HWS := Lib.hid hWs
  have HB0 := Lib.hid hB0
  have HE := Lib.hid (h.keep hB0)
  have HF : Hid (∀ u, Below W.heap.size W u → u.cell? ⟨w.heap.size, 0, none⟩ = some (.int .i64 1) ∧ u.cell? ⟨w.heap.size, 1, none⟩ = some (.func (.func 60) #[] #[]) ∧ u.cell? ⟨w.heap.size, 2, none⟩ = some (.func (.func 56) #[] #[])) := Lib.hid fun u hu => ⟨(hG.below hu hG.lt).cell 0, (hG.below hu hG.lt).cell 1, (hG.below hu hG.lt).cell 2⟩
  obtain ⟨g0, g1, g2⟩ := HF.out W (Below.refl _ _)
  clear hB0 hG hW hWs h hR
  go_enter Try.func29, Try.ntmps29
  go_wp2_with fail
  rw [← HW.out]
  refine (HC.out _ HE.out).mono ?_
  rintro e x1 ⟨rfl, hb⟩
  clear g0 g1 g2
  obtain ⟨g0, g1, g2⟩ := HF.out x1 hb
  have HEx := Lib.hid (HE.out.keep hb)
  obtain ⟨V, hV⟩ : ∃ V, V = x1.alloc (Obj.cells #[.int .i64 0, .slice none 0 0] 78) := ⟨_, rfl⟩
  have hDV : DrAt x1.heap.size 0 [] (.slice none 0 0) V := by rw [hV]; exact ⟨Blk.new _ _ _, World.ownsRow_nil _ _ _ _⟩
  have hbV : Below x1.heap.size x1 V := by rw [hV]; exact (Below.refl _ _).alloc (Nat.le_refl _) _
  have hAV : Awy a x1.heap.size (.slice none 0 0) := fun p hp => ⟨by
    obtain ⟨b', o', e1, e2, -⟩ := HEx.out 0 HL0.out
    rw [hp] at e1; injection e1 with e1; rw [e1]; show b' ≠ _; omega, fun h => by cases h⟩
  have HDR := Lib.hid (HDW.out x1.heap.size (.slice none 0 0) V (HEx.out.keep hbV) hAV hDV)
  have hbW : Below W.heap.size W V := hb.trans (hbV.mono hb.size)
  have HBV := Lib.hid hbW
  have HX1 := Lib.hid hb.size
  obtain ⟨B, hB⟩ : ∃ B, B = x1.heap.size := ⟨_, rfl⟩
  rw [← hB] at HDR
  have HBB := Lib.hid hB
  clear g0 g1 g2
  have g0 : (x1.alloc (Obj.cells #[.int .i64 0, .slice none 0 0] 78)).cell? ⟨w.heap.size, 0, none⟩ = some (.int .i64 1) := by rw [← hV]; exact (HF.out V hbW).1
  have g1 : (x1.alloc (Obj.cells #[.int .i64 0, .slice none 0 0] 78)).cell? ⟨w.heap.size, 1, none⟩ = some (.func (.func 60) #[] #[]) := by rw [← hV]; exact (HF.out V hbW).2.1
  have HV := Lib.hid hV
  clear hDV hbV hAV hbW hb hV hB
  go_wp2_with fail
  rw [← HV.out, ← HBB.out]
  refine HDR.out.mono ?_
  rintro e x2 ⟨rfl, s2, hd2, hs2⟩
  rw [List.nil_append] at hd2
  have hk2 : Below W.heap.size W x2 := HBV.out.trans (hs2.below.mono (by rw [HBB.out]; exact HX1.out))
  clear g0 g1
  have v0 : x2.cell? ⟨B, 0, none⟩ = some (.int .i64 VV) := hd2.1.cell 0
  clear hd2 hs2
  have hRr : Blk x2 (w.heap.size + 1) 31 #[.int .i64 0, .slice none 0 0] := HR1.out.below hk2 HR1.out.lt
  have r1 : x2.cell? ⟨w.heap.size + 1, 0, none⟩ = some (.int .i64 0) := hRr.cell 0
  have r3 : x2.frozen? ⟨w.heap.size + 1, 0, none⟩ = false := hRr.frozen 0
  have r2 : x2.cell? ⟨w.heap.size + 1, 1, none⟩ = some (.slice none 0 0) := hRr.cell 1
  have r4 : x2.frozen? ⟨w.heap.size + 1, 1, none⟩ = false := hRr.frozen 1
  have r7 : (x2.setCell ⟨w.heap.size + 1, 0, none⟩ (.int .i64 0)).cell? ⟨w.heap.size + 1, 1, none⟩ = some (.slice none 0 0) := (hRr.set_ 0 (.int .i64 0)).cell 1
  have r8 : (x2.setCell ⟨w.heap.size + 1, 0, none⟩ (.int .i64 0)).frozen? ⟨w.heap.size + 1, 1, none⟩ = false := (hRr.set_ 0 (.int .i64 0)).frozen 1
  have HEND := Lib.hid (HB0.out.trans (hk2.mono HB0.out.size))
  have HEND2 := Lib.hid ((HEND.out.setCell (p := ⟨w.heap.size + 1, 0, none⟩) (by show w.heap.size ≤ w.heap.size + 1; omega) (.int .i64 0)).setCell (p := ⟨w.heap.size + 1, 1, none⟩) (by show w.heap.size ≤ w.heap.size + 1; omega) (.slice none 0 0))
  have r5 : ((x2.setCell ⟨w.heap.size + 1, 0, none⟩ (.int .i64 0)).setCell ⟨w.heap.size + 1, 1, none⟩ (.slice none 0 0)).cell? ⟨w.heap.size + 1, 0, none⟩ = some (.int .i64 0) := ((hRr.set_ 0 (.int .i64 0)).set_ 1 (.slice none 0 0)).cell 0
  have r6 : ((x2.setCell ⟨w.heap.size + 1, 0, none⟩ (.int .i64 0)).setCell ⟨w.heap.size + 1, 1, none⟩ (.slice none 0 0)).cell? ⟨w.heap.size + 1, 1, none⟩ = some (.slice none 0 0) := ((hRr.set_ 0 (.int .i64 0)).set_ 1 (.slice none 0 0)).cell 1
  clear hRr hk2
  go_wp2
  refine bodyPost_ret (v := .tuple #[.agg #[.int .i64 0, .slice none 0 0], .int .i64 5]) (by simp [results, Try.results29, go_sem, r5, r6]) rfl ?_
  exact ⟨none, 0, rfl, RowAt.nil _ _ _ _, World.ownsRow_nil _ _ _ _, by first | exact HEND2.out | exact HEND.out⟩
set_option maxHeartbeats 12800000 in
set_option maxRecDepth 100000 in
theorem pgraph_ok_4 (a : Option Addr) (cap : Nat) (L : List Int) (hL : L.length ≤ 1000000) (hc : chkF 1 L = 0) (hm : seqV 0 (seqS 4 L) ≤ 12) (m : Int) (J : List E) (k : Nat) (hM : Makes (seqV 0 (seqS 4 L)) (seqP (seqS 4 L)) m J k) (w : World) (h : IsAt w a L) :
    Calls Try.prog 29 #[.agg #[.int .i64 1, (.func (.func 60) #[] #[]), (.func (.func 56) #[] #[])], .slice a L.length cap] w (GivesGE w m J k) := by
  have HC := Lib.hid (fun w h => pcheckF_any 1 (.func (.func 60) #[] #[]) (.func (.func 56) #[] #[]) a cap L hL w h)
  rw [hc] at HC
  have HL0 : Hid (0 < L.length) := Lib.hid (by have := (chkF_zero hc).1; omega)
  have HDW := Lib.hid (fun B s0 w hl hA hD => pdraw_4 B a cap L hc s0 w hl hA hD)
  unfold Drew at HDW
  obtain ⟨hJl, hM, -⟩ := hM
  have HM := Lib.hid hM
  generalize seqV 0 (seqS 4 L) = VV at *
  generalize seqP (seqS 4 L) = PP at *
  clear hc hM
  unfold GivesGE gv at *
  obtain ⟨W, hW⟩ : ∃ W, W = (w.alloc (Obj.cells #[.int .i64 1, (.func (.func 60) #[] #[]), (.func (.func 56) #[] #[])] 60)).alloc (Obj.cells #[.int .i64 0, .slice none 0 0] 31) := ⟨_, rfl⟩
  have hB0 : Below w.heap.size w W := by rw [hW]; exact ((Below.refl _ w).alloc (Nat.le_refl _) _).alloc (by simp) _
  have hG : Blk W w.heap.size 60 #[.int .i64 1, (.func (.func 60) #[] #[]), (.func (.func 56) #[] #[])] := by rw [hW]; exact (Blk.new _ _ _).alloc _
  have hWs : W.heap.size = w.heap.size + 2 := by rw [hW]; simp
  have hR : Blk W (w.heap.size + 1) 31 #[.int .i64 0, .slice none 0 0] := by
    rw [hW]
    have := Blk.new (w.alloc (Obj.cells #[.int .i64 1, (.func (.func 60) #[] #[]), (.func (.func 56) #[] #[])] 60)) 31 #[.int .i64 0, .slice none 0 0]
    rwa [World.size_alloc] at this
  have HR1 := Lib.hid hR
  have HW := Lib.hid hW
  have HWS := Lib.hid hWs
  have HB0 := Lib.hid hB0
  have HE := Lib.hid (h.keep hB0)
  have HF : Hid (∀ u, Below W.heap.size W u → u.cell? ⟨w.heap.size, 0, none⟩ = some (.int .i64 1) ∧ u.cell? ⟨w.heap.size, 1, none⟩ = some (.func (.func 60) #[] #[]) ∧ u.cell? ⟨w.heap.size, 2, none⟩ = some (.func (.func 56) #[] #[])) := Lib.hid fun u hu => ⟨(hG.below hu hG.lt).cell 0, (hG.below hu hG.lt).cell 1, (hG.below hu hG.lt).cell 2⟩
  obtain ⟨g0, g1, g2⟩ := HF.out W (Below.refl _ _)
  clear hB0 hG hW hWs h hR
  go_enter Try.func29, Try.ntmps29
  go_wp2_with fail
  rw [← HW.out]
  refine (HC.out _ HE.out).mono ?_
  rintro e x1 ⟨rfl, hb⟩
  clear g0 g1 g2
  obtain ⟨g0, g1, g2⟩ := HF.out x1 hb
  have HEx := Lib.hid (HE.out.keep hb)
  obtain ⟨V, hV⟩ : ∃ V, V = x1.alloc (Obj.cells #[.int .i64 0, .slice none 0 0] 78) := ⟨_, rfl⟩
  have hDV : DrAt x1.heap.size 0 [] (.slice none 0 0) V := by rw [hV]; exact ⟨Blk.new _ _ _, World.ownsRow_nil _ _ _ _⟩
  have hbV : Below x1.heap.size x1 V := by rw [hV]; exact (Below.refl _ _).alloc (Nat.le_refl _) _
  have hAV : Awy a x1.heap.size (.slice none 0 0) := fun p hp => ⟨by
    obtain ⟨b', o', e1, e2, -⟩ := HEx.out 0 HL0.out
    rw [hp] at e1; injection e1 with e1; rw [e1]; show b' ≠ _; omega, fun h => by cases h⟩
  have HDR := Lib.hid (HDW.out x1.heap.size (.slice none 0 0) V (HEx.out.keep hbV) hAV hDV)
  have hbW : Below W.heap.size W V := hb.trans (hbV.mono hb.size)
  have HBV := Lib.hid hbW
  have HX1 := Lib.hid hb.size
  obtain ⟨B, hB⟩ : ∃ B, B = x1.heap.size := ⟨_, rfl⟩
  rw [← hB] at HDR
  have HBB := Lib.hid hB
  clear g0 g1 g2
  have g0 : (x1.alloc (Obj.cells #[.int .i64 0, .slice none 0 0] 78)).cell? ⟨w.heap.size, 0, none⟩ = some (.int .i64 1) := by rw [← hV]; exact (HF.out V hbW).1
  have g1 : (x1.alloc (Obj.cells #[.int .i64 0, .slice none 0 0] 78)).cell? ⟨w.heap.size, 1, none⟩ = some (.func (.func 60) #[] #[]) := by rw [← hV]; exact (HF.out V hbW).2.1
  have HV := Lib.hid hV
  clear hDV hbV hAV hbW hb hV hB
  go_wp2_with fail
  rw [← HV.out, ← HBB.out]
  refine HDR.out.mono ?_
  rintro e x2 ⟨rfl, s2, hd2, hs2⟩
  rw [List.nil_append] at hd2
  have hk2 : Below W.heap.size W x2 := HBV.out.trans (hs2.below.mono (by rw [HBB.out]; exact HX1.out))
  clear g0 g1
  have v0 : x2.cell? ⟨B, 0, none⟩ = some (.int .i64 VV) := hd2.1.cell 0
  obtain ⟨sa, sc, rfl, hps⟩ := RowAt.of_own encP_len hd2.2
  have v1 : x2.cell? ⟨B, 1, none⟩ = some (.slice sa PP.length sc) := hd2.1.cell 1
  clear hd2 hs2
  go_wp2_with fail
  refine (HM.out _ _ _ hps).mono ?_
  rintro r x5 ⟨a2, c2, rfl, -, he2, hb5⟩
  have hj5 : Below W.heap.size W x5 := hk2.trans (hb5.mono hk2.size)
  clear hps hb5 v0 v1
  have hRr : Blk x5 (w.heap.size + 1) 31 #[.int .i64 0, .slice none 0 0] := HR1.out.below hj5 HR1.out.lt
  have hkB : w.heap.size + 1 < x2.heap.size := by have := hk2.size; have := HWS.out; omega
  have HOWN := Lib.hid ((ownsRow_setCell_below (ownsRow_setCell_below he2 (a := ⟨w.heap.size + 1, 0, none⟩) hkB (.int .i64 m)) (a := ⟨w.heap.size + 1, 1, none⟩) hkB (.slice a2 J.length c2)).mono (base' := w.heap.size) (by omega))
  obtain ⟨r1, r3, r2, r4, r5, r6, hes, hbf⟩ := tail_facts x5 x2.heap.size (w.heap.size + 1) w.heap.size m J a2 c2 he2 hkB hRr
  have HES := Lib.hid hes
  have HBF := Lib.hid (hbf w (HB0.out.trans (hj5.mono HB0.out.size)) (by omega))
  clear hRr hes hbf hkB
  clear he2 hj5 hk2
  go_wp2
  refine bodyPost_ret (v := .tuple #[.agg #[.int .i64 m, .slice a2 J.length c2], .int .i64 ((k : Nat) : Int)]) (by simp [results, Try.results29, go_sem, r5, r6]) rfl ?_
  exact ⟨a2, c2, rfl, HES.out, HOWN.out, HBF.out⟩
set_option maxHeartbeats 12800000 in
set_option maxRecDepth 100000 in
theorem pmakeK_4 (a : Option Addr) (cap : Nat) (L : List Int) (m : Int) (J : List E) (k : Nat) (hM : ∀ w, IsAt w a L → Calls Try.prog 29 #[.agg #[.int .i64 1, (.func (.func 60) #[] #[]), (.func (.func 56) #[] #[])], .slice a L.length cap] w (GivesGE w m J k)) (w : World) (h : IsAt w a L) :
    Calls Try.prog 12 #[.int .i64 4, .slice a L.length cap] w (GivesGE w m J k) := by
  have HM := Lib.hid hM
  have HO := Lib.hid (fun w => pof_4 w)
  clear hM
  unfold GivesGE gv at *
  obtain ⟨W, hW⟩ : ∃ W, W = w.alloc (Obj.cells #[.int .i64 0, .slice none 0 0] 31) := ⟨_, rfl⟩
  have HB0 : Hid (Below w.heap.size w W) := Lib.hid (by rw [hW]; exact (Below.refl _ w).alloc (Nat.le_refl _) _)
  have HR1 : Hid (Blk W w.heap.size 31 #[.int .i64 0, .slice none 0 0]) := Lib.hid (by rw [hW]; exact Blk.new _ _ _)
  have HWS : Hid (W.heap.size = w.heap.size + 1) := Lib.hid (by rw [hW]; simp)
  have HE := Lib.hid (h.keep HB0.out)
  have HW := Lib.hid hW
  clear hW h
  go_enter Try.func12, Try.ntmps12
  go_wp2_with fail
  rw [← HW.out]
  refine (HO.out _).mono ?_
  rintro e x1 ⟨rfl, hb⟩
  obtain ⟨Y, hY⟩ : ∃ Y, Y = x1.alloc (Obj.cells #[.int .i64 1, (.func (.func 60) #[] #[]), (.func (.func 56) #[] #[])] 60) := ⟨_, rfl⟩
  have HBY : Hid (Below W.heap.size W Y) := Lib.hid (by rw [hY]; exact hb.alloc hb.size _)
  have HEY := Lib.hid (HE.out.keep HBY.out)
  have HY := Lib.hid hY
  clear hY hb
  go_wp2_with fail
  rw [← HY.out]
  refine (HM.out _ HEY.out).mono ?_
  rintro r x5 ⟨a2, c2, rfl, -, he2, hb5⟩
  have hj5 : Below W.heap.size W x5 := HBY.out.trans (hb5.mono HBY.out.size)
  clear hb5
  have hRr : Blk x5 (w.heap.size) 31 #[.int .i64 0, .slice none 0 0] := HR1.out.below hj5 HR1.out.lt
  have hkB : w.heap.size < Y.heap.size := by have := HBY.out.size; have := HWS.out; omega
  have HOWN := Lib.hid ((ownsRow_setCell_below (ownsRow_setCell_below he2 (a := ⟨w.heap.size, 0, none⟩) hkB (.int .i64 m)) (a := ⟨w.heap.size, 1, none⟩) hkB (.slice a2 J.length c2)).mono (base' := w.heap.size) (by omega))
  obtain ⟨r1, r3, r2, r4, r5, r6, hes, hbf⟩ := tail_facts x5 Y.heap.size (w.heap.size) w.heap.size m J a2 c2 he2 hkB hRr
  have HES := Lib.hid hes
  have HBF := Lib.hid (hbf w (HB0.out.trans (hj5.mono HB0.out.size)) (by omega))
  clear hRr hes hbf hkB
  clear he2 hj5
  go_wp2
  refine bodyPost_ret (v := .tuple #[.agg #[.int .i64 m, .slice a2 J.length c2], .int .i64 ((k : Nat) : Int)]) (by simp [results, Try.results12, go_sem, r5, r6]) rfl ?_
  exact ⟨a2, c2, rfl, HES.out, HOWN.out, HBF.out⟩
set_option maxHeartbeats 12800000 in
set_option maxRecDepth 100000 in
theorem psizes_4 (w : World) : Calls Try.prog 10 #[.int .i64 4] w (fun e x => e = .returned (.tuple #[.int .i64 1, .int .i64 0]) ∧ Below w.heap.size w x) := by
  have HO := Lib.hid (fun w => pof_4 w)
  go_enter Try.func10, Try.ntmps10
  go_wp2_with fail
  refine (HO.out _).mono ?_
  rintro e x1 ⟨rfl, hb⟩
  have HB := Lib.hid (hb.alloc hb.size (Obj.cells #[.int .i64 1, (.func (.func 60) #[] #[]), (.func (.func 56) #[] #[])] 60))
  clear hb
  go_wp2
  go_ret2
  exact ⟨rfl, HB.out⟩
set_option maxHeartbeats 12800000 in
set_option maxRecDepth 100000 in
theorem pgraph_err_5 (a : Option Addr) (cap : Nat) (L : List Int) (hL : L.length ≤ 1000000) (hk : chkF 1 L ≠ 0) (w : World) (h : IsAt w a L) :
    Calls Try.prog 29 #[.agg #[.int .i64 1, (.func (.func 61) #[] #[]), (.func (.func 62) #[] #[])], .slice a L.length cap] w (GivesGE w 0 [] (chkF 1 L)) := by
  have HC := Lib.hid (fun w h => pcheckF_any 1 (.func (.func 61) #[] #[]) (.func (.func 62) #[] #[]) a cap L hL w h)
  generalize chkF 1 L = k at *
  have q0 : (((k : Nat) : Int) != 0) = true := by rw [bne_iff_ne]; omega
  unfold GivesGE gv at *
  obtain ⟨W, hW⟩ : ∃ W, W = (w.alloc (Obj.cells #[.int .i64 1, (.func (.func 61) #[] #[]), (.func (.func 62) #[] #[])] 60)).alloc (Obj.cells #[.int .i64 0, .slice none 0 0] 31) := ⟨_, rfl⟩
  have hB0 : Below w.heap.size w W := by rw [hW]; exact ((Below.refl _ w).alloc (Nat.le_refl _) _).alloc (by simp) _
  have hG : Blk W w.heap.size 60 #[.int .i64 1, (.func (.func 61) #[] #[]), (.func (.func 62) #[] #[])] := by rw [hW]; exact (Blk.new _ _ _).alloc _
  have hWs : W.heap.size = w.heap.size + 2 := by rw [hW]; simp
  have hR : Blk W (w.heap.size + 1) 31 #[.int .i64 0, .slice none 0 0] := by
    rw [hW]
    have := Blk.new (w.alloc (Obj.cells #[.int .i64 1, (.func (.func 61) #[] #[]), (.func (.func 62) #[] #[])] 60)) 31 #[.int .i64 0, .slice none 0 0]
    rwa [World.size_alloc] at this
  have HR1 := Lib.hid hR
  have HW := Lib.hid hW
  have HWS := Lib.hid hWs
  have HB0 := Lib.hid hB0
  have HE := Lib.hid (h.keep hB0)
  have HF : Hid (∀ u, Below W.heap.size W u → u.cell? ⟨w.heap.size, 0, none⟩ = some (.int .i64 1) ∧ u.cell? ⟨w.heap.size, 1, none⟩ = some (.func (.func 61) #[] #[]) ∧ u.cell? ⟨w.heap.size, 2, none⟩ = some (.func (.func 62) #[] #[])) := Lib.hid fun u hu => ⟨(hG.below hu hG.lt).cell 0, (hG.below hu hG.lt).cell 1, (hG.below hu hG.lt).cell 2⟩
  obtain ⟨g0, g1, g2⟩ := HF.out W (Below.refl _ _)
  clear hB0 hG hW hWs h hR
  go_enter Try.func29, Try.ntmps29
  go_wp2_with fail
  rw [← HW.out]
  refine (HC.out _ HE.out).mono ?_
  rintro e x1 ⟨rfl, hb⟩
  clear g0 g1 g2
  obtain ⟨g0, g1, g2⟩ := HF.out x1 hb
  have hRr : Blk x1 (w.heap.size + 1) 31 #[.int .i64 0, .slice none 0 0] := HR1.out.below hb HR1.out.lt
  have r1 : x1.cell? ⟨w.heap.size + 1, 0, none⟩ = some (.int .i64 0) := hRr.cell 0
  have r3 : x1.frozen? ⟨w.heap.size + 1, 0, none⟩ = false := hRr.frozen 0
  have r2 : x1.cell? ⟨w.heap.size + 1, 1, none⟩ = some (.slice none 0 0) := hRr.cell 1
  have r4 : x1.frozen? ⟨w.heap.size + 1, 1, none⟩ = false := hRr.frozen 1
  have r7 : (x1.setCell ⟨w.heap.size + 1, 0, none⟩ (.int .i64 0)).cell? ⟨w.heap.size + 1, 1, none⟩ = some (.slice none 0 0) := (hRr.set_ 0 (.int .i64 0)).cell 1
  have r8 : (x1.setCell ⟨w.heap.size + 1, 0, none⟩ (.int .i64 0)).frozen? ⟨w.heap.size + 1, 1, none⟩ = false := (hRr.set_ 0 (.int .i64 0)).frozen 1
  have HEND := Lib.hid (HB0.out.trans (hb.mono HB0.out.size))
  have HEND2 := Lib.hid ((HEND.out.setCell (p := ⟨w.heap.size + 1, 0, none⟩) (by show w.heap.size ≤ w.heap.size + 1; omega) (.int .i64 0)).setCell (p := ⟨w.heap.size + 1, 1, none⟩) (by show w.heap.size ≤ w.heap.size + 1; omega) (.slice none 0 0))
  have r5 : ((x1.setCell ⟨w.heap.size + 1, 0, none⟩ (.int .i64 0)).setCell ⟨w.heap.size + 1, 1, none⟩ (.slice none 0 0)).cell? ⟨w.heap.size + 1, 0, none⟩ = some (.int .i64 0) := ((hRr.set_ 0 (.int .i64 0)).set_ 1 (.slice none 0 0)).cell 0
  have r6 : ((x1.setCell ⟨w.heap.size + 1, 0, none⟩ (.int .i64 0)).setCell ⟨w.heap.size + 1, 1, none⟩ (.slice none 0 0)).cell? ⟨w.heap.size + 1, 1, none⟩ = some (.slice none 0 0) := ((hRr.set_ 0 (.int .i64 0)).set_ 1 (.slice none 0 0)).cell 1
  clear hRr hb
  go_wp2
  refine bodyPost_ret (v := .tuple #[.agg #[.int .i64 0, .slice none 0 0], .int .i64 (k : Nat)]) (by simp [results, Try.results29, go_sem, r5, r6]) rfl ?_
  exact ⟨none, 0, rfl, RowAt.nil _ _ _ _, World.ownsRow_nil _ _ _ _, by first | exact HEND2.out | exact HEND.out⟩
set_option maxHeartbeats 12800000 in
set_option maxRecDepth 100000 in
theorem pgraph_many_5 (a : Option Addr) (cap : Nat) (L : List Int) (hL : L.length ≤ 1000000) (hc : chkF 1 L = 0) (hm : 12 < seqV 0 (seqS 5 L)) (w : World) (h : IsAt w a L) :
    Calls Try.prog 29 #[.agg #[.int .i64 1, (.func (.func 61) #[] #[]), (.func (.func 62) #[] #[])], .slice a L.length cap] w (GivesGE w 0 [] 5) := by
  have HC := Lib.hid (fun w h => pcheckF_any 1 (.func (.func 61) #[] #[]) (.func (.func 62) #[] #[]) a cap L hL w h)
  rw [hc] at HC
  have HL0 : Hid (0 < L.length) := Lib.hid (by have := (chkF_zero hc).1; omega)
  have HDW := Lib.hid (fun B s0 w hl hA hD => pdraw_5 B a cap L hc s0 w hl hA hD)
  unfold Drew at HDW
  generalize seqV 0 (seqS 5 L) = VV at *
  generalize seqP (seqS 5 L) = PP at *
  clear hc
  unfold GivesGE gv at *
  obtain ⟨W, hW⟩ : ∃ W, W = (w.alloc (Obj.cells #[.int .i64 1, (.func (.func 61) #[] #[]), (.func (.func 62) #[] #[])] 60)).alloc (Obj.cells #[.int .i64 0, .slice none 0 0] 31) := ⟨_, rfl⟩
  have hB0 : Below w.heap.size w W := by rw [hW]; exact ((Below.refl _ w).alloc (Nat.le_refl _) _).alloc (by simp) _
  have hG : Blk W w.heap.size 60 #[.int .i64 1, (.func (.func 61) #[] #[]), (.func (.func 62) #[] #[])] := by rw [hW]; exact (Blk.new _ _ _).alloc _
  have hWs : W.heap.size = w.heap.size + 2 := by rw [hW]; simp
  have hR : Blk W (w.heap.size + 1) 31 #[.int .i64 0, .slice none 0 0] := by
    rw [hW]
    have := Blk.new (w.alloc (Obj.cells #[.int .i64 1, (.func (.func 61) #[] #[]), (.func (.func 62) #[] #[])] 60)) 31 #[.int .i64 0, .slice none 0 0]
    rwa [World.size_alloc] at this
  have HR1 := Lib.hid hR
  have HW := Lib.hid hW
  have HWS := Lib.hid hWs
  have HB0 := Lib.hid hB0
  have HE := Lib.hid (h.keep hB0)
  have HF : Hid (∀ u, Below W.heap.size W u → u.cell? ⟨w.heap.size, 0, none⟩ = some (.int .i64 1) ∧ u.cell? ⟨w.heap.size, 1, none⟩ = some (.func (.func 61) #[] #[]) ∧ u.cell? ⟨w.heap.size, 2, none⟩ = some (.func (.func 62) #[] #[])) := Lib.hid fun u hu => ⟨(hG.below hu hG.lt).cell 0, (hG.below hu hG.lt).cell 1, (hG.below hu hG.lt).cell 2⟩
  obtain ⟨g0, g1, g2⟩ := HF.out W (Below.refl _ _)
  clear hB0 hG hW hWs h hR
  go_enter Try.func29, Try.ntmps29
  go_wp2_with fail
  rw [← HW.out]
  refine (HC.out _ HE.out).mono ?_
  rintro e x1 ⟨rfl, hb⟩
  clear g0 g1 g2
  obtain ⟨g0, g1, g2⟩ := HF.out x1 hb
  have HEx := Lib.hid (HE.out.keep hb)
  obtain ⟨V, hV⟩ : ∃ V, V = x1.alloc (Obj.cells #[.int .i64 0, .slice none 0 0] 78) := ⟨_, rfl⟩
  have hDV : DrAt x1.heap.size 0 [] (.slice none 0 0) V := by rw [hV]; exact ⟨Blk.new _ _ _, World.ownsRow_nil _ _ _ _⟩
  have hbV : Below x1.heap.size x1 V := by rw [hV]; exact (Below.refl _ _).alloc (Nat.le_refl _) _
  have hAV : Awy a x1.heap.size (.slice none 0 0) := fun p hp => ⟨by
    obtain ⟨b', o', e1, e2, -⟩ := HEx.out 0 HL0.out
    rw [hp] at e1; injection e1 with e1; rw [e1]; show b' ≠ _; omega, fun h => by cases h⟩
  have HDR := Lib.hid (HDW.out x1.heap.size (.slice none 0 0) V (HEx.out.keep hbV) hAV hDV)
  have hbW : Below W.heap.size W V := hb.trans (hbV.mono hb.size)
  have HBV := Lib.hid hbW
  have HX1 := Lib.hid hb.size
  obtain ⟨B, hB⟩ : ∃ B, B = x1.heap.size := ⟨_, rfl⟩
  rw [← hB] at HDR
  have HBB := Lib.hid hB
  clear g0 g1 g2
  have g0 : (x1.alloc (Obj.cells #[.int .i64 0, .slice none 0 0] 78)).cell? ⟨w.heap.size, 0, none⟩ = some (.int .i64 1) := by rw [← hV]; exact (HF.out V hbW).1
  have g1 : (x1.alloc (Obj.cells #[.int .i64 0, .slice none 0 0] 78)).cell? ⟨w.heap.size, 1, none⟩ = some (.func (.func 61) #[] #[]) := by rw [← hV]; exact (HF.out V hbW).2.1
  have HV := Lib.hid hV
  clear hDV hbV hAV hbW hb hV hB
  go_wp2_with fail
  rw [← HV.out, ← HBB.out]
  refine HDR.out.mono ?_
  rintro e x2 ⟨rfl, s2, hd2, hs2⟩
  rw [List.nil_append] at hd2
  have hk2 : Below W.heap.size W x2 := HBV.out.trans (hs2.below.mono (by rw [HBB.out]; exact HX1.out))
  clear g0 g1
  have v0 : x2.cell? ⟨B, 0, none⟩ = some (.int .i64 VV) := hd2.1.cell 0
  clear hd2 hs2
  have hRr : Blk x2 (w.heap.size + 1) 31 #[.int .i64 0, .slice none 0 0] := HR1.out.below hk2 HR1.out.lt
  have r1 : x2.cell? ⟨w.heap.size + 1, 0, none⟩ = some (.int .i64 0) := hRr.cell 0
  have r3 : x2.frozen? ⟨w.heap.size + 1, 0, none⟩ = false := hRr.frozen 0
  have r2 : x2.cell? ⟨w.heap.size + 1, 1, none⟩ = some (.slice none 0 0) := hRr.cell 1
  have r4 : x2.frozen? ⟨w.heap.size + 1, 1, none⟩ = false := hRr.frozen 1
  have r7 : (x2.setCell ⟨w.heap.size + 1, 0, none⟩ (.int .i64 0)).cell? ⟨w.heap.size + 1, 1, none⟩ = some (.slice none 0 0) := (hRr.set_ 0 (.int .i64 0)).cell 1
  have r8 : (x2.setCell ⟨w.heap.size + 1, 0, none⟩ (.int .i64 0)).frozen? ⟨w.heap.size + 1, 1, none⟩ = false := (hRr.set_ 0 (.int .i64 0)).frozen 1
  have HEND := Lib.hid (HB0.out.trans (hk2.mono HB0.out.size))
  have HEND2 := Lib.hid ((HEND.out.setCell (p := ⟨w.heap.size + 1, 0, none⟩) (by show w.heap.size ≤ w.heap.size + 1; omega) (.int .i64 0)).setCell (p := ⟨w.heap.size + 1, 1, none⟩) (by show w.heap.size ≤ w.heap.size + 1; omega) (.slice none 0 0))
  have r5 : ((x2.setCell ⟨w.heap.size + 1, 0, none⟩ (.int .i64 0)).setCell ⟨w.heap.size + 1, 1, none⟩ (.slice none 0 0)).cell? ⟨w.heap.size + 1, 0, none⟩ = some (.int .i64 0) := ((hRr.set_ 0 (.int .i64 0)).set_ 1 (.slice none 0 0)).cell 0
  have r6 : ((x2.setCell ⟨w.heap.size + 1, 0, none⟩ (.int .i64 0)).setCell ⟨w.heap.size + 1, 1, none⟩ (.slice none 0 0)).cell? ⟨w.heap.size + 1, 1, none⟩ = some (.slice none 0 0) := ((hRr.set_ 0 (.int .i64 0)).set_ 1 (.slice none 0 0)).cell 1
  clear hRr hk2
  go_wp2
  refine bodyPost_ret (v := .tuple #[.agg #[.int .i64 0, .slice none 0 0], .int .i64 5]) (by simp [results, Try.results29, go_sem, r5, r6]) rfl ?_
  exact ⟨none, 0, rfl, RowAt.nil _ _ _ _, World.ownsRow_nil _ _ _ _, by first | exact HEND2.out | exact HEND.out⟩
set_option maxHeartbeats 12800000 in
set_option maxRecDepth 100000 in
theorem pgraph_ok_5 (a : Option Addr) (cap : Nat) (L : List Int) (hL : L.length ≤ 1000000) (hc : chkF 1 L = 0) (hm : seqV 0 (seqS 5 L) ≤ 12) (m : Int) (J : List E) (k : Nat) (hM : Makes (seqV 0 (seqS 5 L)) (seqP (seqS 5 L)) m J k) (w : World) (h : IsAt w a L) :
    Calls Try.prog 29 #[.agg #[.int .i64 1, (.func (.func 61) #[] #[]), (.func (.func 62) #[] #[])], .slice a L.length cap] w (GivesGE w m J k) := by
  have HC := Lib.hid (fun w h => pcheckF_any 1 (.func (.func 61) #[] #[]) (.func (.func 62) #[] #[]) a cap L hL w h)
  rw [hc] at HC
  have HL0 : Hid (0 < L.length) := Lib.hid (by have := (chkF_zero hc).1; omega)
  have HDW := Lib.hid (fun B s0 w hl hA hD => pdraw_5 B a cap L hc s0 w hl hA hD)
  unfold Drew at HDW
  obtain ⟨hJl, hM, -⟩ := hM
  have HM := Lib.hid hM
  generalize seqV 0 (seqS 5 L) = VV at *
  generalize seqP (seqS 5 L) = PP at *
  clear hc hM
  unfold GivesGE gv at *
  obtain ⟨W, hW⟩ : ∃ W, W = (w.alloc (Obj.cells #[.int .i64 1, (.func (.func 61) #[] #[]), (.func (.func 62) #[] #[])] 60)).alloc (Obj.cells #[.int .i64 0, .slice none 0 0] 31) := ⟨_, rfl⟩
  have hB0 : Below w.heap.size w W := by rw [hW]; exact ((Below.refl _ w).alloc (Nat.le_refl _) _).alloc (by simp) _
  have hG : Blk W w.heap.size 60 #[.int .i64 1, (.func (.func 61) #[] #[]), (.func (.func 62) #[] #[])] := by rw [hW]; exact (Blk.new _ _ _).alloc _
  have hWs : W.heap.size = w.heap.size + 2 := by rw [hW]; simp
  have hR : Blk W (w.heap.size + 1) 31 #[.int .i64 0, .slice none 0 0] := by
    rw [hW]
    have := Blk.new (w.alloc (Obj.cells #[.int .i64 1, (.func (.func 61) #[] #[]), (.func (.func 62) #[] #[])] 60)) 31 #[.int .i64 0, .slice none 0 0]
    rwa [World.size_alloc] at this
  have HR1 := Lib.hid hR
  have HW := Lib.hid hW
  have HWS := Lib.hid hWs
  have HB0 := Lib.hid hB0
  have HE := Lib.hid (h.keep hB0)
  have HF : Hid (∀ u, Below W.heap.size W u → u.cell? ⟨w.heap.size, 0, none⟩ = some (.int .i64 1) ∧ u.cell? ⟨w.heap.size, 1, none⟩ = some (.func (.func 61) #[] #[]) ∧ u.cell? ⟨w.heap.size, 2, none⟩ = some (.func (.func 62) #[] #[])) := Lib.hid fun u hu => ⟨(hG.below hu hG.lt).cell 0, (hG.below hu hG.lt).cell 1, (hG.below hu hG.lt).cell 2⟩
  obtain ⟨g0, g1, g2⟩ := HF.out W (Below.refl _ _)
  clear hB0 hG hW hWs h hR
  go_enter Try.func29, Try.ntmps29
  go_wp2_with fail
  rw [← HW.out]
  refine (HC.out _ HE.out).mono ?_
  rintro e x1 ⟨rfl, hb⟩
  clear g0 g1 g2
  obtain ⟨g0, g1, g2⟩ := HF.out x1 hb
  have HEx := Lib.hid (HE.out.keep hb)
  obtain ⟨V, hV⟩ : ∃ V, V = x1.alloc (Obj.cells #[.int .i64 0, .slice none 0 0] 78) := ⟨_, rfl⟩
  have hDV : DrAt x1.heap.size 0 [] (.slice none 0 0) V := by rw [hV]; exact ⟨Blk.new _ _ _, World.ownsRow_nil _ _ _ _⟩
  have hbV : Below x1.heap.size x1 V := by rw [hV]; exact (Below.refl _ _).alloc (Nat.le_refl _) _
  have hAV : Awy a x1.heap.size (.slice none 0 0) := fun p hp => ⟨by
    obtain ⟨b', o', e1, e2, -⟩ := HEx.out 0 HL0.out
    rw [hp] at e1; injection e1 with e1; rw [e1]; show b' ≠ _; omega, fun h => by cases h⟩
  have HDR := Lib.hid (HDW.out x1.heap.size (.slice none 0 0) V (HEx.out.keep hbV) hAV hDV)
  have hbW : Below W.heap.size W V := hb.trans (hbV.mono hb.size)
  have HBV := Lib.hid hbW
  have HX1 := Lib.hid hb.size
  obtain ⟨B, hB⟩ : ∃ B, B = x1.heap.size := ⟨_, rfl⟩
  rw [← hB] at HDR
  have HBB := Lib.hid hB
  clear g0 g1 g2
  have g0 : (x1.alloc (Obj.cells #[.int .i64 0, .slice none 0 0] 78)).cell? ⟨w.heap.size, 0, none⟩ = some (.int .i64 1) := by rw [← hV]; exact (HF.out V hbW).1
  have g1 : (x1.alloc (Obj.cells #[.int .i64 0, .slice none 0 0] 78)).cell? ⟨w.heap.size, 1, none⟩ = some (.func (.func 61) #[] #[]) := by rw [← hV]; exact (HF.out V hbW).2.1
  have HV := Lib.hid hV
  clear hDV hbV hAV hbW hb hV hB
  go_wp2_with fail
  rw [← HV.out, ← HBB.out]
  refine HDR.out.mono ?_
  rintro e x2 ⟨rfl, s2, hd2, hs2⟩
  rw [List.nil_append] at hd2
  have hk2 : Below W.heap.size W x2 := HBV.out.trans (hs2.below.mono (by rw [HBB.out]; exact HX1.out))
  clear g0 g1
  have v0 : x2.cell? ⟨B, 0, none⟩ = some (.int .i64 VV) := hd2.1.cell 0
  obtain ⟨sa, sc, rfl, hps⟩ := RowAt.of_own encP_len hd2.2
  have v1 : x2.cell? ⟨B, 1, none⟩ = some (.slice sa PP.length sc) := hd2.1.cell 1
  clear hd2 hs2
  go_wp2_with fail
  refine (HM.out _ _ _ hps).mono ?_
  rintro r x5 ⟨a2, c2, rfl, -, he2, hb5⟩
  have hj5 : Below W.heap.size W x5 := hk2.trans (hb5.mono hk2.size)
  clear hps hb5 v0 v1
  have hRr : Blk x5 (w.heap.size + 1) 31 #[.int .i64 0, .slice none 0 0] := HR1.out.below hj5 HR1.out.lt
  have hkB : w.heap.size + 1 < x2.heap.size := by have := hk2.size; have := HWS.out; omega
  have HOWN := Lib.hid ((ownsRow_setCell_below (ownsRow_setCell_below he2 (a := ⟨w.heap.size + 1, 0, none⟩) hkB (.int .i64 m)) (a := ⟨w.heap.size + 1, 1, none⟩) hkB (.slice a2 J.length c2)).mono (base' := w.heap.size) (by omega))
  obtain ⟨r1, r3, r2, r4, r5, r6, hes, hbf⟩ := tail_facts x5 x2.heap.size (w.heap.size + 1) w.heap.size m J a2 c2 he2 hkB hRr
  have HES := Lib.hid hes
  have HBF := Lib.hid (hbf w (HB0.out.trans (hj5.mono HB0.out.size)) (by omega))
  clear hRr hes hbf hkB
  clear he2 hj5 hk2
  go_wp2
  refine bodyPost_ret (v := .tuple #[.agg #[.int .i64 m, .slice a2 J.length c2], .int .i64 ((k : Nat) : Int)]) (by simp [results, Try.results29, go_sem, r5, r6]) rfl ?_
  exact ⟨a2, c2, rfl, HES.out, HOWN.out, HBF.out⟩
set_option maxHeartbeats 12800000 in
set_option maxRecDepth 100000 in
theorem pmakeK_5 (a : Option Addr) (cap : Nat) (L : List Int) (m : Int) (J : List E) (k : Nat) (hM : ∀ w, IsAt w a L → Calls Try.prog 29 #[.agg #[.int .i64 1, (.func (.func 61) #[] #[]), (.func (.func 62) #[] #[])], .slice a L.length cap] w (GivesGE w m J k)) (w : World) (h : IsAt w a L) :
    Calls Try.prog 12 #[.int .i64 5, .slice a L.length cap] w (GivesGE w m J k) := by
  have HM := Lib.hid hM
  have HO := Lib.hid (fun w => pof_5 w)
  clear hM
  unfold GivesGE gv at *
  obtain ⟨W, hW⟩ : ∃ W, W = w.alloc (Obj.cells #[.int .i64 0, .slice none 0 0] 31) := ⟨_, rfl⟩
  have HB0 : Hid (Below w.heap.size w W) := Lib.hid (by rw [hW]; exact (Below.refl _ w).alloc (Nat.le_refl _) _)
  have HR1 : Hid (Blk W w.heap.size 31 #[.int .i64 0, .slice none 0 0]) := Lib.hid (by rw [hW]; exact Blk.new _ _ _)
  have HWS : Hid (W.heap.size = w.heap.size + 1) := Lib.hid (by rw [hW]; simp)
  have HE := Lib.hid (h.keep HB0.out)
  have HW := Lib.hid hW
  clear hW h
  go_enter Try.func12, Try.ntmps12
  go_wp2_with fail
  rw [← HW.out]
  refine (HO.out _).mono ?_
  rintro e x1 ⟨rfl, hb⟩
  obtain ⟨Y, hY⟩ : ∃ Y, Y = x1.alloc (Obj.cells #[.int .i64 1, (.func (.func 61) #[] #[]), (.func (.func 62) #[] #[])] 60) := ⟨_, rfl⟩
  have HBY : Hid (Below W.heap.size W Y) := Lib.hid (by rw [hY]; exact hb.alloc hb.size _)
  have HEY := Lib.hid (HE.out.keep HBY.out)
  have HY := Lib.hid hY
  clear hY hb
  go_wp2_with fail
  rw [← HY.out]
  refine (HM.out _ HEY.out).mono ?_
  rintro r x5 ⟨a2, c2, rfl, -, he2, hb5⟩
  have hj5 : Below W.heap.size W x5 := HBY.out.trans (hb5.mono HBY.out.size)
  clear hb5
  have hRr : Blk x5 (w.heap.size) 31 #[.int .i64 0, .slice none 0 0] := HR1.out.below hj5 HR1.out.lt
  have hkB : w.heap.size < Y.heap.size := by have := HBY.out.size; have := HWS.out; omega
  have HOWN := Lib.hid ((ownsRow_setCell_below (ownsRow_setCell_below he2 (a := ⟨w.heap.size, 0, none⟩) hkB (.int .i64 m)) (a := ⟨w.heap.size, 1, none⟩) hkB (.slice a2 J.length c2)).mono (base' := w.heap.size) (by omega))
  obtain ⟨r1, r3, r2, r4, r5, r6, hes, hbf⟩ := tail_facts x5 Y.heap.size (w.heap.size) w.heap.size m J a2 c2 he2 hkB hRr
  have HES := Lib.hid hes
  have HBF := Lib.hid (hbf w (HB0.out.trans (hj5.mono HB0.out.size)) (by omega))
  clear hRr hes hbf hkB
  clear he2 hj5
  go_wp2
  refine bodyPost_ret (v := .tuple #[.agg #[.int .i64 m, .slice a2 J.length c2], .int .i64 ((k : Nat) : Int)]) (by simp [results, Try.results12, go_sem, r5, r6]) rfl ?_
  exact ⟨a2, c2, rfl, HES.out, HOWN.out, HBF.out⟩
set_option maxHeartbeats 12800000 in
set_option maxRecDepth 100000 in
theorem psizes_5 (w : World) : Calls Try.prog 10 #[.int .i64 5] w (fun e x => e = .returned (.tuple #[.int .i64 1, .int .i64 0]) ∧ Below w.heap.size w x) := by
  have HO := Lib.hid (fun w => pof_5 w)
  go_enter Try.func10, Try.ntmps10
  go_wp2_with fail
  refine (HO.out _).mono ?_
  rintro e x1 ⟨rfl, hb⟩
  have HB := Lib.hid (hb.alloc hb.size (Obj.cells #[.int .i64 1, (.func (.func 61) #[] #[]), (.func (.func 62) #[] #[])] 60))
  clear hb
  go_wp2
  go_ret2
  exact ⟨rfl, HB.out⟩
end Go.Proofs.Ytgfbihdnjidodaa

namespace Go.Proofs.Ytgfbihdnjidodaa
open Go.RowKit Go.Shelf Go.Proofs.Gr
attribute [local go_sem] Oper.semAt_some
attribute [local go_sem] run_store_func run_store_nilFunc
set_option maxHeartbeats 12800000 in
set_option maxRecDepth 100000 in
theorem pof_6 (w : World) : Calls Try.prog 28 #[.int .i64 6] w (fun e x => e = .returned (.tuple #[.agg #[.int .i64 2, (.func (.func 63) #[] #[]), (.func (.func 64) #[] #[])], .int .i64 0]) ∧ Below w.heap.size w x) := by
  obtain ⟨C, hC⟩ : ∃ C : Array Value, C = #[.int .i64 1, (.func (.func 53) #[] #[]), (.func (.func 54) #[] #[]), .int .i64 1, (.func (.func 55) #[] #[]), (.func (.func 56) #[] #[]), .int .i64 1, (.func (.func 57) #[] #[]), (.func (.func 54) #[] #[]), .int .i64 1, (.func (.func 58) #[] #[]), (.func (.func 59) #[] #[]), .int .i64 1, (.func (.func 60) #[] #[]), (.func (.func 56) #[] #[]), .int .i64 1, (.func (.func 61) #[] #[]), (.func (.func 62) #[] #[]), .int .i64 2, (.func (.func 63) #[] #[]), (.func (.func 64) #[] #[]), .int .i64 2, (.func (.func 65) #[] #[]), Value.nilFunc, .int .i64 3, (.func (.func 66) #[] #[]), (.func (.func 67) #[] #[])] := ⟨_, rfl⟩
  have HF := Lib.hid (fun w => pfamilies_any w)
  rw [← hC] at HF
  have HCS : Hid (C.size = 27) := Lib.hid (by rw [hC]; rfl)
  have HC1 : Hid (C.all (·.oneCell') = true) := Lib.hid (by rw [hC]; kernel_rfl)
  have HCA : Hid (C[18]? = some (.int .i64 2) ∧ C[19]? = some (.func (.func 63) #[] #[]) ∧ C[20]? = some (.func (.func 64) #[] #[])) := Lib.hid (by rw [hC]; exact ⟨rfl, rfl, rfl⟩)
  clear hC
  obtain ⟨W, hW⟩ : ∃ W, W = w.alloc (Obj.cells #[.int .i64 0, Value.nilFunc, Value.nilFunc] 60) := ⟨_, rfl⟩
  have HB0 : Hid (Below w.heap.size w W) := Lib.hid (by rw [hW]; exact (Below.refl _ w).alloc (Nat.le_refl _) _)
  have HG : Hid (Blk W w.heap.size 60 #[.int .i64 0, Value.nilFunc, Value.nilFunc]) := Lib.hid (by rw [hW]; exact Blk.new _ _ _)
  have HW := Lib.hid hW
  clear hW
  go_enter Try.func28, Try.ntmps28
  go_wp2_with fail
  rw [← HW.out]
  refine (HF.out _).mono ?_
  rintro e x1 ⟨rfl, hb⟩
  have hBY : Blk (x1.alloc (Obj.cells C 74)) x1.heap.size 74 C := Blk.new _ _ _
  have hbY : Below W.heap.size W (x1.alloc (Obj.cells C 74)) := hb.alloc hb.size _
  have hGY := HG.out.below hbY HG.out.lt
  have y0 : (x1.alloc (Obj.cells C 74)).cell? ⟨x1.heap.size, 18, none⟩ = some (.int .i64 2) := (hBY.cell _).trans HCA.out.1
  have y1 : (x1.alloc (Obj.cells C 74)).cell? ⟨x1.heap.size, 19, none⟩ = some (.func (.func 63) #[] #[]) := (hBY.cell _).trans HCA.out.2.1
  have y2 : (x1.alloc (Obj.cells C 74)).cell? ⟨x1.heap.size, 20, none⟩ = some (.func (.func 64) #[] #[]) := (hBY.cell _).trans HCA.out.2.2
  have hS1 := hGY.set_ 0 (.int .i64 2)
  have hS2 := hS1.set_ 1 (.func (.func 63) #[] #[])
  have hS3 := hS2.set_ 2 (.func (.func 64) #[] #[])
  have z0 := hGY.cell 0
  have z1 := hGY.frozen 0
  have z2 := hS1.cell 1
  have z3 := hS1.frozen 1
  have z4 := hS2.cell 2
  have z5 := hS2.frozen 2
  have r0 := hS3.cell 0
  have r1 := hS3.cell 1
  have r2 := hS3.cell 2
  simp only [List.getElem?_toArray, List.setIfInBounds_toArray, List.set_cons_zero, List.set_cons_succ, List.getElem?_cons_zero, List.getElem?_cons_succ] at z0 z2 z4 r0 r1 r2
  have HEND := Lib.hid (((((HB0.out.trans (hbY.mono HB0.out.size)).setCell (p := ⟨w.heap.size, 0, none⟩) (Nat.le_refl _) (.int .i64 2)).setCell (p := ⟨w.heap.size, 1, none⟩) (Nat.le_refl _) (.func (.func 63) #[] #[])).setCell (p := ⟨w.heap.size, 2, none⟩) (Nat.le_refl _) (.func (.func 64) #[] #[])))
  clear hBY hbY hGY hS1 hS2 hS3 hb
  go_wp2_with (refine wpList_store_new rfl 74 _ _ rfl rfl #[.int .i64 0, Value.nilFunc, Value.nilFunc, .int .i64 0, Value.nilFunc, Value.nilFunc, .int .i64 0, Value.nilFunc, Value.nilFunc, .int .i64 0, Value.nilFunc, Value.nilFunc, .int .i64 0, Value.nilFunc, Value.nilFunc, .int .i64 0, Value.nilFunc, Value.nilFunc, .int .i64 0, Value.nilFunc, Value.nilFunc, .int .i64 0, Value.nilFunc, Value.nilFunc, .int .i64 0, Value.nilFunc, Value.nilFunc] C rfl rfl (by rw [HCS.out]; kernel_rfl) (by rw [HCS.out]; rfl) HC1.out ?_)
  refine bodyPost_ret (v := .tuple #[.agg #[.int .i64 2, (.func (.func 63) #[] #[]), (.func (.func 64) #[] #[])], .int .i64 0]) (by simp [results, Try.results28, go_sem, r0, r1, r2]) rfl ?_
  exact ⟨rfl, HEND.out⟩
set_option maxHeartbeats 12800000 in
set_option maxRecDepth 100000 in
theorem pof_7 (w : World) : Calls Try.prog 28 #[.int .i64 7] w (fun e x => e = .returned (.tuple #[.agg #[.int .i64 2, (.func (.func 65) #[] #[]), Value.nilFunc], .int .i64 0]) ∧ Below w.heap.size w x) := by
  obtain ⟨C, hC⟩ : ∃ C : Array Value, C = #[.int .i64 1, (.func (.func 53) #[] #[]), (.func (.func 54) #[] #[]), .int .i64 1, (.func (.func 55) #[] #[]), (.func (.func 56) #[] #[]), .int .i64 1, (.func (.func 57) #[] #[]), (.func (.func 54) #[] #[]), .int .i64 1, (.func (.func 58) #[] #[]), (.func (.func 59) #[] #[]), .int .i64 1, (.func (.func 60) #[] #[]), (.func (.func 56) #[] #[]), .int .i64 1, (.func (.func 61) #[] #[]), (.func (.func 62) #[] #[]), .int .i64 2, (.func (.func 63) #[] #[]), (.func (.func 64) #[] #[]), .int .i64 2, (.func (.func 65) #[] #[]), Value.nilFunc, .int .i64 3, (.func (.func 66) #[] #[]), (.func (.func 67) #[] #[])] := ⟨_, rfl⟩
  have HF := Lib.hid (fun w => pfamilies_any w)
  rw [← hC] at HF
  have HCS : Hid (C.size = 27) := Lib.hid (by rw [hC]; rfl)
  have HC1 : Hid (C.all (·.oneCell') = true) := Lib.hid (by rw [hC]; kernel_rfl)
  have HCA : Hid (C[21]? = some (.int .i64 2) ∧ C[22]? = some (.func (.func 65) #[] #[]) ∧ C[23]? = some Value.nilFunc) := Lib.hid (by rw [hC]; exact ⟨rfl, rfl, rfl⟩)
  clear hC
  obtain ⟨W, hW⟩ : ∃ W, W = w.alloc (Obj.cells #[.int .i64 0, Value.nilFunc, Value.nilFunc] 60) := ⟨_, rfl⟩
  have HB0 : Hid (Below w.heap.size w W) := Lib.hid (by rw [hW]; exact (Below.refl _ w).alloc (Nat.le_refl _) _)
  have HG : Hid (Blk W w.heap.size 60 #[.int .i64 0, Value.nilFunc, Value.nilFunc]) := Lib.hid (by rw [hW]; exact Blk.new _ _ _)
  have HW := Lib.hid hW
  clear hW
  go_enter Try.func28, Try.ntmps28
  go_wp2_with fail
  rw [← HW.out]
  refine (HF.out _).mono ?_
  rintro e x1 ⟨rfl, hb⟩
  have hBY : Blk (x1.alloc (Obj.cells C 74)) x1.heap.size 74 C := Blk.new _ _ _
  have hbY : Below W.heap.size W (x1.alloc (Obj.cells C 74)) := hb.alloc hb.size _
  have hGY := HG.out.below hbY HG.out.lt
  have y0 : (x1.alloc (Obj.cells C 74)).cell? ⟨x1.heap.size, 21, none⟩ = some (.int .i64 2) := (hBY.cell _).trans HCA.out.1
  have y1 : (x1.alloc (Obj.cells C 74)).cell? ⟨x1.heap.size, 22, none⟩ = some (.func (.func 65) #[] #[]) := (hBY.cell _).trans HCA.out.2.1
  have y2 : (x1.alloc (Obj.cells C 74)).cell? ⟨x1.heap.size, 23, none⟩ = some Value.nilFunc := (hBY.cell _).trans HCA.out.2.2
  have hS1 := hGY.set_ 0 (.int .i64 2)
  have hS2 := hS1.set_ 1 (.func (.func 65) #[] #[])
  have hS3 := hS2.set_ 2 Value.nilFunc
  have z0 := hGY.cell 0
  have z1 := hGY.frozen 0
  have z2 := hS1.cell 1
  have z3 := hS1.frozen 1
  have z4 := hS2.cell 2
  have z5 := hS2.frozen 2
  have r0 := hS3.cell 0
  have r1 := hS3.cell 1
  have r2 := hS3.cell 2
  simp only [List.getElem?_toArray, List.setIfInBounds_toArray, List.set_cons_zero, List.set_cons_succ, List.getElem?_cons_zero, List.getElem?_cons_succ] at z0 z2 z4 r0 r1 r2
  have HEND := Lib.hid (((((HB0.out.trans (hbY.mono HB0.out.size)).setCell (p := ⟨w.heap.size, 0, none⟩) (Nat.le_refl _) (.int .i64 2)).setCell (p := ⟨w.heap.size, 1, none⟩) (Nat.le_refl _) (.func (.func 65) #[] #[])).setCell (p := ⟨w.heap.size, 2, none⟩) (Nat.le_refl _) Value.nilFunc))
  clear hBY hbY hGY hS1 hS2 hS3 hb
  go_wp2_with (refine wpList_store_new rfl 74 _ _ rfl rfl #[.int .i64 0, Value.nilFunc, Value.nilFunc, .int .i64 0, Value.nilFunc, Value.nilFunc, .int .i64 0, Value.nilFunc, Value.nilFunc, .int .i64 0, Value.nilFunc, Value.nilFunc, .int .i64 0, Value.nilFunc, Value.nilFunc, .int .i64 0, Value.nilFunc, Value.nilFunc, .int .i64 0, Value.nilFunc, Value.nilFunc, .int .i64 0, Value.nilFunc, Value.nilFunc, .int .i64 0, Value.nilFunc, Value.nilFunc] C rfl rfl (by rw [HCS.out]; kernel_rfl) (by rw [HCS.out]; rfl) HC1.out ?_)
  refine bodyPost_ret (v := .tuple #[.agg #[.int .i64 2, (.func (.func 65) #[] #[]), Value.nilFunc], .int .i64 0]) (by simp [results, Try.results28, go_sem, r0, r1, r2]) rfl ?_
  exact ⟨rfl, HEND.out⟩
set_option maxHeartbeats 12800000 in
set_option maxRecDepth 100000 in
theorem pof_8 (w : World) : Calls Try.prog 28 #[.int .i64 8] w (fun e x => e = .returned (.tuple #[.agg #[.int .i64 3, (.func (.func 66) #[] #[]), (.func (.func 67) #[] #[])], .int .i64 0]) ∧ Below w.heap.size w x) := by
  obtain ⟨C, hC⟩ : ∃ C : Array Value, C = #[.int .i64 1, (.func (.func 53) #[] #[]), (.func (.func 54) #[] #[]), .int .i64 1, (.func (.func 55) #[] #[]), (.func (.func 56) #[] #[]), .int .i64 1, (.func (.func 57) #[] #[]), (.func (.func 54) #[] #[]), .int .i64 1, (.func (.func 58) #[] #[]), (.func (.func 59) #[] #[]), .int .i64 1, (.func (.func 60) #[] #[]), (.func (.func 56) #[] #[]), .int .i64 1, (.func (.func 61) #[] #[]), (.func (.func 62) #[] #[]), .int .i64 2, (.func (.func 63) #[] #[]), (.func (.func 64) #[] #[]), .int .i64 2, (.func (.func 65) #[] #[]), Value.nilFunc, .int .i64 3, (.func (.func 66) #[] #[]), (.func (.func 67) #[] #[])] := ⟨_, rfl⟩
  have HF := Lib.hid (fun w => pfamilies_any w)
  rw [← hC] at HF
  have HCS : Hid (C.size = 27) := Lib.hid (by rw [hC]; rfl)
  have HC1 : Hid (C.all (·.oneCell') = true) := Lib.hid (by rw [hC]; kernel_rfl)
  have HCA : Hid (C[24]? = some (.int .i64 3) ∧ C[25]? = some (.func (.func 66) #[] #[]) ∧ C[26]? = some (.func (.func 67) #[] #[])) := Lib.hid (by rw [hC]; exact ⟨rfl, rfl, rfl⟩)
  clear hC
  obtain ⟨W, hW⟩ : ∃ W, W = w.alloc (Obj.cells #[.int .i64 0, Value.nilFunc, Value.nilFunc] 60) := ⟨_, rfl⟩
  have HB0 : Hid (Below w.heap.size w W) := Lib.hid (by rw [hW]; exact (Below.refl _ w).alloc (Nat.le_refl _) _)
  have HG : Hid (Blk W w.heap.size 60 #[.int .i64 0, Value.nilFunc, Value.nilFunc]) := Lib.hid (by rw [hW]; exact Blk.new _ _ _)
  have HW := Lib.hid hW
  clear hW
  go_enter Try.func28, Try.ntmps28
  go_wp2_with fail
  rw [← HW.out]
  refine (HF.out _).mono ?_
  rintro e x1 ⟨rfl, hb⟩
  have hBY : Blk (x1.alloc (Obj.cells C 74)) x1.heap.size 74 C := Blk.new _ _ _
  have hbY : Below W.heap.size W (x1.alloc (Obj.cells C 74)) := hb.alloc hb.size _
  have hGY := HG.out.below hbY HG.out.lt
  have y0 : (x1.alloc (Obj.cells C 74)).cell? ⟨x1.heap.size, 24, none⟩ = some (.int .i64 3) := (hBY.cell _).trans HCA.out.1
  have y1 : (x1.alloc (Obj.cells C 74)).cell? ⟨x1.heap.size, 25, none⟩ = some (.func (.func 66) #[] #[]) := (hBY.cell _).trans HCA.out.2.1
  have y2 : (x1.alloc (Obj.cells C 74)).cell? ⟨x1.heap.size, 26, none⟩ = some (.func (.func 67) #[] #[]) := (hBY.cell _).trans HCA.out.2.2
  have hS1 := hGY.set_ 0 (.int .i64 3)
  have hS2 := hS1.set_ 1 (.func (.func 66) #[] #[])
  have hS3 := hS2.set_ 2 (.func (.func 67) #[] #[])
  have z0 := hGY.cell 0
  have z1 := hGY.frozen 0
  have z2 := hS1.cell 1
  have z3 := hS1.frozen 1
  have z4 := hS2.cell 2
  have z5 := hS2.frozen 2
  have r0 := hS3.cell 0
  have r1 := hS3.cell 1
  have r2 := hS3.cell 2
  simp only [List.getElem?_toArray, List.setIfInBounds_toArray, List.set_cons_zero, List.set_cons_succ, List.getElem?_cons_zero, List.getElem?_cons_succ] at z0 z2 z4 r0 r1 r2
  have HEND := Lib.hid (((((HB0.out.trans (hbY.mono HB0.out.size)).setCell (p := ⟨w.heap.size, 0, none⟩) (Nat.le_refl _) (.int .i64 3)).setCell (p := ⟨w.heap.size, 1, none⟩) (Nat.le_refl _) (.func (.func 66) #[] #[])).setCell (p := ⟨w.heap.size, 2, none⟩) (Nat.le_refl _) (.func (.func 67) #[] #[])))
  clear hBY hbY hGY hS1 hS2 hS3 hb
  go_wp2_with (refine wpList_store_new rfl 74 _ _ rfl rfl #[.int .i64 0, Value.nilFunc, Value.nilFunc, .int .i64 0, Value.nilFunc, Value.nilFunc, .int .i64 0, Value.nilFunc, Value.nilFunc, .int .i64 0, Value.nilFunc, Value.nilFunc, .int .i64 0, Value.nilFunc, Value.nilFunc, .int .i64 0, Value.nilFunc, Value.nilFunc, .int .i64 0, Value.nilFunc, Value.nilFunc, .int .i64 0, Value.nilFunc, Value.nilFunc, .int .i64 0, Value.nilFunc, Value.nilFunc] C rfl rfl (by rw [HCS.out]; kernel_rfl) (by rw [HCS.out]; rfl) HC1.out ?_)
  refine bodyPost_ret (v := .tuple #[.agg #[.int .i64 3, (.func (.func 66) #[] #[]), (.func (.func 67) #[] #[])], .int .i64 0]) (by simp [results, Try.results28, go_sem, r0, r1, r2]) rfl ?_
  exact ⟨rfl, HEND.out⟩
set_option maxHeartbeats 12800000 in
set_option maxRecDepth 100000 in
theorem pof_lo (k : Int) (hk : k < 0) (w : World) : Calls Try.prog 28 #[.int .i64 k] w (fun e x => e = .returned (.tuple #[.agg #[.int .i64 0, Value.nilFunc, Value.nilFunc], .int .i64 1]) ∧ Below w.heap.size w x) := by
  obtain ⟨C, hC⟩ : ∃ C : Array Value, C = #[.int .i64 1, (.func (.func 53) #[] #[]), (.func (.func 54) #[] #[]), .int .i64 1, (.func (.func 55) #[] #[]), (.func (.func 56) #[] #[]), .int .i64 1, (.func (.func 57) #[] #[]), (.func (.func 54) #[] #[]), .int .i64 1, (.func (.func 58) #[] #[]), (.func (.func 59) #[] #[]), .int .i64 1, (.func (.func 60) #[] #[]), (.func (.func 56) #[] #[]), .int .i64 1, (.func (.func 61) #[] #[]), (.func (.func 62) #[] #[]), .int .i64 2, (.func (.func 63) #[] #[]), (.func (.func 64) #[] #[]), .int .i64 2, (.func (.func 65) #[] #[]), Value.nilFunc, .int .i64 3, (.func (.func 66) #[] #[]), (.func (.func 67) #[] #[])] := ⟨_, rfl⟩
  have HF := Lib.hid (fun w => pfamilies_any w)
  rw [← hC] at HF
  have HCS : Hid (C.size = 27) := Lib.hid (by rw [hC]; rfl)
  have HC1 : Hid (C.all (·.oneCell') = true) := Lib.hid (by rw [hC]; kernel_rfl)
  clear hC
  have d1 : k < 0 := hk
  obtain ⟨W, hW⟩ : ∃ W, W = w.alloc (Obj.cells #[.int .i64 0, Value.nilFunc, Value.nilFunc] 60) := ⟨_, rfl⟩
  have HB0 : Hid (Below w.heap.size w W) := Lib.hid (by rw [hW]; exact (Below.refl _ w).alloc (Nat.le_refl _) _)
  have HG : Hid (Blk W w.heap.size 60 #[.int .i64 0, Value.nilFunc, Value.nilFunc]) := Lib.hid (by rw [hW]; exact Blk.new _ _ _)
  have HW := Lib.hid hW
  clear hW
  go_enter Try.func28, Try.ntmps28
  go_wp2_with fail
  rw [← HW.out]
  refine (HF.out _).mono ?_
  rintro e x1 ⟨rfl, hb⟩
  have hbY : Below W.heap.size W (x1.alloc (Obj.cells C 74)) := hb.alloc hb.size _
  have hGY := HG.out.below hbY HG.out.lt
  have hS1 := hGY.set_ 0 (.int .i64 0)
  have hS2 := hS1.set_ 1 Value.nilFunc
  have hS3 := hS2.set_ 2 Value.nilFunc
  have z0 := hGY.cell 0
  have z1 := hGY.frozen 0
  have z2 := hS1.cell 1
  have z3 := hS1.frozen 1
  have z4 := hS2.cell 2
  have z5 := hS2.frozen 2
  have r0 := hS3.cell 0
  have r1 := hS3.cell 1
  have r2 := hS3.cell 2
  simp only [List.getElem?_toArray, List.setIfInBounds_toArray, List.set_cons_zero, List.set_cons_succ, List.getElem?_cons_zero, List.getElem?_cons_succ] at z0 z2 z4 r0 r1 r2
  have HEND := Lib.hid (((((HB0.out.trans (hbY.mono HB0.out.size)).setCell (p := ⟨w.heap.size, 0, none⟩) (Nat.le_refl _) (.int .i64 0)).setCell (p := ⟨w.heap.size, 1, none⟩) (Nat.le_refl _) Value.nilFunc).setCell (p := ⟨w.heap.size, 2, none⟩) (Nat.le_refl _) Value.nilFunc))
  clear hbY hGY hS1 hS2 hS3 hb hk
  go_wp2_with (refine wpList_store_new rfl 74 _ _ rfl rfl #[.int .i64 0, Value.nilFunc, Value.nilFunc, .int .i64 0, Value.nilFunc, Value.nilFunc, .int .i64 0, Value.nilFunc, Value.nilFunc, .int .i64 0, Value.nilFunc, Value.nilFunc, .int .i64 0, Value.nilFunc, Value.nilFunc, .int .i64 0, Value.nilFunc, Value.nilFunc, .int .i64 0, Value.nilFunc, Value.nilFunc, .int .i64 0, Value.nilFunc, Value.nilFunc, .int .i64 0, Value.nilFunc, Value.nilFunc] C rfl rfl (by rw [HCS.out]; kernel_rfl) (by rw [HCS.out]; rfl) HC1.out ?_)
  refine bodyPost_ret (v := .tuple #[.agg #[.int .i64 0, Value.nilFunc, Value.nilFunc], .int .i64 1]) (by simp [results, Try.results28, go_sem, r0, r1, r2]) rfl ?_
  exact ⟨rfl, HEND.out⟩
set_option maxHeartbeats 12800000 in
set_option maxRecDepth 100000 in
theorem pof_hi (k : Int) (hk : 8 < k) (w : World) : Calls Try.prog 28 #[.int .i64 k] w (fun e x => e = .returned (.tuple #[.agg #[.int .i64 0, Value.nilFunc, Value.nilFunc], .int .i64 1]) ∧ Below w.heap.size w x) := by
  obtain ⟨C, hC⟩ : ∃ C : Array Value, C = #[.int .i64 1, (.func (.func 53) #[] #[]), (.func (.func 54) #[] #[]), .int .i64 1, (.func (.func 55) #[] #[]), (.func (.func 56) #[] #[]), .int .i64 1, (.func (.func 57) #[] #[]), (.func (.func 54) #[] #[]), .int .i64 1, (.func (.func 58) #[] #[]), (.func (.func 59) #[] #[]), .int .i64 1, (.func (.func 60) #[] #[]), (.func (.func 56) #[] #[]), .int .i64 1, (.func (.func 61) #[] #[]), (.func (.func 62) #[] #[]), .int .i64 2, (.func (.func 63) #[] #[]), (.func (.func 64) #[] #[]), .int .i64 2, (.func (.func 65) #[] #[]), Value.nilFunc, .int .i64 3, (.func (.func 66) #[] #[]), (.func (.func 67) #[] #[])] := ⟨_, rfl⟩
  have HF := Lib.hid (fun w => pfamilies_any w)
  rw [← hC] at HF
  have HCS : Hid (C.size = 27) := Lib.hid (by rw [hC]; rfl)
  have HC1 : Hid (C.all (·.oneCell') = true) := Lib.hid (by rw [hC]; kernel_rfl)
  clear hC
  have d0 : ¬ k < 0 := by omega
  have d1 : 9 ≤ k := by omega
  obtain ⟨W, hW⟩ : ∃ W, W = w.alloc (Obj.cells #[.int .i64 0, Value.nilFunc, Value.nilFunc] 60) := ⟨_, rfl⟩
  have HB0 : Hid (Below w.heap.size w W) := Lib.hid (by rw [hW]; exact (Below.refl _ w).alloc (Nat.le_refl _) _)
  have HG : Hid (Blk W w.heap.size 60 #[.int .i64 0, Value.nilFunc, Value.nilFunc]) := Lib.hid (by rw [hW]; exact Blk.new _ _ _)
  have HW := Lib.hid hW
  clear hW
  go_enter Try.func28, Try.ntmps28
  go_wp2_with fail
  rw [← HW.out]
  refine (HF.out _).mono ?_
  rintro e x1 ⟨rfl, hb⟩
  have hbY : Below W.heap.size W (x1.alloc (Obj.cells C 74)) := hb.alloc hb.size _
  have hGY := HG.out.below hbY HG.out.lt
  have hS1 := hGY.set_ 0 (.int .i64 0)
  have hS2 := hS1.set_ 1 Value.nilFunc
  have hS3 := hS2.set_ 2 Value.nilFunc
  have z0 := hGY.cell 0
  have z1 := hGY.frozen 0
  have z2 := hS1.cell 1
  have z3 := hS1.frozen 1
  have z4 := hS2.cell 2
  have z5 := hS2.frozen 2
  have r0 := hS3.cell 0
  have r1 := hS3.cell 1
  have r2 := hS3.cell 2
  simp only [List.getElem?_toArray, List.setIfInBounds_toArray, List.set_cons_zero, List.set_cons_succ, List.getElem?_cons_zero, List.getElem?_cons_succ] at z0 z2 z4 r0 r1 r2
  have HEND := Lib.hid (((((HB0.out.trans (hbY.mono HB0.out.size)).setCell (p := ⟨w.heap.size, 0, none⟩) (Nat.le_refl _) (.int .i64 0)).setCell (p := ⟨w.heap.size, 1, none⟩) (Nat.le_refl _) Value.nilFunc).setCell (p := ⟨w.heap.size, 2, none⟩) (Nat.le_refl _) Value.nilFunc))
  clear hbY hGY hS1 hS2 hS3 hb hk
  go_wp2_with (refine wpList_store_new rfl 74 _ _ rfl rfl #[.int .i64 0, Value.nilFunc, Value.nilFunc, .int .i64 0, Value.nilFunc, Value.nilFunc, .int .i64 0, Value.nilFunc, Value.nilFunc, .int .i64 0, Value.nilFunc, Value.nilFunc, .int .i64 0, Value.nilFunc, Value.nilFunc, .int .i64 0, Value.nilFunc, Value.nilFunc, .int .i64 0, Value.nilFunc, Value.nilFunc, .int .i64 0, Value.nilFunc, Value.nilFunc, .int .i64 0, Value.nilFunc, Value.nilFunc] C rfl rfl (by rw [HCS.out]; kernel_rfl) (by rw [HCS.out]; rfl) HC1.out ?_)
  refine bodyPost_ret (v := .tuple #[.agg #[.int .i64 0, Value.nilFunc, Value.nilFunc], .int .i64 1]) (by simp [results, Try.results28, go_sem, r0, r1, r2]) rfl ?_
  exact ⟨rfl, HEND.out⟩
end Go.Proofs.Ytgfbihdnjidodaa
