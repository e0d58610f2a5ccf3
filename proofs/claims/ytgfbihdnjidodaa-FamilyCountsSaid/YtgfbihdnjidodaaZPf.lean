/- The reference: graphs of every kind; errors of kinds. -/
import Derived.Test.YtgfbihdnjidodaaZPd
import Derived.Test.YtgfbihdnjidodaaZPe
namespace Go.Proofs.Ytgfbihdnjidodaa
open Go.RowKit Go.Shelf Go.Proofs.Gr
attribute [local go_sem] Oper.semAt_some

theorem rends_all (kind : Nat) (hk : kind ≤ 8) (a : Option Addr) (cap : Nat) (L : List Int) (hll : L.length = sizK kind) (hr : ∀ j, j < L.length → 1 ≤ iAt L j ∧ iAt L j ≤ 50) (w : World) (h : IsAt w a L) : Calls Try.prog 46 #[.int .i64 (kind : Nat), .slice a L.length cap] w (GivesPO w (endsR kind L)) := by
  have hcases : kind = 0 ∨ kind = 1 ∨ kind = 2 ∨ kind = 3 ∨ kind = 4 ∨ kind = 5 ∨ kind = 6 ∨ kind = 7 ∨ kind = 8 := by omega
  rcases hcases with rfl | rfl | rfl | rfl | rfl | rfl | rfl | rfl | rfl
  · exact rends_0 a cap L hll hr w h
  · exact rends_1 a cap L hll hr w h
  · exact rends_2 a cap L hll hr w h
  · exact rends_3 a cap L hll hr w h
  · exact rends_4 a cap L hll hr w h
  · exact rends_5 a cap L hll hr w h
  · exact rends_6 a cap L hll hr w h
  · exact rends_7 a cap L hll hr w h
  · exact rends_8 a cap L hll hr w h
set_option maxHeartbeats 12800000 in
set_option maxRecDepth 100000 in
theorem rmade_any (kind : Nat) (hk : kind ≤ 8) (a : Option Addr) (cap : Nat) (L : List Int) (h0 : famE kind L = 0) (w : World) (h : IsAt w a L) : Calls Try.prog 30 #[.int .i64 (kind : Nat), .slice a L.length cap] w (GivesG w (famN kind L : Nat) (famJ kind L)) := by
  obtain ⟨hl1, hl2, -⟩ := famE_zero h0
  have hz := (chkF_zero (fam_chk rfl hk h0)).2
  have HV := Lib.hid (fun w h => rvert_all kind hk a cap L hl1 hl2 w h)
  have HD := Lib.hid (fun w h => rends_all kind hk a cap L hl1 (fun j hj => by have := hz _ (List.getElem_mem hj); rw [iAt_get L j hj] at this; exact this) w h)
  have HM := Lib.hid (fam_makes hk h0).2.2.2
  generalize vertK kind L = V at *
  generalize endsR kind L = Q at *
  generalize ((famN kind L : Nat) : Int) = m at *
  generalize famJ kind L = J at *
  generalize ((kind : Nat) : Int) = z at *
  unfold GivesPO at HD
  unfold GivesGE at HM
  unfold GivesG
  unfold gv at *
  obtain ⟨W, hW⟩ : ∃ W, W = w.alloc (Obj.cells #[.int .i64 0, .slice none 0 0] 31) := ⟨_, rfl⟩
  have HB0 : Hid (Below w.heap.size w W) := Lib.hid (by rw [hW]; exact (Below.refl _ w).alloc (Nat.le_refl _) _)
  have HR1 : Hid (Blk W w.heap.size 31 #[.int .i64 0, .slice none 0 0]) := Lib.hid (by rw [hW]; exact Blk.new _ _ _)
  have HWS : Hid (W.heap.size = w.heap.size + 1) := Lib.hid (by rw [hW]; simp)
  have HW := Lib.hid hW
  have HE := Lib.hid (h.keep HB0.out)
  clear hW h hl1 hl2 hz h0 hk
  go_enter Try.func30, Try.ntmps30
  go_wp2_with fail
  rw [← HW.out]
  refine (HV.out _ HE.out).mono ?_
  rintro e x1 ⟨rfl, hb1⟩
  have HB1 := Lib.hid hb1
  have HE1 := Lib.hid (HE.out.keep hb1)
  clear hb1
  go_wp2_with fail
  refine (HD.out _ HE1.out).mono ?_
  rintro e x2 ⟨s, rfl, hown, hb2⟩
  obtain ⟨sa, sc, rfl, hps⟩ := RowAt.of_own encP_len hown
  have HPS := Lib.hid hps
  have HB2 := Lib.hid (HB1.out.trans (hb2.mono HB1.out.size))
  clear hown hps hb2
  go_wp2_with fail
  refine (HM.out sa sc _ HPS.out).mono ?_
  rintro e x3 ⟨a2, c2, rfl, -, he3, hb3⟩
  have HB3 := Lib.hid (HB2.out.trans (hb3.mono HB2.out.size))
  clear hb3
  have hy : Below x3.heap.size x3 (x3.alloc (Obj.cells #[.int .i64 m, .slice a2 J.length c2] 31)) := (Below.refl _ _).alloc (Nat.le_refl _) _
  have he2 := own_keep he3 hy
  have hjY : Below W.heap.size W (x3.alloc (Obj.cells #[.int .i64 m, .slice a2 J.length c2] 31)) := HB3.out.trans (hy.mono HB3.out.size)
  clear hy he3
  have hRr : Blk (x3.alloc (Obj.cells #[.int .i64 m, .slice a2 J.length c2] 31)) (w.heap.size) 31 #[.int .i64 0, .slice none 0 0] := HR1.out.below hjY HR1.out.lt
  have hkB : w.heap.size < x2.heap.size := by have := HB2.out.size; have := HWS.out; omega
  have HOWN := Lib.hid ((ownsRow_setCell_below (ownsRow_setCell_below he2 (a := ⟨w.heap.size, 0, none⟩) hkB (.int .i64 m)) (a := ⟨w.heap.size, 1, none⟩) hkB (.slice a2 J.length c2)).mono (base' := w.heap.size) (by omega))
  obtain ⟨r1, r3, r2, r4, r5, r6, hes, hbf⟩ := tail_facts (x3.alloc (Obj.cells #[.int .i64 m, .slice a2 J.length c2] 31)) x2.heap.size (w.heap.size) w.heap.size m J a2 c2 he2 hkB hRr
  have HES := Lib.hid hes
  have HBF := Lib.hid (hbf w (HB0.out.trans (hjY.mono HB0.out.size)) (by omega))
  clear hRr hes hbf hkB
  clear he2 hjY
  go_wp2
  refine bodyPost_ret (v := .agg #[.int .i64 m, .slice a2 J.length c2]) (by simp [results, Try.results30, go_sem, r5, r6]) rfl ?_
  exact ⟨a2, c2, rfl, HES.out, HOWN.out, HBF.out⟩
set_option maxHeartbeats 12800000 in
set_option maxRecDepth 100000 in
theorem rMake_right (kind : Nat) (hk : kind ≤ 8) (a : Option Addr) (cap : Nat) (L : List Int) (hL : L.length ≤ 1000000) (h0 : famE kind L = 0) (w : World) (h : IsAt w a L) : Calls Try.prog 13 #[.int .i64 (kind : Nat), .slice a L.length cap] w (GivesGE w (famN kind L : Nat) (famJ kind L) 0) := by
  have HG := Lib.hid (fun w h => rgiven_any kind hk a cap L hL w h)
  have HM := Lib.hid (fun w h => rmade_any kind hk a cap L h0 w h)
  rw [h0] at HG
  generalize ((famN kind L : Nat) : Int) = m at *
  generalize famJ kind L = J at *
  generalize ((kind : Nat) : Int) = z at *
  unfold GivesG at HM
  unfold GivesGE
  unfold gv at *
  obtain ⟨W, hW⟩ : ∃ W, W = w.alloc (Obj.cells #[.int .i64 0, .slice none 0 0] 31) := ⟨_, rfl⟩
  have HB0 : Hid (Below w.heap.size w W) := Lib.hid (by rw [hW]; exact (Below.refl _ w).alloc (Nat.le_refl _) _)
  have HR1 : Hid (Blk W w.heap.size 31 #[.int .i64 0, .slice none 0 0]) := Lib.hid (by rw [hW]; exact Blk.new _ _ _)
  have HWS : Hid (W.heap.size = w.heap.size + 1) := Lib.hid (by rw [hW]; simp)
  have HW := Lib.hid hW
  have HE := Lib.hid (h.keep HB0.out)
  clear hW h h0 hk
  go_enter Try.func13, Try.ntmps13
  go_wp2_with fail
  rw [← HW.out]
  refine (HG.out _ HE.out).mono ?_
  rintro e x1 ⟨rfl, hb1⟩
  have HB1 := Lib.hid hb1
  have HE1 := Lib.hid (HE.out.keep hb1)
  clear hb1
  go_wp2_with fail
  refine (HM.out _ HE1.out).mono ?_
  rintro e x2 ⟨a2, c2, rfl, -, he2, hb2⟩
  have hj2 := HB1.out.trans (hb2.mono HB1.out.size)
  clear hb2
  have hRr : Blk x2 (w.heap.size) 31 #[.int .i64 0, .slice none 0 0] := HR1.out.below hj2 HR1.out.lt
  have hkB : w.heap.size < x1.heap.size := by have := HB1.out.size; have := HWS.out; omega
  have HOWN := Lib.hid ((ownsRow_setCell_below (ownsRow_setCell_below he2 (a := ⟨w.heap.size, 0, none⟩) hkB (.int .i64 m)) (a := ⟨w.heap.size, 1, none⟩) hkB (.slice a2 J.length c2)).mono (base' := w.heap.size) (by omega))
  obtain ⟨r1, r3, r2, r4, r5, r6, hes, hbf⟩ := tail_facts x2 x1.heap.size (w.heap.size) w.heap.size m J a2 c2 he2 hkB hRr
  have HES := Lib.hid hes
  have HBF := Lib.hid (hbf w (HB0.out.trans (hj2.mono HB0.out.size)) (by omega))
  clear hRr hes hbf hkB
  clear he2 hj2
  go_wp2
  refine bodyPost_ret (v := .tuple #[.agg #[.int .i64 m, .slice a2 J.length c2], .int .i64 ((0 : Nat) : Int)]) (by simp [results, Try.results13, go_sem, r5, r6]) rfl ?_
  exact ⟨a2, c2, rfl, HES.out, HOWN.out, HBF.out⟩
set_option maxHeartbeats 12800000 in
set_option maxRecDepth 100000 in
theorem rMake_err (z : Int) (k : Nat) (hk : k ≠ 0) (a : Option Addr) (cap : Nat) (L : List Int) (hG : ∀ w, IsAt w a L → Calls Try.prog 15 #[.int .i64 z, .slice a L.length cap] w (fun e x => e = .returned (.int .i64 (k : Nat)) ∧ Below w.heap.size w x)) (w : World) (h : IsAt w a L) : Calls Try.prog 13 #[.int .i64 z, .slice a L.length cap] w (GivesGE w 0 [] k) := by
  have HG := Lib.hid hG
  have q0 : (((k : Nat) : Int) != 0) = true := by rw [bne_iff_ne]; omega
  unfold GivesGE
  unfold gv at *
  obtain ⟨W, hW⟩ : ∃ W, W = w.alloc (Obj.cells #[.int .i64 0, .slice none 0 0] 31) := ⟨_, rfl⟩
  have HB0 : Hid (Below w.heap.size w W) := Lib.hid (by rw [hW]; exact (Below.refl _ w).alloc (Nat.le_refl _) _)
  have HR1 : Hid (Blk W w.heap.size 31 #[.int .i64 0, .slice none 0 0]) := Lib.hid (by rw [hW]; exact Blk.new _ _ _)
  have HWS : Hid (W.heap.size = w.heap.size + 1) := Lib.hid (by rw [hW]; simp)
  have HW := Lib.hid hW
  have HE := Lib.hid (h.keep HB0.out)
  clear hW h hG hk
  go_enter Try.func13, Try.ntmps13
  go_wp2_with fail
  rw [← HW.out]
  refine (HG.out _ HE.out).mono ?_
  rintro e x1 ⟨rfl, hb⟩
  have hRr : Blk x1 (w.heap.size) 31 #[.int .i64 0, .slice none 0 0] := HR1.out.below hb HR1.out.lt
  have r1 : x1.cell? ⟨w.heap.size, 0, none⟩ = some (.int .i64 0) := hRr.cell 0
  have r3 : x1.frozen? ⟨w.heap.size, 0, none⟩ = false := hRr.frozen 0
  have r2 : x1.cell? ⟨w.heap.size, 1, none⟩ = some (.slice none 0 0) := hRr.cell 1
  have r4 : x1.frozen? ⟨w.heap.size, 1, none⟩ = false := hRr.frozen 1
  have r7 : (x1.setCell ⟨w.heap.size, 0, none⟩ (.int .i64 0)).cell? ⟨w.heap.size, 1, none⟩ = some (.slice none 0 0) := (hRr.set_ 0 (.int .i64 0)).cell 1
  have r8 : (x1.setCell ⟨w.heap.size, 0, none⟩ (.int .i64 0)).frozen? ⟨w.heap.size, 1, none⟩ = false := (hRr.set_ 0 (.int .i64 0)).frozen 1
  have HEND := Lib.hid (HB0.out.trans (hb.mono HB0.out.size))
  have HEND2 := Lib.hid ((HEND.out.setCell (p := ⟨w.heap.size, 0, none⟩) (by show w.heap.size ≤ w.heap.size; omega) (.int .i64 0)).setCell (p := ⟨w.heap.size, 1, none⟩) (by show w.heap.size ≤ w.heap.size; omega) (.slice none 0 0))
  have r5 : ((x1.setCell ⟨w.heap.size, 0, none⟩ (.int .i64 0)).setCell ⟨w.heap.size, 1, none⟩ (.slice none 0 0)).cell? ⟨w.heap.size, 0, none⟩ = some (.int .i64 0) := ((hRr.set_ 0 (.int .i64 0)).set_ 1 (.slice none 0 0)).cell 0
  have r6 : ((x1.setCell ⟨w.heap.size, 0, none⟩ (.int .i64 0)).setCell ⟨w.heap.size, 1, none⟩ (.slice none 0 0)).cell? ⟨w.heap.size, 1, none⟩ = some (.slice none 0 0) := ((hRr.set_ 0 (.int .i64 0)).set_ 1 (.slice none 0 0)).cell 1
  clear hRr hb
  go_wp2
  refine bodyPost_ret (v := .tuple #[.agg #[.int .i64 0, .slice none 0 0], .int .i64 ((k : Nat) : Int)]) (by simp [results, Try.results13, go_sem, r5, r6]) rfl ?_
  exact ⟨none, 0, rfl, RowAt.nil _ _ _ _, World.ownsRow_nil _ _ _ _, by first | exact HEND2.out | exact HEND.out⟩
theorem rMake_any (kind : Nat) (hk : kind ≤ 8) (a : Option Addr) (cap : Nat) (L : List Int) (hL : L.length ≤ 1000000) (w : World) (h : IsAt w a L) : Calls Try.prog 13 #[.int .i64 (kind : Nat), .slice a L.length cap] w (GivesGE w (mkN kind L) (mkJ kind L) (famE kind L)) := by
  by_cases h0 : famE kind L = 0
  · have e1 : mkN kind L = (famN kind L : Nat) := by unfold mkN; rw [if_pos h0]
    have e2 : mkJ kind L = famJ kind L := by unfold mkJ; rw [if_pos h0]
    rw [e1, e2]
    have := rMake_right kind hk a cap L hL h0 w h
    rw [h0]
    exact this
  · have e1 : mkN kind L = 0 := by unfold mkN; rw [if_neg h0]
    have e2 : mkJ kind L = [] := by unfold mkJ; rw [if_neg h0]
    rw [e1, e2]
    exact rMake_err _ _ h0 a cap L (fun w h => rgiven_any kind hk a cap L hL w h) w h
theorem rMake_bad (z : Int) (hz : z < 0 ∨ 8 < z) (a : Option Addr) (cap : Nat) (L : List Int) (w : World) (h : IsAt w a L) : Calls Try.prog 13 #[.int .i64 z, .slice a L.length cap] w (GivesGE w 0 [] 1) :=
  rMake_err z 1 (by omega) a cap L (fun w _ => rgiven_bad z hz a cap L.length w) w h
end Go.Proofs.Ytgfbihdnjidodaa
