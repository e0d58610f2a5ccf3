/- The graph on a set of vertices, by the program. -/
import Derived.Test.YtjaafneoinidkaaHk
namespace Go.Proofs.Ytjaafneoinidkaa
open Go.RowKit Go.Shelf Go.Proofs.Gr Go.Maps
attribute [local go_sem] Oper.semAt_some

set_option maxHeartbeats 12800000 in
set_option maxRecDepth 100000 in
theorem pinduced_err (n : Int) (a : Option Addr) (cap : Nat) (L : List E) (hL : L.length ≤ 100000) (b : Option Addr) (c : Nat) (S : List Int) (hS : S.length ≤ 100000) (h0 : chkS n L S ≠ 0) (w : World) (h : EsAt w a L) (hv : IsAt w b S) :
    Calls Try.prog 38 #[gv n a L.length cap, .slice b S.length c] w (GivesGE w 0 [] (chkS n L S)) := by
  have HC := Lib.hid (fun w h hv => psubset_any n a cap L hL b c S hS w h hv)
  generalize chkS n L S = k at *
  have q0 : (((k : Nat) : Int) != 0) = true := by rw [bne_iff_ne]; omega
  unfold GivesGE
  unfold GivesN gv at *
  obtain ⟨W, hW⟩ : ∃ W, W = (w.alloc (Obj.cells #[.int .i64 n, .slice a L.length cap] 24)).alloc (Obj.cells #[.int .i64 0, .slice none 0 0] 24) := ⟨_, rfl⟩
  have hB0 : Below w.heap.size w W := by rw [hW]; exact ((Below.refl _ w).alloc (Nat.le_refl _) _).alloc (by simp) _
  have hG : Blk W w.heap.size 24 #[.int .i64 n, .slice a L.length cap] := by rw [hW]; exact (Blk.new _ _ _).alloc _
  have hR : Blk W (w.heap.size + 1) 24 #[.int .i64 0, .slice none 0 0] := by
    rw [hW]
    have h9 := Blk.new (w.alloc (Obj.cells #[.int .i64 n, .slice a L.length cap] 24)) 24 #[.int .i64 0, .slice none 0 0]
    rwa [World.size_alloc] at h9
  have HW := Lib.hid hW
  have HB0 := Lib.hid hB0
  have HG := Lib.hid hG
  have HR0 := Lib.hid hR
  have HE := Lib.hid (h.keep hB0)
  have HVv := Lib.hid (hv.keep hB0)
  have g0 : W.cell? ⟨w.heap.size, 0, none⟩ = some (.int .i64 n) := hG.cell 0
  have g1 : W.cell? ⟨w.heap.size, 1, none⟩ = some (.slice a L.length cap) := hG.cell 1
  clear hB0 hG hR hW h hv
  go_enter Try.func38, Try.ntmps38
  go_wp2_with fail
  rw [← HW.out]
  refine (HC.out W HE.out HVv.out).mono ?_
  rintro e w1 ⟨rfl, hb⟩
  have hRr : Blk w1 (w.heap.size + 1) 24 #[.int .i64 0, .slice none 0 0] := HR0.out.below hb HR0.out.lt
  have r1 : w1.cell? ⟨w.heap.size + 1, 0, none⟩ = some (.int .i64 0) := hRr.cell 0
  have r3 : w1.frozen? ⟨w.heap.size + 1, 0, none⟩ = false := hRr.frozen 0
  have r2 : (w1.setCell ⟨w.heap.size + 1, 0, none⟩ (.int .i64 0)).cell? ⟨w.heap.size + 1, 1, none⟩ = some (.slice none 0 0) := (hRr.set_ 0 (.int .i64 0)).cell 1
  have r4 : (w1.setCell ⟨w.heap.size + 1, 0, none⟩ (.int .i64 0)).frozen? ⟨w.heap.size + 1, 1, none⟩ = false := (hRr.set_ 0 (.int .i64 0)).frozen 1
  have hRf := (hRr.set_ 0 (.int .i64 0)).set_ 1 (.slice none 0 0)
  have r5 : ((w1.setCell ⟨w.heap.size + 1, 0, none⟩ (.int .i64 0)).setCell ⟨w.heap.size + 1, 1, none⟩ (.slice none 0 0)).cell? ⟨w.heap.size + 1, 0, none⟩ = some (.int .i64 0) := hRf.cell 0
  have r6 : ((w1.setCell ⟨w.heap.size + 1, 0, none⟩ (.int .i64 0)).setCell ⟨w.heap.size + 1, 1, none⟩ (.slice none 0 0)).cell? ⟨w.heap.size + 1, 1, none⟩ = some (.slice none 0 0) := hRf.cell 1
  have HBF : Hid (Below w.heap.size w ((w1.setCell ⟨w.heap.size + 1, 0, none⟩ (.int .i64 0)).setCell ⟨w.heap.size + 1, 1, none⟩ (.slice none 0 0))) := Lib.hid (((HB0.out.trans (hb.mono HB0.out.size)).setCell (p := ⟨w.heap.size + 1, 0, none⟩) (Nat.le_succ _) _).setCell (p := ⟨w.heap.size + 1, 1, none⟩) (Nat.le_succ _) _)
  clear hRr hRf
  clear hb
  go_wp2
  refine bodyPost_ret (v := .tuple #[.agg #[.int .i64 0, .slice none 0 0], .int .i64 (k : Nat)]) (by simp [results, Try.results38, go_sem, r5, r6]) rfl ?_
  exact ⟨none, 0, rfl, RowAt.nil _ _ _ _, World.ownsRow_nil _ _ _ _, HBF.out⟩
set_option maxHeartbeats 12800000 in
set_option maxRecDepth 100000 in
theorem pinduced_empty (n : Int) (a : Option Addr) (cap : Nat) (L : List E) (hL : L.length ≤ 100000) (b : Option Addr) (c : Nat) (h0 : chkS n L [] = 0) (w : World) (h : EsAt w a L) :
    Calls Try.prog 38 #[gv n a L.length cap, .slice b 0 c] w (GivesGE w 0 [] 14) := by
  have hv : IsAt w b ([] : List Int) := RowAt.nil _ _ _ _
  have HC := Lib.hid (fun w h hv => psubset_any n a cap L hL b c [] (by simp) w h hv)
  rw [h0] at HC
  simp only [List.length_nil] at HC
  unfold GivesGE
  unfold GivesN gv at *
  clear h0
  obtain ⟨W, hW⟩ : ∃ W, W = (w.alloc (Obj.cells #[.int .i64 n, .slice a L.length cap] 24)).alloc (Obj.cells #[.int .i64 0, .slice none 0 0] 24) := ⟨_, rfl⟩
  have hB0 : Below w.heap.size w W := by rw [hW]; exact ((Below.refl _ w).alloc (Nat.le_refl _) _).alloc (by simp) _
  have hG : Blk W w.heap.size 24 #[.int .i64 n, .slice a L.length cap] := by rw [hW]; exact (Blk.new _ _ _).alloc _
  have hR : Blk W (w.heap.size + 1) 24 #[.int .i64 0, .slice none 0 0] := by
    rw [hW]
    have h9 := Blk.new (w.alloc (Obj.cells #[.int .i64 n, .slice a L.length cap] 24)) 24 #[.int .i64 0, .slice none 0 0]
    rwa [World.size_alloc] at h9
  have HW := Lib.hid hW
  have HB0 := Lib.hid hB0
  have HG := Lib.hid hG
  have HR0 := Lib.hid hR
  have HE := Lib.hid (h.keep hB0)
  have HVv := Lib.hid (hv.keep hB0)
  have g0 : W.cell? ⟨w.heap.size, 0, none⟩ = some (.int .i64 n) := hG.cell 0
  have g1 : W.cell? ⟨w.heap.size, 1, none⟩ = some (.slice a L.length cap) := hG.cell 1
  clear hB0 hG hR hW h hv
  go_enter Try.func38, Try.ntmps38
  go_wp2_with fail
  rw [← HW.out]
  refine (HC.out W HE.out HVv.out).mono ?_
  rintro e w1 ⟨rfl, hb⟩
  have hRr : Blk w1 (w.heap.size + 1) 24 #[.int .i64 0, .slice none 0 0] := HR0.out.below hb HR0.out.lt
  have r1 : w1.cell? ⟨w.heap.size + 1, 0, none⟩ = some (.int .i64 0) := hRr.cell 0
  have r3 : w1.frozen? ⟨w.heap.size + 1, 0, none⟩ = false := hRr.frozen 0
  have r2 : (w1.setCell ⟨w.heap.size + 1, 0, none⟩ (.int .i64 0)).cell? ⟨w.heap.size + 1, 1, none⟩ = some (.slice none 0 0) := (hRr.set_ 0 (.int .i64 0)).cell 1
  have r4 : (w1.setCell ⟨w.heap.size + 1, 0, none⟩ (.int .i64 0)).frozen? ⟨w.heap.size + 1, 1, none⟩ = false := (hRr.set_ 0 (.int .i64 0)).frozen 1
  have hRf := (hRr.set_ 0 (.int .i64 0)).set_ 1 (.slice none 0 0)
  have r5 : ((w1.setCell ⟨w.heap.size + 1, 0, none⟩ (.int .i64 0)).setCell ⟨w.heap.size + 1, 1, none⟩ (.slice none 0 0)).cell? ⟨w.heap.size + 1, 0, none⟩ = some (.int .i64 0) := hRf.cell 0
  have r6 : ((w1.setCell ⟨w.heap.size + 1, 0, none⟩ (.int .i64 0)).setCell ⟨w.heap.size + 1, 1, none⟩ (.slice none 0 0)).cell? ⟨w.heap.size + 1, 1, none⟩ = some (.slice none 0 0) := hRf.cell 1
  have HBF : Hid (Below w.heap.size w ((w1.setCell ⟨w.heap.size + 1, 0, none⟩ (.int .i64 0)).setCell ⟨w.heap.size + 1, 1, none⟩ (.slice none 0 0))) := Lib.hid (((HB0.out.trans (hb.mono HB0.out.size)).setCell (p := ⟨w.heap.size + 1, 0, none⟩) (Nat.le_succ _) _).setCell (p := ⟨w.heap.size + 1, 1, none⟩) (Nat.le_succ _) _)
  clear hRr hRf
  clear hb
  go_wp2
  refine bodyPost_ret (v := .tuple #[.agg #[.int .i64 0, .slice none 0 0], .int .i64 14]) (by simp [results, Try.results38, go_sem, r5, r6]) rfl ?_
  exact ⟨none, 0, rfl, RowAt.nil _ _ _ _, World.ownsRow_nil _ _ _ _, HBF.out⟩
set_option maxHeartbeats 12800000 in
set_option maxRecDepth 100000 in
theorem pinduced_ok (n : Int) (a : Option Addr) (cap : Nat) (L : List E) (hL : L.length ≤ 100000) (b : Option Addr) (c : Nat) (S : List Int) (hS : S.length ≤ 100) (hS0 : 0 < S.length) (h0 : chkG n L = 0) (h1 : subE n S = 0) (w : World) (h : EsAt w a L) (hv : IsAt w b S) :
    Calls Try.prog 38 #[gv n a L.length cap, .slice b S.length c] w (GivesGE w S.length (indG L S) 0) := by
  have hmm := @run_makeMap Try.prog
  have HC := Lib.hid (fun w h hv => psubset_any n a cap L hL b c S (by omega) w h hv)
  have hc0 : chkS n L S = 0 := by unfold chkS; rw [if_neg (by omega)]; exact h1
  rw [hc0] at HC
  have hRt := right_of h0
  have hlo := hRt.lo
  have hhi := hRt.hi
  have hAsc := sub_asc h1
  have HRG := Lib.hid hRt.rng
  have HASC := Lib.hid hAsc
  have HSAT := Lib.hid (fun i hi => subE_at h1 i hi)
  have HADD := Lib.hid (fun b m hm A hA x y c hx hy hc hbd w h => padd_any b m hm A hA x y c hx hy hc hbd w h)
  have HGR := Lib.hid (fun b m hm F w h => pgraph_any b m hm F (S.length : Int) w h)
  have HJN : Hid (∀ M, M.Pairwise (fun x y => ltE x y = true) → (∀ x, x ∈ M ↔ (W64 x.a ∧ W64 x.b) ∧ 0 < x.m ∧ x.m = accF (indA (L.take L.length) S) (x.a, x.b)) → M = indG L S) := Lib.hid (fun M hs hm => by
    rw [List.take_length] at hm
    exact coll_join (by omega) (fun x hx => by have := indA_rng hRt.rng S x hx; exact ⟨this.1, this.2.2⟩) (fun x y hx hy hxy => indA_acc hRt.rng hAsc x y hx hy hxy) hs hm)
  have HT0 : Hid (S.take 0 = []) := Lib.hid rfl
  have HTN : Hid (S.take S.length = S) := Lib.hid (by simp)
  have HA0 : Hid (indA (L.take 0) S = []) := Lib.hid rfl
  generalize indG L S = J at *
  unfold GivesGE
  unfold GivesG at HGR
  unfold GivesN gv at *
  obtain ⟨W, hW⟩ : ∃ W, W = (w.alloc (Obj.cells #[.int .i64 n, .slice a L.length cap] 24)).alloc (Obj.cells #[.int .i64 0, .slice none 0 0] 24) := ⟨_, rfl⟩
  have hB0 : Below w.heap.size w W := by rw [hW]; exact ((Below.refl _ w).alloc (Nat.le_refl _) _).alloc (by simp) _
  have hG : Blk W w.heap.size 24 #[.int .i64 n, .slice a L.length cap] := by rw [hW]; exact (Blk.new _ _ _).alloc _
  have hR : Blk W (w.heap.size + 1) 24 #[.int .i64 0, .slice none 0 0] := by
    rw [hW]
    have h9 := Blk.new (w.alloc (Obj.cells #[.int .i64 n, .slice a L.length cap] 24)) 24 #[.int .i64 0, .slice none 0 0]
    rwa [World.size_alloc] at h9
  have HW := Lib.hid hW
  have HB0 := Lib.hid hB0
  have HG := Lib.hid hG
  have HR0 := Lib.hid hR
  have HE := Lib.hid (h.keep hB0)
  have HVv := Lib.hid (hv.keep hB0)
  have g0 : W.cell? ⟨w.heap.size, 0, none⟩ = some (.int .i64 n) := hG.cell 0
  have g1 : W.cell? ⟨w.heap.size, 1, none⟩ = some (.slice a L.length cap) := hG.cell 1
  clear hB0 hG hR hW h hv
  have l0 : (((S.length : Nat) : Int) == 0) = false := by rw [beq_eq_false_iff_ne]; omega
  clear hRt hAsc hc0 h0 h1
  go_enter Try.func38, Try.ntmps38
  go_wp2_with fail
  rw [← HW.out]
  refine (HC.out W HE.out HVv.out).mono ?_
  rintro e w1 ⟨rfl, hb⟩
  have HC1 := Lib.hid (Idx.made w1)
  have HBM : Hid (Below W.heap.size W (w1.alloc (.map #[] 0))) := Lib.hid (hb.alloc hb.size _)
  have HMS : Hid (W.heap.size ≤ w1.heap.size) := Lib.hid hb.size
  clear hb
  generalize hM1 : w1.heap.size = M1 at *
  have HM1 := Lib.hid hM1
  clear hM1
  go_wp2
  rw [HM1.out]
  go_loopw [31] (fun x wr => ∃ i : Nat, i ≤ S.length ∧ x = .int .i64 i ∧ Idx wr M1 i (S.take i) ∧ Below W.heap.size W wr) (fun x _ => S.length - (intOf x).toNat)
  case atStart => exact ⟨0, by omega, rfl, HC1.out, HBM.out⟩
  case round =>
    obtain ⟨i, hi, rfl, hix, hb⟩ := hrel
    have HB := Lib.hid hb
    by_cases hlt : i < S.length
    · obtain ⟨b1, o1, rfl, q1, x1⟩ := (HVv.out.keep hb).one i hlt
      have hz := HSAT.out i hlt
      have HTS := Lib.hid (take_iAt S i hlt)
      have HNOT := Lib.hid (take_not HASC.out i hlt)
      have i1 : (i : Int) < ((S.length : Nat) : Int) := by omega
      have HLEN : Hid ((S.take i).length = i) := Lib.hid (by rw [List.length_take]; omega)
      generalize iAt S i = z at *
      have hzw : W64 z := w64_of (by omega) (by omega)
      obtain ⟨D, ho, hD⟩ := hix
      have HD := Lib.hid hD
      have HZW := Lib.hid hzw
      clear hb hD hz hzw
      go_wp2_with (first
        | (at_mapUpdate; refine wpList_mapUpdate_own _ rfl _ _ _ 87 rfl 3 3 lawI Try.underlying87 plE M1 i D rfl ho (by unfold maxLen; omega) _ _ (.int .i64 z) rfl rfl (key_int HZW.out) (.lit (.int .i64 (i : Int))) [] (plainElem_int Try.underlying3 (WalkArith.wf_i64 (by omega))) ?_; intro w2 hown2 hg2; go_frame)
        | go_in)
      have h9 := Idx.put HD.out ho.isMap HZW.out HNOT.out (w' := w2) (m := i + 1) (b := M1) (by rw [HLEN.out]; exact hown2)
      rw [← HTS.out] at h9
      have h10 := HB.out.grown hg2 HB.out.size (fun j hj => by injection hj with hj; have := HMS.out; omega)
      have H9 := Lib.hid h9
      have H10 := Lib.hid h10
      clear h9 h10 hown2 hg2 ho
      go_wp2
      go_roundw
      case rel => exact ⟨i + 1, by omega, by go_num, H9.out, H10.out⟩
      case measure => simp [intOf]; omega
    · obtain rfl : i = S.length := by omega
      rw [HTN.out] at hix
      have hMlt : M1 < wr.heap.size := hix.lt
      have HC2 : Hid (Coll (wr.alloc (.map #[] 0)) wr.heap.size 0 (accF (indA (L.take 0) S))) := Lib.hid (by rw [HA0.out]; exact Coll.made wr)
      have HI2 := Lib.hid (hix.alloc (.map #[] 0))
      have HB2 : Hid (Below W.heap.size W (wr.alloc (.map #[] 0))) := Lib.hid (hb.alloc hb.size _)
      have HM2S : Hid (W.heap.size ≤ wr.heap.size ∧ M1 < wr.heap.size) := Lib.hid ⟨hb.size, hMlt⟩
      have g0' : (wr.alloc (.map #[] 0)).cell? ⟨w.heap.size, 0, none⟩ = some (.int .i64 n) := (HG.out.below HB2.out HG.out.lt).cell 0
      have g1' : (wr.alloc (.map #[] 0)).cell? ⟨w.heap.size, 1, none⟩ = some (.slice a L.length cap) := (HG.out.below HB2.out HG.out.lt).cell 1
      clear hix hb HB hMlt
      generalize hM2 : wr.heap.size = M2 at *
      have HM2 := Lib.hid hM2
      clear hM2
      go_wp2
      rw [HM2.out]
      clear HM2
      go_loopw [44] (fun x wr => ∃ i : Nat, i ≤ L.length ∧ x = .int .i64 i ∧ Idx wr M1 S.length S ∧ Coll wr M2 i (accF (indA (L.take i) S)) ∧ Below W.heap.size W wr) (fun x _ => L.length - (intOf x).toNat)
      case atStart => exact ⟨0, by omega, rfl, HI2.out, HC2.out, HB2.out⟩
      case round =>
        obtain ⟨i, hi, rfl, hix, hcl, hb⟩ := hrel
        have HIX := Lib.hid hix
        have HCL := Lib.hid hcl
        have HBr := Lib.hid hb
        by_cases hlt : i < L.length
        · obtain ⟨T, hTe⟩ : ∃ T, T = eAt L i := ⟨_, rfl⟩
          have HTS := Lib.hid (indA_succ L S i hlt)
          have hrT := HRG.out T (by rw [hTe, ← eAt_get L i hlt]; exact List.getElem_mem hlt)
          have HBD := Lib.hid (fun p => indA_bound HRG.out S i p)
          have HON : Hid (∀ x ∈ indA (L.take i) S, 1 ≤ x.2) := Lib.hid (fun x hx => (indA_rng (fun e he => HRG.out e (List.mem_of_mem_take he)) S x hx).1)
          rw [← hTe] at HTS
          obtain ⟨b1, o1, ha, q1, x1, x2, x3⟩ := (HE.out.keep hb).three i hlt
          subst ha
          rw [← hTe] at x1 x2 x3
          obtain ⟨ta, tb, tm⟩ := T
          simp only at x1 x2 x3 hrT
          have i1 : (i : Int) < ((L.length : Nat) : Int) := by omega
          have HWA : Hid (W64 ta) := Lib.hid (w64_of (by omega) (by omega))
          have HWB : Hid (W64 tb) := Lib.hid (w64_of (by omega) (by omega))
          have HBV : Hid (Below W.heap.size W (wr.alloc (Obj.cells #[.int .i64 ta, .int .i64 tb, .int .i64 tm] 71))) := Lib.hid (hb.alloc hb.size _)
          have HCV : Hid (Coll (wr.alloc (Obj.cells #[.int .i64 ta, .int .i64 tb, .int .i64 tm] 71)) M2 i (accF (indA (L.take i) S))) := Lib.hid (hcl.alloc _)
          have HIV : Hid (Idx (wr.alloc (Obj.cells #[.int .i64 ta, .int .i64 tb, .int .i64 tm] 71)) M1 S.length S) := Lib.hid (hix.alloc _)
          have la := HIV.out.look HWA.out
          have lb := HIV.out.look HWB.out
          have HIA : Hid (S.contains ta = true → 0 ≤ ixZ S ta ∧ ixZ S ta < S.length) := Lib.hid (fun h => ⟨(ixZ_mem h).1, (ixZ_mem h).2.1⟩)
          have HIB : Hid (S.contains tb = true → 0 ≤ ixZ S tb ∧ ixZ S tb < S.length) := Lib.hid (fun h => ⟨(ixZ_mem h).1, (ixZ_mem h).2.1⟩)
          have HO : Hid (indO S ⟨ta, tb, tm⟩ = if S.contains ta = true ∧ S.contains tb = true then some ((mnP (ixZ S ta, ixZ S tb), mxP (ixZ S ta, ixZ S tb)), tm) else none) := Lib.hid rfl
          generalize S.contains ta = ca at *
          generalize S.contains tb = cb at *
          generalize ixZ S ta = ja at *
          generalize ixZ S tb = jb at *
          have hskip : ca = false ∨ cb = false → Hid (indA (L.take (i + 1)) S = indA (L.take i) S) := fun hc => Lib.hid (by
            rw [HTS.out, HO.out, if_neg (by rintro ⟨k1, k2⟩; rcases hc with hc | hc <;> simp_all)]
            simp)
          clear hb hTe hix hcl
          cases ca
          · have HSK := hskip (.inl rfl)
            clear hskip
            go_wp2
            go_roundw
            case rel => exact ⟨i + 1, by omega, by go_num, HIV.out, by rw [HSK.out]; exact HCV.out.mono (by omega), HBV.out⟩
            case measure => simp [intOf]; omega
          · cases cb
            · have HSK := hskip (.inr rfl)
              clear hskip
              go_wp2
              go_roundw
              case rel => exact ⟨i + 1, by omega, by go_num, HIV.out, by rw [HSK.out]; exact HCV.out.mono (by omega), HBV.out⟩
              case measure => simp [intOf]; omega
            · have hia := HIA.out rfl
              have hib := HIB.out rfl
              have HSN : Hid (indA (L.take (i + 1)) S = indA (L.take i) S ++ [((mnP (ja, jb), mxP (ja, jb)), tm)]) := Lib.hid (by
                rw [HTS.out, HO.out, if_pos ⟨rfl, rfl⟩]; rfl)
              have HSUM := Lib.hid (fun w h => HADD.out M2 i (by omega) (indA (L.take i) S) HON.out ja jb tm (w64_of (by omega) (by omega)) (w64_of (by omega) (by omega)) (by omega) (by have := HBD.out (mnP (ja, jb), mxP (ja, jb)); omega) w h)
              rw [← HSN.out] at HSUM
              clear hia hib hskip hrT
              go_wp2_with fail
              refine (HSUM.out _ HCV.out).mono ?_
              rintro e w5 ⟨rfl, hc5, hg5⟩
              have hb5 := HBV.out.grown hg5 HBV.out.size (fun j hj => by injection hj with hj; have := HM2S.out.1; omega)
              have hi5 := HIV.out.kept hg5 (by intro he; injection he with he; have := HM2S.out.2; omega)
              have HB5 := Lib.hid hb5
              have HC5 := Lib.hid hc5
              have HI5 := Lib.hid hi5
              clear hb5 hc5 hg5 hi5
              go_wp2
              go_roundw
              case rel => exact ⟨i + 1, by omega, by go_num, HI5.out, HC5.out, HB5.out⟩
              case measure => simp [intOf]; omega
        · obtain rfl : i = L.length := by omega
          clear hix hcl hb
          go_wp2_with fail
          refine (HGR.out M2 L.length (by omega) _ wr HCL.out).mono ?_
          rintro e w2 ⟨M, hL1, hL2, hL3, a9, c9, rfl, hEs, hown2, hb2⟩
          have hbw := HBr.out.trans (hb2.mono HBr.out.size)
          obtain rfl := HJN.out M hL1 hL2
          have hRr : Blk w2 (w.heap.size + 1) 24 #[.int .i64 0, .slice none 0 0] := HR0.out.below hbw HR0.out.lt
          have r1 : w2.cell? ⟨w.heap.size + 1, 0, none⟩ = some (.int .i64 0) := hRr.cell 0
          have r3 : w2.frozen? ⟨w.heap.size + 1, 0, none⟩ = false := hRr.frozen 0
          have r2 : (w2.setCell ⟨w.heap.size + 1, 0, none⟩ (.int .i64 (S.length : Int))).cell? ⟨w.heap.size + 1, 1, none⟩ = some (.slice none 0 0) := (hRr.set_ 0 (.int .i64 (S.length : Int))).cell 1
          have r4 : (w2.setCell ⟨w.heap.size + 1, 0, none⟩ (.int .i64 (S.length : Int))).frozen? ⟨w.heap.size + 1, 1, none⟩ = false := (hRr.set_ 0 (.int .i64 (S.length : Int))).frozen 1
          have hRf := (hRr.set_ 0 (.int .i64 (S.length : Int))).set_ 1 (.slice a9 M.length c9)
          have r5 : ((w2.setCell ⟨w.heap.size + 1, 0, none⟩ (.int .i64 (S.length : Int))).setCell ⟨w.heap.size + 1, 1, none⟩ (.slice a9 M.length c9)).cell? ⟨w.heap.size + 1, 0, none⟩ = some (.int .i64 (S.length : Int)) := hRf.cell 0
          have r6 : ((w2.setCell ⟨w.heap.size + 1, 0, none⟩ (.int .i64 (S.length : Int))).setCell ⟨w.heap.size + 1, 1, none⟩ (.slice a9 M.length c9)).cell? ⟨w.heap.size + 1, 1, none⟩ = some (.slice a9 M.length c9) := hRf.cell 1
          have e0 := (ownsRow_setCell_below (ownsRow_setCell_below (hown2.mono (base' := w.heap.size + 2) (by have := HBr.out.size; have := HR0.out.lt; omega)) (a := ⟨w.heap.size + 1, 0, none⟩) (Nat.lt_succ_self _) (.int .i64 (S.length : Int))) (a := ⟨w.heap.size + 1, 1, none⟩) (Nat.lt_succ_self _) (.slice a9 M.length c9))
          have E3 := Lib.hid (e0.mono (base' := w.heap.size) (by omega))
          obtain ⟨a', c', e1, e2⟩ := RowAt.of_own encE_len3 e0
          clear e0
          have E1 := Lib.hid e1
          have E2 := Lib.hid e2
          have HBF : Hid (Below w.heap.size w ((w2.setCell ⟨w.heap.size + 1, 0, none⟩ (.int .i64 (S.length : Int))).setCell ⟨w.heap.size + 1, 1, none⟩ (.slice a9 M.length c9))) := Lib.hid (((HB0.out.trans (hbw.mono HB0.out.size)).setCell (p := ⟨w.heap.size + 1, 0, none⟩) (Nat.le_succ _) _).setCell (p := ⟨w.heap.size + 1, 1, none⟩) (Nat.le_succ _) _)
          clear hRr hRf hbw hEs hown2 hb2 e1 e2 hL1 hL2 hL3
          go_wp2
          refine bodyPost_ret (v := .tuple #[.agg #[.int .i64 (S.length : Int), .slice a9 M.length c9], .int .i64 0]) (by simp [results, Try.results38, go_sem, r5, r6]) rfl ?_
          injection E1.out with q1 q2 q3
          have hq := E2.out
          rw [← q1] at hq
          exact ⟨a9, c9, rfl, hq, E3.out, HBF.out⟩
end Go.Proofs.Ytjaafneoinidkaa
