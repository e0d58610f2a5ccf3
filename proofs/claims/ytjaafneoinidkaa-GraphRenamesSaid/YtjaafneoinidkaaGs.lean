/- Graphs without loops. -/
import Derived.Test.YtjaafneoinidkaaGr
import Derived.Deep.Onto
namespace Go.Proofs.Ytjaafneoinidkaa
open Go.RowKit Go.Shelf Go.Proofs.Gr
attribute [local go_sem] Oper.semAt_some

/-- Hands back a graph and an error's number. -/
def GivesGE (w : World) (n : Int) (L : List E) (k : Nat) (e : Ending) (w' : World) : Prop := ∃ a c, e = .returned (.tuple #[gv n a L.length c, .int .i64 (k : Nat)]) ∧ EsAt w' a L ∧ w'.ownsRow w.heap.size 71 3 (.slice a L.length c) L.length (flat encE L) ∧ Below w.heap.size w w'
/-- Hands back a graph. -/
def GivesG (w : World) (n : Int) (L : List E) (e : Ending) (w' : World) : Prop := ∃ a c, e = .returned (gv n a L.length c) ∧ EsAt w' a L ∧ w'.ownsRow w.heap.size 71 3 (.slice a L.length c) L.length (flat encE L) ∧ Below w.heap.size w w'
theorem infoE : (Try.prog.info? 71).map (fun i => (i.zero, i.size, i.bytes)) = some (some (.agg #[.int .i64 0, .int .i64 0, .int .i64 0]), 3, 24) := by kernel_rfl
theorem encE_len3 (x : E) : (encE x).length = 3 := rfl
theorem flatE_snoc (l : List E) (z : E) : flat encE (l ++ [z]) = flat encE l ++ [.int .i64 z.a, .int .i64 z.b, .int .i64 z.m] := by rw [flat_append, flat_one]; rfl
/-- The edges that are no loops. -/
def noL (L : List E) : List E := L.filter fun e => decide (¬ e.a = e.b)
theorem noL_take (L : List E) (i : Nat) (h : i < L.length) : noL (L.take (i + 1)) = noL (L.take i) ++ (if (eAt L i).a = (eAt L i).b then [] else [eAt L i]) := by
  unfold noL
  rw [List.take_succ_eq_append_getElem h, List.filter_append, eAt_get]
  congr 1
  by_cases e : (eAt L i).a = (eAt L i).b
  · rw [if_pos e]; simp [e]
  · rw [if_neg e]; simp [e]
theorem noL_le (L : List E) : (noL L).length ≤ L.length := List.length_filter_le _ _
/-- An edge appended to the list in a graph's box. -/
theorem kept_push {V w3 : World} {KB : Nat} {n : Int} {s s' : Value} {k k' : Nat} {xs ys : List Value} {o : Obj} (hT : Blk V KB 24 #[.int .i64 n, s])
    (hrow : V.ownsRow (KB + 1) 71 3 s k xs) (hg : (V.alloc o).grownBy w3 s.ownBlock) (hown : w3.ownsRow (KB + 1) 71 3 s' k' ys) :
    Blk w3 KB 24 #[.int .i64 n, s] ∧ Blk (w3.setCell ⟨KB, 1, none⟩ s') KB 24 #[.int .i64 n, s'] ∧ (w3.setCell ⟨KB, 1, none⟩ s').ownsRow (KB + 1) 71 3 s' k' ys ∧ Below KB V (w3.setCell ⟨KB, 1, none⟩ s') := by
  have h1 : Blk w3 KB 24 #[.int .i64 n, s] := (hT.alloc o).grown hg fun e => by
    have := (hrow.lt KB e.symm).1; omega
  refine ⟨h1, h1.set_ 1 s', ownsRow_setCell_below hown (a := ⟨KB, 1, none⟩) (Nat.lt_succ_self _) s', ?_⟩
  have hlt := hT.lt
  exact (((Below.refl KB V).alloc (by omega) o).grown hg (by simp; omega) (fun j hj => by have := (hrow.lt j hj).1; omega)).setCell (p := ⟨KB, 1, none⟩) (Nat.le_refl _) s'

set_option maxHeartbeats 12800000 in
set_option maxRecDepth 100000 in
theorem ploopless_ok (n : Int) (a : Option Addr) (cap : Nat) (L : List E) (hL : L.length ≤ 100000) (h0 : chkG n L = 0) (w : World) (h : EsAt w a L) :
    Calls Try.prog 44 #[gv n a L.length cap] w (GivesGE w n (noL L) 0) := by
  obtain ⟨i0, hi0, hz0, hz1, hz2⟩ := info_parts infoE
  have HC := Lib.hid (fun w h => check_any n a cap L (by omega) w h)
  rw [h0] at HC
  have HST := Lib.hid (fun i h => noL_take L i h)
  have HLE := Lib.hid (fun i => noL_le (L.take i))
  have HZ0 : Hid (noL (L.take 0) = []) := Lib.hid rfl
  have HEND : Hid (noL (L.take L.length) = noL L) := Lib.hid (by rw [List.take_length])
  unfold GivesGE
  unfold GivesN gv at *
  obtain ⟨W, hW⟩ : ∃ W, W = (w.alloc (Obj.cells #[.int .i64 n, .slice a L.length cap] 24)).alloc (Obj.cells #[.int .i64 0, .slice none 0 0] 24) := ⟨_, rfl⟩
  have hB0 : Below w.heap.size w W := by rw [hW]; exact ((Below.refl _ w).alloc (Nat.le_refl _) _).alloc (by simp) _
  have hG : Blk W w.heap.size 24 #[.int .i64 n, .slice a L.length cap] := by rw [hW]; exact (Blk.new _ _ _).alloc _
  have hR : Blk W (w.heap.size + 1) 24 #[.int .i64 0, .slice none 0 0] := by
    rw [hW]
    have h9 := Blk.new (w.alloc (Obj.cells #[.int .i64 n, .slice a L.length cap] 24)) 24 #[.int .i64 0, .slice none 0 0]
    rwa [World.size_alloc] at h9
  have HW := Lib.hid hW
  have HB0 := Lib.hid hB0
  have HG := Lib.hid hG
  have HR := Lib.hid hR
  have HE := Lib.hid (h.keep hB0)
  have g0 : W.cell? ⟨w.heap.size, 0, none⟩ = some (.int .i64 n) := hG.cell 0
  have g1 : W.cell? ⟨w.heap.size, 1, none⟩ = some (.slice a L.length cap) := hG.cell 1
  clear hB0 hG hR hW h h0
  go_enter Try.func44, Try.ntmps44
  go_wp2_with fail
  rw [← HW.out]
  refine (HC.out _ HE.out).mono ?_
  rintro e w1 ⟨rfl, hb⟩
  have HB1 := Lib.hid (HB0.out.trans (hb.mono HB0.out.size))
  have HG1 := Lib.hid (HG.out.below hb HG.out.lt)
  have HR1 := Lib.hid (HR.out.below hb HR.out.lt)
  have HE1 := Lib.hid (HE.out.keep hb)
  have g0' : w1.cell? ⟨w.heap.size, 0, none⟩ = some (.int .i64 n) := HG1.out.cell 0
  have HK0 : Hid (Blk (w1.alloc (Obj.cells #[.int .i64 n, .slice none 0 0] 24)) w1.heap.size 24 #[.int .i64 n, .slice none 0 0]) := Lib.hid (Blk.new _ _ _)
  have HBK : Hid (Below w1.heap.size w1 (w1.alloc (Obj.cells #[.int .i64 n, .slice none 0 0] 24))) := Lib.hid ((Below.refl _ _).alloc (Nat.le_refl _) _)
  have HGK := Lib.hid (HG1.out.below HBK.out HG1.out.lt)
  have k0 : (w1.alloc (Obj.cells #[.int .i64 n, .slice none 0 0] 24)).cell? ⟨w.heap.size, 0, none⟩ = some (.int .i64 n) := HGK.out.cell 0
  have k1 : (w1.alloc (Obj.cells #[.int .i64 n, .slice none 0 0] 24)).cell? ⟨w.heap.size, 1, none⟩ = some (.slice a L.length cap) := HGK.out.cell 1
  have HS1 : Hid (W.heap.size ≤ w1.heap.size) := Lib.hid hb.size
  clear hb
  go_wp2
  go_loopw [20] (fun v wr => ∃ (i : Nat) (s : Value), i ≤ L.length ∧ v = .int .i64 i ∧ Blk wr w1.heap.size 24 #[.int .i64 n, s] ∧ wr.ownsRow (w1.heap.size + 1) 71 3 s (noL (L.take i)).length (flat encE (noL (L.take i))) ∧ Below w1.heap.size w1 wr) (fun v _ => L.length - (intOf v).toNat)
  case atStart => exact ⟨0, _, by omega, rfl, HK0.out, by rw [HZ0.out]; exact World.ownsRow_nil _ _ _ _, HBK.out⟩
  case round =>
    obtain ⟨i, s, hi, rfl, hK, hown, hb⟩ := hrel
    obtain ⟨sa, sc, rfl, -⟩ := RowAt.of_own encE_len3 hown
    have hst := HST.out i
    have hle := HLE.out i
    have hle2 : (L.take i).length ≤ L.length := by rw [List.length_take]; omega
    have HOW := Lib.hid hown
    have HK := Lib.hid hK
    by_cases hlt : i < L.length
    · have hst := HST.out i hlt
      generalize noL (L.take i) = P at *
      obtain ⟨T, hTe⟩ : ∃ T, T = eAt L i := ⟨_, rfl⟩
      rw [← hTe] at hst
      obtain ⟨b1, o1, ha, q1, x1, x2, x3⟩ := (HE1.out.keep hb).three i hlt
      subst ha
      rw [← hTe] at x1 x2 x3
      obtain ⟨ta, tb, tm⟩ := T
      simp only at x1 x2 x3 hst
      have i1 : (i : Int) < ((L.length : Nat) : Int) := by omega
      have HBV : Hid (Below w1.heap.size w1 (wr.alloc (Obj.cells #[.int .i64 ta, .int .i64 tb, .int .i64 tm] 71))) := Lib.hid (hb.alloc hb.size _)
      have HOV : Hid ((wr.alloc (Obj.cells #[.int .i64 ta, .int .i64 tb, .int .i64 tm] 71)).ownsRow (w1.heap.size + 1) 71 3 (.slice sa P.length sc) P.length (flat encE P)) := Lib.hid (hown.alloc _)
      have HKV : Hid (Blk (wr.alloc (Obj.cells #[.int .i64 ta, .int .i64 tb, .int .i64 tm] 71)) w1.heap.size 24 #[.int .i64 n, .slice sa P.length sc]) := Lib.hid (hK.alloc _)
      by_cases e : ta = tb
      · subst e
        rw [if_pos rfl, List.append_nil] at hst
        have HST2 := Lib.hid hst
        clear hst hb hTe hK hown
        go_wp2
        go_roundw
        case rel => exact ⟨i + 1, _, by omega, by go_num, HKV.out, by rw [HST2.out]; exact HOV.out, HBV.out⟩
        case measure => simp [intOf]; omega
      · rw [if_neg e] at hst
        have HST2 := Lib.hid hst
        have q0 : (ta != tb) = true := bne_iff_ne.2 e
        have v1 : (wr.alloc (Obj.cells #[.int .i64 ta, .int .i64 tb, .int .i64 tm] 71)).cell? ⟨w1.heap.size, 1, none⟩ = some (.slice sa P.length sc) := HKV.out.cell 1
        have hBs : w1.heap.size + 1 ≤ (wr.alloc (Obj.cells #[.int .i64 ta, .int .i64 tb, .int .i64 tm] 71)).heap.size := HKV.out.lt
        have HBs := Lib.hid hBs
        clear hst hb hTe hK hown e hBs
        go_wp2_with (at_builtin; refine wpList_append_own _ rfl _ _ 22 rfl (w1.heap.size + 1) 71 i0 (.agg #[.int .i64 0, .int .i64 0, .int .i64 0]) 3 24 Try.underlying22 hi0 hz0 hz1 hz2 rfl (by decide) _ _ _ rfl (HOV.out.alloc _) ⟨wr.heap.size + 1, 0, none⟩ 1 1 [.int .i64 ta, .int .i64 tb, .int .i64 tm] rfl rfl (by have h9 := lit_row (wr.alloc (Obj.cells #[.int .i64 ta, .int .i64 tb, .int .i64 tm] 71)) [.int .i64 ta, .int .i64 tb, .int .i64 tm] 71; rwa [World.size_alloc] at h9) (by simp [Value.oneCell']) (by unfold maxLen; omega) (by omega) (by rw [World.size_alloc]; have := HBs.out; omega) ?_; intro v1 w3 hown1 hgrow1 _; obtain ⟨g', cap', rfl⟩ := own_succ hown1; obtain ⟨h31, h32, h33, h34⟩ := kept_push HKV.out HOV.out hgrow1 hown1; have hc1 : w3.cell? ⟨w1.heap.size, 1, none⟩ = some (.slice sa P.length sc) := h31.cell 1; have hf1 : w3.frozen? ⟨w1.heap.size, 1, none⟩ = false := h31.frozen 1; have HX2 := Lib.hid h32; have HX3 := Lib.hid h33; have HX4 := Lib.hid (HBV.out.trans h34); clear h31 h32 h33 h34 hown1 hgrow1)
        go_wp2
        go_roundw
        case rel => exact ⟨i + 1, _, by omega, by go_num, HX2.out, by rw [HST2.out, List.length_append, flatE_snoc]; exact HX3.out, HX4.out⟩
        case measure => simp [intOf]; omega
    · obtain rfl : i = L.length := by omega
      rw [HEND.out] at hK hown
      have e0 := (ownsRow_setCell_below (ownsRow_setCell_below hown (a := ⟨w.heap.size + 1, 0, none⟩) (by have := HR1.out.lt; show w.heap.size + 1 < w1.heap.size + 1; omega) (.int .i64 n)) (a := ⟨w.heap.size + 1, 1, none⟩) (by have := HR1.out.lt; show w.heap.size + 1 < w1.heap.size + 1; omega) (.slice sa (noL L).length sc))
      have E3 := Lib.hid (e0.mono (base' := w.heap.size) (by have := HB1.out.size; omega))
      obtain ⟨a', c', e1, e2⟩ := RowAt.of_own encE_len3 e0
      clear e0
      have E1 := Lib.hid e1
      have E2 := Lib.hid e2
      have hRr : Blk wr (w.heap.size + 1) 24 #[.int .i64 0, .slice none 0 0] := HR1.out.below hb HR1.out.lt
      have r1 : wr.cell? ⟨w.heap.size + 1, 0, none⟩ = some (.int .i64 0) := hRr.cell 0
      have r3 : wr.frozen? ⟨w.heap.size + 1, 0, none⟩ = false := hRr.frozen 0
      have r2 : (wr.setCell ⟨w.heap.size + 1, 0, none⟩ (.int .i64 n)).cell? ⟨w.heap.size + 1, 1, none⟩ = some (.slice none 0 0) := (hRr.set_ 0 (.int .i64 n)).cell 1
      have r4 : (wr.setCell ⟨w.heap.size + 1, 0, none⟩ (.int .i64 n)).frozen? ⟨w.heap.size + 1, 1, none⟩ = false := (hRr.set_ 0 (.int .i64 n)).frozen 1
      have k2 : wr.cell? ⟨w1.heap.size, 0, none⟩ = some (.int .i64 n) := hK.cell 0
      have k3 : wr.cell? ⟨w1.heap.size, 1, none⟩ = some (.slice sa (noL L).length sc) := hK.cell 1
      have hRf := (hRr.set_ 0 (.int .i64 n)).set_ 1 (.slice sa (noL L).length sc)
      have r5 : ((wr.setCell ⟨w.heap.size + 1, 0, none⟩ (.int .i64 n)).setCell ⟨w.heap.size + 1, 1, none⟩ (.slice sa (noL L).length sc)).cell? ⟨w.heap.size + 1, 0, none⟩ = some (.int .i64 n) := hRf.cell 0
      have r6 : ((wr.setCell ⟨w.heap.size + 1, 0, none⟩ (.int .i64 n)).setCell ⟨w.heap.size + 1, 1, none⟩ (.slice sa (noL L).length sc)).cell? ⟨w.heap.size + 1, 1, none⟩ = some (.slice sa (noL L).length sc) := hRf.cell 1
      have HBF : Hid (Below w.heap.size w ((wr.setCell ⟨w.heap.size + 1, 0, none⟩ (.int .i64 n)).setCell ⟨w.heap.size + 1, 1, none⟩ (.slice sa (noL L).length sc))) := Lib.hid (((HB1.out.trans (hb.mono HB1.out.size)).setCell (p := ⟨w.heap.size + 1, 0, none⟩) (Nat.le_succ _) _).setCell (p := ⟨w.heap.size + 1, 1, none⟩) (Nat.le_succ _) _)
      clear hb hK hown hRr hRf hst hle hle2 e1 e2
      go_wp2
      refine bodyPost_ret (v := .tuple #[.agg #[.int .i64 n, .slice sa (noL L).length sc], .int .i64 0]) (by simp [results, Try.results44, go_sem, r5, r6]) rfl ?_
      injection E1.out with q1 q2 q3
      have hq := E2.out
      rw [← q1] at hq
      exact ⟨sa, sc, rfl, hq, E3.out, HBF.out⟩
set_option maxHeartbeats 12800000 in
set_option maxRecDepth 100000 in
theorem ploopless_err (n : Int) (a : Option Addr) (cap : Nat) (L : List E) (hL : L.length ≤ 100000) (h0 : chkG n L ≠ 0) (w : World) (h : EsAt w a L) :
    Calls Try.prog 44 #[gv n a L.length cap] w (GivesGE w 0 [] (chkG n L)) := by
  have HC := Lib.hid (fun w h => check_any n a cap L (by omega) w h)
  generalize chkG n L = k at *
  have q0 : (((k : Nat) : Int) != 0) = true := by rw [bne_iff_ne]; omega
  unfold GivesGE
  unfold GivesN gv at *
  obtain ⟨W, hW⟩ : ∃ W, W = (w.alloc (Obj.cells #[.int .i64 n, .slice a L.length cap] 24)).alloc (Obj.cells #[.int .i64 0, .slice none 0 0] 24) := ⟨_, rfl⟩
  have hB0 : Below w.heap.size w W := by rw [hW]; exact ((Below.refl _ w).alloc (Nat.le_refl _) _).alloc (by simp) _
  have hG : Blk W w.heap.size 24 #[.int .i64 n, .slice a L.length cap] := by rw [hW]; exact (Blk.new _ _ _).alloc _
  have hR : Blk W (w.heap.size + 1) 24 #[.int .i64 0, .slice none 0 0] := by
    rw [hW]
    have h9 := Blk.new (w.alloc (Obj.cells #[.int .i64 n, .slice a L.length cap] 24)) 24 #[.int .i64 0, .slice none 0 0]
    rwa [World.size_alloc] at h9
  have HW := Lib.hid hW
  have HB0 := Lib.hid hB0
  have HR := Lib.hid hR
  have HE := Lib.hid (h.keep hB0)
  have g0 : W.cell? ⟨w.heap.size, 0, none⟩ = some (.int .i64 n) := hG.cell 0
  have g1 : W.cell? ⟨w.heap.size, 1, none⟩ = some (.slice a L.length cap) := hG.cell 1
  clear hB0 hG hR hW h h0
  go_enter Try.func44, Try.ntmps44
  go_wp2_with fail
  rw [← HW.out]
  refine (HC.out _ HE.out).mono ?_
  rintro e w1 ⟨rfl, hb⟩
  have HB1 := Lib.hid (HB0.out.trans (hb.mono HB0.out.size))
  have hRr := HR.out.below hb HR.out.lt
  have r1 : w1.cell? ⟨w.heap.size + 1, 0, none⟩ = some (.int .i64 0) := hRr.cell 0
  have r3 : w1.frozen? ⟨w.heap.size + 1, 0, none⟩ = false := hRr.frozen 0
  have r2 : (w1.setCell ⟨w.heap.size + 1, 0, none⟩ (.int .i64 0)).cell? ⟨w.heap.size + 1, 1, none⟩ = some (.slice none 0 0) := (hRr.set_ 0 (.int .i64 0)).cell 1
  have r4 : (w1.setCell ⟨w.heap.size + 1, 0, none⟩ (.int .i64 0)).frozen? ⟨w.heap.size + 1, 1, none⟩ = false := (hRr.set_ 0 (.int .i64 0)).frozen 1
  have hRf := (hRr.set_ 0 (.int .i64 0)).set_ 1 (.slice none 0 0)
  have r5 : ((w1.setCell ⟨w.heap.size + 1, 0, none⟩ (.int .i64 0)).setCell ⟨w.heap.size + 1, 1, none⟩ (.slice none 0 0)).cell? ⟨w.heap.size + 1, 0, none⟩ = some (.int .i64 0) := hRf.cell 0
  have r6 : ((w1.setCell ⟨w.heap.size + 1, 0, none⟩ (.int .i64 0)).setCell ⟨w.heap.size + 1, 1, none⟩ (.slice none 0 0)).cell? ⟨w.heap.size + 1, 1, none⟩ = some (.slice none 0 0) := hRf.cell 1
  have HBF : Hid (Below w.heap.size w ((w1.setCell ⟨w.heap.size + 1, 0, none⟩ (.int .i64 0)).setCell ⟨w.heap.size + 1, 1, none⟩ (.slice none 0 0))) := Lib.hid ((HB1.out.setCell (p := ⟨w.heap.size + 1, 0, none⟩) (Nat.le_succ _) _).setCell (p := ⟨w.heap.size + 1, 1, none⟩) (Nat.le_succ _) _)
  clear hb hRr hRf
  go_wp2
  refine bodyPost_ret (v := .tuple #[.agg #[.int .i64 0, .slice none 0 0], .int .i64 (k : Nat)]) (by simp [results, Try.results44, go_sem, r5, r6]) rfl ?_
  exact ⟨none, 0, rfl, RowAt.nil _ _ _ _, World.ownsRow_nil _ _ _ _, HBF.out⟩
theorem ploopless_any (n : Int) (a : Option Addr) (cap : Nat) (L : List E) (hL : L.length ≤ 100000) (w : World) (h : EsAt w a L) :
    Calls Try.prog 44 #[gv n a L.length cap] w (GivesGE w (if chkG n L = 0 then n else 0) (if chkG n L = 0 then noL L else []) (chkG n L)) := by
  by_cases h0 : chkG n L = 0
  · rw [if_pos h0, if_pos h0, h0]; exact ploopless_ok n a cap L hL h0 w h
  · rw [if_neg h0, if_neg h0]; exact ploopless_err n a cap L hL h0 w h
end Go.Proofs.Ytjaafneoinidkaa
