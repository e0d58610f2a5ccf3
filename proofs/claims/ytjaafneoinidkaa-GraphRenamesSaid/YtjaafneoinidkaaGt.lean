/- Graphs without loops, with few parallel edges: the reference's. -/
import Derived.Test.YtjaafneoinidkaaGs
namespace Go.Proofs.Ytjaafneoinidkaa
open Go.RowKit Go.Shelf Go.Proofs.Gr
attribute [local go_sem] Oper.semAt_some

/-- The edges that are no loops, with few parallel ones. -/
def limE (most : Int) (e : E) : E := ⟨e.a, e.b, if most < e.m then most else e.m⟩
def limL (most : Int) (L : List E) : List E := (noL L).map (limE most)
theorem limL_take (most : Int) (L : List E) (i : Nat) (h : i < L.length) : limL most (L.take (i + 1)) = limL most (L.take i) ++ (if (eAt L i).a = (eAt L i).b then [] else [⟨(eAt L i).a, (eAt L i).b, if most < (eAt L i).m then most else (eAt L i).m⟩]) := by
  unfold limL
  rw [noL_take L i h, List.map_append]
  congr 1
  split <;> rfl
theorem limL_le (most : Int) (L : List E) : (limL most L).length ≤ L.length := by unfold limL; rw [List.length_map]; exact noL_le L
theorem limL_id (most : Int) (L : List E) (h : ∀ e ∈ L, e.m ≤ most) : limL most L = noL L := by
  unfold limL
  have h2 : ∀ e ∈ noL L, limE most e = id e := fun e he => by
    have := h e ((List.mem_filter.1 he).1)
    unfold limE
    rw [if_neg (by omega)]; rfl
  rw [List.map_congr_left h2, List.map_id]
theorem limL_one (L : List E) (h : ∀ e ∈ L, 1 ≤ e.m) : limL 1 L = (noL L).map fun e => ⟨e.a, e.b, 1⟩ := by
  unfold limL
  refine List.map_congr_left fun e he => ?_
  have := h e ((List.mem_filter.1 he).1)
  unfold limE
  by_cases e1 : 1 < e.m
  · rw [if_pos e1]
  · rw [if_neg e1, show e.m = 1 by omega]

set_option maxHeartbeats 12800000 in
set_option maxRecDepth 100000 in
theorem rlimited_any (n : Int) (a : Option Addr) (cap : Nat) (L : List E) (hL : L.length ≤ 100000) (most : Int) (w : World) (h : EsAt w a L) :
    Calls Try.prog 47 #[gv n a L.length cap, .int .i64 most] w (GivesG w n (limL most L)) := by
  obtain ⟨i0, hi0, hz0, hz1, hz2⟩ := info_parts infoE
  have HST := Lib.hid (fun i h => limL_take most L i h)
  have HLE := Lib.hid (fun i => limL_le most (L.take i))
  have HZ0 : Hid (limL most (L.take 0) = []) := Lib.hid rfl
  have HEND : Hid (limL most (L.take L.length) = limL most L) := Lib.hid (by rw [List.take_length])
  unfold GivesG gv
  obtain ⟨W, hW⟩ : ∃ W, W = (w.alloc (Obj.cells #[.int .i64 n, .slice a L.length cap] 24)).alloc (Obj.cells #[.int .i64 0, .slice none 0 0] 24) := ⟨_, rfl⟩
  have hB0 : Below w.heap.size w W := by rw [hW]; exact ((Below.refl _ w).alloc (Nat.le_refl _) _).alloc (by simp) _
  have hG : Blk W w.heap.size 24 #[.int .i64 n, .slice a L.length cap] := by rw [hW]; exact (Blk.new _ _ _).alloc _
  have hR : Blk W (w.heap.size + 1) 24 #[.int .i64 0, .slice none 0 0] := by
    rw [hW]
    have h9 := Blk.new (w.alloc (Obj.cells #[.int .i64 n, .slice a L.length cap] 24)) 24 #[.int .i64 0, .slice none 0 0]
    rwa [World.size_alloc] at h9
  have hs : W.heap.size = w.heap.size + 2 := by rw [hW]; simp
  have HWS := Lib.hid hs
  have HW := Lib.hid hW
  have HB1 := Lib.hid hB0
  have HG1 := Lib.hid hG
  have HR1 := Lib.hid hR
  have HE1 := Lib.hid (h.keep hB0)
  have HK0 : Hid (Blk (W.alloc (Obj.cells #[.int .i64 n, .slice none 0 0] 24)) (w.heap.size + 2) 24 #[.int .i64 n, .slice none 0 0]) := Lib.hid (by rw [← hs]; exact Blk.new _ _ _)
  have HBK : Hid (Below W.heap.size W (W.alloc (Obj.cells #[.int .i64 n, .slice none 0 0] 24))) := Lib.hid ((Below.refl _ _).alloc (Nat.le_refl _) _)
  have g0 : W.cell? ⟨w.heap.size, 0, none⟩ = some (.int .i64 n) := hG.cell 0
  have g1 : W.cell? ⟨w.heap.size, 1, none⟩ = some (.slice a L.length cap) := hG.cell 1
  clear hB0 hG hR hW h hs
  go_enter Try.func47, Try.ntmps47
  go_wp2
  rw [← HW.out]
  go_loopw [6] (fun v wr => ∃ (i : Nat) (s : Value), i ≤ L.length ∧ v = .int .i64 i ∧ Blk wr (w.heap.size + 2) 24 #[.int .i64 n, s] ∧ wr.ownsRow (w.heap.size + 3) 71 3 s (limL most (L.take i)).length (flat encE (limL most (L.take i))) ∧ Below W.heap.size W wr) (fun v _ => L.length - (intOf v).toNat)
  case atStart => exact ⟨0, _, by omega, rfl, HK0.out, by rw [HZ0.out]; exact World.ownsRow_nil _ _ _ _, HBK.out⟩
  case round =>
    obtain ⟨i, s, hi, rfl, hK, hown, hb⟩ := hrel
    obtain ⟨sa, sc, rfl, -⟩ := RowAt.of_own encE_len3 hown
    have hst := HST.out i
    have hle := HLE.out i
    have hle2 : (L.take i).length ≤ L.length := by rw [List.length_take]; omega
    have HOW := Lib.hid hown
    have HK := Lib.hid hK
    have g0' : wr.cell? ⟨w.heap.size, 0, none⟩ = some (.int .i64 n) := (HG1.out.below hb HG1.out.lt).cell 0
    have g1' : wr.cell? ⟨w.heap.size, 1, none⟩ = some (.slice a L.length cap) := (HG1.out.below hb HG1.out.lt).cell 1
    by_cases hlt : i < L.length
    · have hst := HST.out i hlt
      generalize limL most (L.take i) = P at *
      obtain ⟨T, hTe⟩ : ∃ T, T = eAt L i := ⟨_, rfl⟩
      rw [← hTe] at hst
      obtain ⟨b1, o1, ha, q1, x1, x2, x3⟩ := (HE1.out.keep hb).three i hlt
      subst ha
      rw [← hTe] at x1 x2 x3
      obtain ⟨ta, tb, tm⟩ := T
      simp only at x1 x2 x3 hst
      have i1 : (i : Int) < ((L.length : Nat) : Int) := by omega
      have HBV : Hid (Below W.heap.size W (wr.alloc (Obj.cells #[.int .i64 ta, .int .i64 tb, .int .i64 tm] 71))) := Lib.hid (hb.alloc hb.size _)
      have HOV : Hid ((wr.alloc (Obj.cells #[.int .i64 ta, .int .i64 tb, .int .i64 tm] 71)).ownsRow (w.heap.size + 3) 71 3 (.slice sa P.length sc) P.length (flat encE P)) := Lib.hid (hown.alloc _)
      have HKV : Hid (Blk (wr.alloc (Obj.cells #[.int .i64 ta, .int .i64 tb, .int .i64 tm] 71)) (w.heap.size + 2) 24 #[.int .i64 n, .slice sa P.length sc]) := Lib.hid (hK.alloc _)
      by_cases e : ta = tb
      · subst e
        rw [if_pos rfl, List.append_nil] at hst
        have HST2 := Lib.hid hst
        clear hst hb hTe hK hown
        go_wp2
        go_roundw
        case rel => exact ⟨i + 1, _, by omega, by go_num, HKV.out, by rw [HST2.out]; exact HOV.out, HBV.out⟩
        case measure => simp [intOf]; omega
      · rw [if_neg e] at hst
        obtain ⟨p, hp⟩ : ∃ p, (if most < tm then most else tm) = p := ⟨_, rfl⟩
        rw [hp] at hst
        have HST2 := Lib.hid hst
        have q0 : (ta != tb) = true := bne_iff_ne.2 e
        have v1 : (wr.alloc (Obj.cells #[.int .i64 ta, .int .i64 tb, .int .i64 tm] 71)).cell? ⟨w.heap.size + 2, 1, none⟩ = some (.slice sa P.length sc) := HKV.out.cell 1
        have hBs : w.heap.size + 3 ≤ (wr.alloc (Obj.cells #[.int .i64 ta, .int .i64 tb, .int .i64 tm] 71)).heap.size := HKV.out.lt
        have HBs := Lib.hid hBs
        clear hst hb hTe hK hown e hBs
        go_wp2_with (at_builtin; refine wpList_append_own _ rfl _ _ 22 rfl (w.heap.size + 3) 71 i0 (.agg #[.int .i64 0, .int .i64 0, .int .i64 0]) 3 24 Try.underlying22 hi0 hz0 hz1 hz2 rfl (by decide) _ _ _ rfl (HOV.out.alloc _) ⟨wr.heap.size + 1, 0, none⟩ 1 1 [.int .i64 ta, .int .i64 tb, .int .i64 p] rfl rfl (by have h9 := lit_row (wr.alloc (Obj.cells #[.int .i64 ta, .int .i64 tb, .int .i64 tm] 71)) [.int .i64 ta, .int .i64 tb, .int .i64 p] 71; rwa [World.size_alloc] at h9) (by simp [Value.oneCell']) (by unfold maxLen; omega) (by omega) (by rw [World.size_alloc]; have := HBs.out; omega) ?_; intro v1 w3 hown1 hgroW _; obtain ⟨g', cap', rfl⟩ := own_succ hown1; obtain ⟨h31, h32, h33, h34⟩ := kept_push HKV.out HOV.out hgroW hown1; have hc1 : w3.cell? ⟨w.heap.size + 2, 1, none⟩ = some (.slice sa P.length sc) := h31.cell 1; have hf1 : w3.frozen? ⟨w.heap.size + 2, 1, none⟩ = false := h31.frozen 1; have HX2 := Lib.hid h32; have HX3 := Lib.hid h33; have HX4 := Lib.hid (HBV.out.trans (by rw [HWS.out]; exact h34)); clear h31 h32 h33 h34 hown1 hgroW)
        go_wp2
        go_roundw
        case rel => exact ⟨i + 1, _, by omega, by go_num, HX2.out, by rw [HST2.out, List.length_append, flatE_snoc]; exact HX3.out, HX4.out⟩
        case measure => simp [intOf]; omega
    · obtain rfl : i = L.length := by omega
      rw [HEND.out] at hK hown
      have e0 := (ownsRow_setCell_below (ownsRow_setCell_below hown (a := ⟨w.heap.size + 1, 0, none⟩) (by have := HR1.out.lt; show w.heap.size + 1 < w.heap.size + 3; omega) (.int .i64 n)) (a := ⟨w.heap.size + 1, 1, none⟩) (by have := HR1.out.lt; show w.heap.size + 1 < w.heap.size + 3; omega) (.slice sa (limL most L).length sc))
      have E3 := Lib.hid (e0.mono (base' := w.heap.size) (by omega))
      obtain ⟨a', c', e1, e2⟩ := RowAt.of_own encE_len3 e0
      clear e0
      have E1 := Lib.hid e1
      have E2 := Lib.hid e2
      have hRr : Blk wr (w.heap.size + 1) 24 #[.int .i64 0, .slice none 0 0] := HR1.out.below hb HR1.out.lt
      have r1 : wr.cell? ⟨w.heap.size + 1, 0, none⟩ = some (.int .i64 0) := hRr.cell 0
      have r3 : wr.frozen? ⟨w.heap.size + 1, 0, none⟩ = false := hRr.frozen 0
      have r2 : (wr.setCell ⟨w.heap.size + 1, 0, none⟩ (.int .i64 n)).cell? ⟨w.heap.size + 1, 1, none⟩ = some (.slice none 0 0) := (hRr.set_ 0 (.int .i64 n)).cell 1
      have r4 : (wr.setCell ⟨w.heap.size + 1, 0, none⟩ (.int .i64 n)).frozen? ⟨w.heap.size + 1, 1, none⟩ = false := (hRr.set_ 0 (.int .i64 n)).frozen 1
      have k2 : wr.cell? ⟨w.heap.size + 2, 0, none⟩ = some (.int .i64 n) := hK.cell 0
      have k3 : wr.cell? ⟨w.heap.size + 2, 1, none⟩ = some (.slice sa (limL most L).length sc) := hK.cell 1
      have hRf := (hRr.set_ 0 (.int .i64 n)).set_ 1 (.slice sa (limL most L).length sc)
      have r5 : ((wr.setCell ⟨w.heap.size + 1, 0, none⟩ (.int .i64 n)).setCell ⟨w.heap.size + 1, 1, none⟩ (.slice sa (limL most L).length sc)).cell? ⟨w.heap.size + 1, 0, none⟩ = some (.int .i64 n) := hRf.cell 0
      have r6 : ((wr.setCell ⟨w.heap.size + 1, 0, none⟩ (.int .i64 n)).setCell ⟨w.heap.size + 1, 1, none⟩ (.slice sa (limL most L).length sc)).cell? ⟨w.heap.size + 1, 1, none⟩ = some (.slice sa (limL most L).length sc) := hRf.cell 1
      have HBF : Hid (Below w.heap.size w ((wr.setCell ⟨w.heap.size + 1, 0, none⟩ (.int .i64 n)).setCell ⟨w.heap.size + 1, 1, none⟩ (.slice sa (limL most L).length sc))) := Lib.hid (((HB1.out.trans (hb.mono HB1.out.size)).setCell (p := ⟨w.heap.size + 1, 0, none⟩) (Nat.le_succ _) _).setCell (p := ⟨w.heap.size + 1, 1, none⟩) (Nat.le_succ _) _)
      clear hb hK hown hRr hRf hst hle hle2 e1 e2
      go_wp2
      refine bodyPost_ret (v := .agg #[.int .i64 n, .slice sa (limL most L).length sc]) (by simp [results, Try.results47, go_sem, r5, r6]) rfl ?_
      injection E1.out with q1 q2 q3
      have hq := E2.out
      rw [← q1] at hq
      exact ⟨sa, sc, rfl, hq, E3.out, HBF.out⟩
end Go.Proofs.Ytjaafneoinidkaa
