/- What a script changes, by the program. -/
import Derived.Test.YtgejkgeojjgclaaFc
namespace Go.Proofs.Ytgejkgeojjgclaa
open Go.RowKit Go.Proofs.Gr Go.Proofs.Cp
attribute [local go_sem] Oper.semAt_some

theorem IsAt.blk {w : World} {p : Addr} {L : List Int} (h : IsAt w (some p) L) (h1 : 1 ≤ L.length) : p.block < w.heap.size := by
  obtain ⟨b, o, e, hlt, _⟩ := h 0 h1
  injection e with e
  subst e
  exact hlt
theorem EsAt.blk {w : World} {p : Addr} {L : List E} (h : EsAt w (some p) L) (h1 : 0 < L.length) : p.block < w.heap.size := by
  obtain ⟨b, o, e, hlt, _⟩ := h 0 h1
  injection e with e
  subst e
  exact hlt
set_option maxHeartbeats 12800000 in
set_option maxRecDepth 100000 in
theorem pchanged_any (N : Nat) (a : Option Addr) (cap : Nat) (L : List E) (hL : L.length ≤ 100000) (hR : Right N L) (b : Option Addr) (c : Nat) (D : List Int) (hD : Div D) (hDN : D.length = N) (sa : Option Addr) (sc : Nat) (S : List Int) (hS : Div S) (hSN : S.length = N) (w : World) (h : EsAt w a L) (ho : IsAt w b D) (hs : IsAt w sa S) :
    Calls Try.prog 50 #[gv N a L.length cap, .slice b N c, .slice sa N sc] w (GivesIE w (chV D S L) (chK D S L)) := by
  have hN1 := hD.one
  have hN2 := hD.le
  have hsr := hS.rng
  have hdb : ∀ v, -1048576 ≤ iAt D v ∧ iAt D v ≤ 1048576 := fun v => by
    by_cases hv : v < D.length
    · exact div_at hD v hv
    · unfold iAt; rw [List.getD_eq_getElem?_getD, List.getElem?_eq_none (by omega)]; decide
  obtain ⟨W, hW⟩ : ∃ W, W = w.alloc (Obj.cells #[.int .i64 (N : Int), .slice a L.length cap] 24) := ⟨_, rfl⟩
  obtain ⟨W2, hW2⟩ : ∃ V, V = W.alloc (Obj.cells #[.slice sa N sc] 26) := ⟨_, rfl⟩
  have hB0 : Below w.heap.size w W := by rw [hW]; exact (Below.refl _ w).alloc (Nat.le_refl _) _
  have hB1 : Below W.heap.size W W2 := by rw [hW2]; exact (Below.refl _ W).alloc (Nat.le_refl _) _
  have hB2 : Below w.heap.size w W2 := hB0.trans (hB1.mono hB0.size)
  have hWs : W.heap.size = w.heap.size + 1 := by rw [hW]; simp
  have hW2s : W2.heap.size = w.heap.size + 2 := by rw [hW2, World.size_alloc, hWs]
  have hG0 : Blk W w.heap.size 24 #[.int .i64 (N : Int), .slice a L.length cap] := by rw [hW]; exact Blk.new _ _ _
  have hG : Blk W2 w.heap.size 24 #[.int .i64 (N : Int), .slice a L.length cap] := by rw [hW2]; exact hG0.alloc _
  have hGs : Blk W2 (w.heap.size + 1) 26 #[.slice sa N sc] := by rw [hW2, ← hWs]; exact Blk.new _ _ _
  have HW := Lib.hid hW
  have HW2 := Lib.hid hW2
  have HW2S := Lib.hid hW2s
  have HB2 := Lib.hid hB2
  have HG := Lib.hid hG
  have HGS := Lib.hid hGs
  have HE := Lib.hid (h.keep hB2)
  have HO := Lib.hid (ho.keep hB2)
  have HS := Lib.hid (hs.keep hB2)
  have HCL : Hid (∀ u, IsAt u b D → Calls Try.prog 67 #[.slice b N c] u (fun e w' => ∃ g cap, e = .returned (.slice (some ⟨g, 0, none⟩) N cap) ∧ u.heap.size ≤ g ∧ PB w' g D ∧ Below u.heap.size u w')) := Lib.hid fun u hu => by
    have := clone_any b c D hN1 (by omega) u hu
    rwa [hDN] at this
  have HNE3 : Hid (∀ p, sa = some p → p.block < w.heap.size) := Lib.hid fun p hp => by subst hp; exact IsAt.blk hs hS.one
  have HNE4 : Hid (∀ p, a = some p → 0 < L.length → p.block < w.heap.size) := Lib.hid fun p hp hl => by subst hp; exact EsAt.blk h hl
  have HCA := Lib.hid (chL_all (n := N) D S L (by omega) hR.rng)
  have HCN : Hid ((chD D S L).length = N) := Lib.hid (by rw [chD_len, hDN])
  have HCK : Hid (∀ g cap u, IsAt u (some ⟨g, 0, none⟩) (chD D S L) → Calls Try.prog 80 #[.slice (some ⟨g, 0, none⟩) N cap, .int .i64 (N : Int)] u (fun e w' => e = .returned (.int .i64 ((if (chD D S L).any big = true then 2 else 0 : Nat) : Int)) ∧ Below u.heap.size u w')) := Lib.hid fun g cap u hu => by
    have := pCheck_any (some ⟨g, 0, none⟩) cap (chD D S L) (by rw [chD_len]; omega) N u hu
    rw [show chkD (chD D S L) N = if (chD D S L).any big = true then 2 else 0 by unfold chkD; rw [if_neg (by omega), if_neg (by rw [chD_len]; omega)], chD_len, hDN] at this
    exact this
  have HKE : Hid (chK D S L = if (chD D S L).any big = true then 11 else 0) := Lib.hid rfl
  have HVE : Hid (chV D S L = if (chD D S L).any big = true then [] else chD D S L) := Lib.hid rfl
  have HAL := Lib.hid (fun pb ps g cp u q1 q2 q3 q4 q5 q6 q7 q8 q9 q10 q11 => palongC N a cap L hL hR pb ps g cp sc sa S D hDN hSN (fS_sb hsr) hdb u q1 q2 q3 q4 q5 q6 q7 q8 q9 q10 q11)
  unfold GivesIE gv at *
  generalize chK D S L = K at *
  generalize chV D S L = X at *
  generalize chL (fS S) D L L.length = ZL at *
  generalize chD D S L = Z at *
  clear h ho hs hW hW2 hB0 hB1 hB2 hWs hW2s hG0 hG hGs hN1 hN2 hsr hdb hD hDN hS hSN hR
  go_enter Try.func50, Try.ntmps50
  go_wp2_with fail
  rw [← HW.out, ← HW2.out]
  refine (HCL.out W2 HO.out).mono ?_
  rintro e w1 ⟨g, cp, rfl, hg, hpb, hb⟩
  obtain ⟨V, hV⟩ : ∃ V, V = w1.alloc (Obj.cells #[.slice (some ⟨g, 0, none⟩) N cp] 28) := ⟨_, rfl⟩
  have hbV : Below w1.heap.size w1 V := by rw [hV]; exact (Below.refl _ _).alloc (Nat.le_refl _) _
  have hblV : Blk V w1.heap.size 28 #[.slice (some ⟨g, 0, none⟩) N cp] := by rw [hV]; exact Blk.new _ _ _
  have hVs : V.heap.size = w1.heap.size + 1 := by rw [hV]; simp
  have hbV2 := hb.trans (hbV.mono hb.size)
  have hglt := hpb.lt
  have hgG := HG.out.below hbV2 HG.out.lt
  have hgS := HGS.out.below hbV2 HGS.out.lt
  have HGE : Hid (W2.heap.size ≤ g) := Lib.hid hg
  have HBV2 := Lib.hid hbV2
  have hw2 := HW2S.out
  have hAL := HAL.out w1.heap.size (w.heap.size + 1) g cp V (HE.out.keep hbV2) (hblV.cell 0) (hgS.cell 0) (hpb.keep hbV) (HS.out.keep hbV2) hblV.lt hgS.lt (by omega) (by omega) (fun p hp e => by injection e with e; have := HNE3.out p hp; omega) (fun p hp hl e => by injection e with e; have := HNE4.out p hp hl; omega)
  have HALH := Lib.hid hAL
  have HV := Lib.hid hV
  have HBLV := Lib.hid hblV
  have HGG := Lib.hid hgG
  have HGL : Hid (g < w1.heap.size) := Lib.hid hglt
  have g0 : (w1.alloc (Obj.cells #[.slice (some ⟨g, 0, none⟩) N cp] 28)).cell? ⟨w.heap.size, 0, none⟩ = some (.int .i64 (N : Int)) := by rw [← hV]; exact hgG.cell 0
  have g1 : (w1.alloc (Obj.cells #[.slice (some ⟨g, 0, none⟩) N cp] 28)).cell? ⟨w.heap.size, 1, none⟩ = some (.slice a L.length cap) := by rw [← hV]; exact hgG.cell 1
  clear hg hpb hb hbV hblV hVs hbV2 hglt hgG hgS hw2 hAL hV
  go_wp2_with fail
  rw [← HV.out]
  refine HALH.out.mono ?_
  rintro e w3 ⟨rfl, hp3, hg3⟩
  have HG3 := Lib.hid hg3
  have hbl3 := HBLV.out.grown hg3 (fun e => by injection e with e; have := HGL.out; omega)
  have hgg3 := HGG.out.grown hg3 (fun e => by injection e with e; have := HGE.out; have := HW2S.out; omega)
  rw [HCA.out] at hp3
  have HP3 := Lib.hid hp3
  have HBL3 := Lib.hid hbl3
  have HBW3 : Hid (Below w.heap.size w w3) := Lib.hid ((HB2.out.trans (HBV2.out.mono HB2.out.size)).grown hg3 (HB2.out.trans (HBV2.out.mono HB2.out.size)).size (fun k hk => by injection hk with hk; have := HGE.out; have := HW2S.out; omega))
  clear g0 g1
  have g0 := hgg3.cell 0
  have g2 := hbl3.cell 0
  simp only [List.getElem?_toArray, List.getElem?_cons_zero] at g0 g2
  clear hg3 hbl3 hgg3 hp3
  go_wp2_with fail
  refine (HCK.out g cp w3 HP3.out.row).mono ?_
  rintro e w4 ⟨rfl, hb4⟩
  have HB4 := Lib.hid (HBW3.out.trans (hb4.mono HBW3.out.size))
  have hbl4 := HBL3.out.below hb4 HBL3.out.lt
  have HP4 := Lib.hid (HP3.out.row.keep hb4)
  clear g0 g2
  have g2 := hbl4.cell 0
  simp only [List.getElem?_toArray, List.getElem?_cons_zero] at g2
  clear hb4 hbl4
  by_cases hz : Z.any big = true
  · rw [if_pos hz]
    have HR : Hid (K = 11 ∧ X = []) := Lib.hid ⟨by rw [HKE.out, if_pos hz], by rw [HVE.out, if_pos hz]⟩
    clear hz
    go_wp2
    go_ret2
    exact ⟨none, 0, by rw [HR.out.1, HR.out.2]; rfl, by rw [HR.out.2]; exact RowAt.nil _ _ _ _, HB4.out⟩
  · rw [if_neg hz]
    have HR : Hid (K = 0 ∧ X = Z) := Lib.hid ⟨by rw [HKE.out, if_neg hz], by rw [HVE.out, if_neg hz]⟩
    clear hz
    go_wp2
    go_ret2
    exact ⟨some ⟨g, 0, none⟩, cp, by rw [HR.out.1, HR.out.2, HCN.out]; rfl, by rw [HR.out.2]; exact HP4.out, HB4.out⟩
end Go.Proofs.Ytgejkgeojjgclaa
