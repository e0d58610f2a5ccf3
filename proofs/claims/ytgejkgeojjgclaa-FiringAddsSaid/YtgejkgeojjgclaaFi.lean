/- Legal of the program. -/
import Derived.Test.YtgejkgeojjgclaaFh
namespace Go.Proofs.Ytgejkgeojjgclaa
open Go.RowKit Go.Proofs.Gr Go.Proofs.Cp
attribute [local go_sem] Oper.semAt_some

/-- Some vertex of a list is in debt. -/
def negB (Q A : List Int) : Bool := A.any fun v => decide (iAt Q v.toNat < 0)
def legB (L : List E) (D A : List Int) : Bool := (lgL A D L L.length).2 && !negB (lgL A D L L.length).1 A
set_option maxHeartbeats 12800000 in
set_option maxRecDepth 100000 in
theorem plg2_any (N v : Nat) (hv : v < N) (lb g cap : Nat) (Q : List Int) (hQ : Q.length = N) (w : World) (h1 : Blk w lb 28 #[.slice (some ⟨g, 0, none⟩) N cap]) (h2 : PB w g Q) :
    Calls Try.prog 88 #[.int .i64 (v : Int), .pointer (some ⟨lb, 0, none⟩)] w (fun e w' => e = .returned (.bool (decide (iAt Q v < 0))) ∧ w = w') := by
  have y1 := h1.cell 0
  simp only [List.getElem?_toArray, List.getElem?_cons_zero] at y1
  have y2 := h2.cell v (by omega)
  have i1 : (v : Int) < (N : Int) := by omega
  have i2 : (0 : Int) ≤ (v : Int) := by omega
  generalize iAt Q v = z at *
  clear h1 h2
  go_enter Try.func88, Try.ntmps88
  go_wp2
  go_ret
  exact ⟨rfl, rfl⟩
set_option maxHeartbeats 12800000 in
set_option maxRecDepth 100000 in
theorem idxNeg_any (N : Nat) (lb g cap : Nat) (Q : List Int) (hQ : Q.length = N) (a : Option Addr) (c : Nat) (A : List Int) (hA : A.length ≤ 100000) (hr : ∀ i, i < A.length → 0 ≤ iAt A i ∧ iAt A i < N) (w : World) (h : IsAt w a A) (h1 : Blk w lb 28 #[.slice (some ⟨g, 0, none⟩) N cap]) (h2 : PB w g Q) :
    Calls Try.prog 97 #[.slice a A.length c, (.func (.func 88) #[] #[.pointer (some ⟨lb, 0, none⟩)])] w (fun e w' => (∃ r : Int, e = .returned (.int .i64 r) ∧ negB Q A = decide (0 ≤ r)) ∧ Below w.heap.size w w') := by
  have HE := Lib.hid h
  have HRG := Lib.hid hr
  have HL : Hid (∀ v u, v < N → Below w.heap.size w u → Calls Try.prog 88 #[.int .i64 ((v : Nat) : Int), .pointer (some ⟨lb, 0, none⟩)] u (fun e w' => e = .returned (.bool (decide (iAt Q v < 0))) ∧ u = w')) := Lib.hid fun v u hv hu => plg2_any N v hv lb g cap Q hQ u (h1.below hu h1.lt) (h2.keep hu)
  have HT : Hid (∀ i, i < A.length → iAt Q (iAt A i).toNat < 0 → negB Q A = true) := Lib.hid fun i hi hb => by
    unfold negB; rw [List.any_eq_true]; exact ⟨_, List.getElem_mem hi, by rw [iAt_get A i hi]; exact decide_eq_true hb⟩
  have HF : Hid ((∀ j, j < A.length → 0 ≤ iAt Q (iAt A j).toNat) → negB Q A = false) := Lib.hid fun hz => by
    unfold negB
    rw [List.any_eq_false]
    intro z hz'
    obtain ⟨j, hj, rfl⟩ := List.getElem_of_mem hz'
    rw [iAt_get A j hj, decide_eq_false (by have := hz j hj; omega)]; simp
  generalize negB Q A = R at *
  clear h h1 h2 hr hQ
  go_enter Try.func97, Try.ntmps97
  go_wp2
  go_loopw [8] (fun x wr => ∃ i : Nat, i ≤ A.length ∧ x = .int .i64 i ∧ (∀ j, j < i → 0 ≤ iAt Q (iAt A j).toNat) ∧ Below w.heap.size w wr) (fun x _ => A.length - (intOf x).toNat)
  case atStart => exact ⟨0, by omega, rfl, fun j hj => by omega, Below.refl _ _⟩
  case round =>
    obtain ⟨i, hi, rfl, hz, hb⟩ := hrel
    have HZ := Lib.hid hz
    have HB := Lib.hid hb
    by_cases hlt : i < A.length
    · have i1 : (i : Int) < (A.length : Int) := by omega
      have i2 : (0 : Int) ≤ (i : Int) := by omega
      obtain ⟨b1, o1, hb1, q1, x1⟩ := (HE.out.keep hb).one i hlt
      subst hb1
      have HTI := Lib.hid (HT.out i hlt)
      have HZN : Hid (0 ≤ iAt Q (iAt A i).toNat → ∀ j, j < i + 1 → 0 ≤ iAt Q (iAt A j).toNat) := Lib.hid fun h0 j hj => by
        by_cases e : j = i
        · subst e; exact h0
        · exact HZ.out j (by omega)
      have hrg := HRG.out i hlt
      obtain ⟨v, hv⟩ : ∃ v : Nat, iAt A i = v := ⟨(iAt A i).toNat, by omega⟩
      rw [hv] at x1 hrg HTI HZN
      rw [Int.toNat_natCast] at HTI HZN
      have HVN : Hid (v < N) := Lib.hid (by omega)
      have HLT := Lib.hid hlt
      clear hz hb hv hrg hlt
      go_wp2_with fail
      refine (HL.out v wr HVN.out HB.out).mono ?_
      rintro e w1 ⟨rfl, rfl⟩
      by_cases h0 : iAt Q v < 0
      · have d1 : decide (iAt Q v < 0) = true := decide_eq_true h0
        have HR := Lib.hid (HTI.out h0)
        rw [d1]
        clear h0 d1
        go_wp2
        go_ret
        exact ⟨⟨(i : Int), rfl, by rw [HR.out, decide_eq_true (by omega)]⟩, HB.out⟩
      · have d1 : decide (iAt Q v < 0) = false := decide_eq_false h0
        have HR := Lib.hid (HZN.out (by omega))
        rw [d1]
        clear h0 d1
        go_wp2
        go_roundw
        case rel => exact ⟨i + 1, by have := HLT.out; omega, by go_num, HR.out, HB.out⟩
        case measure => have := HLT.out; simp [intOf]; omega
    · obtain rfl : i = A.length := by omega
      have i1 : ¬ (A.length : Int) < (A.length : Int) := by omega
      have HR := Lib.hid (HF.out hz)
      clear hz hb
      go_wp2
      go_ret
      exact ⟨⟨-1, rfl, by rw [HR.out]; rfl⟩, HB.out⟩
set_option maxHeartbeats 12800000 in
set_option maxRecDepth 100000 in
theorem contNeg_any (N : Nat) (lb g cap : Nat) (Q : List Int) (hQ : Q.length = N) (a : Option Addr) (c : Nat) (A : List Int) (hA : A.length ≤ 100000) (hr : ∀ i, i < A.length → 0 ≤ iAt A i ∧ iAt A i < N) (w : World) (h : IsAt w a A) (h1 : Blk w lb 28 #[.slice (some ⟨g, 0, none⟩) N cap]) (h2 : PB w g Q) :
    Calls Try.prog 87 #[.slice a A.length c, (.func (.func 88) #[] #[.pointer (some ⟨lb, 0, none⟩)])] w (fun e w' => e = .returned (.bool (negB Q A)) ∧ Below w.heap.size w w') := by
  have HI := Lib.hid (idxNeg_any N lb g cap Q hQ a c A hA hr w h h1 h2)
  generalize negB Q A = R at *
  clear h h1 h2 hr
  go_enter Try.func87, Try.ntmps87
  go_wp2_with fail
  refine HI.out.mono ?_
  rintro e w1 ⟨⟨r, rfl, hr⟩, hb⟩
  have HR := Lib.hid hr
  have HB := Lib.hid hb
  clear hr hb
  by_cases h0 : 0 ≤ r
  · have d1 : decide (0 ≤ r) = true := decide_eq_true h0
    go_wp2
    go_ret
    exact ⟨by rw [HR.out, d1]; rfl, HB.out⟩
  · have d1 : decide (0 ≤ r) = false := decide_eq_false h0
    go_wp2
    go_ret
    exact ⟨by rw [HR.out, d1]; rfl, HB.out⟩
set_option maxHeartbeats 12800000 in
set_option maxRecDepth 100000 in
theorem pisLegal_any (N : Nat) (a : Option Addr) (cap : Nat) (L : List E) (hL : L.length ≤ 100000) (hR : Right N L) (b : Option Addr) (c : Nat) (D : List Int) (hD : Div D) (hDN : D.length = N) (sa : Option Addr) (sc : Nat) (A : List Int) (hA : A.length ≤ 100000) (hr : ∀ i, i < A.length → 0 ≤ iAt A i ∧ iAt A i < N) (w : World) (h : EsAt w a L) (ho : IsAt w b D) (hs : IsAt w sa A) :
    Calls Try.prog 64 #[gv N a L.length cap, .slice b N c, .slice sa A.length sc] w (fun e w' => e = .returned (.bool (legB L D A)) ∧ Below w.heap.size w w') := by
  have hN1 := hD.one
  have hN2 := hD.le
  have hdb : ∀ v, -1048576 ≤ iAt D v ∧ iAt D v ≤ 1048576 := fun v => by
    by_cases hv : v < D.length
    · exact div_at hD v hv
    · unfold iAt; rw [List.getD_eq_getElem?_getD, List.getElem?_eq_none (by omega)]; decide
  obtain ⟨W, hW⟩ : ∃ W, W = w.alloc (Obj.cells #[.int .i64 (N : Int), .slice a L.length cap] 24) := ⟨_, rfl⟩
  obtain ⟨W2, hW2⟩ : ∃ V, V = W.alloc (Obj.cells #[.bool false, .bool false, .bool false, .bool false, .bool false, .bool false, .bool false, .bool false, .bool false, .bool false, .bool false, .bool false] 110) := ⟨_, rfl⟩
  have hB0 : Below w.heap.size w W := by rw [hW]; exact (Below.refl _ w).alloc (Nat.le_refl _) _
  have hB1 : Below W.heap.size W W2 := by rw [hW2]; exact (Below.refl _ W).alloc (Nat.le_refl _) _
  have hB2 : Below w.heap.size w W2 := hB0.trans (hB1.mono hB0.size)
  have hWs : W.heap.size = w.heap.size + 1 := by rw [hW]; simp
  have hG0 : Blk W w.heap.size 24 #[.int .i64 (N : Int), .slice a L.length cap] := by rw [hW]; exact Blk.new _ _ _
  have hG : Blk W2 w.heap.size 24 #[.int .i64 (N : Int), .slice a L.length cap] := by rw [hW2]; exact hG0.alloc _
  have hT : Blk W2 (w.heap.size + 1) 110 (inA []) := by rw [inA_nil, show (Array.replicate 12 (.bool false) : Array Value) = #[.bool false, .bool false, .bool false, .bool false, .bool false, .bool false, .bool false, .bool false, .bool false, .bool false, .bool false, .bool false] from by kernel_rfl, hW2, ← hWs]; exact Blk.new _ _ _
  have HWS := Lib.hid hWs
  have HW := Lib.hid hW
  have HW2 := Lib.hid hW2
  have HB2 := Lib.hid hB2
  have HB1 := Lib.hid hB1
  have HG := Lib.hid hG0
  have HT := Lib.hid hT
  have HE := Lib.hid (h.keep hB0)
  have HO := Lib.hid (ho.keep hB0)
  have HS := Lib.hid (hs.keep hB0)
  have HS0 := Lib.hid hs
  have HB0 := Lib.hid hB0
  have HRG := Lib.hid hr
  have HTK : Hid (∀ i, i < A.length → A.take (i + 1) = A.take i ++ [iAt A i]) := Lib.hid fun i hi => by rw [List.take_succ_eq_append_getElem hi, iAt_get A i hi]
  have HCL : Hid (∀ u, IsAt u b D → Calls Try.prog 67 #[.slice b N c] u (fun e w' => ∃ g cap, e = .returned (.slice (some ⟨g, 0, none⟩) N cap) ∧ u.heap.size ≤ g ∧ PB w' g D ∧ Below u.heap.size u w')) := Lib.hid fun u hu => by
    have := clone_any b c D hN1 (by omega) u hu
    rwa [hDN] at this
  have HNE4 : Hid (∀ p, a = some p → 0 < L.length → p.block < w.heap.size) := Lib.hid fun p hp hl => by subst hp; exact EsAt.blk h hl
  have HAL := Lib.hid (fun ib lb vb g cp u q1 q2 q3 q4 q5 q6 q7 q8 q9 => palongG N a cap L hL hR ib lb vb g cp A D hDN hdb u q1 q2 q3 q4 q5 q6 q7 q8 q9)
  have HCN := Lib.hid (fun lb g cp Q hQ u q1 q2 q3 => contNeg_any N lb g cp Q hQ sa sc A hA hr u q1 q2 q3)
  have HQN : Hid ((lgL A D L L.length).1.length = N) := Lib.hid (by rw [lgL_len, hDN])
  have HLE : Hid (legB L D A = ((lgL A D L L.length).2 && !negB (lgL A D L L.length).1 A)) := Lib.hid rfl
  unfold gv at *
  generalize legB L D A = RL at *
  generalize lgL A D L L.length = Z at *
  have hN12 : N ≤ 12 := by omega
  clear h ho hs hW hW2 hB0 hB1 hB2 hWs hG0 hG hT hN1 hN2 hdb hD hDN hR hr
  go_enter Try.func64, Try.ntmps64
  go_wp2
  rw [← HW.out, ← HW2.out]
  go_loopw [14] (fun x wr => ∃ i : Nat, i ≤ A.length ∧ x = .int .i64 i ∧ Blk wr (w.heap.size + 1) 110 (inA (A.take i)) ∧ Below W.heap.size W wr) (fun x _ => A.length - (intOf x).toNat)
  case atStart => exact ⟨0, by omega, rfl, HT.out, HB1.out⟩
  case round =>
    obtain ⟨i, hi, rfl, hT, hb⟩ := hrel
    have HBR := Lib.hid hb
    have HTI := Lib.hid hT
    by_cases hlt : i < A.length
    · have i1 : (i : Int) < (A.length : Int) := by omega
      have i2 : (0 : Int) ≤ (i : Int) := by omega
      have HLT := Lib.hid hlt
      obtain ⟨b1, o1, hb1, q1, x1⟩ := (HS.out.keep hb).one i hlt
      subst hb1
      have hrg := HRG.out i hlt
      have HTN := Lib.hid (HTK.out i hlt)
      obtain ⟨v, hv⟩ : ∃ v : Nat, iAt A i = v := ⟨(iAt A i).toNat, by omega⟩
      rw [hv] at x1 hrg HTN
      have j1 : (v : Int) < 12 := by omega
      have j2 : (0 : Int) ≤ (v : Int) := by omega
      have y1 : wr.cell? ⟨w.heap.size + 1, v, none⟩ = some (.bool ((A.take i).contains (v : Int))) := (hT.cell v).trans (inA_at _ v (by omega))
      have y2 := hT.frozen v
      have HN : Hid (Blk (wr.setCell ⟨w.heap.size + 1, v, none⟩ (.bool true)) (w.heap.size + 1) 110 (inA (A.take (i + 1)))) := Lib.hid (by rw [HTN.out, ← inA_set]; exact hT.set_ v _)
      have HBN : Hid (Below W.heap.size W (wr.setCell ⟨w.heap.size + 1, v, none⟩ (.bool true))) := Lib.hid (hb.setCell (p := ⟨w.heap.size + 1, v, none⟩) (by rw [HWS.out]; exact Nat.le_refl _) _)
      generalize (A.take i).contains (v : Int) = old at y1
      clear hT hb hv hrg hlt
      go_wp2
      go_roundw
      case rel => exact ⟨i + 1, by have := HLT.out; omega, by go_num, HN.out, HBN.out⟩
      case measure => have := HLT.out; simp [intOf]; omega
    · obtain rfl : i = A.length := by omega
      have i1 : ¬ (A.length : Int) < (A.length : Int) := by omega
      rw [List.take_length] at hT
      have HTA := Lib.hid hT
      clear hT hb HTI
      go_wp2_with fail
      refine (HCL.out wr (HO.out.keep HBR.out)).mono ?_
      rintro e w1 ⟨g, cp, rfl, hg, hpb, hb⟩
      obtain ⟨V1, hV1⟩ : ∃ V, V = w1.alloc (Obj.cells #[.slice (some ⟨g, 0, none⟩) N cp] 28) := ⟨_, rfl⟩
      obtain ⟨V, hV⟩ : ∃ V, V = V1.alloc (Obj.cells #[.bool false] 4) := ⟨_, rfl⟩
      have hbV1 : Below w1.heap.size w1 V1 := by rw [hV1]; exact (Below.refl _ _).alloc (Nat.le_refl _) _
      have hbV : Below w1.heap.size w1 V := by rw [hV]; exact hbV1.alloc hbV1.size _
      have hV1s : V1.heap.size = w1.heap.size + 1 := by rw [hV1]; simp
      have hl0 : Blk V1 w1.heap.size 28 #[.slice (some ⟨g, 0, none⟩) N cp] := by rw [hV1]; exact Blk.new _ _ _
      have hl1 : Blk V w1.heap.size 28 #[.slice (some ⟨g, 0, none⟩) N cp] := by rw [hV]; exact hl0.alloc _
      have hv1 : Blk V (w1.heap.size + 1) 4 #[.bool false] := by rw [hV, ← hV1s]; exact Blk.new _ _ _
      have hbT := hb.trans (hbV.mono hb.size)
      have hbW := HBR.out.trans (hbT.mono HBR.out.size)
      have HGL : Hid (g < w1.heap.size) := Lib.hid hpb.lt
      have hsz := HBR.out.size
      have hws := HWS.out
      have htlt := HTA.out.lt
      have hgG := HG.out.below hbW HG.out.lt
      have htT := HTA.out.below hbT htlt
      have hglt := hpb.lt
      have hwr1 := hb.size
      have hAL := HAL.out (w.heap.size + 1) w1.heap.size (w1.heap.size + 1) g cp V (HE.out.keep hbW) htT hl1 (hpb.keep hbV) hv1 (by omega) ⟨by omega, by omega⟩ ⟨by omega, by omega⟩ (fun p hp hl => by have := HNE4.out p hp hl; exact ⟨by omega, by omega⟩)
      have HALH := Lib.hid hAL
      have HV := Lib.hid hV
      have HV1 := Lib.hid hV1
      have HL1 := Lib.hid hl1
      have HVB := Lib.hid hv1
      have HGG : Hid (w.heap.size ≤ g ∧ w.heap.size ≤ w1.heap.size + 1) := Lib.hid ⟨by omega, by omega⟩
      have HBW := Lib.hid (HB0.out.trans (hbW.mono HB0.out.size))
      have HSV := Lib.hid (HS.out.keep hbW)
      have HSNE : Hid (w1.heap.size ≠ g ∧ w1.heap.size ≠ w1.heap.size + 1) := Lib.hid ⟨by omega, by omega⟩
      have hcg0 := hgG.cell 0
      have hcg1 := hgG.cell 1
      simp only [List.getElem?_toArray, List.getElem?_cons_zero, List.getElem?_cons_succ] at hcg0 hcg1
      rw [hV, hV1] at hcg0 hcg1
      clear hg hpb hb hbV1 hbV hV1s hl0 hl1 hv1 hbT hbW hsz hws htlt hgG htT hglt hwr1 hAL hV hV1
      go_wp2_with fail
      rw [← HV1.out, ← HV.out]
      refine HALH.out.mono ?_
      rintro e w3 ⟨rfl, hp3, hv3, hk3⟩
      have HP3 := Lib.hid hp3
      have HL3 := Lib.hid (hk3.blk HL1.out HSNE.out.1 HSNE.out.2)
      have HB3 := Lib.hid (hk3.below HBW.out HGG.out.1 HGG.out.2)
      have hv3c := hv3.cell 0
      simp only [List.getElem?_toArray, List.getElem?_cons_zero] at hv3c
      have HS3 := Lib.hid (HS0.out.keep HB3.out)
      have HQN3 := Lib.hid HQN.out
      have HLE3 := Lib.hid HLE.out
      obtain ⟨Q, z⟩ := Z
      simp only at hv3c hp3 HP3 HQN3 HLE3
      clear hp3 hv3 hk3 hcg0 hcg1
      cases z with
      | false =>
        have HR : Hid (RL = false) := Lib.hid (by rw [HLE3.out]; rfl)
        go_wp2
        go_ret
        exact ⟨by rw [HR.out]; rfl, HB3.out⟩
      | true =>
        have HR : Hid (RL = !negB Q A) := Lib.hid (by rw [HLE3.out]; rfl)
        go_wp2_with fail
        refine (HCN.out w1.heap.size g cp Q HQN3.out w3 HS3.out HL3.out HP3.out).mono ?_
        rintro e w4 ⟨rfl, hb4⟩
        have HB4 := Lib.hid (HB3.out.trans (hb4.mono HB3.out.size))
        clear hb4
        generalize negB Q A = nb at *
        go_wp2
        go_ret
        exact ⟨by rw [HR.out]; rfl, HB4.out⟩
end Go.Proofs.Ytgejkgeojjgclaa
