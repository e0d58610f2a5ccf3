/- Play of the program. -/
import Derived.Test.YtgejkgeojjgclaaFk
namespace Go.Proofs.Ytgejkgeojjgclaa
open Go.RowKit Go.Proofs.Gr Go.Proofs.Cp
attribute [local go_sem] Oper.semAt_some

theorem div_chk {D : List Int} (h : Div D) : chkD D D.length = 0 := by
  unfold chkD
  have h1 := h.one
  have h2 := h.le
  rw [if_neg (by omega), if_neg (by omega), if_neg]
  intro h3
  obtain ⟨z, hz, hb⟩ := List.any_eq_true.1 h3
  have := big_false.2 (h.rng z hz)
  rw [this] at hb; exact absurd hb (by decide)
theorem setK_one {N : Nat} {L : List E} {Q : List Int} {v : Int} (hR : Right N L) (hd : Div Q) (hl : Q.length = N) (hv : 0 ≤ v ∧ v < N) : setK N L Q [v] = 0 := by
  have h1 : chkGD N L Q = 0 := by unfold chkGD; rw [right_chk hR, if_neg (by omega), ← hl]; exact div_chk hd
  have h2 : chkS N L [v] = 0 := by
    unfold chkS; rw [right_chk hR, if_neg (by omega)]
    refine firstE_zero fun j hj => ?_
    obtain rfl : j = 0 := by simp at hj; omega
    have h3 : isV N (iAt [v] 0) = true := by
      unfold isV; rw [Bool.and_eq_true, decide_eq_true_iff, decide_eq_true_iff]; exact hv
    unfold sErr; rw [if_neg (by rw [h3]; decide), if_neg (by omega)]
  unfold setK; rw [h1, if_neg (by omega)]; exact h2
theorem chV_ok {Q S : List Int} {L : List E} (hd : Div Q) (hk : chK Q S L = 0) : Div (chV Q S L) ∧ (chV Q S L).length = Q.length := by
  unfold chK at hk
  by_cases h1 : (chD Q S L).any big = true
  · rw [if_pos h1] at hk; omega
  · unfold chV; rw [if_neg h1]
    have h2 : (chD Q S L).any big = false := by cases hb : (chD Q S L).any big with | false => rfl | true => exact absurd hb h1
    refine ⟨⟨by rw [chD_len]; exact hd.one, by rw [chD_len]; exact hd.le, any_false h2⟩, chD_len _ _ _⟩
/-- The moves of a list, from the one with a number on. -/
def plyR (n : Int) (L : List E) : List Int → Nat → List Int → List Int × Nat × Nat
  | [], i, Q => (Q, i, 0)
  | v :: A, i, Q => if legB L Q [v] = false then ([], i, 18) else if chK Q (setS n 1 [v]) L ≠ 0 then ([], i, chK Q (setS n 1 [v]) L) else plyR n L A (i + 1) (chV Q (setS n 1 [v]) L)
def plaR (n : Int) (L : List E) (D A : List Int) : List Int × Nat × Nat := if chkGD n L D ≠ 0 then ([], 0, chkGD n L D) else if movK n A ≠ 0 then ([], 0, movK n A) else plyR n L A 0 D
theorem drop_at {A : List Int} {i : Nat} (h : i < A.length) : A.drop i = iAt A i :: A.drop (i + 1) := by
  rw [List.drop_eq_getElem_cons h, iAt_get A i h]
def PlyOK (n : Int) (L : List E) (N : Nat) (A : List Int) (R : List Int × Nat × Nat) (i : Nat) (Q : List Int) : Prop := Div Q ∧ Q.length = N ∧ plyR n L (A.drop i) i Q = R
theorem PlyOK.step {n : Int} {L : List E} {N : Nat} {A : List Int} {R : List Int × Nat × Nat} {i : Nat} {Q : List Int} (h : PlyOK n L N A R i Q) (hi : i < A.length) :
    (legB L Q [iAt A i] = false → R = ([], i, 18)) ∧ (legB L Q [iAt A i] = true → chK Q (setS n 1 [iAt A i]) L ≠ 0 → R = ([], i, chK Q (setS n 1 [iAt A i]) L)) ∧ (legB L Q [iAt A i] = true → chK Q (setS n 1 [iAt A i]) L = 0 → PlyOK n L N A R (i + 1) (chV Q (setS n 1 [iAt A i]) L)) := by
  obtain ⟨h1, h2, h3⟩ := h
  rw [drop_at hi, plyR] at h3
  refine ⟨fun e => ?_, fun e k => ?_, fun e k => ⟨(chV_ok h1 k).1, (chV_ok h1 k).2.trans h2, ?_⟩⟩
  · rw [if_pos e] at h3; exact h3.symm
  · rw [if_neg (by rw [e]; decide), if_pos k] at h3; exact h3.symm
  · rw [if_neg (by rw [e]; decide), if_neg (by omega)] at h3; exact h3
theorem PlyOK.last {n : Int} {L : List E} {N : Nat} {A : List Int} {R : List Int × Nat × Nat} {Q : List Int} (h : PlyOK n L N A R A.length Q) : R = (Q, A.length, 0) ∧ Q.length = N := by
  obtain ⟨h1, h2, h3⟩ := h
  rw [List.drop_length, plyR] at h3
  exact ⟨h3.symm, h2⟩
set_option maxHeartbeats 12800000 in
set_option maxRecDepth 100000 in
theorem pPlay_any (n : Int) (a : Option Addr) (cap : Nat) (L : List E) (hL : L.length ≤ 100000) (b : Option Addr) (c : Nat) (D : List Int) (hD : D.length ≤ 1000) (sa : Option Addr) (sc : Nat) (A : List Int) (hA : A.length ≤ 100000) (w : World) (h : EsAt w a L) (ho : IsAt w b D) (hs : IsAt w sa A) :
    Calls Try.prog 33 #[gv n a L.length cap, .slice b D.length c, .slice sa A.length sc] w (fun e w' => ∃ p q, e = .returned (.tuple #[.slice p (plaR n L D A).1.length q, .int .i64 ((plaR n L D A).2.1 : Nat), .int .i64 ((plaR n L D A).2.2 : Nat)]) ∧ IsAt w' p (plaR n L D A).1 ∧ Below w.heap.size w w') := by
  have HC := Lib.hid (fun w h ho => pckD_any n a cap L hL b c D hD w h ho)
  have HCM := Lib.hid (fun w h => pckMoves_any n a L.length cap sa sc A hA w h)
  have HCL : Hid (chkGD n L D = 0 → ∀ u, IsAt u b D → Calls Try.prog 67 #[.slice b D.length c] u (fun e w' => ∃ g cap, e = .returned (.slice (some ⟨g, 0, none⟩) D.length cap) ∧ u.heap.size ≤ g ∧ PB w' g D ∧ Below u.heap.size u w')) := Lib.hid fun hz u hu => clone_any b c D (chkGD_zero hz).2.1.one hD u hu
  have HLG : Hid (chkGD n L D = 0 → movK n A = 0 → ∀ i Q, i < A.length → Cp.Div Q → Q.length = D.length → ∀ q cp s u, EsAt u a L → IsAt u q Q → IsAt u s [iAt A i] → Calls Try.prog 64 #[gv n a L.length cap, .slice q D.length cp, .slice s 1 1] u (fun e w' => e = .returned (.bool (legB L Q [iAt A i])) ∧ Below u.heap.size u w')) := Lib.hid fun hz hm i Q hi hd hl q cp s u h1 h2 h3 => by
    obtain ⟨hR, hd0, hl0⟩ := chkGD_zero hz
    have hr := (movK_zero hm).2 i hi
    subst hl0
    exact pisLegal_any D.length a cap L hL hR q cp Q hd hl s 1 [iAt A i] (by simp) (fun j hj => by obtain rfl : j = 0 := by (simp at hj; omega)
                                                                                                   exact hr) u h1 h2 h3
  have HFR : Hid (chkGD n L D = 0 → movK n A = 0 → ∀ i Q, i < A.length → Cp.Div Q → Q.length = D.length → ∀ q cp u, EsAt u a L → IsAt u q Q → Calls Try.prog 22 #[gv n a L.length cap, .slice q D.length cp, .int .i64 (iAt A i)] u (GivesIE u (chV Q (setS n 1 [iAt A i]) L) (chK Q (setS n 1 [iAt A i]) L))) := Lib.hid fun hz hm i Q hi hd hl q cp u h1 h2 => by
    obtain ⟨hR, hd0, hl0⟩ := chkGD_zero hz
    have hr := (movK_zero hm).2 i hi
    have hz := setK_one (N := D.length) (by rw [hl0]; exact hR) hd hl (by rw [hl0]; exact hr)
    rw [hl0] at hz
    have hp := pFire_any n a cap L hL q cp Q (by omega) (iAt A i) u h1 h2
    rw [(res_ok _ _ _ hz).1, (res_ok _ _ _ hz).2, hl] at hp
    exact hp
  have HR1 : Hid (chkGD n L D ≠ 0 → plaR n L D A = ([], 0, chkGD n L D)) := Lib.hid fun h => by unfold plaR; rw [if_pos h]
  have HR2 : Hid (chkGD n L D = 0 → movK n A ≠ 0 → plaR n L D A = ([], 0, movK n A)) := Lib.hid fun h h' => by unfold plaR; rw [if_neg (by omega), if_pos h']
  have HR3 : Hid (chkGD n L D = 0 → movK n A = 0 → Hid (PlyOK n L D.length A (plaR n L D A) 0 D)) := Lib.hid fun h h' => Lib.hid (by unfold plaR; rw [if_neg (by omega), if_neg (by omega)]; exact ⟨(chkGD_zero h).2.1, rfl, rfl⟩)
  generalize chkGD n L D = K at *
  generalize movK n A = M at *
  generalize plaR n L D A = R at *
  unfold GivesIE gv at *
  unfold GivesN at HC
  obtain ⟨W, hW⟩ : ∃ W, W = w.alloc (Obj.cells #[.int .i64 n, .slice a L.length cap] 24) := ⟨_, rfl⟩
  have hB0 : Below w.heap.size w W := by rw [hW]; exact (Below.refl _ w).alloc (Nat.le_refl _) _
  have hG : Blk W w.heap.size 24 #[.int .i64 n, .slice a L.length cap] := by rw [hW]; exact Blk.new _ _ _
  have HW := Lib.hid hW
  have HB0 := Lib.hid hB0
  have HE1 := Lib.hid (h.keep hB0)
  have HF : Hid (∀ u, Below W.heap.size W u → u.cell? ⟨w.heap.size, 0, none⟩ = some (.int .i64 n) ∧ u.cell? ⟨w.heap.size, 1, none⟩ = some (.slice a L.length cap)) := Lib.hid fun u hu => ⟨(hG.below hu hG.lt).cell 0, (hG.below hu hG.lt).cell 1⟩
  obtain ⟨g0, g1⟩ := HF.out W (Below.refl _ _)
  have HHO := Lib.hid (ho.keep hB0)
  have HHS := Lib.hid (hs.keep hB0)
  rw [hW] at g0 g1
  clear ho hs hB0 hG hW h
  go_enter Try.func33, Try.ntmps33
  go_wp2_with fail
  rw [← HW.out]
  refine (HC.out _ HE1.out HHO.out).mono ?_
  rintro e w1 ⟨rfl, hb⟩
  have HB1 := Lib.hid hb
  clear g0 g1
  obtain ⟨g0, g1⟩ := HF.out w1 hb
  clear hb
  by_cases hk : K ≠ 0
  · have q0 : (((K : Nat) : Int) != 0) = true := by rw [bne_iff_ne]; omega
    have HR := Lib.hid (HR1.out hk)
    clear hk
    go_wp2
    refine bodyPost_ret (v := .tuple #[.slice none 0 0, .int .i64 0, .int .i64 (K : Nat)]) (by simp [results, Try.results33, go_sem]) rfl ?_
    exact ⟨none, 0, by rw [HR.out]; rfl, by rw [HR.out]; exact RowAt.nil _ _ _ _, HB0.out.trans (HB1.out.mono HB0.out.size)⟩
  · have hK0 : K = 0 := by omega
    have HCLa := Lib.hid (HCL.out hK0)
    have HLGa := Lib.hid (HLG.out hK0)
    have HFRa := Lib.hid (HFR.out hK0)
    have HR2a := Lib.hid (HR2.out hK0)
    have HR3a := Lib.hid (HR3.out hK0)
    clear hk HR1 HC HCL HLG HFR HR2 HR3
    subst hK0
    go_wp2_with fail
    refine (HCM.out _ (HHS.out.keep HB1.out)).mono ?_
    rintro e w2 ⟨rfl, hb⟩
    have hb2 := HB1.out.trans (hb.mono HB1.out.size)
    have HB2 := Lib.hid hb2
    clear g0 g1
    obtain ⟨g0, g1⟩ := HF.out w2 hb2
    clear hb hb2
    by_cases hm : M ≠ 0
    · have q0 : (((M : Nat) : Int) != 0) = true := by rw [bne_iff_ne]; omega
      have HR := Lib.hid (HR2a.out hm)
      clear hm
      go_wp2
      refine bodyPost_ret (v := .tuple #[.slice none 0 0, .int .i64 0, .int .i64 (M : Nat)]) (by simp [results, Try.results33, go_sem]) rfl ?_
      exact ⟨none, 0, by rw [HR.out]; rfl, by rw [HR.out]; exact RowAt.nil _ _ _ _, HB0.out.trans (HB2.out.mono HB0.out.size)⟩
    · have hM0 : M = 0 := by omega
      have HLGb := Lib.hid (HLGa.out hM0)
      have HFRb := Lib.hid (HFRa.out hM0)
      have HR3b := Lib.hid (HR3a.out hM0)
      clear hm HR2a HCM HLGa HFRa HR3a
      subst hM0
      go_wp2_with fail
      refine (HCLa.out w2 (HHO.out.keep HB2.out)).mono ?_
      rintro e w3 ⟨g, cp, rfl, hg, hpb, hb⟩
      have HQ3 := Lib.hid (hpb.row)
      have HB3 := Lib.hid (HB2.out.trans (hb.mono HB2.out.size))
      clear hg hpb hb g0 g1
      go_wp2
      go_loopw [11, 32] (fun s x wr => ∃ (i : Nat) (Q : List Int) (q : Option Addr) (cq : Nat), i ≤ A.length ∧ s = .slice q D.length cq ∧ x = .int .i64 i ∧ Hid (PlyOK n L D.length A R i Q) ∧ IsAt wr q Q ∧ Below W.heap.size W wr) (fun _ x _ => A.length - (intOf x).toNat)
      case atStart => exact ⟨0, D, some ⟨g, 0, none⟩, cp, by omega, rfl, rfl, HR3b.out, HQ3.out, HB3.out⟩
      case round =>
        obtain ⟨i, Q, q, cq, hi, rfl, rfl, hply, hq, hb⟩ := hrel
        have HQ := Lib.hid hq
        have HBR := Lib.hid hb
        by_cases hlt : i < A.length
        · have i1 : (i : Int) < (A.length : Int) := by omega
          have i2 : (0 : Int) ≤ (i : Int) := by omega
          have HLT := Lib.hid hlt
          obtain ⟨b1, o1, hb1, q1, x1⟩ := (HHS.out.keep hb).one i hlt
          subst hb1
          have HS1 := Lib.hid (hply.out.step hlt)
          have HLGI := Lib.hid (HLGb.out i Q hlt hply.out.1 hply.out.2.1 q cq)
          have HFRI := Lib.hid (HFRb.out i Q hlt hply.out.1 hply.out.2.1 q cq)
          generalize legB L Q [iAt A i] = lb at *
          generalize chK Q (setS n 1 [iAt A i]) L = k at *
          generalize chV Q (setS n 1 [iAt A i]) L = V at *
          generalize iAt A i = v at *
          obtain ⟨g0, g1⟩ := HF.out wr hb
          obtain ⟨V2, hV2⟩ : ∃ X, X = wr.alloc (Obj.cells #[.int .i64 v] 3) := ⟨_, rfl⟩
          have hB4 : Below wr.heap.size wr V2 := by rw [hV2]; exact (Below.refl _ wr).alloc (Nat.le_refl _) _
          have HB4 := Lib.hid (hb.trans (hB4.mono hb.size))
          have HV : Hid (IsAt V2 (some ⟨wr.heap.size, 0, none⟩) [v]) := Lib.hid (by rw [hV2]; exact (RowB.new encI wr 3 [v]).row encI_len)
          have HQ4 := Lib.hid (hq.keep hB4)
          have HV2 := Lib.hid hV2
          clear hq hb hlt hB4 hV2 hply
          go_wp2_with fail
          rw [← HV2.out]
          refine (HLGI.out _ V2 (HE1.out.keep HB4.out) HQ4.out HV.out).mono ?_
          rintro e w5 ⟨rfl, hb5⟩
          have hb6 := HB4.out.trans (hb5.mono HB4.out.size)
          have HB6 := Lib.hid hb6
          have HQ5 := Lib.hid (HQ4.out.keep hb5)
          clear g0 g1 x1
          obtain ⟨g0, g1⟩ := HF.out w5 hb6
          clear hb5 hb6
          cases lb with
          | false =>
            have HR := Lib.hid (HS1.out.1 (by trivial))
            go_wp2
            refine bodyPost_ret (v := .tuple #[.slice none 0 0, .int .i64 (i : Nat), .int .i64 18]) (by simp [results, Try.results33, go_sem]) rfl ?_
            exact ⟨none, 0, by rw [HR.out]; rfl, by rw [HR.out]; exact RowAt.nil _ _ _ _, HB0.out.trans (HB6.out.mono HB0.out.size)⟩
          | true =>
            go_wp2_with fail
            refine (HFRI.out w5 (HE1.out.keep HB6.out) HQ5.out).mono ?_
            rintro e w7 ⟨p9, q9, rfl, hr, hb7⟩
            have HB7 := Lib.hid (HB6.out.trans (hb7.mono HB6.out.size))
            have HR9 := Lib.hid hr
            clear hr hb7 g0 g1
            by_cases hk : k ≠ 0
            · have q0 : (((k : Nat) : Int) != 0) = true := by rw [bne_iff_ne]; omega
              have HR := Lib.hid (HS1.out.2.1 (by trivial) hk)
              clear hk
              go_wp2
              refine bodyPost_ret (v := .tuple #[.slice none 0 0, .int .i64 (i : Nat), .int .i64 (k : Nat)]) (by simp [results, Try.results33, go_sem]) rfl ?_
              exact ⟨none, 0, by rw [HR.out]; rfl, by rw [HR.out]; exact RowAt.nil _ _ _ _, HB0.out.trans (HB7.out.mono HB0.out.size)⟩
            · have hk0 : k = 0 := by omega
              have HN := Lib.hid (HS1.out.2.2 (by trivial) hk0)
              have HVL : Hid (V.length = D.length) := Lib.hid HN.out.2.1
              clear hk HS1
              subst hk0
              rw [HVL.out]
              go_wp2
              go_roundw
              case rel => exact ⟨i + 1, V, p9, q9, by have := HLT.out; omega, rfl, by go_num, Lib.hid HN.out, HR9.out, HB7.out⟩
              case measure => have := HLT.out; simp [intOf]; omega
        · obtain rfl : i = A.length := by omega
          have i1 : ¬ (A.length : Int) < (A.length : Int) := by omega
          have HR := Lib.hid hply.out.last
          clear hq hb hply
          go_wp2
          refine bodyPost_ret (v := .tuple #[.slice q D.length cq, .int .i64 (A.length : Nat), .int .i64 0]) (by simp [results, Try.results33, go_sem]) rfl ?_
          first | exact ⟨q, ⟨cq, by rw [HR.out.1, ← HR.out.2]; rfl⟩, by rw [HR.out.1]; exact HQ.out, HB0.out.trans (HBR.out.mono HB0.out.size)⟩ | exact ⟨q, cq, by rw [HR.out.1, ← HR.out.2]; rfl, by rw [HR.out.1]; exact HQ.out, HB0.out.trans (HBR.out.mono HB0.out.size)⟩
end Go.Proofs.Ytgejkgeojjgclaa
