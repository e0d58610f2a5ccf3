/- The law Splits. -/
import Derived.Test.YtalbdggpghkcfaaEf
import Derived.Test.YtalbdggpghkcfaaCm
namespace Go.Proofs.Ytalbdggpghkcfaa
open Go.RowKit Go.Proofs.Gr Go.Proofs.Cp
attribute [local go_sem] Oper.semAt_some

structure SplitF (D P N Z : List Int) : Prop where
  parts : posV D = P ∧ negV D = N ∧ ownD D = 0
  ep : effV P = true ∧ ownD P = 0
  en : effV N = true ∧ ownD N = 0
  back : cmbK (fun x y => x - y) P N = 0 ∧ cmbL (fun x y => x - y) P N = D
  meet : cmbK (fun x y => min x y) P N = 0 ∧ cmbL (fun x y => min x y) P N = Z
  none : supV Z = [] ∧ ownD Z = 0
  lens : D.length ≤ 1000 ∧ P.length ≤ 1000 ∧ N.length ≤ 1000 ∧ Z.length ≤ 1000
theorem iAt_map (f : Int → Int) (D : List Int) (j : Nat) (hj : j < D.length) : iAt (D.map f) j = f (iAt D j) := by
  rw [← iAt_get _ j (by rw [List.length_map]; exact hj), List.getElem_map, iAt_get D j hj]
theorem supT_zero {D : List Int} (k : Nat) (h : ∀ j, j < k → iAt D j = 0) : supT D k = [] := by
  induction k with
  | zero => rfl
  | succ k ih => rw [supT, ih fun j hj => h j (by omega), if_pos (h k (by omega))]; rfl
theorem split_facts {D : List Int} (h : Div D) : ∃ P N Z, SplitF D P N Z := by
  have h1 := h.one
  have h2 := h.le
  have bD : Bd 1048576 D.length D := ⟨rfl, h1, h2, fun j hj => div_at h j hj⟩
  have bP : Bd 1048576 D.length (posD D) := ⟨by simp [posD], h1, h2, fun j hj => by
    unfold posD; rw [iAt_map _ D j hj]; have := div_at h j hj; omega⟩
  have bN : Bd 1048576 D.length (negD D) := ⟨by simp [negD], h1, h2, fun j hj => by
    unfold negD; rw [iAt_map _ D j hj]; have := div_at h j hj; omega⟩
  have hbk : zipD (fun x y => x - y) (posD D) (negD D) = D := eq_of_at (by rw [zip_len _ (by rw [bP.len, bN.len]), bP.len]) fun j hj => by
    rw [zip_len _ (by rw [bP.len, bN.len]), bP.len] at hj
    rw [zip_at _ (by rw [bP.len, bN.len]) j (by rw [bP.len]; exact hj)]
    unfold posD negD
    rw [iAt_map _ D j hj, iAt_map _ D j hj]
    omega
  have bZ : Bd 1048576 D.length (zipD (fun x y => min x y) (posD D) (negD D)) := Bd.zip bP bN fun x y hx hy => by omega
  have hz : ∀ j, j < D.length → iAt (zipD (fun x y => min x y) (posD D) (negD D)) j = 0 := fun j hj => by
    rw [zip_at _ (by rw [bP.len, bN.len]) j (by rw [bP.len]; exact hj)]
    unfold posD negD
    rw [iAt_map _ D j hj, iAt_map _ D j hj]
    omega
  have eff : ∀ {L : List Int}, Bd 1048576 D.length L → (∀ j, j < D.length → 0 ≤ iAt L j) → effV L = true ∧ ownD L = 0 := fun b hp => by
    have h0 := (b.div (by omega)).own
    refine ⟨?_, h0⟩
    unfold effV
    rw [if_pos h0]
    exact (pay_iff _).2 fun j hj => hp j (by rw [← b.len]; exact hj)
  refine ⟨posD D, negD D, zipD (fun x y => min x y) (posD D) (negD D), ?_⟩
  exact {
    parts := ⟨by unfold posV; rw [if_pos h.own], by unfold negV; rw [if_pos h.own], h.own⟩
    ep := eff bP fun j hj => by unfold posD; rw [iAt_map _ D j hj]; omega
    en := eff bN fun j hj => by unfold negD; rw [iAt_map _ D j hj]; omega
    back := by
      have := cmb_ok (f := fun x y => x - y) (both_of (bP.div (by omega)) (bN.div (by omega)) (by rw [bP.len, bN.len])) (by rw [hbk]; exact any_of h.rng)
      rwa [hbk] at this
    meet := cmb_ok (both_of (bP.div (by omega)) (bN.div (by omega)) (by rw [bP.len, bN.len])) (any_of (bZ.div (by omega)).rng)
    none := ⟨by unfold supV; rw [if_pos (bZ.div (by omega)).own, bZ.len]; exact supT_zero _ hz, (bZ.div (by omega)).own⟩
    lens := ⟨by omega, by have := bP.len; omega, by have := bN.len; omega, by have := bZ.len; omega⟩ }
set_option maxHeartbeats 12800000 in
set_option maxRecDepth 100000 in
theorem splits_any (a : Option Addr) (c : Nat) (D : List Int) (w : World) (h : IsAt w a D) :
    Calls Try.prog 9 #[.slice a D.length c] w (fun e w' => e = .returned (.bool true) ∧ Below w.heap.size w w') := by
  have HAW := Lib.hid (fun w => awake_any w)
  have HB : Hid (Below w.heap.size w w) := Lib.hid (Below.refl _ _)
  have PD := Lib.hid h
  clear h
  have HOW := Lib.hid (fun u h => rOwn_all a c D u h)
  by_cases k1 : ownD D ≠ 0
  · generalize ownD D = k at *
    have q0 : (((k : Nat) : Int) != 0) = true := by rw [bne_iff_ne]; omega
    go_enter Try.func9, Try.ntmps9
    go_wp2_with fail
    refine (HOW.out w PD.out).mono ?_
    rintro e w0 ⟨rfl, hb⟩
    replace PD := Lib.hid (PD.out.keep hb)
    replace HB := Lib.hid (HB.out.trans (hb.mono HB.out.size))
    clear hb
    go_wp2_with fail
    refine (HAW.out w0).mono ?_
    rintro e w1 ⟨rfl, hb⟩
    replace PD := Lib.hid (PD.out.keep hb)
    replace HB := Lib.hid (HB.out.trans (hb.mono HB.out.size))
    clear hb
    go_wp2
    go_ret
    exact ⟨rfl, HB.out⟩
  have k1' : ownD D = 0 := by omega
  rw [k1'] at HOW
  obtain ⟨P, N, Z, hS⟩ := split_facts (own_div k1')
  obtain ⟨lD, lP, lN, lZ⟩ := hS.lens
  clear k1 k1'
  have C1 : Hid (∀ u a c, IsAt u a D → Calls Try.prog 35 #[.slice a D.length c] u (fun e x => ∃ p q p2 q2, e = .returned (.tuple #[.slice p P.length q, .slice p2 N.length q2, .int .i64 0]) ∧ IsAt x p P ∧ IsAt x p2 N ∧ Below u.heap.size u x)) := Lib.hid fun u a c h => by
    have := pParts_any a c D lD u h
    rw [hS.parts.1, hS.parts.2.1, hS.parts.2.2] at this
    exact this
  have C2 : Hid (∀ u a c, IsAt u a P → Calls Try.prog 31 #[.slice a P.length c] u (fun e x => e = .returned (.tuple #[.bool true, .int .i64 0]) ∧ Below u.heap.size u x)) := Lib.hid fun u a c h => by
    have := pEffective_any a c P lP u h
    rw [hS.ep.1, hS.ep.2] at this
    exact this
  have C3 : Hid (∀ u a c, IsAt u a N → Calls Try.prog 31 #[.slice a N.length c] u (fun e x => e = .returned (.tuple #[.bool true, .int .i64 0]) ∧ Below u.heap.size u x)) := Lib.hid fun u a c h => by
    have := pEffective_any a c N lN u h
    rw [hS.en.1, hS.en.2] at this
    exact this
  have C4 : Hid (∀ u a b c d, IsAt u a P → IsAt u b N → Calls Try.prog 23 #[.slice a P.length c, .slice b N.length d] u (fun e x => ∃ p q, e = .returned (.tuple #[.slice p D.length q, .int .i64 0]) ∧ IsAt x p D ∧ Below u.heap.size u x)) := Lib.hid fun u a b c d h1 h2 => by
    have := pSub_any a b c d P N lP lN u h1 h2
    rw [hS.back.1, hS.back.2] at this
    exact this
  have C5 : Hid (∀ u a b c d, IsAt u a P → IsAt u b N → Calls Try.prog 42 #[.slice a P.length c, .slice b N.length d] u (fun e x => ∃ p q, e = .returned (.tuple #[.slice p Z.length q, .int .i64 0]) ∧ IsAt x p Z ∧ Below u.heap.size u x)) := Lib.hid fun u a b c d h1 h2 => by
    have := pMeet_any a b c d P N lP lN u h1 h2
    rw [hS.meet.1, hS.meet.2] at this
    exact this
  have C6 : Hid (∀ u a c, IsAt u a Z → Calls Try.prog 33 #[.slice a Z.length c] u (fun e x => ∃ p q, e = .returned (.tuple #[.slice p 0 q, .int .i64 0]) ∧ IsAt x p [] ∧ Below u.heap.size u x)) := Lib.hid fun u a c h => by
    have := pSupport_any a c Z lZ u h
    rw [hS.none.1, hS.none.2] at this
    exact this
  have HSM := Lib.hid same_true
  clear hS
  go_enter Try.func9, Try.ntmps9
  go_wp2_with fail
  refine (HOW.out w PD.out).mono ?_
  rintro e w0 ⟨rfl, hb⟩
  replace PD := Lib.hid (PD.out.keep hb)
  replace HB := Lib.hid (HB.out.trans (hb.mono HB.out.size))
  clear hb
  go_wp2_with fail
  refine (C1.out w0 _ _ PD.out).mono ?_
  rintro e w1 ⟨p1, q1, p2, q2, rfl, hpP, hpN, hb⟩
  replace PD := Lib.hid (PD.out.keep hb)
  replace HB := Lib.hid (HB.out.trans (hb.mono HB.out.size))
  clear hb
  have PP := Lib.hid hpP
  clear hpP
  have PN := Lib.hid hpN
  clear hpN
  go_wp2_with fail
  refine (C2.out w1 _ _ PP.out).mono ?_
  rintro e w2 ⟨rfl, hb⟩
  replace PD := Lib.hid (PD.out.keep hb)
  replace PP := Lib.hid (PP.out.keep hb)
  replace PN := Lib.hid (PN.out.keep hb)
  replace HB := Lib.hid (HB.out.trans (hb.mono HB.out.size))
  clear hb
  go_wp2_with fail
  refine (C3.out w2 _ _ PN.out).mono ?_
  rintro e w3 ⟨rfl, hb⟩
  replace PD := Lib.hid (PD.out.keep hb)
  replace PP := Lib.hid (PP.out.keep hb)
  replace PN := Lib.hid (PN.out.keep hb)
  replace HB := Lib.hid (HB.out.trans (hb.mono HB.out.size))
  clear hb
  go_wp2_with fail
  refine (C4.out w3 _ _ _ _ PP.out PN.out).mono ?_
  rintro e w4 ⟨p3, q3, rfl, hpK, hb⟩
  replace PD := Lib.hid (PD.out.keep hb)
  replace PP := Lib.hid (PP.out.keep hb)
  replace PN := Lib.hid (PN.out.keep hb)
  replace HB := Lib.hid (HB.out.trans (hb.mono HB.out.size))
  clear hb
  have PK := Lib.hid hpK
  clear hpK
  go_wp2_with fail
  refine (C5.out w4 _ _ _ _ PP.out PN.out).mono ?_
  rintro e w5 ⟨p4, q4, rfl, hpZ, hb⟩
  replace PD := Lib.hid (PD.out.keep hb)
  replace PP := Lib.hid (PP.out.keep hb)
  replace PN := Lib.hid (PN.out.keep hb)
  replace PK := Lib.hid (PK.out.keep hb)
  replace HB := Lib.hid (HB.out.trans (hb.mono HB.out.size))
  clear hb
  have PZ := Lib.hid hpZ
  clear hpZ
  go_wp2_with fail
  refine (C6.out w5 _ _ PZ.out).mono ?_
  rintro e w6 ⟨p5, q5, rfl, -, hb⟩
  replace PD := Lib.hid (PD.out.keep hb)
  replace PP := Lib.hid (PP.out.keep hb)
  replace PN := Lib.hid (PN.out.keep hb)
  replace PK := Lib.hid (PK.out.keep hb)
  replace PZ := Lib.hid (PZ.out.keep hb)
  replace HB := Lib.hid (HB.out.trans (hb.mono HB.out.size))
  clear hb
  go_wp2_with fail
  refine (HSM.out w6 _ _ _ _ D lD PK.out PD.out).mono ?_
  rintro e w7 ⟨rfl, hb⟩
  replace PD := Lib.hid (PD.out.keep hb)
  replace PP := Lib.hid (PP.out.keep hb)
  replace PN := Lib.hid (PN.out.keep hb)
  replace PK := Lib.hid (PK.out.keep hb)
  replace PZ := Lib.hid (PZ.out.keep hb)
  replace HB := Lib.hid (HB.out.trans (hb.mono HB.out.size))
  clear hb
  go_wp2_with fail
  refine (HAW.out w7).mono ?_
  rintro e w8 ⟨rfl, hb⟩
  replace PD := Lib.hid (PD.out.keep hb)
  replace PP := Lib.hid (PP.out.keep hb)
  replace PN := Lib.hid (PN.out.keep hb)
  replace PK := Lib.hid (PK.out.keep hb)
  replace PZ := Lib.hid (PZ.out.keep hb)
  replace HB := Lib.hid (HB.out.trans (hb.mono HB.out.size))
  clear hb
  go_wp2
  go_ret
  exact ⟨rfl, HB.out⟩
end Go.Proofs.Ytalbdggpghkcfaa
