/- The chapter's examples hold. -/
import Derived.Test.YtalbdggpghkcfaaCz
import Derived.Test.YtalbdggpghkcfaaDa
import Derived.Test.YtalbdggpghkcfaaDb
import Derived.Test.YtalbdggpghkcfaaCm
import Derived.Test.YtalbdggpghkcfaaCp
namespace Go.Proofs.Ytalbdggpghkcfaa
open Go.RowKit Go.Proofs.Gr Go.Proofs.Cp
attribute [local go_sem] Oper.semAt_some

theorem lit_at (w : World) (L : List Int) : IsAt (w.alloc (.cells (flat encI L).toArray 3)) (some ⟨w.heap.size, 0, none⟩) L := (RowB.new encI w 3 L).row encI_len
theorem lits_at (w : World) (X : List DX) (h : ∀ x ∈ X, IsAt w x.a x.b) : LsAt (w.alloc (.cells (flat encD X).toArray 23)) (some ⟨w.heap.size, 0, none⟩) (X.map DX.b) :=
  ⟨X, rfl, lits_row w X, fun x hx => (h x hx).keep ((Below.refl _ _).alloc (Nat.le_refl _) _)⟩
set_option maxHeartbeats 12800000 in
set_option maxRecDepth 100000 in
theorem awake_any (w : World) :
    Calls Try.prog 13 #[] w (fun e w' => e = .returned (.bool true) ∧ Below w.heap.size w w') := by
  have CADD : Hid (∀ u a b c d, IsAt u a [1, -2, 3] → IsAt u b [1, 1, 1] → Calls Try.prog 21 #[.slice a 3 c, .slice b 3 d] u (fun e x => ∃ p q, e = .returned (.tuple #[.slice p 3 q, .int .i64 0]) ∧ IsAt x p [2, -1, 4] ∧ Below u.heap.size u x)) := Lib.hid fun u a b c d h1 h2 => by
    have := pAdd_any a b c d [1, -2, 3] [1, 1, 1] (by simp) (by simp) u h1 h2
    rw [show cmbL (fun x y => x + y) [1, -2, 3] [1, 1, 1] = [2, -1, 4] by decide, show cmbK (fun x y => x + y) [1, -2, 3] [1, 1, 1] = 0 by decide] at this
    exact this
  have CMEET : Hid (∀ u a b c d, IsAt u a [2, 0] → IsAt u b [1, 5] → Calls Try.prog 42 #[.slice a 2 c, .slice b 2 d] u (fun e x => ∃ p q, e = .returned (.tuple #[.slice p 2 q, .int .i64 0]) ∧ IsAt x p [1, 0] ∧ Below u.heap.size u x)) := Lib.hid fun u a b c d h1 h2 => by
    have := pMeet_any a b c d [2, 0] [1, 5] (by simp) (by simp) u h1 h2
    rw [show cmbL (fun x y => min x y) [2, 0] [1, 5] = [1, 0] by decide, show cmbK (fun x y => min x y) [2, 0] [1, 5] = 0 by decide] at this
    exact this
  have CJOIN : Hid (∀ u a b c d, IsAt u a [2, 0] → IsAt u b [1, 5] → Calls Try.prog 44 #[.slice a 2 c, .slice b 2 d] u (fun e x => ∃ p q, e = .returned (.tuple #[.slice p 2 q, .int .i64 0]) ∧ IsAt x p [2, 5] ∧ Below u.heap.size u x)) := Lib.hid fun u a b c d h1 h2 => by
    have := pJoin_any a b c d [2, 0] [1, 5] (by simp) (by simp) u h1 h2
    rw [show cmbL (fun x y => max x y) [2, 0] [1, 5] = [2, 5] by decide, show cmbK (fun x y => max x y) [2, 0] [1, 5] = 0 by decide] at this
    exact this
  have CDEG : Hid (∀ u a c, IsAt u a [1, -2, 3] → Calls Try.prog 29 #[.slice a 3 c] u (fun e x => e = .returned (.tuple #[.int .i64 2, .int .i64 0]) ∧ Below u.heap.size u x)) := Lib.hid fun u a c h => by
    have := pDegree_any a c [1, -2, 3] (by simp) u h
    rw [show degV [1, -2, 3] = 2 by decide, show ownD [1, -2, 3] = 0 by decide] at this
    exact this
  have CSUP : Hid (∀ u a c, IsAt u a [1, -2, 3] → Calls Try.prog 33 #[.slice a 3 c] u (fun e x => ∃ p q, e = .returned (.tuple #[.slice p 3 q, .int .i64 0]) ∧ IsAt x p [0, 1, 2] ∧ Below u.heap.size u x)) := Lib.hid fun u a c h => by
    have := pSupport_any a c [1, -2, 3] (by simp) u h
    rw [show supV [1, -2, 3] = [0, 1, 2] by decide, show ownD [1, -2, 3] = 0 by decide] at this
    exact this
  have CPAR : Hid (∀ u a c, IsAt u a [1, -2, 3] → Calls Try.prog 35 #[.slice a 3 c] u (fun e x => ∃ p q p2 q2, e = .returned (.tuple #[.slice p 3 q, .slice p2 3 q2, .int .i64 0]) ∧ IsAt x p [1, 0, 3] ∧ IsAt x p2 [0, 2, 0] ∧ Below u.heap.size u x)) := Lib.hid fun u a c h => by
    have := pParts_any a c [1, -2, 3] (by simp) u h
    rw [show posV [1, -2, 3] = [1, 0, 3] by decide, show negV [1, -2, 3] = [0, 2, 0] by decide, show ownD [1, -2, 3] = 0 by decide] at this
    exact this
  have CALL : Hid (∀ u, Calls Try.prog 46 #[.int .i64 3, .int .i64 2] u (fun e x => ∃ p q, e = .returned (.tuple #[.slice p 6 q, .int .i64 0]) ∧ LsAt x p [[0, 0, 2], [0, 1, 1], [0, 2, 0], [1, 0, 1], [1, 1, 0], [2, 0, 0]] ∧ Below u.heap.size u x)) := Lib.hid fun u => by
    have := pAll_any 3 2 u
    rw [show allL 3 2 = [[0, 0, 2], [0, 1, 1], [0, 2, 0], [1, 0, 1], [1, 1, 0], [2, 0, 0]] by decide, show allK 3 2 = 0 by decide] at this
    exact this
  have CNEX : Hid (∀ u a c, IsAt u a [0, 2, 0] → Calls Try.prog 48 #[.slice a 3 c] u (fun e x => ∃ p q, e = .returned (.tuple #[.slice p 3 q, .bool true, .int .i64 0]) ∧ IsAt x p [1, 0, 1] ∧ Below u.heap.size u x)) := Lib.hid fun u a c h => by
    have := pNext_any a c [0, 2, 0] (by simp) u h
    refine this.mono ?_
    rintro e x ⟨E, q, p, c2, -, h2, rfl, hr, hb⟩
    obtain ⟨rfl, rfl⟩ := h2 [1, 0, 1] (by decide)
    rw [show nexK [0, 2, 0] = 0 by decide]
    exact ⟨p, c2, rfl, hr, hb⟩
  have CCMP : Hid (∀ u a b c d, IsAt u a [2, 0] → IsAt u b [1, 5] → Calls Try.prog 38 #[.slice a 2 c, .slice b 2 d] u (fun e x => e = .returned (.tuple #[.int .i64 1, .int .i64 0]) ∧ Below u.heap.size u x)) := Lib.hid fun u a b c d h1 h2 => by
    have := pCompare_any a b c d [2, 0] [1, 5] (by simp) (by simp) u h1 h2
    rw [show cmpV [2, 0] [1, 5] = 1 by decide, show bothD [2, 0] [1, 5] = 0 by decide] at this
    exact this
  have CABV : Hid (∀ u a b c d, IsAt u a [2, 0] → IsAt u b [1, 5] → Calls Try.prog 40 #[.slice a 2 c, .slice b 2 d] u (fun e x => e = .returned (.tuple #[.bool false, .int .i64 0]) ∧ Below u.heap.size u x)) := Lib.hid fun u a b c d h1 h2 => by
    have := pAbove_any a b c d [2, 0] [1, 5] (by simp) (by simp) u h1 h2
    rw [show abvV [2, 0] [1, 5] = false by decide, show bothD [2, 0] [1, 5] = 0 by decide] at this
    exact this
  have CSAM : Hid (∀ u a b c d L, L.length ≤ 1000 → IsAt u a L → IsAt u b L → Calls Try.prog 20 #[.slice a L.length c, .slice b L.length d] u (fun e x => e = .returned (.bool true) ∧ Below u.heap.size u x)) := Lib.hid fun u a b c d L hl h1 h2 => by
    have := rSame_any a b c d L L hl hl u h1 h2
    rwa [decide_eq_true rfl] at this
  have CEQI : Hid (∀ u a b c d L, L.length ≤ 1000 → IsAt u a L → IsAt u b L → Calls Try.prog 55 #[.slice a L.length c, .slice b L.length d] u (fun e x => e = .returned (.bool true) ∧ Below u.heap.size u x)) := Lib.hid fun u a b c d L hl h1 h2 => by
    have := pEqualI_any a b c d L L hl hl u h1 h2
    rwa [decide_eq_true rfl] at this
  have CSAA : Hid (∀ u a b c d, LsAt u a [[0, 0, 2], [0, 1, 1], [0, 2, 0], [1, 0, 1], [1, 1, 0], [2, 0, 0]] → LsAt u b [[0, 0, 2], [0, 1, 1], [0, 2, 0], [1, 0, 1], [1, 1, 0], [2, 0, 0]] → Calls Try.prog 50 #[.slice a 6 c, .slice b 6 d] u (fun e x => e = .returned (.bool true) ∧ Below u.heap.size u x)) := Lib.hid fun u a b c d h1 h2 => by
    have hl : ∀ i, i < 6 → (([[0, 0, 2], [0, 1, 1], [0, 2, 0], [1, 0, 1], [1, 1, 0], [2, 0, 0]] : List (List Int)).getD i []).length ≤ 1000 := by decide
    have := rSameAll_any a b c d [[0, 0, 2], [0, 1, 1], [0, 2, 0], [1, 0, 1], [1, 1, 0], [2, 0, 0]] [[0, 0, 2], [0, 1, 1], [0, 2, 0], [1, 0, 1], [1, 1, 0], [2, 0, 0]] (by simp) (by simp) hl hl u h1 h2
    rwa [decide_eq_true rfl] at this
  have HB : Hid (Below w.heap.size w w) := Lib.hid (Below.refl _ _)
  go_enter Try.func13, Try.ntmps13
  obtain ⟨V0, hV0⟩ : ∃ V, V = w.alloc (Obj.cells #[.int .i64 1, .int .i64 (-2), .int .i64 3] 3) := ⟨_, rfl⟩
  have hsV0 : w.heap.size = w.heap.size := rfl
  have hpA : IsAt V0 (some ⟨w.heap.size, 0, none⟩) [1, -2, 3] := by rw [← hsV0, hV0]; exact lit_at w [1, -2, 3]
  have HSV0 : Hid (V0.heap.size = w.heap.size + 1) := Lib.hid (by rw [hV0, World.size_alloc, hsV0])
  have hb : Below w.heap.size w V0 := by rw [hV0]; exact (Below.refl _ _).alloc (Nat.le_refl _) _
  have HV0 := Lib.hid hV0
  clear hV0 hsV0
  replace HB := Lib.hid (HB.out.trans (hb.mono HB.out.size))
  clear hb
  have PA := Lib.hid hpA
  clear hpA
  obtain ⟨V1, hV1⟩ : ∃ V, V = V0.alloc (Obj.cells #[.int .i64 1, .int .i64 1, .int .i64 1] 3) := ⟨_, rfl⟩
  have hsV1 : V0.heap.size = w.heap.size + 1 := HSV0.out
  have hpL1 : IsAt V1 (some ⟨w.heap.size + 1, 0, none⟩) [1, 1, 1] := by rw [← hsV1, hV1]; exact lit_at V0 [1, 1, 1]
  have HSV1 : Hid (V1.heap.size = w.heap.size + 2) := Lib.hid (by rw [hV1, World.size_alloc, hsV1])
  have hb : Below V0.heap.size V0 V1 := by rw [hV1]; exact (Below.refl _ _).alloc (Nat.le_refl _) _
  have HV1 := Lib.hid hV1
  clear hV1 hsV1
  replace PA := Lib.hid (PA.out.keep hb)
  replace HB := Lib.hid (HB.out.trans (hb.mono HB.out.size))
  clear hb
  have PL1 := Lib.hid hpL1
  clear hpL1
  go_wp2_with fail
  rw [← HV0.out]
  rw [← HV1.out]
  refine (CADD.out V1 _ _ _ _ PA.out PL1.out).mono ?_
  rintro e w2 ⟨p1, q1, rfl, hpS, hb⟩
  clear PL1
  replace PA := Lib.hid (PA.out.keep hb)
  replace HB := Lib.hid (HB.out.trans (hb.mono HB.out.size))
  clear hb
  have PS := Lib.hid hpS
  clear hpS
  go_wp2_with fail
  refine (CDEG.out w2 _ _ PA.out).mono ?_
  rintro e w3 ⟨rfl, hb⟩
  replace PA := Lib.hid (PA.out.keep hb)
  replace PS := Lib.hid (PS.out.keep hb)
  replace HB := Lib.hid (HB.out.trans (hb.mono HB.out.size))
  clear hb
  go_wp2_with fail
  refine (CSUP.out w3 _ _ PA.out).mono ?_
  rintro e w4 ⟨p2, q2, rfl, hpW, hb⟩
  replace PA := Lib.hid (PA.out.keep hb)
  replace PS := Lib.hid (PS.out.keep hb)
  replace HB := Lib.hid (HB.out.trans (hb.mono HB.out.size))
  clear hb
  have PW := Lib.hid hpW
  clear hpW
  go_wp2_with fail
  refine (CPAR.out w4 _ _ PA.out).mono ?_
  rintro e w5 ⟨p3, q3, p4, q4, rfl, hpM, hpN, hb⟩
  clear PA
  replace PS := Lib.hid (PS.out.keep hb)
  replace PW := Lib.hid (PW.out.keep hb)
  replace HB := Lib.hid (HB.out.trans (hb.mono HB.out.size))
  clear hb
  have PM := Lib.hid hpM
  clear hpM
  have PN := Lib.hid hpN
  clear hpN
  obtain ⟨V6, hV6⟩ : ∃ V, V = w5.alloc (Obj.cells #[.int .i64 2, .int .i64 (-1), .int .i64 4] 3) := ⟨_, rfl⟩
  have hsV6 : w5.heap.size = w5.heap.size := rfl
  have hpL2 : IsAt V6 (some ⟨w5.heap.size, 0, none⟩) [2, -1, 4] := by rw [← hsV6, hV6]; exact lit_at w5 [2, -1, 4]
  have HSV6 : Hid (V6.heap.size = w5.heap.size + 1) := Lib.hid (by rw [hV6, World.size_alloc, hsV6])
  have hb : Below w5.heap.size w5 V6 := by rw [hV6]; exact (Below.refl _ _).alloc (Nat.le_refl _) _
  have HV6 := Lib.hid hV6
  clear hV6 hsV6
  replace PS := Lib.hid (PS.out.keep hb)
  replace PW := Lib.hid (PW.out.keep hb)
  replace PM := Lib.hid (PM.out.keep hb)
  replace PN := Lib.hid (PN.out.keep hb)
  replace HB := Lib.hid (HB.out.trans (hb.mono HB.out.size))
  clear hb
  have PL2 := Lib.hid hpL2
  clear hpL2
  go_wp2_with fail
  rw [← HV6.out]
  refine (CSAM.out V6 _ _ _ _ [2, -1, 4] (by simp) PS.out PL2.out).mono ?_
  rintro e w7 ⟨rfl, hb⟩
  clear PL2
  clear PS
  replace PW := Lib.hid (PW.out.keep hb)
  replace PM := Lib.hid (PM.out.keep hb)
  replace PN := Lib.hid (PN.out.keep hb)
  replace HB := Lib.hid (HB.out.trans (hb.mono HB.out.size))
  clear hb
  obtain ⟨V8, hV8⟩ : ∃ V, V = w7.alloc (Obj.cells #[.int .i64 0, .int .i64 1, .int .i64 2] 3) := ⟨_, rfl⟩
  have hsV8 : w7.heap.size = w7.heap.size := rfl
  have hpL3 : IsAt V8 (some ⟨w7.heap.size, 0, none⟩) [0, 1, 2] := by rw [← hsV8, hV8]; exact lit_at w7 [0, 1, 2]
  have HSV8 : Hid (V8.heap.size = w7.heap.size + 1) := Lib.hid (by rw [hV8, World.size_alloc, hsV8])
  have hb : Below w7.heap.size w7 V8 := by rw [hV8]; exact (Below.refl _ _).alloc (Nat.le_refl _) _
  have HV8 := Lib.hid hV8
  clear hV8 hsV8
  replace PW := Lib.hid (PW.out.keep hb)
  replace PM := Lib.hid (PM.out.keep hb)
  replace PN := Lib.hid (PN.out.keep hb)
  replace HB := Lib.hid (HB.out.trans (hb.mono HB.out.size))
  clear hb
  have PL3 := Lib.hid hpL3
  clear hpL3
  go_wp2_with fail
  rw [← HV8.out]
  refine (CEQI.out V8 _ _ _ _ [0, 1, 2] (by simp) PW.out PL3.out).mono ?_
  rintro e w9 ⟨rfl, hb⟩
  clear PL3
  clear PW
  replace PM := Lib.hid (PM.out.keep hb)
  replace PN := Lib.hid (PN.out.keep hb)
  replace HB := Lib.hid (HB.out.trans (hb.mono HB.out.size))
  clear hb
  obtain ⟨V10, hV10⟩ : ∃ V, V = w9.alloc (Obj.cells #[.int .i64 1, .int .i64 0, .int .i64 3] 3) := ⟨_, rfl⟩
  have hsV10 : w9.heap.size = w9.heap.size := rfl
  have hpL4 : IsAt V10 (some ⟨w9.heap.size, 0, none⟩) [1, 0, 3] := by rw [← hsV10, hV10]; exact lit_at w9 [1, 0, 3]
  have HSV10 : Hid (V10.heap.size = w9.heap.size + 1) := Lib.hid (by rw [hV10, World.size_alloc, hsV10])
  have hb : Below w9.heap.size w9 V10 := by rw [hV10]; exact (Below.refl _ _).alloc (Nat.le_refl _) _
  have HV10 := Lib.hid hV10
  clear hV10 hsV10
  replace PM := Lib.hid (PM.out.keep hb)
  replace PN := Lib.hid (PN.out.keep hb)
  replace HB := Lib.hid (HB.out.trans (hb.mono HB.out.size))
  clear hb
  have PL4 := Lib.hid hpL4
  clear hpL4
  go_wp2_with fail
  rw [← HV10.out]
  refine (CSAM.out V10 _ _ _ _ [1, 0, 3] (by simp) PM.out PL4.out).mono ?_
  rintro e w11 ⟨rfl, hb⟩
  clear PL4
  clear PM
  replace PN := Lib.hid (PN.out.keep hb)
  replace HB := Lib.hid (HB.out.trans (hb.mono HB.out.size))
  clear hb
  obtain ⟨V12, hV12⟩ : ∃ V, V = w11.alloc (Obj.cells #[.int .i64 0, .int .i64 2, .int .i64 0] 3) := ⟨_, rfl⟩
  have hsV12 : w11.heap.size = w11.heap.size := rfl
  have hpL5 : IsAt V12 (some ⟨w11.heap.size, 0, none⟩) [0, 2, 0] := by rw [← hsV12, hV12]; exact lit_at w11 [0, 2, 0]
  have HSV12 : Hid (V12.heap.size = w11.heap.size + 1) := Lib.hid (by rw [hV12, World.size_alloc, hsV12])
  have hb : Below w11.heap.size w11 V12 := by rw [hV12]; exact (Below.refl _ _).alloc (Nat.le_refl _) _
  have HV12 := Lib.hid hV12
  clear hV12 hsV12
  replace PN := Lib.hid (PN.out.keep hb)
  replace HB := Lib.hid (HB.out.trans (hb.mono HB.out.size))
  clear hb
  have PL5 := Lib.hid hpL5
  clear hpL5
  go_wp2_with fail
  rw [← HV12.out]
  refine (CSAM.out V12 _ _ _ _ [0, 2, 0] (by simp) PN.out PL5.out).mono ?_
  rintro e w13 ⟨rfl, hb⟩
  clear PL5
  clear PN
  replace HB := Lib.hid (HB.out.trans (hb.mono HB.out.size))
  clear hb
  go_wp2_with fail
  refine (CALL.out w13).mono ?_
  rintro e w14 ⟨p5, q5, rfl, hpL, hb⟩
  replace HB := Lib.hid (HB.out.trans (hb.mono HB.out.size))
  clear hb
  have PL := Lib.hid hpL
  clear hpL
  obtain ⟨V15, hV15⟩ : ∃ V, V = w14.alloc (Obj.cells #[.int .i64 0, .int .i64 2, .int .i64 0] 3) := ⟨_, rfl⟩
  have hsV15 : w14.heap.size = w14.heap.size := rfl
  have hpL6 : IsAt V15 (some ⟨w14.heap.size, 0, none⟩) [0, 2, 0] := by rw [← hsV15, hV15]; exact lit_at w14 [0, 2, 0]
  have HSV15 : Hid (V15.heap.size = w14.heap.size + 1) := Lib.hid (by rw [hV15, World.size_alloc, hsV15])
  have hb : Below w14.heap.size w14 V15 := by rw [hV15]; exact (Below.refl _ _).alloc (Nat.le_refl _) _
  have HV15 := Lib.hid hV15
  clear hV15 hsV15
  replace PL := Lib.hid (PL.out.keep hb)
  replace HB := Lib.hid (HB.out.trans (hb.mono HB.out.size))
  clear hb
  have PL6 := Lib.hid hpL6
  clear hpL6
  go_wp2_with fail
  rw [← HV15.out]
  refine (CNEX.out V15 _ _ PL6.out).mono ?_
  rintro e w16 ⟨p6, q6, rfl, hpX, hb⟩
  clear PL6
  replace PL := Lib.hid (PL.out.keep hb)
  replace HB := Lib.hid (HB.out.trans (hb.mono HB.out.size))
  clear hb
  have PX := Lib.hid hpX
  clear hpX
  obtain ⟨V17, hV17⟩ : ∃ V, V = w16.alloc (Obj.cells #[.int .i64 1, .int .i64 0, .int .i64 1] 3) := ⟨_, rfl⟩
  have hsV17 : w16.heap.size = w16.heap.size := rfl
  have hpL7 : IsAt V17 (some ⟨w16.heap.size, 0, none⟩) [1, 0, 1] := by rw [← hsV17, hV17]; exact lit_at w16 [1, 0, 1]
  have HSV17 : Hid (V17.heap.size = w16.heap.size + 1) := Lib.hid (by rw [hV17, World.size_alloc, hsV17])
  have hb : Below w16.heap.size w16 V17 := by rw [hV17]; exact (Below.refl _ _).alloc (Nat.le_refl _) _
  have HV17 := Lib.hid hV17
  clear hV17 hsV17
  replace PL := Lib.hid (PL.out.keep hb)
  replace PX := Lib.hid (PX.out.keep hb)
  replace HB := Lib.hid (HB.out.trans (hb.mono HB.out.size))
  clear hb
  have PL7 := Lib.hid hpL7
  clear hpL7
  go_wp2_with fail
  rw [← HV17.out]
  refine (CSAM.out V17 _ _ _ _ [1, 0, 1] (by simp) PX.out PL7.out).mono ?_
  rintro e w18 ⟨rfl, hb⟩
  clear PL7
  clear PX
  replace PL := Lib.hid (PL.out.keep hb)
  replace HB := Lib.hid (HB.out.trans (hb.mono HB.out.size))
  clear hb
  obtain ⟨V19, hV19⟩ : ∃ V, V = w18.alloc (Obj.cells #[.int .i64 0, .int .i64 0, .int .i64 2] 3) := ⟨_, rfl⟩
  have hsV19 : w18.heap.size = w18.heap.size := rfl
  have hpG0 : IsAt V19 (some ⟨w18.heap.size, 0, none⟩) [0, 0, 2] := by rw [← hsV19, hV19]; exact lit_at w18 [0, 0, 2]
  have HSV19 : Hid (V19.heap.size = w18.heap.size + 1) := Lib.hid (by rw [hV19, World.size_alloc, hsV19])
  have hb : Below w18.heap.size w18 V19 := by rw [hV19]; exact (Below.refl _ _).alloc (Nat.le_refl _) _
  have HV19 := Lib.hid hV19
  clear hV19 hsV19
  replace PL := Lib.hid (PL.out.keep hb)
  replace HB := Lib.hid (HB.out.trans (hb.mono HB.out.size))
  clear hb
  have PG0 := Lib.hid hpG0
  clear hpG0
  obtain ⟨V20, hV20⟩ : ∃ V, V = V19.alloc (Obj.cells #[.int .i64 0, .int .i64 1, .int .i64 1] 3) := ⟨_, rfl⟩
  have hsV20 : V19.heap.size = w18.heap.size + 1 := HSV19.out
  have hpG1 : IsAt V20 (some ⟨w18.heap.size + 1, 0, none⟩) [0, 1, 1] := by rw [← hsV20, hV20]; exact lit_at V19 [0, 1, 1]
  have HSV20 : Hid (V20.heap.size = w18.heap.size + 2) := Lib.hid (by rw [hV20, World.size_alloc, hsV20])
  have hb : Below V19.heap.size V19 V20 := by rw [hV20]; exact (Below.refl _ _).alloc (Nat.le_refl _) _
  have HV20 := Lib.hid hV20
  clear hV20 hsV20
  replace PL := Lib.hid (PL.out.keep hb)
  replace PG0 := Lib.hid (PG0.out.keep hb)
  replace HB := Lib.hid (HB.out.trans (hb.mono HB.out.size))
  clear hb
  have PG1 := Lib.hid hpG1
  clear hpG1
  obtain ⟨V21, hV21⟩ : ∃ V, V = V20.alloc (Obj.cells #[.int .i64 0, .int .i64 2, .int .i64 0] 3) := ⟨_, rfl⟩
  have hsV21 : V20.heap.size = w18.heap.size + 2 := HSV20.out
  have hpG2 : IsAt V21 (some ⟨w18.heap.size + 2, 0, none⟩) [0, 2, 0] := by rw [← hsV21, hV21]; exact lit_at V20 [0, 2, 0]
  have HSV21 : Hid (V21.heap.size = w18.heap.size + 3) := Lib.hid (by rw [hV21, World.size_alloc, hsV21])
  have hb : Below V20.heap.size V20 V21 := by rw [hV21]; exact (Below.refl _ _).alloc (Nat.le_refl _) _
  have HV21 := Lib.hid hV21
  clear hV21 hsV21
  replace PL := Lib.hid (PL.out.keep hb)
  replace PG0 := Lib.hid (PG0.out.keep hb)
  replace PG1 := Lib.hid (PG1.out.keep hb)
  replace HB := Lib.hid (HB.out.trans (hb.mono HB.out.size))
  clear hb
  have PG2 := Lib.hid hpG2
  clear hpG2
  obtain ⟨V22, hV22⟩ : ∃ V, V = V21.alloc (Obj.cells #[.int .i64 1, .int .i64 0, .int .i64 1] 3) := ⟨_, rfl⟩
  have hsV22 : V21.heap.size = w18.heap.size + 3 := HSV21.out
  have hpG3 : IsAt V22 (some ⟨w18.heap.size + 3, 0, none⟩) [1, 0, 1] := by rw [← hsV22, hV22]; exact lit_at V21 [1, 0, 1]
  have HSV22 : Hid (V22.heap.size = w18.heap.size + 4) := Lib.hid (by rw [hV22, World.size_alloc, hsV22])
  have hb : Below V21.heap.size V21 V22 := by rw [hV22]; exact (Below.refl _ _).alloc (Nat.le_refl _) _
  have HV22 := Lib.hid hV22
  clear hV22 hsV22
  replace PL := Lib.hid (PL.out.keep hb)
  replace PG0 := Lib.hid (PG0.out.keep hb)
  replace PG1 := Lib.hid (PG1.out.keep hb)
  replace PG2 := Lib.hid (PG2.out.keep hb)
  replace HB := Lib.hid (HB.out.trans (hb.mono HB.out.size))
  clear hb
  have PG3 := Lib.hid hpG3
  clear hpG3
  obtain ⟨V23, hV23⟩ : ∃ V, V = V22.alloc (Obj.cells #[.int .i64 1, .int .i64 1, .int .i64 0] 3) := ⟨_, rfl⟩
  have hsV23 : V22.heap.size = w18.heap.size + 4 := HSV22.out
  have hpG4 : IsAt V23 (some ⟨w18.heap.size + 4, 0, none⟩) [1, 1, 0] := by rw [← hsV23, hV23]; exact lit_at V22 [1, 1, 0]
  have HSV23 : Hid (V23.heap.size = w18.heap.size + 5) := Lib.hid (by rw [hV23, World.size_alloc, hsV23])
  have hb : Below V22.heap.size V22 V23 := by rw [hV23]; exact (Below.refl _ _).alloc (Nat.le_refl _) _
  have HV23 := Lib.hid hV23
  clear hV23 hsV23
  replace PL := Lib.hid (PL.out.keep hb)
  replace PG0 := Lib.hid (PG0.out.keep hb)
  replace PG1 := Lib.hid (PG1.out.keep hb)
  replace PG2 := Lib.hid (PG2.out.keep hb)
  replace PG3 := Lib.hid (PG3.out.keep hb)
  replace HB := Lib.hid (HB.out.trans (hb.mono HB.out.size))
  clear hb
  have PG4 := Lib.hid hpG4
  clear hpG4
  obtain ⟨V24, hV24⟩ : ∃ V, V = V23.alloc (Obj.cells #[.int .i64 2, .int .i64 0, .int .i64 0] 3) := ⟨_, rfl⟩
  have hsV24 : V23.heap.size = w18.heap.size + 5 := HSV23.out
  have hpG5 : IsAt V24 (some ⟨w18.heap.size + 5, 0, none⟩) [2, 0, 0] := by rw [← hsV24, hV24]; exact lit_at V23 [2, 0, 0]
  have HSV24 : Hid (V24.heap.size = w18.heap.size + 6) := Lib.hid (by rw [hV24, World.size_alloc, hsV24])
  have hb : Below V23.heap.size V23 V24 := by rw [hV24]; exact (Below.refl _ _).alloc (Nat.le_refl _) _
  have HV24 := Lib.hid hV24
  clear hV24 hsV24
  replace PL := Lib.hid (PL.out.keep hb)
  replace PG0 := Lib.hid (PG0.out.keep hb)
  replace PG1 := Lib.hid (PG1.out.keep hb)
  replace PG2 := Lib.hid (PG2.out.keep hb)
  replace PG3 := Lib.hid (PG3.out.keep hb)
  replace PG4 := Lib.hid (PG4.out.keep hb)
  replace HB := Lib.hid (HB.out.trans (hb.mono HB.out.size))
  clear hb
  have PG5 := Lib.hid hpG5
  clear hpG5
  obtain ⟨V25, hV25⟩ : ∃ V, V = V24.alloc (Obj.cells #[.slice (some ⟨w18.heap.size, 0, none⟩) 3 3, .slice (some ⟨w18.heap.size + 1, 0, none⟩) 3 3, .slice (some ⟨w18.heap.size + 2, 0, none⟩) 3 3, .slice (some ⟨w18.heap.size + 3, 0, none⟩) 3 3, .slice (some ⟨w18.heap.size + 4, 0, none⟩) 3 3, .slice (some ⟨w18.heap.size + 5, 0, none⟩) 3 3] 23) := ⟨_, rfl⟩
  have hsV25 : V24.heap.size = w18.heap.size + 6 := HSV24.out
  have hpGG : LsAt V25 (some ⟨w18.heap.size + 6, 0, none⟩) [[0, 0, 2], [0, 1, 1], [0, 2, 0], [1, 0, 1], [1, 1, 0], [2, 0, 0]] := by rw [← hsV25, hV25]; exact lits_at V24 [DX.mk (some ⟨w18.heap.size, 0, none⟩) [0, 0, 2] 3, DX.mk (some ⟨w18.heap.size + 1, 0, none⟩) [0, 1, 1] 3, DX.mk (some ⟨w18.heap.size + 2, 0, none⟩) [0, 2, 0] 3, DX.mk (some ⟨w18.heap.size + 3, 0, none⟩) [1, 0, 1] 3, DX.mk (some ⟨w18.heap.size + 4, 0, none⟩) [1, 1, 0] 3, DX.mk (some ⟨w18.heap.size + 5, 0, none⟩) [2, 0, 0] 3] (by simp only [List.forall_mem_cons]; exact ⟨PG0.out, PG1.out, PG2.out, PG3.out, PG4.out, PG5.out, fun _ h => by simp at h⟩)
  have HSV25 : Hid (V25.heap.size = w18.heap.size + 7) := Lib.hid (by rw [hV25, World.size_alloc, hsV25])
  have hb : Below V24.heap.size V24 V25 := by rw [hV25]; exact (Below.refl _ _).alloc (Nat.le_refl _) _
  have HV25 := Lib.hid hV25
  clear hV25 hsV25
  replace PL := Lib.hid (PL.out.keep hb)
  replace PG0 := Lib.hid (PG0.out.keep hb)
  replace PG1 := Lib.hid (PG1.out.keep hb)
  replace PG2 := Lib.hid (PG2.out.keep hb)
  replace PG3 := Lib.hid (PG3.out.keep hb)
  replace PG4 := Lib.hid (PG4.out.keep hb)
  replace PG5 := Lib.hid (PG5.out.keep hb)
  replace HB := Lib.hid (HB.out.trans (hb.mono HB.out.size))
  clear hb
  have PGG := Lib.hid hpGG
  clear hpGG
  clear PG0 PG1 PG2 PG3 PG4 PG5
  go_wp2_with fail
  rw [← HV19.out]
  rw [← HV20.out]
  rw [← HV21.out]
  rw [← HV22.out]
  rw [← HV23.out]
  rw [← HV24.out]
  rw [← HV25.out]
  refine (CSAA.out V25 _ _ _ _ PL.out PGG.out).mono ?_
  rintro e w26 ⟨rfl, hb⟩
  clear PGG
  clear PL
  replace HB := Lib.hid (HB.out.trans (hb.mono HB.out.size))
  clear hb
  obtain ⟨V27, hV27⟩ : ∃ V, V = w26.alloc (Obj.cells #[.int .i64 2, .int .i64 0] 3) := ⟨_, rfl⟩
  have hsV27 : w26.heap.size = w26.heap.size := rfl
  have hpB : IsAt V27 (some ⟨w26.heap.size, 0, none⟩) [2, 0] := by rw [← hsV27, hV27]; exact lit_at w26 [2, 0]
  have HSV27 : Hid (V27.heap.size = w26.heap.size + 1) := Lib.hid (by rw [hV27, World.size_alloc, hsV27])
  have hb : Below w26.heap.size w26 V27 := by rw [hV27]; exact (Below.refl _ _).alloc (Nat.le_refl _) _
  have HV27 := Lib.hid hV27
  clear hV27 hsV27
  replace HB := Lib.hid (HB.out.trans (hb.mono HB.out.size))
  clear hb
  have PB := Lib.hid hpB
  clear hpB
  obtain ⟨V28, hV28⟩ : ∃ V, V = V27.alloc (Obj.cells #[.int .i64 1, .int .i64 5] 3) := ⟨_, rfl⟩
  have hsV28 : V27.heap.size = w26.heap.size + 1 := HSV27.out
  have hpC : IsAt V28 (some ⟨w26.heap.size + 1, 0, none⟩) [1, 5] := by rw [← hsV28, hV28]; exact lit_at V27 [1, 5]
  have HSV28 : Hid (V28.heap.size = w26.heap.size + 2) := Lib.hid (by rw [hV28, World.size_alloc, hsV28])
  have hb : Below V27.heap.size V27 V28 := by rw [hV28]; exact (Below.refl _ _).alloc (Nat.le_refl _) _
  have HV28 := Lib.hid hV28
  clear hV28 hsV28
  replace PB := Lib.hid (PB.out.keep hb)
  replace HB := Lib.hid (HB.out.trans (hb.mono HB.out.size))
  clear hb
  have PC := Lib.hid hpC
  clear hpC
  go_wp2_with fail
  rw [← HV27.out]
  rw [← HV28.out]
  refine (CMEET.out V28 _ _ _ _ PB.out PC.out).mono ?_
  rintro e w29 ⟨p7, q7, rfl, hpY, hb⟩
  replace PB := Lib.hid (PB.out.keep hb)
  replace PC := Lib.hid (PC.out.keep hb)
  replace HB := Lib.hid (HB.out.trans (hb.mono HB.out.size))
  clear hb
  have PY := Lib.hid hpY
  clear hpY
  go_wp2_with fail
  refine (CJOIN.out w29 _ _ _ _ PB.out PC.out).mono ?_
  rintro e w30 ⟨p8, q8, rfl, hpZ, hb⟩
  replace PB := Lib.hid (PB.out.keep hb)
  replace PC := Lib.hid (PC.out.keep hb)
  replace PY := Lib.hid (PY.out.keep hb)
  replace HB := Lib.hid (HB.out.trans (hb.mono HB.out.size))
  clear hb
  have PZ := Lib.hid hpZ
  clear hpZ
  go_wp2_with fail
  refine (CCMP.out w30 _ _ _ _ PB.out PC.out).mono ?_
  rintro e w31 ⟨rfl, hb⟩
  replace PB := Lib.hid (PB.out.keep hb)
  replace PC := Lib.hid (PC.out.keep hb)
  replace PY := Lib.hid (PY.out.keep hb)
  replace PZ := Lib.hid (PZ.out.keep hb)
  replace HB := Lib.hid (HB.out.trans (hb.mono HB.out.size))
  clear hb
  go_wp2_with fail
  refine (CABV.out w31 _ _ _ _ PB.out PC.out).mono ?_
  rintro e w32 ⟨rfl, hb⟩
  clear PB
  clear PC
  replace PY := Lib.hid (PY.out.keep hb)
  replace PZ := Lib.hid (PZ.out.keep hb)
  replace HB := Lib.hid (HB.out.trans (hb.mono HB.out.size))
  clear hb
  obtain ⟨V33, hV33⟩ : ∃ V, V = w32.alloc (Obj.cells #[.int .i64 1, .int .i64 0] 3) := ⟨_, rfl⟩
  have hsV33 : w32.heap.size = w32.heap.size := rfl
  have hpL8 : IsAt V33 (some ⟨w32.heap.size, 0, none⟩) [1, 0] := by rw [← hsV33, hV33]; exact lit_at w32 [1, 0]
  have HSV33 : Hid (V33.heap.size = w32.heap.size + 1) := Lib.hid (by rw [hV33, World.size_alloc, hsV33])
  have hb : Below w32.heap.size w32 V33 := by rw [hV33]; exact (Below.refl _ _).alloc (Nat.le_refl _) _
  have HV33 := Lib.hid hV33
  clear hV33 hsV33
  replace PY := Lib.hid (PY.out.keep hb)
  replace PZ := Lib.hid (PZ.out.keep hb)
  replace HB := Lib.hid (HB.out.trans (hb.mono HB.out.size))
  clear hb
  have PL8 := Lib.hid hpL8
  clear hpL8
  go_wp2_with fail
  rw [← HV33.out]
  refine (CSAM.out V33 _ _ _ _ [1, 0] (by simp) PY.out PL8.out).mono ?_
  rintro e w34 ⟨rfl, hb⟩
  clear PL8
  clear PY
  replace PZ := Lib.hid (PZ.out.keep hb)
  replace HB := Lib.hid (HB.out.trans (hb.mono HB.out.size))
  clear hb
  obtain ⟨V35, hV35⟩ : ∃ V, V = w34.alloc (Obj.cells #[.int .i64 2, .int .i64 5] 3) := ⟨_, rfl⟩
  have hsV35 : w34.heap.size = w34.heap.size := rfl
  have hpL9 : IsAt V35 (some ⟨w34.heap.size, 0, none⟩) [2, 5] := by rw [← hsV35, hV35]; exact lit_at w34 [2, 5]
  have HSV35 : Hid (V35.heap.size = w34.heap.size + 1) := Lib.hid (by rw [hV35, World.size_alloc, hsV35])
  have hb : Below w34.heap.size w34 V35 := by rw [hV35]; exact (Below.refl _ _).alloc (Nat.le_refl _) _
  have HV35 := Lib.hid hV35
  clear hV35 hsV35
  replace PZ := Lib.hid (PZ.out.keep hb)
  replace HB := Lib.hid (HB.out.trans (hb.mono HB.out.size))
  clear hb
  have PL9 := Lib.hid hpL9
  clear hpL9
  go_wp2_with fail
  rw [← HV35.out]
  refine (CSAM.out V35 _ _ _ _ [2, 5] (by simp) PZ.out PL9.out).mono ?_
  rintro e w36 ⟨rfl, hb⟩
  clear PL9
  clear PZ
  replace HB := Lib.hid (HB.out.trans (hb.mono HB.out.size))
  clear hb
  go_wp2
  go_ret
  exact ⟨rfl, HB.out⟩
end Go.Proofs.Ytalbdggpghkcfaa
