/- The law Group. -/
import Derived.Test.YtalbdggpghkcfaaEg0
namespace Go.Proofs.Ytalbdggpghkcfaa
open Go.RowKit Go.Proofs.Gr Go.Proofs.Cp
attribute [local go_sem] Oper.semAt_some

set_option maxHeartbeats 12800000 in
set_option maxRecDepth 100000 in
theorem group_any (a : Option Addr) (c : Nat) (A : List Int) (b : Option Addr) (d : Nat) (B : List Int) (p : Option Addr) (q : Nat) (C : List Int) (w : World) (h1 : IsAt w a A) (h2 : IsAt w b B) (h3 : IsAt w p C) :
    Calls Try.prog 8 #[.slice a A.length c, .slice b B.length d, .slice p C.length q] w (fun e w' => e = .returned (.bool true) ∧ Below w.heap.size w w') := by
  have HAW := Lib.hid (fun w => awake_any w)
  have HB : Hid (Below w.heap.size w w) := Lib.hid (Below.refl _ _)
  have PA := Lib.hid h1
  have PB := Lib.hid h2
  have PC := Lib.hid h3
  clear h1 h2 h3
  have HBAB := Lib.hid (fun u h1 h2 => rBoth_all a b c d A B u h1 h2)
  have HBBC := Lib.hid (fun u h1 h2 => rBoth_all b p d q B C u h1 h2)
  by_cases k1 : bothD A B ≠ 0
  · generalize bothD A B = kab at *
    have q0 : (((kab : Nat) : Int) != 0) = true := by rw [bne_iff_ne]; omega
    go_enter Try.func8, Try.ntmps8
    go_wp2_with fail
    refine (HBAB.out w PA.out PB.out).mono ?_
    rintro e w0 ⟨rfl, hb⟩
    replace PA := Lib.hid (PA.out.keep hb)
    replace PB := Lib.hid (PB.out.keep hb)
    replace PC := Lib.hid (PC.out.keep hb)
    replace HB := Lib.hid (HB.out.trans (hb.mono HB.out.size))
    clear hb
    go_wp2_with fail
    refine (HAW.out w0).mono ?_
    rintro e w1 ⟨rfl, hb⟩
    replace PA := Lib.hid (PA.out.keep hb)
    replace PB := Lib.hid (PB.out.keep hb)
    replace PC := Lib.hid (PC.out.keep hb)
    replace HB := Lib.hid (HB.out.trans (hb.mono HB.out.size))
    clear hb
    go_wp2
    go_ret
    exact ⟨rfl, HB.out⟩
  have k1' : bothD A B = 0 := by omega
  rw [k1'] at HBAB
  by_cases k2 : bothD B C ≠ 0
  · generalize bothD B C = kbc at *
    have q0 : (((kbc : Nat) : Int) != 0) = true := by rw [bne_iff_ne]; omega
    go_enter Try.func8, Try.ntmps8
    go_wp2_with fail
    refine (HBAB.out w PA.out PB.out).mono ?_
    rintro e w0 ⟨rfl, hb⟩
    replace PA := Lib.hid (PA.out.keep hb)
    replace PB := Lib.hid (PB.out.keep hb)
    replace PC := Lib.hid (PC.out.keep hb)
    replace HB := Lib.hid (HB.out.trans (hb.mono HB.out.size))
    clear hb
    go_wp2_with fail
    refine (HBBC.out w0 PB.out PC.out).mono ?_
    rintro e w1 ⟨rfl, hb⟩
    replace PA := Lib.hid (PA.out.keep hb)
    replace PB := Lib.hid (PB.out.keep hb)
    replace PC := Lib.hid (PC.out.keep hb)
    replace HB := Lib.hid (HB.out.trans (hb.mono HB.out.size))
    clear hb
    go_wp2_with fail
    refine (HAW.out w1).mono ?_
    rintro e w2 ⟨rfl, hb⟩
    replace PA := Lib.hid (PA.out.keep hb)
    replace PB := Lib.hid (PB.out.keep hb)
    replace PC := Lib.hid (PC.out.keep hb)
    replace HB := Lib.hid (HB.out.trans (hb.mono HB.out.size))
    clear hb
    go_wp2
    go_ret
    exact ⟨rfl, HB.out⟩
  have k2' : bothD B C = 0 := by omega
  rw [k2'] at HBBC
  obtain ⟨dA, dB, -⟩ := both_div k1'
  obtain ⟨-, dC, -⟩ := both_div k2'
  have HSA := Lib.hid (fun u h => rSmall_any a c A (by have := dA.le; omega) u h)
  have HSB := Lib.hid (fun u h => rSmall_any b d B (by have := dB.le; omega) u h)
  have HSC := Lib.hid (fun u h => rSmall_any p q C (by have := dC.le; omega) u h)
  by_cases sA : smallD A = false
  · rw [sA] at HSA
    go_enter Try.func8, Try.ntmps8
    go_wp2_with fail
    refine (HBAB.out w PA.out PB.out).mono ?_
    rintro e w0 ⟨rfl, hb⟩
    replace PA := Lib.hid (PA.out.keep hb)
    replace PB := Lib.hid (PB.out.keep hb)
    replace PC := Lib.hid (PC.out.keep hb)
    replace HB := Lib.hid (HB.out.trans (hb.mono HB.out.size))
    clear hb
    go_wp2_with fail
    refine (HBBC.out w0 PB.out PC.out).mono ?_
    rintro e w1 ⟨rfl, hb⟩
    replace PA := Lib.hid (PA.out.keep hb)
    replace PB := Lib.hid (PB.out.keep hb)
    replace PC := Lib.hid (PC.out.keep hb)
    replace HB := Lib.hid (HB.out.trans (hb.mono HB.out.size))
    clear hb
    go_wp2_with fail
    refine (HSA.out w1 PA.out).mono ?_
    rintro e w2 ⟨rfl, hb⟩
    replace PA := Lib.hid (PA.out.keep hb)
    replace PB := Lib.hid (PB.out.keep hb)
    replace PC := Lib.hid (PC.out.keep hb)
    replace HB := Lib.hid (HB.out.trans (hb.mono HB.out.size))
    clear hb
    go_wp2_with fail
    refine (HAW.out w2).mono ?_
    rintro e w3 ⟨rfl, hb⟩
    replace PA := Lib.hid (PA.out.keep hb)
    replace PB := Lib.hid (PB.out.keep hb)
    replace PC := Lib.hid (PC.out.keep hb)
    replace HB := Lib.hid (HB.out.trans (hb.mono HB.out.size))
    clear hb
    go_wp2
    go_ret
    exact ⟨rfl, HB.out⟩
  have tA : smallD A = true := by cases h : smallD A with
    | false => exact absurd h sA
    | true => rfl
  rw [tA] at HSA
  by_cases sB : smallD B = false
  · rw [sB] at HSB
    go_enter Try.func8, Try.ntmps8
    go_wp2_with fail
    refine (HBAB.out w PA.out PB.out).mono ?_
    rintro e w0 ⟨rfl, hb⟩
    replace PA := Lib.hid (PA.out.keep hb)
    replace PB := Lib.hid (PB.out.keep hb)
    replace PC := Lib.hid (PC.out.keep hb)
    replace HB := Lib.hid (HB.out.trans (hb.mono HB.out.size))
    clear hb
    go_wp2_with fail
    refine (HBBC.out w0 PB.out PC.out).mono ?_
    rintro e w1 ⟨rfl, hb⟩
    replace PA := Lib.hid (PA.out.keep hb)
    replace PB := Lib.hid (PB.out.keep hb)
    replace PC := Lib.hid (PC.out.keep hb)
    replace HB := Lib.hid (HB.out.trans (hb.mono HB.out.size))
    clear hb
    go_wp2_with fail
    refine (HSA.out w1 PA.out).mono ?_
    rintro e w2 ⟨rfl, hb⟩
    replace PA := Lib.hid (PA.out.keep hb)
    replace PB := Lib.hid (PB.out.keep hb)
    replace PC := Lib.hid (PC.out.keep hb)
    replace HB := Lib.hid (HB.out.trans (hb.mono HB.out.size))
    clear hb
    go_wp2_with fail
    refine (HSB.out w2 PB.out).mono ?_
    rintro e w3 ⟨rfl, hb⟩
    replace PA := Lib.hid (PA.out.keep hb)
    replace PB := Lib.hid (PB.out.keep hb)
    replace PC := Lib.hid (PC.out.keep hb)
    replace HB := Lib.hid (HB.out.trans (hb.mono HB.out.size))
    clear hb
    go_wp2_with fail
    refine (HAW.out w3).mono ?_
    rintro e w4 ⟨rfl, hb⟩
    replace PA := Lib.hid (PA.out.keep hb)
    replace PB := Lib.hid (PB.out.keep hb)
    replace PC := Lib.hid (PC.out.keep hb)
    replace HB := Lib.hid (HB.out.trans (hb.mono HB.out.size))
    clear hb
    go_wp2
    go_ret
    exact ⟨rfl, HB.out⟩
  have tB : smallD B = true := by cases h : smallD B with
    | false => exact absurd h sB
    | true => rfl
  rw [tB] at HSB
  by_cases sC : smallD C = false
  · rw [sC] at HSC
    go_enter Try.func8, Try.ntmps8
    go_wp2_with fail
    refine (HBAB.out w PA.out PB.out).mono ?_
    rintro e w0 ⟨rfl, hb⟩
    replace PA := Lib.hid (PA.out.keep hb)
    replace PB := Lib.hid (PB.out.keep hb)
    replace PC := Lib.hid (PC.out.keep hb)
    replace HB := Lib.hid (HB.out.trans (hb.mono HB.out.size))
    clear hb
    go_wp2_with fail
    refine (HBBC.out w0 PB.out PC.out).mono ?_
    rintro e w1 ⟨rfl, hb⟩
    replace PA := Lib.hid (PA.out.keep hb)
    replace PB := Lib.hid (PB.out.keep hb)
    replace PC := Lib.hid (PC.out.keep hb)
    replace HB := Lib.hid (HB.out.trans (hb.mono HB.out.size))
    clear hb
    go_wp2_with fail
    refine (HSA.out w1 PA.out).mono ?_
    rintro e w2 ⟨rfl, hb⟩
    replace PA := Lib.hid (PA.out.keep hb)
    replace PB := Lib.hid (PB.out.keep hb)
    replace PC := Lib.hid (PC.out.keep hb)
    replace HB := Lib.hid (HB.out.trans (hb.mono HB.out.size))
    clear hb
    go_wp2_with fail
    refine (HSB.out w2 PB.out).mono ?_
    rintro e w3 ⟨rfl, hb⟩
    replace PA := Lib.hid (PA.out.keep hb)
    replace PB := Lib.hid (PB.out.keep hb)
    replace PC := Lib.hid (PC.out.keep hb)
    replace HB := Lib.hid (HB.out.trans (hb.mono HB.out.size))
    clear hb
    go_wp2_with fail
    refine (HSC.out w3 PC.out).mono ?_
    rintro e w4 ⟨rfl, hb⟩
    replace PA := Lib.hid (PA.out.keep hb)
    replace PB := Lib.hid (PB.out.keep hb)
    replace PC := Lib.hid (PC.out.keep hb)
    replace HB := Lib.hid (HB.out.trans (hb.mono HB.out.size))
    clear hb
    go_wp2_with fail
    refine (HAW.out w4).mono ?_
    rintro e w5 ⟨rfl, hb⟩
    replace PA := Lib.hid (PA.out.keep hb)
    replace PB := Lib.hid (PB.out.keep hb)
    replace PC := Lib.hid (PC.out.keep hb)
    replace HB := Lib.hid (HB.out.trans (hb.mono HB.out.size))
    clear hb
    go_wp2
    go_ret
    exact ⟨rfl, HB.out⟩
  have tC : smallD C = true := by cases h : smallD C with
    | false => exact absurd h sC
    | true => rfl
  rw [tC] at HSC
  obtain ⟨n, bA, bB⟩ := both_bd k1' tA tB
  obtain ⟨m, bB2, bC2⟩ := both_bd k2' tB tC
  obtain rfl : n = m := by rw [← bB.len, ← bB2.len]
  obtain ⟨AB, BC, L, NG, Z, T, TW, hG⟩ := group_facts bA bB bC2
  obtain ⟨lA, lB, lC, lAB, lBC, lL, lNG, lZ, lT, lTW⟩ := hG.lens
  clear k1 k2 k1' k2' dA dB dC sA sB sC tA tB tC bA bB bB2 bC2
  have C1 : Hid (∀ u a b c d, IsAt u a A → IsAt u b B → Calls Try.prog 21 #[.slice a A.length c, .slice b B.length d] u (fun e x => ∃ p q, e = .returned (.tuple #[.slice p AB.length q, .int .i64 0]) ∧ IsAt x p AB ∧ Below u.heap.size u x)) := Lib.hid fun u a b c d h1 h2 => by
    have := pAdd_any a b c d A B lA lB u h1 h2
    rw [hG.ab.1, hG.ab.2] at this
    exact this
  have C2 : Hid (∀ u a b c d, IsAt u a B → IsAt u b A → Calls Try.prog 21 #[.slice a B.length c, .slice b A.length d] u (fun e x => ∃ p q, e = .returned (.tuple #[.slice p AB.length q, .int .i64 0]) ∧ IsAt x p AB ∧ Below u.heap.size u x)) := Lib.hid fun u a b c d h1 h2 => by
    have := pAdd_any a b c d B A lB lA u h1 h2
    rw [hG.ba.1, hG.ba.2] at this
    exact this
  have C3 : Hid (∀ u a b c d, IsAt u a B → IsAt u b C → Calls Try.prog 21 #[.slice a B.length c, .slice b C.length d] u (fun e x => ∃ p q, e = .returned (.tuple #[.slice p BC.length q, .int .i64 0]) ∧ IsAt x p BC ∧ Below u.heap.size u x)) := Lib.hid fun u a b c d h1 h2 => by
    have := pAdd_any a b c d B C lB lC u h1 h2
    rw [hG.bc.1, hG.bc.2] at this
    exact this
  have C4 : Hid (∀ u a b c d, IsAt u a AB → IsAt u b C → Calls Try.prog 21 #[.slice a AB.length c, .slice b C.length d] u (fun e x => ∃ p q, e = .returned (.tuple #[.slice p L.length q, .int .i64 0]) ∧ IsAt x p L ∧ Below u.heap.size u x)) := Lib.hid fun u a b c d h1 h2 => by
    have := pAdd_any a b c d AB C lAB lC u h1 h2
    rw [hG.l.1, hG.l.2] at this
    exact this
  have C5 : Hid (∀ u a b c d, IsAt u a A → IsAt u b BC → Calls Try.prog 21 #[.slice a A.length c, .slice b BC.length d] u (fun e x => ∃ p q, e = .returned (.tuple #[.slice p L.length q, .int .i64 0]) ∧ IsAt x p L ∧ Below u.heap.size u x)) := Lib.hid fun u a b c d h1 h2 => by
    have := pAdd_any a b c d A BC lA lBC u h1 h2
    rw [hG.r.1, hG.r.2] at this
    exact this
  have C6 : Hid (∀ u a b c d, IsAt u a AB → IsAt u b B → Calls Try.prog 23 #[.slice a AB.length c, .slice b B.length d] u (fun e x => ∃ p q, e = .returned (.tuple #[.slice p A.length q, .int .i64 0]) ∧ IsAt x p A ∧ Below u.heap.size u x)) := Lib.hid fun u a b c d h1 h2 => by
    have := pSub_any a b c d AB B lAB lB u h1 h2
    rw [hG.back.1, hG.back.2] at this
    exact this
  have C7 : Hid (∀ u a c, IsAt u a A → Calls Try.prog 25 #[.slice a A.length c] u (fun e x => ∃ p q, e = .returned (.tuple #[.slice p NG.length q, .int .i64 0]) ∧ IsAt x p NG ∧ Below u.heap.size u x)) := Lib.hid fun u a c h => by
    have := pNeg_any a c A lA u h
    rw [hG.neg.1, hG.neg.2] at this
    exact this
  have C8 : Hid (∀ u a b c d, IsAt u a A → IsAt u b NG → Calls Try.prog 21 #[.slice a A.length c, .slice b NG.length d] u (fun e x => ∃ p q, e = .returned (.tuple #[.slice p Z.length q, .int .i64 0]) ∧ IsAt x p Z ∧ Below u.heap.size u x)) := Lib.hid fun u a b c d h1 h2 => by
    have := pAdd_any a b c d A NG lA lNG u h1 h2
    rw [hG.zero.1, hG.zero.2] at this
    exact this
  have C9 : Hid (∀ u, Calls Try.prog 14 #[.int .i64 (A.length : Int)] u (fun e x => ∃ p q, e = .returned (.tuple #[.slice p Z.length q, .int .i64 0]) ∧ IsAt x p Z ∧ Below u.heap.size u x)) := Lib.hid fun u => by
    have := (pZero_any (A.length : Int) u).mono fun e x h => GivesRE.weak h
    rw [hG.none.1, hG.none.2] at this
    exact this
  have D1 : Hid (∀ u a c, IsAt u a A → Calls Try.prog 29 #[.slice a A.length c] u (fun e x => e = .returned (.tuple #[.int .i64 (sumD A), .int .i64 0]) ∧ Below u.heap.size u x)) := Lib.hid fun u a c h => by
    have := pDegree_any a c A lA u h
    rw [hG.dA.1, hG.dA.2] at this
    exact this
  have D2 : Hid (∀ u a c, IsAt u a B → Calls Try.prog 29 #[.slice a B.length c] u (fun e x => e = .returned (.tuple #[.int .i64 (sumD B), .int .i64 0]) ∧ Below u.heap.size u x)) := Lib.hid fun u a c h => by
    have := pDegree_any a c B lB u h
    rw [hG.dB.1, hG.dB.2] at this
    exact this
  have D3 : Hid (∀ u a c, IsAt u a AB → Calls Try.prog 29 #[.slice a AB.length c] u (fun e x => e = .returned (.tuple #[.int .i64 (sumD A + sumD B), .int .i64 0]) ∧ Below u.heap.size u x)) := Lib.hid fun u a c h => by
    have := pDegree_any a c AB lAB u h
    rw [hG.dAB.1, hG.dAB.2] at this
    exact this
  have C10 : Hid (∀ u a c, IsAt u a A → Calls Try.prog 27 #[.slice a A.length c, .int .i64 3] u (fun e x => ∃ p q, e = .returned (.tuple #[.slice p T.length q, .int .i64 0]) ∧ IsAt x p T ∧ Below u.heap.size u x)) := Lib.hid fun u a c h => by
    have := pScale_any a c A lA 3 u h
    rw [hG.three.1, hG.three.2] at this
    exact this
  have C11 : Hid (∀ u a b c d, IsAt u a A → IsAt u b A → Calls Try.prog 21 #[.slice a A.length c, .slice b A.length d] u (fun e x => ∃ p q, e = .returned (.tuple #[.slice p TW.length q, .int .i64 0]) ∧ IsAt x p TW ∧ Below u.heap.size u x)) := Lib.hid fun u a b c d h1 h2 => by
    have := pAdd_any a b c d A A lA lA u h1 h2
    rw [hG.twice.1, hG.twice.2] at this
    exact this
  have C12 : Hid (∀ u a b c d, IsAt u a TW → IsAt u b A → Calls Try.prog 21 #[.slice a TW.length c, .slice b A.length d] u (fun e x => ∃ p q, e = .returned (.tuple #[.slice p T.length q, .int .i64 0]) ∧ IsAt x p T ∧ Below u.heap.size u x)) := Lib.hid fun u a b c d h1 h2 => by
    have := pAdd_any a b c d TW A lTW lA u h1 h2
    rw [hG.again.1, hG.again.2] at this
    exact this
  have HSM := Lib.hid same_true
  have bdA := hG.bdA
  have bdB := hG.bdB
  clear hG
  generalize sumD A = x at *
  generalize sumD B = y at *
  go_enter Try.func8, Try.ntmps8
  go_wp2_with fail
  refine (HBAB.out w PA.out PB.out).mono ?_
  rintro e w0 ⟨rfl, hb⟩
  replace PA := Lib.hid (PA.out.keep hb)
  replace PB := Lib.hid (PB.out.keep hb)
  replace PC := Lib.hid (PC.out.keep hb)
  replace HB := Lib.hid (HB.out.trans (hb.mono HB.out.size))
  clear hb
  go_wp2_with fail
  refine (HBBC.out w0 PB.out PC.out).mono ?_
  rintro e w1 ⟨rfl, hb⟩
  replace PA := Lib.hid (PA.out.keep hb)
  replace PB := Lib.hid (PB.out.keep hb)
  replace PC := Lib.hid (PC.out.keep hb)
  replace HB := Lib.hid (HB.out.trans (hb.mono HB.out.size))
  clear hb
  go_wp2_with fail
  refine (HSA.out w1 PA.out).mono ?_
  rintro e w2 ⟨rfl, hb⟩
  replace PA := Lib.hid (PA.out.keep hb)
  replace PB := Lib.hid (PB.out.keep hb)
  replace PC := Lib.hid (PC.out.keep hb)
  replace HB := Lib.hid (HB.out.trans (hb.mono HB.out.size))
  clear hb
  go_wp2_with fail
  refine (HSB.out w2 PB.out).mono ?_
  rintro e w3 ⟨rfl, hb⟩
  replace PA := Lib.hid (PA.out.keep hb)
  replace PB := Lib.hid (PB.out.keep hb)
  replace PC := Lib.hid (PC.out.keep hb)
  replace HB := Lib.hid (HB.out.trans (hb.mono HB.out.size))
  clear hb
  go_wp2_with fail
  refine (HSC.out w3 PC.out).mono ?_
  rintro e w4 ⟨rfl, hb⟩
  replace PA := Lib.hid (PA.out.keep hb)
  replace PB := Lib.hid (PB.out.keep hb)
  replace PC := Lib.hid (PC.out.keep hb)
  replace HB := Lib.hid (HB.out.trans (hb.mono HB.out.size))
  clear hb
  go_wp2_with fail
  refine (C1.out w4 _ _ _ _ PA.out PB.out).mono ?_
  rintro e w5 ⟨aV1, cV1, rfl, hpV1, hb⟩
  replace PA := Lib.hid (PA.out.keep hb)
  replace PB := Lib.hid (PB.out.keep hb)
  replace PC := Lib.hid (PC.out.keep hb)
  replace HB := Lib.hid (HB.out.trans (hb.mono HB.out.size))
  clear hb
  have PV1 := Lib.hid hpV1
  clear hpV1
  go_wp2_with fail
  refine (C2.out w5 _ _ _ _ PB.out PA.out).mono ?_
  rintro e w6 ⟨aV2, cV2, rfl, hpV2, hb⟩
  replace PA := Lib.hid (PA.out.keep hb)
  replace PB := Lib.hid (PB.out.keep hb)
  replace PC := Lib.hid (PC.out.keep hb)
  replace PV1 := Lib.hid (PV1.out.keep hb)
  replace HB := Lib.hid (HB.out.trans (hb.mono HB.out.size))
  clear hb
  have PV2 := Lib.hid hpV2
  clear hpV2
  go_wp2_with fail
  refine (C3.out w6 _ _ _ _ PB.out PC.out).mono ?_
  rintro e w7 ⟨aV3, cV3, rfl, hpV3, hb⟩
  replace PA := Lib.hid (PA.out.keep hb)
  replace PB := Lib.hid (PB.out.keep hb)
  replace PC := Lib.hid (PC.out.keep hb)
  replace PV1 := Lib.hid (PV1.out.keep hb)
  replace PV2 := Lib.hid (PV2.out.keep hb)
  replace HB := Lib.hid (HB.out.trans (hb.mono HB.out.size))
  clear hb
  have PV3 := Lib.hid hpV3
  clear hpV3
  go_wp2_with fail
  refine (C4.out w7 _ _ _ _ PV1.out PC.out).mono ?_
  rintro e w8 ⟨aV4, cV4, rfl, hpV4, hb⟩
  replace PA := Lib.hid (PA.out.keep hb)
  replace PB := Lib.hid (PB.out.keep hb)
  replace PC := Lib.hid (PC.out.keep hb)
  replace PV1 := Lib.hid (PV1.out.keep hb)
  replace PV2 := Lib.hid (PV2.out.keep hb)
  replace PV3 := Lib.hid (PV3.out.keep hb)
  replace HB := Lib.hid (HB.out.trans (hb.mono HB.out.size))
  clear hb
  have PV4 := Lib.hid hpV4
  clear hpV4
  go_wp2_with fail
  refine (C5.out w8 _ _ _ _ PA.out PV3.out).mono ?_
  rintro e w9 ⟨aV5, cV5, rfl, hpV5, hb⟩
  replace PA := Lib.hid (PA.out.keep hb)
  replace PB := Lib.hid (PB.out.keep hb)
  replace PC := Lib.hid (PC.out.keep hb)
  replace PV1 := Lib.hid (PV1.out.keep hb)
  replace PV2 := Lib.hid (PV2.out.keep hb)
  replace PV3 := Lib.hid (PV3.out.keep hb)
  replace PV4 := Lib.hid (PV4.out.keep hb)
  replace HB := Lib.hid (HB.out.trans (hb.mono HB.out.size))
  clear hb
  have PV5 := Lib.hid hpV5
  clear hpV5
  go_wp2_with fail
  refine (C6.out w9 _ _ _ _ PV1.out PB.out).mono ?_
  rintro e w10 ⟨aV6, cV6, rfl, hpV6, hb⟩
  replace PA := Lib.hid (PA.out.keep hb)
  replace PB := Lib.hid (PB.out.keep hb)
  replace PC := Lib.hid (PC.out.keep hb)
  replace PV1 := Lib.hid (PV1.out.keep hb)
  replace PV2 := Lib.hid (PV2.out.keep hb)
  replace PV3 := Lib.hid (PV3.out.keep hb)
  replace PV4 := Lib.hid (PV4.out.keep hb)
  replace PV5 := Lib.hid (PV5.out.keep hb)
  replace HB := Lib.hid (HB.out.trans (hb.mono HB.out.size))
  clear hb
  have PV6 := Lib.hid hpV6
  clear hpV6
  go_wp2_with fail
  refine (HSM.out w10 _ _ _ _ AB lAB PV1.out PV2.out).mono ?_
  rintro e w11 ⟨rfl, hb⟩
  replace PA := Lib.hid (PA.out.keep hb)
  replace PB := Lib.hid (PB.out.keep hb)
  replace PC := Lib.hid (PC.out.keep hb)
  replace PV1 := Lib.hid (PV1.out.keep hb)
  replace PV2 := Lib.hid (PV2.out.keep hb)
  replace PV3 := Lib.hid (PV3.out.keep hb)
  replace PV4 := Lib.hid (PV4.out.keep hb)
  replace PV5 := Lib.hid (PV5.out.keep hb)
  replace PV6 := Lib.hid (PV6.out.keep hb)
  replace HB := Lib.hid (HB.out.trans (hb.mono HB.out.size))
  clear hb
  go_wp2_with fail
  refine (HSM.out w11 _ _ _ _ L lL PV4.out PV5.out).mono ?_
  rintro e w12 ⟨rfl, hb⟩
  clear PV4
  clear PV5
  clear PV3
  clear PV2
  replace PA := Lib.hid (PA.out.keep hb)
  replace PB := Lib.hid (PB.out.keep hb)
  replace PC := Lib.hid (PC.out.keep hb)
  replace PV1 := Lib.hid (PV1.out.keep hb)
  replace PV6 := Lib.hid (PV6.out.keep hb)
  replace HB := Lib.hid (HB.out.trans (hb.mono HB.out.size))
  clear hb
  go_wp2_with fail
  refine (HSM.out w12 _ _ _ _ A lA PV6.out PA.out).mono ?_
  rintro e w13 ⟨rfl, hb⟩
  clear PV6
  replace PA := Lib.hid (PA.out.keep hb)
  replace PB := Lib.hid (PB.out.keep hb)
  replace PC := Lib.hid (PC.out.keep hb)
  replace PV1 := Lib.hid (PV1.out.keep hb)
  replace HB := Lib.hid (HB.out.trans (hb.mono HB.out.size))
  clear hb
  go_wp2_with fail
  refine (C7.out w13 _ _ PA.out).mono ?_
  rintro e w14 ⟨aV7, cV7, rfl, hpV7, hb⟩
  replace PA := Lib.hid (PA.out.keep hb)
  replace PB := Lib.hid (PB.out.keep hb)
  replace PC := Lib.hid (PC.out.keep hb)
  replace PV1 := Lib.hid (PV1.out.keep hb)
  replace HB := Lib.hid (HB.out.trans (hb.mono HB.out.size))
  clear hb
  have PV7 := Lib.hid hpV7
  clear hpV7
  go_wp2_with fail
  refine (C8.out w14 _ _ _ _ PA.out PV7.out).mono ?_
  rintro e w15 ⟨aV8, cV8, rfl, hpV8, hb⟩
  replace PA := Lib.hid (PA.out.keep hb)
  replace PB := Lib.hid (PB.out.keep hb)
  replace PC := Lib.hid (PC.out.keep hb)
  replace PV1 := Lib.hid (PV1.out.keep hb)
  replace PV7 := Lib.hid (PV7.out.keep hb)
  replace HB := Lib.hid (HB.out.trans (hb.mono HB.out.size))
  clear hb
  have PV8 := Lib.hid hpV8
  clear hpV8
  go_wp2_with fail
  refine (C9.out w15).mono ?_
  rintro e w16 ⟨aV9, cV9, rfl, hpV9, hb⟩
  replace PA := Lib.hid (PA.out.keep hb)
  replace PB := Lib.hid (PB.out.keep hb)
  replace PC := Lib.hid (PC.out.keep hb)
  replace PV1 := Lib.hid (PV1.out.keep hb)
  replace PV7 := Lib.hid (PV7.out.keep hb)
  replace PV8 := Lib.hid (PV8.out.keep hb)
  replace HB := Lib.hid (HB.out.trans (hb.mono HB.out.size))
  clear hb
  have PV9 := Lib.hid hpV9
  clear hpV9
  go_wp2_with fail
  refine (D1.out w16 _ _ PA.out).mono ?_
  rintro e w17 ⟨rfl, hb⟩
  replace PA := Lib.hid (PA.out.keep hb)
  replace PB := Lib.hid (PB.out.keep hb)
  replace PC := Lib.hid (PC.out.keep hb)
  replace PV1 := Lib.hid (PV1.out.keep hb)
  replace PV7 := Lib.hid (PV7.out.keep hb)
  replace PV8 := Lib.hid (PV8.out.keep hb)
  replace PV9 := Lib.hid (PV9.out.keep hb)
  replace HB := Lib.hid (HB.out.trans (hb.mono HB.out.size))
  clear hb
  go_wp2_with fail
  refine (D2.out w17 _ _ PB.out).mono ?_
  rintro e w18 ⟨rfl, hb⟩
  replace PA := Lib.hid (PA.out.keep hb)
  replace PB := Lib.hid (PB.out.keep hb)
  replace PC := Lib.hid (PC.out.keep hb)
  replace PV1 := Lib.hid (PV1.out.keep hb)
  replace PV7 := Lib.hid (PV7.out.keep hb)
  replace PV8 := Lib.hid (PV8.out.keep hb)
  replace PV9 := Lib.hid (PV9.out.keep hb)
  replace HB := Lib.hid (HB.out.trans (hb.mono HB.out.size))
  clear hb
  go_wp2_with fail
  refine (D3.out w18 _ _ PV1.out).mono ?_
  rintro e w19 ⟨rfl, hb⟩
  replace PA := Lib.hid (PA.out.keep hb)
  replace PB := Lib.hid (PB.out.keep hb)
  replace PC := Lib.hid (PC.out.keep hb)
  replace PV1 := Lib.hid (PV1.out.keep hb)
  replace PV7 := Lib.hid (PV7.out.keep hb)
  replace PV8 := Lib.hid (PV8.out.keep hb)
  replace PV9 := Lib.hid (PV9.out.keep hb)
  replace HB := Lib.hid (HB.out.trans (hb.mono HB.out.size))
  clear hb
  go_wp2_with fail
  refine (HSM.out w19 _ _ _ _ Z lZ PV8.out PV9.out).mono ?_
  rintro e w20 ⟨rfl, hb⟩
  clear PV8
  clear PV9
  clear PV7
  clear PV1
  replace PA := Lib.hid (PA.out.keep hb)
  replace PB := Lib.hid (PB.out.keep hb)
  replace PC := Lib.hid (PC.out.keep hb)
  replace HB := Lib.hid (HB.out.trans (hb.mono HB.out.size))
  clear hb
  go_wp2_with fail
  refine (C10.out w20 _ _ PA.out).mono ?_
  rintro e w21 ⟨aV10, cV10, rfl, hpV10, hb⟩
  replace PA := Lib.hid (PA.out.keep hb)
  replace PB := Lib.hid (PB.out.keep hb)
  replace PC := Lib.hid (PC.out.keep hb)
  replace HB := Lib.hid (HB.out.trans (hb.mono HB.out.size))
  clear hb
  have PV10 := Lib.hid hpV10
  clear hpV10
  go_wp2_with fail
  refine (C11.out w21 _ _ _ _ PA.out PA.out).mono ?_
  rintro e w22 ⟨aV11, cV11, rfl, hpV11, hb⟩
  replace PA := Lib.hid (PA.out.keep hb)
  replace PB := Lib.hid (PB.out.keep hb)
  replace PC := Lib.hid (PC.out.keep hb)
  replace PV10 := Lib.hid (PV10.out.keep hb)
  replace HB := Lib.hid (HB.out.trans (hb.mono HB.out.size))
  clear hb
  have PV11 := Lib.hid hpV11
  clear hpV11
  go_wp2_with fail
  refine (C12.out w22 _ _ _ _ PV11.out PA.out).mono ?_
  rintro e w23 ⟨aV12, cV12, rfl, hpV12, hb⟩
  replace PA := Lib.hid (PA.out.keep hb)
  replace PB := Lib.hid (PB.out.keep hb)
  replace PC := Lib.hid (PC.out.keep hb)
  replace PV10 := Lib.hid (PV10.out.keep hb)
  replace PV11 := Lib.hid (PV11.out.keep hb)
  replace HB := Lib.hid (HB.out.trans (hb.mono HB.out.size))
  clear hb
  have PV12 := Lib.hid hpV12
  clear hpV12
  go_wp2_with fail
  refine (HSM.out w23 _ _ _ _ T lT PV10.out PV12.out).mono ?_
  rintro e w24 ⟨rfl, hb⟩
  replace PA := Lib.hid (PA.out.keep hb)
  replace PB := Lib.hid (PB.out.keep hb)
  replace PC := Lib.hid (PC.out.keep hb)
  replace PV10 := Lib.hid (PV10.out.keep hb)
  replace PV11 := Lib.hid (PV11.out.keep hb)
  replace PV12 := Lib.hid (PV12.out.keep hb)
  replace HB := Lib.hid (HB.out.trans (hb.mono HB.out.size))
  clear hb
  go_wp2_with fail
  refine (HAW.out w24).mono ?_
  rintro e w25 ⟨rfl, hb⟩
  replace PA := Lib.hid (PA.out.keep hb)
  replace PB := Lib.hid (PB.out.keep hb)
  replace PC := Lib.hid (PC.out.keep hb)
  replace PV10 := Lib.hid (PV10.out.keep hb)
  replace PV11 := Lib.hid (PV11.out.keep hb)
  replace PV12 := Lib.hid (PV12.out.keep hb)
  replace HB := Lib.hid (HB.out.trans (hb.mono HB.out.size))
  clear hb
  go_wp2
  go_ret
  exact ⟨rfl, HB.out⟩
end Go.Proofs.Ytalbdggpghkcfaa
