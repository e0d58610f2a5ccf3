/- The laws Looks and Compares. -/
import Derived.Test.YtalbdggpghkcfaaEc
import Derived.Test.YtalbdggpghkcfaaCn
namespace Go.Proofs.Ytalbdggpghkcfaa
open Go.RowKit Go.Proofs.Gr Go.Proofs.Cp
attribute [local go_sem] Oper.semAt_some

set_option maxHeartbeats 12800000 in
set_option maxRecDepth 100000 in
theorem looks_any (a : Option Addr) (c : Nat) (D : List Int) (w : World) (h : IsAt w a D) :
    Calls Try.prog 5 #[.slice a D.length c] w (fun e w' => e = .returned (.bool true) ∧ Below w.heap.size w w') := by
  have HAW := Lib.hid (fun w => awake_any w)
  by_cases hf : ¬ D.length ≤ 24
  · have HFW : Hid (∀ w, Calls Try.prog 12 #[.slice a D.length c] w (fun e w' => e = .returned (.bool false) ∧ w = w')) := Lib.hid fun w => by
      have := rFew_any a D.length c w
      rwa [decide_eq_false hf] at this
    clear hf
    go_enter Try.func5, Try.ntmps5
    go_wp2_with fail
    refine (HFW.out w).mono ?_
    rintro e w9 ⟨rfl, rfl⟩
    go_wp2_with fail
    refine (HAW.out w).mono ?_
    rintro e w1 ⟨rfl, hb⟩
    have HB := Lib.hid hb
    clear hb
    go_wp2
    go_ret
    exact ⟨rfl, HB.out⟩
  have hf : D.length ≤ 24 := by omega
  have HFW : Hid (∀ w, Calls Try.prog 12 #[.slice a D.length c] w (fun e w' => e = .returned (.bool true) ∧ w = w')) := Lib.hid fun w => by
    have := rFew_any a D.length c w
    rwa [decide_eq_true hf] at this
  have HSM := Lib.hid same_true
  have HSI := Lib.hid sameInts_true
  have Hp1 : Hid (∀ u, IsAt u a D → Calls Try.prog 29 #[.slice a D.length c] u (fun e w' => e = .returned (.tuple #[.int .i64 (degV D), .int .i64 (ownD D : Nat)]) ∧ Below u.heap.size u w')) := Lib.hid fun u h1 => pDegree_any a c D (by omega) u h1
  have Hp2 : Hid (∀ u, IsAt u a D → Calls Try.prog 31 #[.slice a D.length c] u (fun e w' => e = .returned (.tuple #[.bool (effV D), .int .i64 (ownD D : Nat)]) ∧ Below u.heap.size u w')) := Lib.hid fun u h1 => pEffective_any a c D (by omega) u h1
  have Hp3 : Hid (∀ u, IsAt u a D → Calls Try.prog 33 #[.slice a D.length c] u (GivesIE u (supV D) (ownD D))) := Lib.hid fun u h1 => pSupport_any a c D (by omega) u h1
  have Hp4 : Hid (∀ u, IsAt u a D → Calls Try.prog 35 #[.slice a D.length c] u (GivesIIE u (posV D) (negV D) (ownD D))) := Lib.hid fun u h1 => pParts_any a c D (by omega) u h1
  have Hr1 : Hid (∀ u, IsAt u a D → Calls Try.prog 30 #[.slice a D.length c] u (fun e w' => e = .returned (.tuple #[.int .i64 (degV D), .int .i64 (ownD D : Nat)]) ∧ Below u.heap.size u w')) := Lib.hid fun u h1 => rDegree_any a c D (by omega) u h1
  have Hr2 : Hid (∀ u, IsAt u a D → Calls Try.prog 32 #[.slice a D.length c] u (fun e w' => e = .returned (.tuple #[.bool (effV D), .int .i64 (ownD D : Nat)]) ∧ Below u.heap.size u w')) := Lib.hid fun u h1 => rEffective_any a c D (by omega) u h1
  have Hr3 : Hid (∀ u, IsAt u a D → Calls Try.prog 34 #[.slice a D.length c] u (GivesIE u (supV D) (ownD D))) := Lib.hid fun u h1 => rSupport_any a c D (by omega) u h1
  have Hr4 : Hid (∀ u, IsAt u a D → Calls Try.prog 36 #[.slice a D.length c] u (GivesIIE u (posV D) (negV D) (ownD D))) := Lib.hid fun u h1 => rParts_any a c D (by omega) u h1
  have LX := Lib.hid (supV_len D hf)
  have LY := Lib.hid (posV_len D hf)
  have LZ := Lib.hid (negV_len D hf)
  have HB : Hid (Below w.heap.size w w) := Lib.hid (Below.refl _ _)
  have PD := Lib.hid h
  unfold GivesIE GivesIIE at *
  generalize supV D = X at *
  generalize posV D = Y at *
  generalize negV D = Z at *
  generalize ownD D = K at *
  generalize degV D = dv at *
  generalize effV D = ev at *
  clear h hf
  go_enter Try.func5, Try.ntmps5
  go_wp2_with fail
  refine (HFW.out w).mono ?_
  rintro e w9 ⟨rfl, rfl⟩
  go_wp2_with fail
  refine (Hp1.out w PD.out).mono ?_
  rintro e w0 ⟨rfl, hb⟩
  replace PD := Lib.hid (PD.out.keep hb)
  replace HB := Lib.hid (HB.out.trans (hb.mono HB.out.size))
  clear hb
  go_wp2_with fail
  refine (Hr1.out w0 PD.out).mono ?_
  rintro e w1 ⟨rfl, hb⟩
  replace PD := Lib.hid (PD.out.keep hb)
  replace HB := Lib.hid (HB.out.trans (hb.mono HB.out.size))
  clear hb
  go_wp2_with fail
  refine (Hp2.out w1 PD.out).mono ?_
  rintro e w2 ⟨rfl, hb⟩
  replace PD := Lib.hid (PD.out.keep hb)
  replace HB := Lib.hid (HB.out.trans (hb.mono HB.out.size))
  clear hb
  go_wp2_with fail
  refine (Hr2.out w2 PD.out).mono ?_
  rintro e w3 ⟨rfl, hb⟩
  replace PD := Lib.hid (PD.out.keep hb)
  replace HB := Lib.hid (HB.out.trans (hb.mono HB.out.size))
  clear hb
  cases ev
  all_goals (
    go_wp2_with fail
    refine (Hp3.out w3 PD.out).mono ?_
    rintro e w4 ⟨p1, q1, rfl, hpX1, hb⟩
    replace PD := Lib.hid (PD.out.keep hb)
    replace HB := Lib.hid (HB.out.trans (hb.mono HB.out.size))
    clear hb
    have PX1 := Lib.hid hpX1
    clear hpX1
    go_wp2_with fail
    refine (Hr3.out w4 PD.out).mono ?_
    rintro e w5 ⟨p2, q2, rfl, hpX2, hb⟩
    replace PD := Lib.hid (PD.out.keep hb)
    replace PX1 := Lib.hid (PX1.out.keep hb)
    replace HB := Lib.hid (HB.out.trans (hb.mono HB.out.size))
    clear hb
    have PX2 := Lib.hid hpX2
    clear hpX2
    go_wp2_with fail
    refine (Hp4.out w5 PD.out).mono ?_
    rintro e w6 ⟨p3, q3, p4, q4, rfl, hpY1, hpZ1, hb⟩
    replace PD := Lib.hid (PD.out.keep hb)
    replace PX1 := Lib.hid (PX1.out.keep hb)
    replace PX2 := Lib.hid (PX2.out.keep hb)
    replace HB := Lib.hid (HB.out.trans (hb.mono HB.out.size))
    clear hb
    have PY1 := Lib.hid hpY1
    clear hpY1
    have PZ1 := Lib.hid hpZ1
    clear hpZ1
    go_wp2_with fail
    refine (Hr4.out w6 PD.out).mono ?_
    rintro e w7 ⟨p5, q5, p6, q6, rfl, hpY2, hpZ2, hb⟩
    replace PD := Lib.hid (PD.out.keep hb)
    replace PX1 := Lib.hid (PX1.out.keep hb)
    replace PX2 := Lib.hid (PX2.out.keep hb)
    replace PY1 := Lib.hid (PY1.out.keep hb)
    replace PZ1 := Lib.hid (PZ1.out.keep hb)
    replace HB := Lib.hid (HB.out.trans (hb.mono HB.out.size))
    clear hb
    have PY2 := Lib.hid hpY2
    clear hpY2
    have PZ2 := Lib.hid hpZ2
    clear hpZ2
    go_wp2_with fail
    refine (HSI.out w7 _ _ _ _ X LX.out PX1.out PX2.out).mono ?_
    rintro e w8 ⟨rfl, hb⟩
    replace PD := Lib.hid (PD.out.keep hb)
    replace PX1 := Lib.hid (PX1.out.keep hb)
    replace PX2 := Lib.hid (PX2.out.keep hb)
    replace PY1 := Lib.hid (PY1.out.keep hb)
    replace PZ1 := Lib.hid (PZ1.out.keep hb)
    replace PY2 := Lib.hid (PY2.out.keep hb)
    replace PZ2 := Lib.hid (PZ2.out.keep hb)
    replace HB := Lib.hid (HB.out.trans (hb.mono HB.out.size))
    clear hb
    go_wp2_with fail
    refine (HSM.out w8 _ _ _ _ Y LY.out PY1.out PY2.out).mono ?_
    rintro e w9 ⟨rfl, hb⟩
    replace PD := Lib.hid (PD.out.keep hb)
    replace PX1 := Lib.hid (PX1.out.keep hb)
    replace PX2 := Lib.hid (PX2.out.keep hb)
    replace PY1 := Lib.hid (PY1.out.keep hb)
    replace PZ1 := Lib.hid (PZ1.out.keep hb)
    replace PY2 := Lib.hid (PY2.out.keep hb)
    replace PZ2 := Lib.hid (PZ2.out.keep hb)
    replace HB := Lib.hid (HB.out.trans (hb.mono HB.out.size))
    clear hb
    go_wp2_with fail
    refine (HSM.out w9 _ _ _ _ Z LZ.out PZ1.out PZ2.out).mono ?_
    rintro e w10 ⟨rfl, hb⟩
    replace PD := Lib.hid (PD.out.keep hb)
    replace PX1 := Lib.hid (PX1.out.keep hb)
    replace PX2 := Lib.hid (PX2.out.keep hb)
    replace PY1 := Lib.hid (PY1.out.keep hb)
    replace PZ1 := Lib.hid (PZ1.out.keep hb)
    replace PY2 := Lib.hid (PY2.out.keep hb)
    replace PZ2 := Lib.hid (PZ2.out.keep hb)
    replace HB := Lib.hid (HB.out.trans (hb.mono HB.out.size))
    clear hb
    go_wp2_with fail
    refine (HAW.out w10).mono ?_
    rintro e w11 ⟨rfl, hb⟩
    replace PD := Lib.hid (PD.out.keep hb)
    replace PX1 := Lib.hid (PX1.out.keep hb)
    replace PX2 := Lib.hid (PX2.out.keep hb)
    replace PY1 := Lib.hid (PY1.out.keep hb)
    replace PZ1 := Lib.hid (PZ1.out.keep hb)
    replace PY2 := Lib.hid (PY2.out.keep hb)
    replace PZ2 := Lib.hid (PZ2.out.keep hb)
    replace HB := Lib.hid (HB.out.trans (hb.mono HB.out.size))
    clear hb
    go_wp2
    go_ret
    exact ⟨rfl, HB.out⟩)
set_option maxHeartbeats 12800000 in
set_option maxRecDepth 100000 in
theorem compares_any (a : Option Addr) (c : Nat) (A : List Int) (b : Option Addr) (d : Nat) (B : List Int) (w : World) (h1 : IsAt w a A) (h2 : IsAt w b B) :
    Calls Try.prog 6 #[.slice a A.length c, .slice b B.length d] w (fun e w' => e = .returned (.bool true) ∧ Below w.heap.size w w') := by
  have HAW := Lib.hid (fun w => awake_any w)
  by_cases hf : ¬ A.length ≤ 24
  · have HFW : Hid (∀ w, Calls Try.prog 12 #[.slice a A.length c] w (fun e w' => e = .returned (.bool false) ∧ w = w')) := Lib.hid fun w => by
      have := rFew_any a A.length c w
      rwa [decide_eq_false hf] at this
    clear hf
    go_enter Try.func6, Try.ntmps6
    go_wp2_with fail
    refine (HFW.out w).mono ?_
    rintro e w9 ⟨rfl, rfl⟩
    go_wp2_with fail
    refine (HAW.out w).mono ?_
    rintro e w1 ⟨rfl, hb⟩
    have HB := Lib.hid hb
    clear hb
    go_wp2
    go_ret
    exact ⟨rfl, HB.out⟩
  have hf : A.length ≤ 24 := by omega
  have HFA : Hid (∀ w, Calls Try.prog 12 #[.slice a A.length c] w (fun e w' => e = .returned (.bool true) ∧ w = w')) := Lib.hid fun w => by
    have := rFew_any a A.length c w
    rwa [decide_eq_true hf] at this
  by_cases hg : ¬ B.length ≤ 24
  · have HFW : Hid (∀ w, Calls Try.prog 12 #[.slice b B.length d] w (fun e w' => e = .returned (.bool false) ∧ w = w')) := Lib.hid fun w => by
      have := rFew_any b B.length d w
      rwa [decide_eq_false hg] at this
    clear hg hf
    go_enter Try.func6, Try.ntmps6
    go_wp2_with fail
    refine (HFA.out w).mono ?_
    rintro e w9 ⟨rfl, rfl⟩
    go_wp2_with fail
    refine (HFW.out w).mono ?_
    rintro e w9 ⟨rfl, rfl⟩
    go_wp2_with fail
    refine (HAW.out w).mono ?_
    rintro e w1 ⟨rfl, hb⟩
    have HB := Lib.hid hb
    clear hb
    go_wp2
    go_ret
    exact ⟨rfl, HB.out⟩
  have hg : B.length ≤ 24 := by omega
  have HFW : Hid (∀ w, Calls Try.prog 12 #[.slice b B.length d] w (fun e w' => e = .returned (.bool true) ∧ w = w')) := Lib.hid fun w => by
    have := rFew_any b B.length d w
    rwa [decide_eq_true hg] at this
  have HSM := Lib.hid same_true
  have Hp1 : Hid (∀ u, IsAt u a A → IsAt u b B → Calls Try.prog 38 #[.slice a A.length c, .slice b B.length d] u (fun e w' => e = .returned (.tuple #[.int .i64 (cmpV A B), .int .i64 (bothD A B : Nat)]) ∧ Below u.heap.size u w')) := Lib.hid fun u h1 h2 => pCompare_any a b c d A B (by omega) (by omega) u h1 h2
  have Hp2 : Hid (∀ u, IsAt u a A → IsAt u b B → Calls Try.prog 40 #[.slice a A.length c, .slice b B.length d] u (fun e w' => e = .returned (.tuple #[.bool (abvV A B), .int .i64 (bothD A B : Nat)]) ∧ Below u.heap.size u w')) := Lib.hid fun u h1 h2 => pAbove_any a b c d A B (by omega) (by omega) u h1 h2
  have Hr1 : Hid (∀ u, IsAt u a A → IsAt u b B → Calls Try.prog 39 #[.slice a A.length c, .slice b B.length d] u (fun e w' => e = .returned (.tuple #[.int .i64 (cmpV A B), .int .i64 (bothD A B : Nat)]) ∧ Below u.heap.size u w')) := Lib.hid fun u h1 h2 => rCompare_any a b c d A B (by omega) (by omega) u h1 h2
  have Hr2 : Hid (∀ u, IsAt u a A → IsAt u b B → Calls Try.prog 41 #[.slice a A.length c, .slice b B.length d] u (fun e w' => e = .returned (.tuple #[.bool (abvV A B), .int .i64 (bothD A B : Nat)]) ∧ Below u.heap.size u w')) := Lib.hid fun u h1 h2 => rAbove_any a b c d A B (by omega) (by omega) u h1 h2
  have Hp3 : Hid (∀ u, IsAt u a A → IsAt u b B → Calls Try.prog 42 #[.slice a A.length c, .slice b B.length d] u (GivesIE u (cmbL (fun x y => min x y) A B) (cmbK (fun x y => min x y) A B))) := Lib.hid fun u h1 h2 => pMeet_any a b c d A B (by omega) (by omega) u h1 h2
  have Hr3 : Hid (∀ u, IsAt u a A → IsAt u b B → Calls Try.prog 43 #[.slice a A.length c, .slice b B.length d] u (GivesIE u (cmbL (fun x y => min x y) A B) (cmbK (fun x y => min x y) A B))) := Lib.hid fun u h1 h2 => rMeet_any a b c d A B (by omega) (by omega) u h1 h2
  have LX3 := Lib.hid (cmbL_len (fun x y => min x y) A B hf)
  have Hp4 : Hid (∀ u, IsAt u a A → IsAt u b B → Calls Try.prog 44 #[.slice a A.length c, .slice b B.length d] u (GivesIE u (cmbL (fun x y => max x y) A B) (cmbK (fun x y => max x y) A B))) := Lib.hid fun u h1 h2 => pJoin_any a b c d A B (by omega) (by omega) u h1 h2
  have Hr4 : Hid (∀ u, IsAt u a A → IsAt u b B → Calls Try.prog 45 #[.slice a A.length c, .slice b B.length d] u (GivesIE u (cmbL (fun x y => max x y) A B) (cmbK (fun x y => max x y) A B))) := Lib.hid fun u h1 h2 => rJoin_any a b c d A B (by omega) (by omega) u h1 h2
  have LX4 := Lib.hid (cmbL_len (fun x y => max x y) A B hf)
  have HB : Hid (Below w.heap.size w w) := Lib.hid (Below.refl _ _)
  have PA := Lib.hid h1
  have PB := Lib.hid h2
  clear h1 h2 hf hg
  unfold GivesIE at *
  generalize cmpV A B = cv at *
  generalize abvV A B = av at *
  generalize bothD A B = K at *
  generalize cmbL (fun x y => min x y) A B = X3 at *
  generalize cmbK (fun x y => min x y) A B = K3 at *
  generalize cmbL (fun x y => max x y) A B = X4 at *
  generalize cmbK (fun x y => max x y) A B = K4 at *
  go_enter Try.func6, Try.ntmps6
  go_wp2_with fail
  refine (HFA.out w).mono ?_
  rintro e w9 ⟨rfl, rfl⟩
  go_wp2_with fail
  refine (HFW.out w).mono ?_
  rintro e w9 ⟨rfl, rfl⟩
  go_wp2_with fail
  refine (Hp1.out w PA.out PB.out).mono ?_
  rintro e w0 ⟨rfl, hb⟩
  replace PA := Lib.hid (PA.out.keep hb)
  replace PB := Lib.hid (PB.out.keep hb)
  replace HB := Lib.hid (HB.out.trans (hb.mono HB.out.size))
  clear hb
  go_wp2_with fail
  refine (Hr1.out w0 PA.out PB.out).mono ?_
  rintro e w1 ⟨rfl, hb⟩
  replace PA := Lib.hid (PA.out.keep hb)
  replace PB := Lib.hid (PB.out.keep hb)
  replace HB := Lib.hid (HB.out.trans (hb.mono HB.out.size))
  clear hb
  go_wp2_with fail
  refine (Hp2.out w1 PA.out PB.out).mono ?_
  rintro e w2 ⟨rfl, hb⟩
  replace PA := Lib.hid (PA.out.keep hb)
  replace PB := Lib.hid (PB.out.keep hb)
  replace HB := Lib.hid (HB.out.trans (hb.mono HB.out.size))
  clear hb
  go_wp2_with fail
  refine (Hr2.out w2 PA.out PB.out).mono ?_
  rintro e w3 ⟨rfl, hb⟩
  replace PA := Lib.hid (PA.out.keep hb)
  replace PB := Lib.hid (PB.out.keep hb)
  replace HB := Lib.hid (HB.out.trans (hb.mono HB.out.size))
  clear hb
  cases av
  all_goals (
    go_wp2_with fail
    refine (Hp3.out w3 PA.out PB.out).mono ?_
    rintro e w4 ⟨p3, q3, rfl, hpP3, hb⟩
    replace PA := Lib.hid (PA.out.keep hb)
    replace PB := Lib.hid (PB.out.keep hb)
    replace HB := Lib.hid (HB.out.trans (hb.mono HB.out.size))
    clear hb
    have PP3 := Lib.hid hpP3
    clear hpP3
    go_wp2_with fail
    refine (Hr3.out w4 PA.out PB.out).mono ?_
    rintro e w5 ⟨r3, s3, rfl, hpR3, hb⟩
    replace PA := Lib.hid (PA.out.keep hb)
    replace PB := Lib.hid (PB.out.keep hb)
    replace PP3 := Lib.hid (PP3.out.keep hb)
    replace HB := Lib.hid (HB.out.trans (hb.mono HB.out.size))
    clear hb
    have PR3 := Lib.hid hpR3
    clear hpR3
    go_wp2_with fail
    refine (Hp4.out w5 PA.out PB.out).mono ?_
    rintro e w6 ⟨p4, q4, rfl, hpP4, hb⟩
    replace PA := Lib.hid (PA.out.keep hb)
    replace PB := Lib.hid (PB.out.keep hb)
    replace PP3 := Lib.hid (PP3.out.keep hb)
    replace PR3 := Lib.hid (PR3.out.keep hb)
    replace HB := Lib.hid (HB.out.trans (hb.mono HB.out.size))
    clear hb
    have PP4 := Lib.hid hpP4
    clear hpP4
    go_wp2_with fail
    refine (Hr4.out w6 PA.out PB.out).mono ?_
    rintro e w7 ⟨r4, s4, rfl, hpR4, hb⟩
    replace PA := Lib.hid (PA.out.keep hb)
    replace PB := Lib.hid (PB.out.keep hb)
    replace PP3 := Lib.hid (PP3.out.keep hb)
    replace PR3 := Lib.hid (PR3.out.keep hb)
    replace PP4 := Lib.hid (PP4.out.keep hb)
    replace HB := Lib.hid (HB.out.trans (hb.mono HB.out.size))
    clear hb
    have PR4 := Lib.hid hpR4
    clear hpR4
    go_wp2_with fail
    refine (HSM.out w7 _ _ _ _ X3 LX3.out PP3.out PR3.out).mono ?_
    rintro e w8 ⟨rfl, hb⟩
    replace PA := Lib.hid (PA.out.keep hb)
    replace PB := Lib.hid (PB.out.keep hb)
    replace PP3 := Lib.hid (PP3.out.keep hb)
    replace PR3 := Lib.hid (PR3.out.keep hb)
    replace PP4 := Lib.hid (PP4.out.keep hb)
    replace PR4 := Lib.hid (PR4.out.keep hb)
    replace HB := Lib.hid (HB.out.trans (hb.mono HB.out.size))
    clear hb
    go_wp2_with fail
    refine (HSM.out w8 _ _ _ _ X4 LX4.out PP4.out PR4.out).mono ?_
    rintro e w9 ⟨rfl, hb⟩
    replace PA := Lib.hid (PA.out.keep hb)
    replace PB := Lib.hid (PB.out.keep hb)
    replace PP3 := Lib.hid (PP3.out.keep hb)
    replace PR3 := Lib.hid (PR3.out.keep hb)
    replace PP4 := Lib.hid (PP4.out.keep hb)
    replace PR4 := Lib.hid (PR4.out.keep hb)
    replace HB := Lib.hid (HB.out.trans (hb.mono HB.out.size))
    clear hb
    go_wp2_with fail
    refine (HAW.out w9).mono ?_
    rintro e w10 ⟨rfl, hb⟩
    replace PA := Lib.hid (PA.out.keep hb)
    replace PB := Lib.hid (PB.out.keep hb)
    replace PP3 := Lib.hid (PP3.out.keep hb)
    replace PR3 := Lib.hid (PR3.out.keep hb)
    replace PP4 := Lib.hid (PP4.out.keep hb)
    replace PR4 := Lib.hid (PR4.out.keep hb)
    replace HB := Lib.hid (HB.out.trans (hb.mono HB.out.size))
    clear hb
    go_wp2
    go_ret
    exact ⟨rfl, HB.out⟩)
end Go.Proofs.Ytalbdggpghkcfaa
