/- The laws Checks and Adds. -/
import Derived.Test.YtalbdggpghkcfaaEa
import Derived.Test.YtalbdggpghkcfaaCs
namespace Go.Proofs.Ytalbdggpghkcfaa
open Go.RowKit Go.Proofs.Gr Go.Proofs.Cp
attribute [local go_sem] Oper.semAt_some

theorem same_true : ∀ (u : World) (a b : Option Addr) (c d : Nat) (L : List Int), L.length ≤ 1000 → IsAt u a L → IsAt u b L → Calls Try.prog 20 #[.slice a L.length c, .slice b L.length d] u (fun e x => e = .returned (.bool true) ∧ Below u.heap.size u x) := fun u a b c d L hl h1 h2 => by
  have := rSame_any a b c d L L hl hl u h1 h2
  rwa [decide_eq_true rfl] at this
theorem sameInts_true : ∀ (u : World) (a b : Option Addr) (c d : Nat) (L : List Int), L.length ≤ 1000 → IsAt u a L → IsAt u b L → Calls Try.prog 37 #[.slice a L.length c, .slice b L.length d] u (fun e x => e = .returned (.bool true) ∧ Below u.heap.size u x) := fun u a b c d L hl h1 h2 => by
  have := rSameInts_any a b c d L L hl hl u h1 h2
  rwa [decide_eq_true rfl] at this
theorem cmbL_len (f : Int → Int → Int) (A B : List Int) (hA : A.length ≤ 24) : (cmbL f A B).length ≤ 1000 := by
  unfold cmbL
  split
  · unfold zipD; rw [List.length_zipWith]; omega
  · simp
theorem zerL_len (n : Int) : (zerL n).length ≤ 1000 := by
  unfold zerL
  by_cases h : zerK n = 0
  · rw [if_pos h, List.length_replicate]
    unfold zerK at h
    by_cases h1 : n < 1 ∨ 12 < n
    · rw [if_pos h1] at h; omega
    · omega
  · rw [if_neg h]; simp
theorem somL_len (n v k : Int) : (somL n v k).length ≤ 1000 := by
  unfold somL
  by_cases h : somK n v k = 0
  · rw [if_pos h, List.length_set, List.length_replicate]
    unfold somK at h
    by_cases h1 : n < 1 ∨ 12 < n
    · rw [if_pos (by unfold zerK; rw [if_pos h1]; simp)] at h; omega
    · omega
  · rw [if_neg h]; simp
theorem supV_len (D : List Int) (h : D.length ≤ 24) : (supV D).length ≤ 1000 := by
  unfold supV
  split
  · have := supT_len D D.length; omega
  · simp
theorem posV_len (D : List Int) (h : D.length ≤ 24) : (posV D).length ≤ 1000 := by
  unfold posV posD
  split
  · rw [List.length_map]; omega
  · simp
theorem negV_len (D : List Int) (h : D.length ≤ 24) : (negV D).length ≤ 1000 := by
  unfold negV negD
  split
  · rw [List.length_map]; omega
  · simp
set_option maxHeartbeats 12800000 in
set_option maxRecDepth 100000 in
theorem checks_any (a : Option Addr) (c : Nat) (D : List Int) (n v : Int) (w : World) (h : IsAt w a D) :
    Calls Try.prog 3 #[.slice a D.length c, .int .i64 n, .int .i64 v] w (fun e w' => e = .returned (.bool true) ∧ Below w.heap.size w w') := by
  have HAW := Lib.hid (fun w => awake_any w)
  by_cases hf : ¬ D.length ≤ 24
  · have HFW : Hid (∀ w, Calls Try.prog 12 #[.slice a D.length c] w (fun e w' => e = .returned (.bool false) ∧ w = w')) := Lib.hid fun w => by
      have := rFew_any a D.length c w
      rwa [decide_eq_false hf] at this
    clear hf
    go_enter Try.func3, Try.ntmps3
    go_wp2_with fail
    refine (HFW.out w).mono ?_
    rintro e w9 ⟨rfl, rfl⟩
    go_wp2_with fail
    refine (HAW.out w).mono ?_
    rintro e w1 ⟨rfl, hb⟩
    have HB := Lib.hid hb
    clear hb
    go_wp2
    go_ret
    exact ⟨rfl, HB.out⟩
  have hf : D.length ≤ 24 := by omega
  have HFW : Hid (∀ w, Calls Try.prog 12 #[.slice a D.length c] w (fun e w' => e = .returned (.bool true) ∧ w = w')) := Lib.hid fun w => by
    have := rFew_any a D.length c w
    rwa [decide_eq_true hf] at this
  have HSM := Lib.hid same_true
  have HZP : Hid (∀ u, Calls Try.prog 14 #[.int .i64 n] u (GivesIE u (zerL n) (zerK n))) := Lib.hid fun u => (pZero_any n u).mono fun e x h => h.weak
  have HZR : Hid (∀ u, Calls Try.prog 15 #[.int .i64 n] u (GivesIE u (zerL n) (zerK n))) := Lib.hid fun u => (rZero_any n u).mono fun e x h => h.weak
  have HSP : Hid (∀ k u, Calls Try.prog 16 #[.int .i64 n, .int .i64 v, .int .i64 k] u (GivesIE u (somL n v k) (somK n v k))) := Lib.hid fun k u => (pSome_any n v k u).mono fun e x h => h.weak
  have HSR : Hid (∀ k u, Calls Try.prog 17 #[.int .i64 n, .int .i64 v, .int .i64 k] u (GivesIE u (somL n v k) (somK n v k))) := Lib.hid fun k u => (rSome_any n v k u).mono fun e x h => h.weak
  have HCP := Lib.hid (fun u h => pCheck_any a c D (by omega) n u h)
  have HCR := Lib.hid (fun u h => rCheck_any a c D (by omega) n u h)
  have LX := Lib.hid (zerL_len n)
  have LYY := Lib.hid (fun k => somL_len n v k)
  have HB : Hid (Below w.heap.size w w) := Lib.hid (Below.refl _ _)
  have PD := Lib.hid h
  unfold GivesIE at HZP HZR HSP HSR
  generalize zerL n = X at *
  generalize zerK n = KX at *
  generalize chkD D n = KC at *
  generalize somL n v = YY at *
  generalize somK n v = KYY at *
  clear h
  by_cases h0 : D.length = 0
  · have i0 : ¬ (0 : Int) < (D.length : Int) := by omega
    clear h0
    have HSP1 := Lib.hid (HSP.out 7)
    have HSR1 := Lib.hid (HSR.out 7)
    have LY := Lib.hid (LYY.out 7)
    clear HSP HSR LYY
    generalize YY 7 = Y at *
    generalize KYY 7 = KY at *
    go_enter Try.func3, Try.ntmps3
    go_wp2_with fail
    refine (HFW.out w).mono ?_
    rintro e w9 ⟨rfl, rfl⟩
    go_wp2_with fail
    refine (HZP.out w).mono ?_
    rintro e w0 ⟨p1, q1, rfl, hpX1, hb⟩
    replace PD := Lib.hid (PD.out.keep hb)
    replace HB := Lib.hid (HB.out.trans (hb.mono HB.out.size))
    clear hb
    have PX1 := Lib.hid hpX1
    clear hpX1
    go_wp2_with fail
    refine (HZR.out w0).mono ?_
    rintro e w1 ⟨p2, q2, rfl, hpX2, hb⟩
    replace PD := Lib.hid (PD.out.keep hb)
    replace PX1 := Lib.hid (PX1.out.keep hb)
    replace HB := Lib.hid (HB.out.trans (hb.mono HB.out.size))
    clear hb
    have PX2 := Lib.hid hpX2
    clear hpX2

    go_wp2_with fail
    refine (HSP1.out w1).mono ?_
    rintro e w2 ⟨p3, q3, rfl, hpY1, hb⟩
    replace PD := Lib.hid (PD.out.keep hb)
    replace PX1 := Lib.hid (PX1.out.keep hb)
    replace PX2 := Lib.hid (PX2.out.keep hb)
    replace HB := Lib.hid (HB.out.trans (hb.mono HB.out.size))
    clear hb
    have PY1 := Lib.hid hpY1
    clear hpY1
    go_wp2_with fail
    refine (HSR1.out w2).mono ?_
    rintro e w3 ⟨p4, q4, rfl, hpY2, hb⟩
    replace PD := Lib.hid (PD.out.keep hb)
    replace PX1 := Lib.hid (PX1.out.keep hb)
    replace PX2 := Lib.hid (PX2.out.keep hb)
    replace PY1 := Lib.hid (PY1.out.keep hb)
    replace HB := Lib.hid (HB.out.trans (hb.mono HB.out.size))
    clear hb
    have PY2 := Lib.hid hpY2
    clear hpY2
    go_wp2_with fail
    refine (HCP.out w3 PD.out).mono ?_
    rintro e w4 ⟨rfl, hb⟩
    replace PD := Lib.hid (PD.out.keep hb)
    replace PX1 := Lib.hid (PX1.out.keep hb)
    replace PX2 := Lib.hid (PX2.out.keep hb)
    replace PY1 := Lib.hid (PY1.out.keep hb)
    replace PY2 := Lib.hid (PY2.out.keep hb)
    replace HB := Lib.hid (HB.out.trans (hb.mono HB.out.size))
    clear hb
    go_wp2_with fail
    refine (HCR.out w4 PD.out).mono ?_
    rintro e w5 ⟨rfl, hb⟩
    replace PD := Lib.hid (PD.out.keep hb)
    replace PX1 := Lib.hid (PX1.out.keep hb)
    replace PX2 := Lib.hid (PX2.out.keep hb)
    replace PY1 := Lib.hid (PY1.out.keep hb)
    replace PY2 := Lib.hid (PY2.out.keep hb)
    replace HB := Lib.hid (HB.out.trans (hb.mono HB.out.size))
    clear hb
    go_wp2_with fail
    refine (HSM.out w5 _ _ _ _ X LX.out PX1.out PX2.out).mono ?_
    rintro e w6 ⟨rfl, hb⟩
    replace PD := Lib.hid (PD.out.keep hb)
    replace PX1 := Lib.hid (PX1.out.keep hb)
    replace PX2 := Lib.hid (PX2.out.keep hb)
    replace PY1 := Lib.hid (PY1.out.keep hb)
    replace PY2 := Lib.hid (PY2.out.keep hb)
    replace HB := Lib.hid (HB.out.trans (hb.mono HB.out.size))
    clear hb
    go_wp2_with fail
    refine (HSM.out w6 _ _ _ _ Y LY.out PY1.out PY2.out).mono ?_
    rintro e w7 ⟨rfl, hb⟩
    replace PD := Lib.hid (PD.out.keep hb)
    replace PX1 := Lib.hid (PX1.out.keep hb)
    replace PX2 := Lib.hid (PX2.out.keep hb)
    replace PY1 := Lib.hid (PY1.out.keep hb)
    replace PY2 := Lib.hid (PY2.out.keep hb)
    replace HB := Lib.hid (HB.out.trans (hb.mono HB.out.size))
    clear hb
    go_wp2_with fail
    refine (HAW.out w7).mono ?_
    rintro e w8 ⟨rfl, hb⟩
    replace PD := Lib.hid (PD.out.keep hb)
    replace PX1 := Lib.hid (PX1.out.keep hb)
    replace PX2 := Lib.hid (PX2.out.keep hb)
    replace PY1 := Lib.hid (PY1.out.keep hb)
    replace PY2 := Lib.hid (PY2.out.keep hb)
    replace HB := Lib.hid (HB.out.trans (hb.mono HB.out.size))
    clear hb
    go_wp2
    go_ret
    exact ⟨rfl, HB.out⟩
  have i0 : (0 : Int) < (D.length : Int) := by omega
  obtain ⟨b0, o0, ha, -, -⟩ := PD.out.one 0 (by omega)
  subst ha
  obtain ⟨k0, hk0⟩ : ∃ k0, k0 = iAt D 0 := ⟨_, rfl⟩
  have HK0 := Lib.hid hk0
  clear hk0
  have HSP1 := Lib.hid (HSP.out k0)
  have HSR1 := Lib.hid (HSR.out k0)
  have LY := Lib.hid (LYY.out k0)
  clear HSP HSR LYY
  generalize YY k0 = Y at *
  generalize KYY k0 = KY at *
  go_enter Try.func3, Try.ntmps3
  go_wp2_with fail
  refine (HFW.out w).mono ?_
  rintro e w9 ⟨rfl, rfl⟩
  go_wp2_with fail
  refine (HZP.out w).mono ?_
  rintro e w0 ⟨p1, q1, rfl, hpX1, hb⟩
  replace PD := Lib.hid (PD.out.keep hb)
  replace HB := Lib.hid (HB.out.trans (hb.mono HB.out.size))
  clear hb
  have PX1 := Lib.hid hpX1
  clear hpX1
  go_wp2_with fail
  refine (HZR.out w0).mono ?_
  rintro e w1 ⟨p2, q2, rfl, hpX2, hb⟩
  replace PD := Lib.hid (PD.out.keep hb)
  replace PX1 := Lib.hid (PX1.out.keep hb)
  replace HB := Lib.hid (HB.out.trans (hb.mono HB.out.size))
  clear hb
  have PX2 := Lib.hid hpX2
  clear hpX2
  obtain ⟨b9, o9, e9, -, x0⟩ := PD.out.one 0 (by omega)
  injection e9 with e9
  injection e9 with e8 e9
  subst e8 e9
  rw [Nat.add_zero, ← HK0.out] at x0
  go_wp2_with fail
  refine (HSP1.out w1).mono ?_
  rintro e w2 ⟨p3, q3, rfl, hpY1, hb⟩
  replace PD := Lib.hid (PD.out.keep hb)
  replace PX1 := Lib.hid (PX1.out.keep hb)
  replace PX2 := Lib.hid (PX2.out.keep hb)
  replace HB := Lib.hid (HB.out.trans (hb.mono HB.out.size))
  clear hb
  have PY1 := Lib.hid hpY1
  clear hpY1
  go_wp2_with fail
  refine (HSR1.out w2).mono ?_
  rintro e w3 ⟨p4, q4, rfl, hpY2, hb⟩
  replace PD := Lib.hid (PD.out.keep hb)
  replace PX1 := Lib.hid (PX1.out.keep hb)
  replace PX2 := Lib.hid (PX2.out.keep hb)
  replace PY1 := Lib.hid (PY1.out.keep hb)
  replace HB := Lib.hid (HB.out.trans (hb.mono HB.out.size))
  clear hb
  have PY2 := Lib.hid hpY2
  clear hpY2
  go_wp2_with fail
  refine (HCP.out w3 PD.out).mono ?_
  rintro e w4 ⟨rfl, hb⟩
  replace PD := Lib.hid (PD.out.keep hb)
  replace PX1 := Lib.hid (PX1.out.keep hb)
  replace PX2 := Lib.hid (PX2.out.keep hb)
  replace PY1 := Lib.hid (PY1.out.keep hb)
  replace PY2 := Lib.hid (PY2.out.keep hb)
  replace HB := Lib.hid (HB.out.trans (hb.mono HB.out.size))
  clear hb
  go_wp2_with fail
  refine (HCR.out w4 PD.out).mono ?_
  rintro e w5 ⟨rfl, hb⟩
  replace PD := Lib.hid (PD.out.keep hb)
  replace PX1 := Lib.hid (PX1.out.keep hb)
  replace PX2 := Lib.hid (PX2.out.keep hb)
  replace PY1 := Lib.hid (PY1.out.keep hb)
  replace PY2 := Lib.hid (PY2.out.keep hb)
  replace HB := Lib.hid (HB.out.trans (hb.mono HB.out.size))
  clear hb
  go_wp2_with fail
  refine (HSM.out w5 _ _ _ _ X LX.out PX1.out PX2.out).mono ?_
  rintro e w6 ⟨rfl, hb⟩
  replace PD := Lib.hid (PD.out.keep hb)
  replace PX1 := Lib.hid (PX1.out.keep hb)
  replace PX2 := Lib.hid (PX2.out.keep hb)
  replace PY1 := Lib.hid (PY1.out.keep hb)
  replace PY2 := Lib.hid (PY2.out.keep hb)
  replace HB := Lib.hid (HB.out.trans (hb.mono HB.out.size))
  clear hb
  go_wp2_with fail
  refine (HSM.out w6 _ _ _ _ Y LY.out PY1.out PY2.out).mono ?_
  rintro e w7 ⟨rfl, hb⟩
  replace PD := Lib.hid (PD.out.keep hb)
  replace PX1 := Lib.hid (PX1.out.keep hb)
  replace PX2 := Lib.hid (PX2.out.keep hb)
  replace PY1 := Lib.hid (PY1.out.keep hb)
  replace PY2 := Lib.hid (PY2.out.keep hb)
  replace HB := Lib.hid (HB.out.trans (hb.mono HB.out.size))
  clear hb
  go_wp2_with fail
  refine (HAW.out w7).mono ?_
  rintro e w8 ⟨rfl, hb⟩
  replace PD := Lib.hid (PD.out.keep hb)
  replace PX1 := Lib.hid (PX1.out.keep hb)
  replace PX2 := Lib.hid (PX2.out.keep hb)
  replace PY1 := Lib.hid (PY1.out.keep hb)
  replace PY2 := Lib.hid (PY2.out.keep hb)
  replace HB := Lib.hid (HB.out.trans (hb.mono HB.out.size))
  clear hb
  go_wp2
  go_ret
  exact ⟨rfl, HB.out⟩
set_option maxHeartbeats 12800000 in
set_option maxRecDepth 100000 in
theorem adds_any (a : Option Addr) (c : Nat) (A : List Int) (b : Option Addr) (d : Nat) (B : List Int) (k : Int) (w : World) (h1 : IsAt w a A) (h2 : IsAt w b B) :
    Calls Try.prog 4 #[.slice a A.length c, .slice b B.length d, .int .i64 k] w (fun e w' => e = .returned (.bool true) ∧ Below w.heap.size w w') := by
  have HAW := Lib.hid (fun w => awake_any w)
  by_cases hf : ¬ A.length ≤ 24
  · have HFW : Hid (∀ w, Calls Try.prog 12 #[.slice a A.length c] w (fun e w' => e = .returned (.bool false) ∧ w = w')) := Lib.hid fun w => by
      have := rFew_any a A.length c w
      rwa [decide_eq_false hf] at this
    clear hf
    go_enter Try.func4, Try.ntmps4
    go_wp2_with fail
    refine (HFW.out w).mono ?_
    rintro e w9 ⟨rfl, rfl⟩
    go_wp2_with fail
    refine (HAW.out w).mono ?_
    rintro e w1 ⟨rfl, hb⟩
    have HB := Lib.hid hb
    clear hb
    go_wp2
    go_ret
    exact ⟨rfl, HB.out⟩
  have hf : A.length ≤ 24 := by omega
  have HFA : Hid (∀ w, Calls Try.prog 12 #[.slice a A.length c] w (fun e w' => e = .returned (.bool true) ∧ w = w')) := Lib.hid fun w => by
    have := rFew_any a A.length c w
    rwa [decide_eq_true hf] at this
  by_cases hg : ¬ B.length ≤ 24
  · have HFW : Hid (∀ w, Calls Try.prog 12 #[.slice b B.length d] w (fun e w' => e = .returned (.bool false) ∧ w = w')) := Lib.hid fun w => by
      have := rFew_any b B.length d w
      rwa [decide_eq_false hg] at this
    clear hg hf
    go_enter Try.func4, Try.ntmps4
    go_wp2_with fail
    refine (HFA.out w).mono ?_
    rintro e w9 ⟨rfl, rfl⟩
    go_wp2_with fail
    refine (HFW.out w).mono ?_
    rintro e w9 ⟨rfl, rfl⟩
    go_wp2_with fail
    refine (HAW.out w).mono ?_
    rintro e w1 ⟨rfl, hb⟩
    have HB := Lib.hid hb
    clear hb
    go_wp2
    go_ret
    exact ⟨rfl, HB.out⟩
  have hg : B.length ≤ 24 := by omega
  have HFW : Hid (∀ w, Calls Try.prog 12 #[.slice b B.length d] w (fun e w' => e = .returned (.bool true) ∧ w = w')) := Lib.hid fun w => by
    have := rFew_any b B.length d w
    rwa [decide_eq_true hg] at this
  have HSM := Lib.hid same_true
  have Hp1 : Hid (∀ u, IsAt u a A → IsAt u b B → Calls Try.prog 21 #[.slice a A.length c, .slice b B.length d] u (GivesIE u (cmbL (fun x y => x + y) A B) (cmbK (fun x y => x + y) A B))) := Lib.hid fun u h1 h2 => pAdd_any a b c d A B (by omega) (by omega) u h1 h2
  have Hr1 : Hid (∀ u, IsAt u a A → IsAt u b B → Calls Try.prog 22 #[.slice a A.length c, .slice b B.length d] u (GivesIE u (cmbL (fun x y => x + y) A B) (cmbK (fun x y => x + y) A B))) := Lib.hid fun u h1 h2 => rAdd_any a b c d A B (by omega) (by omega) u h1 h2
  have LX1 := Lib.hid (cmbL_len (fun x y => x + y) A B hf)
  have Hp2 : Hid (∀ u, IsAt u a A → IsAt u b B → Calls Try.prog 23 #[.slice a A.length c, .slice b B.length d] u (GivesIE u (cmbL (fun x y => x - y) A B) (cmbK (fun x y => x - y) A B))) := Lib.hid fun u h1 h2 => pSub_any a b c d A B (by omega) (by omega) u h1 h2
  have Hr2 : Hid (∀ u, IsAt u a A → IsAt u b B → Calls Try.prog 24 #[.slice a A.length c, .slice b B.length d] u (GivesIE u (cmbL (fun x y => x - y) A B) (cmbK (fun x y => x - y) A B))) := Lib.hid fun u h1 h2 => rSub_any a b c d A B (by omega) (by omega) u h1 h2
  have LX2 := Lib.hid (cmbL_len (fun x y => x - y) A B hf)
  have Hp3 : Hid (∀ u, IsAt u a A → Calls Try.prog 25 #[.slice a A.length c] u (GivesIE u (cmbL (mulK (-1)) A A) (cmbK (mulK (-1)) A A))) := Lib.hid fun u h1 => pNeg_any a c A (by omega) u h1
  have Hr3 : Hid (∀ u, IsAt u a A → Calls Try.prog 26 #[.slice a A.length c] u (GivesIE u (cmbL (mulK (-1)) A A) (cmbK (mulK (-1)) A A))) := Lib.hid fun u h1 => rNeg_any a c A (by omega) u h1
  have LX3 := Lib.hid (cmbL_len (mulK (-1)) A A hf)
  have Hp4 : Hid (∀ u, IsAt u a A → Calls Try.prog 27 #[.slice a A.length c, .int .i64 k] u (GivesIE u (cmbL (mulK k) A A) (cmbK (mulK k) A A))) := Lib.hid fun u h1 => pScale_any a c A (by omega) k u h1
  have Hr4 : Hid (∀ u, IsAt u a A → Calls Try.prog 28 #[.slice a A.length c, .int .i64 k] u (GivesIE u (cmbL (mulK k) A A) (cmbK (mulK k) A A))) := Lib.hid fun u h1 => rScale_any a c A (by omega) k u h1
  have LX4 := Lib.hid (cmbL_len (mulK k) A A hf)
  have HB : Hid (Below w.heap.size w w) := Lib.hid (Below.refl _ _)
  have PA := Lib.hid h1
  have PB := Lib.hid h2
  clear h1 h2 hf hg
  unfold GivesIE at *
  generalize cmbL (fun x y => x + y) A B = X1 at *
  generalize cmbK (fun x y => x + y) A B = K1 at *
  generalize cmbL (fun x y => x - y) A B = X2 at *
  generalize cmbK (fun x y => x - y) A B = K2 at *
  generalize cmbL (mulK (-1)) A A = X3 at *
  generalize cmbK (mulK (-1)) A A = K3 at *
  generalize cmbL (mulK k) A A = X4 at *
  generalize cmbK (mulK k) A A = K4 at *
  go_enter Try.func4, Try.ntmps4
  go_wp2_with fail
  refine (HFA.out w).mono ?_
  rintro e w9 ⟨rfl, rfl⟩
  go_wp2_with fail
  refine (HFW.out w).mono ?_
  rintro e w9 ⟨rfl, rfl⟩
  go_wp2_with fail
  refine (Hp1.out w PA.out PB.out).mono ?_
  rintro e w0 ⟨p1, q1, rfl, hpP1, hb⟩
  replace PA := Lib.hid (PA.out.keep hb)
  replace PB := Lib.hid (PB.out.keep hb)
  replace HB := Lib.hid (HB.out.trans (hb.mono HB.out.size))
  clear hb
  have PP1 := Lib.hid hpP1
  clear hpP1
  go_wp2_with fail
  refine (Hr1.out w0 PA.out PB.out).mono ?_
  rintro e w1 ⟨r1, s1, rfl, hpR1, hb⟩
  replace PA := Lib.hid (PA.out.keep hb)
  replace PB := Lib.hid (PB.out.keep hb)
  replace PP1 := Lib.hid (PP1.out.keep hb)
  replace HB := Lib.hid (HB.out.trans (hb.mono HB.out.size))
  clear hb
  have PR1 := Lib.hid hpR1
  clear hpR1
  go_wp2_with fail
  refine (HSM.out w1 _ _ _ _ X1 LX1.out PP1.out PR1.out).mono ?_
  rintro e w2 ⟨rfl, hb⟩
  replace PA := Lib.hid (PA.out.keep hb)
  replace PB := Lib.hid (PB.out.keep hb)
  replace PP1 := Lib.hid (PP1.out.keep hb)
  replace PR1 := Lib.hid (PR1.out.keep hb)
  replace HB := Lib.hid (HB.out.trans (hb.mono HB.out.size))
  clear hb
  go_wp2_with fail
  refine (Hp2.out w2 PA.out PB.out).mono ?_
  rintro e w3 ⟨p2, q2, rfl, hpP2, hb⟩
  replace PA := Lib.hid (PA.out.keep hb)
  replace PB := Lib.hid (PB.out.keep hb)
  replace PP1 := Lib.hid (PP1.out.keep hb)
  replace PR1 := Lib.hid (PR1.out.keep hb)
  replace HB := Lib.hid (HB.out.trans (hb.mono HB.out.size))
  clear hb
  have PP2 := Lib.hid hpP2
  clear hpP2
  go_wp2_with fail
  refine (Hr2.out w3 PA.out PB.out).mono ?_
  rintro e w4 ⟨r2, s2, rfl, hpR2, hb⟩
  replace PA := Lib.hid (PA.out.keep hb)
  replace PB := Lib.hid (PB.out.keep hb)
  replace PP1 := Lib.hid (PP1.out.keep hb)
  replace PR1 := Lib.hid (PR1.out.keep hb)
  replace PP2 := Lib.hid (PP2.out.keep hb)
  replace HB := Lib.hid (HB.out.trans (hb.mono HB.out.size))
  clear hb
  have PR2 := Lib.hid hpR2
  clear hpR2
  go_wp2_with fail
  refine (HSM.out w4 _ _ _ _ X2 LX2.out PP2.out PR2.out).mono ?_
  rintro e w5 ⟨rfl, hb⟩
  replace PA := Lib.hid (PA.out.keep hb)
  replace PB := Lib.hid (PB.out.keep hb)
  replace PP1 := Lib.hid (PP1.out.keep hb)
  replace PR1 := Lib.hid (PR1.out.keep hb)
  replace PP2 := Lib.hid (PP2.out.keep hb)
  replace PR2 := Lib.hid (PR2.out.keep hb)
  replace HB := Lib.hid (HB.out.trans (hb.mono HB.out.size))
  clear hb
  go_wp2_with fail
  refine (Hp3.out w5 PA.out).mono ?_
  rintro e w6 ⟨p3, q3, rfl, hpP3, hb⟩
  replace PA := Lib.hid (PA.out.keep hb)
  replace PB := Lib.hid (PB.out.keep hb)
  replace PP1 := Lib.hid (PP1.out.keep hb)
  replace PR1 := Lib.hid (PR1.out.keep hb)
  replace PP2 := Lib.hid (PP2.out.keep hb)
  replace PR2 := Lib.hid (PR2.out.keep hb)
  replace HB := Lib.hid (HB.out.trans (hb.mono HB.out.size))
  clear hb
  have PP3 := Lib.hid hpP3
  clear hpP3
  go_wp2_with fail
  refine (Hr3.out w6 PA.out).mono ?_
  rintro e w7 ⟨r3, s3, rfl, hpR3, hb⟩
  replace PA := Lib.hid (PA.out.keep hb)
  replace PB := Lib.hid (PB.out.keep hb)
  replace PP1 := Lib.hid (PP1.out.keep hb)
  replace PR1 := Lib.hid (PR1.out.keep hb)
  replace PP2 := Lib.hid (PP2.out.keep hb)
  replace PR2 := Lib.hid (PR2.out.keep hb)
  replace PP3 := Lib.hid (PP3.out.keep hb)
  replace HB := Lib.hid (HB.out.trans (hb.mono HB.out.size))
  clear hb
  have PR3 := Lib.hid hpR3
  clear hpR3
  go_wp2_with fail
  refine (Hp4.out w7 PA.out).mono ?_
  rintro e w8 ⟨p4, q4, rfl, hpP4, hb⟩
  replace PA := Lib.hid (PA.out.keep hb)
  replace PB := Lib.hid (PB.out.keep hb)
  replace PP1 := Lib.hid (PP1.out.keep hb)
  replace PR1 := Lib.hid (PR1.out.keep hb)
  replace PP2 := Lib.hid (PP2.out.keep hb)
  replace PR2 := Lib.hid (PR2.out.keep hb)
  replace PP3 := Lib.hid (PP3.out.keep hb)
  replace PR3 := Lib.hid (PR3.out.keep hb)
  replace HB := Lib.hid (HB.out.trans (hb.mono HB.out.size))
  clear hb
  have PP4 := Lib.hid hpP4
  clear hpP4
  go_wp2_with fail
  refine (Hr4.out w8 PA.out).mono ?_
  rintro e w9 ⟨r4, s4, rfl, hpR4, hb⟩
  replace PA := Lib.hid (PA.out.keep hb)
  replace PB := Lib.hid (PB.out.keep hb)
  replace PP1 := Lib.hid (PP1.out.keep hb)
  replace PR1 := Lib.hid (PR1.out.keep hb)
  replace PP2 := Lib.hid (PP2.out.keep hb)
  replace PR2 := Lib.hid (PR2.out.keep hb)
  replace PP3 := Lib.hid (PP3.out.keep hb)
  replace PR3 := Lib.hid (PR3.out.keep hb)
  replace PP4 := Lib.hid (PP4.out.keep hb)
  replace HB := Lib.hid (HB.out.trans (hb.mono HB.out.size))
  clear hb
  have PR4 := Lib.hid hpR4
  clear hpR4
  go_wp2_with fail
  refine (HSM.out w9 _ _ _ _ X3 LX3.out PP3.out PR3.out).mono ?_
  rintro e w10 ⟨rfl, hb⟩
  replace PA := Lib.hid (PA.out.keep hb)
  replace PB := Lib.hid (PB.out.keep hb)
  replace PP1 := Lib.hid (PP1.out.keep hb)
  replace PR1 := Lib.hid (PR1.out.keep hb)
  replace PP2 := Lib.hid (PP2.out.keep hb)
  replace PR2 := Lib.hid (PR2.out.keep hb)
  replace PP3 := Lib.hid (PP3.out.keep hb)
  replace PR3 := Lib.hid (PR3.out.keep hb)
  replace PP4 := Lib.hid (PP4.out.keep hb)
  replace PR4 := Lib.hid (PR4.out.keep hb)
  replace HB := Lib.hid (HB.out.trans (hb.mono HB.out.size))
  clear hb
  go_wp2_with fail
  refine (HSM.out w10 _ _ _ _ X4 LX4.out PP4.out PR4.out).mono ?_
  rintro e w11 ⟨rfl, hb⟩
  replace PA := Lib.hid (PA.out.keep hb)
  replace PB := Lib.hid (PB.out.keep hb)
  replace PP1 := Lib.hid (PP1.out.keep hb)
  replace PR1 := Lib.hid (PR1.out.keep hb)
  replace PP2 := Lib.hid (PP2.out.keep hb)
  replace PR2 := Lib.hid (PR2.out.keep hb)
  replace PP3 := Lib.hid (PP3.out.keep hb)
  replace PR3 := Lib.hid (PR3.out.keep hb)
  replace PP4 := Lib.hid (PP4.out.keep hb)
  replace PR4 := Lib.hid (PR4.out.keep hb)
  replace HB := Lib.hid (HB.out.trans (hb.mono HB.out.size))
  clear hb
  go_wp2_with fail
  refine (HAW.out w11).mono ?_
  rintro e w12 ⟨rfl, hb⟩
  replace PA := Lib.hid (PA.out.keep hb)
  replace PB := Lib.hid (PB.out.keep hb)
  replace PP1 := Lib.hid (PP1.out.keep hb)
  replace PR1 := Lib.hid (PR1.out.keep hb)
  replace PP2 := Lib.hid (PP2.out.keep hb)
  replace PR2 := Lib.hid (PR2.out.keep hb)
  replace PP3 := Lib.hid (PP3.out.keep hb)
  replace PR3 := Lib.hid (PR3.out.keep hb)
  replace PP4 := Lib.hid (PP4.out.keep hb)
  replace PR4 := Lib.hid (PR4.out.keep hb)
  replace HB := Lib.hid (HB.out.trans (hb.mono HB.out.size))
  clear hb
  go_wp2
  go_ret
  exact ⟨rfl, HB.out⟩
end Go.Proofs.Ytalbdggpghkcfaa
