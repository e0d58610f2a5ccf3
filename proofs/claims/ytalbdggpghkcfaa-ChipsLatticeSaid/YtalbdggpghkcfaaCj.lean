/- Add, Sub, Meet, Join, Neg, Scale, Zero, Some of the program. -/
import Derived.Test.YtalbdggpghkcfaaCe
import Derived.Test.YtalbdggpghkcfaaCf
import Derived.Test.YtalbdggpghkcfaaCg
import Derived.Test.YtalbdggpghkcfaaCh
import Derived.Test.YtalbdggpghkcfaaCi
namespace Go.Proofs.Ytalbdggpghkcfaa
open Go.RowKit Go.Proofs.Gr Go.Proofs.Cp
attribute [local go_sem] Oper.semAt_some

set_option maxHeartbeats 12800000 in
set_option maxRecDepth 100000 in
theorem pAdd_any (a b : Option Addr) (c d : Nat) (A B : List Int) (hA : A.length ≤ 1000) (hB : B.length ≤ 1000) (w : World) (h1 : IsAt w a A) (h2 : IsAt w b B) :
    Calls Try.prog 21 #[.slice a A.length c, .slice b B.length d] w (GivesIE w (cmbL (fun x y => x + y) A B) (cmbK (fun x y => x + y) A B)) := by
  have HC := Lib.hid (combAdd a b c d A B hA hB w h1 h2)
  unfold GivesIE at *
  generalize cmbL (fun x y => x + y) A B = X at *
  generalize cmbK (fun x y => x + y) A B = k at *
  clear h1 h2
  go_enter Try.func21, Try.ntmps21
  go_wp2_with fail
  refine HC.out.mono ?_
  rintro e w1 ⟨a9, c9, rfl, hr, hb⟩
  have HR := Lib.hid hr
  have HB := Lib.hid hb
  clear hr hb
  go_wp2
  go_ret2
  exact ⟨a9, c9, rfl, HR.out, HB.out⟩
set_option maxHeartbeats 12800000 in
set_option maxRecDepth 100000 in
theorem pSub_any (a b : Option Addr) (c d : Nat) (A B : List Int) (hA : A.length ≤ 1000) (hB : B.length ≤ 1000) (w : World) (h1 : IsAt w a A) (h2 : IsAt w b B) :
    Calls Try.prog 23 #[.slice a A.length c, .slice b B.length d] w (GivesIE w (cmbL (fun x y => x - y) A B) (cmbK (fun x y => x - y) A B)) := by
  have HC := Lib.hid (combSub a b c d A B hA hB w h1 h2)
  unfold GivesIE at *
  generalize cmbL (fun x y => x - y) A B = X at *
  generalize cmbK (fun x y => x - y) A B = k at *
  clear h1 h2
  go_enter Try.func23, Try.ntmps23
  go_wp2_with fail
  refine HC.out.mono ?_
  rintro e w1 ⟨a9, c9, rfl, hr, hb⟩
  have HR := Lib.hid hr
  have HB := Lib.hid hb
  clear hr hb
  go_wp2
  go_ret2
  exact ⟨a9, c9, rfl, HR.out, HB.out⟩
set_option maxHeartbeats 12800000 in
set_option maxRecDepth 100000 in
theorem pMeet_any (a b : Option Addr) (c d : Nat) (A B : List Int) (hA : A.length ≤ 1000) (hB : B.length ≤ 1000) (w : World) (h1 : IsAt w a A) (h2 : IsAt w b B) :
    Calls Try.prog 42 #[.slice a A.length c, .slice b B.length d] w (GivesIE w (cmbL (fun x y => min x y) A B) (cmbK (fun x y => min x y) A B)) := by
  have HC := Lib.hid (combMin a b c d A B hA hB w h1 h2)
  unfold GivesIE at *
  generalize cmbL (fun x y => min x y) A B = X at *
  generalize cmbK (fun x y => min x y) A B = k at *
  clear h1 h2
  go_enter Try.func42, Try.ntmps42
  go_wp2_with fail
  refine HC.out.mono ?_
  rintro e w1 ⟨a9, c9, rfl, hr, hb⟩
  have HR := Lib.hid hr
  have HB := Lib.hid hb
  clear hr hb
  go_wp2
  go_ret2
  exact ⟨a9, c9, rfl, HR.out, HB.out⟩
set_option maxHeartbeats 12800000 in
set_option maxRecDepth 100000 in
theorem pJoin_any (a b : Option Addr) (c d : Nat) (A B : List Int) (hA : A.length ≤ 1000) (hB : B.length ≤ 1000) (w : World) (h1 : IsAt w a A) (h2 : IsAt w b B) :
    Calls Try.prog 44 #[.slice a A.length c, .slice b B.length d] w (GivesIE w (cmbL (fun x y => max x y) A B) (cmbK (fun x y => max x y) A B)) := by
  have HC := Lib.hid (combMax a b c d A B hA hB w h1 h2)
  unfold GivesIE at *
  generalize cmbL (fun x y => max x y) A B = X at *
  generalize cmbK (fun x y => max x y) A B = k at *
  clear h1 h2
  go_enter Try.func44, Try.ntmps44
  go_wp2_with fail
  refine HC.out.mono ?_
  rintro e w1 ⟨a9, c9, rfl, hr, hb⟩
  have HR := Lib.hid hr
  have HB := Lib.hid hb
  clear hr hb
  go_wp2
  go_ret2
  exact ⟨a9, c9, rfl, HR.out, HB.out⟩
set_option maxHeartbeats 12800000 in
set_option maxRecDepth 100000 in
theorem pScale_any (a : Option Addr) (c : Nat) (D : List Int) (hD : D.length ≤ 1000) (k : Int) (w : World) (h : IsAt w a D) :
    Calls Try.prog 27 #[.slice a D.length c, .int .i64 k] w (GivesIE w (cmbL (mulK k) D D) (cmbK (mulK k) D D)) := by
  obtain ⟨W, hW⟩ : ∃ W, W = w.alloc (Obj.cells #[.int .i64 k] 3) := ⟨_, rfl⟩
  have hB0 : Below w.heap.size w W := by rw [hW]; exact (Below.refl _ w).alloc (Nat.le_refl _) _
  have hG : Blk W w.heap.size 3 #[.int .i64 k] := by rw [hW]; exact Blk.new _ _ _
  have HC := Lib.hid (combScl a a c c D D hD hD ⟨w.heap.size, 0, none⟩ k W (h.keep hB0) (h.keep hB0) (hG.cell 0) hG.lt)
  have HW := Lib.hid hW
  have HB0 := Lib.hid hB0
  unfold GivesIE at *
  generalize cmbL (mulK k) D D = X at *
  generalize cmbK (mulK k) D D = kk at *
  clear h hB0 hG hW
  go_enter Try.func27, Try.ntmps27
  go_wp2_with fail
  rw [← HW.out]
  refine HC.out.mono ?_
  rintro e w1 ⟨a9, c9, rfl, hr, hb⟩
  have HR := Lib.hid hr
  have HB := Lib.hid (HB0.out.trans (hb.mono HB0.out.size))
  clear hr hb
  go_wp2
  go_ret2
  exact ⟨a9, c9, rfl, HR.out, HB.out⟩
set_option maxHeartbeats 12800000 in
set_option maxRecDepth 100000 in
theorem pNeg_any (a : Option Addr) (c : Nat) (D : List Int) (hD : D.length ≤ 1000) (w : World) (h : IsAt w a D) :
    Calls Try.prog 25 #[.slice a D.length c] w (GivesIE w (cmbL (mulK (-1)) D D) (cmbK (mulK (-1)) D D)) := by
  have HC := Lib.hid (pScale_any a c D hD (-1) w h)
  unfold GivesIE at *
  generalize cmbL (mulK (-1)) D D = X at *
  generalize cmbK (mulK (-1)) D D = k at *
  clear h
  go_enter Try.func25, Try.ntmps25
  go_wp2_with fail
  refine HC.out.mono ?_
  rintro e w1 ⟨a9, c9, rfl, hr, hb⟩
  have HR := Lib.hid hr
  have HB := Lib.hid hb
  clear hr hb
  go_wp2
  go_ret2
  exact ⟨a9, c9, rfl, HR.out, HB.out⟩
/-- The error of a number of vertices, the divisor without chips, and that with chips at one vertex. -/
def zerK (n : Int) : Nat := if n < 1 ∨ 12 < n then 2 else 0
def zerL (n : Int) : List Int := if zerK n = 0 then List.replicate n.toNat 0 else []
def somK (n v k : Int) : Nat := if zerK n ≠ 0 then 2 else if v < 0 ∨ n ≤ v ∨ big k = true then 2 else 0
def somL (n v k : Int) : List Int := if somK n v k = 0 then (List.replicate n.toNat 0).set v.toNat k else []
/-- Hands back a list of its own, or an error. -/
def GivesRE (w : World) (X : List Int) (k : Nat) (e : Ending) (x : World) : Prop := (k = 0 ∧ ∃ g, w.heap.size ≤ g ∧ e = .returned (.tuple #[.slice (some ⟨g, 0, none⟩) X.length X.length, .int .i64 0]) ∧ RowB encI 3 x g X ∧ Below w.heap.size w x) ∨ (k ≠ 0 ∧ X = [] ∧ e = .returned (.tuple #[.slice none 0 0, .int .i64 (k : Nat)]) ∧ Below w.heap.size w x)
theorem GivesRE.weak {w : World} {X : List Int} {k : Nat} {e : Ending} {x : World} (h : GivesRE w X k e x) : GivesIE w X k e x := by
  rcases h with ⟨rfl, g, -, rfl, hr, hb⟩ | ⟨-, rfl, rfl, hb⟩
  · exact ⟨_, _, rfl, hr.row encI_len, hb⟩
  · exact ⟨none, 0, rfl, RowAt.nil _ _ _ _, hb⟩
set_option maxHeartbeats 12800000 in
set_option maxRecDepth 100000 in
theorem pZero_any (n : Int) (w : World) :
    Calls Try.prog 14 #[.int .i64 n] w (GivesRE w (zerL n) (zerK n)) := by
  have HC := Lib.hid (fun w => isCount_any n w)
  go_enter Try.func14, Try.ntmps14
  go_wp2_with fail
  refine (HC.out w).mono ?_
  rintro e w1 ⟨rfl, rfl⟩
  by_cases hn : 1 ≤ n ∧ n ≤ 12
  · have d1 : decide (1 ≤ n) = true := decide_eq_true hn.1
    have d2 : decide (n ≤ 12) = true := decide_eq_true hn.2
    rw [d1, d2]
    clear d1 d2
    obtain ⟨N, hN⟩ : ∃ N : Nat, n = N := ⟨n.toNat, by omega⟩
    subst hN
    have hmk : (Instr.makeSlice 23 (.int .i64 (N : Int)) (.int .i64 (N : Int))).run Try.prog w = .ok (.slice (some ⟨w.heap.size, 0, none⟩) N N) (w.alloc (.cells (flat encI (List.replicate N 0)).toArray 3)) := make_divs N (by omega) _
    obtain ⟨W9, hW9⟩ : ∃ v, v = w.alloc (.cells (flat encI (List.replicate N 0)).toArray 3) := ⟨_, rfl⟩
    have HRB : Hid (RowB encI 3 W9 w.heap.size (List.replicate N 0)) := Lib.hid (by rw [hW9]; exact RowB.new _ _ _ _)
    have HBL : Hid (Below w.heap.size w W9) := Lib.hid (by rw [hW9]; exact (Below.refl _ _).alloc (Nat.le_refl _) _)
    rw [← hW9] at hmk
    clear hW9
    have HK : Hid (zerK N = 0) := Lib.hid (by unfold zerK; rw [if_neg (by omega)])
    have HX : Hid (zerL N = List.replicate N 0) := Lib.hid (by unfold zerL; rw [HK.out, if_pos rfl]; simp)
    clear hn
    go_wp2
    go_ret2
    exact .inl ⟨HK.out, w.heap.size, Nat.le_refl _, by rw [HX.out, List.length_replicate]; rfl, by rw [HX.out]; exact HRB.out, HBL.out⟩
  · have d1 : (decide (1 ≤ n) && decide (n ≤ 12)) = false := by rw [Bool.and_eq_false_iff, decide_eq_false_iff_not, decide_eq_false_iff_not]; omega
    rw [d1]
    clear d1
    have HK : Hid (zerK n = 2) := Lib.hid (by unfold zerK; rw [if_pos (by omega)])
    have HX : Hid (zerL n = []) := Lib.hid (by unfold zerL; rw [HK.out, if_neg (by omega)])
    clear hn
    go_wp2
    go_ret2
    exact .inr ⟨by rw [HK.out]; decide, HX.out, by rw [HK.out]; rfl, Below.refl _ _⟩
set_option maxHeartbeats 12800000 in
set_option maxRecDepth 100000 in
theorem rZero_any (n : Int) (w : World) :
    Calls Try.prog 15 #[.int .i64 n] w (GivesRE w (zerL n) (zerK n)) := by
  unfold GivesRE
  by_cases h1 : n < 1
  · have d1 : decide (n < 1) = true := decide_eq_true h1
    have HK : Hid (zerK n = 2) := Lib.hid (by unfold zerK; rw [if_pos (by omega)])
    have HX : Hid (zerL n = []) := Lib.hid (by unfold zerL; rw [HK.out, if_neg (by omega)])
    go_enter Try.func15, Try.ntmps15
    go_wp2
    go_ret2
    exact .inr ⟨by rw [HK.out]; decide, HX.out, by rw [HK.out]; rfl, Below.refl _ _⟩
  by_cases h2 : 12 < n
  · have d1 : decide (n < 1) = false := decide_eq_false h1
    have d2 : decide (12 < n) = true := decide_eq_true h2
    have HK : Hid (zerK n = 2) := Lib.hid (by unfold zerK; rw [if_pos (by omega)])
    have HX : Hid (zerL n = []) := Lib.hid (by unfold zerL; rw [HK.out, if_neg (by omega)])
    go_enter Try.func15, Try.ntmps15
    go_wp2
    go_ret2
    exact .inr ⟨by rw [HK.out]; decide, HX.out, by rw [HK.out]; rfl, Below.refl _ _⟩
  obtain ⟨N, hN⟩ : ∃ N : Nat, n = N := ⟨n.toNat, by omega⟩
  subst hN
  have hmk : (Instr.makeSlice 23 (.int .i64 (N : Int)) (.int .i64 (N : Int))).run Try.prog w = .ok (.slice (some ⟨w.heap.size, 0, none⟩) N N) (w.alloc (.cells (flat encI (List.replicate N 0)).toArray 3)) := make_divs N (by omega) _
  obtain ⟨W9, hW9⟩ : ∃ v, v = w.alloc (.cells (flat encI (List.replicate N 0)).toArray 3) := ⟨_, rfl⟩
  have HRB : Hid (RowB encI 3 W9 w.heap.size (List.replicate N 0)) := Lib.hid (by rw [hW9]; exact RowB.new _ _ _ _)
  have HBL : Hid (Below w.heap.size w W9) := Lib.hid (by rw [hW9]; exact (Below.refl _ _).alloc (Nat.le_refl _) _)
  rw [← hW9] at hmk
  clear hW9
  have HK : Hid (zerK N = 0) := Lib.hid (by unfold zerK; rw [if_neg (by omega)])
  have HX : Hid (zerL N = List.replicate N 0) := Lib.hid (by unfold zerL; rw [HK.out, if_pos rfl]; simp)
  have d1 : decide ((N : Int) < 1) = false := decide_eq_false h1
  have d2 : decide (12 < (N : Int)) = false := decide_eq_false h2
  clear h1 h2
  go_enter Try.func15, Try.ntmps15
  go_wp2
  go_ret2
  exact .inl ⟨HK.out, w.heap.size, Nat.le_refl _, by rw [HX.out, List.length_replicate]; rfl, by rw [HX.out]; exact HRB.out, HBL.out⟩
set_option maxHeartbeats 12800000 in
set_option maxRecDepth 100000 in
theorem pSome_any (n v k : Int) (w : World) :
    Calls Try.prog 16 #[.int .i64 n, .int .i64 v, .int .i64 k] w (GivesRE w (somL n v k) (somK n v k)) := by
  have HZ := Lib.hid (pZero_any n w)
  have HL := Lib.hid (fun k w => isLarge_any k w)
  have HE : Hid (somK n v k = if zerK n ≠ 0 then 2 else if v < 0 ∨ n ≤ v ∨ big k = true then 2 else 0) := Lib.hid rfl
  have HXE : Hid (somL n v k = if somK n v k = 0 then (List.replicate n.toNat 0).set v.toNat k else []) := Lib.hid rfl
  have HZE : Hid (zerL n = if zerK n = 0 then List.replicate n.toNat 0 else []) := Lib.hid rfl
  have HZ2 : Hid (zerK n ≠ 0 → zerK n = 2) := Lib.hid fun h => by unfold zerK at *; split at h <;> simp_all
  have HZN : Hid (zerK n = 0 → 1 ≤ n ∧ n ≤ 12) := Lib.hid fun h => by
    unfold zerK at h
    by_cases h1 : n < 1 ∨ 12 < n
    · rw [if_pos h1] at h; omega
    · omega
  unfold GivesRE at *
  generalize somL n v k = X at *
  generalize somK n v k = K at *
  generalize zerL n = Z at *
  generalize zerK n = kz at *
  go_enter Try.func16, Try.ntmps16
  go_wp2_with fail
  refine HZ.out.mono ?_
  rintro e w1 (⟨hk, g, hg, rfl, hr, hb⟩ | ⟨hk, hz, rfl, hb⟩)
  · have HGE := Lib.hid hg
    have HR := Lib.hid hr
    have HB1 := Lib.hid hb
    subst hk
    have hn := HZN.out rfl
    obtain ⟨N, hN⟩ : ∃ N : Nat, n = N := ⟨n.toNat, by omega⟩
    subst hN
    have HZL : Hid (Z = List.replicate N 0) := Lib.hid (by rw [HZE.out, if_pos rfl]; simp)
    have HLN : Hid (Z.length = N) := Lib.hid (by rw [HZL.out, List.length_replicate])
    have hln := HLN.out
    rw [hln]
    clear hg hr hb hln
    by_cases v1 : v < 0
    · have d1 : decide (v < 0) = true := decide_eq_true v1
      have HK : Hid (K = 2) := Lib.hid (by rw [HE.out, if_neg (by omega), if_pos (Or.inl v1)])
      have HXX : Hid (X = []) := Lib.hid (by rw [HXE.out, HK.out, if_neg (by omega)])
      clear v1 hn
      go_wp2
      go_ret2
      exact .inr ⟨by rw [HK.out]; decide, HXX.out, by rw [HK.out]; rfl, HB1.out⟩
    by_cases v2 : (N : Int) ≤ v
    · have d1 : decide (v < 0) = false := decide_eq_false v1
      have d2 : decide ((N : Int) ≤ v) = true := decide_eq_true v2
      have HK : Hid (K = 2) := Lib.hid (by rw [HE.out, if_neg (by omega), if_pos (Or.inr (Or.inl v2))])
      have HXX : Hid (X = []) := Lib.hid (by rw [HXE.out, HK.out, if_neg (by omega)])
      clear v1 v2 hn
      go_wp2
      go_ret2
      exact .inr ⟨by rw [HK.out]; decide, HXX.out, by rw [HK.out]; rfl, HB1.out⟩
    have d1 : decide (v < 0) = false := decide_eq_false v1
    have d2 : decide ((N : Int) ≤ v) = false := decide_eq_false v2
    go_wp2_with fail
    refine (HL.out k w1).mono ?_
    rintro e w1 ⟨rfl, rfl⟩
    cases hbk : big k with
    | true =>
      have HK : Hid (K = 2) := Lib.hid (by rw [HE.out, if_neg (by omega), if_pos (Or.inr (Or.inr hbk))])
      have HXX : Hid (X = []) := Lib.hid (by rw [HXE.out, HK.out, if_neg (by omega)])
      clear v1 v2 hn hbk
      
      go_wp2
      go_ret2
      exact .inr ⟨by rw [HK.out]; decide, HXX.out, by rw [HK.out]; rfl, HB1.out⟩
    | false =>
      have HK : Hid (K = 0) := Lib.hid (by rw [HE.out, if_neg (by omega), if_neg (by rw [hbk]; simp; omega)])
      obtain ⟨V, hV⟩ : ∃ V : Nat, v = V := ⟨v.toNat, by omega⟩
      subst hV
      have HXX : Hid (X = Z.set V k) := Lib.hid (by rw [HXE.out, HK.out, if_pos rfl, HZL.out]; simp)
      have HXN : Hid (X.length = N) := Lib.hid (by rw [HXX.out, List.length_set, HLN.out])
      have u1 : (V : Int) < (N : Int) := by omega
      have u2 : (0 : Int) ≤ (V : Int) := by omega
      have s1 := HR.out.cell V (by rw [HLN.out]; omega)
      have s2 : w1.frozen? ⟨g, V, none⟩ = false := Blk.frozen HR.out V
      have HRN : Hid (RowB encI 3 (w1.setCell ⟨g, V, none⟩ (.int .i64 k)) g X) := Lib.hid (by rw [HXX.out]; exact HR.out.set V k)
      have HBN : Hid (Below w.heap.size w (w1.setCell ⟨g, V, none⟩ (.int .i64 k))) := Lib.hid (HB1.out.setCell (p := ⟨g, V, none⟩) HGE.out _)
      generalize iAt Z V = old at s1
      clear v1 v2 hn hbk
      
      go_wp2
      go_ret2
      exact .inl ⟨HK.out, g, HGE.out, by rw [HXN.out]; rfl, HRN.out, HBN.out⟩
  · have HB1 := Lib.hid hb
    have q0 : (((kz : Nat) : Int) != 0) = true := by rw [bne_iff_ne]; omega
    have HK : Hid (K = kz) := Lib.hid (by rw [HE.out, if_pos hk, HZ2.out hk])
    have HKN : Hid (kz ≠ 0) := Lib.hid hk
    have HXX : Hid (X = []) := Lib.hid (by rw [HXE.out, HK.out, if_neg hk])
    clear hb hz hk
    go_wp2
    go_ret2
    exact .inr ⟨by rw [HK.out]; exact HKN.out, HXX.out, by rw [HK.out]; rfl, HB1.out⟩
set_option maxHeartbeats 12800000 in
set_option maxRecDepth 100000 in
theorem rSome_any (n v k : Int) (w : World) :
    Calls Try.prog 17 #[.int .i64 n, .int .i64 v, .int .i64 k] w (GivesRE w (somL n v k) (somK n v k)) := by
  have HZ := Lib.hid (rZero_any n w)
  have HL := Lib.hid (fun k w => rIn_any k w)
  have HE : Hid (somK n v k = if zerK n ≠ 0 then 2 else if v < 0 ∨ n ≤ v ∨ big k = true then 2 else 0) := Lib.hid rfl
  have HXE : Hid (somL n v k = if somK n v k = 0 then (List.replicate n.toNat 0).set v.toNat k else []) := Lib.hid rfl
  have HZE : Hid (zerL n = if zerK n = 0 then List.replicate n.toNat 0 else []) := Lib.hid rfl
  have HZ2 : Hid (zerK n ≠ 0 → zerK n = 2) := Lib.hid fun h => by unfold zerK at *; split at h <;> simp_all
  have HZN : Hid (zerK n = 0 → 1 ≤ n ∧ n ≤ 12) := Lib.hid fun h => by
    unfold zerK at h
    by_cases h1 : n < 1 ∨ 12 < n
    · rw [if_pos h1] at h; omega
    · omega
  unfold GivesRE at *
  generalize somL n v k = X at *
  generalize somK n v k = K at *
  generalize zerL n = Z at *
  generalize zerK n = kz at *
  go_enter Try.func17, Try.ntmps17
  go_wp2_with fail
  refine HZ.out.mono ?_
  rintro e w1 (⟨hk, g, hg, rfl, hr, hb⟩ | ⟨hk, hz, rfl, hb⟩)
  · have HGE := Lib.hid hg
    have HR := Lib.hid hr
    have HB1 := Lib.hid hb
    subst hk
    have hn := HZN.out rfl
    obtain ⟨N, hN⟩ : ∃ N : Nat, n = N := ⟨n.toNat, by omega⟩
    subst hN
    have HZL : Hid (Z = List.replicate N 0) := Lib.hid (by rw [HZE.out, if_pos rfl]; simp)
    have HLN : Hid (Z.length = N) := Lib.hid (by rw [HZL.out, List.length_replicate])
    have hln := HLN.out
    rw [hln]
    clear hg hr hb hln
    by_cases v1 : v < 0
    · have d1 : decide (v < 0) = true := decide_eq_true v1
      have HK : Hid (K = 2) := Lib.hid (by rw [HE.out, if_neg (by omega), if_pos (Or.inl v1)])
      have HXX : Hid (X = []) := Lib.hid (by rw [HXE.out, HK.out, if_neg (by omega)])
      clear v1 hn
      go_wp2
      go_ret2
      exact .inr ⟨by rw [HK.out]; decide, HXX.out, by rw [HK.out]; rfl, HB1.out⟩
    by_cases v2 : (N : Int) ≤ v
    · have d1 : decide (v < 0) = false := decide_eq_false v1
      have d2 : decide ((N : Int) ≤ v) = true := decide_eq_true v2
      have HK : Hid (K = 2) := Lib.hid (by rw [HE.out, if_neg (by omega), if_pos (Or.inr (Or.inl v2))])
      have HXX : Hid (X = []) := Lib.hid (by rw [HXE.out, HK.out, if_neg (by omega)])
      clear v1 v2 hn
      go_wp2
      go_ret2
      exact .inr ⟨by rw [HK.out]; decide, HXX.out, by rw [HK.out]; rfl, HB1.out⟩
    have d1 : decide (v < 0) = false := decide_eq_false v1
    have d2 : decide ((N : Int) ≤ v) = false := decide_eq_false v2
    go_wp2_with fail
    refine (HL.out k w1).mono ?_
    rintro e w1 ⟨rfl, rfl⟩
    cases hbk : big k with
    | true =>
      have HK : Hid (K = 2) := Lib.hid (by rw [HE.out, if_neg (by omega), if_pos (Or.inr (Or.inr hbk))])
      have HXX : Hid (X = []) := Lib.hid (by rw [HXE.out, HK.out, if_neg (by omega)])
      clear v1 v2 hn hbk
      rw [Bool.not_true]
      go_wp2
      go_ret2
      exact .inr ⟨by rw [HK.out]; decide, HXX.out, by rw [HK.out]; rfl, HB1.out⟩
    | false =>
      have HK : Hid (K = 0) := Lib.hid (by rw [HE.out, if_neg (by omega), if_neg (by rw [hbk]; simp; omega)])
      obtain ⟨V, hV⟩ : ∃ V : Nat, v = V := ⟨v.toNat, by omega⟩
      subst hV
      have HXX : Hid (X = Z.set V k) := Lib.hid (by rw [HXE.out, HK.out, if_pos rfl, HZL.out]; simp)
      have HXN : Hid (X.length = N) := Lib.hid (by rw [HXX.out, List.length_set, HLN.out])
      have u1 : (V : Int) < (N : Int) := by omega
      have u2 : (0 : Int) ≤ (V : Int) := by omega
      have s1 := HR.out.cell V (by rw [HLN.out]; omega)
      have s2 : w1.frozen? ⟨g, V, none⟩ = false := Blk.frozen HR.out V
      have HRN : Hid (RowB encI 3 (w1.setCell ⟨g, V, none⟩ (.int .i64 k)) g X) := Lib.hid (by rw [HXX.out]; exact HR.out.set V k)
      have HBN : Hid (Below w.heap.size w (w1.setCell ⟨g, V, none⟩ (.int .i64 k))) := Lib.hid (HB1.out.setCell (p := ⟨g, V, none⟩) HGE.out _)
      generalize iAt Z V = old at s1
      clear v1 v2 hn hbk
      rw [Bool.not_false]
      go_wp2
      go_ret2
      exact .inl ⟨HK.out, g, HGE.out, by rw [HXN.out]; rfl, HRN.out, HBN.out⟩
  · have HB1 := Lib.hid hb
    have q0 : (((kz : Nat) : Int) != 0) = true := by rw [bne_iff_ne]; omega
    have HK : Hid (K = kz) := Lib.hid (by rw [HE.out, if_pos hk, HZ2.out hk])
    have HKN : Hid (kz ≠ 0) := Lib.hid hk
    have HXX : Hid (X = []) := Lib.hid (by rw [HXE.out, HK.out, if_neg hk])
    clear hb hz hk
    go_wp2
    go_ret2
    exact .inr ⟨by rw [HK.out]; exact HKN.out, HXX.out, by rw [HK.out]; rfl, HB1.out⟩
end Go.Proofs.Ytalbdggpghkcfaa
