/- Small functions: ranges, the error of a divisor, by both. -/
import Derived.Test.YtgejkgeojjgclaaCa
import Derived.Test.YtgejkgeojjgclaaNa
namespace Go.Proofs.Ytgejkgeojjgclaa
open Go.RowKit Go.Proofs.Gr Go.Proofs.Cp
attribute [local go_sem] Oper.semAt_some

set_option maxHeartbeats 12800000 in
set_option maxRecDepth 100000 in
theorem isCount_any (k : Int) (w : World) :
    Calls Try.prog 94 #[.int .i64 k] w (fun e w' => e = .returned (.bool (decide (1 ≤ k) && decide (k ≤ 12))) ∧ w = w') := by
  obtain ⟨R, hR⟩ : ∃ R, R = (decide (1 ≤ k) && decide (k ≤ 12)) := ⟨_, rfl⟩
  rw [← hR]
  have hE : Hid (R = (decide (1 ≤ k) && decide (k ≤ 12))) := Lib.hid (hR.trans rfl)
  clear hR
  by_cases h1 : 1 ≤ k
  · have d1 : decide (1 ≤ k) = true := decide_eq_true h1
    by_cases h2 : k ≤ 12
    · have d2 : decide (k ≤ 12) = true := decide_eq_true h2
      have hE' : Hid (R = true) := Lib.hid (by rw [hE.out, d1, d2]; rfl)
      clear hE
      go_enter Try.func94, Try.ntmps94
      go_wp2
      go_ret
      exact ⟨by rw [hE'.out]; rfl, rfl⟩
    · have d2 : decide (k ≤ 12) = false := decide_eq_false h2
      have hE' : Hid (R = false) := Lib.hid (by rw [hE.out, d1, d2]; rfl)
      clear hE
      go_enter Try.func94, Try.ntmps94
      go_wp2
      go_ret
      exact ⟨by rw [hE'.out]; rfl, rfl⟩
  · have d1 : decide (1 ≤ k) = false := decide_eq_false h1
    have hE' : Hid (R = false) := Lib.hid (by rw [hE.out, d1]; rfl)
    clear hE
    go_enter Try.func94, Try.ntmps94
    go_wp2
    go_ret
    exact ⟨by rw [hE'.out]; rfl, rfl⟩
set_option maxHeartbeats 12800000 in
set_option maxRecDepth 100000 in
theorem isLarge_any (k : Int) (w : World) :
    Calls Try.prog 96 #[.int .i64 k] w (fun e w' => e = .returned (.bool (big k)) ∧ w = w') := by
  obtain ⟨R, hR⟩ : ∃ R, R = (big k) := ⟨_, rfl⟩
  rw [← hR]
  have hE : Hid (R = (decide (k < -1048576) || decide (1048576 < k))) := Lib.hid (hR.trans rfl)
  clear hR
  by_cases h1 : k < -1048576
  · have d1 : decide (k < -1048576) = true := decide_eq_true h1
    have hE' : Hid (R = true) := Lib.hid (by rw [hE.out, d1]; rfl)
    clear hE
    go_enter Try.func96, Try.ntmps96
    go_wp2
    go_ret
    exact ⟨by rw [hE'.out]; rfl, rfl⟩
  · have d1 : decide (k < -1048576) = false := decide_eq_false h1
    by_cases h2 : 1048576 < k
    · have d2 : decide (1048576 < k) = true := decide_eq_true h2
      have hE' : Hid (R = true) := Lib.hid (by rw [hE.out, d1, d2]; rfl)
      clear hE
      go_enter Try.func96, Try.ntmps96
      go_wp2
      go_ret
      exact ⟨by rw [hE'.out]; rfl, rfl⟩
    · have d2 : decide (1048576 < k) = false := decide_eq_false h2
      have hE' : Hid (R = false) := Lib.hid (by rw [hE.out, d1, d2]; rfl)
      clear hE
      go_enter Try.func96, Try.ntmps96
      go_wp2
      go_ret
      exact ⟨by rw [hE'.out]; rfl, rfl⟩
theorem in_iff (k : Int) : (!big k) = (decide (-1048576 ≤ k) && decide (k ≤ 1048576)) := by
  cases hb : big k with
  | true =>
    have : ¬ (-1048576 ≤ k ∧ k ≤ 1048576) := fun h => by rw [big_false.2 h] at hb; cases hb
    symm
    rw [Bool.not_true, Bool.and_eq_false_iff, decide_eq_false_iff_not, decide_eq_false_iff_not]
    omega
  | false => have := big_false.1 hb; simp [this]
set_option maxHeartbeats 12800000 in
set_option maxRecDepth 100000 in
theorem rIn_any0 (k : Int) (w : World) :
    Calls Try.prog 81 #[.int .i64 k] w (fun e w' => e = .returned (.bool (decide (-1048576 ≤ k) && decide (k ≤ 1048576))) ∧ w = w') := by
  obtain ⟨R, hR⟩ : ∃ R, R = (decide (-1048576 ≤ k) && decide (k ≤ 1048576)) := ⟨_, rfl⟩
  rw [← hR]
  have hE : Hid (R = (decide (-1048576 ≤ k) && decide (k ≤ 1048576))) := Lib.hid (hR.trans rfl)
  clear hR
  by_cases h1 : -1048576 ≤ k
  · have d1 : decide (-1048576 ≤ k) = true := decide_eq_true h1
    by_cases h2 : k ≤ 1048576
    · have d2 : decide (k ≤ 1048576) = true := decide_eq_true h2
      have hE' : Hid (R = true) := Lib.hid (by rw [hE.out, d1, d2]; rfl)
      clear hE
      go_enter Try.func81, Try.ntmps81
      go_wp2
      go_ret
      exact ⟨by rw [hE'.out]; rfl, rfl⟩
    · have d2 : decide (k ≤ 1048576) = false := decide_eq_false h2
      have hE' : Hid (R = false) := Lib.hid (by rw [hE.out, d1, d2]; rfl)
      clear hE
      go_enter Try.func81, Try.ntmps81
      go_wp2
      go_ret
      exact ⟨by rw [hE'.out]; rfl, rfl⟩
  · have d1 : decide (-1048576 ≤ k) = false := decide_eq_false h1
    have hE' : Hid (R = false) := Lib.hid (by rw [hE.out, d1]; rfl)
    clear hE
    go_enter Try.func81, Try.ntmps81
    go_wp2
    go_ret
    exact ⟨by rw [hE'.out]; rfl, rfl⟩
theorem rIn_any (k : Int) (w : World) : Calls Try.prog 81 #[.int .i64 k] w (fun e w' => e = .returned (.bool (!big k)) ∧ w = w') := by rw [in_iff]; exact rIn_any0 k w
set_option maxHeartbeats 12800000 in
set_option maxRecDepth 100000 in
theorem rFew_any (a : Option Addr) (n c : Nat) (w : World) :
    Calls Try.prog 19 #[.slice a n c] w (fun e w' => e = .returned (.bool (decide (n ≤ 24))) ∧ w = w') := by
  have hE : Hid (decide (n ≤ 24) = decide ((n : Int) ≤ 24)) := Lib.hid (by
    by_cases h : n ≤ 24
    · rw [decide_eq_true h, decide_eq_true (by omega)]
    · rw [decide_eq_false h, decide_eq_false (by omega)])
  generalize decide (n ≤ 24) = R at *
  go_enter Try.func19, Try.ntmps19
  go_wp2
  go_ret
  exact ⟨by rw [hE.out]; rfl, rfl⟩
set_option maxHeartbeats 12800000 in
set_option maxRecDepth 100000 in
theorem idxLarge_any (a : Option Addr) (c : Nat) (D : List Int) (hD : D.length ≤ 1000) (w : World) (h : IsAt w a D) :
    Calls Try.prog 102 #[.slice a D.length c, (.func (.func 96) #[] #[])] w (fun e w' => (∃ r : Int, e = .returned (.int .i64 r) ∧ D.any big = decide (0 ≤ r)) ∧ Below w.heap.size w w') := by
  have HE := Lib.hid h
  have HL := Lib.hid (fun k w => isLarge_any k w)
  have HT : Hid (∀ i, i < D.length → big (iAt D i) = true → D.any big = true) := Lib.hid fun i hi hb => by rw [List.any_eq_true]; exact ⟨_, List.getElem_mem hi, by rw [iAt_get D i hi]; exact hb⟩
  have HF : Hid ((∀ j, j < D.length → big (iAt D j) = false) → D.any big = false) := Lib.hid fun hz => by
    rw [List.any_eq_false]
    intro z hz'
    obtain ⟨j, hj, rfl⟩ := List.getElem_of_mem hz'
    rw [iAt_get D j hj, hz j hj]; simp
  generalize D.any big = R at *
  clear h
  go_enter Try.func102, Try.ntmps102
  go_wp2
  go_loopw [8] (fun x wr => ∃ i : Nat, i ≤ D.length ∧ x = .int .i64 i ∧ (∀ j, j < i → big (iAt D j) = false) ∧ Below w.heap.size w wr) (fun x _ => D.length - (intOf x).toNat)
  case atStart => exact ⟨0, by omega, rfl, fun j hj => by omega, Below.refl _ _⟩
  case round =>
    obtain ⟨i, hi, rfl, hz, hb⟩ := hrel
    have HZ := Lib.hid hz
    have HB := Lib.hid hb
    by_cases hlt : i < D.length
    · have i1 : (i : Int) < (D.length : Int) := by omega
      have i2 : (0 : Int) ≤ (i : Int) := by omega
      obtain ⟨b1, o1, hb1, q1, x1⟩ := (HE.out.keep hb).one i hlt
      subst hb1
      have HTI := Lib.hid (HT.out i hlt)
      have HZN : Hid (big (iAt D i) = false → ∀ j, j < i + 1 → big (iAt D j) = false) := Lib.hid fun h0 j hj => by
        by_cases e : j = i
        · subst e; exact h0
        · exact HZ.out j (by omega)
      generalize iAt D i = z at *
      clear hz hb
      go_wp2_with fail
      refine (HL.out z wr).mono ?_
      rintro e w1 ⟨rfl, rfl⟩
      cases hbz : big z with
      | true =>
        have HR := Lib.hid (HTI.out hbz)
        clear hbz
        go_wp2
        go_ret
        exact ⟨⟨(i : Int), rfl, by rw [HR.out, decide_eq_true (by omega)]⟩, HB.out⟩
      | false =>
        have HR := Lib.hid (HZN.out hbz)
        clear hbz
        go_wp2
        go_roundw
        case rel => exact ⟨i + 1, by omega, by go_num, HR.out, HB.out⟩
        case measure => simp [intOf]; omega
    · obtain rfl : i = D.length := by omega
      have i1 : ¬ (D.length : Int) < (D.length : Int) := by omega
      have HR := Lib.hid (HF.out hz)
      clear hz hb
      go_wp2
      go_ret
      exact ⟨⟨-1, rfl, by rw [HR.out]; rfl⟩, HB.out⟩
set_option maxHeartbeats 12800000 in
set_option maxRecDepth 100000 in
theorem contLarge_any (a : Option Addr) (c : Nat) (D : List Int) (hD : D.length ≤ 1000) (w : World) (h : IsAt w a D) :
    Calls Try.prog 95 #[.slice a D.length c, (.func (.func 96) #[] #[])] w (fun e w' => e = .returned (.bool (D.any big)) ∧ Below w.heap.size w w') := by
  have HI := Lib.hid (idxLarge_any a c D hD w h)
  generalize D.any big = R at *
  clear h
  go_enter Try.func95, Try.ntmps95
  go_wp2_with fail
  refine HI.out.mono ?_
  rintro e w1 ⟨⟨r, rfl, hr⟩, hb⟩
  have HR := Lib.hid hr
  have HB := Lib.hid hb
  clear hr hb
  by_cases h0 : 0 ≤ r
  · have d1 : decide (0 ≤ r) = true := decide_eq_true h0
    go_wp2
    go_ret
    exact ⟨by rw [HR.out, d1]; rfl, HB.out⟩
  · have d1 : decide (0 ≤ r) = false := decide_eq_false h0
    go_wp2
    go_ret
    exact ⟨by rw [HR.out, d1]; rfl, HB.out⟩
set_option maxHeartbeats 12800000 in
set_option maxRecDepth 100000 in
theorem pCheck_any (a : Option Addr) (c : Nat) (D : List Int) (hD : D.length ≤ 1000) (n : Int) (w : World) (h : IsAt w a D) :
    Calls Try.prog 80 #[.slice a D.length c, .int .i64 n] w (fun e w' => e = .returned (.int .i64 (chkD D n : Nat)) ∧ Below w.heap.size w w') := by
  have HC := Lib.hid (fun w => isCount_any n w)
  have HG := Lib.hid (contLarge_any a c D hD w h)
  have HE : Hid (chkD D n = if n < 1 ∨ 12 < n then 2 else if (D.length : Int) ≠ n then 8 else if D.any big = true then 2 else 0) := Lib.hid rfl
  generalize chkD D n = R at *
  generalize D.any big = G at *
  generalize D.length = l at *
  clear h
  go_enter Try.func80, Try.ntmps80
  go_wp2_with fail
  refine (HC.out w).mono ?_
  rintro e w1 ⟨rfl, rfl⟩
  by_cases hn : 1 ≤ n ∧ n ≤ 12
  · have d1 : decide (1 ≤ n) = true := decide_eq_true hn.1
    have d2 : decide (n ≤ 12) = true := decide_eq_true hn.2
    rw [d1, d2]
    by_cases hl : (l : Int) = n
    · have d3 : ((l : Int) != n) = false := by rw [bne_eq_false_iff_eq]; exact hl
      have HR : Hid (R = if G = true then 2 else 0) := Lib.hid (by rw [HE.out, if_neg (by omega), if_neg (by omega)])
      clear HE hl hn d1 d2
      go_wp2_with fail
      refine HG.out.mono ?_
      rintro e w1 ⟨rfl, hb⟩
      have HB := Lib.hid hb
      clear hb
      cases G
      all_goals (have HR2 := Lib.hid HR.out; clear HR; go_wp2; go_ret; exact ⟨by rw [HR2.out]; rfl, HB.out⟩)
    · have d3 : ((l : Int) != n) = true := by rw [bne_iff_ne]; exact hl
      have HR : Hid (R = 8) := Lib.hid (by rw [HE.out, if_neg (by omega), if_pos hl])
      clear HE hl hn d1 d2
      go_wp2
      go_ret
      exact ⟨by rw [HR.out]; rfl, Below.refl _ _⟩
  · have d1 : (decide (1 ≤ n) && decide (n ≤ 12)) = false := by rw [Bool.and_eq_false_iff, decide_eq_false_iff_not, decide_eq_false_iff_not]; omega
    have HR : Hid (R = 2) := Lib.hid (by rw [HE.out, if_pos (by omega)])
    rw [d1]
    clear HE hn d1
    go_wp2
    go_ret
    exact ⟨by rw [HR.out]; rfl, Below.refl _ _⟩
set_option maxHeartbeats 12800000 in
set_option maxRecDepth 100000 in
theorem rCheck_any (a : Option Addr) (c : Nat) (D : List Int) (hD : D.length ≤ 1000) (n : Int) (w : World) (h : IsAt w a D) :
    Calls Try.prog 55 #[.slice a D.length c, .int .i64 n] w (fun e w' => e = .returned (.int .i64 (chkD D n : Nat)) ∧ Below w.heap.size w w') := by
  have HIN := Lib.hid (fun k w => rIn_any k w)
  have HEE := Lib.hid h
  have HE : Hid (chkD D n = if n < 1 ∨ 12 < n then 2 else if (D.length : Int) ≠ n then 8 else if D.any big = true then 2 else 0) := Lib.hid rfl
  have HT : Hid (∀ i, i < D.length → big (iAt D i) = true → D.any big = true) := Lib.hid fun i hi hb => by rw [List.any_eq_true]; exact ⟨_, List.getElem_mem hi, by rw [iAt_get D i hi]; exact hb⟩
  have HF : Hid ((∀ j, j < D.length → big (iAt D j) = false) → D.any big = false) := Lib.hid fun hz => by
    rw [List.any_eq_false]
    intro z hz'
    obtain ⟨j, hj, rfl⟩ := List.getElem_of_mem hz'
    rw [iAt_get D j hj, hz j hj]; simp
  generalize chkD D n = R at *
  generalize D.any big = G at *
  clear h
  by_cases hn1 : n < 1
  · have d1 : decide (n < 1) = true := decide_eq_true hn1
    have HR : Hid (R = 2) := Lib.hid (by rw [HE.out, if_pos (by omega)])
    clear HE
    go_enter Try.func55, Try.ntmps55
    go_wp2
    go_ret
    exact ⟨by rw [HR.out]; rfl, Below.refl _ _⟩
  by_cases hn2 : 12 < n
  · have d1 : decide (n < 1) = false := decide_eq_false hn1
    have d2 : decide (12 < n) = true := decide_eq_true hn2
    have HR : Hid (R = 2) := Lib.hid (by rw [HE.out, if_pos (by omega)])
    clear HE
    go_enter Try.func55, Try.ntmps55
    go_wp2
    go_ret
    exact ⟨by rw [HR.out]; rfl, Below.refl _ _⟩
  have d1 : decide (n < 1) = false := decide_eq_false hn1
  have d2 : decide (12 < n) = false := decide_eq_false hn2
  by_cases hl : (D.length : Int) ≠ n
  · have d3 : ((D.length : Int) != n) = true := by rw [bne_iff_ne]; exact hl
    have HR : Hid (R = 8) := Lib.hid (by rw [HE.out, if_neg (by omega), if_pos hl])
    clear HE
    go_enter Try.func55, Try.ntmps55
    go_wp2
    go_ret
    exact ⟨by rw [HR.out]; rfl, Below.refl _ _⟩
  obtain rfl : n = (D.length : Int) := by omega
  have HR : Hid (R = if G = true then 2 else 0) := Lib.hid (by rw [HE.out, if_neg (by omega), if_neg (by omega)])
  have d3 : ((D.length : Int) != (D.length : Int)) = false := by simp
  clear HE hl hn1 hn2
  go_enter Try.func55, Try.ntmps55
  go_wp2
  go_loopw [5] (fun x wr => ∃ i : Nat, i ≤ D.length ∧ x = .int .i64 i ∧ (∀ j, j < i → big (iAt D j) = false) ∧ Below w.heap.size w wr) (fun x _ => D.length - (intOf x).toNat)
  case atStart => exact ⟨0, by omega, rfl, fun j hj => by omega, Below.refl _ _⟩
  case round =>
    obtain ⟨i, hi, rfl, hz, hb⟩ := hrel
    have HZ := Lib.hid hz
    have HB := Lib.hid hb
    by_cases hlt : i < D.length
    · have i1 : (i : Int) < (D.length : Int) := by omega
      have i2 : (0 : Int) ≤ (i : Int) := by omega
      obtain ⟨b1, o1, hb1, q1, x1⟩ := (HEE.out.keep hb).one i hlt
      subst hb1
      have HTI := Lib.hid (HT.out i hlt)
      have HZN : Hid (big (iAt D i) = false → ∀ j, j < i + 1 → big (iAt D j) = false) := Lib.hid fun h0 j hj => by
        by_cases e : j = i
        · subst e; exact h0
        · exact HZ.out j (by omega)
      generalize iAt D i = z at *
      clear hz hb
      go_wp2_with fail
      refine (HIN.out z wr).mono ?_
      rintro e w1 ⟨rfl, rfl⟩
      cases hbz : big z with
      | true =>
        have HR2 : Hid (R = 2) := Lib.hid (by rw [HR.out, if_pos (HTI.out hbz)])
        clear hbz
        go_wp2
        go_ret
        exact ⟨by rw [HR2.out]; rfl, HB.out⟩
      | false =>
        have HR2 := Lib.hid (HZN.out hbz)
        clear hbz
        go_wp2
        go_roundw
        case rel => exact ⟨i + 1, by omega, by go_num, HR2.out, HB.out⟩
        case measure => simp [intOf]; omega
    · obtain rfl : i = D.length := by omega
      have i1 : ¬ (D.length : Int) < (D.length : Int) := by omega
      have HR2 : Hid (R = 0) := Lib.hid (by rw [HR.out, HF.out hz]; simp)
      clear hz hb
      go_wp2
      go_ret
      exact ⟨by rw [HR2.out]; rfl, HB.out⟩
end Go.Proofs.Ytgejkgeojjgclaa
