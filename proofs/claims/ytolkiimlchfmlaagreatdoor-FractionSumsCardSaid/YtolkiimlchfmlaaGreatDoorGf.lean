/- Walks of the laws of fractions: the law of what is computed, for all fractions. -/
import Derived.Test.YtolkiimlchfmlaaGreatDoorGe
namespace Go.Proofs.YtolkiimlchfmlaaGreatDoor
open Go.RowKit Go.Proofs.Num

/-- The lowest terms, by the reference. -/
theorem rlowestT {d : Nat} (x m : Int) (hx : Few d x) (hm : Few d m) (hm0 : m ≠ 0) (h1 : 1 ≤ d) (hd : d ≤ 40000) (w : World) :
    Calls Tryz.prog 59 #[.string (T x), .string (T m)] w (FrOut w (T (lowN x m)) (T (lowD x m))) := by
  have hg := gz_pos (n := x) hm0
  have hgf : Few d (gz x m) := few_gz hm hm0
  have HCm := fun w => rcommon_any x m hx hm h1 hd w
  have HMi := fun w => minus_any m w
  by_cases hn : m < 0
  · rw [decide_eq_true hn] at HMi
    have HTu := fun w => turned_any (gz x m) hgf h1 (by omega) w
    have HD1 := fun w => rdown_any x (-(gz x m)) hx hgf.neg (by omega) h1 (by omega) w
    have HD2 := fun w => rdown_any m (-(gz x m)) hm hgf.neg (by omega) h1 (by omega) w
    have e : ∀ y : Int, qz y (-(gz x m)) = qz (-y) (gz x m) := fun y => by
      unfold qz; rw [if_pos (by omega), if_neg (by omega), Int.neg_neg]
    rw [e] at HD1 HD2
    have h := rlowest_neg (T x) (T m) _ _ _ _ (Lib.hid HCm) (Lib.hid HMi) (Lib.hid HTu) (Lib.hid HD1) (Lib.hid HD2) w
    unfold lowN lowD
    rw [if_pos hn, if_pos hn]
    exact h
  · rw [decide_eq_false hn] at HMi
    have HD1 := fun w => rdown_any x (gz x m) hx hgf (by omega) h1 (by omega) w
    have HD2 := fun w => rdown_any m (gz x m) hm hgf (by omega) h1 (by omega) w
    have h := rlowest_pos (T x) (T m) _ _ _ (Lib.hid HCm) (Lib.hid HMi) (Lib.hid HD1) (Lib.hid HD2) w
    unfold lowN lowD
    rw [if_neg hn, if_neg hn]
    exact h

theorem rcheckT {d : Nat} (x : Int) (hx : Few d x) (h1 : 1 ≤ d) (hd : d ≤ 1024) (w : World) :
    Calls Tryz.prog 55 #[.string (T x)] w fun e w' => e = .returned (.int .i64 0) ∧ w = w' := by
  have h := rcheck_any (T x) w (hx.size h1 hd)
  rw [hx.chk h1 hd] at h
  exact h

/-- A right fraction with short texts. -/
theorem few_right (s r : ByteArray) (h1 : fewB s = true) (h2 : fewB r = true) (h : fchk s.data.toList r.data.toList = 0) : ∃ n d, s = T n ∧ r = T d ∧ Few 60 n ∧ Few 60 d ∧ Low n d := by
  obtain ⟨n, d, D, rfl, rfl, hD1, hD, hn, hd, hl⟩ := fchk_ok s r h
  obtain ⟨x, a, e1, rfl, hx⟩ := fewB_canon (T n) h1 (hn.chk hD1 (by omega))
  obtain ⟨y, b, e2, rfl, hy⟩ := fewB_canon (T d) h2 (hd.chk hD1 (by omega))
  rw [← T_inj e1] at hx
  rw [← T_inj e2] at hy
  exact ⟨n, d, rfl, rfl, hx, hy, hl⟩

set_option maxHeartbeats 6400000 in
theorem computes_ok (n d m e : Int) (hn : Few 60 n) (hd : Few 60 d) (hm : Few 60 m) (he : Few 60 e) (hl : Low n d) (hl' : Low m e)
    (HE1 : ∀ w, Calls Tryz.prog 10 #[FrV (T n) (T d)] w fun e w' => e = .returned (.bool true) ∧ Below w.heap.size w w')
    (HE2 : ∀ w, Calls Tryz.prog 10 #[FrV (T m) (T e)] w fun e w' => e = .returned (.bool true) ∧ Below w.heap.size w w')
    (HK1 : ∀ w, Calls Tryz.prog 19 #[FrV (T n) (T d)] w fun e w' => e = .returned (.int .i64 0) ∧ Below w.heap.size w w')
    (HK2 : ∀ w, Calls Tryz.prog 19 #[FrV (T m) (T e)] w fun e w' => e = .returned (.int .i64 0) ∧ Below w.heap.size w w')
    (w : World) (hT : Tab w) (hC : CutT w) :
    Calls Tryz.prog 5 #[FrV (T n) (T d), FrV (T m) (T e)] w fun e w' => e = .returned (.bool true) ∧ Below w.heap.size w w' := by
  have d0 : d ≠ 0 := by have := hl.1; omega
  have e0 : e ≠ 0 := by have := hl'.1; omega
  have de0 : d * e ≠ 0 := Int.mul_ne_zero d0 e0
  have Nne : Few 121 (n * e) := (hn.mul he).le (by omega)
  have Nmd : Few 121 (m * d) := (hm.mul hd).le (by omega)
  have Nde : Few 121 (d * e) := (hd.mul he).le (by omega)
  have Nnm : Few 121 (n * m) := (hn.mul hm).le (by omega)
  have Ndm : Few 121 (d * m) := (hd.mul hm).le (by omega)
  have Nad : Few 121 (n * e + m * d) := (hn.mul he).add (hm.mul hd)
  have Nsb : Few 121 (n * e - m * d) := (hn.mul he).sub (hm.mul hd)
  have HPa := fun w => rpair_2 (T n) (T d) (T m) (T e) 0 (Lib.hid HK1) (Lib.hid HK2) w
  have HCr := fun w => rfcrossed (T n) (T d) (T m) (T e) (T (n * e)) (T (m * d)) (T (d * e)) (Lib.hid fun w => rtimes_any n e hn he (by omega) (by omega) (by omega) (by omega) w)
    (Lib.hid fun w => rtimes_any m d hm hd (by omega) (by omega) (by omega) (by omega) w) (Lib.hid fun w => rtimes_any d e hd he (by omega) (by omega) (by omega) (by omega) w) w
  -- sums
  have HA1 := fun w hT => fAddS n d m e hn hd hm he (by omega) (by omega) hl hl' w hT
  have HFA := fun w => rfPlus (T n) (T d) (T m) (T e) (T (n * e)) (T (m * d)) (T (n * e + m * d)) (T (d * e)) _ _ (Lib.hid fun w => rtimes_any n e hn he (by omega) (by omega) (by omega) (by omega) w)
    (Lib.hid fun w => rtimes_any m d hm hd (by omega) (by omega) (by omega) (by omega) w) (Lib.hid fun w => rtimes_any d e hd he (by omega) (by omega) (by omega) (by omega) w)
    (Lib.hid fun w => rplus_any (n * e) (m * d) Nne Nmd (by omega) (by omega) w) (Lib.hid fun w => rlowestT (n * e + m * d) (d * e) Nad Nde de0 (by omega) (by omega) w) w
  have HA2 := fun (w : World) (_ : Tab w) => rfAdd_ok (T n) (T d) (T m) (T e) _ _ _ (T (n * e + m * d)) _ _ (Lib.hid HPa) (Lib.hid HCr) (Lib.hid (rcheckT _ Nne (by omega) (by omega))) (Lib.hid (rcheckT _ Nmd (by omega) (by omega))) (Lib.hid (rcheckT _ Nde (by omega) (by omega)))
    (Lib.hid fun w => rplus_any (n * e) (m * d) Nne Nmd (by omega) (by omega) w) (Lib.hid (rcheckT _ Nad (by omega) (by omega))) (Lib.hid HFA) w
  -- differences
  have HS1 := fun w hT => fSubS n d m e hn hd hm he (by omega) (by omega) hl hl' w hT
  have HFT := fun w => rfTurned (T m) (T e) (T (-m)) (Lib.hid fun w => turned_any m hm (by omega) (by omega) w) w
  have hneg : n * e + -m * d = n * e - m * d := by rw [Int.neg_mul]; omega
  have HFP := fun w => rfPlus (T n) (T d) (T (-m)) (T e) (T (n * e)) (T (-m * d)) (T (n * e + -m * d)) (T (d * e)) _ _ (Lib.hid fun w => rtimes_any n e hn he (by omega) (by omega) (by omega) (by omega) w)
    (Lib.hid fun w => rtimes_any (-m) d hm.neg hd (by omega) (by omega) (by omega) (by omega) w) (Lib.hid fun w => rtimes_any d e hd he (by omega) (by omega) (by omega) (by omega) w)
    (Lib.hid fun w => rplus_any (n * e) (-m * d) Nne ((hm.neg.mul hd).le (by omega)) (by omega) (by omega) w) (Lib.hid fun w => rlowestT (n * e + -m * d) (d * e) (hneg ▸ Nsb) Nde de0 (by omega) (by omega) w) w
  rw [hneg] at HFP
  have HFL := fun w => rfLess (T n) (T d) (T m) (T e) _ _ _ (Lib.hid HFT) (Lib.hid HFP) w
  have HS2 := fun (w : World) (_ : Tab w) => rfSub_ok (T n) (T d) (T m) (T e) _ _ _ (T (n * e - m * d)) _ _ (Lib.hid HPa) (Lib.hid HCr) (Lib.hid (rcheckT _ Nne (by omega) (by omega))) (Lib.hid (rcheckT _ Nmd (by omega) (by omega))) (Lib.hid (rcheckT _ Nde (by omega) (by omega)))
    (Lib.hid fun w => rless_any (n * e) (m * d) Nne Nmd (by omega) (by omega) w) (Lib.hid (rcheckT _ Nsb (by omega) (by omega))) (Lib.hid HFL) w
  -- products
  have HM1 := fun w hT => fMulS n d m e hn hd hm he (by omega) (by omega) hl hl' w hT
  have HTn := fun w => rtimes_any n m hn hm (by omega) (by omega) (by omega) (by omega) w
  have HTd := fun w => rtimes_any d e hd he (by omega) (by omega) (by omega) (by omega) w
  have HM2 := fun (w : World) (_ : Tab w) => rfMul_ok (T n) (T d) (T m) (T e) _ _ _ _ (Lib.hid HPa) (Lib.hid HTn) (Lib.hid HTd) (Lib.hid (rcheckT _ Nnm (by omega) (by omega))) (Lib.hid (rcheckT _ Nde (by omega) (by omega)))
    (Lib.hid fun w => rfTimes (T n) (T d) (T m) (T e) _ _ _ _ (Lib.hid HTn) (Lib.hid HTd) (Lib.hid fun w => rlowestT (n * m) (d * e) Nnm Nde de0 (by omega) (by omega) w) w) w
  -- orders
  have HC1 := fun w hT => fCompareS n d m e hn hd hm he (by omega) (by omega) hl hl' w hT
  have HTc := fun w => rtimes_any n e hn he (by omega) (by omega) (by omega) (by omega) w
  have HTb := fun w => rtimes_any m d hm hd (by omega) (by omega) (by omega) (by omega) w
  have HC2 := fun (w : World) (_ : Tab w) => rfCompare_ok (T n) (T d) (T m) (T e) _ _ _ (cmpZ (n * e) (m * d)) (Lib.hid HPa) (Lib.hid HCr) (Lib.hid (rcheckT _ Nne (by omega) (by omega))) (Lib.hid (rcheckT _ Nmd (by omega) (by omega)))
    (Lib.hid fun w => rfOrder (T n) (T d) (T m) (T e) _ _ _ (Lib.hid HTc) (Lib.hid HTb) (Lib.hid fun w => rorderT (n * e) (m * d) Nne Nmd (by omega) (by omega) w) w) w
  -- quotients
  by_cases hm0 : m = 0
  · have hz : ((T m).toList == [48]) = true := by rw [T_zero_eq, decide_eq_true hm0]
    have HD1 := fun w hT => fDivT_zero n d m e hn hd hm he (by omega) (by omega) hl hl' hm0 w hT
    have HD2 := fun (w : World) (_ : Tab w) => rfDiv_zero (T n) (T d) (T m) (T e) hz (Lib.hid HPa) w
    exact computes_yes _ _ _ _ _ _ _ _ _ _ _ _ _ 0 0 0 10 0 (Lib.hid HE1) (Lib.hid HE2) (Lib.hid HA1) (Lib.hid HA2) (Lib.hid HS1) (Lib.hid HS2) (Lib.hid HM1) (Lib.hid HM2) (Lib.hid HD1) (Lib.hid HD2) (Lib.hid HC1) (Lib.hid HC2) w hT hC
  · have hz : ((T m).toList == [48]) = false := by rw [T_zero_eq, decide_eq_false hm0]
    have dm0 : d * m ≠ 0 := Int.mul_ne_zero d0 hm0
    have HD1 := fun w hT => fDivS n d m e hn hd hm he (by omega) (by omega) hl hl' hm0 w hT
    have HTx := fun w => rtimes_any d m hd hm (by omega) (by omega) (by omega) (by omega) w
    have HD2 := fun (w : World) (_ : Tab w) => rfDiv_ok (T n) (T d) (T m) (T e) _ _ _ _ hz (Lib.hid HPa) (Lib.hid HTc) (Lib.hid HTx) (Lib.hid (rcheckT _ Nne (by omega) (by omega))) (Lib.hid (rcheckT _ Ndm (by omega) (by omega)))
      (Lib.hid fun w => rfBy (T n) (T d) (T m) (T e) _ _ _ _ (Lib.hid HTc) (Lib.hid HTx) (Lib.hid fun w => rlowestT (n * e) (d * m) Nne Ndm dm0 (by omega) (by omega) w) w) w
    exact computes_yes _ _ _ _ _ _ _ _ _ _ _ _ _ 0 0 0 0 0 (Lib.hid HE1) (Lib.hid HE2) (Lib.hid HA1) (Lib.hid HA2) (Lib.hid HS1) (Lib.hid HS2) (Lib.hid HM1) (Lib.hid HM2) (Lib.hid HD1) (Lib.hid HD2) (Lib.hid HC1) (Lib.hid HC2) w hT hC

set_option maxHeartbeats 3200000 in
theorem computes_any (s r s' r' : ByteArray) (hs : s.size ≤ 9223372036854775807) (hr : r.size ≤ 9223372036854775807) (hs' : s'.size ≤ 9223372036854775807) (hr' : r'.size ≤ 9223372036854775807)
    (w : World) (hT : Tab w) (hC : CutT w) :
    Calls Tryz.prog 5 #[FrV s r, FrV s' r'] w fun e w' => e = .returned (.bool true) ∧ Below w.heap.size w w' := by
  have HE1 := fun w => rfew2_any s r hs hr w
  have HE2 := fun w => rfew2_any s' r' hs' hr' w
  cases h1 : (fewB s && fewB r) with
  | false => rw [h1] at HE1; exact computes_no1 s r s' r' (Lib.hid HE1) w hT hC
  | true =>
    rw [h1] at HE1
    cases h2 : (fewB s' && fewB r') with
    | false => rw [h2] at HE2; exact computes_no2 s r s' r' (Lib.hid HE1) (Lib.hid HE2) w hT hC
    | true =>
      rw [h2] at HE2
      have P1 := fun w hT => fcheck_any s r hs hr w hT
      have P2 := fun w hT => fcheck_any s' r' hs' hr' w hT
      have R1 := fun w => rfcheck_any s r hs hr w
      have R2 := fun w => rfcheck_any s' r' hs' hr' w
      have h11 : fewB s = true := by revert h1; cases fewB s <;> simp
      have h12 : fewB r = true := by revert h1; cases fewB r <;> simp
      have h21 : fewB s' = true := by revert h2; cases fewB s' <;> simp
      have h22 : fewB r' = true := by revert h2; cases fewB r' <;> simp
      clear h1 h2
      by_cases k1 : fchk s.data.toList r.data.toList = 0
      · rw [k1] at P1 R1
        by_cases k2 : fchk s'.data.toList r'.data.toList = 0
        · rw [k2] at P2 R2
          obtain ⟨n, d, rfl, rfl, hn, hd, hl⟩ := few_right s r h11 h12 k1
          obtain ⟨m, e, rfl, rfl, hm, he, hl'⟩ := few_right s' r' h21 h22 k2
          exact computes_ok n d m e hn hd hm he hl hl' HE1 HE2 R1 R2 w hT hC
        · generalize fchk s'.data.toList r'.data.toList = k at *
          have E := fun g (w : World) (hT : Tab w) => fchecked_e2 s r s' r' g k k2 (Lib.hid P1) (Lib.hid P2) w hT
          have EI := fun g (w : World) (hT : Tab w) => fcheckedI_e2 s r s' r' g k k2 (Lib.hid P1) (Lib.hid P2) w hT
          have HPa := fun w => rpair_2 s r s' r' k (Lib.hid R1) (Lib.hid R2) w
          exact computes_yes _ _ _ _ _ _ _ _ _ _ _ _ _ k k k k k (Lib.hid HE1) (Lib.hid HE2)
            (Lib.hid fun w hT => fAdd s r s' r' _ _ k (E _) w hT) (Lib.hid fun w _ => rfAdd_chk s r s' r' k k2 (Lib.hid HPa) w)
            (Lib.hid fun w hT => fSub s r s' r' _ _ k (E _) w hT) (Lib.hid fun w _ => rfSub_chk s r s' r' k k2 (Lib.hid HPa) w)
            (Lib.hid fun w hT => fMul s r s' r' _ _ k (E _) w hT) (Lib.hid fun w _ => rfMul_chk s r s' r' k k2 (Lib.hid HPa) w)
            (Lib.hid fun w hT => fDiv s r s' r' _ _ k (E _) w hT) (Lib.hid fun w _ => rfDiv_chk s r s' r' k k2 (Lib.hid HPa) w)
            (Lib.hid fun w hT => fCompare s r s' r' _ k (EI _) w hT) (Lib.hid fun w _ => rfCompare_chk s r s' r' k k2 (Lib.hid HPa) w) w hT hC
      · generalize fchk s.data.toList r.data.toList = k at *
        have E := fun g (w : World) (hT : Tab w) => fchecked_e1 s r s' r' g k k1 (Lib.hid P1) w hT
        have EI := fun g (w : World) (hT : Tab w) => fcheckedI_e1 s r s' r' g k k1 (Lib.hid P1) w hT
        have HPa := fun w => rpair_e1 s r s' r' k k1 (Lib.hid R1) w
        exact computes_yes _ _ _ _ _ _ _ _ _ _ _ _ _ k k k k k (Lib.hid HE1) (Lib.hid HE2)
          (Lib.hid fun w hT => fAdd s r s' r' _ _ k (E _) w hT) (Lib.hid fun w _ => rfAdd_chk s r s' r' k k1 (Lib.hid HPa) w)
          (Lib.hid fun w hT => fSub s r s' r' _ _ k (E _) w hT) (Lib.hid fun w _ => rfSub_chk s r s' r' k k1 (Lib.hid HPa) w)
          (Lib.hid fun w hT => fMul s r s' r' _ _ k (E _) w hT) (Lib.hid fun w _ => rfMul_chk s r s' r' k k1 (Lib.hid HPa) w)
          (Lib.hid fun w hT => fDiv s r s' r' _ _ k (E _) w hT) (Lib.hid fun w _ => rfDiv_chk s r s' r' k k1 (Lib.hid HPa) w)
          (Lib.hid fun w hT => fCompare s r s' r' _ k (EI _) w hT) (Lib.hid fun w _ => rfCompare_chk s r s' r' k k1 (Lib.hid HPa) w) w hT hC
end Go.Proofs.YtolkiimlchfmlaaGreatDoor
