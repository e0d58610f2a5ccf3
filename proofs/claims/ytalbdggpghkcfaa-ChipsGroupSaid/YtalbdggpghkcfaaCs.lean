/- Neg and Scale of the reference. -/
import Derived.Test.YtalbdggpghkcfaaCr
namespace Go.Proofs.Ytalbdggpghkcfaa
open Go.RowKit Go.Proofs.Gr Go.Proofs.Cp
attribute [local go_sem] Oper.semAt_some

theorem both_self (D : List Int) : bothD D D = ownD D := by
  unfold bothD
  by_cases h : ownD D ≠ 0
  · rw [if_pos h]
  · rw [if_neg h, if_neg h, if_neg (by simp)]; omega
theorem zip_congr {f g : Int → Int → Int} {A B A' B' : List Int} (h1 : A.length = B.length) (h2 : A'.length = B'.length) (hl : A.length = A'.length) (h : ∀ j, j < A.length → f (iAt A j) (iAt B j) = g (iAt A' j) (iAt B' j)) : zipD f A B = zipD g A' B' := by
  refine eq_of_at (by rw [zip_len f h1, zip_len g h2]; exact hl) fun j hj => ?_
  rw [zip_len f h1] at hj
  rw [zip_at f h1 j hj, zip_at g h2 j (by omega), h j hj]
theorem iAt_rep (n j : Nat) : iAt (List.replicate n 0) j = 0 := by
  unfold iAt
  rw [List.getD_eq_getElem?_getD, List.getElem?_replicate]
  split <;> rfl
theorem neg_zip {D : List Int} (_h : Div D) : zipD (fun x y => x - y) (List.replicate D.length 0) D = zipD (mulK (-1)) D D := by
  refine zip_congr (by simp) rfl (by simp) fun j _ => ?_
  rw [iAt_rep]
  unfold mulK
  rw [if_neg (by simp [big])]
  omega
theorem neg_small {D : List Int} (h : Div D) : (zipD (mulK (-1)) D D).any big = false := by
  refine zip_rng (fun x y hx hy => ?_) h h rfl
  unfold mulK
  rw [if_neg (by simp [big])]
  omega
set_option maxHeartbeats 12800000 in
set_option maxRecDepth 100000 in
theorem rNeg_any (a : Option Addr) (c : Nat) (D : List Int) (hD : D.length ≤ 1000) (w : World) (h : IsAt w a D) :
    Calls Try.prog 26 #[.slice a D.length c] w (GivesIE w (cmbL (mulK (-1)) D D) (cmbK (mulK (-1)) D D)) := by
  have HC := Lib.hid (rOwn_any a c D hD w h)
  have H1 := Lib.hid h
  have HS : Hid (ownD D = 0 → ∀ p q u, IsAt u p (List.replicate D.length 0) → IsAt u a D → Calls Try.prog 62 #[.slice p D.length q, .slice a D.length c, .int .i64 (-1)] u (GivesIB u (zipD (mulK (-1)) D D) true)) := Lib.hid fun hz p q u ha hb => by
    have hd := own_div hz
    have := rSum_any p a q c (List.replicate D.length 0) D (by simpa using hD) hD (by simp) (fun z hz => by rw [List.mem_replicate] at hz; omega) hd.rng (fun x y => x - y) (-1) (by omega) (fun x y => by omega) u ha hb
    rw [neg_zip hd, neg_small hd, List.length_replicate] at this
    exact this
  have HDV : Hid (ownD D = 0 → Div D) := Lib.hid fun h => own_div h
  have HE0 : Hid (ownD D ≠ 0 → cmbK (mulK (-1)) D D = ownD D ∧ cmbL (mulK (-1)) D D = []) := Lib.hid fun h => by
    have := cmb_err (f := mulK (-1)) (A := D) (B := D) (by rw [both_self]; exact h)
    rwa [both_self] at this
  have HE2 : Hid (ownD D = 0 → cmbK (mulK (-1)) D D = 0 ∧ cmbL (mulK (-1)) D D = zipD (mulK (-1)) D D) := Lib.hid fun h => cmb_ok (by rw [both_self]; exact h) (neg_small (own_div h))
  unfold GivesIE
  unfold GivesIB at HS
  generalize cmbL (mulK (-1)) D D = X at *
  generalize cmbK (mulK (-1)) D D = K at *
  generalize zipD (mulK (-1)) D D = ZZ at *
  generalize ownD D = k at *
  clear h
  go_enter Try.func26, Try.ntmps26
  go_wp2_with fail
  refine HC.out.mono ?_
  rintro e w1 ⟨rfl, hb1⟩
  have HB1 := Lib.hid hb1
  clear hb1
  by_cases hk : k ≠ 0
  · have q0 : (((k : Nat) : Int) != 0) = true := by rw [bne_iff_ne]; omega
    have HR2 := Lib.hid (HE0.out hk)
    clear hk
    go_wp2
    go_ret2
    exact ⟨none, 0, by rw [HR2.out.1, HR2.out.2]; rfl, by rw [HR2.out.2]; exact RowAt.nil _ _ _ _, HB1.out⟩
  have hk0 : k = 0 := by omega
  have HF := Lib.hid (HS.out hk0)
  have HN := Lib.hid (HE2.out hk0)
  subst hk0
  clear hk
  have hmk : (Instr.makeSlice 23 (.int .i64 (D.length : Int)) (.int .i64 (D.length : Int))).run Try.prog w1 = .ok (.slice (some ⟨w1.heap.size, 0, none⟩) D.length D.length) (w1.alloc (.cells (flat encI (List.replicate D.length 0)).toArray 3)) := make_divs D.length (by omega) _
  obtain ⟨W9, hW9⟩ : ∃ v, v = w1.alloc (.cells (flat encI (List.replicate D.length 0)).toArray 3) := ⟨_, rfl⟩
  obtain ⟨g, hgg⟩ : ∃ v, v = w1.heap.size := ⟨_, rfl⟩
  have HRB : Hid (RowB encI 3 W9 g (List.replicate D.length 0)) := Lib.hid (by rw [hW9, hgg]; exact RowB.new _ _ _ _)
  have HBL : Hid (Below w.heap.size w W9) := Lib.hid (by rw [hW9]; exact HB1.out.alloc HB1.out.size _)
  have HGE : Hid (w.heap.size ≤ g) := Lib.hid (by rw [hgg]; exact HB1.out.size)
  rw [← hW9, ← hgg] at hmk
  clear hW9 hgg
  go_wp2_with fail
  refine (HF.out (some ⟨g, 0, none⟩) D.length W9 (HRB.out.row encI_len) (H1.out.keep HBL.out)).mono ?_
  rintro e w2 ⟨p, q, rfl, hr, hb⟩
  have HB2 := Lib.hid (HBL.out.trans (hb.mono HBL.out.size))
  have HP := Lib.hid hr
  clear hb hr
  go_wp2
  go_ret2
  exact ⟨p, q, by rw [HN.out.1, HN.out.2]; rfl, by rw [HN.out.2]; exact HP.out, HB2.out⟩
theorem mulK_big (k x y : Int) : big (mulK k x y) = (decide (x ≠ 0) && (big k || big (k * x))) := by
  unfold mulK
  by_cases h : x = 0
  · subst h; rw [if_neg (by simp)]; simp [big]
  · cases hb : big k with
    | true => rw [if_pos ⟨rfl, h⟩, hb]; simp [h]
    | false => rw [if_neg (by simp), Int.mul_comm]; simp [h]
theorem mulK_ok (k x y : Int) (h : big (mulK k x y) = false) : mulK k x y = if x = 0 then 0 else k * x := by
  unfold mulK at *
  by_cases h0 : x = 0
  · subst h0; rw [if_neg (by simp), if_pos rfl]; simp
  · rw [if_neg h0]
    by_cases hb : big k = true ∧ x ≠ 0
    · rw [if_pos hb, hb.1] at h; cases h
    · rw [if_neg hb, Int.mul_comm]
set_option maxHeartbeats 12800000 in
set_option maxRecDepth 100000 in
theorem rScale_any (a : Option Addr) (c : Nat) (D : List Int) (hD : D.length ≤ 1000) (k : Int) (w : World) (h : IsAt w a D) :
    Calls Try.prog 28 #[.slice a D.length c, .int .i64 k] w (GivesIE w (cmbL (mulK k) D D) (cmbK (mulK k) D D)) := by
  have HC := Lib.hid (rOwn_any a c D hD w h)
  have HIN := Lib.hid (fun k w => rIn_any k w)
  have H1 := Lib.hid h
  have HRA : Hid (ownD D = 0 → ∀ i, i < D.length → -1048576 ≤ iAt D i ∧ iAt D i ≤ 1048576) := Lib.hid fun hz i hi => div_at (own_div hz) i hi
  have HZ0 : Hid (stepG D.length (fun j => mulK k (iAt D j) (iAt D j)) 0 = List.replicate D.length 0) := Lib.hid rfl
  have HZS : Hid (∀ i, big (mulK k (iAt D i) (iAt D i)) = false → stepG D.length (fun j => mulK k (iAt D j) (iAt D j)) (i + 1) = (stepG D.length (fun j => mulK k (iAt D j) (iAt D j)) i).set i (if iAt D i = 0 then 0 else k * iAt D i)) := Lib.hid fun i hi => by rw [stepG_one, mulK_ok _ _ _ hi]
  have HZL := Lib.hid (fun i => stepG_len D.length (fun j => mulK k (iAt D j) (iAt D j)) i)
  have HZW : Hid (∀ i, i < D.length → iAt (stepG D.length (fun j => mulK k (iAt D j) (iAt D j)) i) i = 0) := Lib.hid fun i hi => by
    have := stepG_at D.length (fun j => mulK k (iAt D j) (iAt D j)) i i (by omega) hi
    rw [if_neg (by omega)] at this
    show List.getD (stepG D.length (fun j => mulK k (iAt D j) (iAt D j)) i) i 0 = 0
    rw [List.getD_eq_getElem?_getD, this]; rfl
  have HZA : Hid (stepG D.length (fun j => mulK k (iAt D j) (iAt D j)) D.length = zipD (mulK k) D D) := Lib.hid (stepG_zip (mulK k) rfl)
  have HZN : Hid ((zipD (mulK k) D D).length = D.length) := Lib.hid (zip_len _ rfl)
  have HBG : Hid (ownD D = 0 → ∀ i, i < D.length → big (mulK k (iAt D i) (iAt D i)) = true → cmbK (mulK k) D D = 11 ∧ cmbL (mulK k) D D = []) := Lib.hid fun hz i hi h => by
    refine cmb_big (by rw [both_self]; exact hz) ?_
    rw [List.any_eq_true]
    have hz : i < (zipD (mulK k) D D).length := by rw [zip_len _ rfl]; exact hi
    refine ⟨(zipD (mulK k) D D)[i], List.getElem_mem hz, ?_⟩
    rw [iAt_get _ i hz, zip_at _ rfl i hi]; exact h
  have HNB : Hid (ownD D = 0 → (∀ i, i < D.length → big (mulK k (iAt D i) (iAt D i)) = false) → cmbK (mulK k) D D = 0 ∧ cmbL (mulK k) D D = zipD (mulK k) D D) := Lib.hid fun hz h => by
    refine cmb_ok (by rw [both_self]; exact hz) ?_
    rw [List.any_eq_false]
    intro z hz
    obtain ⟨j, hj, rfl⟩ := List.getElem_of_mem hz
    have hj' := hj
    rw [zip_len _ rfl] at hj'
    rw [iAt_get _ j hj, zip_at _ rfl j hj', h j hj']; simp
  have HE0 : Hid (ownD D ≠ 0 → cmbK (mulK k) D D = ownD D ∧ cmbL (mulK k) D D = []) := Lib.hid fun h => by
    have := cmb_err (f := mulK k) (A := D) (B := D) (by rw [both_self]; exact h)
    rwa [both_self] at this
  have HMB := Lib.hid (fun x => mulK_big k x x)
  unfold GivesIE
  generalize cmbL (mulK k) D D = X at *
  generalize cmbK (mulK k) D D = K at *
  generalize zipD (mulK k) D D = ZZ at *
  generalize stepG D.length (fun j => mulK k (iAt D j) (iAt D j)) = Z at *
  generalize ownD D = k0 at *
  clear h
  go_enter Try.func28, Try.ntmps28
  go_wp2_with fail
  refine HC.out.mono ?_
  rintro e w1 ⟨rfl, hb1⟩
  have HB1 := Lib.hid hb1
  clear hb1
  by_cases hk : k0 ≠ 0
  · have q0 : (((k0 : Nat) : Int) != 0) = true := by rw [bne_iff_ne]; omega
    have HR2 := Lib.hid (HE0.out hk)
    clear hk
    go_wp2
    go_ret2
    exact ⟨none, 0, by rw [HR2.out.1, HR2.out.2]; rfl, by rw [HR2.out.2]; exact RowAt.nil _ _ _ _, HB1.out⟩
  have hk0 : k0 = 0 := by omega
  have HBAD := Lib.hid (HBG.out hk0)
  have HGOOD := Lib.hid (HNB.out hk0)
  have HRNG := Lib.hid (HRA.out hk0)
  subst hk0
  clear hk HBG HNB HRA HE0
  have hmk : (Instr.makeSlice 23 (.int .i64 (D.length : Int)) (.int .i64 (D.length : Int))).run Try.prog w1 = .ok (.slice (some ⟨w1.heap.size, 0, none⟩) D.length D.length) (w1.alloc (.cells (flat encI (List.replicate D.length 0)).toArray 3)) := make_divs D.length (by omega) _
  obtain ⟨W9, hW9⟩ : ∃ v, v = w1.alloc (.cells (flat encI (List.replicate D.length 0)).toArray 3) := ⟨_, rfl⟩
  obtain ⟨g, hgg⟩ : ∃ v, v = w1.heap.size := ⟨_, rfl⟩
  have HRB : Hid (RowB encI 3 W9 g (List.replicate D.length 0)) := Lib.hid (by rw [hW9, hgg]; exact RowB.new _ _ _ _)
  have HBL : Hid (Below w.heap.size w W9) := Lib.hid (by rw [hW9]; exact HB1.out.alloc HB1.out.size _)
  have HGE : Hid (w.heap.size ≤ g) := Lib.hid (by rw [hgg]; exact HB1.out.size)
  rw [← hW9, ← hgg] at hmk
  clear hW9 hgg
  go_wp2
  go_loopw [8] (fun x wr => ∃ i : Nat, i ≤ D.length ∧ x = .int .i64 i ∧ (∀ j, j < i → big (mulK k (iAt D j) (iAt D j)) = false) ∧ RowB encI 3 wr g (Z i) ∧ Below w.heap.size w wr) (fun x _ => D.length - (intOf x).toNat)
  case atStart => exact ⟨0, by omega, rfl, fun j hj => by omega, by rw [HZ0.out]; exact HRB.out, HBL.out⟩
  case round =>
    obtain ⟨i, hi, rfl, hz, hpw, hb⟩ := hrel
    have HBR := Lib.hid hb
    have HPW := Lib.hid hpw
    have HZ := Lib.hid hz
    by_cases hlt : i < D.length
    · have i1 : (i : Int) < (D.length : Int) := by omega
      have i2 : (0 : Int) ≤ (i : Int) := by omega
      have HLT := Lib.hid hlt
      obtain ⟨b1, o1, hb1, q1, x1⟩ := (H1.out.keep hb).one i hlt
      subst hb1
      have HXR := Lib.hid (HRNG.out i hlt)
      have HBI := Lib.hid (HBAD.out i hlt)
      have HZI := Lib.hid (HZS.out i)
      have HQL := Lib.hid (HZL.out i)
      have HQ0 := Lib.hid (HZW.out i hlt)
      have HMI := Lib.hid (HMB.out (iAt D i))
      have HZJ : Hid (big (mulK k (iAt D i) (iAt D i)) = false → ∀ j, j < i + 1 → big (mulK k (iAt D j) (iAt D j)) = false) := Lib.hid fun h0 j hj => by
        by_cases e : j = i
        · subst e; exact h0
        · exact HZ.out j (by omega)
      clear hpw hb hlt hz
      generalize iAt D i = x at *
      generalize Z i = Q at *
      generalize big (mulK k x x) = bm at *
      by_cases hx : x = 0
      · subst hx
        have hbm : bm = false := by rw [HMI.out]; simp
        have hqq : Q.set i 0 = Q := by
          refine List.ext_getElem? fun j => ?_
          by_cases e : i = j
          · subst e
            rw [List.getElem?_set_self (by rw [HQL.out]; exact HLT.out), List.getElem?_eq_getElem (by rw [HQL.out]; exact HLT.out), iAt_get Q i (by rw [HQL.out]; exact HLT.out), HQ0.out]
          · rw [List.getElem?_set_ne e]
        have HPN : Hid (RowB encI 3 wr g (Z (i + 1))) := Lib.hid (by rw [HZI.out hbm, if_pos rfl, hqq]; exact HPW.out)
        have HR := Lib.hid (HZJ.out hbm)
        have d1 : ((0 : Int) != 0) = false := rfl
        clear hbm hqq
        go_wp2
        go_roundw
        case rel => exact ⟨i + 1, by omega, by go_num, HR.out, HPN.out, HBR.out⟩
        case measure => have := HLT.out; simp [intOf]; omega
      · have d1 : (x != 0) = true := by rw [bne_iff_ne]; exact hx
        have HM2 : Hid (bm = (big k || big (k * x))) := Lib.hid (by rw [HMI.out, decide_eq_true hx, Bool.true_and])
        have HXN := Lib.hid hx
        clear hx
        go_wp2_with fail
        refine (HIN.out k wr).mono ?_
        rintro e w2 ⟨rfl, rfl⟩
        cases hbk : big k with
        | true =>
          have HR := Lib.hid (HBI.out (by rw [HM2.out, hbk]; rfl))
          clear hbk
          rw [Bool.not_true]
          go_wp2
          go_ret2
          first | exact ⟨none, ⟨0, by rw [HR.out.1, HR.out.2]; rfl⟩, by rw [HR.out.2]; exact RowAt.nil _ _ _ _, HBR.out⟩ | exact ⟨none, 0, by rw [HR.out.1, HR.out.2]; rfl, by rw [HR.out.2]; exact RowAt.nil _ _ _ _, HBR.out⟩
        | false =>
          have HKB := Lib.hid (big_false.1 hbk)
          have m1 : -(1048576 * 1048576) ≤ k * x ∧ k * x ≤ 1048576 * 1048576 := by
            have hk1 := HKB.out
            have hx1 := HXR.out
            have h1 : (k * x).natAbs ≤ 1048576 * 1048576 := by rw [Int.natAbs_mul]; exact Nat.mul_le_mul (by omega) (by omega)
            omega
          rw [Bool.not_false]
          have HM3 : Hid (bm = big (k * x)) := Lib.hid (by rw [HM2.out, hbk, Bool.false_or])
          clear hbk
          go_wp2_with fail
          refine (HIN.out (k * x) wr).mono ?_
          rintro e w2 ⟨rfl, rfl⟩
          cases hbx : big (k * x) with
          | true =>
            have HR := Lib.hid (HBI.out (by rw [HM3.out, hbx]))
            clear hbx
            rw [Bool.not_true]
            go_wp2
            go_ret2
            first | exact ⟨none, ⟨0, by rw [HR.out.1, HR.out.2]; rfl⟩, by rw [HR.out.2]; exact RowAt.nil _ _ _ _, HBR.out⟩ | exact ⟨none, 0, by rw [HR.out.1, HR.out.2]; rfl, by rw [HR.out.2]; exact RowAt.nil _ _ _ _, HBR.out⟩
          | false =>
            have hbm : bm = false := by rw [HM3.out, hbx]
            have HR := Lib.hid (HZJ.out hbm)
            have HPN : Hid (RowB encI 3 (wr.setCell ⟨g, i, none⟩ (.int .i64 (k * x))) g (Z (i + 1))) := Lib.hid (by rw [HZI.out hbm, if_neg HXN.out]; exact HPW.out.set i _)
            have HBN : Hid (Below w.heap.size w (wr.setCell ⟨g, i, none⟩ (.int .i64 (k * x)))) := Lib.hid (HBR.out.setCell (p := ⟨g, i, none⟩) HGE.out _)
            have s1 := HPW.out.cell i (by rw [HQL.out]; exact HLT.out)
            have s2 : wr.frozen? ⟨g, i, none⟩ = false := Blk.frozen HPW.out i
            generalize iAt Q i = old at s1
            clear hbx hbm
            rw [Bool.not_false]
            go_wp2
            go_roundw
            case rel => exact ⟨i + 1, by omega, by go_num, HR.out, HPN.out, HBN.out⟩
            case measure => have := HLT.out; simp [intOf]; omega
    · obtain rfl : i = D.length := by omega
      have i1 : ¬ (D.length : Int) < (D.length : Int) := by omega
      rw [HZA.out] at hpw
      have HRW : Hid (IsAt wr (some ⟨g, 0, none⟩) ZZ) := Lib.hid (hpw.row encI_len)
      have HR := Lib.hid (HGOOD.out hz)
      clear hpw hb HPW hz
      go_wp2
      go_ret2
      first | exact ⟨some ⟨g, 0, none⟩, ⟨D.length, by rw [HR.out.1, HR.out.2, HZN.out]; rfl⟩, by rw [HR.out.2]; exact HRW.out, HBR.out⟩ | exact ⟨some ⟨g, 0, none⟩, D.length, by rw [HR.out.1, HR.out.2, HZN.out]; rfl, by rw [HR.out.2]; exact HRW.out, HBR.out⟩
end Go.Proofs.Ytalbdggpghkcfaa
