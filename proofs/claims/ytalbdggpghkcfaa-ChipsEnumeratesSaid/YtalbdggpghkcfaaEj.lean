/- The law Enumerates. -/
import Derived.Test.YtalbdggpghkcfaaEe
namespace Go.Proofs.Ytalbdggpghkcfaa
open Go.RowKit Go.Proofs.Gr Go.Proofs.Cp
attribute [local go_sem] Oper.semAt_some

theorem ord_next {D E : List Int} (h : nxt D = some E) : ordD D E = -1 := by
  induction D generalizing E with
  | nil => simp [nxt] at h
  | cons z D ih =>
    rw [nxt] at h
    cases hd : nxt D with
    | some D' =>
      rw [hd, nxtS] at h
      injection h with h
      subst h
      rw [ordD, if_neg (by omega), if_neg (by omega)]
      exact ih hd
    | none =>
      rw [hd] at h
      cases D with
      | nil => simp [nxtS] at h
      | cons y D2 =>
        rw [nxtS] at h
        by_cases hy : y = 0
        · rw [if_pos hy] at h; cases h
        · rw [if_neg hy] at h
          injection h with h
          subst h
          rw [ordD, if_pos (by omega)]
theorem allE_div {m k : Nat} (hm : m < 12) (hk : k ≤ 1048576) {D : List Int} (h : D ∈ allE m k) : Div D ∧ payD D = true ∧ sumD D = k := by
  have he := allE_eff hm hk h
  obtain ⟨h1, h2, h3⟩ := allE_mem h
  refine ⟨⟨he.one, he.le, fun z hz => ?_⟩, (pay_iff D).2 fun j hj => (he.rng j hj).1, h3⟩
  obtain ⟨j, hj, rfl⟩ := List.getElem_of_mem hz
  rw [iAt_get D j hj]
  have := he.rng j hj
  omega
theorem cnt_le (N K : Nat) (hN : N ≤ 4) (hK : K ≤ 6) : cnt N K ≤ 210 ∧ ∀ i, i ≤ N → cnt i K ≤ 210 := by
  have key : ∀ N : Fin 5, ∀ K : Fin 7, cnt N K ≤ 210 := by decide
  exact ⟨key ⟨N, by omega⟩ ⟨K, by omega⟩, fun i hi => key ⟨i, by omega⟩ ⟨K, by omega⟩⟩
set_option maxHeartbeats 12800000 in
set_option maxRecDepth 100000 in
theorem enumerates_any (n k : Int) (hn0 : 0 ≤ n) (hn1 : n ≤ 255) (hk0 : 0 ≤ k) (hk1 : k ≤ 255) (w : World) :
    Calls Try.prog 11 #[.int .u8 n, .int .u8 k] w (fun e w' => e = .returned (.bool true) ∧ Below w.heap.size w w') := by
  have HAW := Lib.hid (fun w => awake_any w)
  have HB : Hid (Below w.heap.size w w) := Lib.hid (Below.refl _ _)
  obtain ⟨N, hN⟩ : ∃ N : Nat, n % 5 = N := ⟨(n % 5).toNat, by omega⟩
  obtain ⟨K, hK⟩ : ∃ K : Nat, k % 7 = K := ⟨(k % 7).toNat, by omega⟩
  have hN4 : N ≤ 4 := by omega
  have hK6 : K ≤ 6 := by omega
  have m1 : n.tmod 5 = (N : Int) := by rw [Int.tmod_eq_emod_of_nonneg hn0]; exact hN
  have m2 : k.tmod 7 = (K : Int) := by rw [Int.tmod_eq_emod_of_nonneg hk0]; exact hK
  have hlen : (allE N K).length = cnt N K := allE_len N K
  have hc := cnt_le N K hN4 hK6
  have HLEN := Lib.hid hlen
  have hone := cnt_pos N K
  have HALL : Hid (∀ u, Calls Try.prog 46 #[.int .i64 (1 + (N : Int)), .int .i64 (K : Int)] u (fun e x => ∃ p q, e = .returned (.tuple #[.slice p (allE N K).length q, .int .i64 0]) ∧ LsAt x p (allE N K) ∧ Below u.heap.size u x)) := Lib.hid fun u => by
    have := pAll_any (1 + (N : Int)) (K : Int) u
    have hk : allK (1 + (N : Int)) (K : Int) = 0 := by
      unfold allK manyB
      rw [if_neg (by omega), show ((1 + (N : Int)) - 1).toNat = N by omega, Int.toNat_natCast, if_neg (by rw [decide_eq_true_iff]; omega)]
    have hl : allL (1 + (N : Int)) (K : Int) = allE N K := by
      unfold allL
      rw [hk, if_pos rfl, show ((1 + (N : Int)) - 1).toNat = N by omega, Int.toNat_natCast]
    rw [hk, hl] at this
    exact this
  have hdv : ∀ i, i < (allE N K).length → Div ((allE N K).getD i []) ∧ payD ((allE N K).getD i []) = true ∧ sumD ((allE N K).getD i []) = K ∧ ((allE N K).getD i []).length = N + 1 := fun i hi => by
    have hm : (allE N K).getD i [] ∈ allE N K := List.mem_of_getElem? (lAt_get _ i hi)
    obtain ⟨h1, h2, h3⟩ := allE_div (by omega) (by omega) hm
    exact ⟨h1, h2, h3, (allE_mem hm).1⟩
  have HLN : Hid (∀ i, i < (allE N K).length → ((allE N K).getD i []).length = N + 1) := Lib.hid fun i hi => (hdv i hi).2.2.2
  have HDG : Hid (∀ i, i < (allE N K).length → ∀ u a c, IsAt u a ((allE N K).getD i []) → Calls Try.prog 29 #[.slice a (N + 1) c] u (fun e x => e = .returned (.tuple #[.int .i64 (K : Int), .int .i64 0]) ∧ Below u.heap.size u x)) := Lib.hid fun i hi u a c h => by
    obtain ⟨h1, h2, h3, h4⟩ := hdv i hi
    have := pDegree_any a c _ (by omega) u h
    rw [show degV ((allE N K).getD i []) = K by unfold degV; rw [if_pos h1.own, h3], h1.own, h4] at this
    exact this
  have HEF : Hid (∀ i, i < (allE N K).length → ∀ u a c, IsAt u a ((allE N K).getD i []) → Calls Try.prog 31 #[.slice a (N + 1) c] u (fun e x => e = .returned (.tuple #[.bool true, .int .i64 0]) ∧ Below u.heap.size u x)) := Lib.hid fun i hi u a c h => by
    obtain ⟨h1, h2, h3, h4⟩ := hdv i hi
    have := pEffective_any a c _ (by omega) u h
    rw [show effV ((allE N K).getD i []) = true by unfold effV; rw [if_pos h1.own, h2], h1.own, h4] at this
    exact this
  have hnk : ∀ i, i < (allE N K).length → nexK ((allE N K).getD i []) = 0 := fun i hi => by
    obtain ⟨h1, h2, h3, h4⟩ := hdv i hi
    unfold nexK
    rw [if_neg (by rw [h1.own]; simp), if_neg (by rw [h2]; simp), if_neg (by rw [h3]; omega)]
  have HNS : Hid (∀ i, i + 1 < (allE N K).length → ∀ u a c, IsAt u a ((allE N K).getD i []) → Calls Try.prog 48 #[.slice a (N + 1) c] u (fun e x => ∃ p q, e = .returned (.tuple #[.slice p (N + 1) q, .bool true, .int .i64 0]) ∧ IsAt x p ((allE N K).getD (i + 1) []) ∧ Below u.heap.size u x)) := Lib.hid fun i hi u a c h => by
    obtain ⟨h1, h2, h3, h4⟩ := hdv i (by omega)
    have := (pNext_any a c _ (by omega) u h).mono fun e x h => nx_exp h
    rw [show nexR ((allE N K).getD i []) = some ((allE N K).getD (i + 1) []) by unfold nexR; rw [hnk i (by omega), if_pos rfl]; exact allE_at i (by omega), hnk i (by omega), h4, Option.getD_some, (hdv (i + 1) hi).2.2.2] at this
    exact this
  have HNE : Hid (∀ i, i + 1 = (allE N K).length → ∀ u a c, IsAt u a ((allE N K).getD i []) → Calls Try.prog 48 #[.slice a (N + 1) c] u (fun e x => ∃ p q, e = .returned (.tuple #[.slice p 0 q, .bool false, .int .i64 0]) ∧ Below u.heap.size u x)) := Lib.hid fun i hi u a c h => by
    obtain ⟨h1, h2, h3, h4⟩ := hdv i (by omega)
    have := (pNext_any a c _ (by omega) u h).mono fun e x h => nx_exp h
    rw [show nexR ((allE N K).getD i []) = none by unfold nexR; rw [hnk i (by omega), if_pos rfl]; exact allE_end i (by omega), hnk i (by omega), h4] at this
    exact this.mono fun e x ⟨p, q, h1, _, h2⟩ => ⟨p, q, h1, h2⟩
  have HSM : Hid (∀ i, i < (allE N K).length → ∀ u a b c d, IsAt u a ((allE N K).getD i []) → IsAt u b ((allE N K).getD i []) → Calls Try.prog 20 #[.slice a (N + 1) c, .slice b (N + 1) d] u (fun e x => e = .returned (.bool true) ∧ Below u.heap.size u x)) := Lib.hid fun i hi u a b c d h1 h2 => by
    have h4 := (hdv i hi).2.2.2
    have := same_true u a b c d _ (by omega) h1 h2
    rw [h4] at this
    exact this
  have HOR : Hid (∀ i, i + 1 < (allE N K).length → ∀ u a b c d, IsAt u a ((allE N K).getD i []) → IsAt u b ((allE N K).getD (i + 1) []) → Calls Try.prog 54 #[.slice a (N + 1) c, .slice b (N + 1) d] u (fun e x => e = .returned (.int .i64 (-1)) ∧ Below u.heap.size u x)) := Lib.hid fun i hi u a b c d h1 h2 => by
    have h4 := (hdv i (by omega)).2.2.2
    have h5 := (hdv (i + 1) hi).2.2.2
    have := rOrder_any a b c d ((allE N K).getD i []) ((allE N K).getD (i + 1) []) (by omega) (by omega) (by omega) u h1 h2
    have h6 : ordD ((allE N K).getD i []) ((allE N K).getD (i + 1) []) = -1 := ord_next (allE_at i (by omega))
    rw [h6, h4, h5] at this
    exact this
  have HC0 : Hid (cnt 0 K = 1) := Lib.hid rfl
  have HCS : Hid (∀ i : Nat, ((cnt i K : Int) * ((K : Int) + ((i : Int) + 1))).tdiv ((i : Int) + 1) = (cnt (i + 1) K : Int)) := Lib.hid fun i => by
    have h := (cnt_both i).2 K
    have e : (cnt i K : Int) * ((K : Int) + ((i : Int) + 1)) = (cnt (i + 1) K : Int) * ((i : Int) + 1) := by
      have := congrArg (fun z : Nat => (z : Int)) h
      simp only [Int.natCast_mul, Int.natCast_add] at this
      rw [show (K : Int) + ((i : Int) + 1) = (K : Int) + (i : Int) + 1 by omega]
      exact this.symm
    rw [e]
    exact Int.mul_tdiv_cancel _ (by omega)
  have HMP : Hid (∀ i : Nat, i ≤ N → 0 ≤ (cnt i K : Int) * ((K : Int) + ((i : Int) + 1)) ∧ (cnt i K : Int) * ((K : Int) + ((i : Int) + 1)) ≤ 20000) := Lib.hid fun i hi => by
    have h2 : cnt i K * (K + i + 1) ≤ 210 * 12 := Nat.mul_le_mul (hc.2 i hi) (by omega)
    have h4 : ((cnt i K * (K + i + 1) : Nat) : Int) = (cnt i K : Int) * ((K : Int) + ((i : Int) + 1)) := by
      simp only [Int.natCast_mul, Int.natCast_add]
      rw [show (K : Int) + ((i : Int) + 1) = (K : Int) + (i : Int) + ((1 : Nat) : Int) by omega]
    omega
  have HCB := Lib.hid hc.2
  have HM2 : Hid ((allE N K).length ≤ 210) := Lib.hid (by omega)
  obtain ⟨Cn, hCn⟩ : ∃ C : Nat → Nat, C = fun i => cnt i K := ⟨_, rfl⟩
  have HC0' : Hid (Cn 0 = 1) := Lib.hid (by rw [hCn]; exact HC0.out)
  have HCS' : Hid (∀ i : Nat, ((Cn i : Int) * ((K : Int) + ((i : Int) + 1))).tdiv ((i : Int) + 1) = (Cn (i + 1) : Int)) := Lib.hid (by rw [hCn]; exact HCS.out)
  have HMP' : Hid (∀ i : Nat, i ≤ N → 0 ≤ (Cn i : Int) * ((K : Int) + ((i : Int) + 1)) ∧ (Cn i : Int) * ((K : Int) + ((i : Int) + 1)) ≤ 20000) := Lib.hid (by rw [hCn]; exact HMP.out)
  have HCB' : Hid (∀ i, i ≤ N → Cn i ≤ 210) := Lib.hid (by rw [hCn]; exact HCB.out)
  have HLC : Hid ((allE N K).length = Cn N) := Lib.hid (by rw [hCn]; exact hlen)
  clear HC0 HCS HMP HCB hCn hlen hc hone hdv hnk HLEN hN hK
  generalize allE N K = M at *
  go_enter Try.func11, Try.ntmps11
  go_wp2_with fail
  refine (HALL.out w).mono ?_
  rintro e w0 ⟨p, q, rfl, hpM, hb⟩
  replace HB := Lib.hid (HB.out.trans (hb.mono HB.out.size))
  clear hb
  have PM := Lib.hid hpM
  clear hpM
  go_wp2
  go_loop [9, 10] (fun s x => ∃ i : Nat, i ≤ N ∧ x = .int .i64 ((i : Int) + 1) ∧ s = .int .i64 (Cn i)) (fun _ x => N + 1 - (intOf x).toNat)
  case atStart => exact ⟨0, by omega, congrArg (Value.int .i64) (by omega), by rw [HC0'.out]; rfl⟩
  case round =>
    obtain ⟨i, hi, rfl, rfl⟩ := hrel
    by_cases hlt : i < N
    · have i1 : (i : Int) + 1 < 1 + (N : Int) := by omega
      have m3 := HMP'.out i (by omega)
      have m4 := HCS'.out i
      have m5 : (0 : Int) ≤ (Cn (i + 1) : Int) ∧ (Cn (i + 1) : Int) ≤ 210 := by have := HCB'.out (i + 1) (by omega); omega
      go_wp2
      go_round
      case rel => exact ⟨i + 1, by omega, congrArg (Value.int .i64) (by omega), by go_num⟩
      case measure => simp [intOf]; omega
    · obtain rfl : i = N := by omega
      have i1 : ¬ (i : Int) + 1 < 1 + (i : Int) := by omega
      have i2 : ((M.length : Int) != (Cn i : Int)) = false := by rw [bne_eq_false_iff_eq]; have := HLC.out; omega
      clear m1 m2 hlt
      obtain ⟨y, hy⟩ : ∃ y : Int, y = 1 + (i : Int) := ⟨_, rfl⟩
      obtain ⟨z, hz⟩ : ∃ z : Int, z = (i : Int) + 1 := ⟨_, rfl⟩
      have i3 : ¬ z < y := by omega
      have i4 : (((i + 1 : Nat) : Int) != y) = false := by rw [bne_eq_false_iff_eq]; omega
      have i5 : ((i : Int) + 1 != y) = false := by rw [bne_eq_false_iff_eq]; omega
      rw [← hy, ← hz]
      clear i1 hy hz
      go_wp2
      go_loopw [55] (fun x wr => ∃ j : Nat, j ≤ M.length ∧ x = .int .i64 j ∧ Below w0.heap.size w0 wr) (fun x _ => M.length - (intOf x).toNat)
      case atStart => exact ⟨0, by omega, rfl, Below.refl _ _⟩
      case round =>
        obtain ⟨j, hj, rfl, hb⟩ := hrel
        have HBV := Lib.hid hb
        replace PM := Lib.hid (PM.out.keep hb)
        replace HB := Lib.hid (HB.out.trans (hb.mono HB.out.size))
        clear hb
        by_cases hlt : j < M.length
        · have HLT := Lib.hid hlt
          have HM22 := HM2.out
          obtain ⟨b1, o1, x1, y1, hp1, q1, c1, r1⟩ := PM.out.at j hlt
          subst hp1
          rw [HLN.out j hlt] at c1
          have PE := Lib.hid r1
          have hDG := Lib.hid (HDG.out j hlt)
          have hEF := Lib.hid (HEF.out j hlt)
          have j1 : (j : Int) < (M.length : Int) := by omega
          have j2 : (0 : Int) ≤ (j : Int) := by omega
          have HB9 : Hid (Below wr.heap.size wr wr) := Lib.hid (Below.refl _ _)
          clear r1
          go_wp2_with fail
          refine (hDG.out wr _ _ PE.out).mono ?_
          rintro e w1 ⟨rfl, hb⟩
          replace PM := Lib.hid (PM.out.keep hb)
          replace PE := Lib.hid (PE.out.keep hb)
          replace HB9 := Lib.hid (HB9.out.trans (hb.mono HB9.out.size))
          replace HB := Lib.hid (HB.out.trans (hb.mono HB.out.size))
          clear hb
          go_wp2_with fail
          refine (hEF.out w1 _ _ PE.out).mono ?_
          rintro e w2 ⟨rfl, hb⟩
          replace PM := Lib.hid (PM.out.keep hb)
          replace PE := Lib.hid (PE.out.keep hb)
          replace HB9 := Lib.hid (HB9.out.trans (hb.mono HB9.out.size))
          replace HB := Lib.hid (HB.out.trans (hb.mono HB.out.size))
          clear hb
          by_cases hl1 : j + 1 < M.length
          · have hNS := Lib.hid (HNS.out j hl1)
            have hOR := Lib.hid (HOR.out j hl1)
            have hSM := Lib.hid (HSM.out (j + 1) hl1)
            have HL1 := Lib.hid hl1
            have j3 : (j : Int) + 1 < (M.length : Int) := by omega
            have j4 : (0 : Int) ≤ (j : Int) + 1 := by omega
            clear hl1 hlt
            go_wp2_with fail
            refine (hNS.out w2 _ _ PE.out).mono ?_
            rintro e w3 ⟨p5, q5, rfl, hpX, hb⟩
            replace PM := Lib.hid (PM.out.keep hb)
            replace PE := Lib.hid (PE.out.keep hb)
            replace HB9 := Lib.hid (HB9.out.trans (hb.mono HB9.out.size))
            replace HB := Lib.hid (HB.out.trans (hb.mono HB.out.size))
            clear hb
            have PX := Lib.hid hpX
            clear hpX
            obtain ⟨b2, o2, x2, y2, hp2, q2, c2, r2⟩ := PM.out.at (j + 1) HL1.out
            injection hp2 with hp2
            injection hp2 with e8 e9
            subst e8 e9
            rw [HLN.out (j + 1) HL1.out] at c2
            have PG := Lib.hid r2
            clear r2
            go_wp2_with fail
            refine (hSM.out w3 _ _ _ _ PX.out PG.out).mono ?_
            rintro e w4 ⟨rfl, hb⟩
            replace PM := Lib.hid (PM.out.keep hb)
            replace PE := Lib.hid (PE.out.keep hb)
            replace PX := Lib.hid (PX.out.keep hb)
            replace PG := Lib.hid (PG.out.keep hb)
            replace HB9 := Lib.hid (HB9.out.trans (hb.mono HB9.out.size))
            replace HB := Lib.hid (HB.out.trans (hb.mono HB.out.size))
            clear hb
            go_wp2_with fail
            refine (hOR.out w4 _ _ _ _ PE.out PX.out).mono ?_
            rintro e w5 ⟨rfl, hb⟩
            replace PM := Lib.hid (PM.out.keep hb)
            replace PE := Lib.hid (PE.out.keep hb)
            replace PX := Lib.hid (PX.out.keep hb)
            replace PG := Lib.hid (PG.out.keep hb)
            replace HB9 := Lib.hid (HB9.out.trans (hb.mono HB9.out.size))
            replace HB := Lib.hid (HB.out.trans (hb.mono HB.out.size))
            clear hb
            have HBN : Hid (Below w0.heap.size w0 w5) := Lib.hid (HBV.out.trans (HB9.out.mono HBV.out.size))
            go_wp2
            go_roundw
            case rel => exact ⟨j + 1, by have := HLT.out; omega, by go_num, HBN.out⟩
            case measure => have := HLT.out; simp [intOf]; omega
          · have hl2 : j + 1 = M.length := by have := HLT.out; omega
            have hNE := Lib.hid (HNE.out j hl2)
            have j3 : decide ((j : Int) + 1 < (M.length : Int)) = false := by rw [decide_eq_false_iff_not]; omega
            clear hl1 hl2 hlt
            go_wp2_with fail
            refine (hNE.out w2 _ _ PE.out).mono ?_
            rintro e w3 ⟨p5, q5, rfl, hb⟩
            replace PM := Lib.hid (PM.out.keep hb)
            replace PE := Lib.hid (PE.out.keep hb)
            replace HB9 := Lib.hid (HB9.out.trans (hb.mono HB9.out.size))
            replace HB := Lib.hid (HB.out.trans (hb.mono HB.out.size))
            clear hb
            have HBN : Hid (Below w0.heap.size w0 w3) := Lib.hid (HBV.out.trans (HB9.out.mono HBV.out.size))
            go_wp2
            go_roundw
            case rel => exact ⟨j + 1, by have := HLT.out; omega, by go_num, HBN.out⟩
            case measure => have := HLT.out; simp [intOf]; omega
        · obtain rfl : j = M.length := by omega
          have j1 : ¬ (M.length : Int) < (M.length : Int) := by omega
          clear hlt
          go_wp2_with fail
          refine (HAW.out wr).mono ?_
          rintro e w1 ⟨rfl, hb⟩
          replace PM := Lib.hid (PM.out.keep hb)
          replace HB := Lib.hid (HB.out.trans (hb.mono HB.out.size))
          clear hb
          go_wp2
          go_ret
          exact ⟨rfl, HB.out⟩
end Go.Proofs.Ytalbdggpghkcfaa
