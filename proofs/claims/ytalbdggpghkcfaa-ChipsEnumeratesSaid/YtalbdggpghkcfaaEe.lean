/- The law Lists. -/
import Derived.Test.YtalbdggpghkcfaaEc
namespace Go.Proofs.Ytalbdggpghkcfaa
open Go.RowKit Go.Proofs.Gr Go.Proofs.Cp
attribute [local go_sem] Oper.semAt_some

theorem nx_exp {w : World} {r : Option (List Int)} {k : Nat} {e : Ending} {x : World} (h : GivesNE w r k e x) : ∃ a c, e = .returned (.tuple #[.slice a (r.getD []).length c, .bool r.isSome, .int .i64 (k : Nat)]) ∧ IsAt x a (r.getD []) ∧ Below w.heap.size w x := by
  obtain ⟨E, q, a, c, h1, h2, rfl, hr, hb⟩ := h
  cases r with
  | none => obtain ⟨rfl, rfl⟩ := h1 rfl; exact ⟨a, c, rfl, hr, hb⟩
  | some D => obtain ⟨rfl, rfl⟩ := h2 D rfl; exact ⟨a, c, rfl, hr, hb⟩
theorem allL_len (n k : Int) : (allL n k).length ≤ 100000 ∧ ∀ i, i < (allL n k).length → ((allL n k).getD i []).length ≤ 1000 := by
  unfold allL
  by_cases h : allK n k = 0
  · rw [if_pos h]
    unfold allK at h
    by_cases h1 : n < 1 ∨ 12 < n ∨ k < 0 ∨ 1048576 < k
    · rw [if_pos h1] at h; omega
    · rw [if_neg h1] at h
      have h2 : ¬ manyB (n - 1).toNat k.toNat = true := fun e => by rw [if_pos e] at h; omega
      unfold manyB at h2
      rw [decide_eq_true_iff] at h2
      refine ⟨by rw [allE_len]; omega, fun i hi => ?_⟩
      have hm : (allE (n - 1).toNat k.toNat).getD i [] ∈ allE (n - 1).toNat k.toNat := List.mem_of_getElem? (lAt_get _ i hi)
      rw [(allE_mem hm).1]
      omega
  · rw [if_neg h]; exact ⟨by simp, fun i hi => by simp at hi⟩
theorem nxtS_len {z : Int} {D E : List Int} (h : ∀ E, nxt D = some E → E.length = D.length) (hn : nxtS z D (nxt D) = some E) : E.length = D.length + 1 := by
  cases hd : nxt D with
  | some D' => rw [hd, nxtS] at hn; injection hn with hn; subst hn; rw [List.length_cons, h D' hd]
  | none =>
    rw [hd] at hn
    cases D with
    | nil => simp [nxtS] at hn
    | cons y D2 =>
      rw [nxtS] at hn
      by_cases hy : y = 0
      · rw [if_pos hy] at hn; cases hn
      · rw [if_neg hy] at hn; injection hn with hn; subst hn; simp
theorem nxt_len {D E : List Int} (h : nxt D = some E) : E.length = D.length := by
  induction D generalizing E with
  | nil => simp [nxt] at h
  | cons z D ih => rw [nxt] at h; rw [List.length_cons]; exact nxtS_len (fun E h => ih h) h
theorem nexR_len (D : List Int) (h : D.length ≤ 24) : ((nexR D).getD []).length ≤ 1000 := by
  unfold nexR
  by_cases h1 : nexK D = 0
  · rw [if_pos h1]
    cases h2 : nxt D with
    | none => simp
    | some E => have := nxt_len h2; simp; omega
  · rw [if_neg h1]; simp
set_option maxHeartbeats 12800000 in
set_option maxRecDepth 100000 in
theorem lists_any (n k : Int) (a : Option Addr) (c : Nat) (D : List Int) (hc : D.length ≤ c) (w : World) (h : IsAt w a D) :
    Calls Try.prog 7 #[.int .i64 n, .int .i64 k, .slice a D.length c] w (fun e w' => e = .returned (.bool true) ∧ Below w.heap.size w w') := by
  have HAW := Lib.hid (fun w => awake_any w)
  by_cases hf : ¬ D.length ≤ 24
  · have HFW : Hid (∀ w, Calls Try.prog 12 #[.slice a D.length c] w (fun e w' => e = .returned (.bool false) ∧ w = w')) := Lib.hid fun w => by
      have := rFew_any a D.length c w
      rwa [decide_eq_false hf] at this
    clear hf
    go_enter Try.func7, Try.ntmps7
    go_wp2_with fail
    refine (HFW.out w).mono ?_
    rintro e w9 ⟨rfl, rfl⟩
    go_wp2_with fail
    refine (HAW.out w).mono ?_
    rintro e w1 ⟨rfl, hb⟩
    have HB := Lib.hid hb
    clear hb
    go_wp2
    go_ret
    exact ⟨rfl, HB.out⟩
  have hf : D.length ≤ 24 := by omega
  have HFW : Hid (∀ w, Calls Try.prog 12 #[.slice a D.length c] w (fun e w' => e = .returned (.bool true) ∧ w = w')) := Lib.hid fun w => by
    have := rFew_any a D.length c w
    rwa [decide_eq_true hf] at this
  have HSM := Lib.hid same_true
  have Hp1 : Hid (∀ u, Calls Try.prog 46 #[.int .i64 n, .int .i64 k] u (GivesLE u (allL n k) (allK n k))) := Lib.hid fun u => pAll_any n k u
  have Hr1 : Hid (∀ u, Calls Try.prog 47 #[.int .i64 n, .int .i64 k] u (GivesLE u (allL n k) (allK n k))) := Lib.hid fun u => rAll_any n k u
  have Hp2 : Hid (∀ u, IsAt u a D → Calls Try.prog 48 #[.slice a D.length c] u (fun e x => ∃ p q, e = .returned (.tuple #[.slice p ((nexR D).getD []).length q, .bool (nexR D).isSome, .int .i64 (nexK D : Nat)]) ∧ IsAt x p ((nexR D).getD []) ∧ Below u.heap.size u x)) := Lib.hid fun u h => (pNext_any a c D (by omega) u h).mono fun e x h => nx_exp h
  have Hr2 : Hid (∀ u, IsAt u a D → Calls Try.prog 49 #[.slice a D.length c] u (fun e x => ∃ p q, e = .returned (.tuple #[.slice p ((nexR D).getD []).length q, .bool (nexR D).isSome, .int .i64 (nexK D : Nat)]) ∧ IsAt x p ((nexR D).getD []) ∧ Below u.heap.size u x)) := Lib.hid fun u h => (rNext_any a c D (by omega) hc u h).mono fun e x h => nx_exp h
  have HSA : Hid (∀ u a b c d, LsAt u a (allL n k) → LsAt u b (allL n k) → Calls Try.prog 50 #[.slice a (allL n k).length c, .slice b (allL n k).length d] u (fun e x => e = .returned (.bool true) ∧ Below u.heap.size u x)) := Lib.hid fun u a b c d h1 h2 => by
    obtain ⟨l1, l2⟩ := allL_len n k
    have := rSameAll_any a b c d (allL n k) (allL n k) l1 l1 l2 l2 u h1 h2
    rwa [decide_eq_true rfl] at this
  have LX := Lib.hid (nexR_len D hf)
  have HB : Hid (Below w.heap.size w w) := Lib.hid (Below.refl _ _)
  have PD := Lib.hid h
  unfold GivesLE at *
  generalize (nexR D).getD [] = X at *
  generalize (nexR D).isSome = qv at *
  generalize nexK D = NK at *
  generalize allL n k = M at *
  generalize allK n k = MK at *
  clear h hf hc
  go_enter Try.func7, Try.ntmps7
  go_wp2_with fail
  refine (HFW.out w).mono ?_
  rintro e w9 ⟨rfl, rfl⟩
  go_wp2_with fail
  refine (Hp1.out w).mono ?_
  rintro e w0 ⟨p1, q1, rfl, hpM1, hb⟩
  replace PD := Lib.hid (PD.out.keep hb)
  replace HB := Lib.hid (HB.out.trans (hb.mono HB.out.size))
  clear hb
  have PM1 := Lib.hid hpM1
  clear hpM1
  go_wp2_with fail
  refine (Hr1.out w0).mono ?_
  rintro e w1 ⟨p2, q2, rfl, hpM2, hb⟩
  replace PD := Lib.hid (PD.out.keep hb)
  replace PM1 := Lib.hid (PM1.out.keep hb)
  replace HB := Lib.hid (HB.out.trans (hb.mono HB.out.size))
  clear hb
  have PM2 := Lib.hid hpM2
  clear hpM2
  cases qv
  all_goals (
    go_wp2_with fail
    refine (Hp2.out w1 PD.out).mono ?_
    rintro e w2 ⟨p3, q3, rfl, hpX1, hb⟩
    replace PD := Lib.hid (PD.out.keep hb)
    replace PM1 := Lib.hid (PM1.out.keep hb)
    replace PM2 := Lib.hid (PM2.out.keep hb)
    replace HB := Lib.hid (HB.out.trans (hb.mono HB.out.size))
    clear hb
    have PX1 := Lib.hid hpX1
    clear hpX1
    go_wp2_with fail
    refine (Hr2.out w2 PD.out).mono ?_
    rintro e w3 ⟨p4, q4, rfl, hpX2, hb⟩
    replace PD := Lib.hid (PD.out.keep hb)
    replace PM1 := Lib.hid (PM1.out.keep hb)
    replace PM2 := Lib.hid (PM2.out.keep hb)
    replace PX1 := Lib.hid (PX1.out.keep hb)
    replace HB := Lib.hid (HB.out.trans (hb.mono HB.out.size))
    clear hb
    have PX2 := Lib.hid hpX2
    clear hpX2
    go_wp2_with fail
    refine (HSA.out w3 _ _ _ _ PM1.out PM2.out).mono ?_
    rintro e w4 ⟨rfl, hb⟩
    replace PD := Lib.hid (PD.out.keep hb)
    replace PM1 := Lib.hid (PM1.out.keep hb)
    replace PM2 := Lib.hid (PM2.out.keep hb)
    replace PX1 := Lib.hid (PX1.out.keep hb)
    replace PX2 := Lib.hid (PX2.out.keep hb)
    replace HB := Lib.hid (HB.out.trans (hb.mono HB.out.size))
    clear hb
    go_wp2_with fail
    refine (HSM.out w4 _ _ _ _ X LX.out PX1.out PX2.out).mono ?_
    rintro e w5 ⟨rfl, hb⟩
    replace PD := Lib.hid (PD.out.keep hb)
    replace PM1 := Lib.hid (PM1.out.keep hb)
    replace PM2 := Lib.hid (PM2.out.keep hb)
    replace PX1 := Lib.hid (PX1.out.keep hb)
    replace PX2 := Lib.hid (PX2.out.keep hb)
    replace HB := Lib.hid (HB.out.trans (hb.mono HB.out.size))
    clear hb
    go_wp2_with fail
    refine (HAW.out w5).mono ?_
    rintro e w6 ⟨rfl, hb⟩
    replace PD := Lib.hid (PD.out.keep hb)
    replace PM1 := Lib.hid (PM1.out.keep hb)
    replace PM2 := Lib.hid (PM2.out.keep hb)
    replace PX1 := Lib.hid (PX1.out.keep hb)
    replace PX2 := Lib.hid (PX2.out.keep hb)
    replace HB := Lib.hid (HB.out.trans (hb.mono HB.out.size))
    clear hb
    go_wp2
    go_ret
    exact ⟨rfl, HB.out⟩)
end Go.Proofs.Ytalbdggpghkcfaa
