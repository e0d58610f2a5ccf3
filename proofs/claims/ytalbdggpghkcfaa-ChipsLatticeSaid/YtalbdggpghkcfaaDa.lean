/- Next of both, and equal lists of divisors. -/
import Derived.Test.YtalbdggpghkcfaaCu
import Derived.Test.YtalbdggpghkcfaaCk
import Derived.Test.YtalbdggpghkcfaaCo
namespace Go.Proofs.Ytalbdggpghkcfaa
open Go.RowKit Go.Proofs.Gr Go.Proofs.Cp
attribute [local go_sem] Oper.semAt_some

def nexK (D : List Int) : Nat := if ownD D ≠ 0 then ownD D else if payD D = false then 15 else if 1048576 < sumD D then 11 else 0
def nexR (D : List Int) : Option (List Int) := if nexK D = 0 then nxt D else none
/-- Hands back the next one, whether there is one, or an error. -/
def GivesNE (w : World) (r : Option (List Int)) (k : Nat) (e : Ending) (x : World) : Prop := ∃ E q a c, (r = none → E = [] ∧ q = false) ∧ (∀ D, r = some D → E = D ∧ q = true) ∧ e = .returned (.tuple #[.slice a E.length c, .bool q, .int .i64 (k : Nat)]) ∧ IsAt x a E ∧ Below w.heap.size w x
theorem eff_of {D : List Int} (h : Div D) (hp : payD D = true) : Eff D := ⟨h.one, h.le, fun j hj => ⟨(pay_iff D).1 hp j hj, (div_at h j hj).2⟩⟩
theorem sum_pos {D : List Int} (_h : Div D) (hp : payD D = true) : 0 ≤ sumD D := by
  have h1 := (pay_iff D).1 hp
  have h2 : ∀ i, i ≤ D.length → 0 ≤ sumD (D.take i) := by
    intro i
    induction i with
    | zero => intro _; exact Int.le_refl _
    | succ i ih => intro hi; rw [sumT_succ D i (by omega)]; have := ih (by omega); have := h1 i (by omega); omega
  have := h2 D.length (Nat.le_refl _)
  rwa [List.take_length] at this
set_option maxHeartbeats 12800000 in
set_option maxRecDepth 100000 in
theorem pNext_any (a : Option Addr) (c : Nat) (D : List Int) (hD : D.length ≤ 1000) (w : World) (h : IsAt w a D) :
    Calls Try.prog 48 #[.slice a D.length c] w (GivesNE w (nexR D) (nexK D)) := by
  have HC := Lib.hid (check1_any a c D hD w h)
  have H1 := Lib.hid h
  have HEF : Hid (ownD D = 0 → ∀ u, IsAt u a D → Calls Try.prog 69 #[.slice a D.length c] u (fun e u' => e = .returned (.bool (payD D)) ∧ Below u.heap.size u u')) := Lib.hid fun hz u hu => pisEff_any a c D hD (own_div hz).one u hu
  have HDG : Hid (ownD D = 0 → ∀ u, IsAt u a D → Calls Try.prog 67 #[.slice a D.length c] u (fun e u' => e = .returned (.int .i64 (sumD D)) ∧ Below u.heap.size u u')) := Lib.hid fun hz u hu => pdegree_any a c D hD (own_div hz).rng u hu
  have HNX : Hid (ownD D = 0 → payD D = true → ∀ u, IsAt u a D → Calls Try.prog 76 #[.slice a D.length c] u (GivesN2 u (nxt D))) := Lib.hid fun hz hp u hu => by
    obtain ⟨N, hN⟩ : ∃ N, D.length = N + 1 := ⟨D.length - 1, by have := (own_div hz).one; omega⟩
    have := pnext_any a c D N hN (eff_of (own_div hz) hp) u hu
    rwa [← hN] at this
  have HSP : Hid (ownD D = 0 → payD D = true → 0 ≤ sumD D ∧ (big (sumD D) = decide (1048576 < sumD D))) := Lib.hid fun hz hp => by
    have h0 := sum_pos (own_div hz) hp
    refine ⟨h0, ?_⟩
    unfold big
    rw [decide_eq_false (by omega), Bool.false_or]
  have HLG := Lib.hid (fun k w => isLarge_any k w)
  have HKE : Hid (nexK D = if ownD D ≠ 0 then ownD D else if payD D = false then 15 else if 1048576 < sumD D then 11 else 0) := Lib.hid rfl
  have HRE : Hid (nexR D = if nexK D = 0 then nxt D else none) := Lib.hid rfl
  unfold GivesNE
  unfold GivesN2 at HNX
  generalize nexR D = R at *
  generalize nexK D = RK at *
  generalize nxt D = X at *
  generalize ownD D = k at *
  generalize payD D = P at *
  generalize sumD D = S at *
  clear h
  go_enter Try.func48, Try.ntmps48
  go_wp2_with fail
  refine HC.out.mono ?_
  rintro e w1 ⟨rfl, hb⟩
  have HB1 := Lib.hid hb
  clear hb
  by_cases hk : k ≠ 0
  · have q0 : (((k : Nat) : Int) != 0) = true := by rw [bne_iff_ne]; omega
    have HR : Hid (RK = k ∧ R = none) := Lib.hid (by
      have h1 : RK = k := by rw [HKE.out, if_pos hk]
      exact ⟨h1, by rw [HRE.out, h1, if_neg hk]⟩)
    clear hk
    go_wp2
    refine bodyPost_ret (v := .tuple #[.slice none 0 0, .bool false, .int .i64 (k : Nat)]) (by simp [results, Try.results48, go_sem]) rfl ?_
    exact ⟨[], false, none, 0, fun _ => ⟨rfl, rfl⟩, fun D h => (by rw [HR.out.2] at h; cases h), by rw [HR.out.1]; rfl, RowAt.nil _ _ _ _, HB1.out⟩
  have hk0 : k = 0 := by omega
  have HEF1 := Lib.hid (HEF.out hk0)
  have HDG1 := Lib.hid (HDG.out hk0)
  have HNX1 := Lib.hid (HNX.out hk0)
  have HSP1 := Lib.hid (HSP.out hk0)
  subst hk0
  clear hk HEF HDG HNX HSP
  go_wp2_with fail
  refine (HEF1.out w1 (H1.out.keep HB1.out)).mono ?_
  rintro e w2 ⟨rfl, hb⟩
  have HB2 := Lib.hid (HB1.out.trans (hb.mono HB1.out.size))
  clear hb
  cases P with
  | false =>
    have HR : Hid (RK = 15 ∧ R = none) := Lib.hid (by
      have h1 : RK = 15 := by rw [HKE.out]; simp
      exact ⟨h1, by rw [HRE.out, h1]; simp⟩)
    go_wp2
    refine bodyPost_ret (v := .tuple #[.slice none 0 0, .bool false, .int .i64 15]) (by simp [results, Try.results48, go_sem]) rfl ?_
    exact ⟨[], false, none, 0, fun _ => ⟨rfl, rfl⟩, fun D h => (by rw [HR.out.2] at h; cases h), by rw [HR.out.1]; rfl, RowAt.nil _ _ _ _, HB2.out⟩
  | true =>
    have HNX2 := Lib.hid (HNX1.out rfl)
    have HSP2 := Lib.hid (HSP1.out rfl)
    clear HNX1 HSP1
    go_wp2_with fail
    refine (HDG1.out w2 (H1.out.keep HB2.out)).mono ?_
    rintro e w3 ⟨rfl, hb⟩
    have HB3 := Lib.hid (HB2.out.trans (hb.mono HB2.out.size))
    clear hb
    go_wp2_with fail
    refine (HLG.out S w3).mono ?_
    rintro e w4 ⟨rfl, rfl⟩
    by_cases hs : 1048576 < S
    · have d1 : decide (1048576 < S) = true := decide_eq_true hs
      have HR : Hid (RK = 11 ∧ R = none) := Lib.hid (by
        have h1 : RK = 11 := by rw [HKE.out]; simp [hs]
        exact ⟨h1, by rw [HRE.out, h1]; simp⟩)
      have d2 := HSP2.out.2; rw [d1] at d2; rw [d2]; clear d2
      clear hs
      go_wp2
      refine bodyPost_ret (v := .tuple #[.slice none 0 0, .bool false, .int .i64 11]) (by simp [results, Try.results48, go_sem]) rfl ?_
      exact ⟨[], false, none, 0, fun _ => ⟨rfl, rfl⟩, fun D h => (by rw [HR.out.2] at h; cases h), by rw [HR.out.1]; rfl, RowAt.nil _ _ _ _, HB3.out⟩
    · have d1 : decide (1048576 < S) = false := decide_eq_false hs
      have HR : Hid (RK = 0 ∧ R = X) := Lib.hid (by
        have h1 : RK = 0 := by rw [HKE.out]; simp [hs]
        exact ⟨h1, by rw [HRE.out, h1]; simp⟩)
      have d2 := HSP2.out.2; rw [d1] at d2; rw [d2]; clear d2
      clear hs
      go_wp2_with fail
      refine (HNX2.out w3 (H1.out.keep HB3.out)).mono ?_
      rintro e w4 (⟨E, a9, c9, hx, rfl, hc9, hf, hr, hb⟩ | ⟨hx, rfl, hb⟩)
      · have HB4 := Lib.hid (HB3.out.trans (hb.mono HB3.out.size))
        have HXX := Lib.hid hx
        have HRR := Lib.hid hr
        clear hb hx hr hf hc9
        go_wp2
        refine bodyPost_ret (v := .tuple #[.slice a9 E.length c9, .bool true, .int .i64 0]) (by simp [results, Try.results48, go_sem]) rfl ?_
        exact ⟨E, true, a9, c9, fun h => (by rw [HR.out.2, HXX.out] at h; cases h), fun D h => (by rw [HR.out.2, HXX.out] at h; injection h with h; exact ⟨h, rfl⟩), by rw [HR.out.1]; rfl, HRR.out, HB4.out⟩
      · have HB4 := Lib.hid (HB3.out.trans (hb.mono HB3.out.size))
        have HXX := Lib.hid hx
        clear hb hx
        go_wp2
        refine bodyPost_ret (v := .tuple #[.slice none 0 0, .bool false, .int .i64 0]) (by simp [results, Try.results48, go_sem]) rfl ?_
        exact ⟨[], false, none, 0, fun _ => ⟨rfl, rfl⟩, fun D h => (by rw [HR.out.2, HXX.out] at h; cases h), by rw [HR.out.1]; rfl, RowAt.nil _ _ _ _, HB4.out⟩
set_option maxHeartbeats 12800000 in
set_option maxRecDepth 100000 in
theorem rNext_any (a : Option Addr) (c : Nat) (D : List Int) (hD : D.length ≤ 1000) (hc : D.length ≤ c) (w : World) (h : IsAt w a D) :
    Calls Try.prog 49 #[.slice a D.length c] w (GivesNE w (nexR D) (nexK D)) := by
  have HC := Lib.hid (rOwn_any a c D hD w h)
  have H1 := Lib.hid h
  have HEF : Hid (ownD D = 0 → ∀ u, IsAt u a D → Calls Try.prog 70 #[.slice a D.length c] u (fun e u' => e = .returned (.bool (payD D)) ∧ Below u.heap.size u u')) := Lib.hid fun hz u hu => rPaid_any a c D hD u hu
  have HDG : Hid (ownD D = 0 → ∀ u, IsAt u a D → Calls Try.prog 68 #[.slice a D.length c] u (fun e u' => e = .returned (.int .i64 (sumD D)) ∧ Below u.heap.size u u')) := Lib.hid fun hz u hu => rTotal_any a c D hD (own_div hz).rng u hu
  have HNX : Hid (ownD D = 0 → payD D = true → ∀ u, IsAt u a D → Calls Try.prog 79 #[.slice a D.length c] u (GivesN2 u (nxt D))) := Lib.hid fun hz hp u hu => by
    obtain ⟨N, hN⟩ : ∃ N, D.length = N + 1 := ⟨D.length - 1, by have := (own_div hz).one; omega⟩
    have := rFollows_any a c D N hN (eff_of (own_div hz) hp) (by omega) u hu
    rwa [← hN] at this
  have HSP : Hid (ownD D = 0 → payD D = true → 0 ≤ sumD D ∧ (big (sumD D) = decide (1048576 < sumD D))) := Lib.hid fun hz hp => by
    have h0 := sum_pos (own_div hz) hp
    refine ⟨h0, ?_⟩
    unfold big
    rw [decide_eq_false (by omega), Bool.false_or]
  have HLG := Lib.hid (fun k w => isLarge_any k w)
  have HKE : Hid (nexK D = if ownD D ≠ 0 then ownD D else if payD D = false then 15 else if 1048576 < sumD D then 11 else 0) := Lib.hid rfl
  have HRE : Hid (nexR D = if nexK D = 0 then nxt D else none) := Lib.hid rfl
  unfold GivesNE
  unfold GivesN2 at HNX
  generalize nexR D = R at *
  generalize nexK D = RK at *
  generalize nxt D = X at *
  generalize ownD D = k at *
  generalize payD D = P at *
  generalize sumD D = S at *
  clear h hc
  go_enter Try.func49, Try.ntmps49
  go_wp2_with fail
  refine HC.out.mono ?_
  rintro e w1 ⟨rfl, hb⟩
  have HB1 := Lib.hid hb
  clear hb
  by_cases hk : k ≠ 0
  · have q0 : (((k : Nat) : Int) != 0) = true := by rw [bne_iff_ne]; omega
    have HR : Hid (RK = k ∧ R = none) := Lib.hid (by
      have h1 : RK = k := by rw [HKE.out, if_pos hk]
      exact ⟨h1, by rw [HRE.out, h1, if_neg hk]⟩)
    clear hk
    go_wp2
    refine bodyPost_ret (v := .tuple #[.slice none 0 0, .bool false, .int .i64 (k : Nat)]) (by simp [results, Try.results49, go_sem]) rfl ?_
    exact ⟨[], false, none, 0, fun _ => ⟨rfl, rfl⟩, fun D h => (by rw [HR.out.2] at h; cases h), by rw [HR.out.1]; rfl, RowAt.nil _ _ _ _, HB1.out⟩
  have hk0 : k = 0 := by omega
  have HEF1 := Lib.hid (HEF.out hk0)
  have HDG1 := Lib.hid (HDG.out hk0)
  have HNX1 := Lib.hid (HNX.out hk0)
  have HSP1 := Lib.hid (HSP.out hk0)
  subst hk0
  clear hk HEF HDG HNX HSP
  go_wp2_with fail
  refine (HEF1.out w1 (H1.out.keep HB1.out)).mono ?_
  rintro e w2 ⟨rfl, hb⟩
  have HB2 := Lib.hid (HB1.out.trans (hb.mono HB1.out.size))
  clear hb
  cases P with
  | false =>
    have HR : Hid (RK = 15 ∧ R = none) := Lib.hid (by
      have h1 : RK = 15 := by rw [HKE.out]; simp
      exact ⟨h1, by rw [HRE.out, h1]; simp⟩)
    go_wp2
    refine bodyPost_ret (v := .tuple #[.slice none 0 0, .bool false, .int .i64 15]) (by simp [results, Try.results49, go_sem]) rfl ?_
    exact ⟨[], false, none, 0, fun _ => ⟨rfl, rfl⟩, fun D h => (by rw [HR.out.2] at h; cases h), by rw [HR.out.1]; rfl, RowAt.nil _ _ _ _, HB2.out⟩
  | true =>
    have HNX2 := Lib.hid (HNX1.out rfl)
    have HSP2 := Lib.hid (HSP1.out rfl)
    clear HNX1 HSP1
    go_wp2_with fail
    refine (HDG1.out w2 (H1.out.keep HB2.out)).mono ?_
    rintro e w3 ⟨rfl, hb⟩
    have HB3 := Lib.hid (HB2.out.trans (hb.mono HB2.out.size))
    clear hb
    by_cases hs : 1048576 < S
    · have d1 : decide (1048576 < S) = true := decide_eq_true hs
      have HR : Hid (RK = 11 ∧ R = none) := Lib.hid (by
        have h1 : RK = 11 := by rw [HKE.out]; simp [hs]
        exact ⟨h1, by rw [HRE.out, h1]; simp⟩)
      
      clear hs
      go_wp2
      refine bodyPost_ret (v := .tuple #[.slice none 0 0, .bool false, .int .i64 11]) (by simp [results, Try.results49, go_sem]) rfl ?_
      exact ⟨[], false, none, 0, fun _ => ⟨rfl, rfl⟩, fun D h => (by rw [HR.out.2] at h; cases h), by rw [HR.out.1]; rfl, RowAt.nil _ _ _ _, HB3.out⟩
    · have d1 : decide (1048576 < S) = false := decide_eq_false hs
      have HR : Hid (RK = 0 ∧ R = X) := Lib.hid (by
        have h1 : RK = 0 := by rw [HKE.out]; simp [hs]
        exact ⟨h1, by rw [HRE.out, h1]; simp⟩)
      
      clear hs
      go_wp2_with fail
      refine (HNX2.out w3 (H1.out.keep HB3.out)).mono ?_
      rintro e w4 (⟨E, a9, c9, hx, rfl, hc9, hf, hr, hb⟩ | ⟨hx, rfl, hb⟩)
      · have HB4 := Lib.hid (HB3.out.trans (hb.mono HB3.out.size))
        have HXX := Lib.hid hx
        have HRR := Lib.hid hr
        clear hb hx hr hf hc9
        go_wp2
        refine bodyPost_ret (v := .tuple #[.slice a9 E.length c9, .bool true, .int .i64 0]) (by simp [results, Try.results49, go_sem]) rfl ?_
        exact ⟨E, true, a9, c9, fun h => (by rw [HR.out.2, HXX.out] at h; cases h), fun D h => (by rw [HR.out.2, HXX.out] at h; injection h with h; exact ⟨h, rfl⟩), by rw [HR.out.1]; rfl, HRR.out, HB4.out⟩
      · have HB4 := Lib.hid (HB3.out.trans (hb.mono HB3.out.size))
        have HXX := Lib.hid hx
        clear hb hx
        go_wp2
        refine bodyPost_ret (v := .tuple #[.slice none 0 0, .bool false, .int .i64 0]) (by simp [results, Try.results49, go_sem]) rfl ?_
        exact ⟨[], false, none, 0, fun _ => ⟨rfl, rfl⟩, fun D h => (by rw [HR.out.2, HXX.out] at h; cases h), by rw [HR.out.1]; rfl, RowAt.nil _ _ _ _, HB4.out⟩
end Go.Proofs.Ytalbdggpghkcfaa
