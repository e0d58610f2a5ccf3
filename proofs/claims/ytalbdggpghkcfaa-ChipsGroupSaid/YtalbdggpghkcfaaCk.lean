/- Degrees, effective divisors, supports, by both. -/
import Derived.Test.YtalbdggpghkcfaaCc
import Derived.Test.YtalbdggpghkcfaaCd
namespace Go.Proofs.Ytalbdggpghkcfaa
open Go.RowKit Go.Proofs.Gr Go.Proofs.Cp
attribute [local go_sem] Oper.semAt_some

theorem sumT_succ (D : List Int) (i : Nat) (h : i < D.length) : sumD (D.take (i + 1)) = sumD (D.take i) + iAt D i := by
  rw [List.take_succ_eq_append_getElem h, sumD_append, iAt_get D i h]
  simp [sumD]
def Rng (D : List Int) : Prop := ∀ z ∈ D, -1048576 ≤ z ∧ z ≤ 1048576
theorem rng_at {D : List Int} (h : Rng D) (i : Nat) (hi : i < D.length) : -1048576 ≤ iAt D i ∧ iAt D i ≤ 1048576 := h _ (by rw [← iAt_get D i hi]; exact List.getElem_mem hi)
theorem sumT_bd {D : List Int} (h : Rng D) (i : Nat) (hi : i ≤ D.length) : -(i * 1048576 : Int) ≤ sumD (D.take i) ∧ sumD (D.take i) ≤ i * 1048576 := by
  induction i with
  | zero => simp [sumD]
  | succ i ih =>
    rw [sumT_succ D i (by omega)]
    have h1 := ih (by omega)
    have h2 := rng_at h i (by omega)
    omega
theorem pay_iff (D : List Int) : payD D = true ↔ ∀ j, j < D.length → 0 ≤ iAt D j := by
  unfold payD
  rw [List.all_eq_true]
  constructor
  · intro h j hj; have := h _ (List.getElem_mem hj); rw [iAt_get D j hj] at this; simpa using this
  · intro h z hz
    obtain ⟨j, hj, rfl⟩ := List.getElem_of_mem hz
    rw [iAt_get D j hj]; simpa using h j hj
theorem pay_no {D : List Int} (j : Nat) (hj : j < D.length) (h : iAt D j < 0) : payD D = false := by
  cases hp : payD D with
  | false => rfl
  | true => have := (pay_iff D).1 hp j hj; omega
/-- The vertices of the first ones that are not 0. -/
def supT (D : List Int) : Nat → List Int
  | 0 => []
  | k + 1 => supT D k ++ (if iAt D k = 0 then [] else [(k : Int)])
theorem supT_len (D : List Int) (k : Nat) : (supT D k).length ≤ k := by
  induction k with
  | zero => exact Nat.le_refl _
  | succ k ih => rw [supT, List.length_append]; split <;> simp <;> omega
def degV (D : List Int) : Int := if ownD D = 0 then sumD D else 0
def effV (D : List Int) : Bool := if ownD D = 0 then payD D else false
def supV (D : List Int) : List Int := if ownD D = 0 then supT D D.length else []
set_option maxHeartbeats 12800000 in
set_option maxRecDepth 100000 in
theorem pdegree_any (a : Option Addr) (c : Nat) (D : List Int) (hD : D.length ≤ 1000) (hr : Rng D) (w : World) (h : IsAt w a D) :
    Calls Try.prog 67 #[.slice a D.length c] w (fun e w' => e = .returned (.int .i64 (sumD D)) ∧ Below w.heap.size w w') := by
  have HE := Lib.hid h
  have HS := Lib.hid (fun i hi => sumT_succ D i hi)
  have HBD := Lib.hid (fun i hi => sumT_bd hr i hi)
  have HRG := Lib.hid (fun i hi => rng_at hr i hi)
  have HS0 : Hid (sumD (D.take 0) = 0) := Lib.hid rfl
  have HSN : Hid (sumD (D.take D.length) = sumD D) := Lib.hid (by rw [List.take_length])
  generalize sumD D = R at *
  obtain ⟨S, hS⟩ : ∃ S : Nat → Int, S = fun i => sumD (D.take i) := ⟨_, rfl⟩
  have HS' : Hid (∀ i, i < D.length → S (i + 1) = S i + iAt D i) := Lib.hid (by rw [hS]; exact HS.out)
  have HBD' : Hid (∀ i : Nat, i ≤ D.length → -(i * 1048576 : Int) ≤ S i ∧ S i ≤ i * 1048576) := Lib.hid (by rw [hS]; exact HBD.out)
  have HS0' : Hid (S 0 = 0) := Lib.hid (by rw [hS]; exact HS0.out)
  have HSN' : Hid (S D.length = R) := Lib.hid (by rw [hS]; exact HSN.out)
  clear h hr HS HBD HS0 HSN hS
  go_enter Try.func67, Try.ntmps67
  go_wp2
  go_loopw [3, 8] (fun s x wr => ∃ i : Nat, i ≤ D.length ∧ x = .int .i64 i ∧ s = .int .i64 (S i) ∧ Below w.heap.size w wr) (fun _ x _ => D.length - (intOf x).toNat)
  case atStart => exact ⟨0, by omega, rfl, by rw [HS0'.out], Below.refl _ _⟩
  case round =>
    obtain ⟨i, hi, rfl, rfl, hb⟩ := hrel
    have HB := Lib.hid hb
    by_cases hlt : i < D.length
    · have i1 : (i : Int) < (D.length : Int) := by omega
      have i2 : (0 : Int) ≤ (i : Int) := by omega
      obtain ⟨b1, o1, hb1, q1, x1⟩ := (HE.out.keep hb).one i hlt
      subst hb1
      have h1 := HBD'.out i hi
      have h2 := HRG.out i hlt
      have HN := Lib.hid (HS'.out i hlt)
      clear hb
      generalize iAt D i = z at *
      generalize S i = s at *
      go_wp2
      go_roundw
      case rel => exact ⟨i + 1, by omega, by go_num, by rw [HN.out], HB.out⟩
      case measure => simp [intOf]; omega
    · obtain rfl : i = D.length := by omega
      have i1 : ¬ (D.length : Int) < (D.length : Int) := by omega
      clear hb
      go_wp2
      go_ret
      exact ⟨by rw [HSN'.out]; rfl, HB.out⟩
set_option maxHeartbeats 12800000 in
set_option maxRecDepth 100000 in
theorem rTotal_any (a : Option Addr) (c : Nat) (D : List Int) (hD : D.length ≤ 1000) (hr : Rng D) (w : World) (h : IsAt w a D) :
    Calls Try.prog 68 #[.slice a D.length c] w (fun e w' => e = .returned (.int .i64 (sumD D)) ∧ Below w.heap.size w w') := by
  have HE := Lib.hid h
  have HS := Lib.hid (fun i hi => sumT_succ D i hi)
  have HBD := Lib.hid (fun i hi => sumT_bd hr i hi)
  have HRG := Lib.hid (fun i hi => rng_at hr i hi)
  have HS0 : Hid (sumD (D.take 0) = 0) := Lib.hid rfl
  have HSN : Hid (sumD (D.take D.length) = sumD D) := Lib.hid (by rw [List.take_length])
  generalize sumD D = R at *
  obtain ⟨S, hS⟩ : ∃ S : Nat → Int, S = fun i => sumD (D.take i) := ⟨_, rfl⟩
  have HS' : Hid (∀ i, i < D.length → S (i + 1) = S i + iAt D i) := Lib.hid (by rw [hS]; exact HS.out)
  have HBD' : Hid (∀ i : Nat, i ≤ D.length → -(i * 1048576 : Int) ≤ S i ∧ S i ≤ i * 1048576) := Lib.hid (by rw [hS]; exact HBD.out)
  have HS0' : Hid (S 0 = 0) := Lib.hid (by rw [hS]; exact HS0.out)
  have HSN' : Hid (S D.length = R) := Lib.hid (by rw [hS]; exact HSN.out)
  clear h hr HS HBD HS0 HSN hS
  go_enter Try.func68, Try.ntmps68
  go_wp2
  go_loopw [3, 4] (fun s x wr => ∃ i : Nat, i ≤ D.length ∧ x = .int .i64 i ∧ s = .int .i64 (S i) ∧ Below w.heap.size w wr) (fun _ x _ => D.length - (intOf x).toNat)
  case atStart => exact ⟨0, by omega, rfl, by rw [HS0'.out], Below.refl _ _⟩
  case round =>
    obtain ⟨i, hi, rfl, rfl, hb⟩ := hrel
    have HB := Lib.hid hb
    by_cases hlt : i < D.length
    · have i1 : (i : Int) < (D.length : Int) := by omega
      have i2 : (0 : Int) ≤ (i : Int) := by omega
      obtain ⟨b1, o1, hb1, q1, x1⟩ := (HE.out.keep hb).one i hlt
      subst hb1
      have h1 := HBD'.out i hi
      have h2 := HRG.out i hlt
      have HN := Lib.hid (HS'.out i hlt)
      clear hb
      generalize iAt D i = z at *
      generalize S i = s at *
      go_wp2
      go_roundw
      case rel => exact ⟨i + 1, by omega, by go_num, by rw [HN.out], HB.out⟩
      case measure => simp [intOf]; omega
    · obtain rfl : i = D.length := by omega
      have i1 : ¬ (D.length : Int) < (D.length : Int) := by omega
      clear hb
      go_wp2
      go_ret
      exact ⟨by rw [HSN'.out]; rfl, HB.out⟩
set_option maxHeartbeats 12800000 in
set_option maxRecDepth 100000 in
theorem rPaid_any (a : Option Addr) (c : Nat) (D : List Int) (hD : D.length ≤ 1000) (w : World) (h : IsAt w a D) :
    Calls Try.prog 70 #[.slice a D.length c] w (fun e w' => e = .returned (.bool (payD D)) ∧ Below w.heap.size w w') := by
  have HE := Lib.hid h
  have HNO := Lib.hid (fun j hj h => pay_no (D := D) j hj h)
  have HYES := Lib.hid ((pay_iff D).2)
  generalize payD D = R at *
  clear h
  go_enter Try.func70, Try.ntmps70
  go_wp2
  go_loopw [3] (fun x wr => ∃ i : Nat, i ≤ D.length ∧ x = .int .i64 i ∧ (∀ j, j < i → 0 ≤ iAt D j) ∧ Below w.heap.size w wr) (fun x _ => D.length - (intOf x).toNat)
  case atStart => exact ⟨0, by omega, rfl, fun j hj => by omega, Below.refl _ _⟩
  case round =>
    obtain ⟨i, hi, rfl, hz, hb⟩ := hrel
    have HZ := Lib.hid hz
    have HB := Lib.hid hb
    by_cases hlt : i < D.length
    · have i1 : (i : Int) < (D.length : Int) := by omega
      have i2 : (0 : Int) ≤ (i : Int) := by omega
      obtain ⟨b1, o1, hb1, q1, x1⟩ := (HE.out.keep hb).one i hlt
      subst hb1
      have HTI := Lib.hid (HNO.out i hlt)
      have HZN : Hid (0 ≤ iAt D i → ∀ j, j < i + 1 → 0 ≤ iAt D j) := Lib.hid fun h0 j hj => by
        by_cases e : j = i
        · subst e; exact h0
        · exact HZ.out j (by omega)
      generalize iAt D i = z at *
      clear hz hb
      by_cases h0 : z < 0
      · have HR := Lib.hid (HTI.out h0)
        go_wp2
        go_ret
        exact ⟨by rw [HR.out]; rfl, HB.out⟩
      · have HR := Lib.hid (HZN.out (by omega))
        go_wp2
        go_roundw
        case rel => exact ⟨i + 1, by omega, by go_num, HR.out, HB.out⟩
        case measure => simp [intOf]; omega
    · obtain rfl : i = D.length := by omega
      have i1 : ¬ (D.length : Int) < (D.length : Int) := by omega
      have HR := Lib.hid (HYES.out hz)
      clear hz hb
      go_wp2
      go_ret
      exact ⟨by rw [HR.out]; rfl, HB.out⟩
set_option maxHeartbeats 12800000 in
set_option maxRecDepth 100000 in
theorem pmin_any (a : Option Addr) (c : Nat) (D : List Int) (hD : D.length ≤ 1000) (h0 : 1 ≤ D.length) (w : World) (h : IsAt w a D) :
    Calls Try.prog 82 #[.slice a D.length c] w (fun e w' => (∃ m : Int, e = .returned (.int .i64 m) ∧ payD D = decide (0 ≤ m)) ∧ Below w.heap.size w w') := by
  have HE := Lib.hid h
  have HP : Hid (∀ m : Int, (0 ≤ m ↔ ∀ j, j < D.length → 0 ≤ iAt D j) → payD D = decide (0 ≤ m)) := Lib.hid fun m hm => by
    by_cases hd : 0 ≤ m
    · rw [decide_eq_true hd]; exact (pay_iff D).2 (hm.1 hd)
    · rw [decide_eq_false hd]
      cases hp : payD D with
      | false => rfl
      | true => exact absurd (hm.2 ((pay_iff D).1 hp)) hd
  generalize payD D = R at *
  obtain ⟨b1, o1, hb1, q1, x1⟩ := h.one 0 (by omega)
  subst hb1
  have n1 : ¬ (D.length : Int) < 1 := by omega
  have n2 : (0 : Int) < (D.length : Int) := by omega
  rw [Nat.add_zero] at x1
  have HST : Hid (0 ≤ iAt D 0 ↔ ∀ j, j < 1 → 0 ≤ iAt D j) := Lib.hid ⟨fun h1 j hj => by rw [show j = 0 by omega]; exact h1, fun h1 => h1 0 (by omega)⟩
  have HZM : Hid (∀ m i, (0 ≤ m ↔ ∀ j, j < i → 0 ≤ iAt D j) → (iAt D i < m → (0 ≤ iAt D i ↔ ∀ j, j < i + 1 → 0 ≤ iAt D j)) ∧ (¬ iAt D i < m → (0 ≤ m ↔ ∀ j, j < i + 1 → 0 ≤ iAt D j))) := Lib.hid fun m i h => by
    refine ⟨fun h1 => ⟨fun h2 j hj => ?_, fun h2 => h2 i (by omega)⟩, fun h1 => ⟨fun h2 j hj => ?_, fun h2 => h.2 fun j hj => h2 j (by omega)⟩⟩
    · by_cases e : j = i
      · subst e; exact h2
      · exact h.1 (by omega) j (by omega)
    · by_cases e : j = i
      · subst e; omega
      · exact h.1 h2 j (by omega)
  generalize iAt D 0 = z0 at *
  clear h
  go_enter Try.func82, Try.ntmps82
  go_wp2
  go_loopw [3, 4] (fun s x wr => ∃ i : Nat, ∃ m : Int, 1 ≤ i ∧ i ≤ D.length ∧ x = .int .i64 i ∧ s = .int .i64 m ∧ (0 ≤ m ↔ ∀ j, j < i → 0 ≤ iAt D j) ∧ Below w.heap.size w wr) (fun _ x _ => D.length - (intOf x).toNat)
  case atStart => exact ⟨1, z0, by omega, by omega, rfl, rfl, HST.out, Below.refl _ _⟩
  case round =>
    obtain ⟨i, m, hi1, hi, rfl, rfl, hz, hb⟩ := hrel
    have HZ := Lib.hid hz
    have HB := Lib.hid hb
    by_cases hlt : i < D.length
    · have i1 : (i : Int) < (D.length : Int) := by omega
      have i2 : (0 : Int) ≤ (i : Int) := by omega
      obtain ⟨b2, o2, hb2, q2, x2⟩ := (HE.out.keep hb).one i hlt
      injection hb2 with hb2
      injection hb2 with e1 e2
      subst e1 e2
      have HM := Lib.hid (HZM.out m i hz)
      generalize iAt D i = z at *
      clear hz hb x1
      rcases Int.lt_trichotomy z m with h1 | h1 | h1
      · have h2 : ¬ m < z := by omega
        have HN := Lib.hid (HM.out.1 h1)
        go_wp2
        go_roundw
        case rel => exact ⟨i + 1, z, by omega, by omega, by go_num, rfl, HN.out, HB.out⟩
        case measure => simp [intOf]; omega
      · subst h1
        have h2 : ¬ z < z := by omega
        have HN := Lib.hid (HM.out.2 (by omega))
        go_wp2
        go_roundw
        case rel => exact ⟨i + 1, z, by omega, by omega, by go_num, rfl, HN.out, HB.out⟩
        case measure => simp [intOf]; omega
      · have h2 : ¬ z < m := by omega
        have HN := Lib.hid (HM.out.2 (by omega))
        go_wp2
        go_roundw
        case rel => exact ⟨i + 1, m, by omega, by omega, by go_num, rfl, HN.out, HB.out⟩
        case measure => simp [intOf]; omega
    · obtain rfl : i = D.length := by omega
      have i1 : ¬ (D.length : Int) < (D.length : Int) := by omega
      have HR := Lib.hid (HP.out m hz)
      clear hz hb x1
      go_wp2
      go_ret
      exact ⟨⟨m, rfl, HR.out⟩, HB.out⟩
set_option maxHeartbeats 12800000 in
set_option maxRecDepth 100000 in
theorem pisEff_any (a : Option Addr) (c : Nat) (D : List Int) (hD : D.length ≤ 1000) (h0 : 1 ≤ D.length) (w : World) (h : IsAt w a D) :
    Calls Try.prog 69 #[.slice a D.length c] w (fun e w' => e = .returned (.bool (payD D)) ∧ Below w.heap.size w w') := by
  have HM := Lib.hid (pmin_any a c D hD h0 w h)
  generalize payD D = R at *
  clear h
  go_enter Try.func69, Try.ntmps69
  go_wp2_with fail
  refine HM.out.mono ?_
  rintro e w1 ⟨⟨m, rfl, hm⟩, hb⟩
  have HR := Lib.hid hm
  have HB := Lib.hid hb
  clear hm hb
  go_wp2
  go_ret
  exact ⟨by rw [HR.out]; rfl, HB.out⟩
set_option maxHeartbeats 12800000 in
set_option maxRecDepth 100000 in
theorem pDegree_any (a : Option Addr) (c : Nat) (D : List Int) (hD : D.length ≤ 1000) (w : World) (h : IsAt w a D) :
    Calls Try.prog 29 #[.slice a D.length c] w (fun e w' => e = .returned (.tuple #[.int .i64 (degV D), .int .i64 (ownD D : Nat)]) ∧ Below w.heap.size w w') := by
  have HC := Lib.hid (check1_any a c D hD w h)
  have H1 := Lib.hid h
  have HF : Hid (ownD D = 0 → ∀ u, IsAt u a D → Calls Try.prog 67 #[.slice a D.length c] u (fun e u' => e = .returned (.int .i64 (sumD D)) ∧ Below u.heap.size u u')) := Lib.hid fun hz u hu => pdegree_any a c D hD (own_div hz).rng u hu
  have HV : Hid (ownD D = 0 → degV D = sumD D) := Lib.hid fun hz => by unfold degV; rw [if_pos hz]
  have HV2 : Hid (ownD D ≠ 0 → degV D = 0) := Lib.hid fun hz => by unfold degV; rw [if_neg hz]
  generalize degV D = R at *
  generalize sumD D = S at *
  generalize ownD D = k at *
  clear h
  go_enter Try.func29, Try.ntmps29
  go_wp2_with fail
  refine HC.out.mono ?_
  rintro e w1 ⟨rfl, hb⟩
  have HB1 := Lib.hid hb
  clear hb
  by_cases hk : k = 0
  · have HF1 := Lib.hid (HF.out hk)
    have HR := Lib.hid (HV.out hk)
    subst hk
    go_wp2_with fail
    refine (HF1.out w1 (H1.out.keep HB1.out)).mono ?_
    rintro e w2 ⟨rfl, hb⟩
    have HB2 := Lib.hid (HB1.out.trans (hb.mono HB1.out.size))
    clear hb
    go_wp2
    go_ret2
    exact ⟨by rw [HR.out]; rfl, HB2.out⟩
  · have q0 : (((k : Nat) : Int) != 0) = true := by rw [bne_iff_ne]; omega
    have HR := Lib.hid (HV2.out hk)
    clear hk
    go_wp2
    go_ret2
    exact ⟨by rw [HR.out]; rfl, HB1.out⟩
set_option maxHeartbeats 12800000 in
set_option maxRecDepth 100000 in
theorem rDegree_any (a : Option Addr) (c : Nat) (D : List Int) (hD : D.length ≤ 1000) (w : World) (h : IsAt w a D) :
    Calls Try.prog 30 #[.slice a D.length c] w (fun e w' => e = .returned (.tuple #[.int .i64 (degV D), .int .i64 (ownD D : Nat)]) ∧ Below w.heap.size w w') := by
  have HC := Lib.hid (rOwn_any a c D hD w h)
  have H1 := Lib.hid h
  have HF : Hid (ownD D = 0 → ∀ u, IsAt u a D → Calls Try.prog 68 #[.slice a D.length c] u (fun e u' => e = .returned (.int .i64 (sumD D)) ∧ Below u.heap.size u u')) := Lib.hid fun hz u hu => rTotal_any a c D hD (own_div hz).rng u hu
  have HV : Hid (ownD D = 0 → degV D = sumD D) := Lib.hid fun hz => by unfold degV; rw [if_pos hz]
  have HV2 : Hid (ownD D ≠ 0 → degV D = 0) := Lib.hid fun hz => by unfold degV; rw [if_neg hz]
  generalize degV D = R at *
  generalize sumD D = S at *
  generalize ownD D = k at *
  clear h
  go_enter Try.func30, Try.ntmps30
  go_wp2_with fail
  refine HC.out.mono ?_
  rintro e w1 ⟨rfl, hb⟩
  have HB1 := Lib.hid hb
  clear hb
  by_cases hk : k = 0
  · have HF1 := Lib.hid (HF.out hk)
    have HR := Lib.hid (HV.out hk)
    subst hk
    go_wp2_with fail
    refine (HF1.out w1 (H1.out.keep HB1.out)).mono ?_
    rintro e w2 ⟨rfl, hb⟩
    have HB2 := Lib.hid (HB1.out.trans (hb.mono HB1.out.size))
    clear hb
    go_wp2
    go_ret2
    exact ⟨by rw [HR.out]; rfl, HB2.out⟩
  · have q0 : (((k : Nat) : Int) != 0) = true := by rw [bne_iff_ne]; omega
    have HR := Lib.hid (HV2.out hk)
    clear hk
    go_wp2
    go_ret2
    exact ⟨by rw [HR.out]; rfl, HB1.out⟩
set_option maxHeartbeats 12800000 in
set_option maxRecDepth 100000 in
theorem pEffective_any (a : Option Addr) (c : Nat) (D : List Int) (hD : D.length ≤ 1000) (w : World) (h : IsAt w a D) :
    Calls Try.prog 31 #[.slice a D.length c] w (fun e w' => e = .returned (.tuple #[.bool (effV D), .int .i64 (ownD D : Nat)]) ∧ Below w.heap.size w w') := by
  have HC := Lib.hid (check1_any a c D hD w h)
  have H1 := Lib.hid h
  have HF : Hid (ownD D = 0 → ∀ u, IsAt u a D → Calls Try.prog 69 #[.slice a D.length c] u (fun e u' => e = .returned (.bool (payD D)) ∧ Below u.heap.size u u')) := Lib.hid fun hz u hu => pisEff_any a c D hD (own_div hz).one u hu
  have HV : Hid (ownD D = 0 → effV D = payD D) := Lib.hid fun hz => by unfold effV; rw [if_pos hz]
  have HV2 : Hid (ownD D ≠ 0 → effV D = false) := Lib.hid fun hz => by unfold effV; rw [if_neg hz]
  generalize effV D = R at *
  generalize payD D = S at *
  generalize ownD D = k at *
  clear h
  go_enter Try.func31, Try.ntmps31
  go_wp2_with fail
  refine HC.out.mono ?_
  rintro e w1 ⟨rfl, hb⟩
  have HB1 := Lib.hid hb
  clear hb
  by_cases hk : k = 0
  · have HF1 := Lib.hid (HF.out hk)
    have HR := Lib.hid (HV.out hk)
    subst hk
    go_wp2_with fail
    refine (HF1.out w1 (H1.out.keep HB1.out)).mono ?_
    rintro e w2 ⟨rfl, hb⟩
    have HB2 := Lib.hid (HB1.out.trans (hb.mono HB1.out.size))
    clear hb
    go_wp2
    go_ret2
    exact ⟨by rw [HR.out]; rfl, HB2.out⟩
  · have q0 : (((k : Nat) : Int) != 0) = true := by rw [bne_iff_ne]; omega
    have HR := Lib.hid (HV2.out hk)
    clear hk
    go_wp2
    go_ret2
    exact ⟨by rw [HR.out]; rfl, HB1.out⟩
set_option maxHeartbeats 12800000 in
set_option maxRecDepth 100000 in
theorem rEffective_any (a : Option Addr) (c : Nat) (D : List Int) (hD : D.length ≤ 1000) (w : World) (h : IsAt w a D) :
    Calls Try.prog 32 #[.slice a D.length c] w (fun e w' => e = .returned (.tuple #[.bool (effV D), .int .i64 (ownD D : Nat)]) ∧ Below w.heap.size w w') := by
  have HC := Lib.hid (rOwn_any a c D hD w h)
  have H1 := Lib.hid h
  have HF : Hid (ownD D = 0 → ∀ u, IsAt u a D → Calls Try.prog 70 #[.slice a D.length c] u (fun e u' => e = .returned (.bool (payD D)) ∧ Below u.heap.size u u')) := Lib.hid fun hz u hu => rPaid_any a c D hD u hu
  have HV : Hid (ownD D = 0 → effV D = payD D) := Lib.hid fun hz => by unfold effV; rw [if_pos hz]
  have HV2 : Hid (ownD D ≠ 0 → effV D = false) := Lib.hid fun hz => by unfold effV; rw [if_neg hz]
  generalize effV D = R at *
  generalize payD D = S at *
  generalize ownD D = k at *
  clear h
  go_enter Try.func32, Try.ntmps32
  go_wp2_with fail
  refine HC.out.mono ?_
  rintro e w1 ⟨rfl, hb⟩
  have HB1 := Lib.hid hb
  clear hb
  by_cases hk : k = 0
  · have HF1 := Lib.hid (HF.out hk)
    have HR := Lib.hid (HV.out hk)
    subst hk
    go_wp2_with fail
    refine (HF1.out w1 (H1.out.keep HB1.out)).mono ?_
    rintro e w2 ⟨rfl, hb⟩
    have HB2 := Lib.hid (HB1.out.trans (hb.mono HB1.out.size))
    clear hb
    go_wp2
    go_ret2
    exact ⟨by rw [HR.out]; rfl, HB2.out⟩
  · have q0 : (((k : Nat) : Int) != 0) = true := by rw [bne_iff_ne]; omega
    have HR := Lib.hid (HV2.out hk)
    clear hk
    go_wp2
    go_ret2
    exact ⟨by rw [HR.out]; rfl, HB1.out⟩
set_option maxHeartbeats 12800000 in
set_option maxRecDepth 100000 in
theorem pSupport_any (a : Option Addr) (c : Nat) (D : List Int) (hD : D.length ≤ 1000) (w : World) (h : IsAt w a D) :
    Calls Try.prog 33 #[.slice a D.length c] w (GivesIE w (supV D) (ownD D)) := by
  obtain ⟨i0, hi0, hz0, hz1, hz2⟩ := info_parts infoI
  have HC := Lib.hid (check1_any a c D hD w h)
  have H1 := Lib.hid h
  have HS0 : Hid (supT D 0 = []) := Lib.hid rfl
  have HSS : Hid (∀ k, supT D (k + 1) = supT D k ++ (if iAt D k = 0 then [] else [(k : Int)])) := Lib.hid fun _ => rfl
  have HSL := Lib.hid (fun k => supT_len D k)
  have HV : Hid (ownD D = 0 → supV D = supT D D.length) := Lib.hid fun hz => by unfold supV; rw [if_pos hz]
  have HV2 : Hid (ownD D ≠ 0 → supV D = []) := Lib.hid fun hz => by unfold supV; rw [if_neg hz]
  unfold GivesIE
  generalize supV D = R at *
  generalize supT D = Q at *
  generalize ownD D = k at *
  clear h
  go_enter Try.func33, Try.ntmps33
  go_wp2_with fail
  refine HC.out.mono ?_
  rintro e w1 ⟨rfl, hb⟩
  have HB1 := Lib.hid hb
  clear hb
  by_cases hk : k = 0
  · have HR := Lib.hid (HV.out hk)
    subst hk
    go_wp2
    go_loopw [5, 16] (fun s x wr => ∃ i : Nat, i ≤ D.length ∧ x = .int .i64 i ∧ wr.ownsRow w1.heap.size 3 1 s (Q i).length (flat encI (Q i)) ∧ Below w1.heap.size w1 wr) (fun _ x _ => D.length - (intOf x).toNat)
    case atStart => exact ⟨0, by omega, rfl, by rw [HS0.out]; exact World.ownsRow_nil _ _ _ _, Below.refl _ _⟩
    case round =>
      obtain ⟨i, hi, rfl, hown, hb⟩ := hrel
      have HOW := Lib.hid hown
      have HBR := Lib.hid hb
      have HBS := Lib.hid hb.size
      by_cases hlt : i < D.length
      · have i1 : (i : Int) < (D.length : Int) := by omega
        have i2 : (0 : Int) ≤ (i : Int) := by omega
        have hll := HSL.out i
        have hs := HSS.out i
        obtain ⟨b1, o1, hb1, q1, x1⟩ := ((H1.out.keep HB1.out).keep hb).one i hlt
        subst hb1
        generalize Q i = PP at *
        generalize iAt D i = z at *
        by_cases hz : z = 0
        · have d1 : (z != 0) = false := by rw [bne_eq_false_iff_eq]; exact hz
          rw [if_pos hz, List.append_nil] at hs
          have HSn := Lib.hid hs
          clear hs hz hown hb
          go_wp2
          go_roundw
          case rel => exact ⟨i + 1, by omega, by go_num, by rw [HSn.out]; exact HOW.out, HBR.out⟩
          case measure => simp [intOf]; omega
        · have d1 : (z != 0) = true := by rw [bne_iff_ne]; exact hz
          rw [if_neg hz] at hs
          have HSn := Lib.hid hs
          clear hs hz hown hb
          go_wp2_with (at_builtin; refine wpList_append_own _ rfl _ _ 22 rfl w1.heap.size 3 i0 (.int .i64 0) 1 8 Try.underlying22 hi0 hz0 hz1 hz2 rfl (by decide) _ _ _ rfl (HOW.out.alloc _) ⟨wr.heap.size, 0, none⟩ 1 1 [.int .i64 (i : Int)] rfl rfl (lit_row _ _ _) (by simp [Value.oneCell']) (by unfold maxLen; omega) (by omega) (by rw [World.size_alloc]; have := HBS.out; omega) ?_; intro v1 w3 hown1 hgrow1 hnil; clear hnil; have HO3 : Hid (w3.ownsRow w1.heap.size 3 1 v1 (PP ++ [(i : Int)]).length (flat encI (PP ++ [(i : Int)]))) := Lib.hid (by rw [List.length_append, flatI_snoc]; exact hown1); have HB3 : Hid (Below w1.heap.size w1 w3) := Lib.hid (below_push (w := w1) HBR.out (fun k hk => (HOW.out.lt k hk).1) hgrow1); clear hown1 hgrow1)
          go_roundw
          case rel => exact ⟨i + 1, by omega, by go_num, by rw [HSn.out]; exact HO3.out, HB3.out⟩
          case measure => simp [intOf]; omega
      · obtain rfl : i = D.length := by omega
        have i1 : ¬ (D.length : Int) < (D.length : Int) := by omega
        have HOA := Lib.hid (RowAt.of_own encI_len hown)
        have HEND := Lib.hid (HB1.out.trans (hb.mono HB1.out.size))
        clear hown hb
        obtain ⟨a9, c9, hv, hra⟩ := HOA.out
        subst hv
        have HRA := Lib.hid hra
        clear hra
        go_wp2
        go_ret2
        first | exact ⟨a9, ⟨c9, by rw [HR.out]; rfl⟩, by rw [HR.out]; exact HRA.out, HEND.out⟩ | exact ⟨a9, c9, by rw [HR.out]; rfl, by rw [HR.out]; exact HRA.out, HEND.out⟩
  · have q0 : (((k : Nat) : Int) != 0) = true := by rw [bne_iff_ne]; omega
    have HR := Lib.hid (HV2.out hk)
    clear hk
    go_wp2
    go_ret2
    exact ⟨none, 0, by rw [HR.out]; rfl, by rw [HR.out]; exact RowAt.nil _ _ _ _, HB1.out⟩
set_option maxHeartbeats 12800000 in
set_option maxRecDepth 100000 in
theorem rSupport_any (a : Option Addr) (c : Nat) (D : List Int) (hD : D.length ≤ 1000) (w : World) (h : IsAt w a D) :
    Calls Try.prog 34 #[.slice a D.length c] w (GivesIE w (supV D) (ownD D)) := by
  obtain ⟨i0, hi0, hz0, hz1, hz2⟩ := info_parts infoI
  have HC := Lib.hid (rOwn_any a c D hD w h)
  have H1 := Lib.hid h
  have HS0 : Hid (supT D 0 = []) := Lib.hid rfl
  have HSS : Hid (∀ k, supT D (k + 1) = supT D k ++ (if iAt D k = 0 then [] else [(k : Int)])) := Lib.hid fun _ => rfl
  have HSL := Lib.hid (fun k => supT_len D k)
  have HV : Hid (ownD D = 0 → supV D = supT D D.length) := Lib.hid fun hz => by unfold supV; rw [if_pos hz]
  have HV2 : Hid (ownD D ≠ 0 → supV D = []) := Lib.hid fun hz => by unfold supV; rw [if_neg hz]
  unfold GivesIE
  generalize supV D = R at *
  generalize supT D = Q at *
  generalize ownD D = k at *
  clear h
  go_enter Try.func34, Try.ntmps34
  go_wp2_with fail
  refine HC.out.mono ?_
  rintro e w1 ⟨rfl, hb⟩
  have HB1 := Lib.hid hb
  clear hb
  by_cases hk : k = 0
  · have HR := Lib.hid (HV.out hk)
    subst hk
    go_wp2
    go_loopw [5, 6] (fun s x wr => ∃ i : Nat, i ≤ D.length ∧ x = .int .i64 i ∧ wr.ownsRow w1.heap.size 3 1 s (Q i).length (flat encI (Q i)) ∧ Below w1.heap.size w1 wr) (fun _ x _ => D.length - (intOf x).toNat)
    case atStart => exact ⟨0, by omega, rfl, by rw [HS0.out]; exact World.ownsRow_nil _ _ _ _, Below.refl _ _⟩
    case round =>
      obtain ⟨i, hi, rfl, hown, hb⟩ := hrel
      have HOW := Lib.hid hown
      have HBR := Lib.hid hb
      have HBS := Lib.hid hb.size
      by_cases hlt : i < D.length
      · have i1 : (i : Int) < (D.length : Int) := by omega
        have i2 : (0 : Int) ≤ (i : Int) := by omega
        have hll := HSL.out i
        have hs := HSS.out i
        obtain ⟨b1, o1, hb1, q1, x1⟩ := ((H1.out.keep HB1.out).keep hb).one i hlt
        subst hb1
        generalize Q i = PP at *
        generalize iAt D i = z at *
        by_cases hz : z = 0
        · have d1 : (z != 0) = false := by rw [bne_eq_false_iff_eq]; exact hz
          rw [if_pos hz, List.append_nil] at hs
          have HSn := Lib.hid hs
          clear hs hz hown hb
          go_wp2
          go_roundw
          case rel => exact ⟨i + 1, by omega, by go_num, by rw [HSn.out]; exact HOW.out, HBR.out⟩
          case measure => simp [intOf]; omega
        · have d1 : (z != 0) = true := by rw [bne_iff_ne]; exact hz
          rw [if_neg hz] at hs
          have HSn := Lib.hid hs
          clear hs hz hown hb
          go_wp2_with (at_builtin; refine wpList_append_own _ rfl _ _ 22 rfl w1.heap.size 3 i0 (.int .i64 0) 1 8 Try.underlying22 hi0 hz0 hz1 hz2 rfl (by decide) _ _ _ rfl (HOW.out.alloc _) ⟨wr.heap.size, 0, none⟩ 1 1 [.int .i64 (i : Int)] rfl rfl (lit_row _ _ _) (by simp [Value.oneCell']) (by unfold maxLen; omega) (by omega) (by rw [World.size_alloc]; have := HBS.out; omega) ?_; intro v1 w3 hown1 hgrow1 hnil; clear hnil; have HO3 : Hid (w3.ownsRow w1.heap.size 3 1 v1 (PP ++ [(i : Int)]).length (flat encI (PP ++ [(i : Int)]))) := Lib.hid (by rw [List.length_append, flatI_snoc]; exact hown1); have HB3 : Hid (Below w1.heap.size w1 w3) := Lib.hid (below_push (w := w1) HBR.out (fun k hk => (HOW.out.lt k hk).1) hgrow1); clear hown1 hgrow1)
          go_roundw
          case rel => exact ⟨i + 1, by omega, by go_num, by rw [HSn.out]; exact HO3.out, HB3.out⟩
          case measure => simp [intOf]; omega
      · obtain rfl : i = D.length := by omega
        have i1 : ¬ (D.length : Int) < (D.length : Int) := by omega
        have HOA := Lib.hid (RowAt.of_own encI_len hown)
        have HEND := Lib.hid (HB1.out.trans (hb.mono HB1.out.size))
        clear hown hb
        obtain ⟨a9, c9, hv, hra⟩ := HOA.out
        subst hv
        have HRA := Lib.hid hra
        clear hra
        go_wp2
        go_ret2
        first | exact ⟨a9, ⟨c9, by rw [HR.out]; rfl⟩, by rw [HR.out]; exact HRA.out, HEND.out⟩ | exact ⟨a9, c9, by rw [HR.out]; rfl, by rw [HR.out]; exact HRA.out, HEND.out⟩
  · have q0 : (((k : Nat) : Int) != 0) = true := by rw [bne_iff_ne]; omega
    have HR := Lib.hid (HV2.out hk)
    clear hk
    go_wp2
    go_ret2
    exact ⟨none, 0, by rw [HR.out]; rfl, by rw [HR.out]; exact RowAt.nil _ _ _ _, HB1.out⟩
end Go.Proofs.Ytalbdggpghkcfaa
