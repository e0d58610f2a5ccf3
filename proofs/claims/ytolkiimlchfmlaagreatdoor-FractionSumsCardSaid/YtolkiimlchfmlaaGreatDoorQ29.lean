/- Walks of the reference: Down, Rest, Common, Divide. -/
import Derived.Test.YtolkiimlchfmlaaGreatDoorQ24
import Derived.Test.YtolkiimlchfmlaaGreatDoorQ26
namespace Go.Proofs.YtolkiimlchfmlaaGreatDoor
open Go.RowKit Go.Proofs.Num

/-- How the digits' quotient makes the one that is rounded down. -/
theorem down_ways (a b : Int) (hb : b ≠ 0) : ∃ Z : Int, (if (decide (a < 0) != decide (b < 0)) = true then -((a.natAbs / b.natAbs : Nat) : Int) else ((a.natAbs / b.natAbs : Nat) : Int)) = Z ∧ Z.natAbs ≤ a.natAbs ∧
    ((a.natAbs % b.natAbs = 0 ∧ qz a b = Z) ∨ (a.natAbs % b.natAbs ≠ 0 ∧ (decide (a < 0) != decide (b < 0)) = false ∧ qz a b = Z) ∨ (a.natAbs % b.natAbs ≠ 0 ∧ (decide (a < 0) != decide (b < 0)) = true ∧ qz a b = Z - 1)) := by
  refine ⟨_, rfl, ?_, ?_⟩
  · have := Nat.div_le_self a.natAbs b.natAbs
    generalize a.natAbs / b.natAbs = q at *
    split <;> omega
  · by_cases hr : a.natAbs % b.natAbs = 0
    · refine .inl ⟨hr, ?_⟩
      rw [(qz_same hb (.inr hr)).1]
      by_cases h1 : a < 0 <;> by_cases h2 : b < 0 <;> simp [h1, h2]
    · by_cases hs : (a < 0 ↔ b < 0)
      · refine .inr (.inl ⟨hr, ?_, ?_⟩)
        · simp [hs]
        · rw [(qz_same hb (.inl hs)).1]
          simp [hs]
      · refine .inr (.inr ⟨hr, ?_, ?_⟩)
        · by_cases h1 : a < 0 <;> by_cases h2 : b < 0 <;> simp_all
        · rw [(qz_diff hb hs hr).1]
          have : (decide (a < 0) != decide (b < 0)) = true := by by_cases h1 : a < 0 <;> by_cases h2 : b < 0 <;> simp_all
          rw [if_pos this]

theorem few_one {d : Nat} (h1 : 1 ≤ d) : Few d 1 := Nat.lt_of_lt_of_le (show (1 : Int).natAbs < 10 ^ 1 by decide) (Nat.pow_le_pow_right (by omega) h1)

theorem dig10_pos {R : Nat} (h : R ≠ 0) : 0 < (dig 10 R).length := by
  rcases Nat.eq_zero_or_pos (dig 10 R).length with h0 | h0
  · exact absurd ((dig_eq_nil (b := 10) (by omega) R).1 (List.length_eq_zero_iff.1 h0)) h
  · exact h0

set_option maxHeartbeats 3200000 in
set_option maxRecDepth 100000 in
theorem rdown_any {d : Nat} (a b : Int) (ha : Few d a) (hb : Few d b) (hb0 : b ≠ 0) (h1 : 1 ≤ d) (hd : d ≤ 50000) (w : World) : Calls Tryz.prog 51 #[.string (T a), .string (T b)] w (OutR w (T (qz a b))) := by
  have HD1 := Lib.hid (digits_T ha h1 (by omega))
  have HD2 := Lib.hid (digits_T hb h1 (by omega))
  have HL1 := Lib.hid (few_len ha)
  have HL2 := Lib.hid (few_len hb)
  have HM1 := Lib.hid (minus_any a)
  have HM2 := Lib.hid (minus_any b)
  obtain ⟨Z, hZ, hZa, hway⟩ := down_ways a b hb0
  have HZ := Lib.hid hZ
  have hlen : (dig 10 (a.natAbs / b.natAbs)).length ≤ d := by
    refine Nat.le_trans (dig_length_mono (by omega) (Nat.div_le_self _ _)) (few_len ha)
  have HLL := Lib.hid hlen
  have HLS : Hid (∀ w, Calls Tryz.prog 74 #[.string (T Z), .string ⟨#[49]⟩] w (OutR w (T (Z - 1)))) := by
    intro w
    have := rless_any Z 1 (ha.of_le hZa) (few_one h1) h1 (by omega) w
    rwa [T_one] at this
  have hn0 : 0 < b.natAbs := by omega
  have HN0 := Lib.hid hn0
  clear hlen hZ hZa hb0 hn0
  generalize qz a b = qq at *
  generalize T a = X at *
  generalize T b = Y at *
  generalize decide (a < 0) = p at *
  generalize decide (b < 0) = q at *
  generalize a.natAbs = m at *
  generalize b.natAbs = n at *
  clear ha hb
  rcases hway with ⟨hr, rfl⟩ | ⟨hr, hs, rfl⟩ | ⟨hr, hs, rfl⟩
  · have HR := Lib.hid hr
    clear hr
    go_enter Tryz.func51, Tryz.ntmps51
    go_wp2_with fail
    refine (HD1.out _).mono ?_
    rintro e1 w1 ⟨v1, rfl, hv1, hb1⟩
    obtain ⟨a1, k1, c1, rfl⟩ := hv1.shape
    go_wp2_with fail
    refine (HD2.out _).mono ?_
    rintro e2 w2 ⟨v2, rfl, hv2, hb2⟩
    obtain ⟨a2, k2, c2, rfl⟩ := hv2.shape
    have hv1' := hv1.keep hb2
    have hB2 : Below w.heap.size w w2 := hb1.trans (hb2.mono hb1.size)
    have HV1 := Lib.hid hv1'
    have HV2 := Lib.hid hv2
    clear hv1 hv1' hv2 hb1 hb2
    go_wp2_with fail
    refine (rdivided_any _ _ _ _ _ HV1.out HV2.out HN0.out (by have := HL1.out; omega) (by have := HL2.out; omega)).mono ?_
    rintro e3 w3 ⟨v3, v4, rfl, hv3, hv4, hb3⟩
    obtain ⟨a3, k3, c3, rfl⟩ := hv3.shape
    rw [HR.out] at hv4
    unfold Dg at hv4
    rw [dig_zero] at hv4
    obtain ⟨a4, c4, rfl⟩ := Rd.shape hv4
    have HV3 := Lib.hid hv3
    have hB3 : Below w.heap.size w w3 := hB2.trans (hb3.mono hB2.size)
    clear hv3 hb3 hB2 hv4
    go_wp2_with fail
    refine (HM1.out _).mono ?_
    rintro e w1' ⟨rfl, rfl⟩
    go_wp2_with fail
    refine (HM2.out _).mono ?_
    rintro e w1' ⟨rfl, rfl⟩
    go_wp2_with fail
    refine (text_R _ _ (p != q) _ _ HV3.out (by have := HLL.out; omega) HZ.out).mono ?_
    rintro e4 w4 ⟨rfl, hb4⟩
    go_wp2
    go_ret
    exact ⟨rfl, hB3.trans (hb4.mono hB3.size)⟩
  · cases p <;> cases q <;> first | (exact absurd hs (by decide)) | skip
    all_goals
      have hkp := dig10_pos hr
      clear hs
      generalize hR : m % n = R at *
      obtain ⟨kk, hkk⟩ : ∃ kk, kk = (dig 10 R).length := ⟨_, rfl⟩
      rw [← hkk] at hkp
      have HKK := Lib.hid hkk
      have HR := Lib.hid hR
      clear hr hkk hR
      go_enter Tryz.func51, Tryz.ntmps51
      go_wp2_with fail
      refine (HD1.out _).mono ?_
      rintro e1 w1 ⟨v1, rfl, hv1, hb1⟩
      obtain ⟨a1, k1, c1, rfl⟩ := hv1.shape
      go_wp2_with fail
      refine (HD2.out _).mono ?_
      rintro e2 w2 ⟨v2, rfl, hv2, hb2⟩
      obtain ⟨a2, k2, c2, rfl⟩ := hv2.shape
      have hv1' := hv1.keep hb2
      have hB2 : Below w.heap.size w w2 := hb1.trans (hb2.mono hb1.size)
      have HV1 := Lib.hid hv1'
      have HV2 := Lib.hid hv2
      clear hv1 hv1' hv2 hb1 hb2
      go_wp2_with fail
      refine (rdivided_any _ _ _ _ _ HV1.out HV2.out HN0.out (by have := HL1.out; omega) (by have := HL2.out; omega)).mono ?_
      rintro e3 w3 ⟨v3, v4, rfl, hv3, hv4, hb3⟩
      obtain ⟨a3, k3, c3, rfl⟩ := hv3.shape
      rw [HR.out] at hv4
      obtain ⟨a4, c4, rfl⟩ := Rd.shape hv4
      rw [← HKK.out]
      have HV3 := Lib.hid hv3
      have hB3 : Below w.heap.size w w3 := hB2.trans (hb3.mono hB2.size)
      clear hv3 hb3 hB2 hv4
      go_wp2_with fail
      refine (HM1.out _).mono ?_
      rintro e w1' ⟨rfl, rfl⟩
      go_wp2_with fail
      refine (HM2.out _).mono ?_
      rintro e w1' ⟨rfl, rfl⟩
      go_wp2_with fail
      refine (text_R _ _ _ _ _ HV3.out (by have := HLL.out; omega) HZ.out).mono ?_
      rintro e4 w4 ⟨rfl, hb4⟩
      have hB4 : Below w.heap.size w w4 := hB3.trans (hb4.mono hB3.size)
      clear hb4 hB3
      go_wp2_with fail
      refine (HM1.out _).mono ?_
      rintro e w1' ⟨rfl, rfl⟩
      go_wp2_with fail
      refine (HM2.out _).mono ?_
      rintro e w1' ⟨rfl, rfl⟩
      go_wp2
      go_ret
      exact ⟨rfl, hB4⟩
  · cases p <;> cases q <;> first | (exact absurd hs (by decide)) | skip
    all_goals
      have hkp := dig10_pos hr
      clear hs
      generalize hR : m % n = R at *
      obtain ⟨kk, hkk⟩ : ∃ kk, kk = (dig 10 R).length := ⟨_, rfl⟩
      rw [← hkk] at hkp
      have HKK := Lib.hid hkk
      have HR := Lib.hid hR
      clear hr hkk hR
      go_enter Tryz.func51, Tryz.ntmps51
      go_wp2_with fail
      refine (HD1.out _).mono ?_
      rintro e1 w1 ⟨v1, rfl, hv1, hb1⟩
      obtain ⟨a1, k1, c1, rfl⟩ := hv1.shape
      go_wp2_with fail
      refine (HD2.out _).mono ?_
      rintro e2 w2 ⟨v2, rfl, hv2, hb2⟩
      obtain ⟨a2, k2, c2, rfl⟩ := hv2.shape
      have hv1' := hv1.keep hb2
      have hB2 : Below w.heap.size w w2 := hb1.trans (hb2.mono hb1.size)
      have HV1 := Lib.hid hv1'
      have HV2 := Lib.hid hv2
      clear hv1 hv1' hv2 hb1 hb2
      go_wp2_with fail
      refine (rdivided_any _ _ _ _ _ HV1.out HV2.out HN0.out (by have := HL1.out; omega) (by have := HL2.out; omega)).mono ?_
      rintro e3 w3 ⟨v3, v4, rfl, hv3, hv4, hb3⟩
      obtain ⟨a3, k3, c3, rfl⟩ := hv3.shape
      rw [HR.out] at hv4
      obtain ⟨a4, c4, rfl⟩ := Rd.shape hv4
      rw [← HKK.out]
      have HV3 := Lib.hid hv3
      have hB3 : Below w.heap.size w w3 := hB2.trans (hb3.mono hB2.size)
      clear hv3 hb3 hB2 hv4
      go_wp2_with fail
      refine (HM1.out _).mono ?_
      rintro e w1' ⟨rfl, rfl⟩
      go_wp2_with fail
      refine (HM2.out _).mono ?_
      rintro e w1' ⟨rfl, rfl⟩
      go_wp2_with fail
      refine (text_R _ _ _ _ _ HV3.out (by have := HLL.out; omega) HZ.out).mono ?_
      rintro e4 w4 ⟨rfl, hb4⟩
      have hB4 : Below w.heap.size w w4 := hB3.trans (hb4.mono hB3.size)
      clear hb4 hB3
      go_wp2_with fail
      refine (HM1.out _).mono ?_
      rintro e w1' ⟨rfl, rfl⟩
      go_wp2_with fail
      refine (HM2.out _).mono ?_
      rintro e w1' ⟨rfl, rfl⟩
      go_wp2_with fail
      refine (HLS.out _).mono ?_
      rintro e5 w5 ⟨rfl, hb5⟩
      go_wp2
      go_ret
      exact ⟨rfl, hB4.trans (hb5.mono hB4.size)⟩

theorem few_qz {d : Nat} {a b : Int} (ha : Few d a) (hb0 : b ≠ 0) : Few d (qz a b) := ha.of_le (qz_le a b hb0)
theorem few_rz {d : Nat} {a b : Int} (hb : Few d b) (hb0 : b ≠ 0) : Few d (rz a b) := hb.of_le (Nat.le_of_lt (rz_le a b hb0))

set_option maxRecDepth 100000 in
theorem rrest_any {d : Nat} (a b : Int) (ha : Few d a) (hb : Few d b) (hb0 : b ≠ 0) (h1 : 1 ≤ d) (hd : d ≤ 40000) (w : World) : Calls Tryz.prog 103 #[.string (T a), .string (T b)] w (OutR w (T (rz a b))) := by
  have H1 := Lib.hid (fun w => rdown_any a b ha hb hb0 h1 (by omega) w)
  have H2 := Lib.hid (fun w => rtimes_any b (qz a b) hb (few_qz ha hb0) h1 (by omega) h1 (by omega) w)
  have H3 : Hid (∀ w, Calls Tryz.prog 74 #[.string (T a), .string (T (b * qz a b))] w (OutR w (T (rz a b)))) := fun w =>
    rless_any (d := d + d) a (b * qz a b) (ha.le (by omega)) (hb.mul (few_qz ha hb0)) (by omega) (by omega) w
  generalize T (rz a b) = R at *
  generalize T (b * qz a b) = U at *
  generalize T (qz a b) = Q at *
  generalize T a = X at *
  generalize T b = Y at *
  clear ha hb hb0
  go_enter Tryz.func103, Tryz.ntmps103
  go_wp2_with fail
  refine (H1.out _).mono ?_
  rintro e1 w1 ⟨rfl, hb1⟩
  go_wp2_with fail
  refine (H2.out _).mono ?_
  rintro e2 w2 ⟨rfl, hb2⟩
  have hB2 : Below w.heap.size w w2 := hb1.trans (hb2.mono hb1.size)
  go_wp2_with fail
  refine (H3.out _).mono ?_
  rintro e3 w3 ⟨rfl, hb3⟩
  go_wp2
  go_ret
  exact ⟨rfl, hB2.trans (hb3.mono hB2.size)⟩

theorem rz_nat (x y : Nat) (hy : y ≠ 0) : rz (x : Int) (y : Int) = ((x % y : Nat) : Int) := by
  have h := (qz_same (x := (x : Int)) (y := (y : Int)) (by omega) (.inl (by constructor <;> intro h <;> omega))).2
  rw [if_neg (by omega), Int.natAbs_natCast, Int.natAbs_natCast] at h
  exact h

theorem few_nat {d n : Nat} (h : n < 10 ^ d) : Few d (n : Int) := by unfold Few; rwa [Int.natAbs_natCast]

set_option maxHeartbeats 1600000 in
set_option maxRecDepth 100000 in
theorem rcommon_any {d : Nat} (a b : Int) (ha : Few d a) (hb : Few d b) (h1 : 1 ≤ d) (hd : d ≤ 40000) (w : World) : Calls Tryz.prog 57 #[.string (T a), .string (T b)] w (OutR w (T ((Nat.gcd a.natAbs b.natAbs : Nat) : Int))) := by
  have H1 := Lib.hid (fun w => positive_any a ha h1 (by omega) w)
  have H2 := Lib.hid (fun w => positive_any b hb h1 (by omega) w)
  have HR := Lib.hid (fun (x y : Nat) (w : World) (hx : x < 10 ^ d) (hy : y < 10 ^ d) (h0 : y ≠ 0) => rrest_any (x : Int) (y : Int) (few_nat hx) (few_nat hy) (by omega) h1 hd w)
  have HF : Hid (a.natAbs < 10 ^ d ∧ b.natAbs < 10 ^ d) := ⟨ha, hb⟩
  obtain ⟨g, hg⟩ : ∃ g, g = Nat.gcd a.natAbs b.natAbs := ⟨_, rfl⟩
  rw [← hg]
  have HG := Lib.hid hg
  generalize T a = X at *
  generalize T b = Y at *
  generalize a.natAbs = m at *
  generalize b.natAbs = n at *
  clear ha hb hg hd h1
  go_enter Tryz.func57, Tryz.ntmps57
  go_wp2_with fail
  refine (H1.out _).mono ?_
  rintro e1 w1 ⟨rfl, hb1⟩
  go_wp2_with fail
  refine (H2.out _).mono ?_
  rintro e2 w2 ⟨rfl, hb2⟩
  have hB2 : Below w.heap.size w w2 := hb1.trans (hb2.mono hb1.size)
  clear hb1 hb2
  go_wp2
  go_loopg [0, 1] n (fun gk s0 s1 wr => ∃ x y : Nat, y ≤ gk ∧ s0 = .string (T (x : Int)) ∧ s1 = .string (T (y : Int)) ∧ Nat.gcd x y = g ∧ x < 10 ^ d ∧ y < 10 ^ d ∧ Below w.heap.size w wr)
  case atStart => exact ⟨m, n, Nat.le_refl _, rfl, rfl, HG.out.symm, HF.out.1, HF.out.2, hB2⟩
  case round =>
    obtain ⟨x, y, hyk, rfl, rfl, hgc, hx, hy, hB⟩ := hrel
    have heq := T_zero (y : Int)
    have HGC : Hid (Nat.gcd x y = g ∧ x < 10 ^ d ∧ y < 10 ^ d) := ⟨hgc, hx, hy⟩
    by_cases h0 : y = 0
    · rw [decide_eq_true (by omega)] at heq
      have hgx : x = g := by rw [← hgc, h0, Nat.gcd_zero_right]
      have HGX := Lib.hid hgx
      clear hgx hgc hx hy h0
      generalize T (y : Int) = YY at *
      go_wp2
      go_ret
      exact ⟨by rw [HGX.out]; rfl, hB⟩
    · rw [decide_eq_false (by omega)] at heq
      have C := Lib.hid (fun w => HR.out x y w hx hy h0)
      rw [rz_nat x y h0] at C
      have hlt := Nat.mod_lt x (Nat.pos_of_ne_zero h0)
      have HM : Hid (Nat.gcd y (x % y) = g ∧ y < 10 ^ d ∧ x % y < 10 ^ d) := ⟨by rw [← gcd_go]; exact hgc, hy, Nat.lt_trans hlt hy⟩
      clear hgc hx hy h0 HGC
      obtain ⟨z, hz⟩ : ∃ z, z = x % y := ⟨_, rfl⟩
      rw [← hz] at C HM hlt
      obtain ⟨YY, hYY⟩ : ∃ YY, YY = T (y : Int) := ⟨_, rfl⟩
      rw [← hYY] at C heq ⊢
      have HYY := Lib.hid hYY
      clear hz hYY
      go_wp2_with fail
      refine (C.out _).mono ?_
      rintro e3 w3 ⟨rfl, hb3⟩
      have hB3 : Below w.heap.size w w3 := hB.trans (hb3.mono hB.size)
      clear hb3
      go_wp2
      go_roundg z
      case measure => omega
      case rel => exact ⟨y, z, Nat.le_refl _, by rw [HYY.out], rfl, HM.out.1, HM.out.2.1, HM.out.2.2, hB3⟩
end Go.Proofs.YtolkiimlchfmlaaGreatDoor
