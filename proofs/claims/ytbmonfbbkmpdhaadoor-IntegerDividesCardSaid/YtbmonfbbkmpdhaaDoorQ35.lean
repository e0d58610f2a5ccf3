/- Walks of the reference: Down, Rest, Common, Divide. And: Walks of the reference: Bezout. And: Walks of the laws: quotients, remainders, divisors and coefficients are those of the reference. -/
import Derived.Test.YtbmonfbbkmpdhaaDoorQ31
import Derived.Test.YtbmonfbbkmpdhaaDoorQ34
import Derived.Test.YtbmonfbbkmpdhaaDoorQ33
import Derived.Test.YtbmonfbbkmpdhaaDoorQ28
import Derived.Test.YtbmonfbbkmpdhaaDoorQ27
import Derived.Test.YtbmonfbbkmpdhaaDoorQ29
namespace Go.Proofs.YtbmonfbbkmpdhaaDoor
open Go.RowKit Go.Proofs.Num

/-- How the digits' quotient makes the one that is rounded down. -/
theorem down_ways (a b : Int) (hb : b ≠ 0) : ∃ Z : Int, (if (decide (a < 0) != decide (b < 0)) = true then -((a.natAbs / b.natAbs : Nat) : Int) else ((a.natAbs / b.natAbs : Nat) : Int)) = Z ∧ Z.natAbs ≤ a.natAbs ∧
    ((a.natAbs % b.natAbs = 0 ∧ qz a b = Z) ∨ (a.natAbs % b.natAbs ≠ 0 ∧ (decide (a < 0) != decide (b < 0)) = false ∧ qz a b = Z) ∨ (a.natAbs % b.natAbs ≠ 0 ∧ (decide (a < 0) != decide (b < 0)) = true ∧ qz a b = Z - 1)) := by
  refine ⟨_, rfl, ?_, ?_⟩
  · have := Nat.div_le_self a.natAbs b.natAbs
    generalize a.natAbs / b.natAbs = q at *
    split <;> omega
  · by_cases hr : a.natAbs % b.natAbs = 0
    · refine .inl ⟨hr, ?_⟩
      rw [(qz_same hb (.inr hr)).1]
      by_cases h1 : a < 0 <;> by_cases h2 : b < 0 <;> simp [h1, h2]
    · by_cases hs : (a < 0 ↔ b < 0)
      · refine .inr (.inl ⟨hr, ?_, ?_⟩)
        · simp [hs]
        · rw [(qz_same hb (.inl hs)).1]
          simp [hs]
      · refine .inr (.inr ⟨hr, ?_, ?_⟩)
        · by_cases h1 : a < 0 <;> by_cases h2 : b < 0 <;> simp_all
        · rw [(qz_diff hb hs hr).1]
          have : (decide (a < 0) != decide (b < 0)) = true := by by_cases h1 : a < 0 <;> by_cases h2 : b < 0 <;> simp_all
          rw [if_pos this]

theorem few_one {d : Nat} (h1 : 1 ≤ d) : Few d 1 := Nat.lt_of_lt_of_le (show (1 : Int).natAbs < 10 ^ 1 by decide) (Nat.pow_le_pow_right (by omega) h1)

theorem dig10_pos {R : Nat} (h : R ≠ 0) : 0 < (dig 10 R).length := by
  rcases Nat.eq_zero_or_pos (dig 10 R).length with h0 | h0
  · exact absurd ((dig_eq_nil (b := 10) (by omega) R).1 (List.length_eq_zero_iff.1 h0)) h
  · exact h0

set_option maxHeartbeats 3200000 in
set_option maxRecDepth 100000 in
theorem rdown_any {d : Nat} (a b : Int) (ha : Few d a) (hb : Few d b) (hb0 : b ≠ 0) (h1 : 1 ≤ d) (hd : d ≤ 50000) (w : World) : Calls Tryd.prog 74 #[.string (T a), .string (T b)] w (OutR w (T (qz a b))) := by
  have HD1 := Lib.hid (digits_T ha h1 (by omega))
  have HD2 := Lib.hid (digits_T hb h1 (by omega))
  have HL1 := Lib.hid (few_len ha)
  have HL2 := Lib.hid (few_len hb)
  have HM1 := Lib.hid (minus_any a)
  have HM2 := Lib.hid (minus_any b)
  obtain ⟨Z, hZ, hZa, hway⟩ := down_ways a b hb0
  have HZ := Lib.hid hZ
  have hlen : (dig 10 (a.natAbs / b.natAbs)).length ≤ d := by
    refine Nat.le_trans (dig_length_mono (by omega) (Nat.div_le_self _ _)) (few_len ha)
  have HLL := Lib.hid hlen
  have HLS : Hid (∀ w, Calls Tryd.prog 63 #[.string (T Z), .string ⟨#[49]⟩] w (OutR w (T (Z - 1)))) := by
    intro w
    have := rless_any Z 1 (ha.of_le hZa) (few_one h1) h1 (by omega) w
    rwa [T_one] at this
  have hn0 : 0 < b.natAbs := by omega
  have HN0 := Lib.hid hn0
  clear hlen hZ hZa hb0 hn0
  generalize qz a b = qq at *
  generalize T a = X at *
  generalize T b = Y at *
  generalize decide (a < 0) = p at *
  generalize decide (b < 0) = q at *
  generalize a.natAbs = m at *
  generalize b.natAbs = n at *
  clear ha hb
  rcases hway with ⟨hr, rfl⟩ | ⟨hr, hs, rfl⟩ | ⟨hr, hs, rfl⟩
  · have HR := Lib.hid hr
    clear hr
    go_enter Tryd.func74, Tryd.ntmps74
    go_wp2_with fail
    refine (HD1.out _).mono ?_
    rintro e1 w1 ⟨v1, rfl, hv1, hb1⟩
    obtain ⟨a1, k1, c1, rfl⟩ := hv1.shape
    go_wp2_with fail
    refine (HD2.out _).mono ?_
    rintro e2 w2 ⟨v2, rfl, hv2, hb2⟩
    obtain ⟨a2, k2, c2, rfl⟩ := hv2.shape
    have hv1' := hv1.keep hb2
    have hB2 : Below w.heap.size w w2 := hb1.trans (hb2.mono hb1.size)
    have HV1 := Lib.hid hv1'
    have HV2 := Lib.hid hv2
    clear hv1 hv1' hv2 hb1 hb2
    go_wp2_with fail
    refine (rdivided_any _ _ _ _ _ HV1.out HV2.out HN0.out (by have := HL1.out; omega) (by have := HL2.out; omega)).mono ?_
    rintro e3 w3 ⟨v3, v4, rfl, hv3, hv4, hb3⟩
    obtain ⟨a3, k3, c3, rfl⟩ := hv3.shape
    rw [HR.out] at hv4
    unfold Dg at hv4
    rw [dig_zero] at hv4
    obtain ⟨a4, c4, rfl⟩ := Rd.shape hv4
    have HV3 := Lib.hid hv3
    have hB3 : Below w.heap.size w w3 := hB2.trans (hb3.mono hB2.size)
    clear hv3 hb3 hB2 hv4
    go_wp2_with fail
    refine (HM1.out _).mono ?_
    rintro e w1' ⟨rfl, rfl⟩
    go_wp2_with fail
    refine (HM2.out _).mono ?_
    rintro e w1' ⟨rfl, rfl⟩
    go_wp2_with fail
    refine (text_R _ _ (p != q) _ _ HV3.out (by have := HLL.out; omega) HZ.out).mono ?_
    rintro e4 w4 ⟨rfl, hb4⟩
    go_wp2
    go_ret
    exact ⟨rfl, hB3.trans (hb4.mono hB3.size)⟩
  · cases p <;> cases q <;> first | (exact absurd hs (by decide)) | skip
    all_goals
      have hkp := dig10_pos hr
      clear hs
      generalize hR : m % n = R at *
      obtain ⟨kk, hkk⟩ : ∃ kk, kk = (dig 10 R).length := ⟨_, rfl⟩
      rw [← hkk] at hkp
      have HKK := Lib.hid hkk
      have HR := Lib.hid hR
      clear hr hkk hR
      go_enter Tryd.func74, Tryd.ntmps74
      go_wp2_with fail
      refine (HD1.out _).mono ?_
      rintro e1 w1 ⟨v1, rfl, hv1, hb1⟩
      obtain ⟨a1, k1, c1, rfl⟩ := hv1.shape
      go_wp2_with fail
      refine (HD2.out _).mono ?_
      rintro e2 w2 ⟨v2, rfl, hv2, hb2⟩
      obtain ⟨a2, k2, c2, rfl⟩ := hv2.shape
      have hv1' := hv1.keep hb2
      have hB2 : Below w.heap.size w w2 := hb1.trans (hb2.mono hb1.size)
      have HV1 := Lib.hid hv1'
      have HV2 := Lib.hid hv2
      clear hv1 hv1' hv2 hb1 hb2
      go_wp2_with fail
      refine (rdivided_any _ _ _ _ _ HV1.out HV2.out HN0.out (by have := HL1.out; omega) (by have := HL2.out; omega)).mono ?_
      rintro e3 w3 ⟨v3, v4, rfl, hv3, hv4, hb3⟩
      obtain ⟨a3, k3, c3, rfl⟩ := hv3.shape
      rw [HR.out] at hv4
      obtain ⟨a4, c4, rfl⟩ := Rd.shape hv4
      rw [← HKK.out]
      have HV3 := Lib.hid hv3
      have hB3 : Below w.heap.size w w3 := hB2.trans (hb3.mono hB2.size)
      clear hv3 hb3 hB2 hv4
      go_wp2_with fail
      refine (HM1.out _).mono ?_
      rintro e w1' ⟨rfl, rfl⟩
      go_wp2_with fail
      refine (HM2.out _).mono ?_
      rintro e w1' ⟨rfl, rfl⟩
      go_wp2_with fail
      refine (text_R _ _ _ _ _ HV3.out (by have := HLL.out; omega) HZ.out).mono ?_
      rintro e4 w4 ⟨rfl, hb4⟩
      have hB4 : Below w.heap.size w w4 := hB3.trans (hb4.mono hB3.size)
      clear hb4 hB3
      go_wp2_with fail
      refine (HM1.out _).mono ?_
      rintro e w1' ⟨rfl, rfl⟩
      go_wp2_with fail
      refine (HM2.out _).mono ?_
      rintro e w1' ⟨rfl, rfl⟩
      go_wp2
      go_ret
      exact ⟨rfl, hB4⟩
  · cases p <;> cases q <;> first | (exact absurd hs (by decide)) | skip
    all_goals
      have hkp := dig10_pos hr
      clear hs
      generalize hR : m % n = R at *
      obtain ⟨kk, hkk⟩ : ∃ kk, kk = (dig 10 R).length := ⟨_, rfl⟩
      rw [← hkk] at hkp
      have HKK := Lib.hid hkk
      have HR := Lib.hid hR
      clear hr hkk hR
      go_enter Tryd.func74, Tryd.ntmps74
      go_wp2_with fail
      refine (HD1.out _).mono ?_
      rintro e1 w1 ⟨v1, rfl, hv1, hb1⟩
      obtain ⟨a1, k1, c1, rfl⟩ := hv1.shape
      go_wp2_with fail
      refine (HD2.out _).mono ?_
      rintro e2 w2 ⟨v2, rfl, hv2, hb2⟩
      obtain ⟨a2, k2, c2, rfl⟩ := hv2.shape
      have hv1' := hv1.keep hb2
      have hB2 : Below w.heap.size w w2 := hb1.trans (hb2.mono hb1.size)
      have HV1 := Lib.hid hv1'
      have HV2 := Lib.hid hv2
      clear hv1 hv1' hv2 hb1 hb2
      go_wp2_with fail
      refine (rdivided_any _ _ _ _ _ HV1.out HV2.out HN0.out (by have := HL1.out; omega) (by have := HL2.out; omega)).mono ?_
      rintro e3 w3 ⟨v3, v4, rfl, hv3, hv4, hb3⟩
      obtain ⟨a3, k3, c3, rfl⟩ := hv3.shape
      rw [HR.out] at hv4
      obtain ⟨a4, c4, rfl⟩ := Rd.shape hv4
      rw [← HKK.out]
      have HV3 := Lib.hid hv3
      have hB3 : Below w.heap.size w w3 := hB2.trans (hb3.mono hB2.size)
      clear hv3 hb3 hB2 hv4
      go_wp2_with fail
      refine (HM1.out _).mono ?_
      rintro e w1' ⟨rfl, rfl⟩
      go_wp2_with fail
      refine (HM2.out _).mono ?_
      rintro e w1' ⟨rfl, rfl⟩
      go_wp2_with fail
      refine (text_R _ _ _ _ _ HV3.out (by have := HLL.out; omega) HZ.out).mono ?_
      rintro e4 w4 ⟨rfl, hb4⟩
      have hB4 : Below w.heap.size w w4 := hB3.trans (hb4.mono hB3.size)
      clear hb4 hB3
      go_wp2_with fail
      refine (HM1.out _).mono ?_
      rintro e w1' ⟨rfl, rfl⟩
      go_wp2_with fail
      refine (HM2.out _).mono ?_
      rintro e w1' ⟨rfl, rfl⟩
      go_wp2_with fail
      refine (HLS.out _).mono ?_
      rintro e5 w5 ⟨rfl, hb5⟩
      go_wp2
      go_ret
      exact ⟨rfl, hB4.trans (hb5.mono hB4.size)⟩

theorem few_qz {d : Nat} {a b : Int} (ha : Few d a) (hb0 : b ≠ 0) : Few d (qz a b) := ha.of_le (qz_le a b hb0)
theorem few_rz {d : Nat} {a b : Int} (hb : Few d b) (hb0 : b ≠ 0) : Few d (rz a b) := hb.of_le (Nat.le_of_lt (rz_le a b hb0))

set_option maxRecDepth 100000 in
theorem rrest_any {d : Nat} (a b : Int) (ha : Few d a) (hb : Few d b) (hb0 : b ≠ 0) (h1 : 1 ≤ d) (hd : d ≤ 40000) (w : World) : Calls Tryd.prog 75 #[.string (T a), .string (T b)] w (OutR w (T (rz a b))) := by
  have H1 := Lib.hid (fun w => rdown_any a b ha hb hb0 h1 (by omega) w)
  have H2 := Lib.hid (fun w => rtimes_any b (qz a b) hb (few_qz ha hb0) h1 (by omega) h1 (by omega) w)
  have H3 : Hid (∀ w, Calls Tryd.prog 63 #[.string (T a), .string (T (b * qz a b))] w (OutR w (T (rz a b)))) := fun w =>
    rless_any (d := d + d) a (b * qz a b) (ha.le (by omega)) (hb.mul (few_qz ha hb0)) (by omega) (by omega) w
  generalize T (rz a b) = R at *
  generalize T (b * qz a b) = U at *
  generalize T (qz a b) = Q at *
  generalize T a = X at *
  generalize T b = Y at *
  clear ha hb hb0
  go_enter Tryd.func75, Tryd.ntmps75
  go_wp2_with fail
  refine (H1.out _).mono ?_
  rintro e1 w1 ⟨rfl, hb1⟩
  go_wp2_with fail
  refine (H2.out _).mono ?_
  rintro e2 w2 ⟨rfl, hb2⟩
  have hB2 : Below w.heap.size w w2 := hb1.trans (hb2.mono hb1.size)
  go_wp2_with fail
  refine (H3.out _).mono ?_
  rintro e3 w3 ⟨rfl, hb3⟩
  go_wp2
  go_ret
  exact ⟨rfl, hB2.trans (hb3.mono hB2.size)⟩

theorem rz_nat (x y : Nat) (hy : y ≠ 0) : rz (x : Int) (y : Int) = ((x % y : Nat) : Int) := by
  have h := (qz_same (x := (x : Int)) (y := (y : Int)) (by omega) (.inl (by constructor <;> intro h <;> omega))).2
  rw [if_neg (by omega), Int.natAbs_natCast, Int.natAbs_natCast] at h
  exact h

theorem few_nat {d n : Nat} (h : n < 10 ^ d) : Few d (n : Int) := by unfold Few; rwa [Int.natAbs_natCast]

set_option maxHeartbeats 1600000 in
set_option maxRecDepth 100000 in
theorem rcommon_any {d : Nat} (a b : Int) (ha : Few d a) (hb : Few d b) (h1 : 1 ≤ d) (hd : d ≤ 40000) (w : World) : Calls Tryd.prog 78 #[.string (T a), .string (T b)] w (OutR w (T ((Nat.gcd a.natAbs b.natAbs : Nat) : Int))) := by
  have H1 := Lib.hid (fun w => positive_any a ha h1 (by omega) w)
  have H2 := Lib.hid (fun w => positive_any b hb h1 (by omega) w)
  have HR := Lib.hid (fun (x y : Nat) (w : World) (hx : x < 10 ^ d) (hy : y < 10 ^ d) (h0 : y ≠ 0) => rrest_any (x : Int) (y : Int) (few_nat hx) (few_nat hy) (by omega) h1 hd w)
  have HF : Hid (a.natAbs < 10 ^ d ∧ b.natAbs < 10 ^ d) := ⟨ha, hb⟩
  obtain ⟨g, hg⟩ : ∃ g, g = Nat.gcd a.natAbs b.natAbs := ⟨_, rfl⟩
  rw [← hg]
  have HG := Lib.hid hg
  generalize T a = X at *
  generalize T b = Y at *
  generalize a.natAbs = m at *
  generalize b.natAbs = n at *
  clear ha hb hg hd h1
  go_enter Tryd.func78, Tryd.ntmps78
  go_wp2_with fail
  refine (H1.out _).mono ?_
  rintro e1 w1 ⟨rfl, hb1⟩
  go_wp2_with fail
  refine (H2.out _).mono ?_
  rintro e2 w2 ⟨rfl, hb2⟩
  have hB2 : Below w.heap.size w w2 := hb1.trans (hb2.mono hb1.size)
  clear hb1 hb2
  go_wp2
  go_loopg [0, 1] n (fun gk s0 s1 wr => ∃ x y : Nat, y ≤ gk ∧ s0 = .string (T (x : Int)) ∧ s1 = .string (T (y : Int)) ∧ Nat.gcd x y = g ∧ x < 10 ^ d ∧ y < 10 ^ d ∧ Below w.heap.size w wr)
  case atStart => exact ⟨m, n, Nat.le_refl _, rfl, rfl, HG.out.symm, HF.out.1, HF.out.2, hB2⟩
  case round =>
    obtain ⟨x, y, hyk, rfl, rfl, hgc, hx, hy, hB⟩ := hrel
    have heq := T_zero (y : Int)
    have HGC : Hid (Nat.gcd x y = g ∧ x < 10 ^ d ∧ y < 10 ^ d) := ⟨hgc, hx, hy⟩
    by_cases h0 : y = 0
    · rw [decide_eq_true (by omega)] at heq
      have hgx : x = g := by rw [← hgc, h0, Nat.gcd_zero_right]
      have HGX := Lib.hid hgx
      clear hgx hgc hx hy h0
      generalize T (y : Int) = YY at *
      go_wp2
      go_ret
      exact ⟨by rw [HGX.out]; rfl, hB⟩
    · rw [decide_eq_false (by omega)] at heq
      have C := Lib.hid (fun w => HR.out x y w hx hy h0)
      rw [rz_nat x y h0] at C
      have hlt := Nat.mod_lt x (Nat.pos_of_ne_zero h0)
      have HM : Hid (Nat.gcd y (x % y) = g ∧ y < 10 ^ d ∧ x % y < 10 ^ d) := ⟨by rw [← gcd_go]; exact hgc, hy, Nat.lt_trans hlt hy⟩
      clear hgc hx hy h0 HGC
      obtain ⟨z, hz⟩ : ∃ z, z = x % y := ⟨_, rfl⟩
      rw [← hz] at C HM hlt
      obtain ⟨YY, hYY⟩ : ∃ YY, YY = T (y : Int) := ⟨_, rfl⟩
      rw [← hYY] at C heq ⊢
      have HYY := Lib.hid hYY
      clear hz hYY
      go_wp2_with fail
      refine (C.out _).mono ?_
      rintro e3 w3 ⟨rfl, hb3⟩
      have hB3 : Below w.heap.size w w3 := hB.trans (hb3.mono hB.size)
      clear hb3
      go_wp2
      go_roundg z
      case measure => omega
      case rel => exact ⟨y, z, Nat.le_refl _, by rw [HYY.out], rfl, HM.out.1, HM.out.2.1, HM.out.2.2, hB3⟩
end Go.Proofs.YtbmonfbbkmpdhaaDoor

namespace Go.Proofs.YtbmonfbbkmpdhaaDoor
open Go.RowKit Go.Proofs.Num

/-- Hands back three texts and an error. -/
def Out3E (w : World) (A B C : ByteArray) (c : Nat) (e : Ending) (w' : World) : Prop := e = .returned (.tuple #[.string A, .string B, .string C, .int .i64 ((c : Nat) : Int)]) ∧ Below w.heap.size w w'

theorem few_abs {d : Nat} {z : Int} (h : Few d z) : Few d ((z.natAbs : Nat) : Int) := few_nat h
theorem few_zero (d : Nat) : Few d 0 := Nat.pow_pos (by omega)
theorem few_in {d : Nat} {z M : Int} (hM : Few d M) (h : ((z.natAbs : Nat) : Int) ≤ M) : Few d z := hM.of_le (by omega)

set_option maxRecDepth 100000 in
theorem rbezout_zero {d : Nat} (n : Int) (hn : Few d n) (h1 : 1 ≤ d) (hd : d ≤ 1024) (w : World) :
    Calls Tryd.prog 45 #[.string (T n), .string (T 0)] w (Out3E w (T (bez n 0).1) (T (bez n 0).2.1) (T (bez n 0).2.2) 0) := by
  have hc : chk2 (T n).data.toList (T 0).data.toList = 0 := by
    unfold chk2
    rw [hn.chk h1 hd, (few_zero d).chk h1 hd]; rfl
  have HK := Lib.hid (fun w => rchecked (T n) (T 0) (hn.size h1 hd) ((few_zero d).size h1 hd) w)
  rw [hc] at HK
  have HG := Lib.hid (fun w => rcommon_any n 0 hn (few_zero d) h1 (by omega) w)
  have HO := Lib.hid (fun w => rorderT n 0 hn (few_zero d) h1 (by omega) w)
  have hsc : ∀ z, sgn z = cmpZ z 0 := fun _ => rfl
  rw [← hsc] at HO
  clear hsc
  have hs : -1 ≤ sgn n ∧ sgn n ≤ 1 := by unfold sgn; split <;> (try split) <;> omega
  have HF := Lib.hid (fun w => rof_any (sgn n) (by omega) (by omega) w)
  have hb : bez n 0 = (((n.natAbs : Nat) : Int), sgn n, 0) := by unfold bez; rw [if_pos rfl]
  rw [hb]
  show Calls _ _ _ _ (Out3E w (T ((n.natAbs : Nat) : Int)) (T (sgn n)) (T 0) 0)
  rw [show Nat.gcd n.natAbs (0 : Int).natAbs = n.natAbs from Nat.gcd_zero_right _] at HG
  generalize T ((n.natAbs : Nat) : Int) = G at *
  generalize T (sgn n) = S at *
  generalize sgn n = s at *
  generalize T n = X at *
  rw [T_naught] at *
  clear hc hb hn
  have heq : ((⟨#[48]⟩ : ByteArray).toList == [48]) = true := by decide +kernel
  go_enter Tryd.func45, Tryd.ntmps45
  go_wp2_with fail
  refine (HK.out _).mono ?_
  rintro e w1 ⟨rfl, rfl⟩
  go_wp2_with fail
  refine (HG.out _).mono ?_
  rintro e1 w1 ⟨rfl, hb1⟩
  go_wp2_with fail
  refine (HO.out _).mono ?_
  rintro e2 w2 ⟨rfl, hb2⟩
  have hB2 : Below w.heap.size w w2 := hb1.trans (hb2.mono hb1.size)
  go_wp2_with fail
  refine (HF.out _).mono ?_
  rintro e3 w3 ⟨rfl, hb3⟩
  have hB3 : Below w.heap.size w w3 := hB2.trans (hb3.mono hB2.size)
  go_wp2
  refine bodyPost_ret (v := .tuple #[.string G, .string S, .string ⟨#[48]⟩, .int .i64 0]) (by simp [results, Tryd.results45, go_sem]) rfl ⟨rfl, hB3⟩

set_option maxRecDepth 100000 in
theorem rbezout_err (s r : ByteArray) (hs : s.size ≤ 9223372036854775807) (hr : r.size ≤ 9223372036854775807) (h0 : chk2 s.data.toList r.data.toList ≠ 0) (w : World) :
    Calls Tryd.prog 45 #[.string s, .string r] w (Out3E w ⟨#[]⟩ ⟨#[]⟩ ⟨#[]⟩ (chk2 s.data.toList r.data.toList)) := by
  have HK := Lib.hid (fun w => rchecked s r hs hr w)
  generalize chk2 s.data.toList r.data.toList = c at *
  have hx : ¬ ((c : Nat) : Int) = 0 := by omega
  have hx1 : ((c : Int) == 0) = false := beq_eq_false_iff_ne.2 hx
  go_enter Tryd.func45, Tryd.ntmps45
  go_wp2_with fail
  refine (HK.out _).mono ?_
  rintro e w1 ⟨rfl, rfl⟩
  go_wp2
  refine bodyPost_ret (v := .tuple #[.string ⟨#[]⟩, .string ⟨#[]⟩, .string ⟨#[]⟩, .int .i64 (c : Int)]) (by simp [results, Tryd.results45, go_sem]) rfl ⟨rfl, Below.refl _ _⟩

set_option maxHeartbeats 3200000 in
set_option maxRecDepth 100000 in
theorem rbezout_pos {d : Nat} (n m : Int) (hn : Few d n) (hm : Few d m) (hm0 : m ≠ 0) (h1 : 1 ≤ d) (hd : d ≤ 1024) (w : World) :
    Calls Tryd.prog 45 #[.string (T n), .string (T m)] w (Out3E w (T (bez n m).1) (T (bez n m).2.1) (T (bez n m).2.2) 0) := by
  have hc : chk2 (T n).data.toList (T m).data.toList = 0 := by
    unfold chk2
    rw [hn.chk h1 hd, hm.chk h1 hd]; rfl
  have HK := Lib.hid (fun w => rchecked (T n) (T m) (hn.size h1 hd) (hm.size h1 hd) w)
  rw [hc] at HK
  have hM0 : ((m.natAbs : Nat) : Int) ≠ 0 := by omega
  have hM : Few d ((m.natAbs : Nat) : Int) := few_abs hm
  have HG := Lib.hid (fun w => rcommon_any n m hn hm h1 (by omega) w)
  have HP := Lib.hid (fun w => positive_any m hm h1 (by omega) w)
  have HR0 := Lib.hid (fun w => rrest_any n ((m.natAbs : Nat) : Int) hn hM hM0 h1 (by omega) w)
  have hbs := (bez_spec n m).2
  have hz := T_zero m
  rw [decide_eq_false hm0] at hz
  have hcb := coefB (n := n) hm0
  have hb : bez n m = ((inv ((m.natAbs : Nat) : Int) (rz n ((m.natAbs : Nat) : Int)) 0 1).1,
     rz (inv ((m.natAbs : Nat) : Int) (rz n ((m.natAbs : Nat) : Int)) 0 1).2 (qz ((m.natAbs : Nat) : Int) (inv ((m.natAbs : Nat) : Int) (rz n ((m.natAbs : Nat) : Int)) 0 1).1),
     qz ((inv ((m.natAbs : Nat) : Int) (rz n ((m.natAbs : Nat) : Int)) 0 1).1 - n * rz (inv ((m.natAbs : Nat) : Int) (rz n ((m.natAbs : Nat) : Int)) 0 1).2 (qz ((m.natAbs : Nat) : Int) (inv ((m.natAbs : Nat) : Int) (rz n ((m.natAbs : Nat) : Int)) 0 1).1)) m) := by unfold bez; rw [if_neg hm0]
  have hst : InvB ((m.natAbs : Nat) : Int) ((m.natAbs : Nat) : Int) (rz n ((m.natAbs : Nat) : Int)) 0 1 := by
    have hr := rz_pos (r := n) (x := ((m.natAbs : Nat) : Int)) (by omega)
    exact InvB.start (by omega) hr.1 hr.2.1
  generalize hMM : ((m.natAbs : Nat) : Int) = M at *
  generalize hx0 : rz n M = x0 at *
  rw [← hbs] at HG
  rw [hb] at HG ⊢
  generalize hdd : (inv M x0 0 1).1 = g0 at *
  generalize hff : (inv M x0 0 1).2 = f0 at *
  generalize hqq : qz M g0 = q0 at *
  generalize hzz : rz f0 q0 = z0 at *
  show Calls _ _ _ _ (Out3E w (T g0) (T z0) (T (qz (g0 - n * z0) m)) 0)
  have fg : Few d g0 := few_in hM (by have := hcb.d0; have := hcb.dm; omega)
  have fq : Few d q0 := few_in hM (by have := hcb.q0; have := hcb.qm; omega)
  have fz : Few d z0 := few_in hM (by have := hcb.z0; have := hcb.zm; omega)
  have ff : Few d f0 := few_in hM (by have := hcb.xm; omega)
  have fp : Few (d + d + 1) (g0 - n * z0) := (fg.le (show d ≤ d + d by omega)).sub (hn.mul fz)
  have E1 : Hid (∀ w, Calls Tryd.prog 74 #[.string (T M), .string (T g0)] w (OutR w (T q0))) := fun w => by
    rw [← hqq]; exact rdown_any M g0 hM fg (by have := hcb.d0; omega) h1 (by omega) w
  have E2 : Hid (∀ w, Calls Tryd.prog 75 #[.string (T f0), .string (T q0)] w (OutR w (T z0))) := fun w => by
    rw [← hzz]; exact rrest_any f0 q0 ff fq (by have := hcb.q0; omega) h1 (by omega) w
  have E3 : Hid (∀ w, Calls Tryd.prog 71 #[.string (T n), .string (T z0)] w (OutR w (T (n * z0)))) := fun w => rtimes_any n z0 hn fz h1 (by omega) h1 (by omega) w
  have E4 : Hid (∀ w, Calls Tryd.prog 63 #[.string (T g0), .string (T (n * z0))] w (OutR w (T (g0 - n * z0)))) := fun w => rless_any (d := d + d) g0 (n * z0) (fg.le (by omega)) (hn.mul fz) (by omega) (by omega) w
  have E5 : Hid (∀ w, Calls Tryd.prog 74 #[.string (T (g0 - n * z0)), .string (T m)] w (OutR w (T (qz (g0 - n * z0) m)))) := fun w =>
    rdown_any (d := d + d + 1) (g0 - n * z0) m fp (hm.le (by omega)) hm0 (by omega) (by omega) w
  have R1 : Hid (∀ (r x f g : Int) (h : InvB M r x f g) (hx : 0 < x) (w : World), Calls Tryd.prog 74 #[.string (T r), .string (T x)] w (OutR w (T (qz r x)))) := fun r x f g h hx w =>
    rdown_any r x (few_in hM (by have := h.r0; have := h.rm; omega)) (few_in hM (by have := h.rm; have := h.xr; omega)) (by omega) h1 (by omega) w
  have R2 : Hid (∀ (r x f g : Int) (h : InvB M r x f g) (hx : 0 < x) (w : World), Calls Tryd.prog 71 #[.string (T (qz r x)), .string (T x)] w (OutR w (T (qz r x * x)))) := fun r x f g h hx w =>
    rtimes_any _ x (few_in hM (by have := (h.qs hx).1; have := h.r0; have := h.rm; omega)) (few_in hM (by have := h.rm; have := h.xr; omega)) h1 (by omega) h1 (by omega) w
  have R3 : Hid (∀ (r x f g : Int) (h : InvB M r x f g) (hx : 0 < x) (w : World), Calls Tryd.prog 63 #[.string (T r), .string (T (qz r x * x))] w (OutR w (T (rz r x)))) := fun r x f g h hx w => by
    have e : rz r x = r - qz r x * x := by unfold rz; rw [Int.mul_comm]
    rw [e]
    exact rless_any (d := d + d) r _ ((few_in hM (by have := h.r0; have := h.rm; omega)).le (by omega)) ((few_in hM (by have := (h.qs hx).1; have := h.r0; have := h.rm; omega)).mul (few_in hM (by have := h.rm; have := h.xr; omega))) (by omega) (by omega) w
  have R4 : Hid (∀ (r x f g : Int) (h : InvB M r x f g) (hx : 0 < x) (w : World), Calls Tryd.prog 71 #[.string (T (qz r x)), .string (T g)] w (OutR w (T (qz r x * g)))) := fun r x f g h hx w =>
    rtimes_any _ g (few_in hM (by have := (h.qs hx).1; have := h.r0; have := h.rm; omega)) (few_in hM h.gm) h1 (by omega) h1 (by omega) w
  have R5 : Hid (∀ (r x f g : Int) (h : InvB M r x f g) (hx : 0 < x) (w : World), Calls Tryd.prog 63 #[.string (T f), .string (T (qz r x * g))] w (OutR w (T (f - qz r x * g)))) := fun r x f g h hx w =>
    rless_any f _ (few_in hM h.fm) (few_in hM (by have := (h.qs hx).2; have := h.r0; have := h.rm; omega)) h1 (by omega) w
  have HST := Lib.hid hst
  have HEND : Hid ((inv M x0 0 1) = (g0, f0)) := by unfold Hid; rw [← hdd, ← hff]
  clear hc hM0 hM hbs hcb hb hst hMM hx0 hdd hff hqq hzz fg fq fz ff fp hm0 hn hm h1 hd
  generalize qz (g0 - n * z0) m = y0 at *
  generalize T (g0 - n * z0) = U4 at *
  generalize T (n * z0) = U3 at *
  generalize T n = X at *
  generalize T m = Y at *
  obtain ⟨MM, hMM⟩ : ∃ u, u = T M := ⟨_, rfl⟩
  obtain ⟨TX0, hTX0⟩ : ∃ u, u = T x0 := ⟨_, rfl⟩
  obtain ⟨G, hG⟩ : ∃ u, u = T g0 := ⟨_, rfl⟩
  rw [← hTX0] at HR0
  rw [← hMM] at HR0 HP E1
  rw [← hG] at HG E1 E4 ⊢
  have HX0 := Lib.hid hTX0
  have HMM := Lib.hid hMM
  have H0 : Hid (T 0 = ⟨#[48]⟩ ∧ T 1 = ⟨#[49]⟩) := ⟨T_naught, T_one⟩
  clear hTX0 hMM hG
  go_enter Tryd.func45, Tryd.ntmps45
  go_wp2_with fail
  refine (HK.out _).mono ?_
  rintro e w1 ⟨rfl, rfl⟩
  go_wp2_with fail
  refine (HG.out _).mono ?_
  rintro e1 w1 ⟨rfl, hb1⟩
  go_wp2_with fail
  refine (HP.out _).mono ?_
  rintro e2 w2 ⟨rfl, hb2⟩
  have hB2 : Below w.heap.size w w2 := hb1.trans (hb2.mono hb1.size)
  go_wp2_with fail
  refine (HP.out _).mono ?_
  rintro e3 w3 ⟨rfl, hb3⟩
  have hB3 : Below w.heap.size w w3 := hB2.trans (hb3.mono hB2.size)
  go_wp2_with fail
  refine (HR0.out _).mono ?_
  rintro e4 w4 ⟨rfl, hb4⟩
  have hB4 : Below w.heap.size w w4 := hB3.trans (hb4.mono hB3.size)
  clear hb1 hb2 hb3 hb4 hB2 hB3
  go_wp2
  go_loopg [10, 11, 12, 13] x0.toNat (fun gk s10 s11 s12 s13 wr => ∃ r x f g : Int, x.toNat ≤ gk ∧ s10 = .string (T r) ∧ s11 = .string (T x) ∧ s12 = .string (T f) ∧ s13 = .string (T g) ∧ InvB M r x f g ∧ inv r x f g = inv M x0 0 1 ∧ Below w.heap.size w wr)
  case atStart => exact ⟨M, x0, 0, 1, Nat.le_refl _, by rw [HMM.out], by rw [HX0.out], by rw [H0.out.1], by rw [H0.out.2], HST.out, rfl, hB4⟩
  case round =>
    obtain ⟨r, x, f, g, hxk, rfl, rfl, rfl, rfl, hI, hinv, hB⟩ := hrel
    have heq := T_zero x
    have hx0 := hI.x0
    by_cases h0 : x = 0
    · rw [decide_eq_true h0] at heq
      have hf : f = f0 := by
        have h := HEND.out
        rw [← hinv, h0, inv_stop] at h
        exact (Prod.mk.inj h).2
      rw [hf]
      clear hf hinv hI h0 hx0 hxk
      generalize T x = XX at *
      generalize T f0 = F0 at *
      generalize T q0 = Q0 at *
      generalize T z0 = Z0 at *
      go_wp2_with fail
      refine (HP.out _).mono ?_
      rintro e5 w5 ⟨rfl, hb5⟩
      have hB5 : Below w.heap.size w w5 := hB.trans (hb5.mono hB.size)
      go_wp2_with fail
      refine (E1.out _).mono ?_
      rintro e6 w6 ⟨rfl, hb6⟩
      have hB6 : Below w.heap.size w w6 := hB5.trans (hb6.mono hB5.size)
      go_wp2_with fail
      refine (E2.out _).mono ?_
      rintro e7 w7 ⟨rfl, hb7⟩
      have hB7 : Below w.heap.size w w7 := hB6.trans (hb7.mono hB6.size)
      clear hb5 hB5 hb6 hB6 hb7
      go_wp2_with fail
      refine (E3.out _).mono ?_
      rintro e8 w8 ⟨rfl, hb8⟩
      have hB8 : Below w.heap.size w w8 := hB7.trans (hb8.mono hB7.size)
      go_wp2_with fail
      refine (E4.out _).mono ?_
      rintro e9 w9 ⟨rfl, hb9⟩
      have hB9 : Below w.heap.size w w9 := hB8.trans (hb9.mono hB8.size)
      go_wp2_with fail
      refine (E5.out _).mono ?_
      rintro e10 w10 ⟨rfl, hb10⟩
      have hB10 : Below w.heap.size w w10 := hB9.trans (hb10.mono hB9.size)
      go_wp2
      refine bodyPost_ret (v := .tuple #[.string G, .string Z0, .string (T y0), .int .i64 0]) (by simp [results, Tryd.results45, go_sem]) rfl ⟨rfl, hB10⟩
    · rw [decide_eq_false h0] at heq
      have hpos : 0 < x := by omega
      have C1 := Lib.hid (R1.out r x f g hI hpos)
      have C2 := Lib.hid (R2.out r x f g hI hpos)
      have C3 := Lib.hid (R3.out r x f g hI hpos)
      have C4 := Lib.hid (R4.out r x f g hI hpos)
      have C5 := Lib.hid (R5.out r x f g hI hpos)
      have HN := Lib.hid (hI.next hpos)
      have HE : Hid (inv x (rz r x) g (f - qz r x * g) = inv M x0 0 1) := by unfold Hid; rw [← hinv, inv_go hpos]
      have hm := (rz_pos (r := r) hpos).2.1
      have hm0 := (rz_pos (r := r) hpos).1
      clear hI hinv h0
      obtain ⟨u, hu⟩ : ∃ u, u = rz r x := ⟨_, rfl⟩
      obtain ⟨k, hk⟩ : ∃ k, k = f - qz r x * g := ⟨_, rfl⟩
      rw [← hu] at C3 HN HE hm hm0
      rw [← hk] at C5 HN HE
      clear hu hk
      generalize qz r x * g = v1 at *
      generalize qz r x * x = v2 at *
      generalize qz r x = v3 at *
      obtain ⟨XX, hXX⟩ : ∃ XX, XX = T x := ⟨_, rfl⟩
      obtain ⟨GG, hGG⟩ : ∃ GG, GG = T g := ⟨_, rfl⟩
      rw [← hXX] at C1 C2 heq ⊢
      rw [← hGG] at C4 ⊢
      have HXX := Lib.hid hXX
      have HGG := Lib.hid hGG
      clear hXX hGG
      go_wp2_with fail
      refine (C1.out _).mono ?_
      rintro e5 w5 ⟨rfl, hb5⟩
      have hB5 : Below w.heap.size w w5 := hB.trans (hb5.mono hB.size)
      go_wp2_with fail
      refine (C2.out _).mono ?_
      rintro e6 w6 ⟨rfl, hb6⟩
      have hB6 : Below w.heap.size w w6 := hB5.trans (hb6.mono hB5.size)
      go_wp2_with fail
      refine (C3.out _).mono ?_
      rintro e7 w7 ⟨rfl, hb7⟩
      have hB7 : Below w.heap.size w w7 := hB6.trans (hb7.mono hB6.size)
      go_wp2_with fail
      refine (C4.out _).mono ?_
      rintro e8 w8 ⟨rfl, hb8⟩
      have hB8 : Below w.heap.size w w8 := hB7.trans (hb8.mono hB7.size)
      go_wp2_with fail
      refine (C5.out _).mono ?_
      rintro e9 w9 ⟨rfl, hb9⟩
      have hB9 : Below w.heap.size w w9 := hB8.trans (hb9.mono hB8.size)
      clear hb5 hb6 hb7 hb8 hb9 hB5 hB6 hB7 hB8 heq
      go_wp2
      go_roundg u.toNat
      case measure => omega
      case rel => exact ⟨x, u, g, k, Nat.le_refl _, by rw [HXX.out], rfl, by rw [HGG.out], rfl, HN.out, HE.out, hB9⟩
end Go.Proofs.YtbmonfbbkmpdhaaDoor

namespace Go.Proofs.YtbmonfbbkmpdhaaDoor
open Go.RowKit Go.Proofs.Num

/-- Hands back two texts and an error. -/
def Out2E (w : World) (A B : ByteArray) (c : Nat) (e : Ending) (w' : World) : Prop := e = .returned (.tuple #[.string A, .string B, .int .i64 ((c : Nat) : Int)]) ∧ Below w.heap.size w w'

set_option maxRecDepth 100000 in
theorem rdivide_err (s r : ByteArray) (hs : s.size ≤ 9223372036854775807) (hr : r.size ≤ 9223372036854775807) (h0 : chk2 s.data.toList r.data.toList ≠ 0) (w : World) :
    Calls Tryd.prog 42 #[.string s, .string r] w (Out2E w ⟨#[]⟩ ⟨#[]⟩ (chk2 s.data.toList r.data.toList)) := by
  have HK := Lib.hid (fun w => rchecked s r hs hr w)
  generalize chk2 s.data.toList r.data.toList = c at *
  have hx : ¬ ((c : Nat) : Int) = 0 := by omega
  have hx1 : ((c : Int) == 0) = false := beq_eq_false_iff_ne.2 hx
  go_enter Tryd.func42, Tryd.ntmps42
  go_wp2_with fail
  refine (HK.out _).mono ?_
  rintro e w1 ⟨rfl, rfl⟩
  go_wp2
  refine bodyPost_ret (v := .tuple #[.string ⟨#[]⟩, .string ⟨#[]⟩, .int .i64 (c : Int)]) (by simp [results, Tryd.results42, go_sem]) rfl ⟨rfl, Below.refl _ _⟩

set_option maxRecDepth 100000 in
theorem rdivide_zero {d : Nat} (n : Int) (hn : Few d n) (h1 : 1 ≤ d) (hd : d ≤ 1024) (w : World) :
    Calls Tryd.prog 42 #[.string (T n), .string (T 0)] w (Out2E w ⟨#[]⟩ ⟨#[]⟩ 10) := by
  have hc : chk2 (T n).data.toList (T 0).data.toList = 0 := by
    unfold chk2
    rw [hn.chk h1 hd, (few_zero d).chk h1 hd]; rfl
  have HK := Lib.hid (fun w => rchecked (T n) (T 0) (hn.size h1 hd) ((few_zero d).size h1 hd) w)
  rw [hc] at HK
  rw [T_naught] at *
  have heq : ((⟨#[48]⟩ : ByteArray).toList == [48]) = true := by decide +kernel
  generalize T n = X at *
  clear hc hn
  go_enter Tryd.func42, Tryd.ntmps42
  go_wp2_with fail
  refine (HK.out _).mono ?_
  rintro e w1 ⟨rfl, rfl⟩
  go_wp2
  refine bodyPost_ret (v := .tuple #[.string ⟨#[]⟩, .string ⟨#[]⟩, .int .i64 10]) (by simp [results, Tryd.results42, go_sem]) rfl ⟨rfl, Below.refl _ _⟩

set_option maxRecDepth 100000 in
theorem rdivide_pos {d : Nat} (n m : Int) (hn : Few d n) (hm : Few d m) (hm0 : m ≠ 0) (h1 : 1 ≤ d) (hd : d ≤ 1024) (w : World) :
    Calls Tryd.prog 42 #[.string (T n), .string (T m)] w (Out2E w (T (qz n m)) (T (rz n m)) 0) := by
  have hc : chk2 (T n).data.toList (T m).data.toList = 0 := by
    unfold chk2
    rw [hn.chk h1 hd, hm.chk h1 hd]; rfl
  have HK := Lib.hid (fun w => rchecked (T n) (T m) (hn.size h1 hd) (hm.size h1 hd) w)
  rw [hc] at HK
  have H1 := Lib.hid (fun w => rdown_any n m hn hm hm0 h1 (by omega) w)
  have H2 := Lib.hid (fun w => rrest_any n m hn hm hm0 h1 (by omega) w)
  have heq := T_zero m
  rw [decide_eq_false hm0] at heq
  generalize T (qz n m) = Q at *
  generalize T (rz n m) = R at *
  generalize T n = X at *
  generalize T m = Y at *
  clear hc hn hm hm0
  go_enter Tryd.func42, Tryd.ntmps42
  go_wp2_with fail
  refine (HK.out _).mono ?_
  rintro e w1 ⟨rfl, rfl⟩
  go_wp2_with fail
  refine (H1.out _).mono ?_
  rintro e1 w1 ⟨rfl, hb1⟩
  go_wp2_with fail
  refine (H2.out _).mono ?_
  rintro e2 w2 ⟨rfl, hb2⟩
  go_wp2
  refine bodyPost_ret (v := .tuple #[.string Q, .string R, .int .i64 0]) (by simp [results, Tryd.results42, go_sem]) rfl ⟨rfl, hb1.trans (hb2.mono hb1.size)⟩

set_option maxRecDepth 100000 in
set_option maxHeartbeats 1600000 in
theorem gcd_err (s r : ByteArray) (hs : s.size ≤ 9223372036854775807) (hr : r.size ≤ 9223372036854775807) (h0 : chk2 s.data.toList r.data.toList ≠ 0) (w : World) :
    Calls Tryd.prog 43 #[.string s, .string r] w (OutE w ⟨#[]⟩ (chk2 s.data.toList r.data.toList)) := by
  obtain ⟨c, hcc⟩ : ∃ c, c = chk2 s.data.toList r.data.toList := ⟨_, rfl⟩
  have hne : ((c : Int) == 0) = false := by simp; omega
  have hne2 : ((c : Int) != 0) = true := by simp; omega
  rw [← hcc]
  have HC := Lib.hid hcc
  clear hcc h0
  go_enter Tryd.func43, Tryd.ntmps43
  go_wp2_with fail
  refine (readTwo_any s r hs hr _).mono ?_
  rintro e w1 ⟨v1, v2, rfl, hb, ⟨b, a, k, p, rfl⟩, ⟨b', a', k', p', rfl⟩, -⟩
  rw [← HC.out]
  go_wp2
  go_ret2
  exact ⟨rfl, (hb.alloc hb.size _).alloc (by have := hb.size; simp; omega) _⟩

set_option maxRecDepth 100000 in
theorem divides_long (HA : Awake) (s r : ByteArray) (hs : s.size ≤ 9223372036854775807) (hr : r.size ≤ 9223372036854775807) (h : (fewB s && fewB r) = false) (w : World) (hT : Tab w) :
    Calls Tryd.prog 7 #[.string s, .string r] w fun e w' => e = .returned (.bool true) ∧ Below w.heap.size w w' := by
  have HP := Lib.hid (fun w => pair_any s r hs hr w)
  rw [h] at HP
  have HT := Lib.hid hT
  have HAW := Lib.hid HA
  clear hT HA h
  go_enter Tryd.func7, Tryd.ntmps7
  go_wp2_with fail
  refine (HP.out _).mono ?_
  rintro e w1 ⟨rfl, rfl⟩
  go_wp2_with fail
  refine (HAW.out _ HT.out).mono ?_
  rintro e w1 ⟨rfl, hb1⟩
  go_wp2
  go_ret
  exact ⟨rfl, hb1⟩

set_option maxHeartbeats 6400000 in
set_option maxRecDepth 100000 in
theorem divides_walk (HA : Awake) (s r : ByteArray) (hs : s.size ≤ 9223372036854775807) (hr : r.size ≤ 9223372036854775807) (h : (fewB s && fewB r) = true) (Q R D I J : ByteArray) (c o : Nat)
    (c1 : ∀ w, Tab w → Calls Tryd.prog 40 #[.string s, .string r] w (OutE w Q c)) (c2 : ∀ w, Tab w → Calls Tryd.prog 41 #[.string s, .string r] w (OutE w R c)) (c3 : ∀ w, Tab w → Calls Tryd.prog 42 #[.string s, .string r] w (Out2E w Q R c))
    (c4 : ∀ w, Tab w → Calls Tryd.prog 43 #[.string s, .string r] w (OutE w D o)) (c5 : ∀ w, Tab w → Calls Tryd.prog 44 #[.string s, .string r] w (Out3E w D I J o)) (c6 : ∀ w, Tab w → Calls Tryd.prog 45 #[.string s, .string r] w (Out3E w D I J o))
    (w : World) (hT : Tab w) :
    Calls Tryd.prog 7 #[.string s, .string r] w fun e w' => e = .returned (.bool true) ∧ Below w.heap.size w w' := by
  have cP := fun w => pair_any s r hs hr w
  rw [h] at cP
  have HP := Lib.hid cP
  have H1 := Lib.hid c1; have H2 := Lib.hid c2; have H3 := Lib.hid c3; have H4 := Lib.hid c4; have H5 := Lib.hid c5; have H6 := Lib.hid c6
  have HT := Lib.hid hT
  have HAW := Lib.hid HA
  clear c1 c2 c3 c4 c5 c6 cP hT HA hs hr h
  go_enter Tryd.func7, Tryd.ntmps7
  go_wp2_with fail
  refine (HP.out _).mono ?_
  rintro e w1 ⟨rfl, rfl⟩
  go_wp2_with fail
  refine (H1.out _ HT.out).mono ?_
  rintro e w1 ⟨rfl, hc1⟩
  have hb1 : Below w.heap.size w w1 := hc1
  clear hc1
  go_wp2_with fail
  refine (H2.out _ (HT.out.keep hb1)).mono ?_
  rintro e w2 ⟨rfl, hc2⟩
  have hb2 : Below w.heap.size w w2 := hb1.trans (hc2.mono hb1.size)
  clear hb1 hc2
  go_wp2_with fail
  refine (H3.out _ (HT.out.keep hb2)).mono ?_
  rintro e w3 ⟨rfl, hc3⟩
  have hb3 : Below w.heap.size w w3 := hb2.trans (hc3.mono hb2.size)
  clear hb2 hc3
  go_wp2_with fail
  refine (H4.out _ (HT.out.keep hb3)).mono ?_
  rintro e w4 ⟨rfl, hc4⟩
  have hb4 : Below w.heap.size w w4 := hb3.trans (hc4.mono hb3.size)
  clear hb3 hc4
  go_wp2_with fail
  refine (H5.out _ (HT.out.keep hb4)).mono ?_
  rintro e w5 ⟨rfl, hc5⟩
  have hb5 : Below w.heap.size w w5 := hb4.trans (hc5.mono hb4.size)
  clear hb4 hc5
  go_wp2_with fail
  refine (H6.out _ (HT.out.keep hb5)).mono ?_
  rintro e w6 ⟨rfl, hc6⟩
  have hb6 : Below w.heap.size w w6 := hb5.trans (hc6.mono hb5.size)
  clear hb5 hc6
  go_wp2_with fail
  refine (HAW.out _ (HT.out.keep hb6)).mono ?_
  rintro e w7 ⟨rfl, hc7⟩
  have hb7 : Below w.heap.size w w7 := hb6.trans (hc7.mono hb6.size)
  clear hb6 hc7
  go_wp2
  go_ret
  exact ⟨rfl, hb7⟩

theorem fewB_canon (s : ByteArray) (h : fewB s = true) (h0 : chk s.data.toList = 0) : ∃ x d, s = T x ∧ d = 60 ∧ Few d x := by
  refine small_T s ?_
  unfold fewB at h
  unfold smallB
  rw [h0] at h ⊢
  simpa using h

theorem divides_any (HA : Awake) (s r : ByteArray) (hs : s.size ≤ 9223372036854775807) (hr : r.size ≤ 9223372036854775807) (w : World) (hT : Tab w) :
    Calls Tryd.prog 7 #[.string s, .string r] w fun e w' => e = .returned (.bool true) ∧ Below w.heap.size w w' := by
  by_cases h : (fewB s && fewB r) = true
  · by_cases h2 : chk2 s.data.toList r.data.toList = 0
    · obtain ⟨k1, k2⟩ := chk2_zero h2
      have hh := h
      simp only [Bool.and_eq_true] at hh
      obtain ⟨x, d, rfl, hd, hx⟩ := fewB_canon s hh.1 k1
      obtain ⟨y, d', rfl, hd', hy⟩ := fewB_canon r hh.2 k2
      obtain rfl : d' = d := by omega
      by_cases hy0 : y = 0
      · subst hy0
        have e10 : chkD (T x).data.toList (T 0).data.toList = 10 := by
          unfold chkD
          rw [if_neg (by rw [h2]; simp), T_data 0, parse_itoa, if_pos rfl]
        have hM : chkD (T x).data.toList (T 0).data.toList ≠ 0 := by rw [e10]; omega
        refine divides_walk HA _ _ hs hr h ⟨#[]⟩ ⟨#[]⟩ (T (bez x 0).1) (T (bez x 0).2.1) (T (bez x 0).2.2) 10 0 ?_ ?_ ?_ ?_ ?_ ?_ w hT
        · intro w _; have := quo_err 0 (divTo_all _) (T x) (T 0) hs hr hM w; rw [e10] at this; exact this
        · intro w _; have := rem_err 0 (divTo_all _) (T x) (T 0) hs hr hM w; rw [e10] at this; exact this
        · intro w _; exact rdivide_zero x hx (by omega) (by omega) w
        · intro w hT; have := gcdT x 0 w hx hy (by omega) (by omega) hT; rw [← (bez_spec x 0).2] at this; exact this
        · intro w hT; exact bezT x 0 w hx hy (by omega) (by omega) hT
        · intro w _; exact rbezout_zero x hx (by omega) (by omega) w
      · refine divides_walk HA _ _ hs hr h (T (qz x y)) (T (rz x y)) (T (bez x y).1) (T (bez x y).2.1) (T (bez x y).2.2) 0 0 ?_ ?_ ?_ ?_ ?_ ?_ w hT
        · intro w hT; exact quoT x y w hx hy (by omega) (by omega) hy0 hT
        · intro w hT; exact remT x y w hx hy (by omega) (by omega) hy0 hT
        · intro w _; exact rdivide_pos x y hx hy hy0 (by omega) (by omega) w
        · intro w hT; have := gcdT x y w hx hy (by omega) (by omega) hT; rw [← (bez_spec x y).2] at this; exact this
        · intro w hT; exact bezT x y w hx hy (by omega) (by omega) hT
        · intro w _; exact rbezout_pos x y hx hy hy0 (by omega) (by omega) w
    · have hD : chkD s.data.toList r.data.toList = chk2 s.data.toList r.data.toList := by unfold chkD; rw [if_pos h2]
      have hM : chkD s.data.toList r.data.toList ≠ 0 := by rw [hD]; exact h2
      refine divides_walk HA s r hs hr h ⟨#[]⟩ ⟨#[]⟩ ⟨#[]⟩ ⟨#[]⟩ ⟨#[]⟩ (chk2 s.data.toList r.data.toList) (chk2 s.data.toList r.data.toList) ?_ ?_ ?_ ?_ ?_ ?_ w hT
      · intro w _; have := quo_err 0 (divTo_all _) s r hs hr hM w; rw [hD] at this; exact this
      · intro w _; have := rem_err 0 (divTo_all _) s r hs hr hM w; rw [hD] at this; exact this
      · intro w _; exact rdivide_err s r hs hr h2 w
      · intro w _; exact gcd_err s r hs hr h2 w
      · intro w _; exact bezout_err s r hs hr h2 w
      · intro w _; exact rbezout_err s r hs hr h2 w
  · exact divides_long HA s r hs hr (by simpa using h) w hT
end Go.Proofs.YtbmonfbbkmpdhaaDoor
