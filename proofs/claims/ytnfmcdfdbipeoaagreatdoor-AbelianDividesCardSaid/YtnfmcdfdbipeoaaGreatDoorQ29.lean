/- Walks of the reference: Down, Rest, Common, Divide. And: Walks of abelian groups: lists of texts, chains, products, sizes. And: Chains of integers each of which divides the next one: numbers and lists alone. -/
import Derived.Test.YtnfmcdfdbipeoaaGreatDoorQ27
import Derived.Test.YtnfmcdfdbipeoaaGreatDoorQ28
import Derived.Test.YtnfmcdfdbipeoaaGreatDoorQ25
namespace Go.Proofs.YtnfmcdfdbipeoaaGreatDoor
open Go.RowKit Go.Proofs.Num

/-- How the digits' quotient makes the one that is rounded down. -/
theorem down_ways (a b : Int) (hb : b ≠ 0) : ∃ Z : Int, (if (decide (a < 0) != decide (b < 0)) = true then -((a.natAbs / b.natAbs : Nat) : Int) else ((a.natAbs / b.natAbs : Nat) : Int)) = Z ∧ Z.natAbs ≤ a.natAbs ∧
    ((a.natAbs % b.natAbs = 0 ∧ qz a b = Z) ∨ (a.natAbs % b.natAbs ≠ 0 ∧ (decide (a < 0) != decide (b < 0)) = false ∧ qz a b = Z) ∨ (a.natAbs % b.natAbs ≠ 0 ∧ (decide (a < 0) != decide (b < 0)) = true ∧ qz a b = Z - 1)) := by
  refine ⟨_, rfl, ?_, ?_⟩
  · have := Nat.div_le_self a.natAbs b.natAbs
    generalize a.natAbs / b.natAbs = q at *
    split <;> omega
  · by_cases hr : a.natAbs % b.natAbs = 0
    · refine .inl ⟨hr, ?_⟩
      rw [(qz_same hb (.inr hr)).1]
      by_cases h1 : a < 0 <;> by_cases h2 : b < 0 <;> simp [h1, h2]
    · by_cases hs : (a < 0 ↔ b < 0)
      · refine .inr (.inl ⟨hr, ?_, ?_⟩)
        · simp [hs]
        · rw [(qz_same hb (.inl hs)).1]
          simp [hs]
      · refine .inr (.inr ⟨hr, ?_, ?_⟩)
        · by_cases h1 : a < 0 <;> by_cases h2 : b < 0 <;> simp_all
        · rw [(qz_diff hb hs hr).1]
          have : (decide (a < 0) != decide (b < 0)) = true := by by_cases h1 : a < 0 <;> by_cases h2 : b < 0 <;> simp_all
          rw [if_pos this]

theorem few_one {d : Nat} (h1 : 1 ≤ d) : Few d 1 := Nat.lt_of_lt_of_le (show (1 : Int).natAbs < 10 ^ 1 by decide) (Nat.pow_le_pow_right (by omega) h1)

theorem dig10_pos {R : Nat} (h : R ≠ 0) : 0 < (dig 10 R).length := by
  rcases Nat.eq_zero_or_pos (dig 10 R).length with h0 | h0
  · exact absurd ((dig_eq_nil (b := 10) (by omega) R).1 (List.length_eq_zero_iff.1 h0)) h
  · exact h0

set_option maxHeartbeats 3200000 in
set_option maxRecDepth 100000 in
theorem rdown_any {d : Nat} (a b : Int) (ha : Few d a) (hb : Few d b) (hb0 : b ≠ 0) (h1 : 1 ≤ d) (hd : d ≤ 50000) (w : World) : Calls Tryz.prog 140 #[.string (T a), .string (T b)] w (OutR w (T (qz a b))) := by
  have HD1 := Lib.hid (digits_T ha h1 (by omega))
  have HD2 := Lib.hid (digits_T hb h1 (by omega))
  have HL1 := Lib.hid (few_len ha)
  have HL2 := Lib.hid (few_len hb)
  have HM1 := Lib.hid (minus_any a)
  have HM2 := Lib.hid (minus_any b)
  obtain ⟨Z, hZ, hZa, hway⟩ := down_ways a b hb0
  have HZ := Lib.hid hZ
  have hlen : (dig 10 (a.natAbs / b.natAbs)).length ≤ d := by
    refine Nat.le_trans (dig_length_mono (by omega) (Nat.div_le_self _ _)) (few_len ha)
  have HLL := Lib.hid hlen
  have HLS : Hid (∀ w, Calls Tryz.prog 68 #[.string (T Z), .string ⟨#[49]⟩] w (OutR w (T (Z - 1)))) := by
    intro w
    have := rless_any Z 1 (ha.of_le hZa) (few_one h1) h1 (by omega) w
    rwa [T_one] at this
  have hn0 : 0 < b.natAbs := by omega
  have HN0 := Lib.hid hn0
  clear hlen hZ hZa hb0 hn0
  generalize qz a b = qq at *
  generalize T a = X at *
  generalize T b = Y at *
  generalize decide (a < 0) = p at *
  generalize decide (b < 0) = q at *
  generalize a.natAbs = m at *
  generalize b.natAbs = n at *
  clear ha hb
  rcases hway with ⟨hr, rfl⟩ | ⟨hr, hs, rfl⟩ | ⟨hr, hs, rfl⟩
  · have HR := Lib.hid hr
    clear hr
    go_enter Tryz.func140, Tryz.ntmps140
    go_wp2_with fail
    refine (HD1.out _).mono ?_
    rintro e1 w1 ⟨v1, rfl, hv1, hb1⟩
    obtain ⟨a1, k1, c1, rfl⟩ := hv1.shape
    go_wp2_with fail
    refine (HD2.out _).mono ?_
    rintro e2 w2 ⟨v2, rfl, hv2, hb2⟩
    obtain ⟨a2, k2, c2, rfl⟩ := hv2.shape
    have hv1' := hv1.keep hb2
    have hB2 : Below w.heap.size w w2 := hb1.trans (hb2.mono hb1.size)
    have HV1 := Lib.hid hv1'
    have HV2 := Lib.hid hv2
    clear hv1 hv1' hv2 hb1 hb2
    go_wp2_with fail
    refine (rdivided_any _ _ _ _ _ HV1.out HV2.out HN0.out (by have := HL1.out; omega) (by have := HL2.out; omega)).mono ?_
    rintro e3 w3 ⟨v3, v4, rfl, hv3, hv4, hb3⟩
    obtain ⟨a3, k3, c3, rfl⟩ := hv3.shape
    rw [HR.out] at hv4
    unfold Dg at hv4
    rw [dig_zero] at hv4
    obtain ⟨a4, c4, rfl⟩ := Rd.shape hv4
    have HV3 := Lib.hid hv3
    have hB3 : Below w.heap.size w w3 := hB2.trans (hb3.mono hB2.size)
    clear hv3 hb3 hB2 hv4
    go_wp2_with fail
    refine (HM1.out _).mono ?_
    rintro e w1' ⟨rfl, rfl⟩
    go_wp2_with fail
    refine (HM2.out _).mono ?_
    rintro e w1' ⟨rfl, rfl⟩
    go_wp2_with fail
    refine (text_R _ _ (p != q) _ _ HV3.out (by have := HLL.out; omega) HZ.out).mono ?_
    rintro e4 w4 ⟨rfl, hb4⟩
    go_wp2
    go_ret
    exact ⟨rfl, hB3.trans (hb4.mono hB3.size)⟩
  · cases p <;> cases q <;> first | (exact absurd hs (by decide)) | skip
    all_goals
      have hkp := dig10_pos hr
      clear hs
      generalize hR : m % n = R at *
      obtain ⟨kk, hkk⟩ : ∃ kk, kk = (dig 10 R).length := ⟨_, rfl⟩
      rw [← hkk] at hkp
      have HKK := Lib.hid hkk
      have HR := Lib.hid hR
      clear hr hkk hR
      go_enter Tryz.func140, Tryz.ntmps140
      go_wp2_with fail
      refine (HD1.out _).mono ?_
      rintro e1 w1 ⟨v1, rfl, hv1, hb1⟩
      obtain ⟨a1, k1, c1, rfl⟩ := hv1.shape
      go_wp2_with fail
      refine (HD2.out _).mono ?_
      rintro e2 w2 ⟨v2, rfl, hv2, hb2⟩
      obtain ⟨a2, k2, c2, rfl⟩ := hv2.shape
      have hv1' := hv1.keep hb2
      have hB2 : Below w.heap.size w w2 := hb1.trans (hb2.mono hb1.size)
      have HV1 := Lib.hid hv1'
      have HV2 := Lib.hid hv2
      clear hv1 hv1' hv2 hb1 hb2
      go_wp2_with fail
      refine (rdivided_any _ _ _ _ _ HV1.out HV2.out HN0.out (by have := HL1.out; omega) (by have := HL2.out; omega)).mono ?_
      rintro e3 w3 ⟨v3, v4, rfl, hv3, hv4, hb3⟩
      obtain ⟨a3, k3, c3, rfl⟩ := hv3.shape
      rw [HR.out] at hv4
      obtain ⟨a4, c4, rfl⟩ := Rd.shape hv4
      rw [← HKK.out]
      have HV3 := Lib.hid hv3
      have hB3 : Below w.heap.size w w3 := hB2.trans (hb3.mono hB2.size)
      clear hv3 hb3 hB2 hv4
      go_wp2_with fail
      refine (HM1.out _).mono ?_
      rintro e w1' ⟨rfl, rfl⟩
      go_wp2_with fail
      refine (HM2.out _).mono ?_
      rintro e w1' ⟨rfl, rfl⟩
      go_wp2_with fail
      refine (text_R _ _ _ _ _ HV3.out (by have := HLL.out; omega) HZ.out).mono ?_
      rintro e4 w4 ⟨rfl, hb4⟩
      have hB4 : Below w.heap.size w w4 := hB3.trans (hb4.mono hB3.size)
      clear hb4 hB3
      go_wp2_with fail
      refine (HM1.out _).mono ?_
      rintro e w1' ⟨rfl, rfl⟩
      go_wp2_with fail
      refine (HM2.out _).mono ?_
      rintro e w1' ⟨rfl, rfl⟩
      go_wp2
      go_ret
      exact ⟨rfl, hB4⟩
  · cases p <;> cases q <;> first | (exact absurd hs (by decide)) | skip
    all_goals
      have hkp := dig10_pos hr
      clear hs
      generalize hR : m % n = R at *
      obtain ⟨kk, hkk⟩ : ∃ kk, kk = (dig 10 R).length := ⟨_, rfl⟩
      rw [← hkk] at hkp
      have HKK := Lib.hid hkk
      have HR := Lib.hid hR
      clear hr hkk hR
      go_enter Tryz.func140, Tryz.ntmps140
      go_wp2_with fail
      refine (HD1.out _).mono ?_
      rintro e1 w1 ⟨v1, rfl, hv1, hb1⟩
      obtain ⟨a1, k1, c1, rfl⟩ := hv1.shape
      go_wp2_with fail
      refine (HD2.out _).mono ?_
      rintro e2 w2 ⟨v2, rfl, hv2, hb2⟩
      obtain ⟨a2, k2, c2, rfl⟩ := hv2.shape
      have hv1' := hv1.keep hb2
      have hB2 : Below w.heap.size w w2 := hb1.trans (hb2.mono hb1.size)
      have HV1 := Lib.hid hv1'
      have HV2 := Lib.hid hv2
      clear hv1 hv1' hv2 hb1 hb2
      go_wp2_with fail
      refine (rdivided_any _ _ _ _ _ HV1.out HV2.out HN0.out (by have := HL1.out; omega) (by have := HL2.out; omega)).mono ?_
      rintro e3 w3 ⟨v3, v4, rfl, hv3, hv4, hb3⟩
      obtain ⟨a3, k3, c3, rfl⟩ := hv3.shape
      rw [HR.out] at hv4
      obtain ⟨a4, c4, rfl⟩ := Rd.shape hv4
      rw [← HKK.out]
      have HV3 := Lib.hid hv3
      have hB3 : Below w.heap.size w w3 := hB2.trans (hb3.mono hB2.size)
      clear hv3 hb3 hB2 hv4
      go_wp2_with fail
      refine (HM1.out _).mono ?_
      rintro e w1' ⟨rfl, rfl⟩
      go_wp2_with fail
      refine (HM2.out _).mono ?_
      rintro e w1' ⟨rfl, rfl⟩
      go_wp2_with fail
      refine (text_R _ _ _ _ _ HV3.out (by have := HLL.out; omega) HZ.out).mono ?_
      rintro e4 w4 ⟨rfl, hb4⟩
      have hB4 : Below w.heap.size w w4 := hB3.trans (hb4.mono hB3.size)
      clear hb4 hB3
      go_wp2_with fail
      refine (HM1.out _).mono ?_
      rintro e w1' ⟨rfl, rfl⟩
      go_wp2_with fail
      refine (HM2.out _).mono ?_
      rintro e w1' ⟨rfl, rfl⟩
      go_wp2_with fail
      refine (HLS.out _).mono ?_
      rintro e5 w5 ⟨rfl, hb5⟩
      go_wp2
      go_ret
      exact ⟨rfl, hB4.trans (hb5.mono hB4.size)⟩

theorem few_qz {d : Nat} {a b : Int} (ha : Few d a) (hb0 : b ≠ 0) : Few d (qz a b) := ha.of_le (qz_le a b hb0)
theorem few_rz {d : Nat} {a b : Int} (hb : Few d b) (hb0 : b ≠ 0) : Few d (rz a b) := hb.of_le (Nat.le_of_lt (rz_le a b hb0))

set_option maxRecDepth 100000 in
theorem rrest_any {d : Nat} (a b : Int) (ha : Few d a) (hb : Few d b) (hb0 : b ≠ 0) (h1 : 1 ≤ d) (hd : d ≤ 40000) (w : World) : Calls Tryz.prog 107 #[.string (T a), .string (T b)] w (OutR w (T (rz a b))) := by
  have H1 := Lib.hid (fun w => rdown_any a b ha hb hb0 h1 (by omega) w)
  have H2 := Lib.hid (fun w => rtimes_any b (qz a b) hb (few_qz ha hb0) h1 (by omega) h1 (by omega) w)
  have H3 : Hid (∀ w, Calls Tryz.prog 68 #[.string (T a), .string (T (b * qz a b))] w (OutR w (T (rz a b)))) := fun w =>
    rless_any (d := d + d) a (b * qz a b) (ha.le (by omega)) (hb.mul (few_qz ha hb0)) (by omega) (by omega) w
  generalize T (rz a b) = R at *
  generalize T (b * qz a b) = U at *
  generalize T (qz a b) = Q at *
  generalize T a = X at *
  generalize T b = Y at *
  clear ha hb hb0
  go_enter Tryz.func107, Tryz.ntmps107
  go_wp2_with fail
  refine (H1.out _).mono ?_
  rintro e1 w1 ⟨rfl, hb1⟩
  go_wp2_with fail
  refine (H2.out _).mono ?_
  rintro e2 w2 ⟨rfl, hb2⟩
  have hB2 : Below w.heap.size w w2 := hb1.trans (hb2.mono hb1.size)
  go_wp2_with fail
  refine (H3.out _).mono ?_
  rintro e3 w3 ⟨rfl, hb3⟩
  go_wp2
  go_ret
  exact ⟨rfl, hB2.trans (hb3.mono hB2.size)⟩

theorem rz_nat (x y : Nat) (hy : y ≠ 0) : rz (x : Int) (y : Int) = ((x % y : Nat) : Int) := by
  have h := (qz_same (x := (x : Int)) (y := (y : Int)) (by omega) (.inl (by constructor <;> intro h <;> omega))).2
  rw [if_neg (by omega), Int.natAbs_natCast, Int.natAbs_natCast] at h
  exact h

theorem few_nat {d n : Nat} (h : n < 10 ^ d) : Few d (n : Int) := by unfold Few; rwa [Int.natAbs_natCast]

set_option maxHeartbeats 1600000 in
set_option maxRecDepth 100000 in
theorem rcommon_any {d : Nat} (a b : Int) (ha : Few d a) (hb : Few d b) (h1 : 1 ≤ d) (hd : d ≤ 40000) (w : World) : Calls Tryz.prog 89 #[.string (T a), .string (T b)] w (OutR w (T ((Nat.gcd a.natAbs b.natAbs : Nat) : Int))) := by
  have H1 := Lib.hid (fun w => positive_any a ha h1 (by omega) w)
  have H2 := Lib.hid (fun w => positive_any b hb h1 (by omega) w)
  have HR := Lib.hid (fun (x y : Nat) (w : World) (hx : x < 10 ^ d) (hy : y < 10 ^ d) (h0 : y ≠ 0) => rrest_any (x : Int) (y : Int) (few_nat hx) (few_nat hy) (by omega) h1 hd w)
  have HF : Hid (a.natAbs < 10 ^ d ∧ b.natAbs < 10 ^ d) := ⟨ha, hb⟩
  obtain ⟨g, hg⟩ : ∃ g, g = Nat.gcd a.natAbs b.natAbs := ⟨_, rfl⟩
  rw [← hg]
  have HG := Lib.hid hg
  generalize T a = X at *
  generalize T b = Y at *
  generalize a.natAbs = m at *
  generalize b.natAbs = n at *
  clear ha hb hg hd h1
  go_enter Tryz.func89, Tryz.ntmps89
  go_wp2_with fail
  refine (H1.out _).mono ?_
  rintro e1 w1 ⟨rfl, hb1⟩
  go_wp2_with fail
  refine (H2.out _).mono ?_
  rintro e2 w2 ⟨rfl, hb2⟩
  have hB2 : Below w.heap.size w w2 := hb1.trans (hb2.mono hb1.size)
  clear hb1 hb2
  go_wp2
  go_loopg [0, 1] n (fun gk s0 s1 wr => ∃ x y : Nat, y ≤ gk ∧ s0 = .string (T (x : Int)) ∧ s1 = .string (T (y : Int)) ∧ Nat.gcd x y = g ∧ x < 10 ^ d ∧ y < 10 ^ d ∧ Below w.heap.size w wr)
  case atStart => exact ⟨m, n, Nat.le_refl _, rfl, rfl, HG.out.symm, HF.out.1, HF.out.2, hB2⟩
  case round =>
    obtain ⟨x, y, hyk, rfl, rfl, hgc, hx, hy, hB⟩ := hrel
    have heq := T_zero (y : Int)
    have HGC : Hid (Nat.gcd x y = g ∧ x < 10 ^ d ∧ y < 10 ^ d) := ⟨hgc, hx, hy⟩
    by_cases h0 : y = 0
    · rw [decide_eq_true (by omega)] at heq
      have hgx : x = g := by rw [← hgc, h0, Nat.gcd_zero_right]
      have HGX := Lib.hid hgx
      clear hgx hgc hx hy h0
      generalize T (y : Int) = YY at *
      go_wp2
      go_ret
      exact ⟨by rw [HGX.out]; rfl, hB⟩
    · rw [decide_eq_false (by omega)] at heq
      have C := Lib.hid (fun w => HR.out x y w hx hy h0)
      rw [rz_nat x y h0] at C
      have hlt := Nat.mod_lt x (Nat.pos_of_ne_zero h0)
      have HM : Hid (Nat.gcd y (x % y) = g ∧ y < 10 ^ d ∧ x % y < 10 ^ d) := ⟨by rw [← gcd_go]; exact hgc, hy, Nat.lt_trans hlt hy⟩
      clear hgc hx hy h0 HGC
      obtain ⟨z, hz⟩ : ∃ z, z = x % y := ⟨_, rfl⟩
      rw [← hz] at C HM hlt
      obtain ⟨YY, hYY⟩ : ∃ YY, YY = T (y : Int) := ⟨_, rfl⟩
      rw [← hYY] at C heq ⊢
      have HYY := Lib.hid hYY
      clear hz hYY
      go_wp2_with fail
      refine (C.out _).mono ?_
      rintro e3 w3 ⟨rfl, hb3⟩
      have hB3 : Below w.heap.size w w3 := hB.trans (hb3.mono hB.size)
      clear hb3
      go_wp2
      go_roundg z
      case measure => omega
      case rel => exact ⟨y, z, Nat.le_refl _, by rw [HYY.out], rfl, HM.out.1, HM.out.2.1, HM.out.2.2, hB3⟩
end Go.Proofs.YtnfmcdfdbipeoaaGreatDoor

namespace Go.Proofs.YtnfmcdfdbipeoaaGreatDoor
open Go.RowKit Go.Proofs.Num

/-- The text at a place. -/
def sat (ss : List ByteArray) (j : Nat) : ByteArray := ss.getD j ByteArray.empty
/-- At an address the texts of a list lie. -/
def TsAt (w : World) (a : Option Addr) (ss : List ByteArray) : Prop :=
  ∀ j, j < ss.length → ∃ b off, a = some ⟨b, off, none⟩ ∧ b < w.heap.size ∧ w.cell? ⟨b, off + j, none⟩ = some (.string (sat ss j))
theorem TsAt.keep {w w' : World} {a : Option Addr} {ss : List ByteArray} (h : TsAt w a ss) (hb : Below w.heap.size w w') : TsAt w' a ss := by
  intro j hj
  obtain ⟨b, off, rfl, hlt, hc⟩ := h j hj
  exact ⟨b, off, rfl, Nat.lt_of_lt_of_le hlt hb.size, (hb.cell (p := ⟨b, off + j, none⟩) hlt).trans hc⟩

set_option maxHeartbeats 3200000 in
set_option maxRecDepth 100000 in
theorem chain_f_many (a : Option Addr) (n cap : Nat) (hl : 16 < n) (w : World) :
    Calls Tryz.prog 59 #[.slice a n cap, (.func (.func 67) #[] #[])] w (fun e w' => e = .returned (.int .i64 5) ∧ Below w.heap.size w w') := by
  have d0 : decide (16 < ((n : Nat) : Int)) = true := decide_eq_true (by omega)
  go_enter Tryz.func59, Tryz.ntmps59
  go_wp2
  go_ret
  exact ⟨rfl, Below.refl _ _⟩

set_option maxHeartbeats 3200000 in
set_option maxRecDepth 100000 in
theorem chain_f_one (a : Option Addr) (cap : Nat) (L : List ByteArray) (hl : L.length ≤ 16) (p : Nat) (hp : p < L.length) (k : Nat) (hk : k ≠ 0) (la : Nat → ByteArray) (H0 : Hid (la 0 = ⟨#[49]⟩)) (HN : Hid (∀ j, la (j + 1) = sat L j))
    (HO : Hid (∀ j, j < p → ∀ w, Tab w → Calls Tryz.prog 67 #[.string (sat L j)] w (fun e w' => e = .returned (.int .i64 0) ∧ Below w.heap.size w w')))
    (HM : Hid (∀ j, j < p → ∀ w, Tab w → Calls Tryz.prog 46 #[.string (sat L j), .string (la j)] w (fun e w' => e = .returned (.tuple #[.string ⟨#[48]⟩, .int .i64 0]) ∧ Below w.heap.size w w')))
    (HB : Hid (∀ w, Tab w → Calls Tryz.prog 67 #[.string (sat L p)] w (fun e w' => e = .returned (.int .i64 ((k : Nat) : Int)) ∧ Below w.heap.size w w'))) (w : World) (h : TsAt w a L) (hT : Tab w) :
    Calls Tryz.prog 59 #[.slice a L.length cap, (.func (.func 67) #[] #[])] w (fun e w' => e = .returned (.int .i64 ((k : Nat) : Int)) ∧ Below w.heap.size w w') := by
  have d0 : decide (16 < ((L.length : Nat) : Int)) = false := decide_eq_false (by omega)
  have HT := Lib.hid hT
  have H := Lib.hid h
  have hk0 : ¬ ((k : Nat) : Int) = 0 := by omega
  have hk1 : (((k : Nat) : Int) != 0) = true := by simp; omega
  clear hk
  clear h hT
  go_enter Tryz.func59, Tryz.ntmps59
  go_wp2
  go_loopw [5, 16] (fun l v wr => ∃ i : Nat, i ≤ p ∧ v = .int .i64 i ∧ l = .string (la i) ∧ Below w.heap.size w wr) (fun _ v _ => p - (intOf v).toNat)
  case atStart => exact ⟨0, Nat.zero_le _, rfl, by rw [H0.out], Below.refl _ _⟩
  case round =>
    obtain ⟨i, hi, rfl, rfl, hB⟩ := hrel
    by_cases hlt : i < p
    · have hiL : i < L.length := by omega
      obtain ⟨b, off, rfl, hb, hc⟩ := (H.out.keep hB) i hiL
      have C := Lib.hid (fun w => HO.out i hlt w)
      have D := Lib.hid (fun w => HM.out i hlt w)
      have E := Lib.hid (HN.out i)
      go_wp2_with fail
      refine (C.out _ (HT.out.keep hB)).mono ?_
      rintro e w1 ⟨rfl, hb1⟩
      have hB1 : Below w.heap.size w w1 := hB.trans (hb1.mono hB.size)
      clear hb1 hc
      go_wp2_with fail
      refine (D.out _ (HT.out.keep hB1)).mono ?_
      rintro e w2 ⟨rfl, hb2⟩
      have hB2 : Below w.heap.size w w2 := hB1.trans (hb2.mono hB1.size)
      clear hb2
      go_wp2
      go_roundw
      case rel => exact ⟨i + 1, by omega, by go_num, by rw [E.out], hB2⟩
      case measure => simp [intOf]; omega
    · obtain rfl : i = p := by omega
      obtain ⟨b, off, rfl, hb, hc⟩ := (H.out.keep hB) i hp
      go_wp2_with fail
      refine (HB.out _ (HT.out.keep hB)).mono ?_
      rintro e w1 ⟨rfl, hb1⟩
      have hB1 : Below w.heap.size w w1 := hB.trans (hb1.mono hB.size)
      clear hb1 hc
      go_wp2
      go_ret
      exact ⟨rfl, hB1⟩

set_option maxHeartbeats 3200000 in
set_option maxRecDepth 100000 in
theorem chain_f_order (a : Option Addr) (cap : Nat) (L : List ByteArray) (hl : L.length ≤ 16) (p : Nat) (hp : p < L.length) (S : ByteArray) (c : Nat) (hS : (S.toList == [48]) = false) (la : Nat → ByteArray) (H0 : Hid (la 0 = ⟨#[49]⟩)) (HN : Hid (∀ j, la (j + 1) = sat L j))
    (HO : Hid (∀ j, j < p → ∀ w, Tab w → Calls Tryz.prog 67 #[.string (sat L j)] w (fun e w' => e = .returned (.int .i64 0) ∧ Below w.heap.size w w')))
    (HM : Hid (∀ j, j < p → ∀ w, Tab w → Calls Tryz.prog 46 #[.string (sat L j), .string (la j)] w (fun e w' => e = .returned (.tuple #[.string ⟨#[48]⟩, .int .i64 0]) ∧ Below w.heap.size w w')))
    (HB : Hid (∀ w, Tab w → Calls Tryz.prog 67 #[.string (sat L p)] w (fun e w' => e = .returned (.int .i64 0) ∧ Below w.heap.size w w')))
    (HB2 : Hid (∀ w, Tab w → Calls Tryz.prog 46 #[.string (sat L p), .string (la p)] w (fun e w' => e = .returned (.tuple #[.string S, .int .i64 ((c : Nat) : Int)]) ∧ Below w.heap.size w w'))) (w : World) (h : TsAt w a L) (hT : Tab w) :
    Calls Tryz.prog 59 #[.slice a L.length cap, (.func (.func 67) #[] #[])] w (fun e w' => e = .returned (.int .i64 9) ∧ Below w.heap.size w w') := by
  have d0 : decide (16 < ((L.length : Nat) : Int)) = false := decide_eq_false (by omega)
  have HT := Lib.hid hT
  have H := Lib.hid h
  clear h hT
  go_enter Tryz.func59, Tryz.ntmps59
  go_wp2
  go_loopw [5, 16] (fun l v wr => ∃ i : Nat, i ≤ p ∧ v = .int .i64 i ∧ l = .string (la i) ∧ Below w.heap.size w wr) (fun _ v _ => p - (intOf v).toNat)
  case atStart => exact ⟨0, Nat.zero_le _, rfl, by rw [H0.out], Below.refl _ _⟩
  case round =>
    obtain ⟨i, hi, rfl, rfl, hB⟩ := hrel
    by_cases hlt : i < p
    · have hiL : i < L.length := by omega
      obtain ⟨b, off, rfl, hb, hc⟩ := (H.out.keep hB) i hiL
      have C := Lib.hid (fun w => HO.out i hlt w)
      have D := Lib.hid (fun w => HM.out i hlt w)
      have E := Lib.hid (HN.out i)
      go_wp2_with fail
      refine (C.out _ (HT.out.keep hB)).mono ?_
      rintro e w1 ⟨rfl, hb1⟩
      have hB1 : Below w.heap.size w w1 := hB.trans (hb1.mono hB.size)
      clear hb1 hc
      go_wp2_with fail
      refine (D.out _ (HT.out.keep hB1)).mono ?_
      rintro e w2 ⟨rfl, hb2⟩
      have hB2 : Below w.heap.size w w2 := hB1.trans (hb2.mono hB1.size)
      clear hb2
      go_wp2
      go_roundw
      case rel => exact ⟨i + 1, by omega, by go_num, by rw [E.out], hB2⟩
      case measure => simp [intOf]; omega
    · obtain rfl : i = p := by omega
      obtain ⟨b, off, rfl, hb, hc⟩ := (H.out.keep hB) i hp
      go_wp2_with fail
      refine (HB.out _ (HT.out.keep hB)).mono ?_
      rintro e w1 ⟨rfl, hb1⟩
      have hB1 : Below w.heap.size w w1 := hB.trans (hb1.mono hB.size)
      clear hb1 hc
      go_wp2_with fail
      refine (HB2.out _ (HT.out.keep hB1)).mono ?_
      rintro e w2 ⟨rfl, hb2⟩
      have hB2 : Below w.heap.size w w2 := hB1.trans (hb2.mono hB1.size)
      clear hb2
      go_wp2
      go_ret
      exact ⟨rfl, hB2⟩

set_option maxHeartbeats 3200000 in
set_option maxRecDepth 100000 in
theorem chain_f_ok (a : Option Addr) (cap : Nat) (L : List ByteArray) (hl : L.length ≤ 16) (la : Nat → ByteArray) (H0 : Hid (la 0 = ⟨#[49]⟩)) (HN : Hid (∀ j, la (j + 1) = sat L j))
    (HO : Hid (∀ j, j < L.length → ∀ w, Tab w → Calls Tryz.prog 67 #[.string (sat L j)] w (fun e w' => e = .returned (.int .i64 0) ∧ Below w.heap.size w w')))
    (HM : Hid (∀ j, j < L.length → ∀ w, Tab w → Calls Tryz.prog 46 #[.string (sat L j), .string (la j)] w (fun e w' => e = .returned (.tuple #[.string ⟨#[48]⟩, .int .i64 0]) ∧ Below w.heap.size w w'))) (w : World) (h : TsAt w a L) (hT : Tab w) :
    Calls Tryz.prog 59 #[.slice a L.length cap, (.func (.func 67) #[] #[])] w (fun e w' => e = .returned (.int .i64 0) ∧ Below w.heap.size w w') := by
  have d0 : decide (16 < ((L.length : Nat) : Int)) = false := decide_eq_false (by omega)
  have HT := Lib.hid hT
  have H := Lib.hid h
  clear h hT
  go_enter Tryz.func59, Tryz.ntmps59
  go_wp2
  go_loopw [5, 16] (fun l v wr => ∃ i : Nat, i ≤ L.length ∧ v = .int .i64 i ∧ l = .string (la i) ∧ Below w.heap.size w wr) (fun _ v _ => L.length - (intOf v).toNat)
  case atStart => exact ⟨0, Nat.zero_le _, rfl, by rw [H0.out], Below.refl _ _⟩
  case round =>
    obtain ⟨i, hi, rfl, rfl, hB⟩ := hrel
    by_cases hlt : i < L.length
    · have hiL : i < L.length := by omega
      obtain ⟨b, off, rfl, hb, hc⟩ := (H.out.keep hB) i hiL
      have C := Lib.hid (fun w => HO.out i hlt w)
      have D := Lib.hid (fun w => HM.out i hlt w)
      have E := Lib.hid (HN.out i)
      go_wp2_with fail
      refine (C.out _ (HT.out.keep hB)).mono ?_
      rintro e w1 ⟨rfl, hb1⟩
      have hB1 : Below w.heap.size w w1 := hB.trans (hb1.mono hB.size)
      clear hb1 hc
      go_wp2_with fail
      refine (D.out _ (HT.out.keep hB1)).mono ?_
      rintro e w2 ⟨rfl, hb2⟩
      have hB2 : Below w.heap.size w w2 := hB1.trans (hb2.mono hB1.size)
      clear hb2
      go_wp2
      go_roundw
      case rel => exact ⟨i + 1, by omega, by go_num, by rw [E.out], hB2⟩
      case measure => simp [intOf]; omega
    · obtain rfl : i = L.length := by omega
      go_wp2
      go_ret
      exact ⟨rfl, hB⟩

set_option maxHeartbeats 3200000 in
set_option maxRecDepth 100000 in
theorem chain_d_many (a : Option Addr) (n cap : Nat) (hl : 16 < n) (w : World) :
    Calls Tryz.prog 59 #[.slice a n cap, (.func (.func 60) #[] #[])] w (fun e w' => e = .returned (.int .i64 5) ∧ Below w.heap.size w w') := by
  have d0 : decide (16 < ((n : Nat) : Int)) = true := decide_eq_true (by omega)
  go_enter Tryz.func59, Tryz.ntmps59
  go_wp2
  go_ret
  exact ⟨rfl, Below.refl _ _⟩

set_option maxHeartbeats 3200000 in
set_option maxRecDepth 100000 in
theorem chain_d_one (a : Option Addr) (cap : Nat) (L : List ByteArray) (hl : L.length ≤ 16) (p : Nat) (hp : p < L.length) (k : Nat) (hk : k ≠ 0) (la : Nat → ByteArray) (H0 : Hid (la 0 = ⟨#[49]⟩)) (HN : Hid (∀ j, la (j + 1) = sat L j))
    (HO : Hid (∀ j, j < p → ∀ w, Tab w → Calls Tryz.prog 60 #[.string (sat L j)] w (fun e w' => e = .returned (.int .i64 0) ∧ Below w.heap.size w w')))
    (HM : Hid (∀ j, j < p → ∀ w, Tab w → Calls Tryz.prog 46 #[.string (sat L j), .string (la j)] w (fun e w' => e = .returned (.tuple #[.string ⟨#[48]⟩, .int .i64 0]) ∧ Below w.heap.size w w')))
    (HB : Hid (∀ w, Tab w → Calls Tryz.prog 60 #[.string (sat L p)] w (fun e w' => e = .returned (.int .i64 ((k : Nat) : Int)) ∧ Below w.heap.size w w'))) (w : World) (h : TsAt w a L) (hT : Tab w) :
    Calls Tryz.prog 59 #[.slice a L.length cap, (.func (.func 60) #[] #[])] w (fun e w' => e = .returned (.int .i64 ((k : Nat) : Int)) ∧ Below w.heap.size w w') := by
  have d0 : decide (16 < ((L.length : Nat) : Int)) = false := decide_eq_false (by omega)
  have HT := Lib.hid hT
  have H := Lib.hid h
  have hk0 : ¬ ((k : Nat) : Int) = 0 := by omega
  have hk1 : (((k : Nat) : Int) != 0) = true := by simp; omega
  clear hk
  clear h hT
  go_enter Tryz.func59, Tryz.ntmps59
  go_wp2
  go_loopw [5, 16] (fun l v wr => ∃ i : Nat, i ≤ p ∧ v = .int .i64 i ∧ l = .string (la i) ∧ Below w.heap.size w wr) (fun _ v _ => p - (intOf v).toNat)
  case atStart => exact ⟨0, Nat.zero_le _, rfl, by rw [H0.out], Below.refl _ _⟩
  case round =>
    obtain ⟨i, hi, rfl, rfl, hB⟩ := hrel
    by_cases hlt : i < p
    · have hiL : i < L.length := by omega
      obtain ⟨b, off, rfl, hb, hc⟩ := (H.out.keep hB) i hiL
      have C := Lib.hid (fun w => HO.out i hlt w)
      have D := Lib.hid (fun w => HM.out i hlt w)
      have E := Lib.hid (HN.out i)
      go_wp2_with fail
      refine (C.out _ (HT.out.keep hB)).mono ?_
      rintro e w1 ⟨rfl, hb1⟩
      have hB1 : Below w.heap.size w w1 := hB.trans (hb1.mono hB.size)
      clear hb1 hc
      go_wp2_with fail
      refine (D.out _ (HT.out.keep hB1)).mono ?_
      rintro e w2 ⟨rfl, hb2⟩
      have hB2 : Below w.heap.size w w2 := hB1.trans (hb2.mono hB1.size)
      clear hb2
      go_wp2
      go_roundw
      case rel => exact ⟨i + 1, by omega, by go_num, by rw [E.out], hB2⟩
      case measure => simp [intOf]; omega
    · obtain rfl : i = p := by omega
      obtain ⟨b, off, rfl, hb, hc⟩ := (H.out.keep hB) i hp
      go_wp2_with fail
      refine (HB.out _ (HT.out.keep hB)).mono ?_
      rintro e w1 ⟨rfl, hb1⟩
      have hB1 : Below w.heap.size w w1 := hB.trans (hb1.mono hB.size)
      clear hb1 hc
      go_wp2
      go_ret
      exact ⟨rfl, hB1⟩

set_option maxHeartbeats 3200000 in
set_option maxRecDepth 100000 in
theorem chain_d_order (a : Option Addr) (cap : Nat) (L : List ByteArray) (hl : L.length ≤ 16) (p : Nat) (hp : p < L.length) (S : ByteArray) (c : Nat) (hS : (S.toList == [48]) = false) (la : Nat → ByteArray) (H0 : Hid (la 0 = ⟨#[49]⟩)) (HN : Hid (∀ j, la (j + 1) = sat L j))
    (HO : Hid (∀ j, j < p → ∀ w, Tab w → Calls Tryz.prog 60 #[.string (sat L j)] w (fun e w' => e = .returned (.int .i64 0) ∧ Below w.heap.size w w')))
    (HM : Hid (∀ j, j < p → ∀ w, Tab w → Calls Tryz.prog 46 #[.string (sat L j), .string (la j)] w (fun e w' => e = .returned (.tuple #[.string ⟨#[48]⟩, .int .i64 0]) ∧ Below w.heap.size w w')))
    (HB : Hid (∀ w, Tab w → Calls Tryz.prog 60 #[.string (sat L p)] w (fun e w' => e = .returned (.int .i64 0) ∧ Below w.heap.size w w')))
    (HB2 : Hid (∀ w, Tab w → Calls Tryz.prog 46 #[.string (sat L p), .string (la p)] w (fun e w' => e = .returned (.tuple #[.string S, .int .i64 ((c : Nat) : Int)]) ∧ Below w.heap.size w w'))) (w : World) (h : TsAt w a L) (hT : Tab w) :
    Calls Tryz.prog 59 #[.slice a L.length cap, (.func (.func 60) #[] #[])] w (fun e w' => e = .returned (.int .i64 9) ∧ Below w.heap.size w w') := by
  have d0 : decide (16 < ((L.length : Nat) : Int)) = false := decide_eq_false (by omega)
  have HT := Lib.hid hT
  have H := Lib.hid h
  clear h hT
  go_enter Tryz.func59, Tryz.ntmps59
  go_wp2
  go_loopw [5, 16] (fun l v wr => ∃ i : Nat, i ≤ p ∧ v = .int .i64 i ∧ l = .string (la i) ∧ Below w.heap.size w wr) (fun _ v _ => p - (intOf v).toNat)
  case atStart => exact ⟨0, Nat.zero_le _, rfl, by rw [H0.out], Below.refl _ _⟩
  case round =>
    obtain ⟨i, hi, rfl, rfl, hB⟩ := hrel
    by_cases hlt : i < p
    · have hiL : i < L.length := by omega
      obtain ⟨b, off, rfl, hb, hc⟩ := (H.out.keep hB) i hiL
      have C := Lib.hid (fun w => HO.out i hlt w)
      have D := Lib.hid (fun w => HM.out i hlt w)
      have E := Lib.hid (HN.out i)
      go_wp2_with fail
      refine (C.out _ (HT.out.keep hB)).mono ?_
      rintro e w1 ⟨rfl, hb1⟩
      have hB1 : Below w.heap.size w w1 := hB.trans (hb1.mono hB.size)
      clear hb1 hc
      go_wp2_with fail
      refine (D.out _ (HT.out.keep hB1)).mono ?_
      rintro e w2 ⟨rfl, hb2⟩
      have hB2 : Below w.heap.size w w2 := hB1.trans (hb2.mono hB1.size)
      clear hb2
      go_wp2
      go_roundw
      case rel => exact ⟨i + 1, by omega, by go_num, by rw [E.out], hB2⟩
      case measure => simp [intOf]; omega
    · obtain rfl : i = p := by omega
      obtain ⟨b, off, rfl, hb, hc⟩ := (H.out.keep hB) i hp
      go_wp2_with fail
      refine (HB.out _ (HT.out.keep hB)).mono ?_
      rintro e w1 ⟨rfl, hb1⟩
      have hB1 : Below w.heap.size w w1 := hB.trans (hb1.mono hB.size)
      clear hb1 hc
      go_wp2_with fail
      refine (HB2.out _ (HT.out.keep hB1)).mono ?_
      rintro e w2 ⟨rfl, hb2⟩
      have hB2 : Below w.heap.size w w2 := hB1.trans (hb2.mono hB1.size)
      clear hb2
      go_wp2
      go_ret
      exact ⟨rfl, hB2⟩

set_option maxHeartbeats 3200000 in
set_option maxRecDepth 100000 in
theorem chain_d_ok (a : Option Addr) (cap : Nat) (L : List ByteArray) (hl : L.length ≤ 16) (la : Nat → ByteArray) (H0 : Hid (la 0 = ⟨#[49]⟩)) (HN : Hid (∀ j, la (j + 1) = sat L j))
    (HO : Hid (∀ j, j < L.length → ∀ w, Tab w → Calls Tryz.prog 60 #[.string (sat L j)] w (fun e w' => e = .returned (.int .i64 0) ∧ Below w.heap.size w w')))
    (HM : Hid (∀ j, j < L.length → ∀ w, Tab w → Calls Tryz.prog 46 #[.string (sat L j), .string (la j)] w (fun e w' => e = .returned (.tuple #[.string ⟨#[48]⟩, .int .i64 0]) ∧ Below w.heap.size w w'))) (w : World) (h : TsAt w a L) (hT : Tab w) :
    Calls Tryz.prog 59 #[.slice a L.length cap, (.func (.func 60) #[] #[])] w (fun e w' => e = .returned (.int .i64 0) ∧ Below w.heap.size w w') := by
  have d0 : decide (16 < ((L.length : Nat) : Int)) = false := decide_eq_false (by omega)
  have HT := Lib.hid hT
  have H := Lib.hid h
  clear h hT
  go_enter Tryz.func59, Tryz.ntmps59
  go_wp2
  go_loopw [5, 16] (fun l v wr => ∃ i : Nat, i ≤ L.length ∧ v = .int .i64 i ∧ l = .string (la i) ∧ Below w.heap.size w wr) (fun _ v _ => L.length - (intOf v).toNat)
  case atStart => exact ⟨0, Nat.zero_le _, rfl, by rw [H0.out], Below.refl _ _⟩
  case round =>
    obtain ⟨i, hi, rfl, rfl, hB⟩ := hrel
    by_cases hlt : i < L.length
    · have hiL : i < L.length := by omega
      obtain ⟨b, off, rfl, hb, hc⟩ := (H.out.keep hB) i hiL
      have C := Lib.hid (fun w => HO.out i hlt w)
      have D := Lib.hid (fun w => HM.out i hlt w)
      have E := Lib.hid (HN.out i)
      go_wp2_with fail
      refine (C.out _ (HT.out.keep hB)).mono ?_
      rintro e w1 ⟨rfl, hb1⟩
      have hB1 : Below w.heap.size w w1 := hB.trans (hb1.mono hB.size)
      clear hb1 hc
      go_wp2_with fail
      refine (D.out _ (HT.out.keep hB1)).mono ?_
      rintro e w2 ⟨rfl, hb2⟩
      have hB2 : Below w.heap.size w w2 := hB1.trans (hb2.mono hB1.size)
      clear hb2
      go_wp2
      go_roundw
      case rel => exact ⟨i + 1, by omega, by go_num, by rw [E.out], hB2⟩
      case measure => simp [intOf]; omega
    · obtain rfl : i = L.length := by omega
      go_wp2
      go_ret
      exact ⟨rfl, hB⟩

set_option maxHeartbeats 3200000 in
set_option maxRecDepth 100000 in
theorem product_ok (a : Option Addr) (cap : Nat) (L : List ByteArray) (hl : L.length ≤ 100000) (P : Nat → ByteArray) (H0 : Hid (P 0 = ⟨#[49]⟩)) (HM : Hid (∀ j, j < L.length → ∀ w, Tab w → Calls Tryz.prog 49 #[.string (P j), .string (sat L j)] w (fun e w' => e = .returned (.tuple #[.string (P (j + 1)), .int .i64 0]) ∧ Below w.heap.size w w'))) (w : World) (h : TsAt w a L) (hT : Tab w) :
    Calls Tryz.prog 63 #[.slice a L.length cap] w (fun e w' => e = .returned (.tuple #[.string (P L.length), .int .i64 0]) ∧ Below w.heap.size w w') := by
  have HT := Lib.hid hT
  have H := Lib.hid h
  clear h hT
  go_enter Tryz.func63, Tryz.ntmps63
  go_wp2
  go_loopw [4, 11] (fun l v wr => ∃ i : Nat, i ≤ L.length ∧ v = .int .i64 i ∧ l = .string (P i) ∧ Below w.heap.size w wr) (fun _ v _ => L.length - (intOf v).toNat)
  case atStart => exact ⟨0, Nat.zero_le _, rfl, by rw [H0.out], Below.refl _ _⟩
  case round =>
    obtain ⟨i, hi, rfl, rfl, hB⟩ := hrel
    by_cases hlt : i < L.length
    · have hiL : i < L.length := by omega
      obtain ⟨b, off, rfl, hb, hc⟩ := (H.out.keep hB) i hiL
      have C := Lib.hid (fun w => HM.out i hlt w)
      go_wp2_with fail
      refine (C.out _ (HT.out.keep hB)).mono ?_
      rintro e w1 ⟨rfl, hb1⟩
      have hB1 : Below w.heap.size w w1 := hB.trans (hb1.mono hB.size)
      clear hb1 hc
      go_wp2
      go_roundw
      case rel => exact ⟨i + 1, by omega, by go_num, rfl, hB1⟩
      case measure => simp [intOf]; omega
    · obtain rfl : i = L.length := by omega
      go_wp2
      go_ret2
      exact ⟨rfl, hB⟩

set_option maxHeartbeats 3200000 in
set_option maxRecDepth 100000 in
theorem product_bad (a : Option Addr) (cap : Nat) (L : List ByteArray) (hl : L.length ≤ 100000) (p : Nat) (hp : p < L.length) (k : Nat) (hk : k ≠ 0) (P : Nat → ByteArray) (H0 : Hid (P 0 = ⟨#[49]⟩)) (HM : Hid (∀ j, j < p → ∀ w, Tab w → Calls Tryz.prog 49 #[.string (P j), .string (sat L j)] w (fun e w' => e = .returned (.tuple #[.string (P (j + 1)), .int .i64 0]) ∧ Below w.heap.size w w'))) (HB : Hid (∀ w, Tab w → Calls Tryz.prog 49 #[.string (P p), .string (sat L p)] w (fun e w' => e = .returned (.tuple #[.string ⟨#[]⟩, .int .i64 ((k : Nat) : Int)]) ∧ Below w.heap.size w w'))) (w : World) (h : TsAt w a L) (hT : Tab w) :
    Calls Tryz.prog 63 #[.slice a L.length cap] w (fun e w' => e = .returned (.tuple #[.string ⟨#[]⟩, .int .i64 ((k : Nat) : Int)]) ∧ Below w.heap.size w w') := by
  have HT := Lib.hid hT
  have H := Lib.hid h
  have hk0 : ¬ ((k : Nat) : Int) = 0 := by omega
  have hk1 : (((k : Nat) : Int) != 0) = true := by simp; omega
  clear hk
  clear h hT
  go_enter Tryz.func63, Tryz.ntmps63
  go_wp2
  go_loopw [4, 11] (fun l v wr => ∃ i : Nat, i ≤ p ∧ v = .int .i64 i ∧ l = .string (P i) ∧ Below w.heap.size w wr) (fun _ v _ => p - (intOf v).toNat)
  case atStart => exact ⟨0, Nat.zero_le _, rfl, by rw [H0.out], Below.refl _ _⟩
  case round =>
    obtain ⟨i, hi, rfl, rfl, hB⟩ := hrel
    by_cases hlt : i < p
    · have hiL : i < L.length := by omega
      obtain ⟨b, off, rfl, hb, hc⟩ := (H.out.keep hB) i hiL
      have C := Lib.hid (fun w => HM.out i hlt w)
      go_wp2_with fail
      refine (C.out _ (HT.out.keep hB)).mono ?_
      rintro e w1 ⟨rfl, hb1⟩
      have hB1 : Below w.heap.size w w1 := hB.trans (hb1.mono hB.size)
      clear hb1 hc
      go_wp2
      go_roundw
      case rel => exact ⟨i + 1, by omega, by go_num, rfl, hB1⟩
      case measure => simp [intOf]; omega
    · obtain rfl : i = p := by omega
      obtain ⟨b, off, rfl, hb, hc⟩ := (H.out.keep hB) i hp
      go_wp2_with fail
      refine (HB.out _ (HT.out.keep hB)).mono ?_
      rintro e w1 ⟨rfl, hb1⟩
      have hB1 : Below w.heap.size w w1 := hB.trans (hb1.mono hB.size)
      clear hb1 hc
      go_wp2
      go_ret2
      exact ⟨rfl, hB1⟩

set_option maxHeartbeats 3200000 in
set_option maxRecDepth 100000 in
theorem rsize_any (a : Option Addr) (cap : Nat) (L : List ByteArray) (hl : L.length ≤ 100000) (P : Nat → ByteArray) (H0 : Hid (P 0 = ⟨#[49]⟩)) (HM : Hid (∀ j, j < L.length → ∀ w, Calls Tryz.prog 69 #[.string (P j), .string (sat L j)] w (OutR w (P (j + 1))))) (w : World) (h : TsAt w a L) :
    Calls Tryz.prog 27 #[.slice a L.length cap] w (OutR w (P L.length)) := by
  have H := Lib.hid h
  unfold OutR at *
  clear h
  go_enter Tryz.func27, Tryz.ntmps27
  go_wp2
  go_loopw [3, 4] (fun l v wr => ∃ i : Nat, i ≤ L.length ∧ v = .int .i64 i ∧ l = .string (P i) ∧ Below w.heap.size w wr) (fun _ v _ => L.length - (intOf v).toNat)
  case atStart => exact ⟨0, Nat.zero_le _, rfl, by rw [H0.out], Below.refl _ _⟩
  case round =>
    obtain ⟨i, hi, rfl, rfl, hB⟩ := hrel
    by_cases hlt : i < L.length
    · obtain ⟨b, off, rfl, hb, hc⟩ := (H.out.keep hB) i hlt
      have C := Lib.hid (fun w => HM.out i hlt w)
      go_wp2_with fail
      refine (C.out _).mono ?_
      rintro e w1 ⟨rfl, hb1⟩
      have hB1 : Below w.heap.size w w1 := hB.trans (hb1.mono hB.size)
      clear hb1 hc
      go_wp2
      go_roundw
      case rel => exact ⟨i + 1, by omega, by go_num, rfl, hB1⟩
      case measure => simp [intOf]; omega
    · obtain rfl : i = L.length := by omega
      go_wp2
      go_ret
      exact ⟨rfl, hB⟩

end Go.Proofs.YtnfmcdfdbipeoaaGreatDoor

namespace Go.Proofs.YtnfmcdfdbipeoaaGreatDoor
open Go.RowKit Go.Proofs.Num

/-- The number of a text. -/
abbrev pz (s : ByteArray) : Int := parse s.data.toList
/-- The error of a text as an integer. -/
abbrev ck (s : ByteArray) : Nat := chk s.data.toList
/-- The error of a factor by itself. -/
def fck (s : ByteArray) : Nat := if ck s ≠ 0 then ck s else if pz s < 2 then 2 else 0
/-- The error of an element of a diagonal by itself. -/
def dck (s : ByteArray) : Nat := if ck s ≠ 0 then ck s else if pz s < 0 then 2 else if pz s = 0 then 10 else 0
/-- The first error of a chain behind a number. -/
def chain (one : ByteArray → Nat) : Int → List ByteArray → Nat
  | _, [] => 0
  | p, s :: t => if one s ≠ 0 then one s else if rz (pz s) p ≠ 0 then 9 else chain one (pz s) t
/-- The error of a list. -/
def gck (one : ByteArray → Nat) (L : List ByteArray) : Nat := if 16 < L.length then 5 else chain one 1 L
/-- The text before a place; 1 before the first one. -/
def la (L : List ByteArray) : Nat → ByteArray
  | 0 => T 1
  | j + 1 => sat L j
/-- The place j of a list is right. -/
def good (one : ByteArray → Nat) (L : List ByteArray) (j : Nat) : Prop := one (sat L j) = 0 ∧ rz (pz (sat L j)) (pz (la L j)) = 0

theorem sat_zero (s : ByteArray) (t : List ByteArray) : sat (s :: t) 0 = s := rfl
theorem sat_succ (s : ByteArray) (t : List ByteArray) (j : Nat) : sat (s :: t) (j + 1) = sat t j := by unfold sat; simp
theorem sat_get (ss : List ByteArray) (i : Nat) (hi : i < ss.length) : sat ss i = ss[i] := by
  unfold sat
  simp [List.getD, hi]
theorem sat_past (ss : List ByteArray) (i : Nat) (hi : ss.length ≤ i) : sat ss i = ByteArray.empty := by
  unfold sat
  simp [List.getD, hi]
theorem take_sat (ss : List ByteArray) (i : Nat) (hi : i < ss.length) : ss.take (i + 1) = ss.take i ++ [sat ss i] := by
  rw [sat_get ss i hi, List.take_succ_eq_append_getElem hi]

theorem pz_T (z : Int) : pz (T z) = z := by unfold pz; rw [T_data]; exact parse_itoa z

theorem chain_ways (one : ByteArray → Nat) : ∀ (L : List ByteArray) (p : Int),
    (chain one p L = 0 ∧ ∀ j, j < L.length → one (sat L j) = 0 ∧ rz (pz (sat L j)) (if j = 0 then p else pz (sat L (j - 1))) = 0) ∨
    (∃ q, q < L.length ∧ (∀ j, j < q → one (sat L j) = 0 ∧ rz (pz (sat L j)) (if j = 0 then p else pz (sat L (j - 1))) = 0) ∧
      ((one (sat L q) ≠ 0 ∧ chain one p L = one (sat L q)) ∨ (one (sat L q) = 0 ∧ rz (pz (sat L q)) (if q = 0 then p else pz (sat L (q - 1))) ≠ 0 ∧ chain one p L = 9)))
  | [], p => .inl ⟨rfl, fun j hj => absurd hj (by simp)⟩
  | s :: t, p => by
    unfold chain
    by_cases h1 : one s = 0
    · by_cases h2 : rz (pz s) p = 0
      · rw [if_neg (by simp [h1]), if_neg (by simp [h2])]
        rcases chain_ways one t (pz s) with ⟨h3, h4⟩ | ⟨q, hq, h4, h5⟩
        · refine .inl ⟨h3, fun j hj => ?_⟩
          rcases j with _ | j
          · exact ⟨h1, by simpa [sat_zero] using h2⟩
          · have := h4 j (by simpa using hj)
            rw [sat_succ]
            refine ⟨this.1, ?_⟩
            rw [if_neg (by omega), Nat.add_sub_cancel]
            rcases j with _ | j
            · simpa [sat_zero] using this.2
            · rw [sat_succ]; simpa using this.2
        · refine .inr ⟨q + 1, by simpa using hq, fun j hj => ?_, ?_⟩
          · rcases j with _ | j
            · exact ⟨h1, by simpa [sat_zero] using h2⟩
            · have := h4 j (by omega)
              rw [sat_succ]
              refine ⟨this.1, ?_⟩
              rw [if_neg (by omega), Nat.add_sub_cancel]
              rcases j with _ | j
              · simpa [sat_zero] using this.2
              · rw [sat_succ]; simpa using this.2
          · rw [sat_succ, if_neg (by omega), Nat.add_sub_cancel]
            rcases h5 with h5 | ⟨h5, h6, h7⟩
            · exact .inl h5
            · refine .inr ⟨h5, ?_, h7⟩
              rcases q with _ | q
              · simpa [sat_zero] using h6
              · rw [sat_succ]; simpa using h6
      · rw [if_neg (by simp [h1]), if_pos h2]
        exact .inr ⟨0, by simp, fun j hj => absurd hj (by omega), .inr ⟨h1, by simpa [sat_zero] using h2, rfl⟩⟩
    · rw [if_pos h1]
      exact .inr ⟨0, by simp, fun j hj => absurd hj (by omega), .inl ⟨h1, rfl⟩⟩

theorem la_if (L : List ByteArray) (j : Nat) : (if j = 0 then (1 : Int) else pz (sat L (j - 1))) = pz (la L j) := by
  rcases j with _ | j
  · rw [if_pos rfl]; exact (pz_T 1).symm
  · rw [if_neg (by omega)]; rfl

/-- Either a list is a right chain, or there is its first error. -/
theorem gck_ways (one : ByteArray → Nat) (L : List ByteArray) (hl : L.length ≤ 16) :
    (gck one L = 0 ∧ ∀ j, j < L.length → good one L j) ∨
    (∃ q, q < L.length ∧ (∀ j, j < q → good one L j) ∧ ((one (sat L q) ≠ 0 ∧ gck one L = one (sat L q)) ∨ (one (sat L q) = 0 ∧ rz (pz (sat L q)) (pz (la L q)) ≠ 0 ∧ gck one L = 9))) := by
  unfold gck good
  rw [if_neg (by omega)]
  have := chain_ways one L 1
  simp only [la_if] at this
  exact this

theorem fck_zero {s : ByteArray} (h : fck s = 0) : ck s = 0 ∧ 2 ≤ pz s := by
  unfold fck at h
  by_cases h1 : ck s = 0
  · rw [if_neg (by simp [h1])] at h
    by_cases h2 : pz s < 2
    · rw [if_pos h2] at h; omega
    · exact ⟨h1, by omega⟩
  · rw [if_pos h1] at h; exact absurd h h1
theorem dck_zero {s : ByteArray} (h : dck s = 0) : ck s = 0 ∧ 1 ≤ pz s := by
  unfold dck at h
  by_cases h1 : ck s = 0
  · rw [if_neg (by simp [h1])] at h
    by_cases h2 : pz s < 0
    · rw [if_pos h2] at h; omega
    · rw [if_neg h2] at h
      by_cases h3 : pz s = 0
      · rw [if_pos h3] at h; omega
      · exact ⟨h1, by omega⟩
  · rw [if_pos h1] at h; exact absurd h h1

/-- The texts of a right group. -/
theorem gck_right {L : List ByteArray} (h : gck fck L = 0) : L.length ≤ 16 ∧ ∀ j, j < L.length → good fck L j := by
  have hl : L.length ≤ 16 := by
    apply Classical.byContradiction
    intro hn
    unfold gck at h
    rw [if_pos (by omega)] at h
    omega
  rcases gck_ways fck L hl with h1 | ⟨q, hq, -, h1⟩
  · exact ⟨hl, h1.2⟩
  · rcases h1 with ⟨h1, h2⟩ | ⟨-, -, h2⟩
    · omega
    · omega

theorem right_at {L : List ByteArray} (h : gck fck L = 0) (j : Nat) (hj : j < L.length) : ck (sat L j) = 0 ∧ 2 ≤ pz (sat L j) := fck_zero ((gck_right h).2 j hj).1

end Go.Proofs.YtnfmcdfdbipeoaaGreatDoor
