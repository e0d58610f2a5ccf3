/- Walks of the laws of fractions: what is read and written, the law. -/
import Derived.Test.YtolkiimlchfmlaaGreatDoorQ33
namespace Go.Proofs.YtolkiimlchfmlaaGreatDoor
open Go.RowKit Go.Proofs.Num

set_option maxHeartbeats 3200000 in
set_option maxRecDepth 100000 in
theorem reads_no (s r : ByteArray) (u : Int) (hs : s.size ≤ 9223372036854775807) (hr : r.size ≤ 9223372036854775807)
    (h : rightB s r = false) (w : World) (hT : Tab w) (hC : CutT w) :
    Calls Tryz.prog 9 #[FrV s r, .int .u16 u] w fun e w' => e = .returned (.bool true) ∧ Below w.heap.size w w' := by
  have HT := Lib.hid hT
  have HC := Lib.hid hC
  have HA := Lib.hid fawake
  have HR1 := Lib.hid (fun w => right_any s r hs hr w)
  rw [h] at HR1
  unfold FrV at *
  obtain ⟨W0, hW0, hR1, hBl0, hsz0⟩ := box1T 24 w (.string s) (.string r)
  have HW0 := Lib.hid hW0
  have x10 := hR1.c0; have x11 := hR1.c1
  rw [hW0] at x10 x11
  clear hT hC hs hr hR1 hW0 hsz0 h
  go_enter Tryz.func9, Tryz.ntmps9
  go_wp2_with fail
  rw [← HW0.out]
  refine (HR1.out _).mono ?_
  rintro en w1 ⟨rfl, hb1⟩
  have hB1 : Below w.heap.size w w1 := hBl0.trans (hb1.mono hBl0.size)
  clear x10 x11
  go_wp2_with fail
  refine (HA.out _ (HT.out.keep hB1) (HC.out.keep hB1)).mono ?_
  rintro en w2 ⟨rfl, hb2⟩
  go_wp2
  go_ret
  exact ⟨rfl, hB1.trans (hb2.mono hB1.size)⟩

theorem floor_rest {n d : Int} (hd : 0 < d) : 0 ≤ n * 1 - qz n d * d ∧ n * 1 - qz n d * d < d := by
  obtain ⟨h1, h2, h3⟩ := rz_pos (r := n) hd
  omega

/-- What is left of a fraction without its floor. -/
theorem rest_cmp {R D : Int} (h0 : 0 ≤ R) (h1 : R < D) : (cmpZ (lowN R D * 1) (0 * lowD R D) = 0 ∨ cmpZ (lowN R D * 1) (0 * lowD R D) = 1) ∧ cmpZ (lowN R D * 1) (1 * lowD R D) = -1 := by
  have hD : D ≠ 0 := by omega
  have h := low_cross (n := R) hD
  have hp := lowD_pos (n := R) hD
  generalize lowN R D = P at *
  generalize lowD R D = Q at *
  have hP : 0 ≤ P := by
    apply Int.not_lt.1
    intro hn
    have e1 : P * D < 0 := Int.mul_neg_of_neg_of_pos hn (by omega)
    have e2 : 0 ≤ R * Q := Int.mul_nonneg h0 (by omega)
    omega
  have hPQ : P < Q := by
    apply Int.not_le.1
    intro hn
    have e1 : Q * D ≤ P * D := Int.mul_le_mul_of_nonneg_right hn (by omega)
    have e2 : R * Q < D * Q := Int.mul_lt_mul_of_pos_right h1 hp
    rw [Int.mul_comm D Q] at e2
    omega
  rw [Int.mul_one, Int.one_mul, Int.zero_mul]
  refine ⟨?_, ?_⟩
  · unfold cmpZ
    rw [if_neg (by omega)]
    by_cases h5 : 0 < P
    · right; rw [if_pos h5]
    · left; rw [if_neg h5]
  · unfold cmpZ
    rw [if_pos hPQ]

set_option maxHeartbeats 3200000 in
theorem reads_any (s r : ByteArray) (u : Int) (hs : s.size ≤ 9223372036854775807) (hr : r.size ≤ 9223372036854775807) (hu0 : 0 ≤ u) (hu1 : u ≤ 65535)
    (w : World) (hT : Tab w) (hC : CutT w) :
    Calls Tryz.prog 9 #[FrV s r, .int .u16 u] w fun e w' => e = .returned (.bool true) ∧ Below w.heap.size w w' := by
  cases h : rightB s r with
  | false => exact reads_no s r u hs hr h w hT hC
  | true =>
    have HR1 := fun w => right_any s r hs hr w
    rw [h] at HR1
    obtain ⟨n, d, rfl, rfl, hn, hd, hl⟩ := right_T s r h
    clear h hs hr
    have hd0 := hl.1
    have hk : Few 40 (-1 - u) := by unfold Few; exact Nat.lt_of_lt_of_le (show (-1 - u).natAbs < 10 ^ 5 by omega) (Nat.pow_le_pow_right (by omega) (by omega))
    have hk0 : -1 - u ≠ 0 := by omega
    have hdk : d * (-1 - u) ≠ 0 := Int.mul_ne_zero (by omega) hk0
    have HTx := fun w hT => fText n d hn hd (by omega) (by omega) hl w hT
    have HPa := fun w hT hC => fParseT n d hn hd (by omega) (by omega) hl w hT hC
    have HOf := fun w hT => of_ok (-1 - u) (by omega) (by omega) w hT
    have HMx := fun w hT => mulT n (-1 - u) w hn hk (by omega) (by omega) hT
    have HMy := fun w hT => mulT d (-1 - u) w hd hk (by omega) (by omega) hT
    have HMk := fun w hT => fMake (n * (-1 - u)) (d * (-1 - u)) (hn.mul hk) (hd.mul hk) (by omega) (by omega) hdk w hT
    have hback := low_of (n := n * (-1 - u)) hdk hl (by rw [Int.mul_assoc, Int.mul_comm (-1 - u) d])
    rw [hback.1, hback.2] at HMk
    have HFl := fun w hT => fFloor n d hn hd (by omega) (by omega) hl w hT
    have hm := few_qz hn (show d ≠ 0 by omega)
    have h1f : Few 40 1 := by unfold Few; exact Nat.lt_of_lt_of_le (show (1 : Int).natAbs < 10 ^ 1 by decide) (Nat.pow_le_pow_right (by omega) (by omega))
    have hl1 : ∀ x : Int, Low x 1 := fun x => ⟨by omega, by simp⟩
    have HSb := fun w hT => fSubS n d (qz n d) 1 hn hd hm h1f (by omega) (by omega) hl (hl1 _) w hT
    obtain ⟨hf0, hf1⟩ := floor_rest (n := n) hd0
    rw [Int.mul_one d] at HSb
    obtain ⟨hlow, hhigh⟩ := rest_cmp hf0 hf1
    have hP : Few 81 (lowN (n * 1 - qz n d * d) d) := lowN_le (((hn.mul h1f).sub (hm.mul hd)).le (by omega)) (by omega)
    have hQ : Few 81 (lowD (n * 1 - qz n d * d) d) := lowD_le (hd.le (by omega)) (by omega)
    have h0f : Few 81 0 := by unfold Few; exact Nat.lt_of_lt_of_le (show (0 : Int).natAbs < 10 ^ 1 by decide) (Nat.pow_le_pow_right (by omega) (by omega))
    have hlr := low_low (n := n * 1 - qz n d * d) (m := d) (by omega)
    have HCl := fun w hT => fCompareS _ _ 0 1 hP hQ h0f (h1f.le (by omega)) (by omega) (by omega) hlr (hl1 0) w hT
    have HCh := fun w hT => fCompareS _ _ 1 1 hP hQ (h1f.le (by omega)) (h1f.le (by omega)) (by omega) (by omega) hlr (hl1 1) w hT
    rw [hhigh] at HCh
    rw [ft1] at HSb HCl HCh
    rw [T_naught] at HCl
    rcases hlow with g | g
    · rw [g] at HCl
      exact reads_0 _ _ _ _ _ _ _ _ _ u hu0 hu1 (Lib.hid HR1) (Lib.hid HTx) (Lib.hid HPa) (Lib.hid HOf) (Lib.hid HMx) (Lib.hid HMy) (Lib.hid HMk) (Lib.hid HFl) (Lib.hid HSb) (Lib.hid HCl) (Lib.hid HCh) w hT hC
    · rw [g] at HCl
      exact reads_1 _ _ _ _ _ _ _ _ _ u hu0 hu1 (Lib.hid HR1) (Lib.hid HTx) (Lib.hid HPa) (Lib.hid HOf) (Lib.hid HMx) (Lib.hid HMy) (Lib.hid HMk) (Lib.hid HFl) (Lib.hid HSb) (Lib.hid HCl) (Lib.hid HCh) w hT hC
end Go.Proofs.YtolkiimlchfmlaaGreatDoor
