/- Walks of the laws: what small numbers compute. -/
import Derived.Test.YtbmonfbbkmpdhaaDoorQ32
import Derived.Test.YtbmonfbbkmpdhaaDoorQ33
import Derived.Test.YtbmonfbbkmpdhaaDoorQ25
namespace Go.Proofs.YtbmonfbbkmpdhaaDoor
open Go.RowKit Go.Proofs.Num

theorem few31 {a : Int} (h0 : -2147483648 ≤ a) (h1 : a ≤ 2147483647) : Few 10 a := by
  unfold Few; omega

theorem mul31 {a b : Int} (h0 : -2147483648 ≤ a) (h1 : a ≤ 2147483647) (k0 : -2147483648 ≤ b) (k1 : b ≤ 2147483647) : -9223372036854775808 ≤ a * b ∧ a * b ≤ 9223372036854775807 := by
  have h : (a * b).natAbs ≤ 2147483648 * 2147483648 := by
    rw [Int.natAbs_mul]; exact Nat.mul_le_mul (by omega) (by omega)
  omega

/-- The floored remainder from the truncated one. -/
theorem rz_tmod {a b : Int} (hb : b ≠ 0) : (a.tmod b = 0 ∧ rz a b = 0) ∨ (a.tmod b ≠ 0 ∧ (decide (a.tmod b < 0) = decide (b < 0)) ∧ rz a b = a.tmod b) ∨ (a.tmod b ≠ 0 ∧ (decide (a.tmod b < 0) = !decide (b < 0)) ∧ rz a b = a.tmod b + b) := by
  have h1 : a = b * a.tdiv b + a.tmod b := (Int.mul_tdiv_add_tmod a b).symm
  have h2 : (a.tmod b).natAbs < b.natAbs := by
    rw [Int.natAbs_tmod]; exact Nat.mod_lt _ (by omega)
  generalize a.tmod b = t at *
  generalize a.tdiv b = q at *
  by_cases ht : t = 0
  · exact .inl ⟨ht, by rw [(qz_uniq hb h1 ⟨by omega, by omega⟩).2]; exact ht⟩
  · right
    by_cases hs : (t < 0) = (b < 0)
    · left
      have hs' : t < 0 ↔ b < 0 := by rw [hs]
      exact ⟨ht, decide_eq_decide.2 hs', (qz_uniq hb h1 ⟨by omega, by omega⟩).2⟩
    · right
      have hs' : ¬ (t < 0 ↔ b < 0) := fun h => hs (propext h)
      refine ⟨ht, ?_, (qz_uniq (q := q - 1) hb (by rw [Int.mul_sub, Int.mul_one]; omega) ⟨by omega, by omega⟩).2⟩
      by_cases k1 : t < 0 <;> by_cases k2 : b < 0 <;> simp [k1, k2] <;> omega

def OutTx (w : World) (S : ByteArray) (e : Ending) (w' : World) : Prop := e = .returned (.string S) ∧ Below w.heap.size w w'
def OutI0 (w : World) (z : Int) (e : Ending) (w' : World) : Prop := e = .returned (.tuple #[.int .i64 z, .int .i64 0]) ∧ Below w.heap.size w w'

theorem smallT {d : Nat} (z : Int) (w : World) (hz : Few d z) (h1 : 1 ≤ d) (hd : d ≤ 1024) (h0 : -9223372036854775808 ≤ z) (h2 : z ≤ 9223372036854775807) : Calls Tryd.prog 15 #[.string (T z)] w (OutI0 w z) :=
  small_int (T z) z (T_data z) h0 h2 (by
    have h2 := body_ge (T z).data.toList
    rw [T_data] at h2
    rw [itoa_body, Lib.decDigits_length, ← T_data, size_toList] at h2
    have := hz.dig h1 hd
    omega) (hz.chk h1 hd) w

set_option maxHeartbeats 12800000 in
set_option maxRecDepth 100000 in
theorem counts_zero (HA : Awake) (a : Int) (h0 : -2147483648 ≤ a) (h1 : a ≤ 2147483647) (w : World) (hT : Tab w) :
    Calls Tryd.prog 13 #[.int .i32 a, .int .i32 0] w fun e w' => e = .returned (.bool true) ∧ Below w.heap.size w w' := by
  have fa := few31 h0 h1
  have fb : Few 10 0 := few31 (by omega) (by omega)
  obtain ⟨X, hX⟩ : ∃ S, S = T a := ⟨_, rfl⟩
  obtain ⟨Y, hY⟩ : ∃ S, S = T 0 := ⟨_, rfl⟩
  obtain ⟨S, hS⟩ : ∃ S, S = T (a + 0) := ⟨_, rfl⟩
  obtain ⟨P, hP⟩ : ∃ S, S = T (a * 0) := ⟨_, rfl⟩
  have c1 : ∀ w, Tab w → Calls Tryd.prog 21 #[.int .i64 a] w (OutTx w X) := fun w hT => by
    rw [hX]; exact of_ok a (by omega) (by omega) w hT
  have c2 : ∀ w, Tab w → Calls Tryd.prog 21 #[.int .i64 0] w (OutTx w Y) := fun w hT => by
    rw [hY]; exact of_ok 0 (by omega) (by omega) w hT
  have c3 : ∀ w, Tab w → Calls Tryd.prog 23 #[.string X, .string Y] w (OutT w S) := fun w hT => by
    rw [hX, hY, hS]; exact addT a 0 w fa fb (by omega) (by omega) hT
  have c4 : ∀ w, Tab w → Calls Tryd.prog 36 #[.string X, .string Y] w (OutT w P) := fun w hT => by
    rw [hX, hY, hP]; exact mulT a 0 w fa fb (by omega) (by omega) hT
  have c5 : ∀ w, Tab w → Calls Tryd.prog 15 #[.string S] w (OutI0 w a) := fun w hT => by
    rw [hS, Int.add_zero]; exact smallT a w fa (by omega) (by omega) (by omega) (by omega)
  have c6 : ∀ w, Tab w → Calls Tryd.prog 15 #[.string P] w (OutI0 w 0) := fun w hT => by
    rw [hP, Int.mul_zero]; exact smallT 0 w fb (by omega) (by omega) (by omega) (by omega)
  have c7 : ∀ w, Tab w → Calls Tryd.prog 40 #[.string X, .string Y] w fun e w' => e = .returned (.tuple #[str [], .int .i64 10]) ∧ Below w.heap.size w w' := fun w hT => by
    have hz : chkD X.data.toList Y.data.toList = 10 := by
      unfold chkD chk2
      rw [hX, hY, fa.chk (by omega) (by omega), fb.chk (by omega) (by omega), T_data 0, parse_itoa]; rfl
    have h := quo_err 0 (divTo_all _) X Y (by rw [hX]; exact fa.size (by omega) (by omega)) (by rw [hY]; exact fb.size (by omega) (by omega)) (by rw [hz]; decide) w
    rw [hz] at h
    exact h
  have H1 := Lib.hid c1; have H2 := Lib.hid c2; have H3 := Lib.hid c3; have H4 := Lib.hid c4; have H5 := Lib.hid c5; have H6 := Lib.hid c6; have H7 := Lib.hid c7
  have HT := Lib.hid hT
  have HAW := Lib.hid HA
  clear c1 c2 c3 c4 c5 c6 c7 hX hY hS hP fa fb hT HA
  go_enter Tryd.func13, Tryd.ntmps13
  go_wp2_with fail
  refine (H1.out _ HT.out).mono ?_
  rintro e w1 ⟨rfl, hc1⟩
  have hb1 : Below w.heap.size w w1 := hc1
  clear hc1
  go_wp2_with fail
  refine (H2.out _ (HT.out.keep hb1)).mono ?_
  rintro e w2 ⟨rfl, hc2⟩
  have hb2 : Below w.heap.size w w2 := hb1.trans (hc2.mono hb1.size)
  clear hb1 hc2
  go_wp2_with fail
  refine (H3.out _ (HT.out.keep hb2)).mono ?_
  rintro e w3 ⟨rfl, hc3⟩
  have hb3 : Below w.heap.size w w3 := hb2.trans (hc3.mono hb2.size)
  clear hb2 hc3
  go_wp2_with fail
  refine (H4.out _ (HT.out.keep hb3)).mono ?_
  rintro e w4 ⟨rfl, hc4⟩
  have hb4 : Below w.heap.size w w4 := hb3.trans (hc4.mono hb3.size)
  clear hb3 hc4
  go_wp2_with fail
  refine (H5.out _ (HT.out.keep hb4)).mono ?_
  rintro e w5 ⟨rfl, hc5⟩
  have hb5 : Below w.heap.size w w5 := hb4.trans (hc5.mono hb4.size)
  clear hb4 hc5
  go_wp2_with fail
  refine (H6.out _ (HT.out.keep hb5)).mono ?_
  rintro e w6 ⟨rfl, hc6⟩
  have hb6 : Below w.heap.size w w6 := hb5.trans (hc6.mono hb5.size)
  clear hb5 hc6
  go_wp2_with fail
  refine (H7.out _ (HT.out.keep hb6)).mono ?_
  rintro e w7 ⟨rfl, hc7⟩
  have hb7 : Below w.heap.size w w7 := hb6.trans (hc7.mono hb6.size)
  clear hb6 hc7
  go_wp2_with fail
  refine (HAW.out _ (HT.out.keep hb7)).mono ?_
  rintro e w8 ⟨rfl, hc8⟩
  have hb8 : Below w.heap.size w w8 := hb7.trans (hc8.mono hb7.size)
  clear hb7 hc8
  go_wp2
  go_ret
  exact ⟨rfl, hb8⟩

set_option maxHeartbeats 12800000 in
set_option maxRecDepth 100000 in
theorem counts_rest (HA : Awake) (a b : Int) (h0 : -2147483648 ≤ a) (h1 : a ≤ 2147483647) (k0 : -2147483648 ≤ b) (k1 : b ≤ 2147483647) (hb : b ≠ 0) (w : World) (hT : Tab w) :
    Calls Tryd.prog 13 #[.int .i32 a, .int .i32 b] w fun e w' => e = .returned (.bool true) ∧ Below w.heap.size w w' := by
  have fa := few31 h0 h1
  have fb := few31 k0 k1
  have hm := mul31 h0 h1 k0 k1
  obtain ⟨X, hX⟩ : ∃ S, S = T a := ⟨_, rfl⟩
  obtain ⟨Y, hY⟩ : ∃ S, S = T b := ⟨_, rfl⟩
  obtain ⟨S, hS⟩ : ∃ S, S = T (a + b) := ⟨_, rfl⟩
  obtain ⟨P, hP⟩ : ∃ S, S = T (a * b) := ⟨_, rfl⟩
  obtain ⟨R, hR⟩ : ∃ S, S = T (rz a b) := ⟨_, rfl⟩
  obtain ⟨t, ht⟩ : ∃ t, t = a.tmod b := ⟨_, rfl⟩
  obtain ⟨k, hk⟩ : ∃ t, t = rz a b := ⟨_, rfl⟩
  obtain ⟨p, hp⟩ : ∃ t, t = a * b := ⟨_, rfl⟩
  have hrz := rz_le a b hb
  have htb : (a.tmod b).natAbs < b.natAbs := by rw [Int.natAbs_tmod]; exact Nat.mod_lt _ (by omega)
  have hcase := rz_tmod (a := a) hb
  have c1 : ∀ w, Tab w → Calls Tryd.prog 21 #[.int .i64 a] w (OutTx w X) := fun w hT => by
    rw [hX]; exact of_ok a (by omega) (by omega) w hT
  have c2 : ∀ w, Tab w → Calls Tryd.prog 21 #[.int .i64 b] w (OutTx w Y) := fun w hT => by
    rw [hY]; exact of_ok b (by omega) (by omega) w hT
  have c3 : ∀ w, Tab w → Calls Tryd.prog 23 #[.string X, .string Y] w (OutT w S) := fun w hT => by
    rw [hX, hY, hS]; exact addT a b w fa fb (by omega) (by omega) hT
  have c4 : ∀ w, Tab w → Calls Tryd.prog 36 #[.string X, .string Y] w (OutT w P) := fun w hT => by
    rw [hX, hY, hP]; exact mulT a b w fa fb (by omega) (by omega) hT
  have c5 : ∀ w, Tab w → Calls Tryd.prog 15 #[.string S] w (OutI0 w (a + b)) := fun w hT => by
    rw [hS]; exact smallT (a + b) w (fa.add fb) (by omega) (by omega) (by omega) (by omega)
  have c6 : ∀ w, Tab w → Calls Tryd.prog 15 #[.string P] w (OutI0 w p) := fun w hT => by
    rw [hP, hp]; exact smallT (a * b) w (fa.mul fb) (by omega) (by omega) hm.1 hm.2
  have c7 : ∀ w, Tab w → Calls Tryd.prog 41 #[.string X, .string Y] w (OutT w R) := fun w hT => by
    rw [hX, hY, hR]; exact remT a b w fa fb (by omega) (by omega) hb hT
  have c8 : ∀ w, Tab w → Calls Tryd.prog 15 #[.string R] w (OutI0 w k) := fun w hT => by
    rw [hR, hk]; exact smallT (rz a b) w (fb.of_le (by omega)) (by omega) (by omega) (by omega) (by omega)
  rw [← hp] at hm
  rw [← ht, ← hk] at hcase
  rw [← ht] at htb
  have htb0 : -2147483648 ≤ t := by omega
  have htb1 : t ≤ 2147483648 := by omega
  have hb0 : (b == 0) = false := by simpa using hb
  have H1 := Lib.hid c1; have H2 := Lib.hid c2; have H3 := Lib.hid c3; have H4 := Lib.hid c4; have H5 := Lib.hid c5; have H6 := Lib.hid c6; have H7 := Lib.hid c7; have H8 := Lib.hid c8
  have HT := Lib.hid hT
  have HAW := Lib.hid HA
  have HC := Lib.hid hcase
  have hpab := hp.symm
  have htab := ht.symm
  obtain ⟨hm0, hm1⟩ := hm
  clear c1 c2 c3 c4 c5 c6 c7 c8 hX hY hS hP hR fa fb hT HA hcase hp ht hk hrz htb
  go_enter Tryd.func13, Tryd.ntmps13
  go_wp2_with fail
  refine (H1.out _ HT.out).mono ?_
  rintro e w1 ⟨rfl, hc1⟩
  have hb1 : Below w.heap.size w w1 := hc1
  clear hc1
  go_wp2_with fail
  refine (H2.out _ (HT.out.keep hb1)).mono ?_
  rintro e w2 ⟨rfl, hc2⟩
  have hb2 : Below w.heap.size w w2 := hb1.trans (hc2.mono hb1.size)
  clear hb1 hc2
  go_wp2_with fail
  refine (H3.out _ (HT.out.keep hb2)).mono ?_
  rintro e w3 ⟨rfl, hc3⟩
  have hb3 : Below w.heap.size w w3 := hb2.trans (hc3.mono hb2.size)
  clear hb2 hc3
  go_wp2_with fail
  refine (H4.out _ (HT.out.keep hb3)).mono ?_
  rintro e w4 ⟨rfl, hc4⟩
  have hb4 : Below w.heap.size w w4 := hb3.trans (hc4.mono hb3.size)
  clear hb3 hc4
  go_wp2_with fail
  refine (H5.out _ (HT.out.keep hb4)).mono ?_
  rintro e w5 ⟨rfl, hc5⟩
  have hb5 : Below w.heap.size w w5 := hb4.trans (hc5.mono hb4.size)
  clear hb4 hc5
  go_wp2_with fail
  refine (H6.out _ (HT.out.keep hb5)).mono ?_
  rintro e w6 ⟨rfl, hc6⟩
  have hb6 : Below w.heap.size w w6 := hb5.trans (hc6.mono hb5.size)
  clear hb5 hc6
  go_wp2_with fail
  refine (H7.out _ (HT.out.keep hb6)).mono ?_
  rintro e w7 ⟨rfl, hc7⟩
  have hb7 : Below w.heap.size w w7 := hb6.trans (hc7.mono hb6.size)
  clear hb6 hc7
  go_wp2_with fail
  refine (H8.out _ (HT.out.keep hb7)).mono ?_
  rintro e w8 ⟨rfl, hc8⟩
  have hb8 : Below w.heap.size w w8 := hb7.trans (hc8.mono hb7.size)
  clear hb7 hc8
  rcases HC.out with ⟨h1, h2⟩ | ⟨h1, h2, h3⟩ | ⟨h1, h2, h3⟩
  · subst h1 h2
    clear HC
    go_wp2_with fail
    refine (HAW.out _ (HT.out.keep hb8)).mono ?_
    rintro e w9 ⟨rfl, hc9⟩
    have hb9 : Below w.heap.size w w9 := hb8.trans (hc9.mono hb8.size)
    clear hb8 hc9
    go_wp2
    go_ret
    exact ⟨rfl, hb9⟩
  · subst h3
    have ht0 : ¬ k = 0 := h1
    obtain ⟨n1, n2⟩ | ⟨n1, n2⟩ : (k < 0 ∧ b < 0) ∨ (0 < k ∧ 0 < b) := by
      by_cases m1 : k < 0 <;> by_cases m2 : b < 0 <;> simp [m1, m2] at h2 ⊢ <;> omega
    · have hd1 : decide (k < 0) = true := by simp; omega
      have hd2 : decide (b < 0) = true := by simp; omega
      clear HC h1 h2 n1 n2
      go_wp2_with fail
      refine (HAW.out _ (HT.out.keep hb8)).mono ?_
      rintro e w9 ⟨rfl, hc9⟩
      have hb9 : Below w.heap.size w w9 := hb8.trans (hc9.mono hb8.size)
      clear hb8 hc9
      go_wp2
      go_ret
      exact ⟨rfl, hb9⟩
    · have hd1 : decide (k < 0) = false := by simp; omega
      have hd2 : decide (b < 0) = false := by simp; omega
      clear HC h1 h2 n1 n2
      go_wp2_with fail
      refine (HAW.out _ (HT.out.keep hb8)).mono ?_
      rintro e w9 ⟨rfl, hc9⟩
      have hb9 : Below w.heap.size w w9 := hb8.trans (hc9.mono hb8.size)
      clear hb8 hc9
      go_wp2
      go_ret
      exact ⟨rfl, hb9⟩
  · subst h3
    have ht0 : ¬ t = 0 := h1
    obtain ⟨n1, n2⟩ | ⟨n1, n2⟩ : (t < 0 ∧ 0 < b) ∨ (0 < t ∧ b < 0) := by
      by_cases m1 : t < 0 <;> by_cases m2 : b < 0 <;> simp [m1, m2] at h2 ⊢ <;> omega
    · have hd1 : decide (t < 0) = true := by simp; omega
      have hd2 : decide (b < 0) = false := by simp; omega
      clear HC h1 h2 n1 n2
      go_wp2_with fail
      refine (HAW.out _ (HT.out.keep hb8)).mono ?_
      rintro e w9 ⟨rfl, hc9⟩
      have hb9 : Below w.heap.size w w9 := hb8.trans (hc9.mono hb8.size)
      clear hb8 hc9
      go_wp2
      go_ret
      exact ⟨rfl, hb9⟩
    · have hd1 : decide (t < 0) = false := by simp; omega
      have hd2 : decide (b < 0) = true := by simp; omega
      clear HC h1 h2 n1 n2
      go_wp2_with fail
      refine (HAW.out _ (HT.out.keep hb8)).mono ?_
      rintro e w9 ⟨rfl, hc9⟩
      have hb9 : Below w.heap.size w w9 := hb8.trans (hc9.mono hb8.size)
      clear hb8 hc9
      go_wp2
      go_ret
      exact ⟨rfl, hb9⟩

theorem counts_any (HA : Awake) (a b : Int) (h0 : -2147483648 ≤ a) (h1 : a ≤ 2147483647) (k0 : -2147483648 ≤ b) (k1 : b ≤ 2147483647) (w : World) (hT : Tab w) :
    Calls Tryd.prog 13 #[.int .i32 a, .int .i32 b] w fun e w' => e = .returned (.bool true) ∧ Below w.heap.size w w' := by
  by_cases hb : b = 0
  · subst hb; exact counts_zero HA a h0 h1 w hT
  · exact counts_rest HA a b h0 h1 k0 k1 hb w hT
end Go.Proofs.YtbmonfbbkmpdhaaDoor
