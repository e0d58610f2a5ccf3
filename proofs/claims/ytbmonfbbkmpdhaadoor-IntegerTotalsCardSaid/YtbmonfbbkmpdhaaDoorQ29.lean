/- Walks of the reference: Pow; and the error ways of Pow. And: Walks of the laws: powers. And: Walks of the laws: products and powers are those of the reference. -/
import Derived.Test.YtbmonfbbkmpdhaaDoorQ28
import Derived.Test.YtbmonfbbkmpdhaaDoorQ26
import Derived.Test.YtbmonfbbkmpdhaaDoorQ27
namespace Go.Proofs.YtbmonfbbkmpdhaaDoor
open Go.RowKit Go.Proofs.Num

theorem pow_le_pow_abs (z : Int) (i n : Nat) (hz : z ≠ 0) (h : i ≤ n) : (z ^ i).natAbs ≤ (z ^ n).natAbs := by
  rw [Int.natAbs_pow, Int.natAbs_pow]
  exact Nat.pow_le_pow_right (by omega) h

theorem few_of_len {d n : Nat} (h : (dig 10 n).length ≤ d) : n < 10 ^ d :=
  Nat.lt_of_lt_of_le (lt_pow_dig (b := 10) (by omega) n) (Nat.pow_le_pow_right (by omega) h)

/-- A power with too many digits on the way has too many at the end. -/
theorem pow_long_way (z : Int) (i n : Nat) (hi : i < n) (h : 1024 < (dig 10 (z ^ (i + 1)).natAbs).length) : tx (z ^ n) = [] ∧ te (z ^ n) = 11 := by
  have hz : z ≠ 0 := by
    rintro rfl
    rw [Int.zero_pow (show i + 1 ≠ 0 by omega)] at h
    rw [Int.natAbs_zero, dig_zero] at h
    simp at h
  have h1 := pow_le_pow_abs z (i + 1) n hz hi
  have h2 : (dig 10 (z ^ (i + 1)).natAbs).length ≤ (dig 10 (z ^ n).natAbs).length := dig_length_mono (by omega) h1
  have h3 : (z ^ n).natAbs ≠ 0 := by
    intro h0
    rw [h0, dig_zero, List.length_nil] at h2
    omega
  have h4 : 1024 < Lib.nDigits (z ^ n).natAbs := by rw [nDigits_dig h3]; omega
  unfold tx te
  exact ⟨if_pos h4, if_pos h4⟩

theorem T_one : T 1 = ⟨#[49]⟩ := by
  unfold T Lib.itoa
  rw [if_neg (by omega), Lib.decDigits]; rfl

/-- The power of a text, or the error. -/
def powS (l : List UInt8) (n : Int) : List UInt8 × Nat :=
  if chk l ≠ 0 then ([], chk l) else if n < 0 ∨ 4096 < n then ([], 2) else (tx (parse l ^ n.toNat), te (parse l ^ n.toNat))

set_option maxHeartbeats 3200000 in
set_option maxRecDepth 100000 in
theorem rpow_loop (s : ByteArray) (hs : s.size ≤ 9223372036854775807) (h0 : chk s.data.toList = 0) (n : Nat) (hn : n ≤ 4096) (w : World) :
    Calls Tryd.prog 39 #[.string s, .int .i64 n] w (TextOut w (tx (parse s.data.toList ^ n)) (te (parse s.data.toList ^ n))) := by
  obtain ⟨z, d, hz1, hz2, hd1, hd2, hz⟩ := canon s h0
  have HK := Lib.hid (fun w => rcheck_any s w hs)
  rw [h0] at HK
  rw [← hz2]
  have HT := Lib.hid (fun (i : Nat) (w : World) (h : Few d (z ^ i)) => rtimes_any (z ^ i) z h hz hd1 (by omega) hd1 (by omega) w)
  have HG := Lib.hid (fun (i : Nat) (w : World) (h : Few d (z ^ i)) => digits_T (d := d + d) (z := z ^ (i + 1)) (by rw [Int.pow_succ]; exact h.mul hz) (by omega) (by omega) w)
  have HLL := Lib.hid (fun (i : Nat) (h : Few d (z ^ i)) => few_len (d := d + d) (z := z ^ (i + 1)) (by rw [Int.pow_succ]; exact h.mul hz))
  have HF := Lib.hid (fun (i : Nat) (h : (dig 10 (z ^ (i + 1)).natAbs).length ≤ d) => few_of_len h)
  have HW := Lib.hid (fun (i : Nat) (hi : i < n) (h : 1024 < (dig 10 (z ^ (i + 1)).natAbs).length) => pow_long_way z i n hi h)
  have H1 : Hid (T (z ^ 0) = ⟨#[49]⟩) := by unfold Hid; rw [Int.pow_zero]; exact T_one
  have HE : Hid (Few d (z ^ n) → str (tx (z ^ n)) = .string (T (z ^ n)) ∧ te (z ^ n) = 0) := by
    intro h
    rw [h.tx hd1 (by omega), h.te hd1 (by omega)]
    exact ⟨rfl, rfl⟩
  have HF0 : Hid (Few d (z ^ 0)) := by
    unfold Hid Few
    rw [Int.pow_zero]
    exact Nat.lt_of_lt_of_le (show (1 : Int).natAbs < 10 ^ 1 by decide) (Nat.pow_le_pow_right (by omega) hd1)
  have HD := Lib.hid hd2
  rw [← hz1] at HT
  have hn1 : decide (((n : Nat) : Int) < 0) = false := by simp
  have hn2 : decide (4096 < ((n : Nat) : Int)) = false := by simp; omega
  clear hz1 hz2 hd1 hd2 hz h0 hs
  unfold TextOut
  go_enter Tryd.func39, Tryd.ntmps39
  go_wp2_with fail
  refine (HK.out _).mono ?_
  rintro e w1 ⟨rfl, rfl⟩
  go_wp2
  go_loopw [7, 8] (fun out si wr => ∃ i : Nat, i ≤ n ∧ si = .int .i64 i ∧ out = .string (T (z ^ i)) ∧ Few d (z ^ i) ∧ Below w.heap.size w wr)
    (fun _ i _ => n - (intOf i).toNat)
  case atStart => exact ⟨0, Nat.zero_le _, rfl, by rw [H1.out], HF0.out, Below.refl _ _⟩
  case round =>
    obtain ⟨i, hi, rfl, rfl, hf, hB⟩ := hrel
    by_cases hlt : i < n
    · have C1 := Lib.hid (fun w => HT.out i w hf)
      have C2 := Lib.hid (fun w => HG.out i w hf)
      have hl := HLL.out i hf
      have HFF := Lib.hid (HF.out i)
      have HWW := Lib.hid (HW.out i hlt)
      rw [← Int.pow_succ] at C1
      have hd := HD.out
      clear hf
      obtain ⟨u, hu⟩ : ∃ u, u = z ^ (i + 1) := ⟨_, rfl⟩
      rw [← hu] at C1 C2 hl HFF HWW
      have HU := Lib.hid hu
      clear hu
      go_wp2_with fail
      refine (C1.out _).mono ?_
      rintro e w1 ⟨rfl, hb1⟩
      have hB1 : Below w.heap.size w w1 := hB.trans (hb1.mono hB.size)
      go_wp2_with fail
      refine (C2.out _).mono ?_
      rintro e w2 ⟨v, rfl, hv, hb2⟩
      obtain ⟨a', c', rfl⟩ := Rd.shape hv
      have hB2 : Below w.heap.size w w2 := hB1.trans (hb2.mono hB1.size)
      clear hv
      by_cases h1 : 1024 < (dig 10 u.natAbs).length
      · obtain ⟨t1, t2⟩ := HWW.out h1
        have HT1 : Hid (str (tx (z ^ n)) = .string ⟨#[]⟩) := by unfold Hid; rw [t1]; rfl
        have HT2 := Lib.hid t2
        clear t1 t2
        go_wp2
        go_ret2
        exact ⟨by rw [HT1.out, HT2.out]; rfl, hB2⟩
      · have hff := HFF.out (by omega)
        have HU2 := Lib.hid hff
        clear hff
        go_wp2
        go_roundw
        case rel => exact ⟨i + 1, by omega, by go_num, by rw [HU.out], by rw [← HU.out]; exact HU2.out, hB2⟩
        case measure => simp [intOf]; omega
    · obtain rfl : i = n := by omega
      obtain ⟨t1, t2⟩ := HE.out hf
      have HT1 := Lib.hid t1
      have HT2 := Lib.hid t2
      clear t1 t2 hf
      go_wp2
      go_ret2
      exact ⟨by rw [HT1.out, HT2.out]; rfl, hB⟩

set_option maxRecDepth 100000 in
theorem rpow_err (s : ByteArray) (hs : s.size ≤ 9223372036854775807) (h0 : chk s.data.toList ≠ 0) (n : Int) (w : World) :
    Calls Tryd.prog 39 #[.string s, .int .i64 n] w (TextOut w [] (chk s.data.toList)) := by
  have HK := Lib.hid (fun w => rcheck_any s w hs)
  generalize chk s.data.toList = c at *
  have hx : ¬ ((c : Nat) : Int) = 0 := by omega
  have hx1 : ((c : Int) == 0) = false := beq_eq_false_iff_ne.2 hx
  unfold TextOut
  go_enter Tryd.func39, Tryd.ntmps39
  go_wp2_with fail
  refine (HK.out _).mono ?_
  rintro e w1 ⟨rfl, rfl⟩
  go_wp2
  go_ret2
  exact ⟨rfl, Below.refl _ _⟩

set_option maxRecDepth 100000 in
theorem rpow_range (s : ByteArray) (hs : s.size ≤ 9223372036854775807) (h0 : chk s.data.toList = 0) (n : Int) (hn : n < 0 ∨ 4096 < n) (w : World) :
    Calls Tryd.prog 39 #[.string s, .int .i64 n] w (TextOut w [] 2) := by
  have HK := Lib.hid (fun w => rcheck_any s w hs)
  rw [h0] at HK
  clear h0
  unfold TextOut
  rcases (show n < 0 ∨ (¬ n < 0 ∧ 4096 < n) by omega) with h | ⟨h1, h2⟩
  · have hd : decide (n < 0) = true := decide_eq_true h
    clear hn
    go_enter Tryd.func39, Tryd.ntmps39
    go_wp2_with fail
    refine (HK.out _).mono ?_
    rintro e w1 ⟨rfl, rfl⟩
    go_wp2
    go_ret2
    exact ⟨rfl, Below.refl _ _⟩
  · have hd : decide (n < 0) = false := decide_eq_false h1
    have hd2 : decide (4096 < n) = true := decide_eq_true h2
    clear hn
    go_enter Tryd.func39, Tryd.ntmps39
    go_wp2_with fail
    refine (HK.out _).mono ?_
    rintro e w1 ⟨rfl, rfl⟩
    go_wp2
    go_ret2
    exact ⟨rfl, Below.refl _ _⟩

/-- Pow of the reference, for all texts and exponents. -/
theorem rpow_any (s : ByteArray) (hs : s.size ≤ 9223372036854775807) (n : Int) (w : World) :
    Calls Tryd.prog 39 #[.string s, .int .i64 n] w (TextOut w (powS s.data.toList n).1 (powS s.data.toList n).2) := by
  unfold powS
  by_cases h0 : chk s.data.toList = 0
  · rw [if_neg (by rw [h0]; simp)]
    by_cases hn : n < 0 ∨ 4096 < n
    · rw [if_pos hn]; exact rpow_range s hs h0 n hn w
    · rw [if_neg hn]
      obtain ⟨k, rfl⟩ : ∃ k : Nat, n = (k : Int) := ⟨n.toNat, by omega⟩
      rw [Int.toNat_natCast]
      exact rpow_loop s hs h0 k (by omega) w
  · rw [if_pos h0]; exact rpow_err s hs h0 n w
set_option maxRecDepth 100000 in
set_option maxHeartbeats 1600000 in
theorem pow_err (s : ByteArray) (hs : s.size ≤ 9223372036854775807) (h0 : chk s.data.toList ≠ 0) (n : Int) (w : World) :
    Calls Tryd.prog 38 #[.string s, .int .i64 n] w (TextOut w [] (chk s.data.toList)) := by
  obtain ⟨c, hcc⟩ : ∃ c, c = chk s.data.toList := ⟨_, rfl⟩
  rw [← hcc] at h0
  have hne : ((c : Int) == 0) = false := by simp; omega
  have hne2 : ((c : Int) != 0) = true := by simp; omega
  rw [← hcc]
  have HC := Lib.hid hcc
  clear hcc h0
  go_enter Tryd.func38, Tryd.ntmps38
  go_wp2_with fail
  refine (read_any s hs _).mono ?_
  rintro e w1 ⟨b, a, k, p, rfl, hb, -, -⟩
  rw [← HC.out]
  go_wp2
  go_ret2
  exact ⟨rfl, hb.alloc hb.size _⟩

set_option maxRecDepth 100000 in
set_option maxHeartbeats 1600000 in
theorem pow_range (s : ByteArray) (hs : s.size ≤ 9223372036854775807) (h0 : chk s.data.toList = 0) (n : Int) (hn : n < 0 ∨ 4096 < n) (w : World) :
    Calls Tryd.prog 38 #[.string s, .int .i64 n] w (TextOut w [] 2) := by
  have HC := Lib.hid h0
  clear h0
  rcases (show n < 0 ∨ (¬ n < 0 ∧ 4096 < n) by omega) with h | ⟨h1, h2⟩
  · have hd : decide (n < 0) = true := decide_eq_true h
    clear hn
    go_enter Tryd.func38, Tryd.ntmps38
    go_wp2_with fail
    refine (read_any s hs _).mono ?_
    rintro e w1 ⟨b, a, k, p, rfl, hb, -, -⟩
    rw [HC.out]
    go_wp2
    go_ret2
    exact ⟨rfl, hb.alloc hb.size _⟩
  · have hd : decide (n < 0) = false := decide_eq_false h1
    have hd2 : decide (4096 < n) = true := decide_eq_true h2
    clear hn
    go_enter Tryd.func38, Tryd.ntmps38
    go_wp2_with fail
    refine (read_any s hs _).mono ?_
    rintro e w1 ⟨b, a, k, p, rfl, hb, -, -⟩
    rw [HC.out]
    go_wp2
    go_ret2
    exact ⟨rfl, hb.alloc hb.size _⟩

/-- Pow of the program, for all texts and exponents. -/
theorem powS_any (s : ByteArray) (hs : s.size ≤ 9223372036854775807) (n : Int) (w : World) (hT : Tab w) :
    Calls Tryd.prog 38 #[.string s, .int .i64 n] w (TextOut w (powS s.data.toList n).1 (powS s.data.toList n).2) := by
  unfold powS
  by_cases h0 : chk s.data.toList = 0
  · rw [if_neg (by rw [h0]; simp)]
    by_cases hn : n < 0 ∨ 4096 < n
    · rw [if_pos hn]; exact pow_range s hs h0 n hn w
    · rw [if_neg hn]
      obtain ⟨k, rfl⟩ : ∃ k : Nat, n = (k : Int) := ⟨n.toNat, by omega⟩
      rw [Int.toNat_natCast]
      exact pow_any s hs h0 k (by omega) w hT
  · rw [if_pos h0]; exact pow_err s hs h0 n w
end Go.Proofs.YtbmonfbbkmpdhaaDoor

namespace Go.Proofs.YtbmonfbbkmpdhaaDoor
open Go.RowKit Go.Proofs.Num

theorem Few.pow {d : Nat} {x : Int} (h : Few d x) (n : Nat) : Few (d * n + 1) (x ^ n) := by
  unfold Few at *
  rw [natAbs_pow, Nat.pow_succ, Nat.pow_mul]
  have h1 : x.natAbs ^ n ≤ (10 ^ d) ^ n := Nat.pow_le_pow_left (Nat.le_of_lt h) n
  have h2 : 0 < (10 ^ d) ^ n := Nat.pow_pos (Nat.pow_pos (by omega))
  omega

theorem powT {d e : Nat} (x : Int) (n : Nat) (w : World) (hn : n ≤ 4096) (hx : Few d x) (h1 : 1 ≤ d) (hd : d ≤ 1024) (hz : Few e (x ^ n)) (he1 : 1 ≤ e) (he : e ≤ 1024) (hT : Tab w) :
    Calls Tryd.prog 38 #[.string (T x), .int .i64 n] w (OutT w (T (x ^ n))) := by
  have h := pow_any (T x) (hx.size h1 hd) (hx.chk h1 hd) n hn w hT
  rw [T_data, parse_itoa, hz.tx he1 he, hz.te he1 he] at h
  exact h

theorem small_Td (N : Nat) (s : ByteArray) (h : smallB s = true) (hs : s.size ≤ N) : ∃ x, s = T x ∧ Few N x := by
  unfold smallB at h
  simp only [Bool.and_eq_true, decide_eq_true_eq, beq_iff_eq] at h
  refine ⟨_, of_chk s h.2, ?_⟩
  have h1 := (chk_cases _ h.2).1
  have h3 := body_length (Lib.itoa (parse s.data.toList))
  rw [itoa_body, Lib.decDigits_length, h1, size_toList] at h3
  exact Nat.lt_of_lt_of_le (Lib.lt_pow_nDigits _) (Nat.pow_le_pow_right (by omega) (by omega))

theorem cells2 (w : World) (s1 s2 : ByteArray) (k : Nat) (h : k < [s1, s2].length) : (w.alloc (.cells #[.string s1, .string s2] 22)).cell? ⟨w.heap.size, k, none⟩ = some (.string [s1, s2][k]) := by
  rw [cell_of_row _ w.heap.size k _ 22 (0, 0) (heap_alloc_new w _)]
  match k, h with
  | 0, _ => rfl
  | 1, _ => rfl

set_option maxHeartbeats 3200000 in
set_option maxRecDepth 100000 in
theorem powers_no (HA : Awake) (s1 s2 : ByteArray) (n0 n1 : Int) (hn : ¬ (s1.size ≤ 20 ∧ s2.size ≤ 20 ∧ [s1, s2].all smallB = true)) (h64 : s1.size ≤ 9223372036854775807) (h65 : s2.size ≤ 9223372036854775807) (w : World) (hT : Tab w) :
    Calls Tryd.prog 12 #[.string s1, .string s2, .agg #[.int .u8 n0, .int .u8 n1]] w fun e w' => e = .returned (.bool true) ∧ Below w.heap.size w w' := by
  have HT := Lib.hid hT
  have HAW := Lib.hid HA
  clear hT HA
  by_cases h1 : s1.size ≤ 20
  · by_cases h2 : s2.size ≤ 20
    · have h : [s1, s2].all smallB = false := by
        cases h : [s1, s2].all smallB with
        | false => rfl
        | true => exact absurd ⟨h1, h2, h⟩ hn
      obtain ⟨W0, hW0⟩ : ∃ W0, W0 = w.alloc (.cells #[.int .u8 n0, .int .u8 n1] 57) := ⟨_, rfl⟩
      have hsz : W0.heap.size = w.heap.size + 1 := by rw [hW0, World.size_alloc]
      have hsm := small_any [s1, s2] W0.heap.size (W0.alloc (.cells #[.string s1, .string s2] 22)) (by simp) (cells2 W0 s1 s2)
      rw [h, hsz] at hsm
      rw [hW0] at hsm
      have HS := Lib.hid hsm
      have hb0 : Below w.heap.size w ((w.alloc (.cells #[.int .u8 n0, .int .u8 n1] 57)).alloc (.cells #[.string s1, .string s2] 22)) := (below1 w _).alloc (by simp) _
      have g1 : decide (20 < ((s1.size : Nat) : Int)) = false := by simp; omega
      have g2 : decide (20 < ((s2.size : Nat) : Int)) = false := by simp; omega
      clear hsm h hn hW0 hsz W0
      go_enter Tryd.func12, Tryd.ntmps12
      go_wp2_with fail
      refine (HS.out).mono ?_
      rintro e w1 ⟨rfl, rfl⟩
      go_wp2_with fail
      refine (HAW.out _ (HT.out.keep hb0)).mono ?_
      rintro e w2 ⟨rfl, hb2⟩
      go_wp2
      go_ret
      exact ⟨rfl, hb0.trans (hb2.mono hb0.size)⟩
    · have g1 : decide (20 < ((s1.size : Nat) : Int)) = false := by simp; omega
      have g2 : decide (20 < ((s2.size : Nat) : Int)) = true := by simp; omega
      have hb0 : Below w.heap.size w (w.alloc (.cells #[.int .u8 n0, .int .u8 n1] 57)) := below1 w _
      clear hn
      go_enter Tryd.func12, Tryd.ntmps12
      go_wp2_with fail
      refine (HAW.out _ (HT.out.keep hb0)).mono ?_
      rintro e w2 ⟨rfl, hb2⟩
      go_wp2
      go_ret
      exact ⟨rfl, hb0.trans (hb2.mono hb0.size)⟩
  · have g1 : decide (20 < ((s1.size : Nat) : Int)) = true := by simp; omega
    have hb0 : Below w.heap.size w (w.alloc (.cells #[.int .u8 n0, .int .u8 n1] 57)) := below1 w _
    clear hn
    go_enter Tryd.func12, Tryd.ntmps12
    go_wp2_with fail
    refine (HAW.out _ (HT.out.keep hb0)).mono ?_
    rintro e w2 ⟨rfl, hb2⟩
    go_wp2
    go_ret
    exact ⟨rfl, hb0.trans (hb2.mono hb0.size)⟩

set_option maxHeartbeats 6400000 in
set_option maxRecDepth 100000 in
theorem powers_yes (HA : Awake) (s1 s2 : ByteArray) (i0 k0 : Nat) (hi0 : i0 ≤ 255) (hk0 : k0 ≤ 255) (h1 : s1.size ≤ 20) (h2 : s2.size ≤ 20) (h : [s1, s2].all smallB = true) (w : World) (hT : Tab w) :
    Calls Tryd.prog 12 #[.string s1, .string s2, .agg #[.int .u8 i0, .int .u8 k0]] w fun e w' => e = .returned (.bool true) ∧ Below w.heap.size w w' := by
  obtain ⟨W0, hW0⟩ : ∃ W0, W0 = w.alloc (.cells #[.int .u8 i0, .int .u8 k0] 57) := ⟨_, rfl⟩
  have hsz : W0.heap.size = w.heap.size + 1 := by rw [hW0, World.size_alloc]
  have hsm := small_any [s1, s2] W0.heap.size (W0.alloc (.cells #[.string s1, .string s2] 22)) (by simp) (cells2 W0 s1 s2)
  rw [h, hsz] at hsm
  rw [hW0] at hsm
  simp only [List.all_cons, List.all_nil, Bool.and_true, Bool.and_eq_true] at h
  obtain ⟨x, hx1, hx⟩ := small_Td 20 s1 h.1 h1
  obtain ⟨y, hy1, hy⟩ := small_Td 20 s2 h.2 h2
  obtain ⟨i, hi⟩ : ∃ i, i = i0 % 8 := ⟨_, rfl⟩
  obtain ⟨k, hk⟩ : ∃ i, i = k0 % 8 := ⟨_, rfl⟩
  have hi7 : i ≤ 7 := by omega
  have hk7 : k ≤ 7 := by omega
  have f1 : Few 141 (x ^ i) := (hx.pow i).le (by omega)
  have f2 : Few 141 (x ^ k) := (hx.pow k).le (by omega)
  have f3 : Few 281 (x ^ (i + k)) := (hx.pow (i + k)).le (by omega)
  have f4 : Few 40 (x * y) := hx.mul hy
  have f5 : Few 281 ((x * y) ^ i) := (f4.pow i).le (by omega)
  have f6 : Few 141 (y ^ i) := (hy.pow i).le (by omega)
  obtain ⟨X, hX⟩ : ∃ S, S = T (x ^ i) := ⟨_, rfl⟩
  obtain ⟨Y, hY⟩ : ∃ S, S = T (x ^ k) := ⟨_, rfl⟩
  obtain ⟨Z, hZ⟩ : ∃ S, S = T (x ^ (i + k)) := ⟨_, rfl⟩
  obtain ⟨P, hP⟩ : ∃ S, S = T (x * y) := ⟨_, rfl⟩
  obtain ⟨U, hU⟩ : ∃ S, S = T ((x * y) ^ i) := ⟨_, rfl⟩
  obtain ⟨V, hV⟩ : ∃ S, S = T (y ^ i) := ⟨_, rfl⟩
  have c1 : ∀ w, Tab w → Calls Tryd.prog 38 #[.string s1, .int .i64 i] w (OutT w X) := fun w hT => by
    rw [hX, hx1]; exact powT x i w (by omega) hx (by omega) (by omega) f1 (by omega) (by omega) hT
  have c2 : ∀ w, Tab w → Calls Tryd.prog 38 #[.string s1, .int .i64 k] w (OutT w Y) := fun w hT => by
    rw [hY, hx1]; exact powT x k w (by omega) hx (by omega) (by omega) f2 (by omega) (by omega) hT
  have c3 : ∀ w, Tab w → Calls Tryd.prog 38 #[.string s1, .int .i64 ((i : Int) + (k : Int))] w (OutT w Z) := fun w hT => by
    rw [hZ, hx1, ← Int.natCast_add]; exact powT x (i + k) w (by omega) hx (by omega) (by omega) f3 (by omega) (by omega) hT
  have c4 : ∀ w, Tab w → Calls Tryd.prog 36 #[.string X, .string Y] w (OutT w Z) := fun w hT => by
    rw [hX, hY, hZ, Int.pow_add]; exact mulT (x ^ i) (x ^ k) w f1 f2 (by omega) (by omega) hT
  have c5 : ∀ w, Tab w → Calls Tryd.prog 36 #[.string s1, .string s2] w (OutT w P) := fun w hT => by
    rw [hP, hx1, hy1]; exact mulT x y w hx hy (by omega) (by omega) hT
  have c6 : ∀ w, Tab w → Calls Tryd.prog 38 #[.string P, .int .i64 i] w (OutT w U) := fun w hT => by
    rw [hP, hU]; exact powT (x * y) i w (by omega) f4 (by omega) (by omega) f5 (by omega) (by omega) hT
  have c7 : ∀ w, Tab w → Calls Tryd.prog 38 #[.string s2, .int .i64 i] w (OutT w V) := fun w hT => by
    rw [hV, hy1]; exact powT y i w (by omega) hy (by omega) (by omega) f6 (by omega) (by omega) hT
  have c8 : ∀ w, Tab w → Calls Tryd.prog 36 #[.string X, .string V] w (OutT w U) := fun w hT => by
    rw [hX, hV, hU, show (x * y) ^ i = x ^ i * y ^ i from Int.mul_pow]; exact mulT (x ^ i) (y ^ i) w f1 f6 (by omega) (by omega) hT
  have H1 := Lib.hid c1; have H2 := Lib.hid c2; have H3 := Lib.hid c3; have H4 := Lib.hid c4; have H5 := Lib.hid c5
  have H6 := Lib.hid c6; have H7 := Lib.hid c7; have H8 := Lib.hid c8
  have HS := Lib.hid hsm
  have HT := Lib.hid hT
  have HAW := Lib.hid HA
  have HI : Hid ((i0 : Int) % 8 = (i : Int) ∧ (k0 : Int) % 8 = (k : Int)) := ⟨by omega, by omega⟩
  have g1 : decide (20 < ((s1.size : Nat) : Int)) = false := by simp; omega
  have g2 : decide (20 < ((s2.size : Nat) : Int)) = false := by simp; omega
  clear hsm hT HA h c1 c2 c3 c4 c5 c6 c7 c8 hx hy hx1 hy1 hX hY hZ hP hU hV f1 f2 f3 f4 f5 f6 hi hk hW0 hsz W0
  clear x y
  go_enter Tryd.func12, Tryd.ntmps12
  go_wp2_with fail
  refine (HS.out).mono ?_
  rintro e w0 ⟨rfl, rfl⟩
  have hb0 : Below w.heap.size w ((w.alloc (.cells #[.int .u8 i0, .int .u8 k0] 57)).alloc (.cells #[.string s1, .string s2] 22)) := (below1 w _).alloc (by simp) _
  have hB : Box 57 ((w.alloc (.cells #[.int .u8 i0, .int .u8 k0] 57)).alloc (.cells #[.string s1, .string s2] 22)) w.heap.size (.int .u8 i0) (.int .u8 k0) := (Box.new 57 w _ _).alloc _
  generalize (w.alloc (.cells #[.int .u8 i0, .int .u8 k0] 57)).alloc (.cells #[.string s1, .string s2] 22) = w0 at *
  have x0 := hB.c0; have x1 := hB.c1
  clear hB
  go_wp2
  go_region
  go_wp2_with fail
  rw [HI.out.1, HI.out.2]
  have hb0 : Below w.heap.size w w0.drew := hb0.drew
  generalize w0.drew = w0 at *
  refine (H1.out _ (HT.out.keep hb0)).mono ?_
  rintro e w1 ⟨rfl, hc1⟩
  have hb1 : Below w.heap.size w w1 := hb0.trans (hc1.mono hb0.size)
  clear hb0 hc1
  go_wp2_with fail
  refine (H2.out _ (HT.out.keep hb1)).mono ?_
  rintro e w2 ⟨rfl, hc2⟩
  have hb2 : Below w.heap.size w w2 := hb1.trans (hc2.mono hb1.size)
  clear hb1 hc2
  go_wp2_with fail
  refine (H3.out _ (HT.out.keep hb2)).mono ?_
  rintro e w3 ⟨rfl, hc3⟩
  have hb3 : Below w.heap.size w w3 := hb2.trans (hc3.mono hb2.size)
  clear hb2 hc3
  go_wp2_with fail
  refine (H4.out _ (HT.out.keep hb3)).mono ?_
  rintro e w4 ⟨rfl, hc4⟩
  have hb4 : Below w.heap.size w w4 := hb3.trans (hc4.mono hb3.size)
  clear hb3 hc4
  go_wp2_with fail
  refine (H5.out _ (HT.out.keep hb4)).mono ?_
  rintro e w5 ⟨rfl, hc5⟩
  have hb5 : Below w.heap.size w w5 := hb4.trans (hc5.mono hb4.size)
  clear hb4 hc5
  go_wp2_with fail
  refine (H6.out _ (HT.out.keep hb5)).mono ?_
  rintro e w6 ⟨rfl, hc6⟩
  have hb6 : Below w.heap.size w w6 := hb5.trans (hc6.mono hb5.size)
  clear hb5 hc6
  go_wp2_with fail
  refine (H7.out _ (HT.out.keep hb6)).mono ?_
  rintro e w7 ⟨rfl, hc7⟩
  have hb7 : Below w.heap.size w w7 := hb6.trans (hc7.mono hb6.size)
  clear hb6 hc7
  go_wp2_with fail
  refine (H8.out _ (HT.out.keep hb7)).mono ?_
  rintro e w8 ⟨rfl, hc8⟩
  have hb8 : Below w.heap.size w w8 := hb7.trans (hc8.mono hb7.size)
  clear hb7 hc8
  go_wp2_with fail
  refine (HAW.out _ (HT.out.keep hb8)).mono ?_
  rintro e w10 ⟨rfl, hc10⟩
  have hb10 : Below w.heap.size w w10 := hb8.trans (hc10.mono hb8.size)
  go_wp2
  go_ret
  exact ⟨rfl, hb10⟩

theorem powers_any (HA : Awake) (s1 s2 : ByteArray) (i0 k0 : Nat) (hi0 : i0 ≤ 255) (hk0 : k0 ≤ 255) (h64 : s1.size ≤ 9223372036854775807) (h65 : s2.size ≤ 9223372036854775807) (w : World) (hT : Tab w) :
    Calls Tryd.prog 12 #[.string s1, .string s2, .agg #[.int .u8 i0, .int .u8 k0]] w fun e w' => e = .returned (.bool true) ∧ Below w.heap.size w w' := by
  by_cases h : s1.size ≤ 20 ∧ s2.size ≤ 20 ∧ [s1, s2].all smallB = true
  · exact powers_yes HA s1 s2 i0 k0 hi0 hk0 h.1 h.2.1 h.2.2 w hT
  · exact powers_no HA s1 s2 i0 k0 h h64 h65 w hT

end Go.Proofs.YtbmonfbbkmpdhaaDoor

namespace Go.Proofs.YtbmonfbbkmpdhaaDoor
open Go.RowKit Go.Proofs.Num

theorem fewB_size (s : ByteArray) (h : fewB s = true) : s.size ≤ 2048 := by
  unfold fewB at h
  simp only [Bool.or_eq_true, Bool.and_eq_true, decide_eq_true_eq] at h
  omega

set_option maxRecDepth 100000 in
theorem products_long (HA : Awake) (s r : ByteArray) (hs : s.size ≤ 9223372036854775807) (hr : r.size ≤ 9223372036854775807) (n : Int) (h : (fewB s && fewB r) = false) (w : World) (hT : Tab w) :
    Calls Tryd.prog 6 #[.string s, .string r, .int .i64 n] w fun e w' => e = .returned (.bool true) ∧ Below w.heap.size w w' := by
  have HP := Lib.hid (fun w => pair_any s r hs hr w)
  rw [h] at HP
  have HT := Lib.hid hT
  have HAW := Lib.hid HA
  clear hT HA h
  go_enter Tryd.func6, Tryd.ntmps6
  go_wp2_with fail
  refine (HP.out _).mono ?_
  rintro e w1 ⟨rfl, rfl⟩
  go_wp2_with fail
  refine (HAW.out _ HT.out).mono ?_
  rintro e w1 ⟨rfl, hb1⟩
  go_wp2
  go_ret
  exact ⟨rfl, hb1⟩

set_option maxHeartbeats 6400000 in
set_option maxRecDepth 100000 in
theorem products_short (HA : Awake) (s r : ByteArray) (n : Int) (h : (fewB s && fewB r) = true) (w : World) (hT : Tab w) :
    Calls Tryd.prog 6 #[.string s, .string r, .int .i64 n] w fun e w' => e = .returned (.bool true) ∧ Below w.heap.size w w' := by
  have hs' : s.size ≤ 9223372036854775807 := by
    have := fewB_size s (by simp at h; exact h.1); omega
  have hr' : r.size ≤ 9223372036854775807 := by
    have := fewB_size r (by simp at h; exact h.2); omega
  have cP := fun w => pair_any s r hs' hr' w
  rw [h] at cP
  obtain ⟨S1, hS1⟩ : ∃ S : ByteArray, S = ⟨(op2 (· * ·) s.data.toList r.data.toList).1.toArray⟩ := ⟨_, rfl⟩
  obtain ⟨x1, hx1⟩ : ∃ x, x = (op2 (· * ·) s.data.toList r.data.toList).2 := ⟨_, rfl⟩
  obtain ⟨S2, hS2⟩ : ∃ S : ByteArray, S = ⟨(powS s.data.toList n).1.toArray⟩ := ⟨_, rfl⟩
  obtain ⟨x2, hx2⟩ : ∃ x, x = (powS s.data.toList n).2 := ⟨_, rfl⟩
  have c1 : ∀ w, Tab w → Calls Tryd.prog 36 #[.string s, .string r] w (OutE w S1 x1) := fun w hT => by rw [hS1, hx1]; exact mul_any s r hs' hr' w hT
  have c2 : ∀ w, Tab w → Calls Tryd.prog 37 #[.string s, .string r] w (OutE w S1 x1) := fun w _ => by rw [hS1, hx1]; exact rmul_any s r hs' hr' w
  have c3 : ∀ w, Tab w → Calls Tryd.prog 38 #[.string s, .int .i64 n] w (OutE w S2 x2) := fun w hT => by rw [hS2, hx2]; exact powS_any s hs' n w hT
  have c4 : ∀ w, Tab w → Calls Tryd.prog 39 #[.string s, .int .i64 n] w (OutE w S2 x2) := fun w _ => by rw [hS2, hx2]; exact rpow_any s hs' n w
  have HP := Lib.hid cP
  have H1 := Lib.hid c1; have H2 := Lib.hid c2; have H3 := Lib.hid c3; have H4 := Lib.hid c4
  have HT := Lib.hid hT
  have HAW := Lib.hid HA
  clear c1 c2 c3 c4 cP hS1 hS2 hx1 hx2 hT HA hs' hr' h
  have hway : (decide (60 < n) = true ∧ decide (n ≤ 4096) = true ∧ (s.toList == [48]) = false ∧ (s.toList == [49]) = false ∧ (s.toList == [45, 49]) = false) ∨
      (decide (60 < n) = false) ∨ (decide (60 < n) = true ∧ decide (n ≤ 4096) = false) ∨ (decide (60 < n) = true ∧ decide (n ≤ 4096) = true ∧ (s.toList == [48]) = true) ∨
      (decide (60 < n) = true ∧ decide (n ≤ 4096) = true ∧ (s.toList == [48]) = false ∧ (s.toList == [49]) = true) ∨
      (decide (60 < n) = true ∧ decide (n ≤ 4096) = true ∧ (s.toList == [48]) = false ∧ (s.toList == [49]) = false ∧ (s.toList == [45, 49]) = true) := by
    cases decide (60 < n) <;> cases decide (n ≤ 4096) <;> cases (s.toList == [48]) <;> cases (s.toList == [49]) <;> cases (s.toList == [45, 49]) <;> simp
  rcases hway with ⟨g1, g2, g3, g4, g5⟩ | hway
  · go_enter Tryd.func6, Tryd.ntmps6
    go_wp2_with fail
    refine (HP.out _).mono ?_
    rintro e w1 ⟨rfl, rfl⟩
    go_wp2_with fail
    refine (H1.out _ HT.out).mono ?_
    rintro e w1 ⟨rfl, hc1⟩
    have hb1 : Below w.heap.size w w1 := hc1
    clear hc1
    go_wp2_with fail
    refine (H2.out _ (HT.out.keep hb1)).mono ?_
    rintro e w2 ⟨rfl, hc2⟩
    have hb2 : Below w.heap.size w w2 := hb1.trans (hc2.mono hb1.size)
    clear hb1 hc2
    go_wp2_with fail
    refine (HAW.out _ (HT.out.keep hb2)).mono ?_
    rintro e w3 ⟨rfl, hc3⟩
    have hb3 : Below w.heap.size w w3 := hb2.trans (hc3.mono hb2.size)
    clear hb2 hc3
    go_wp2
    go_ret
    exact ⟨rfl, hb3⟩
  rcases hway with g1 | ⟨g1, g2⟩ | ⟨g1, g2, g3⟩ | ⟨g1, g2, g3, g4⟩ | ⟨g1, g2, g3, g4, g5⟩
  all_goals
    go_enter Tryd.func6, Tryd.ntmps6
    go_wp2_with fail
    refine (HP.out _).mono ?_
    rintro e w1 ⟨rfl, rfl⟩
    go_wp2_with fail
    refine (H1.out _ HT.out).mono ?_
    rintro e w1 ⟨rfl, hc1⟩
    have hb1 : Below w.heap.size w w1 := hc1
    clear hc1
    go_wp2_with fail
    refine (H2.out _ (HT.out.keep hb1)).mono ?_
    rintro e w2 ⟨rfl, hc2⟩
    have hb2 : Below w.heap.size w w2 := hb1.trans (hc2.mono hb1.size)
    clear hb1 hc2
    go_wp2_with fail
    refine (H3.out _ (HT.out.keep hb2)).mono ?_
    rintro e w3 ⟨rfl, hc3⟩
    have hb3 : Below w.heap.size w w3 := hb2.trans (hc3.mono hb2.size)
    clear hb2 hc3
    go_wp2_with fail
    refine (H4.out _ (HT.out.keep hb3)).mono ?_
    rintro e w4 ⟨rfl, hc4⟩
    have hb4 : Below w.heap.size w w4 := hb3.trans (hc4.mono hb3.size)
    clear hb3 hc4
    go_wp2_with fail
    refine (HAW.out _ (HT.out.keep hb4)).mono ?_
    rintro e w5 ⟨rfl, hc5⟩
    have hb5 : Below w.heap.size w w5 := hb4.trans (hc5.mono hb4.size)
    clear hb4 hc5
    go_wp2
    go_ret
    exact ⟨rfl, hb5⟩

theorem products_any (HA : Awake) (s r : ByteArray) (hs : s.size ≤ 9223372036854775807) (hr : r.size ≤ 9223372036854775807) (n : Int) (w : World) (hT : Tab w) :
    Calls Tryd.prog 6 #[.string s, .string r, .int .i64 n] w fun e w' => e = .returned (.bool true) ∧ Below w.heap.size w w' := by
  by_cases h : (fewB s && fewB r) = true
  · exact products_short HA s r n h w hT
  · exact products_long HA s r hs hr n (by simpa using h) w hT
end Go.Proofs.YtbmonfbbkmpdhaaDoor
