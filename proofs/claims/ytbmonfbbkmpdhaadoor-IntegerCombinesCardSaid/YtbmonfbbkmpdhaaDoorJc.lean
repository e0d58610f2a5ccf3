/- Walks of the laws: powers. -/
import Derived.Test.YtbmonfbbkmpdhaaDoorJb
import Derived.Test.YtbmonfbbkmpdhaaDoorPc
namespace Go.Proofs.YtbmonfbbkmpdhaaDoor
open Go.RowKit Go.Proofs.Num

theorem Few.pow {d : Nat} {x : Int} (h : Few d x) (n : Nat) : Few (d * n + 1) (x ^ n) := by
  unfold Few at *
  rw [natAbs_pow, Nat.pow_succ, Nat.pow_mul]
  have h1 : x.natAbs ^ n ≤ (10 ^ d) ^ n := Nat.pow_le_pow_left (Nat.le_of_lt h) n
  have h2 : 0 < (10 ^ d) ^ n := Nat.pow_pos (Nat.pow_pos (by omega))
  omega

theorem powT {d e : Nat} (x : Int) (n : Nat) (w : World) (hn : n ≤ 4096) (hx : Few d x) (h1 : 1 ≤ d) (hd : d ≤ 1024) (hz : Few e (x ^ n)) (he1 : 1 ≤ e) (he : e ≤ 1024) (hT : Tab w) :
    Calls Tryd.prog 38 #[.string (T x), .int .i64 n] w (OutT w (T (x ^ n))) := by
  have h := pow_any (T x) (hx.size h1 hd) (hx.chk h1 hd) n hn w hT
  rw [T_data, parse_itoa, hz.tx he1 he, hz.te he1 he] at h
  exact h

theorem small_Td (N : Nat) (s : ByteArray) (h : smallB s = true) (hs : s.size ≤ N) : ∃ x, s = T x ∧ Few N x := by
  unfold smallB at h
  simp only [Bool.and_eq_true, decide_eq_true_eq, beq_iff_eq] at h
  refine ⟨_, of_chk s h.2, ?_⟩
  have h1 := (chk_cases _ h.2).1
  have h3 := body_length (Lib.itoa (parse s.data.toList))
  rw [itoa_body, Lib.decDigits_length, h1, size_toList] at h3
  exact Nat.lt_of_lt_of_le (Lib.lt_pow_nDigits _) (Nat.pow_le_pow_right (by omega) (by omega))

theorem cells2 (w : World) (s1 s2 : ByteArray) (k : Nat) (h : k < [s1, s2].length) : (w.alloc (.cells #[.string s1, .string s2] 22)).cell? ⟨w.heap.size, k, none⟩ = some (.string [s1, s2][k]) := by
  rw [cell_of_row _ w.heap.size k _ 22 (0, 0) (heap_alloc_new w _)]
  match k, h with
  | 0, _ => rfl
  | 1, _ => rfl

set_option maxHeartbeats 3200000 in
set_option maxRecDepth 100000 in
theorem powers_no (HA : Awake) (s1 s2 : ByteArray) (n0 n1 : Int) (hn : ¬ (s1.size ≤ 20 ∧ s2.size ≤ 20 ∧ [s1, s2].all smallB = true)) (h64 : s1.size ≤ 9223372036854775807) (h65 : s2.size ≤ 9223372036854775807) (w : World) (hT : Tab w) :
    Calls Tryd.prog 12 #[.string s1, .string s2, .agg #[.int .u8 n0, .int .u8 n1]] w fun e w' => e = .returned (.bool true) ∧ Below w.heap.size w w' := by
  have HT := Lib.hid hT
  have HAW := Lib.hid HA
  clear hT HA
  by_cases h1 : s1.size ≤ 20
  · by_cases h2 : s2.size ≤ 20
    · have h : [s1, s2].all smallB = false := by
        cases h : [s1, s2].all smallB with
        | false => rfl
        | true => exact absurd ⟨h1, h2, h⟩ hn
      obtain ⟨W0, hW0⟩ : ∃ W0, W0 = w.alloc (.cells #[.int .u8 n0, .int .u8 n1] 57) := ⟨_, rfl⟩
      have hsz : W0.heap.size = w.heap.size + 1 := by rw [hW0, World.size_alloc]
      have hsm := small_any [s1, s2] W0.heap.size (W0.alloc (.cells #[.string s1, .string s2] 22)) (by simp) (cells2 W0 s1 s2)
      rw [h, hsz] at hsm
      rw [hW0] at hsm
      have HS := Lib.hid hsm
      have hb0 : Below w.heap.size w ((w.alloc (.cells #[.int .u8 n0, .int .u8 n1] 57)).alloc (.cells #[.string s1, .string s2] 22)) := (below1 w _).alloc (by simp) _
      have g1 : decide (20 < ((s1.size : Nat) : Int)) = false := by simp; omega
      have g2 : decide (20 < ((s2.size : Nat) : Int)) = false := by simp; omega
      clear hsm h hn hW0 hsz W0
      go_enter Tryd.func12, Tryd.ntmps12
      go_wp2_with fail
      refine (HS.out).mono ?_
      rintro e w1 ⟨rfl, rfl⟩
      go_wp2_with fail
      refine (HAW.out _ (HT.out.keep hb0)).mono ?_
      rintro e w2 ⟨rfl, hb2⟩
      go_wp2
      go_ret
      exact ⟨rfl, hb0.trans (hb2.mono hb0.size)⟩
    · have g1 : decide (20 < ((s1.size : Nat) : Int)) = false := by simp; omega
      have g2 : decide (20 < ((s2.size : Nat) : Int)) = true := by simp; omega
      have hb0 : Below w.heap.size w (w.alloc (.cells #[.int .u8 n0, .int .u8 n1] 57)) := below1 w _
      clear hn
      go_enter Tryd.func12, Tryd.ntmps12
      go_wp2_with fail
      refine (HAW.out _ (HT.out.keep hb0)).mono ?_
      rintro e w2 ⟨rfl, hb2⟩
      go_wp2
      go_ret
      exact ⟨rfl, hb0.trans (hb2.mono hb0.size)⟩
  · have g1 : decide (20 < ((s1.size : Nat) : Int)) = true := by simp; omega
    have hb0 : Below w.heap.size w (w.alloc (.cells #[.int .u8 n0, .int .u8 n1] 57)) := below1 w _
    clear hn
    go_enter Tryd.func12, Tryd.ntmps12
    go_wp2_with fail
    refine (HAW.out _ (HT.out.keep hb0)).mono ?_
    rintro e w2 ⟨rfl, hb2⟩
    go_wp2
    go_ret
    exact ⟨rfl, hb0.trans (hb2.mono hb0.size)⟩

set_option maxHeartbeats 6400000 in
set_option maxRecDepth 100000 in
theorem powers_yes (HA : Awake) (s1 s2 : ByteArray) (i0 k0 : Nat) (hi0 : i0 ≤ 255) (hk0 : k0 ≤ 255) (h1 : s1.size ≤ 20) (h2 : s2.size ≤ 20) (h : [s1, s2].all smallB = true) (w : World) (hT : Tab w) :
    Calls Tryd.prog 12 #[.string s1, .string s2, .agg #[.int .u8 i0, .int .u8 k0]] w fun e w' => e = .returned (.bool true) ∧ Below w.heap.size w w' := by
  obtain ⟨W0, hW0⟩ : ∃ W0, W0 = w.alloc (.cells #[.int .u8 i0, .int .u8 k0] 57) := ⟨_, rfl⟩
  have hsz : W0.heap.size = w.heap.size + 1 := by rw [hW0, World.size_alloc]
  have hsm := small_any [s1, s2] W0.heap.size (W0.alloc (.cells #[.string s1, .string s2] 22)) (by simp) (cells2 W0 s1 s2)
  rw [h, hsz] at hsm
  rw [hW0] at hsm
  simp only [List.all_cons, List.all_nil, Bool.and_true, Bool.and_eq_true] at h
  obtain ⟨x, hx1, hx⟩ := small_Td 20 s1 h.1 h1
  obtain ⟨y, hy1, hy⟩ := small_Td 20 s2 h.2 h2
  obtain ⟨i, hi⟩ : ∃ i, i = i0 % 8 := ⟨_, rfl⟩
  obtain ⟨k, hk⟩ : ∃ i, i = k0 % 8 := ⟨_, rfl⟩
  have hi7 : i ≤ 7 := by omega
  have hk7 : k ≤ 7 := by omega
  have f1 : Few 141 (x ^ i) := (hx.pow i).le (by omega)
  have f2 : Few 141 (x ^ k) := (hx.pow k).le (by omega)
  have f3 : Few 281 (x ^ (i + k)) := (hx.pow (i + k)).le (by omega)
  have f4 : Few 40 (x * y) := hx.mul hy
  have f5 : Few 281 ((x * y) ^ i) := (f4.pow i).le (by omega)
  have f6 : Few 141 (y ^ i) := (hy.pow i).le (by omega)
  obtain ⟨X, hX⟩ : ∃ S, S = T (x ^ i) := ⟨_, rfl⟩
  obtain ⟨Y, hY⟩ : ∃ S, S = T (x ^ k) := ⟨_, rfl⟩
  obtain ⟨Z, hZ⟩ : ∃ S, S = T (x ^ (i + k)) := ⟨_, rfl⟩
  obtain ⟨P, hP⟩ : ∃ S, S = T (x * y) := ⟨_, rfl⟩
  obtain ⟨U, hU⟩ : ∃ S, S = T ((x * y) ^ i) := ⟨_, rfl⟩
  obtain ⟨V, hV⟩ : ∃ S, S = T (y ^ i) := ⟨_, rfl⟩
  have c1 : ∀ w, Tab w → Calls Tryd.prog 38 #[.string s1, .int .i64 i] w (OutT w X) := fun w hT => by
    rw [hX, hx1]; exact powT x i w (by omega) hx (by omega) (by omega) f1 (by omega) (by omega) hT
  have c2 : ∀ w, Tab w → Calls Tryd.prog 38 #[.string s1, .int .i64 k] w (OutT w Y) := fun w hT => by
    rw [hY, hx1]; exact powT x k w (by omega) hx (by omega) (by omega) f2 (by omega) (by omega) hT
  have c3 : ∀ w, Tab w → Calls Tryd.prog 38 #[.string s1, .int .i64 ((i : Int) + (k : Int))] w (OutT w Z) := fun w hT => by
    rw [hZ, hx1, ← Int.natCast_add]; exact powT x (i + k) w (by omega) hx (by omega) (by omega) f3 (by omega) (by omega) hT
  have c4 : ∀ w, Tab w → Calls Tryd.prog 36 #[.string X, .string Y] w (OutT w Z) := fun w hT => by
    rw [hX, hY, hZ, Int.pow_add]; exact mulT (x ^ i) (x ^ k) w f1 f2 (by omega) (by omega) hT
  have c5 : ∀ w, Tab w → Calls Tryd.prog 36 #[.string s1, .string s2] w (OutT w P) := fun w hT => by
    rw [hP, hx1, hy1]; exact mulT x y w hx hy (by omega) (by omega) hT
  have c6 : ∀ w, Tab w → Calls Tryd.prog 38 #[.string P, .int .i64 i] w (OutT w U) := fun w hT => by
    rw [hP, hU]; exact powT (x * y) i w (by omega) f4 (by omega) (by omega) f5 (by omega) (by omega) hT
  have c7 : ∀ w, Tab w → Calls Tryd.prog 38 #[.string s2, .int .i64 i] w (OutT w V) := fun w hT => by
    rw [hV, hy1]; exact powT y i w (by omega) hy (by omega) (by omega) f6 (by omega) (by omega) hT
  have c8 : ∀ w, Tab w → Calls Tryd.prog 36 #[.string X, .string V] w (OutT w U) := fun w hT => by
    rw [hX, hV, hU, show (x * y) ^ i = x ^ i * y ^ i from Int.mul_pow]; exact mulT (x ^ i) (y ^ i) w f1 f6 (by omega) (by omega) hT
  have H1 := Lib.hid c1; have H2 := Lib.hid c2; have H3 := Lib.hid c3; have H4 := Lib.hid c4; have H5 := Lib.hid c5
  have H6 := Lib.hid c6; have H7 := Lib.hid c7; have H8 := Lib.hid c8
  have HS := Lib.hid hsm
  have HT := Lib.hid hT
  have HAW := Lib.hid HA
  have HI : Hid ((i0 : Int) % 8 = (i : Int) ∧ (k0 : Int) % 8 = (k : Int)) := ⟨by omega, by omega⟩
  have g1 : decide (20 < ((s1.size : Nat) : Int)) = false := by simp; omega
  have g2 : decide (20 < ((s2.size : Nat) : Int)) = false := by simp; omega
  clear hsm hT HA h c1 c2 c3 c4 c5 c6 c7 c8 hx hy hx1 hy1 hX hY hZ hP hU hV f1 f2 f3 f4 f5 f6 hi hk hW0 hsz W0
  clear x y
  go_enter Tryd.func12, Tryd.ntmps12
  go_wp2_with fail
  refine (HS.out).mono ?_
  rintro e w0 ⟨rfl, rfl⟩
  have hb0 : Below w.heap.size w ((w.alloc (.cells #[.int .u8 i0, .int .u8 k0] 57)).alloc (.cells #[.string s1, .string s2] 22)) := (below1 w _).alloc (by simp) _
  have hB : Box 57 ((w.alloc (.cells #[.int .u8 i0, .int .u8 k0] 57)).alloc (.cells #[.string s1, .string s2] 22)) w.heap.size (.int .u8 i0) (.int .u8 k0) := (Box.new 57 w _ _).alloc _
  generalize (w.alloc (.cells #[.int .u8 i0, .int .u8 k0] 57)).alloc (.cells #[.string s1, .string s2] 22) = w0 at *
  have x0 := hB.c0; have x1 := hB.c1
  clear hB
  go_wp2
  go_region
  go_wp2_with fail
  rw [HI.out.1, HI.out.2]
  have hb0 : Below w.heap.size w w0.drew := hb0.drew
  generalize w0.drew = w0 at *
  refine (H1.out _ (HT.out.keep hb0)).mono ?_
  rintro e w1 ⟨rfl, hc1⟩
  have hb1 : Below w.heap.size w w1 := hb0.trans (hc1.mono hb0.size)
  clear hb0 hc1
  go_wp2_with fail
  refine (H2.out _ (HT.out.keep hb1)).mono ?_
  rintro e w2 ⟨rfl, hc2⟩
  have hb2 : Below w.heap.size w w2 := hb1.trans (hc2.mono hb1.size)
  clear hb1 hc2
  go_wp2_with fail
  refine (H3.out _ (HT.out.keep hb2)).mono ?_
  rintro e w3 ⟨rfl, hc3⟩
  have hb3 : Below w.heap.size w w3 := hb2.trans (hc3.mono hb2.size)
  clear hb2 hc3
  go_wp2_with fail
  refine (H4.out _ (HT.out.keep hb3)).mono ?_
  rintro e w4 ⟨rfl, hc4⟩
  have hb4 : Below w.heap.size w w4 := hb3.trans (hc4.mono hb3.size)
  clear hb3 hc4
  go_wp2_with fail
  refine (H5.out _ (HT.out.keep hb4)).mono ?_
  rintro e w5 ⟨rfl, hc5⟩
  have hb5 : Below w.heap.size w w5 := hb4.trans (hc5.mono hb4.size)
  clear hb4 hc5
  go_wp2_with fail
  refine (H6.out _ (HT.out.keep hb5)).mono ?_
  rintro e w6 ⟨rfl, hc6⟩
  have hb6 : Below w.heap.size w w6 := hb5.trans (hc6.mono hb5.size)
  clear hb5 hc6
  go_wp2_with fail
  refine (H7.out _ (HT.out.keep hb6)).mono ?_
  rintro e w7 ⟨rfl, hc7⟩
  have hb7 : Below w.heap.size w w7 := hb6.trans (hc7.mono hb6.size)
  clear hb6 hc7
  go_wp2_with fail
  refine (H8.out _ (HT.out.keep hb7)).mono ?_
  rintro e w8 ⟨rfl, hc8⟩
  have hb8 : Below w.heap.size w w8 := hb7.trans (hc8.mono hb7.size)
  clear hb7 hc8
  go_wp2_with fail
  refine (HAW.out _ (HT.out.keep hb8)).mono ?_
  rintro e w10 ⟨rfl, hc10⟩
  have hb10 : Below w.heap.size w w10 := hb8.trans (hc10.mono hb8.size)
  go_wp2
  go_ret
  exact ⟨rfl, hb10⟩

theorem powers_any (HA : Awake) (s1 s2 : ByteArray) (i0 k0 : Nat) (hi0 : i0 ≤ 255) (hk0 : k0 ≤ 255) (h64 : s1.size ≤ 9223372036854775807) (h65 : s2.size ≤ 9223372036854775807) (w : World) (hT : Tab w) :
    Calls Tryd.prog 12 #[.string s1, .string s2, .agg #[.int .u8 i0, .int .u8 k0]] w fun e w' => e = .returned (.bool true) ∧ Below w.heap.size w w' := by
  by_cases h : s1.size ≤ 20 ∧ s2.size ≤ 20 ∧ [s1, s2].all smallB = true
  · exact powers_yes HA s1 s2 i0 k0 hi0 hk0 h.1 h.2.1 h.2.2 w hT
  · exact powers_no HA s1 s2 i0 k0 h h64 h65 w hT

end Go.Proofs.YtbmonfbbkmpdhaaDoor
