/- Walks of the laws: the order is total, and keeps sums and products. -/
import Derived.Test.YtbmonfbbkmpdhaaDoorJa
namespace Go.Proofs.YtbmonfbbkmpdhaaDoor
open Go.RowKit Go.Proofs.Num

theorem cmpT {d : Nat} (x y : Int) (w : World) (hx : Few d x) (hy : Few d y) (h1 : 1 ≤ d) (hd : d ≤ 1024) :
    Calls Tryd.prog 27 #[.string (T x), .string (T y)] w fun e w' => e = .returned (.tuple #[.int .i64 (cmpZ x y), .int .i64 0]) ∧ Below w.heap.size w w' := by
  have h := cmp_ok (T x) (T y) (hx.size h1 hd) (hy.size h1 hd) (hx.chk h1 hd) (hy.chk h1 hd) w
  rw [T_data, T_data, parse_itoa, parse_itoa] at h
  exact h

theorem sgnT {d : Nat} (x : Int) (w : World) (hx : Few d x) (h1 : 1 ≤ d) (hd : d ≤ 1024) :
    Calls Tryd.prog 17 #[.string (T x)] w fun e w' => e = .returned (.tuple #[.int .i64 (sgn x), .int .i64 0]) ∧ Below w.heap.size w w' := by
  have h := sgn_ok (T x) (hx.size h1 hd) (hx.chk h1 hd) w
  rw [T_data, parse_itoa] at h
  exact h

theorem T_inj {x y : Int} (h : T x = T y) : x = y := by
  have := congrArg (fun s : ByteArray => parse s.data.toList) h
  simp only [T_data, parse_itoa] at this
  exact this

theorem eq_T (x y : Int) : ((T x).toList == (T y).toList) = decide (x = y) := by
  rw [Lib.toList_data, Lib.toList_data, T_data, T_data]
  by_cases h : x = y
  · subst h; simp
  · rw [decide_eq_false h, beq_eq_false_iff_ne]
    intro e; apply h
    have := congrArg parse e
    rwa [parse_itoa, parse_itoa] at this

theorem cmp_add (x y z : Int) : cmpZ (x + z) (y + z) = cmpZ x y := by
  unfold cmpZ
  have h1 : (x + z < y + z) = (x < y) := by apply propext; omega
  have h2 : (y + z < x + z) = (y < x) := by apply propext; omega
  simp only [h1, h2]

theorem cmp_ways (x y : Int) : (cmpZ x y = -1 ∧ cmpZ y x = 1 ∧ x < y) ∨ (cmpZ x y = 0 ∧ cmpZ y x = 0 ∧ x = y) ∨ (cmpZ x y = 1 ∧ cmpZ y x = -1 ∧ y < x) := by
  unfold cmpZ
  rcases Int.lt_trichotomy x y with h | h | h
  · left; rw [if_pos h, if_neg (by omega), if_pos h]; exact ⟨rfl, rfl, h⟩
  · right; left; subst h; simp
  · right; right; rw [if_neg (by omega), if_pos h, if_pos h]; exact ⟨rfl, rfl, h⟩

theorem sgn_ways (z : Int) : (sgn z = -1 ∧ z < 0) ∨ (sgn z = 0 ∧ z = 0) ∨ (sgn z = 1 ∧ 0 < z) := by
  rcases Int.lt_trichotomy z 0 with h | h | h
  · exact .inl ⟨sgn_neg h, h⟩
  · exact .inr (.inl ⟨by rw [h]; rfl, h⟩)
  · exact .inr (.inr ⟨sgn_pos h, h⟩)

theorem cmp_mul (x y z : Int) : cmpZ (x * z) (y * z) = cmpZ x y * sgn z := by
  rcases sgn_ways z with ⟨hs, h⟩ | ⟨hs, h⟩ | ⟨hs, h⟩
  · rw [hs]
    unfold cmpZ
    have h1 : (x * z < y * z) = (y < x) := propext ⟨fun hh => Int.not_le.1 fun hle => absurd hh (Int.not_lt.2 (Int.mul_le_mul_of_nonpos_right hle (by omega))), fun hh => Int.mul_lt_mul_of_neg_right hh h⟩
    have h2 : (y * z < x * z) = (x < y) := propext ⟨fun hh => Int.not_le.1 fun hle => absurd hh (Int.not_lt.2 (Int.mul_le_mul_of_nonpos_right hle (by omega))), fun hh => Int.mul_lt_mul_of_neg_right hh h⟩
    simp only [h1, h2]
    rcases Int.lt_trichotomy x y with g | g | g
    · rw [if_neg (by omega), if_pos g, if_pos g]; rfl
    · subst g; simp
    · rw [if_pos g, if_neg (by omega), if_pos g]; rfl
  · rw [hs, h]; simp [cmpZ]
  · rw [hs]
    unfold cmpZ
    have h1 : (x * z < y * z) = (x < y) := propext ⟨fun hh => Int.lt_of_mul_lt_mul_right hh (by omega), fun hh => Int.mul_lt_mul_of_pos_right hh h⟩
    have h2 : (y * z < x * z) = (y < x) := propext ⟨fun hh => Int.lt_of_mul_lt_mul_right hh (by omega), fun hh => Int.mul_lt_mul_of_pos_right hh h⟩
    simp only [h1, h2, Int.mul_one]

/-- Hands back an int and no error. -/
def OutI (w : World) (z : Int) (e : Ending) (w' : World) : Prop := e = .returned (.tuple #[.int .i64 z, .int .i64 0]) ∧ Below w.heap.size w w'

set_option maxHeartbeats 3200000 in
set_option maxRecDepth 100000 in
theorem order_no (HA : Awake) (s1 s2 s3 : ByteArray) (h : [s1, s2, s3].all smallB = false) (w : World) (hT : Tab w) :
    Calls Tryd.prog 9 #[.string s1, .string s2, .string s3] w fun e w' => e = .returned (.bool true) ∧ Below w.heap.size w w' := by
  have hsm := small_any [s1, s2, s3] w.heap.size (w.alloc (.cells #[.string s1, .string s2, .string s3] 22)) (by simp) (cells3 w s1 s2 s3)
  rw [h] at hsm
  have HS := Lib.hid hsm
  have HT := Lib.hid hT
  have HAW := Lib.hid HA
  clear hsm hT HA h
  go_enter Tryd.func9, Tryd.ntmps9
  go_wp2_with fail
  refine (HS.out).mono ?_
  rintro e w1 ⟨rfl, rfl⟩
  go_wp2_with fail
  refine (HAW.out _ (HT.out.keep (below1 _ _))).mono ?_
  rintro e w2 ⟨rfl, hb2⟩
  go_wp2
  go_ret
  exact ⟨rfl, (below1 w _).trans (hb2.mono (below1 w _).size)⟩

set_option maxHeartbeats 12800000 in
set_option maxRecDepth 100000 in
theorem order_yes (HA : Awake) (s1 s2 s3 : ByteArray) (h : [s1, s2, s3].all smallB = true) (w : World) (hT : Tab w) :
    Calls Tryd.prog 9 #[.string s1, .string s2, .string s3] w fun e w' => e = .returned (.bool true) ∧ Below w.heap.size w w' := by
  have hsm := small_any [s1, s2, s3] w.heap.size (w.alloc (.cells #[.string s1, .string s2, .string s3] 22)) (by simp) (cells3 w s1 s2 s3)
  rw [h] at hsm
  simp only [List.all_cons, List.all_nil, Bool.and_true, Bool.and_eq_true] at h
  obtain ⟨x, d, hx1, hd, hx⟩ := small_T s1 h.1
  obtain ⟨y, d', hy1, hd', hy⟩ := small_T s2 h.2.1
  obtain ⟨z, d'', hz1, hd'', hz⟩ := small_T s3 h.2.2
  obtain rfl : d' = d := by omega
  obtain rfl : d'' = d' := by omega
  obtain ⟨S, hS⟩ : ∃ S, S = T (x + z) := ⟨_, rfl⟩
  obtain ⟨R, hR⟩ : ∃ S, S = T (y + z) := ⟨_, rfl⟩
  obtain ⟨U, hU⟩ : ∃ S, S = T (x * z) := ⟨_, rfl⟩
  obtain ⟨V, hV⟩ : ∃ S, S = T (y * z) := ⟨_, rfl⟩
  obtain ⟨p, hp⟩ : ∃ p, p = cmpZ x y := ⟨_, rfl⟩
  obtain ⟨q, hq⟩ : ∃ p, p = cmpZ y x := ⟨_, rfl⟩
  obtain ⟨k, hk⟩ : ∃ p, p = sgn z := ⟨_, rfl⟩
  obtain ⟨m, hm⟩ : ∃ m, m = p * k := ⟨_, rfl⟩
  have hP : (p = -1 ∧ q = 1 ∧ (s1.toList == s2.toList) = false) ∨ (p = 0 ∧ q = 0 ∧ (s1.toList == s2.toList) = true) ∨ (p = 1 ∧ q = -1 ∧ (s1.toList == s2.toList) = false) := by
    rw [hx1, hy1, eq_T, hp, hq]
    rcases cmp_ways x y with ⟨h1, h2, h3⟩ | ⟨h1, h2, h3⟩ | ⟨h1, h2, h3⟩
    · exact .inl ⟨h1, h2, decide_eq_false (by omega)⟩
    · exact .inr (.inl ⟨h1, h2, decide_eq_true h3⟩)
    · exact .inr (.inr ⟨h1, h2, decide_eq_false (by omega)⟩)
  have hK : k = -1 ∨ k = 0 ∨ k = 1 := by
    rw [hk]
    rcases sgn_ways z with ⟨h1, -⟩ | ⟨h1, -⟩ | ⟨h1, -⟩ <;> simp [h1]
  have c1 : ∀ w, Tab w → Calls Tryd.prog 27 #[.string s1, .string s2] w (OutI w p) := fun w hT => by
    rw [hp, hx1, hy1]; exact cmpT x y w hx hy (by omega) (by omega)
  have c2 : ∀ w, Tab w → Calls Tryd.prog 27 #[.string s2, .string s1] w (OutI w q) := fun w hT => by
    rw [hq, hx1, hy1]; exact cmpT y x w hy hx (by omega) (by omega)
  have c3 : ∀ w, Tab w → Calls Tryd.prog 23 #[.string s1, .string s3] w (OutT w S) := fun w hT => by
    rw [hS, hx1, hz1]; exact addT x z w hx hz (by omega) (by omega) hT
  have c4 : ∀ w, Tab w → Calls Tryd.prog 23 #[.string s2, .string s3] w (OutT w R) := fun w hT => by
    rw [hR, hy1, hz1]; exact addT y z w hy hz (by omega) (by omega) hT
  have c5 : ∀ w, Tab w → Calls Tryd.prog 27 #[.string S, .string R] w (OutI w p) := fun w hT => by
    rw [hp, hS, hR, ← cmp_add x y z]; exact cmpT (x + z) (y + z) w (hx.add hz) (hy.add hz) (by omega) (by omega)
  have c6 : ∀ w, Tab w → Calls Tryd.prog 17 #[.string s3] w (OutI w k) := fun w hT => by
    rw [hk, hz1]; exact sgnT z w hz (by omega) (by omega)
  have c7 : ∀ w, Tab w → Calls Tryd.prog 36 #[.string s1, .string s3] w (OutT w U) := fun w hT => by
    rw [hU, hx1, hz1]; exact mulT x z w hx hz (by omega) (by omega) hT
  have c8 : ∀ w, Tab w → Calls Tryd.prog 36 #[.string s2, .string s3] w (OutT w V) := fun w hT => by
    rw [hV, hy1, hz1]; exact mulT y z w hy hz (by omega) (by omega) hT
  have c9 : ∀ w, Tab w → Calls Tryd.prog 27 #[.string U, .string V] w (OutI w m) := fun w hT => by
    rw [hm, hp, hk, hU, hV, ← cmp_mul x y z]; exact cmpT (x * z) (y * z) w (hx.mul hz) (hy.mul hz) (by omega) (by omega)
  have H1 := Lib.hid c1; have H2 := Lib.hid c2; have H3 := Lib.hid c3; have H4 := Lib.hid c4; have H5 := Lib.hid c5
  have H6 := Lib.hid c6; have H7 := Lib.hid c7; have H8 := Lib.hid c8; have H9 := Lib.hid c9
  have HS := Lib.hid hsm
  have HT := Lib.hid hT
  have HAW := Lib.hid HA
  have HP := Lib.hid hP
  have HK := Lib.hid hK
  have HM := Lib.hid hm
  clear hsm hT HA h c1 c2 c3 c4 c5 c6 c7 c8 c9 hx hy hz hx1 hy1 hz1 hS hR hU hV hp hq hk hm hP hK hd hd' hd'' d''
  clear x y z
  go_enter Tryd.func9, Tryd.ntmps9
  go_wp2_with fail
  refine (HS.out).mono ?_
  rintro e w0 ⟨rfl, rfl⟩
  have hb0 : Below w.heap.size w (w.alloc (.cells #[.string s1, .string s2, .string s3] 22)) := below1 w _
  generalize w.alloc (.cells #[.string s1, .string s2, .string s3] 22) = w0 at *
  go_wp2_with fail
  refine (H1.out _ (HT.out.keep hb0)).mono ?_
  rintro e w1 ⟨rfl, hc1⟩
  have hb1 : Below w.heap.size w w1 := hb0.trans (hc1.mono hb0.size)
  clear hb0 hc1
  go_wp2_with fail
  refine (H2.out _ (HT.out.keep hb1)).mono ?_
  rintro e w2 ⟨rfl, hc2⟩
  have hb2 : Below w.heap.size w w2 := hb1.trans (hc2.mono hb1.size)
  clear hb1 hc2
  go_wp2_with fail
  refine (H3.out _ (HT.out.keep hb2)).mono ?_
  rintro e w3 ⟨rfl, hc3⟩
  have hb3 : Below w.heap.size w w3 := hb2.trans (hc3.mono hb2.size)
  clear hb2 hc3
  go_wp2_with fail
  refine (H4.out _ (HT.out.keep hb3)).mono ?_
  rintro e w4 ⟨rfl, hc4⟩
  have hb4 : Below w.heap.size w w4 := hb3.trans (hc4.mono hb3.size)
  clear hb3 hc4
  go_wp2_with fail
  refine (H5.out _ (HT.out.keep hb4)).mono ?_
  rintro e w5 ⟨rfl, hc5⟩
  have hb5 : Below w.heap.size w w5 := hb4.trans (hc5.mono hb4.size)
  clear hb4 hc5
  go_wp2_with fail
  refine (H6.out _ (HT.out.keep hb5)).mono ?_
  rintro e w6 ⟨rfl, hc6⟩
  have hb6 : Below w.heap.size w w6 := hb5.trans (hc6.mono hb5.size)
  clear hb5 hc6
  go_wp2_with fail
  refine (H7.out _ (HT.out.keep hb6)).mono ?_
  rintro e w7 ⟨rfl, hc7⟩
  have hb7 : Below w.heap.size w w7 := hb6.trans (hc7.mono hb6.size)
  clear hb6 hc7
  go_wp2_with fail
  refine (H8.out _ (HT.out.keep hb7)).mono ?_
  rintro e w8 ⟨rfl, hc8⟩
  have hb8 : Below w.heap.size w w8 := hb7.trans (hc8.mono hb7.size)
  clear hb7 hc8
  go_wp2_with fail
  refine (H9.out _ (HT.out.keep hb8)).mono ?_
  rintro e w9 ⟨rfl, hc9⟩
  have hb9 : Below w.heap.size w w9 := hb8.trans (hc9.mono hb8.size)
  clear hb8 hc9
  clear H1 H2 H3 H4 H5 H6 H7 H8 H9
  rcases HP.out with ⟨hp, hq, he⟩ | ⟨hp, hq, he⟩ | ⟨hp, hq, he⟩ <;> rcases HK.out with hk | hk | hk <;>
    (have hm := HM.out
     rw [hp, hk] at hm
     clear HP HK HM
     subst hp hq hk hm
     go_wp2_with fail
     refine (HAW.out _ (HT.out.keep hb9)).mono ?_
     rintro e w10 ⟨rfl, hc10⟩
     have hb10 : Below w.heap.size w w10 := hb9.trans (hc10.mono hb9.size)
     go_wp2
     go_ret
     exact ⟨rfl, hb10⟩)

theorem order_any (HA : Awake) (s1 s2 s3 : ByteArray) (w : World) (hT : Tab w) :
    Calls Tryd.prog 9 #[.string s1, .string s2, .string s3] w fun e w' => e = .returned (.bool true) ∧ Below w.heap.size w w' := by
  cases h : [s1, s2, s3].all smallB with
  | false => exact order_no HA s1 s2 s3 h w hT
  | true => exact order_yes HA s1 s2 s3 h w hT

end Go.Proofs.YtbmonfbbkmpdhaaDoor
