/- Walks of the laws: the order is total, and keeps sums and products. And: Walks of the reference: the text of digits; and: Walks of the reference: the opposite, the absolute value, the sum, the difference; and: Walks of the reference: the sum and the difference of texts; and: Walks of the reference: the order, the bound, the first error, Compare, Add, Sub. And: Walks of the reference: texts that are short, or out of form and not too long. And: Walks of the laws: sums, differences and orders are those of the reference. -/
import Derived.Test.YtbmonfbbkmpdhaaDoorQ25
import Derived.Laws.IdiomStrings
import Derived.Test.YtbmonfbbkmpdhaaDoorQ21
namespace Go.Proofs.YtbmonfbbkmpdhaaDoor
open Go.RowKit Go.Proofs.Num

theorem cmpT {d : Nat} (x y : Int) (w : World) (hx : Few d x) (hy : Few d y) (h1 : 1 ≤ d) (hd : d ≤ 1024) :
    Calls Tryd.prog 27 #[.string (T x), .string (T y)] w fun e w' => e = .returned (.tuple #[.int .i64 (cmpZ x y), .int .i64 0]) ∧ Below w.heap.size w w' := by
  have h := cmp_ok (T x) (T y) (hx.size h1 hd) (hy.size h1 hd) (hx.chk h1 hd) (hy.chk h1 hd) w
  rw [T_data, T_data, parse_itoa, parse_itoa] at h
  exact h

theorem sgnT {d : Nat} (x : Int) (w : World) (hx : Few d x) (h1 : 1 ≤ d) (hd : d ≤ 1024) :
    Calls Tryd.prog 17 #[.string (T x)] w fun e w' => e = .returned (.tuple #[.int .i64 (sgn x), .int .i64 0]) ∧ Below w.heap.size w w' := by
  have h := sgn_ok (T x) (hx.size h1 hd) (hx.chk h1 hd) w
  rw [T_data, parse_itoa] at h
  exact h

theorem T_inj {x y : Int} (h : T x = T y) : x = y := by
  have := congrArg (fun s : ByteArray => parse s.data.toList) h
  simp only [T_data, parse_itoa] at this
  exact this

theorem eq_T (x y : Int) : ((T x).toList == (T y).toList) = decide (x = y) := by
  rw [Lib.toList_data, Lib.toList_data, T_data, T_data]
  by_cases h : x = y
  · subst h; simp
  · rw [decide_eq_false h, beq_eq_false_iff_ne]
    intro e; apply h
    have := congrArg parse e
    rwa [parse_itoa, parse_itoa] at this

theorem cmp_add (x y z : Int) : cmpZ (x + z) (y + z) = cmpZ x y := by
  unfold cmpZ
  have h1 : (x + z < y + z) = (x < y) := by apply propext; omega
  have h2 : (y + z < x + z) = (y < x) := by apply propext; omega
  simp only [h1, h2]

theorem cmp_ways (x y : Int) : (cmpZ x y = -1 ∧ cmpZ y x = 1 ∧ x < y) ∨ (cmpZ x y = 0 ∧ cmpZ y x = 0 ∧ x = y) ∨ (cmpZ x y = 1 ∧ cmpZ y x = -1 ∧ y < x) := by
  unfold cmpZ
  rcases Int.lt_trichotomy x y with h | h | h
  · left; rw [if_pos h, if_neg (by omega), if_pos h]; exact ⟨rfl, rfl, h⟩
  · right; left; subst h; simp
  · right; right; rw [if_neg (by omega), if_pos h, if_pos h]; exact ⟨rfl, rfl, h⟩

theorem sgn_ways (z : Int) : (sgn z = -1 ∧ z < 0) ∨ (sgn z = 0 ∧ z = 0) ∨ (sgn z = 1 ∧ 0 < z) := by
  rcases Int.lt_trichotomy z 0 with h | h | h
  · exact .inl ⟨sgn_neg h, h⟩
  · exact .inr (.inl ⟨by rw [h]; rfl, h⟩)
  · exact .inr (.inr ⟨sgn_pos h, h⟩)

theorem cmp_mul (x y z : Int) : cmpZ (x * z) (y * z) = cmpZ x y * sgn z := by
  rcases sgn_ways z with ⟨hs, h⟩ | ⟨hs, h⟩ | ⟨hs, h⟩
  · rw [hs]
    unfold cmpZ
    have h1 : (x * z < y * z) = (y < x) := propext ⟨fun hh => Int.not_le.1 fun hle => absurd hh (Int.not_lt.2 (Int.mul_le_mul_of_nonpos_right hle (by omega))), fun hh => Int.mul_lt_mul_of_neg_right hh h⟩
    have h2 : (y * z < x * z) = (x < y) := propext ⟨fun hh => Int.not_le.1 fun hle => absurd hh (Int.not_lt.2 (Int.mul_le_mul_of_nonpos_right hle (by omega))), fun hh => Int.mul_lt_mul_of_neg_right hh h⟩
    simp only [h1, h2]
    rcases Int.lt_trichotomy x y with g | g | g
    · rw [if_neg (by omega), if_pos g, if_pos g]; rfl
    · subst g; simp
    · rw [if_pos g, if_neg (by omega), if_pos g]; rfl
  · rw [hs, h]; simp [cmpZ]
  · rw [hs]
    unfold cmpZ
    have h1 : (x * z < y * z) = (x < y) := propext ⟨fun hh => Int.lt_of_mul_lt_mul_right hh (by omega), fun hh => Int.mul_lt_mul_of_pos_right hh h⟩
    have h2 : (y * z < x * z) = (y < x) := propext ⟨fun hh => Int.lt_of_mul_lt_mul_right hh (by omega), fun hh => Int.mul_lt_mul_of_pos_right hh h⟩
    simp only [h1, h2, Int.mul_one]

/-- Hands back an int and no error. -/
def OutI (w : World) (z : Int) (e : Ending) (w' : World) : Prop := e = .returned (.tuple #[.int .i64 z, .int .i64 0]) ∧ Below w.heap.size w w'

set_option maxHeartbeats 3200000 in
set_option maxRecDepth 100000 in
theorem order_no (HA : Awake) (s1 s2 s3 : ByteArray) (h : [s1, s2, s3].all smallB = false) (w : World) (hT : Tab w) :
    Calls Tryd.prog 9 #[.string s1, .string s2, .string s3] w fun e w' => e = .returned (.bool true) ∧ Below w.heap.size w w' := by
  have hsm := small_any [s1, s2, s3] w.heap.size (w.alloc (.cells #[.string s1, .string s2, .string s3] 22)) (by simp) (cells3 w s1 s2 s3)
  rw [h] at hsm
  have HS := Lib.hid hsm
  have HT := Lib.hid hT
  have HAW := Lib.hid HA
  clear hsm hT HA h
  go_enter Tryd.func9, Tryd.ntmps9
  go_wp2_with fail
  refine (HS.out).mono ?_
  rintro e w1 ⟨rfl, rfl⟩
  go_wp2_with fail
  refine (HAW.out _ (HT.out.keep (below1 _ _))).mono ?_
  rintro e w2 ⟨rfl, hb2⟩
  go_wp2
  go_ret
  exact ⟨rfl, (below1 w _).trans (hb2.mono (below1 w _).size)⟩

set_option maxHeartbeats 12800000 in
set_option maxRecDepth 100000 in
theorem order_yes (HA : Awake) (s1 s2 s3 : ByteArray) (h : [s1, s2, s3].all smallB = true) (w : World) (hT : Tab w) :
    Calls Tryd.prog 9 #[.string s1, .string s2, .string s3] w fun e w' => e = .returned (.bool true) ∧ Below w.heap.size w w' := by
  have hsm := small_any [s1, s2, s3] w.heap.size (w.alloc (.cells #[.string s1, .string s2, .string s3] 22)) (by simp) (cells3 w s1 s2 s3)
  rw [h] at hsm
  simp only [List.all_cons, List.all_nil, Bool.and_true, Bool.and_eq_true] at h
  obtain ⟨x, d, hx1, hd, hx⟩ := small_T s1 h.1
  obtain ⟨y, d', hy1, hd', hy⟩ := small_T s2 h.2.1
  obtain ⟨z, d'', hz1, hd'', hz⟩ := small_T s3 h.2.2
  obtain rfl : d' = d := by omega
  obtain rfl : d'' = d' := by omega
  obtain ⟨S, hS⟩ : ∃ S, S = T (x + z) := ⟨_, rfl⟩
  obtain ⟨R, hR⟩ : ∃ S, S = T (y + z) := ⟨_, rfl⟩
  obtain ⟨U, hU⟩ : ∃ S, S = T (x * z) := ⟨_, rfl⟩
  obtain ⟨V, hV⟩ : ∃ S, S = T (y * z) := ⟨_, rfl⟩
  obtain ⟨p, hp⟩ : ∃ p, p = cmpZ x y := ⟨_, rfl⟩
  obtain ⟨q, hq⟩ : ∃ p, p = cmpZ y x := ⟨_, rfl⟩
  obtain ⟨k, hk⟩ : ∃ p, p = sgn z := ⟨_, rfl⟩
  obtain ⟨m, hm⟩ : ∃ m, m = p * k := ⟨_, rfl⟩
  have hP : (p = -1 ∧ q = 1 ∧ (s1.toList == s2.toList) = false) ∨ (p = 0 ∧ q = 0 ∧ (s1.toList == s2.toList) = true) ∨ (p = 1 ∧ q = -1 ∧ (s1.toList == s2.toList) = false) := by
    rw [hx1, hy1, eq_T, hp, hq]
    rcases cmp_ways x y with ⟨h1, h2, h3⟩ | ⟨h1, h2, h3⟩ | ⟨h1, h2, h3⟩
    · exact .inl ⟨h1, h2, decide_eq_false (by omega)⟩
    · exact .inr (.inl ⟨h1, h2, decide_eq_true h3⟩)
    · exact .inr (.inr ⟨h1, h2, decide_eq_false (by omega)⟩)
  have hK : k = -1 ∨ k = 0 ∨ k = 1 := by
    rw [hk]
    rcases sgn_ways z with ⟨h1, -⟩ | ⟨h1, -⟩ | ⟨h1, -⟩ <;> simp [h1]
  have c1 : ∀ w, Tab w → Calls Tryd.prog 27 #[.string s1, .string s2] w (OutI w p) := fun w hT => by
    rw [hp, hx1, hy1]; exact cmpT x y w hx hy (by omega) (by omega)
  have c2 : ∀ w, Tab w → Calls Tryd.prog 27 #[.string s2, .string s1] w (OutI w q) := fun w hT => by
    rw [hq, hx1, hy1]; exact cmpT y x w hy hx (by omega) (by omega)
  have c3 : ∀ w, Tab w → Calls Tryd.prog 23 #[.string s1, .string s3] w (OutT w S) := fun w hT => by
    rw [hS, hx1, hz1]; exact addT x z w hx hz (by omega) (by omega) hT
  have c4 : ∀ w, Tab w → Calls Tryd.prog 23 #[.string s2, .string s3] w (OutT w R) := fun w hT => by
    rw [hR, hy1, hz1]; exact addT y z w hy hz (by omega) (by omega) hT
  have c5 : ∀ w, Tab w → Calls Tryd.prog 27 #[.string S, .string R] w (OutI w p) := fun w hT => by
    rw [hp, hS, hR, ← cmp_add x y z]; exact cmpT (x + z) (y + z) w (hx.add hz) (hy.add hz) (by omega) (by omega)
  have c6 : ∀ w, Tab w → Calls Tryd.prog 17 #[.string s3] w (OutI w k) := fun w hT => by
    rw [hk, hz1]; exact sgnT z w hz (by omega) (by omega)
  have c7 : ∀ w, Tab w → Calls Tryd.prog 36 #[.string s1, .string s3] w (OutT w U) := fun w hT => by
    rw [hU, hx1, hz1]; exact mulT x z w hx hz (by omega) (by omega) hT
  have c8 : ∀ w, Tab w → Calls Tryd.prog 36 #[.string s2, .string s3] w (OutT w V) := fun w hT => by
    rw [hV, hy1, hz1]; exact mulT y z w hy hz (by omega) (by omega) hT
  have c9 : ∀ w, Tab w → Calls Tryd.prog 27 #[.string U, .string V] w (OutI w m) := fun w hT => by
    rw [hm, hp, hk, hU, hV, ← cmp_mul x y z]; exact cmpT (x * z) (y * z) w (hx.mul hz) (hy.mul hz) (by omega) (by omega)
  have H1 := Lib.hid c1; have H2 := Lib.hid c2; have H3 := Lib.hid c3; have H4 := Lib.hid c4; have H5 := Lib.hid c5
  have H6 := Lib.hid c6; have H7 := Lib.hid c7; have H8 := Lib.hid c8; have H9 := Lib.hid c9
  have HS := Lib.hid hsm
  have HT := Lib.hid hT
  have HAW := Lib.hid HA
  have HP := Lib.hid hP
  have HK := Lib.hid hK
  have HM := Lib.hid hm
  clear hsm hT HA h c1 c2 c3 c4 c5 c6 c7 c8 c9 hx hy hz hx1 hy1 hz1 hS hR hU hV hp hq hk hm hP hK hd hd' hd'' d''
  clear x y z
  go_enter Tryd.func9, Tryd.ntmps9
  go_wp2_with fail
  refine (HS.out).mono ?_
  rintro e w0 ⟨rfl, rfl⟩
  have hb0 : Below w.heap.size w (w.alloc (.cells #[.string s1, .string s2, .string s3] 22)) := below1 w _
  generalize w.alloc (.cells #[.string s1, .string s2, .string s3] 22) = w0 at *
  go_wp2_with fail
  refine (H1.out _ (HT.out.keep hb0)).mono ?_
  rintro e w1 ⟨rfl, hc1⟩
  have hb1 : Below w.heap.size w w1 := hb0.trans (hc1.mono hb0.size)
  clear hb0 hc1
  go_wp2_with fail
  refine (H2.out _ (HT.out.keep hb1)).mono ?_
  rintro e w2 ⟨rfl, hc2⟩
  have hb2 : Below w.heap.size w w2 := hb1.trans (hc2.mono hb1.size)
  clear hb1 hc2
  go_wp2_with fail
  refine (H3.out _ (HT.out.keep hb2)).mono ?_
  rintro e w3 ⟨rfl, hc3⟩
  have hb3 : Below w.heap.size w w3 := hb2.trans (hc3.mono hb2.size)
  clear hb2 hc3
  go_wp2_with fail
  refine (H4.out _ (HT.out.keep hb3)).mono ?_
  rintro e w4 ⟨rfl, hc4⟩
  have hb4 : Below w.heap.size w w4 := hb3.trans (hc4.mono hb3.size)
  clear hb3 hc4
  go_wp2_with fail
  refine (H5.out _ (HT.out.keep hb4)).mono ?_
  rintro e w5 ⟨rfl, hc5⟩
  have hb5 : Below w.heap.size w w5 := hb4.trans (hc5.mono hb4.size)
  clear hb4 hc5
  go_wp2_with fail
  refine (H6.out _ (HT.out.keep hb5)).mono ?_
  rintro e w6 ⟨rfl, hc6⟩
  have hb6 : Below w.heap.size w w6 := hb5.trans (hc6.mono hb5.size)
  clear hb5 hc6
  go_wp2_with fail
  refine (H7.out _ (HT.out.keep hb6)).mono ?_
  rintro e w7 ⟨rfl, hc7⟩
  have hb7 : Below w.heap.size w w7 := hb6.trans (hc7.mono hb6.size)
  clear hb6 hc7
  go_wp2_with fail
  refine (H8.out _ (HT.out.keep hb7)).mono ?_
  rintro e w8 ⟨rfl, hc8⟩
  have hb8 : Below w.heap.size w w8 := hb7.trans (hc8.mono hb7.size)
  clear hb7 hc8
  go_wp2_with fail
  refine (H9.out _ (HT.out.keep hb8)).mono ?_
  rintro e w9 ⟨rfl, hc9⟩
  have hb9 : Below w.heap.size w w9 := hb8.trans (hc9.mono hb8.size)
  clear hb8 hc9
  clear H1 H2 H3 H4 H5 H6 H7 H8 H9
  rcases HP.out with ⟨hp, hq, he⟩ | ⟨hp, hq, he⟩ | ⟨hp, hq, he⟩ <;> rcases HK.out with hk | hk | hk <;>
    (have hm := HM.out
     rw [hp, hk] at hm
     clear HP HK HM
     subst hp hq hk hm
     go_wp2_with fail
     refine (HAW.out _ (HT.out.keep hb9)).mono ?_
     rintro e w10 ⟨rfl, hc10⟩
     have hb10 : Below w.heap.size w w10 := hb9.trans (hc10.mono hb9.size)
     go_wp2
     go_ret
     exact ⟨rfl, hb10⟩)

theorem order_any (HA : Awake) (s1 s2 s3 : ByteArray) (w : World) (hT : Tab w) :
    Calls Tryd.prog 9 #[.string s1, .string s2, .string s3] w fun e w' => e = .returned (.bool true) ∧ Below w.heap.size w w' := by
  cases h : [s1, s2, s3].all smallB with
  | false => exact order_no HA s1 s2 s3 h w hT
  | true => exact order_yes HA s1 s2 s3 h w hT

end Go.Proofs.YtbmonfbbkmpdhaaDoor

namespace Go.Proofs.YtbmonfbbkmpdhaaDoor
open Go.RowKit Go.Proofs.Num

/-- Digits as bytes, the first one first. -/
def tb (l : List Nat) : List UInt8 := (l.map (fun x => UInt8.ofNat (48 + x))).reverse

theorem tb_nil : tb [] = [] := rfl
theorem tb_snoc (l : List Nat) (x : Nat) : tb (l ++ [x]) = UInt8.ofNat (48 + x) :: tb l := by simp [tb]
theorem tb_len (l : List Nat) : (tb l).length = l.length := by simp [tb]

theorem tb_dig : ∀ (N n : Nat), n ≤ N → 0 < n → tb (dig 10 n) = Lib.decDigits n
  | 0, n, h1, h2 => by omega
  | N + 1, n, h1, h2 => by
    rw [dig_pos (by omega) (by omega)]
    have e : tb (n % 10 :: dig 10 (n / 10)) = tb (dig 10 (n / 10)) ++ [UInt8.ofNat (48 + n % 10)] := by simp [tb]
    rw [e]
    rw [Lib.decDigits]
    by_cases h10 : n < 10
    · rw [dif_pos h10, show n / 10 = 0 by omega, dig_zero, tb_nil, Nat.mod_eq_of_lt h10]; rfl
    · rw [dif_neg h10, tb_dig N (n / 10) (by omega) (by omega)]

/-- A text of bytes. -/
def Sb (l : List UInt8) : ByteArray := ⟨l.toArray⟩
theorem Sb_append (a b : List UInt8) : Sb a ++ Sb b = Sb (a ++ b) := by
  unfold Sb
  apply ByteArray.ext
  simp
theorem Sb_size (l : List UInt8) : (Sb l).size = l.length := rfl
theorem Sb_T (z : Int) : Sb (Lib.itoa z) = T z := rfl

theorem text_zero' (a : Option Addr) (cap : Nat) (neg : Bool) (w : World) : Calls Tryd.prog 57 #[.slice a 0 cap, .bool neg] w fun e w' => e = .returned (.string (T 0)) ∧ w = w' := by
  have H : Hid (T 0 = ⟨#[48]⟩) := by
    unfold Hid T Lib.itoa
    rw [if_neg (by omega), Lib.decDigits]; rfl
  go_enter Tryd.func57, Tryd.ntmps57
  go_wp2
  go_ret
  exact ⟨by rw [H.out]; rfl, rfl⟩

set_option maxHeartbeats 1600000 in
set_option maxRecDepth 100000 in
theorem text_pos (a : Option Addr) (cap : Nat) (n : Nat) (neg : Bool) (w : World) (h : At .i64 w a (dig 10 n)) (hn : 0 < n) (hsm : (dig 10 n).length ≤ 4294967295) :
    Calls Tryd.prog 57 #[.slice a (dig 10 n).length cap, .bool neg] w fun e w' => e = .returned (.string (T (if neg then -(n : Int) else n))) ∧ Below w.heap.size w w' := by
  have hne : (dig 10 n).length ≠ 0 := by
    intro h0
    have := (dig_eq_nil (b := 10) (by omega) n).1 (List.length_eq_zero_iff.1 h0)
    omega
  have hlt := dig10_lt n
  have hN : T (n : Int) = Sb (tb (dig 10 n)) := by
    rw [tb_dig n n (Nat.le_refl _) hn]; unfold T Lib.itoa; rw [if_neg (by omega)]; rfl
  have hM : T (-(n : Int)) = Sb ([45] ++ tb (dig 10 n)) := by
    rw [tb_dig n n (Nat.le_refl _) hn]; unfold T Lib.itoa; rw [if_pos (by omega)]; simp [Sb]
  have HN := Lib.hid hN
  have HM := Lib.hid hM
  have HX := Lib.hid (fun k => nth_lt (b := 10) (by omega) (dig 10 n) hlt k)
  have H := Lib.hid h
  clear h hN hM hlt hn
  generalize dig 10 n = l at *
  have hne1 : ((l.length : Int) == 0) = false := beq_eq_false_iff_ne.2 (by omega)
  have hne2 : ¬ l = [] := by intro h; rw [h] at hne; exact hne rfl
  go_enter Tryd.func57, Tryd.ntmps57
  go_wp2
  go_loopw [5, 6] (fun s i wr => ∃ k : Nat, k ≤ l.length ∧ i = .int .i64 k ∧ s = .string (Sb (tb (l.take k))) ∧ Below w.heap.size w wr)
    (fun _ i _ => l.length - (intOf i).toNat)
  case atStart => exact ⟨0, Nat.zero_le _, rfl, rfl, Below.refl _ _⟩
  case round =>
    obtain ⟨k, hk, rfl, rfl, hB⟩ := hrel
    by_cases hlt : k < l.length
    · obtain ⟨b1, o1, rfl, hb1, hcell1⟩ := H.out k hlt
      have hcr : wr.cell? ⟨b1, o1 + k, none⟩ = some (.int .i64 ((nth l k : Nat) : Int)) := (hB.cell (p := ⟨b1, o1 + k, none⟩) hb1).trans hcell1
      clear hcell1
      have hx := HX.out k
      have HS : Hid (Sb (tb (l.take (k + 1))) = Sb [UInt8.ofNat (48 + nth l k)] ++ Sb (tb (l.take k))) := by
        unfold Hid; rw [Sb_append, take_succ_nth l k hlt, tb_snoc]; rfl
      have hsz1 : (Sb (tb (l.take k))).size = k := by rw [Sb_size, tb_len, List.length_take]; omega
      have hsz2 : (Sb [UInt8.ofNat (48 + nth l k)]).size = 1 := rfl
      generalize nth l k = x at *
      have hcv := run_convert_bytes_back (P := Tryd.prog) (wr.alloc (.cells #[.int .u8 (48 + (x : Int))] 5)) 104 9 5 ⟨wr.heap.size, 0, none⟩ 1 [UInt8.ofNat (48 + x)] Tryd.underlying104 Tryd.underlying5 Tryd.underlying9 (by
        intro j hj
        obtain rfl : j = 0 := by simp at hj; exact hj
        have h1 : (UInt8.ofNat (48 + x)).toNat = 48 + x := toNat_ofNat_dig hx
        simp only [List.getElem_cons_zero, h1]
        rw [show ((48 + x : Nat) : Int) = 48 + (x : Int) by omega]
        exact cell_one_new _ _ _ 0 _ rfl)
      change (convert 104 9 (.slice (some ⟨wr.heap.size, 0, none⟩) 1 1)).run Tryd.prog (wr.alloc (.cells #[.int .u8 (48 + (x : Int))] 5)) = .ok (.string (Sb [UInt8.ofNat (48 + x)])) _ at hcv
      generalize Sb [UInt8.ofNat (48 + x)] = X at *
      generalize Sb (tb (l.take k)) = Y at *
      go_wp2
      go_roundw
      case rel => exact ⟨k + 1, by omega, by go_num, by rw [HS.out], hB.alloc hB.size _⟩
      case measure => simp [intOf]; omega
    · obtain rfl : k = l.length := by omega
      rw [List.take_length]
      cases neg
      · clear hne2
        go_wp2
        go_ret
        exact ⟨by show _ = Ending.returned (.string (T (n : Int))); rw [HN.out]; rfl, hB⟩
      · have HS : Hid (Sb ([45] ++ tb l) = Sb [45] ++ Sb (tb l)) := (Sb_append _ _).symm
        have hsz1 : (Sb (tb l)).size = l.length := by rw [Sb_size, tb_len]
        go_wp2
        go_ret
        exact ⟨by show _ = Ending.returned (.string (T (-(n : Int)))); rw [HM.out, HS.out]; rfl, hB⟩

/-- text -/
theorem rtext_any (v : Value) (n : Nat) (neg : Bool) (w : World) (h : Dg w v n) (hsm : (dig 10 n).length ≤ 4294967295) :
    Calls Tryd.prog 57 #[v, .bool neg] w fun e w' => e = .returned (.string (T (if neg then -(n : Int) else n))) ∧ Below w.heap.size w w' := by
  obtain ⟨a, c, rfl, g⟩ := Rd.at h
  by_cases hn : n = 0
  · subst hn
    rw [dig_zero]
    refine (text_zero' a c neg w).mono ?_
    rintro e w' ⟨rfl, rfl⟩
    exact ⟨by cases neg <;> rfl, Below.refl _ _⟩
  · exact text_pos a c n neg w g (by omega) hsm
end Go.Proofs.YtbmonfbbkmpdhaaDoor

namespace Go.Proofs.YtbmonfbbkmpdhaaDoor
open Go.RowKit Go.Proofs.Num

theorem T_size {d : Nat} {z : Int} (h : Few d z) (h1 : 1 ≤ d) : (T z).size ≤ d + 1 := by
  have h2 := body_ge (T z).data.toList
  rw [T_data] at h2
  rw [itoa_body, Lib.decDigits_length, ← T_data, size_toList] at h2
  have := nD_le d z.natAbs h1 h
  omega
theorem few_len {d : Nat} {z : Int} (h : Few d z) : (dig 10 z.natAbs).length ≤ d := dig_length_le (by omega) d _ h
theorem digits_T {d : Nat} {z : Int} (h : Few d z) (h1 : 1 ≤ d) (hd : d ≤ 100000) (w : World) : Calls Tryd.prog 49 #[.string (T z)] w (GivesDg w z.natAbs) :=
  digits_any z (by have := T_size h h1; omega) w

/-- Hands back a text. -/
def OutR (w : World) (S : ByteArray) (e : Ending) (w' : World) : Prop := e = .returned (.string S) ∧ Below w.heap.size w w'

theorem text_R (v : Value) (n : Nat) (neg : Bool) (z : Int) (w : World) (h : Dg w v n) (hsm : (dig 10 n).length ≤ 4294967295) (hz : (if neg then -(n : Int) else n) = z) :
    Calls Tryd.prog 57 #[v, .bool neg] w (OutR w (T z)) := by
  have := rtext_any v n neg w h hsm
  rw [hz] at this
  exact this

set_option maxRecDepth 100000 in
theorem positive_any {d : Nat} (z : Int) (h : Few d z) (h1 : 1 ≤ d) (hd : d ≤ 100000) (w : World) : Calls Tryd.prog 31 #[.string (T z)] w (OutR w (T (z.natAbs : Nat))) := by
  have HD := Lib.hid (digits_T h h1 hd)
  have HL := Lib.hid (few_len h)
  generalize T z = X at *
  clear h
  go_enter Tryd.func31, Tryd.ntmps31
  go_wp2_with fail
  refine (HD.out _).mono ?_
  rintro e w1 ⟨v, rfl, hv, hb1⟩
  obtain ⟨a', k', c', rfl⟩ := hv.shape
  go_wp2_with fail
  refine (text_R _ _ false _ _ hv (by have := HL.out; omega) rfl).mono ?_
  rintro e w2 ⟨rfl, hb2⟩
  go_wp2
  go_ret
  exact ⟨rfl, hb1.trans (hb2.mono hb1.size)⟩

set_option maxRecDepth 100000 in
theorem turned_any {d : Nat} (z : Int) (h : Few d z) (h1 : 1 ≤ d) (hd : d ≤ 100000) (w : World) : Calls Tryd.prog 30 #[.string (T z)] w (OutR w (T (-z))) := by
  have HD := Lib.hid (digits_T h h1 hd)
  have HL := Lib.hid (few_len h)
  have HM := Lib.hid (minus_any z)
  have HZ : Hid ((if (!decide (z < 0)) = true then -((z.natAbs : Nat) : Int) else ((z.natAbs : Nat) : Int)) = -z) := by
    unfold Hid
    by_cases hz : z < 0
    · simp [hz]; omega
    · simp [hz]; omega
  generalize hS : T (-z) = S
  generalize T z = X at *
  generalize decide (z < 0) = p at *
  clear h
  subst hS
  go_enter Tryd.func30, Tryd.ntmps30
  go_wp2_with fail
  refine (HD.out _).mono ?_
  rintro e w1 ⟨v, rfl, hv, hb1⟩
  obtain ⟨a', k', c', rfl⟩ := hv.shape
  go_wp2_with fail
  refine (HM.out _).mono ?_
  rintro e w1' ⟨rfl, rfl⟩
  go_wp2_with fail
  refine (text_R _ _ (!p) _ _ hv (by have := HL.out; omega) HZ.out).mono ?_
  rintro e w2 ⟨rfl, hb2⟩
  go_wp2
  go_ret
  exact ⟨rfl, hb1.trans (hb2.mono hb1.size)⟩

theorem few_sum {a b : Int} {d : Nat} (ha : Few d a) (hb : Few d b) {n : Nat} (hn : n ≤ a.natAbs + b.natAbs) : (dig 10 n).length ≤ d + 1 := by
  refine dig_length_le (by omega) (d + 1) n ?_
  unfold Few at ha hb
  rw [Nat.pow_succ]; omega

theorem plus_case (a b : Int) : (decide (a < 0) = decide (b < 0) ∧ (if decide (a < 0) = true then -((a.natAbs + b.natAbs : Nat) : Int) else ((a.natAbs + b.natAbs : Nat) : Int)) = a + b) ∨
      (decide (a < 0) = (!decide (b < 0)) ∧ cmpN a.natAbs b.natAbs = -1 ∧ a.natAbs ≤ b.natAbs ∧ (if decide (b < 0) = true then -((b.natAbs - a.natAbs : Nat) : Int) else ((b.natAbs - a.natAbs : Nat) : Int)) = a + b) ∨
      (decide (a < 0) = (!decide (b < 0)) ∧ 0 ≤ cmpN a.natAbs b.natAbs ∧ b.natAbs ≤ a.natAbs ∧ (if decide (a < 0) = true then -((a.natAbs - b.natAbs : Nat) : Int) else ((a.natAbs - b.natAbs : Nat) : Int)) = a + b) := by
  unfold cmpN
  by_cases k1 : a < 0 <;> by_cases k2 : b < 0 <;> by_cases k3 : a.natAbs < b.natAbs <;> simp [k1, k2, k3] <;> (try split) <;> omega
end Go.Proofs.YtbmonfbbkmpdhaaDoor

namespace Go.Proofs.YtbmonfbbkmpdhaaDoor
open Go.RowKit Go.Proofs.Num

set_option maxHeartbeats 3200000 in
set_option maxRecDepth 100000 in
theorem rplus_any {d : Nat} (a b : Int) (ha : Few d a) (hb : Few d b) (h1 : 1 ≤ d) (hd : d ≤ 100000) (w : World) : Calls Tryd.prog 61 #[.string (T a), .string (T b)] w (OutR w (T (a + b))) := by
  have HD1 := Lib.hid (digits_T ha h1 hd)
  have HD2 := Lib.hid (digits_T hb h1 hd)
  have HL1 := Lib.hid (few_len ha)
  have HL2 := Lib.hid (few_len hb)
  have hm1 := minus_any a
  have hm2 := minus_any b
  have HS := Lib.hid (fun (n : Nat) (hn : n ≤ a.natAbs + b.natAbs) => few_sum ha hb hn)
  have hcase := plus_case a b
  generalize hS : T (a + b) = S
  generalize hZ : a + b = z at *
  generalize T a = X at *
  generalize T b = Y at *
  generalize decide (a < 0) = p at *
  generalize decide (b < 0) = q at *
  generalize a.natAbs = m at *
  generalize b.natAbs = n at *
  clear ha hb hZ
  subst hS
  have HM1 := Lib.hid hm1
  have HM2 := Lib.hid hm2
  have HC := Lib.hid hcase
  clear hm1 hm2 hcase
  go_enter Tryd.func61, Tryd.ntmps61
  go_wp2_with fail
  refine (HD1.out _).mono ?_
  rintro e w1 ⟨v1, rfl, hv1, hb1⟩
  obtain ⟨a1, k1, c1, rfl⟩ := hv1.shape
  go_wp2_with fail
  refine (HD2.out _).mono ?_
  rintro e w2 ⟨v2, rfl, hv2, hb2⟩
  obtain ⟨a2, k2, c2, rfl⟩ := hv2.shape
  have hv1' := hv1.keep hb2
  have hB2 : Below w.heap.size w w2 := hb1.trans (hb2.mono hb1.size)
  have HV1 := Lib.hid hv1'
  have HV2 := Lib.hid hv2
  clear hv1 hv1' hv2 hb1 hb2
  go_wp2_with fail
  refine (HM1.out _).mono ?_
  rintro e w1' ⟨rfl, rfl⟩
  go_wp2_with fail
  refine (HM2.out _).mono ?_
  rintro e w1' ⟨rfl, rfl⟩
  rcases HC.out with ⟨hp, hz⟩ | ⟨hp, hc, hle, hz⟩ | ⟨hp, hc, hle, hz⟩
  · subst hp
    have HZ := Lib.hid hz
    clear HC hz
    have hpp : (p == p) = true := by simp
    go_wp2_with fail
    refine (radded_any _ _ _ _ _ HV1.out HV2.out (by have := HL1.out; omega) (by have := HL2.out; omega)).mono ?_
    rintro e w3 ⟨v3, rfl, hv3, hb3⟩
    obtain ⟨a3, k3, c3, rfl⟩ := hv3.shape
    go_wp2_with fail
    refine (HM1.out _).mono ?_
    rintro e w1' ⟨rfl, rfl⟩
    go_wp2_with fail
    refine (text_R _ _ p _ _ hv3 (by have := HS.out (m + n) (by omega); omega) HZ.out).mono ?_
    rintro e w4 ⟨rfl, hb4⟩
    go_wp2
    go_ret
    exact ⟨rfl, (hB2.trans (hb3.mono hB2.size)).trans (hb4.mono (Nat.le_trans hB2.size hb3.size))⟩
  · subst hp
    have HZ := Lib.hid hz
    have HCC := Lib.hid hc
    clear HC hz hc
    have hpp : ((!q) == q) = false := by simp
    go_wp2_with fail
    refine (rorder_any _ _ _ _ _ HV1.out HV2.out (by have := HL1.out; omega) (by have := HL2.out; omega)).mono ?_
    rintro e w3 ⟨he, nn, rfl⟩
    rw [HCC.out] at he
    subst he
    have HV1q := Lib.hid (HV1.out.keep (w' := w2.drewN nn) ⟨rfl, rfl, rfl, Nat.le_refl _, fun _ _ => rfl⟩)
    have HV2q := Lib.hid (HV2.out.keep (w' := w2.drewN nn) ⟨rfl, rfl, rfl, Nat.le_refl _, fun _ _ => rfl⟩)
    have hBq : Below w.heap.size w (w2.drewN nn) := hB2.trans ⟨rfl, rfl, rfl, Nat.le_refl _, fun _ _ => rfl⟩
    go_wp2_with fail
    refine (rtaken_any _ _ _ _ _ HV2q.out HV1q.out (by have := HL2.out; omega) hle).mono ?_
    rintro e w3 ⟨v3, rfl, hv3, hb3⟩
    obtain ⟨a3, k3, c3, rfl⟩ := hv3.shape
    go_wp2_with fail
    refine (HM2.out _).mono ?_
    rintro e w1' ⟨rfl, rfl⟩
    go_wp2_with fail
    refine (text_R _ _ q _ _ hv3 (by have := HS.out (n - m) (by omega); omega) HZ.out).mono ?_
    rintro e w4 ⟨rfl, hb4⟩
    go_wp2
    go_ret
    exact ⟨rfl, (hBq.trans (hb3.mono hBq.size)).trans (hb4.mono (Nat.le_trans hBq.size hb3.size))⟩
  · obtain ⟨cc, hcc⟩ : ∃ cc, cc = cmpN m n := ⟨_, rfl⟩
    rw [← hcc] at hc
    have HCC := Lib.hid hcc
    have HZ := Lib.hid hz
    clear HC hz hcc
    have hpp : (p == q) = false := by subst hp; simp
    clear hp
    have hge : ¬ cc < 0 := by omega
    go_wp2_with fail
    refine (rorder_any _ _ _ _ _ HV1.out HV2.out (by have := HL1.out; omega) (by have := HL2.out; omega)).mono ?_
    rintro e w3 ⟨he, nn, rfl⟩
    rw [← HCC.out] at he
    subst he
    have HV1q := Lib.hid (HV1.out.keep (w' := w2.drewN nn) ⟨rfl, rfl, rfl, Nat.le_refl _, fun _ _ => rfl⟩)
    have HV2q := Lib.hid (HV2.out.keep (w' := w2.drewN nn) ⟨rfl, rfl, rfl, Nat.le_refl _, fun _ _ => rfl⟩)
    have hBq : Below w.heap.size w (w2.drewN nn) := hB2.trans ⟨rfl, rfl, rfl, Nat.le_refl _, fun _ _ => rfl⟩
    go_wp2_with fail
    refine (rtaken_any _ _ _ _ _ HV1q.out HV2q.out (by have := HL1.out; omega) hle).mono ?_
    rintro e w3 ⟨v3, rfl, hv3, hb3⟩
    obtain ⟨a3, k3, c3, rfl⟩ := hv3.shape
    go_wp2_with fail
    refine (HM1.out _).mono ?_
    rintro e w1' ⟨rfl, rfl⟩
    go_wp2_with fail
    refine (text_R _ _ p _ _ hv3 (by have := HS.out (m - n) (by omega); omega) HZ.out).mono ?_
    rintro e w4 ⟨rfl, hb4⟩
    go_wp2
    go_ret
    exact ⟨rfl, (hBq.trans (hb3.mono hBq.size)).trans (hb4.mono (Nat.le_trans hBq.size hb3.size))⟩

set_option maxRecDepth 100000 in
theorem rless_any {d : Nat} (a b : Int) (ha : Few d a) (hb : Few d b) (h1 : 1 ≤ d) (hd : d ≤ 100000) (w : World) : Calls Tryd.prog 63 #[.string (T a), .string (T b)] w (OutR w (T (a - b))) := by
  have HT := Lib.hid (turned_any b hb h1 hd)
  have HP := Lib.hid (rplus_any a (-b) ha hb.neg h1 hd)
  rw [show a - b = a + -b by omega]
  generalize T (a + -b) = S at *
  generalize T (-b) = Z at *
  generalize T a = X at *
  generalize T b = Y at *
  clear ha hb
  go_enter Tryd.func63, Tryd.ntmps63
  go_wp2_with fail
  refine (HT.out _).mono ?_
  rintro e w1 ⟨rfl, hb1⟩
  go_wp2_with fail
  refine (HP.out _).mono ?_
  rintro e w2 ⟨rfl, hb2⟩
  go_wp2
  go_ret
  exact ⟨rfl, hb1.trans (hb2.mono hb1.size)⟩
end Go.Proofs.YtbmonfbbkmpdhaaDoor

namespace Go.Proofs.YtbmonfbbkmpdhaaDoor
open Go.RowKit Go.Proofs.Num

theorem T_naught : T 0 = ⟨#[48]⟩ := by
  unfold T Lib.itoa
  rw [if_neg (by omega), Lib.decDigits]; rfl

theorem canon (s : ByteArray) (h : chk s.data.toList = 0) : ∃ z d, s = T z ∧ z = parse s.data.toList ∧ 1 ≤ d ∧ d = 1024 ∧ Few d z := by
  refine ⟨parse s.data.toList, 1024, of_chk s h, rfl, by omega, rfl, ?_⟩
  have h2 := (chk_cases _ h).2
  generalize (parse s.data.toList) = z at *
  generalize (1024 : Nat) = d at *
  unfold Few
  by_cases h0 : z.natAbs = 0
  · rw [h0]; exact Nat.pow_pos (by omega)
  · rw [nDigits_dig h0] at h2
    exact Nat.lt_of_lt_of_le (lt_pow_dig (b := 10) (by omega) _) (Nat.pow_le_pow_right (by omega) h2)

set_option maxRecDepth 100000 in
theorem rorderT {d : Nat} (a b : Int) (ha : Few d a) (hb : Few d b) (h1 : 1 ≤ d) (hd : d ≤ 90000) (w : World) :
    Calls Tryd.prog 48 #[.string (T a), .string (T b)] w fun e w' => e = .returned (.int .i64 (cmpZ a b)) ∧ Below w.heap.size w w' := by
  have HLs := Lib.hid (rless_any a b ha hb h1 (by omega))
  have HM := Lib.hid (minus_any (a - b))
  have heq := eq_T (a - b) 0
  rw [T_naught, Lib.toList_data ⟨#[48]⟩] at heq
  change (_ == [48]) = _ at heq
  have hc : (a - b < 0 ∧ cmpZ a b = -1) ∨ (a - b = 0 ∧ cmpZ a b = 0) ∨ (0 < a - b ∧ cmpZ a b = 1) := by
    rcases cmp_ways a b with ⟨h, -, g⟩ | ⟨h, -, g⟩ | ⟨h, -, g⟩
    · exact .inl ⟨by omega, h⟩
    · exact .inr (.inl ⟨by omega, h⟩)
    · exact .inr (.inr ⟨by omega, h⟩)
  generalize a - b = z at *
  generalize cmpZ a b = c at *
  generalize T a = X at *
  generalize T b = Y at *
  generalize T z = Z at *
  clear ha hb
  rcases hc with ⟨hz, hc⟩ | ⟨hz, hc⟩ | ⟨hz, hc⟩
  · subst hc
    rw [decide_eq_false (by omega)] at heq
    rw [decide_eq_true hz] at HM
    clear hz
    go_enter Tryd.func48, Tryd.ntmps48
    go_wp2_with fail
    refine (HLs.out _).mono ?_
    rintro e w1 ⟨rfl, hb1⟩
    go_wp2_with fail
    refine (HM.out _).mono ?_
    rintro e w1' ⟨rfl, rfl⟩
    go_wp2
    go_ret
    exact ⟨rfl, hb1⟩
  · subst hc
    rw [decide_eq_true hz] at heq
    clear hz HM
    go_enter Tryd.func48, Tryd.ntmps48
    go_wp2_with fail
    refine (HLs.out _).mono ?_
    rintro e w1 ⟨rfl, hb1⟩
    go_wp2
    go_ret
    exact ⟨rfl, hb1⟩
  · subst hc
    rw [decide_eq_false (by omega)] at heq
    rw [decide_eq_false (by omega)] at HM
    clear hz
    go_enter Tryd.func48, Tryd.ntmps48
    go_wp2_with fail
    refine (HLs.out _).mono ?_
    rintro e w1 ⟨rfl, hb1⟩
    go_wp2_with fail
    refine (HM.out _).mono ?_
    rintro e w1' ⟨rfl, rfl⟩
    go_wp2
    go_ret
    exact ⟨rfl, hb1⟩

set_option maxRecDepth 100000 in
theorem rbounded {d : Nat} (z : Int) (h : Few d z) (h1 : 1 ≤ d) (hd : d ≤ 100000) (w : World) :
    Calls Tryd.prog 60 #[.string (T z)] w (TextOut w (tx z) (te z)) := by
  have HD := Lib.hid (digits_T h h1 hd)
  have hl : (dig 10 z.natAbs).length ≤ 100000 := by have := few_len h; omega
  have hc : ((dig 10 z.natAbs).length ≤ 1024 ∧ str (tx z) = .string (T z) ∧ te z = 0) ∨ (1024 < (dig 10 z.natAbs).length ∧ tx z = [] ∧ te z = 11) := by
    have hd : z.natAbs ≠ 0 → Lib.nDigits z.natAbs = (dig 10 z.natAbs).length := nDigits_dig
    unfold tx te
    by_cases h0 : z.natAbs = 0
    · rw [h0, dig_zero, Lib.nDigits_small (by omega)]
      exact .inl ⟨by simp, rfl, rfl⟩
    · rw [hd h0]
      by_cases h2 : 1024 < (dig 10 z.natAbs).length
      · rw [if_pos h2, if_pos h2]; exact .inr ⟨h2, rfl, rfl⟩
      · rw [if_neg h2, if_neg h2]; exact .inl ⟨by omega, rfl, rfl⟩
  unfold TextOut
  generalize hS : str (tx z) = S at *
  generalize te z = c at *
  generalize tx z = t at *
  generalize T z = X at *
  clear h
  obtain ⟨n, hn⟩ : ∃ n, n = z.natAbs := ⟨_, rfl⟩
  rw [← hn] at HD hl hc
  clear hn
  rcases hc with ⟨h2, h3, h4⟩ | ⟨h2, h3, h4⟩
  · subst h4 h3
    clear hS
    go_enter Tryd.func60, Tryd.ntmps60
    go_wp2_with fail
    refine (HD.out _).mono ?_
    rintro e w1 ⟨v, rfl, hv, hb1⟩
    obtain ⟨a', c', rfl⟩ := Rd.shape hv
    clear hv
    go_wp2
    go_ret2
    exact ⟨rfl, hb1⟩
  · subst h4 h3 hS
    go_enter Tryd.func60, Tryd.ntmps60
    go_wp2_with fail
    refine (HD.out _).mono ?_
    rintro e w1 ⟨v, rfl, hv, hb1⟩
    obtain ⟨a', c', rfl⟩ := Rd.shape hv
    clear hv
    go_wp2
    go_ret2
    exact ⟨rfl, hb1⟩

set_option maxRecDepth 100000 in
theorem rchecked (s r : ByteArray) (hs : s.size ≤ 9223372036854775807) (hr : r.size ≤ 9223372036854775807) (w : World) :
    Calls Tryd.prog 53 #[.string s, .string r] w fun e w' => e = .returned (.int .i64 ((chk2 s.data.toList r.data.toList : Nat) : Int)) ∧ w = w' := by
  have H1 := Lib.hid (fun w => rcheck_any s w hs)
  have H2 := Lib.hid (fun w => rcheck_any r w hr)
  unfold chk2
  generalize chk s.data.toList = x at *
  generalize chk r.data.toList = y at *
  by_cases h : x = 0
  · subst h
    rw [if_neg (by simp)]
    go_enter Tryd.func53, Tryd.ntmps53
    go_wp2_with fail
    refine (H1.out _).mono ?_
    rintro e w1 ⟨rfl, rfl⟩
    go_wp2_with fail
    refine (H2.out _).mono ?_
    rintro e w1 ⟨rfl, rfl⟩
    go_wp2
    go_ret
    exact ⟨rfl, rfl⟩
  · rw [if_pos h]
    have hx : ¬ ((x : Nat) : Int) = 0 := by omega
    have hx1 : ((x : Int) == 0) = false := beq_eq_false_iff_ne.2 hx
    go_enter Tryd.func53, Tryd.ntmps53
    go_wp2_with fail
    refine (H1.out _).mono ?_
    rintro e w1 ⟨rfl, rfl⟩
    go_wp2
    go_ret
    exact ⟨rfl, rfl⟩

set_option maxRecDepth 100000 in
theorem radd_any (s r : ByteArray) (hs : s.size ≤ 9223372036854775807) (hr : r.size ≤ 9223372036854775807) (w : World) :
    Calls Tryd.prog 24 #[.string s, .string r] w (TextOut w (op2 (· + ·) s.data.toList r.data.toList).1 (op2 (· + ·) s.data.toList r.data.toList).2) := by
  have HK := Lib.hid (fun w => rchecked s r hs hr w)
  unfold op2
  by_cases h : chk2 s.data.toList r.data.toList = 0
  · obtain ⟨c1, c2⟩ := chk2_zero h
    rw [if_neg (by rw [c1]; simp), if_neg (by rw [c2]; simp)]
    rw [h] at HK
    obtain ⟨x, d, hx1, hx2, hd1, hd2, hx⟩ := canon s c1
    obtain ⟨y, d', hy1, hy2, hd1', hd2', hy⟩ := canon r c2
    obtain rfl : d' = d := by omega
    rw [← hx2, ← hy2]
    have HP := Lib.hid (fun w => rplus_any x y hx hy hd1 (by omega) w)
    have hz : Few (d' + 1) (x + y) := Few.add hx hy
    have HB := Lib.hid (fun w => rbounded (x + y) hz (by omega) (by omega) w)
    rw [← hx1, ← hy1] at HP
    clear c1 c2 h hx1 hy1 hx2 hy2 hx hy hz
    show Calls _ _ _ _ fun e w' => e = .returned (.tuple #[str (tx (x + y)), .int .i64 ((te (x + y) : Nat) : Int)]) ∧ Below w.heap.size w w'
    unfold TextOut at HB
    generalize x + y = z at *
    generalize T z = Z at *
    generalize tx z = t at *
    generalize te z = c at *
    go_enter Tryd.func24, Tryd.ntmps24
    go_wp2_with fail
    refine (HK.out _).mono ?_
    rintro e w1 ⟨rfl, rfl⟩
    go_wp2_with fail
    refine (HP.out _).mono ?_
    rintro e w1 ⟨rfl, hb1⟩
    go_wp2_with fail
    refine (HB.out _).mono ?_
    rintro e w2 ⟨rfl, hb2⟩
    go_wp2
    go_ret2
    exact ⟨rfl, hb1.trans (hb2.mono hb1.size)⟩
  · have hc : ∀ q : List UInt8 × Nat, (if chk s.data.toList ≠ 0 then (([] : List UInt8), chk s.data.toList) else if chk r.data.toList ≠ 0 then ([], chk r.data.toList) else q) = ([], chk2 s.data.toList r.data.toList) := by
      intro q
      unfold chk2 at h ⊢
      by_cases c1 : chk s.data.toList = 0
      · rw [if_neg (by rw [c1]; simp)] at h
        rw [if_neg (by rw [c1]; simp), if_pos h, if_neg (by rw [c1]; simp)]
      · rw [if_pos c1, if_pos c1]
    rw [hc]
    clear hc
    generalize chk2 s.data.toList r.data.toList = c at *
    have hx : ¬ ((c : Nat) : Int) = 0 := by omega
    have hx1 : ((c : Int) == 0) = false := beq_eq_false_iff_ne.2 hx
    unfold TextOut
    go_enter Tryd.func24, Tryd.ntmps24
    go_wp2_with fail
    refine (HK.out _).mono ?_
    rintro e w1 ⟨rfl, rfl⟩
    go_wp2
    go_ret2
    exact ⟨rfl, Below.refl _ _⟩

set_option maxRecDepth 100000 in
theorem rsub_any (s r : ByteArray) (hs : s.size ≤ 9223372036854775807) (hr : r.size ≤ 9223372036854775807) (w : World) :
    Calls Tryd.prog 26 #[.string s, .string r] w (TextOut w (op2 (· - ·) s.data.toList r.data.toList).1 (op2 (· - ·) s.data.toList r.data.toList).2) := by
  have HK := Lib.hid (fun w => rchecked s r hs hr w)
  unfold op2
  by_cases h : chk2 s.data.toList r.data.toList = 0
  · obtain ⟨c1, c2⟩ := chk2_zero h
    rw [if_neg (by rw [c1]; simp), if_neg (by rw [c2]; simp)]
    rw [h] at HK
    obtain ⟨x, d, hx1, hx2, hd1, hd2, hx⟩ := canon s c1
    obtain ⟨y, d', hy1, hy2, hd1', hd2', hy⟩ := canon r c2
    obtain rfl : d' = d := by omega
    rw [← hx2, ← hy2]
    have HP := Lib.hid (fun w => rless_any x y hx hy hd1 (by omega) w)
    have hz : Few (d' + 1) (x - y) := Few.sub hx hy
    have HB := Lib.hid (fun w => rbounded (x - y) hz (by omega) (by omega) w)
    rw [← hx1, ← hy1] at HP
    clear c1 c2 h hx1 hy1 hx2 hy2 hx hy hz
    show Calls _ _ _ _ fun e w' => e = .returned (.tuple #[str (tx (x - y)), .int .i64 ((te (x - y) : Nat) : Int)]) ∧ Below w.heap.size w w'
    unfold TextOut at HB
    generalize x - y = z at *
    generalize T z = Z at *
    generalize tx z = t at *
    generalize te z = c at *
    go_enter Tryd.func26, Tryd.ntmps26
    go_wp2_with fail
    refine (HK.out _).mono ?_
    rintro e w1 ⟨rfl, rfl⟩
    go_wp2_with fail
    refine (HP.out _).mono ?_
    rintro e w1 ⟨rfl, hb1⟩
    go_wp2_with fail
    refine (HB.out _).mono ?_
    rintro e w2 ⟨rfl, hb2⟩
    go_wp2
    go_ret2
    exact ⟨rfl, hb1.trans (hb2.mono hb1.size)⟩
  · have hc : ∀ q : List UInt8 × Nat, (if chk s.data.toList ≠ 0 then (([] : List UInt8), chk s.data.toList) else if chk r.data.toList ≠ 0 then ([], chk r.data.toList) else q) = ([], chk2 s.data.toList r.data.toList) := by
      intro q
      unfold chk2 at h ⊢
      by_cases c1 : chk s.data.toList = 0
      · rw [if_neg (by rw [c1]; simp)] at h
        rw [if_neg (by rw [c1]; simp), if_pos h, if_neg (by rw [c1]; simp)]
      · rw [if_pos c1, if_pos c1]
    rw [hc]
    clear hc
    generalize chk2 s.data.toList r.data.toList = c at *
    have hx : ¬ ((c : Nat) : Int) = 0 := by omega
    have hx1 : ((c : Int) == 0) = false := beq_eq_false_iff_ne.2 hx
    unfold TextOut
    go_enter Tryd.func26, Tryd.ntmps26
    go_wp2_with fail
    refine (HK.out _).mono ?_
    rintro e w1 ⟨rfl, rfl⟩
    go_wp2
    go_ret2
    exact ⟨rfl, Below.refl _ _⟩

/-- The order of two texts, or the first error. -/
def cmpR (l m : List UInt8) : Int × Nat := if chk2 l m ≠ 0 then (0, chk2 l m) else (cmpZ (parse l) (parse m), 0)

set_option maxRecDepth 100000 in
theorem rcompare_any (s r : ByteArray) (hs : s.size ≤ 9223372036854775807) (hr : r.size ≤ 9223372036854775807) (w : World) :
    Calls Tryd.prog 18 #[.string s, .string r] w fun e w' => e = .returned (.tuple #[.int .i64 (cmpR s.data.toList r.data.toList).1, .int .i64 (((cmpR s.data.toList r.data.toList).2 : Nat) : Int)]) ∧ Below w.heap.size w w' := by
  have HK := Lib.hid (fun w => rchecked s r hs hr w)
  unfold cmpR
  by_cases h : chk2 s.data.toList r.data.toList = 0
  · obtain ⟨c1, c2⟩ := chk2_zero h
    rw [if_neg (by rw [h]; simp)]
    rw [h] at HK
    obtain ⟨x, d, hx1, hx2, hd1, hd2, hx⟩ := canon s c1
    obtain ⟨y, d', hy1, hy2, hd1', hd2', hy⟩ := canon r c2
    obtain rfl : d' = d := by omega
    rw [← hx2, ← hy2]
    have HP := Lib.hid (fun w => rorderT x y hx hy hd1 (by omega) w)
    rw [← hx1, ← hy1] at HP
    clear c1 c2 h hx1 hy1 hx2 hy2 hx hy
    generalize cmpZ x y = c at *
    go_enter Tryd.func18, Tryd.ntmps18
    go_wp2_with fail
    refine (HK.out _).mono ?_
    rintro e w1 ⟨rfl, rfl⟩
    go_wp2_with fail
    refine (HP.out _).mono ?_
    rintro e w1 ⟨rfl, hb1⟩
    go_wp2
    go_ret2
    exact ⟨rfl, hb1⟩
  · rw [if_pos h]
    generalize chk2 s.data.toList r.data.toList = c at *
    have hx : ¬ ((c : Nat) : Int) = 0 := by omega
    have hx1 : ((c : Int) == 0) = false := beq_eq_false_iff_ne.2 hx
    go_enter Tryd.func18, Tryd.ntmps18
    go_wp2_with fail
    refine (HK.out _).mono ?_
    rintro e w1 ⟨rfl, rfl⟩
    go_wp2
    go_ret2
    exact ⟨rfl, Below.refl _ _⟩
end Go.Proofs.YtbmonfbbkmpdhaaDoor

namespace Go.Proofs.YtbmonfbbkmpdhaaDoor
open Go.RowKit Go.Proofs.Num

/-- A text is short, or no canonical integer and not too long. -/
def fewB (s : ByteArray) : Bool := decide (s.size ≤ 60) || (decide (s.size ≤ 2048) && decide (chk s.data.toList = 3))

set_option maxRecDepth 100000 in
theorem rfew_any (s : ByteArray) (hs : s.size ≤ 9223372036854775807) (w : World) : Calls Tryd.prog 68 #[.string s] w fun e w' => e = .returned (.bool (fewB s)) ∧ w = w' := by
  have HK := Lib.hid (fun w => rcheck_any s w hs)
  unfold fewB
  generalize chk s.data.toList = c at *
  rcases (show s.size ≤ 60 ∨ (¬ s.size ≤ 60 ∧ s.size ≤ 2048) ∨ (¬ s.size ≤ 60 ∧ ¬ s.size ≤ 2048) by omega) with h | ⟨h1, h2⟩ | ⟨h1, h2⟩
  · rw [decide_eq_true h, Bool.true_or]
    have hd1 : decide (((s.size : Nat) : Int) ≤ 60) = true := decide_eq_true (by omega)
    go_enter Tryd.func68, Tryd.ntmps68
    go_wp2
    go_ret
    exact ⟨rfl, rfl⟩
  · rw [decide_eq_false h1, decide_eq_true h2, Bool.false_or, Bool.true_and]
    have hd1 : decide (((s.size : Nat) : Int) ≤ 60) = false := decide_eq_false (by omega)
    have hd2 : decide (((s.size : Nat) : Int) ≤ 2048) = true := decide_eq_true (by omega)
    by_cases h3 : c = 3
    · subst h3
      go_enter Tryd.func68, Tryd.ntmps68
      go_wp2_with fail
      refine (HK.out _).mono ?_
      rintro e w1 ⟨rfl, rfl⟩
      go_wp2
      go_ret
      exact ⟨rfl, rfl⟩
    · rw [decide_eq_false h3]
      have hc0 : ((c : Int) == 3) = false := beq_eq_false_iff_ne.2 (by omega)
      clear h3
      go_enter Tryd.func68, Tryd.ntmps68
      go_wp2_with fail
      refine (HK.out _).mono ?_
      rintro e w1 ⟨rfl, rfl⟩
      go_wp2
      go_ret
      exact ⟨rfl, rfl⟩
  · rw [decide_eq_false h1, decide_eq_false h2, Bool.false_or, Bool.false_and]
    have hd1 : decide (((s.size : Nat) : Int) ≤ 60) = false := decide_eq_false (by omega)
    have hd2 : decide (((s.size : Nat) : Int) ≤ 2048) = false := decide_eq_false (by omega)
    go_enter Tryd.func68, Tryd.ntmps68
    go_wp2
    go_ret
    exact ⟨rfl, rfl⟩

set_option maxRecDepth 100000 in
theorem pair_any (s r : ByteArray) (hs : s.size ≤ 9223372036854775807) (hr : r.size ≤ 9223372036854775807) (w : World) : Calls Tryd.prog 35 #[.string s, .string r] w fun e w' => e = .returned (.bool (fewB s && fewB r)) ∧ w = w' := by
  have H1 := Lib.hid (fun w => rfew_any s hs w)
  have H2 := Lib.hid (fun w => rfew_any r hr w)
  generalize fewB s = p at *
  generalize fewB r = q at *
  cases p
  · go_enter Tryd.func35, Tryd.ntmps35
    go_wp2_with fail
    refine (H1.out _).mono ?_
    rintro e w1 ⟨rfl, rfl⟩
    go_wp2
    go_ret
    exact ⟨rfl, rfl⟩
  · go_enter Tryd.func35, Tryd.ntmps35
    go_wp2_with fail
    refine (H1.out _).mono ?_
    rintro e w1 ⟨rfl, rfl⟩
    go_wp2_with fail
    refine (H2.out _).mono ?_
    rintro e w1 ⟨rfl, rfl⟩
    go_wp2
    go_ret
    exact ⟨rfl, rfl⟩
end Go.Proofs.YtbmonfbbkmpdhaaDoor

namespace Go.Proofs.YtbmonfbbkmpdhaaDoor
open Go.RowKit Go.Proofs.Num

/-- Hands back a text and an error. -/
def OutE (w : World) (S : ByteArray) (c : Nat) (e : Ending) (w' : World) : Prop := e = .returned (.tuple #[.string S, .int .i64 ((c : Nat) : Int)]) ∧ Below w.heap.size w w'

theorem cmpR_any (s r : ByteArray) (hs : s.size ≤ 9223372036854775807) (hr : r.size ≤ 9223372036854775807) (w : World) :
    Calls Tryd.prog 27 #[.string s, .string r] w (IntOut w (cmpR s.data.toList r.data.toList).1 (cmpR s.data.toList r.data.toList).2) := by
  unfold cmpR
  by_cases h : chk2 s.data.toList r.data.toList = 0
  · rw [if_neg (by rw [h]; simp)]
    obtain ⟨c1, c2⟩ := chk2_zero h
    exact cmp_ok s r hs hr c1 c2 w
  · rw [if_pos h]; exact cmp_err s r hs hr h w

set_option maxRecDepth 100000 in
theorem sums_long (HA : Awake) (s r : ByteArray) (h : 2048 < s.size ∨ 2048 < r.size) (w : World) (hT : Tab w) :
    Calls Tryd.prog 4 #[.string s, .string r] w fun e w' => e = .returned (.bool true) ∧ Below w.heap.size w w' := by
  have HT := Lib.hid hT
  have HAW := Lib.hid HA
  clear hT HA
  rcases (show 2048 < s.size ∨ (¬ 2048 < s.size ∧ 2048 < r.size) by omega) with h1 | ⟨h1, h2⟩
  all_goals
    clear h
    go_enter Tryd.func4, Tryd.ntmps4
    go_wp2_with fail
    refine (HAW.out _ HT.out).mono ?_
    rintro e w1 ⟨rfl, hb1⟩
    go_wp2
    go_ret
    exact ⟨rfl, hb1⟩

set_option maxHeartbeats 6400000 in
set_option maxRecDepth 100000 in
theorem sums_err (HA : Awake) (s r : ByteArray) (hs : ¬ 2048 < s.size) (hr : ¬ 2048 < r.size) (h0 : chk s.data.toList ≠ 0) (w : World) (hT : Tab w) :
    Calls Tryd.prog 4 #[.string s, .string r] w fun e w' => e = .returned (.bool true) ∧ Below w.heap.size w w' := by
  have hs' : s.size ≤ 9223372036854775807 := by omega
  have hr' : r.size ≤ 9223372036854775807 := by omega
  obtain ⟨S1, hS1⟩ : ∃ S : ByteArray, S = ⟨(op2 (· + ·) s.data.toList r.data.toList).1.toArray⟩ := ⟨_, rfl⟩
  obtain ⟨S2, hS2⟩ : ∃ S : ByteArray, S = ⟨(op2 (· - ·) s.data.toList r.data.toList).1.toArray⟩ := ⟨_, rfl⟩
  obtain ⟨x1, hx1⟩ : ∃ x, x = (op2 (· + ·) s.data.toList r.data.toList).2 := ⟨_, rfl⟩
  obtain ⟨x2, hx2⟩ : ∃ x, x = (op2 (· - ·) s.data.toList r.data.toList).2 := ⟨_, rfl⟩
  obtain ⟨i3, hi3⟩ : ∃ x, x = (cmpR s.data.toList r.data.toList).1 := ⟨_, rfl⟩
  obtain ⟨x3, hx3⟩ : ∃ x, x = (cmpR s.data.toList r.data.toList).2 := ⟨_, rfl⟩
  obtain ⟨k, hk⟩ : ∃ x, x = chk s.data.toList := ⟨_, rfl⟩
  have c1 : ∀ w, Tab w → Calls Tryd.prog 23 #[.string s, .string r] w (OutE w S1 x1) := fun w hT => by rw [hS1, hx1]; exact add_any s r hs' hr' w hT
  have c2 : ∀ w, Tab w → Calls Tryd.prog 24 #[.string s, .string r] w (OutE w S1 x1) := fun w _ => by rw [hS1, hx1]; exact radd_any s r hs' hr' w
  have c3 : ∀ w, Tab w → Calls Tryd.prog 25 #[.string s, .string r] w (OutE w S2 x2) := fun w hT => by rw [hS2, hx2]; exact sub_any s r hs' hr' w hT
  have c4 : ∀ w, Tab w → Calls Tryd.prog 26 #[.string s, .string r] w (OutE w S2 x2) := fun w _ => by rw [hS2, hx2]; exact rsub_any s r hs' hr' w
  have c5 : ∀ w, Tab w → Calls Tryd.prog 27 #[.string s, .string r] w (IntOut w i3 x3) := fun w _ => by rw [hi3, hx3]; exact cmpR_any s r hs' hr' w
  have c6 : ∀ w, Tab w → Calls Tryd.prog 18 #[.string s, .string r] w (IntOut w i3 x3) := fun w _ => by rw [hi3, hx3]; exact rcompare_any s r hs' hr' w
  have cK : ∀ w, Calls Tryd.prog 20 #[.string s] w fun e w' => e = .returned (.int .i64 ((k : Nat) : Int)) ∧ w = w' := fun w => by rw [hk]; exact rcheck_any s w hs'
  have H1 := Lib.hid c1; have H2 := Lib.hid c2; have H3 := Lib.hid c3; have H4 := Lib.hid c4; have H5 := Lib.hid c5; have H6 := Lib.hid c6
  have HT := Lib.hid hT
  have HAW := Lib.hid HA
  have c7 : ∀ w, Tab w → Calls Tryd.prog 28 #[.string s] w (OutE w ⟨#[]⟩ k) := fun w _ => by rw [hk]; exact neg_err s hs' h0 w
  have c8 : ∀ w, Tab w → Calls Tryd.prog 29 #[.string s] w (OutE w ⟨#[]⟩ k) := fun w _ => by rw [hk]; exact abs_err s hs' h0 w
  have H7 := Lib.hid c7; have H8 := Lib.hid c8
  rw [← hk] at h0
  have hk0 : ¬ ((k : Nat) : Int) = 0 := by omega
  have hk1 : ((k : Int) == 0) = false := beq_eq_false_iff_ne.2 hk0
  have HK := Lib.hid cK
  clear c1 c2 c3 c4 c5 c6 cK hS1 hS2 hx1 hx2 hi3 hx3 hk hT HA hs' hr'
  clear h0
  clear c7 c8
  go_enter Tryd.func4, Tryd.ntmps4
  go_wp2_with fail
  refine (H1.out _ HT.out).mono ?_
  rintro e w1 ⟨rfl, hc1⟩
  have hb1 : Below w.heap.size w w1 := hc1
  clear hc1
  go_wp2_with fail
  refine (H2.out _ (HT.out.keep hb1)).mono ?_
  rintro e w2 ⟨rfl, hc2⟩
  have hb2 : Below w.heap.size w w2 := hb1.trans (hc2.mono hb1.size)
  clear hb1 hc2
  go_wp2_with fail
  refine (H3.out _ (HT.out.keep hb2)).mono ?_
  rintro e w3 ⟨rfl, hc3⟩
  have hb3 : Below w.heap.size w w3 := hb2.trans (hc3.mono hb2.size)
  clear hb2 hc3
  go_wp2_with fail
  refine (H4.out _ (HT.out.keep hb3)).mono ?_
  rintro e w4 ⟨rfl, hc4⟩
  have hb4 : Below w.heap.size w w4 := hb3.trans (hc4.mono hb3.size)
  clear hb3 hc4
  go_wp2_with fail
  refine (H5.out _ (HT.out.keep hb4)).mono ?_
  rintro e w5 ⟨rfl, hc5⟩
  have hb5 : Below w.heap.size w w5 := hb4.trans (hc5.mono hb4.size)
  clear hb4 hc5
  go_wp2_with fail
  refine (H6.out _ (HT.out.keep hb5)).mono ?_
  rintro e w6 ⟨rfl, hc6⟩
  have hb6 : Below w.heap.size w w6 := hb5.trans (hc6.mono hb5.size)
  clear hb5 hc6
  go_wp2_with fail
  refine (H7.out _ (HT.out.keep hb6)).mono ?_
  rintro e w7 ⟨rfl, hc7⟩
  have hb7 : Below w.heap.size w w7 := hb6.trans (hc7.mono hb6.size)
  clear hb6 hc7
  go_wp2_with fail
  refine (H8.out _ (HT.out.keep hb7)).mono ?_
  rintro e w8 ⟨rfl, hc8⟩
  have hb8 : Below w.heap.size w w8 := hb7.trans (hc8.mono hb7.size)
  clear hb7 hc8
  go_wp2_with fail
  refine (HK.out _).mono ?_
  rintro e w8' ⟨rfl, rfl⟩
  go_wp2_with fail
  refine (HAW.out _ (HT.out.keep hb8)).mono ?_
  rintro e w9 ⟨rfl, hc9⟩
  have hb9 : Below w.heap.size w w9 := hb8.trans (hc9.mono hb8.size)
  clear hb8 hc9
  go_wp2
  go_ret
  exact ⟨rfl, hb9⟩

set_option maxHeartbeats 6400000 in
set_option maxRecDepth 100000 in
theorem sums_ok (HA : Awake) (s r : ByteArray) (hs : ¬ 2048 < s.size) (hr : ¬ 2048 < r.size) (h0 : chk s.data.toList = 0) (w : World) (hT : Tab w) :
    Calls Tryd.prog 4 #[.string s, .string r] w fun e w' => e = .returned (.bool true) ∧ Below w.heap.size w w' := by
  have hs' : s.size ≤ 9223372036854775807 := by omega
  have hr' : r.size ≤ 9223372036854775807 := by omega
  obtain ⟨S1, hS1⟩ : ∃ S : ByteArray, S = ⟨(op2 (· + ·) s.data.toList r.data.toList).1.toArray⟩ := ⟨_, rfl⟩
  obtain ⟨S2, hS2⟩ : ∃ S : ByteArray, S = ⟨(op2 (· - ·) s.data.toList r.data.toList).1.toArray⟩ := ⟨_, rfl⟩
  obtain ⟨x1, hx1⟩ : ∃ x, x = (op2 (· + ·) s.data.toList r.data.toList).2 := ⟨_, rfl⟩
  obtain ⟨x2, hx2⟩ : ∃ x, x = (op2 (· - ·) s.data.toList r.data.toList).2 := ⟨_, rfl⟩
  obtain ⟨i3, hi3⟩ : ∃ x, x = (cmpR s.data.toList r.data.toList).1 := ⟨_, rfl⟩
  obtain ⟨x3, hx3⟩ : ∃ x, x = (cmpR s.data.toList r.data.toList).2 := ⟨_, rfl⟩
  obtain ⟨k, hk⟩ : ∃ x, x = chk s.data.toList := ⟨_, rfl⟩
  have c1 : ∀ w, Tab w → Calls Tryd.prog 23 #[.string s, .string r] w (OutE w S1 x1) := fun w hT => by rw [hS1, hx1]; exact add_any s r hs' hr' w hT
  have c2 : ∀ w, Tab w → Calls Tryd.prog 24 #[.string s, .string r] w (OutE w S1 x1) := fun w _ => by rw [hS1, hx1]; exact radd_any s r hs' hr' w
  have c3 : ∀ w, Tab w → Calls Tryd.prog 25 #[.string s, .string r] w (OutE w S2 x2) := fun w hT => by rw [hS2, hx2]; exact sub_any s r hs' hr' w hT
  have c4 : ∀ w, Tab w → Calls Tryd.prog 26 #[.string s, .string r] w (OutE w S2 x2) := fun w _ => by rw [hS2, hx2]; exact rsub_any s r hs' hr' w
  have c5 : ∀ w, Tab w → Calls Tryd.prog 27 #[.string s, .string r] w (IntOut w i3 x3) := fun w _ => by rw [hi3, hx3]; exact cmpR_any s r hs' hr' w
  have c6 : ∀ w, Tab w → Calls Tryd.prog 18 #[.string s, .string r] w (IntOut w i3 x3) := fun w _ => by rw [hi3, hx3]; exact rcompare_any s r hs' hr' w
  have cK : ∀ w, Calls Tryd.prog 20 #[.string s] w fun e w' => e = .returned (.int .i64 ((k : Nat) : Int)) ∧ w = w' := fun w => by rw [hk]; exact rcheck_any s w hs'
  have H1 := Lib.hid c1; have H2 := Lib.hid c2; have H3 := Lib.hid c3; have H4 := Lib.hid c4; have H5 := Lib.hid c5; have H6 := Lib.hid c6
  have HT := Lib.hid hT
  have HAW := Lib.hid HA
  obtain ⟨z, d, hz1, hz2, hd1, hd2, hz⟩ := canon s h0
  obtain ⟨S4, hS4⟩ : ∃ S, S = T (-z) := ⟨_, rfl⟩
  obtain ⟨S5, hS5⟩ : ∃ S, S = T ((z.natAbs : Nat) : Int) := ⟨_, rfl⟩
  have hzn : Few d ((z.natAbs : Nat) : Int) := by unfold Few at hz ⊢; rw [Int.natAbs_natCast]; exact hz
  have c7 : ∀ w, Tab w → Calls Tryd.prog 28 #[.string s] w (OutE w S4 0) := fun w hT => by
    have h := neg_ok s hs' h0 w hT
    rw [← hz2, hz.neg.tx hd1 (by omega), hz.neg.te hd1 (by omega)] at h
    rw [hS4]; exact h
  have c8 : ∀ w, Tab w → Calls Tryd.prog 29 #[.string s] w (OutE w S5 0) := fun w hT => by
    have h := abs_ok s hs' h0 w hT
    rw [← hz2, hzn.tx hd1 (by omega), hzn.te hd1 (by omega)] at h
    rw [hS5]; exact h
  have c9 : ∀ w, Tab w → Calls Tryd.prog 30 #[.string s] w (OutR w S4) := fun w hT => by
    rw [hS4, hz1]; exact turned_any z hz hd1 (by omega) w
  have c10 : ∀ w, Tab w → Calls Tryd.prog 31 #[.string s] w (OutR w S5) := fun w hT => by
    rw [hS5, hz1]; exact positive_any z hz hd1 (by omega) w
  have H7 := Lib.hid c7; have H8 := Lib.hid c8; have H9 := Lib.hid c9; have H10 := Lib.hid c10
  rw [← hk] at h0
  subst h0
  have HK := Lib.hid cK
  clear c1 c2 c3 c4 c5 c6 cK hS1 hS2 hx1 hx2 hi3 hx3 hk hT HA hs' hr'
  clear c7 c8 c9 c10 hz hzn hz1 hz2 hd1 hd2 hS4 hS5
  have hsi : ¬ (2048 : Int) < ((s.size : Nat) : Int) := by omega
  have hri : ¬ (2048 : Int) < ((r.size : Nat) : Int) := by omega
  have hds : decide ((2048 : Int) < ((s.size : Nat) : Int)) = false := decide_eq_false hsi
  have hdr : decide ((2048 : Int) < ((r.size : Nat) : Int)) = false := decide_eq_false hri
  clear z d
  go_enter Tryd.func4, Tryd.ntmps4
  go_wp2_with fail
  refine (H1.out _ HT.out).mono ?_
  rintro e w1 ⟨rfl, hc1⟩
  have hb1 : Below w.heap.size w w1 := hc1
  clear hc1
  go_wp2_with fail
  refine (H2.out _ (HT.out.keep hb1)).mono ?_
  rintro e w2 ⟨rfl, hc2⟩
  have hb2 : Below w.heap.size w w2 := hb1.trans (hc2.mono hb1.size)
  clear hb1 hc2
  go_wp2_with fail
  refine (H3.out _ (HT.out.keep hb2)).mono ?_
  rintro e w3 ⟨rfl, hc3⟩
  have hb3 : Below w.heap.size w w3 := hb2.trans (hc3.mono hb2.size)
  clear hb2 hc3
  go_wp2_with fail
  refine (H4.out _ (HT.out.keep hb3)).mono ?_
  rintro e w4 ⟨rfl, hc4⟩
  have hb4 : Below w.heap.size w w4 := hb3.trans (hc4.mono hb3.size)
  clear hb3 hc4
  go_wp2_with fail
  refine (H5.out _ (HT.out.keep hb4)).mono ?_
  rintro e w5 ⟨rfl, hc5⟩
  have hb5 : Below w.heap.size w w5 := hb4.trans (hc5.mono hb4.size)
  clear hb4 hc5
  go_wp2_with fail
  refine (H6.out _ (HT.out.keep hb5)).mono ?_
  rintro e w6 ⟨rfl, hc6⟩
  have hb6 : Below w.heap.size w w6 := hb5.trans (hc6.mono hb5.size)
  clear hb5 hc6
  go_wp2_with fail
  refine (H7.out _ (HT.out.keep hb6)).mono ?_
  rintro e w7 ⟨rfl, hc7⟩
  have hb7 : Below w.heap.size w w7 := hb6.trans (hc7.mono hb6.size)
  clear hb6 hc7
  go_wp2_with fail
  refine (H8.out _ (HT.out.keep hb7)).mono ?_
  rintro e w8 ⟨rfl, hc8⟩
  have hb8 : Below w.heap.size w w8 := hb7.trans (hc8.mono hb7.size)
  clear hb7 hc8
  go_wp2_with fail
  refine (HK.out _).mono ?_
  rintro e w8' ⟨rfl, rfl⟩
  go_wp2_with fail
  refine (H9.out _ (HT.out.keep hb8)).mono ?_
  rintro e w9 ⟨rfl, hc9⟩
  have hb9 : Below w.heap.size w w9 := hb8.trans (hc9.mono hb8.size)
  clear hb8 hc9
  go_wp2_with fail
  refine (H10.out _ (HT.out.keep hb9)).mono ?_
  rintro e w10 ⟨rfl, hc10⟩
  have hb10 : Below w.heap.size w w10 := hb9.trans (hc10.mono hb9.size)
  clear hb9 hc10
  go_wp2_with fail
  refine (HAW.out _ (HT.out.keep hb10)).mono ?_
  rintro e w11 ⟨rfl, hc11⟩
  have hb11 : Below w.heap.size w w11 := hb10.trans (hc11.mono hb10.size)
  clear hb10 hc11
  go_wp2
  go_ret
  exact ⟨rfl, hb11⟩

theorem sums_any (HA : Awake) (s r : ByteArray) (w : World) (hT : Tab w) :
    Calls Tryd.prog 4 #[.string s, .string r] w fun e w' => e = .returned (.bool true) ∧ Below w.heap.size w w' := by
  by_cases h : 2048 < s.size ∨ 2048 < r.size
  · exact sums_long HA s r h w hT
  · by_cases h0 : chk s.data.toList = 0
    · exact sums_ok HA s r (by omega) (by omega) h0 w hT
    · exact sums_err HA s r (by omega) (by omega) h0 w hT
end Go.Proofs.YtbmonfbbkmpdhaaDoor
