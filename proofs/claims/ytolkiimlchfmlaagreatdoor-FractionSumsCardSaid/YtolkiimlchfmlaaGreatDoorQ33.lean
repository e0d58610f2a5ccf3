/- Walks of the laws of fractions: what is taken or divided comes back, the law. And: Walks of fractions: the text of a right fraction is read back. And: Walks of the laws of fractions: what is read and written. -/
import Derived.Test.YtolkiimlchfmlaaGreatDoorQ32
import Derived.Test.YtolkiimlchfmlaaGreatDoorQ13
namespace Go.Proofs.YtolkiimlchfmlaaGreatDoor
open Go.RowKit Go.Proofs.Num

theorem few_size {s : ByteArray} {N : Nat} {x : Int} (h : s = T x) (hc : chk s.data.toList = 0) (hs : s.size ≤ N) : Few N x := by
  have hx : x = parse s.data.toList := by rw [h, T_data, parse_itoa]
  rw [hx]
  have h1 := (chk_cases _ hc).1
  have h3 := body_length (Lib.itoa (parse s.data.toList))
  rw [itoa_body, Lib.decDigits_length, h1, size_toList] at h3
  exact Nat.lt_of_lt_of_le (Lib.lt_pow_nDigits _) (Nat.pow_le_pow_right (by omega) (by omega))

theorem right_T (s r : ByteArray) (h : rightB s r = true) : ∃ n d, s = T n ∧ r = T d ∧ Few 40 n ∧ Few 40 d ∧ Low n d := by
  unfold rightB at h
  simp only [Bool.and_eq_true, decide_eq_true_eq, beq_iff_eq] at h
  obtain ⟨n, d, D, h1, h2, hD1, hD, hn, hd, hl⟩ := fchk_ok s r h.2
  have c1 := hn.chk hD1 (by omega)
  have c2 := hd.chk hD1 (by omega)
  refine ⟨n, d, h1, h2, few_size h1 (by rw [h1]; exact c1) h.1.1, few_size h2 (by rw [h2]; exact c2) h.1.2, hl⟩

theorem sgn_lowN {n m : Int} (hm : 0 < m) : sgn (lowN n m) = sgn n := by
  have hg := gz_pos (n := n) (show m ≠ 0 by omega)
  have h := (low_mul (n := n) (show m ≠ 0 by omega)).1
  rw [if_neg (by omega)] at h
  rcases Int.lt_trichotomy (lowN n m) 0 with h1 | h1 | h1
  · have : gz n m * lowN n m < 0 := Int.mul_neg_of_pos_of_neg hg h1
    rw [sgn_neg h1, sgn_neg (by omega)]
  · rw [h1, Int.mul_zero] at h
    rw [h1, ← h]
  · have : 0 < gz n m * lowN n m := Int.mul_pos hg h1
    rw [sgn_pos h1, sgn_pos (by omega)]

theorem sgn_sub (x y : Int) : sgn (x - y) = cmpZ x y := by
  rcases cmp_ways x y with ⟨h, -, g⟩ | ⟨h, -, g⟩ | ⟨h, -, g⟩
  · rw [h, sgn_neg (by omega)]
  · rw [h, g, Int.sub_self]; rfl
  · rw [h, sgn_pos (by omega)]

theorem back_sub {n d m e : Int} (hl : Low n d) (hl' : Low m e) :
    lowN (lowN (n * e - m * d) (d * e) * e + m * lowD (n * e - m * d) (d * e)) (lowD (n * e - m * d) (d * e) * e) = n ∧
    lowD (lowN (n * e - m * d) (d * e) * e + m * lowD (n * e - m * d) (d * e)) (lowD (n * e - m * d) (d * e) * e) = d := by
  have hde : d * e ≠ 0 := by have := Int.mul_pos hl.1 hl'.1; omega
  have h := low_cross (n := n * e - m * d) hde
  have hp := lowD_pos (n := n * e - m * d) hde
  generalize lowN (n * e - m * d) (d * e) = P at *
  generalize lowD (n * e - m * d) (d * e) = Q at *
  have hQ : Q * e ≠ 0 := by have := Int.mul_pos hp hl'.1; omega
  refine low_of hQ hl ?_
  grind

theorem back_div {n d m e : Int} (hl : Low n d) (hl' : Low m e) (hm : m ≠ 0) :
    lowN (lowN (n * e) (d * m) * m) (lowD (n * e) (d * m) * e) = n ∧ lowD (lowN (n * e) (d * m) * m) (lowD (n * e) (d * m) * e) = d := by
  have hde : d * m ≠ 0 := Int.mul_ne_zero (by have := hl.1; omega) hm
  have h := low_cross (n := n * e) hde
  have hp := lowD_pos (n := n * e) hde
  generalize lowN (n * e) (d * m) = P at *
  generalize lowD (n * e) (d * m) = Q at *
  have hQ : Q * e ≠ 0 := by have := Int.mul_pos hp hl'.1; omega
  refine low_of hQ hl ?_
  grind

theorem T_zero_eq (x : Int) : ((T x).toList == [48]) = decide (x = 0) := by
  have h := eq_T x 0
  rwa [show (T 0).toList = [48] by rw [Lib.toList_data, T_naught]] at h

theorem ne_T {x y : Int} (h : x ≠ y) : ((T x).toList == (T y).toList) = false := by rw [eq_T, decide_eq_false h]

set_option maxHeartbeats 3200000 in
set_option maxRecDepth 100000 in
theorem undoes_no (s r s' r' : ByteArray) (hs : s.size ≤ 9223372036854775807) (hr : r.size ≤ 9223372036854775807) (hs' : s'.size ≤ 9223372036854775807) (hr' : r'.size ≤ 9223372036854775807)
    (h : (rightB s r && rightB s' r') = false) (w : World) (hT : Tab w) (hC : CutT w) :
    Calls Tryz.prog 8 #[FrV s r, FrV s' r'] w fun e w' => e = .returned (.bool true) ∧ Below w.heap.size w w' := by
  have HT := Lib.hid hT
  have HC := Lib.hid hC
  have HA := Lib.hid fawake
  have HR1 := Lib.hid (fun w => right_any s r hs hr w)
  have HR2 := Lib.hid (fun w => right_any s' r' hs' hr' w)
  unfold FrV at *
  obtain ⟨W0, hW0, hR1, hR2, hBl0, hsz0⟩ := box2T 24 w (.string s) (.string r) (.string s') (.string r')
  have HW0 := Lib.hid hW0
  have HK2 := Lib.hid hR2
  have x10 := hR1.c0; have x11 := hR1.c1; have x20 := hR2.c0; have x21 := hR2.c1
  rw [hW0] at x10 x11 x20 x21
  clear hT hC hs hr hs' hr' hR1 hR2 hW0 hsz0
  cases h1 : rightB s r with
  | false =>
    rw [h1] at HR1
    clear h h1
    go_enter Tryz.func8, Tryz.ntmps8
    go_wp2_with fail
    rw [← HW0.out]
    refine (HR1.out _).mono ?_
    rintro en w1 ⟨rfl, hb1⟩
    have hB1 : Below w.heap.size w w1 := hBl0.trans (hb1.mono hBl0.size)
    clear x10 x11 x20 x21
    go_wp2_with fail
    refine (HA.out _ (HT.out.keep hB1) (HC.out.keep hB1)).mono ?_
    rintro en w2 ⟨rfl, hb2⟩
    go_wp2
    go_ret
    exact ⟨rfl, hB1.trans (hb2.mono hB1.size)⟩
  | true =>
    rw [h1] at HR1 h
    rw [show rightB s' r' = false from h] at HR2
    clear h h1
    go_enter Tryz.func8, Tryz.ntmps8
    go_wp2_with fail
    rw [← HW0.out]
    refine (HR1.out _).mono ?_
    rintro en w1 ⟨rfl, hb1⟩
    have hB1 : Below w.heap.size w w1 := hBl0.trans (hb1.mono hBl0.size)
    have hK2 := HK2.out.keep hb1
    clear x10 x11 x20 x21
    have x20 := hK2.c0; have x21 := hK2.c1
    go_wp2_with fail
    refine (HR2.out _).mono ?_
    rintro en w2 ⟨rfl, hb2⟩
    have hB2 : Below w.heap.size w w2 := hB1.trans (hb2.mono hB1.size)
    clear x20 x21 hK2
    go_wp2_with fail
    refine (HA.out _ (HT.out.keep hB2) (HC.out.keep hB2)).mono ?_
    rintro en w3 ⟨rfl, hb3⟩
    go_wp2
    go_ret
    exact ⟨rfl, hB2.trans (hb3.mono hB2.size)⟩

set_option maxHeartbeats 3200000 in
theorem undoes_any (s r s' r' : ByteArray) (hs : s.size ≤ 9223372036854775807) (hr : r.size ≤ 9223372036854775807) (hs' : s'.size ≤ 9223372036854775807) (hr' : r'.size ≤ 9223372036854775807)
    (w : World) (hT : Tab w) (hC : CutT w) :
    Calls Tryz.prog 8 #[FrV s r, FrV s' r'] w fun e w' => e = .returned (.bool true) ∧ Below w.heap.size w w' := by
  cases h : (rightB s r && rightB s' r') with
  | false => exact undoes_no s r s' r' hs hr hs' hr' h w hT hC
  | true =>
    have h1 : rightB s r = true := by revert h; cases rightB s r <;> simp
    have h2 : rightB s' r' = true := by revert h; cases rightB s' r' <;> simp
    have HR1 := fun w => right_any s r hs hr w
    have HR2 := fun w => right_any s' r' hs' hr' w
    rw [h1] at HR1
    rw [h2] at HR2
    obtain ⟨n, d, rfl, rfl, hn, hd, hl⟩ := right_T s r h1
    obtain ⟨m, e, rfl, rfl, hm, he, hl'⟩ := right_T s' r' h2
    clear h h1 h2 hs hr hs' hr'
    have hd0 := hl.1
    have he0 := hl'.1
    have hde : 0 < d * e := Int.mul_pos hd0 he0
    have HSub := fun w hT => fSubS n d m e hn hd hm he (by omega) (by omega) hl hl' w hT
    have hP : Few 81 (lowN (n * e - m * d) (d * e)) := lowN_le (((hn.mul he).sub (hm.mul hd)).le (by omega)) (by omega)
    have hQ : Few 81 (lowD (n * e - m * d) (d * e)) := lowD_le ((hd.mul he).le (by omega)) (by omega)
    have HAdd := fun w hT => fAddS _ _ m e hP hQ (hm.le (by omega)) (he.le (by omega)) (by omega) (by omega) (low_low (by omega)) hl' w hT
    rw [(back_sub hl hl').1, (back_sub hl hl').2] at HAdd
    have HSg := fun w => sgnT1 _ hP (by omega) (by omega) w
    rw [sgn_lowN hde, sgn_sub] at HSg
    have HC1 := fun w hT => fCompareS n d m e hn hd hm he (by omega) (by omega) hl hl' w hT
    have HC2 := fun w hT => fCompareS m e n d hm he hn hd (by omega) (by omega) hl' hl w hT
    have hways := cmp_ways (n * e) (m * d)
    by_cases hm0 : m = 0
    · have hz : ((T m).toList == [48]) = true := by rw [T_zero_eq, decide_eq_true hm0]
      have HDv := fun w hT => fDivT_zero n d m e hn hd hm he (by omega) (by omega) hl hl' hm0 w hT
      rcases hways with ⟨g1, g2, g⟩ | ⟨g1, g2, g⟩ | ⟨g1, g2, g⟩
      · rw [g1] at HC1 HSg
        rw [g2] at HC2
        by_cases hnm : n = m
        · have hde' : d ≠ e := fun hh => by rw [hnm, hh] at g; omega
          subst hnm
          exact undoes_nr0 _ _ _ _ _ (ne_T hde') hz (Lib.hid HR1) (Lib.hid HR2) (Lib.hid HSub) (Lib.hid HAdd) (Lib.hid HC1) (Lib.hid HSg) (Lib.hid HC2) (Lib.hid HDv) w hT hC
        · exact undoes_n0 _ _ _ _ _ _ (ne_T hnm) hz (Lib.hid HR1) (Lib.hid HR2) (Lib.hid HSub) (Lib.hid HAdd) (Lib.hid HC1) (Lib.hid HSg) (Lib.hid HC2) (Lib.hid HDv) w hT hC
      · rw [g1] at HC1 HSg
        rw [g2] at HC2
        obtain ⟨rfl, rfl⟩ := hl.uniq hl' g
        exact undoes_z0 _ _ _ _ hz (Lib.hid HR1) (Lib.hid HR2) (Lib.hid HSub) (Lib.hid HAdd) (Lib.hid HC1) (Lib.hid HSg) (Lib.hid HC2) (Lib.hid HDv) w hT hC
      · rw [g1] at HC1 HSg
        rw [g2] at HC2
        by_cases hnm : n = m
        · have hde' : d ≠ e := fun hh => by rw [hnm, hh] at g; omega
          subst hnm
          exact undoes_pr0 _ _ _ _ _ (ne_T hde') hz (Lib.hid HR1) (Lib.hid HR2) (Lib.hid HSub) (Lib.hid HAdd) (Lib.hid HC1) (Lib.hid HSg) (Lib.hid HC2) (Lib.hid HDv) w hT hC
        · exact undoes_p0 _ _ _ _ _ _ (ne_T hnm) hz (Lib.hid HR1) (Lib.hid HR2) (Lib.hid HSub) (Lib.hid HAdd) (Lib.hid HC1) (Lib.hid HSg) (Lib.hid HC2) (Lib.hid HDv) w hT hC
    · have hz : ((T m).toList == [48]) = false := by rw [T_zero_eq, decide_eq_false hm0]
      have hdm : d * m ≠ 0 := Int.mul_ne_zero (by omega) hm0
      have HDv := fun w hT => fDivS n d m e hn hd hm he (by omega) (by omega) hl hl' hm0 w hT
      have hU : Few 80 (lowN (n * e) (d * m)) := lowN_le (hn.mul he) hdm
      have hV : Few 80 (lowD (n * e) (d * m)) := lowD_le (hd.mul hm) hdm
      have HMul := fun w hT => fMulS _ _ m e hU hV (hm.le (by omega)) (he.le (by omega)) (by omega) (by omega) (low_low hdm) hl' w hT
      rw [(back_div hl hl' hm0).1, (back_div hl hl' hm0).2] at HMul
      rcases hways with ⟨g1, g2, g⟩ | ⟨g1, g2, g⟩ | ⟨g1, g2, g⟩
      · rw [g1] at HC1 HSg
        rw [g2] at HC2
        by_cases hnm : n = m
        · have hde' : d ≠ e := fun hh => by rw [hnm, hh] at g; omega
          subst hnm
          exact undoes_nr1 _ _ _ _ _ _ _ (ne_T hde') hz (Lib.hid HR1) (Lib.hid HR2) (Lib.hid HSub) (Lib.hid HAdd) (Lib.hid HC1) (Lib.hid HSg) (Lib.hid HC2) (Lib.hid HDv) (Lib.hid HMul) w hT hC
        · exact undoes_n1 _ _ _ _ _ _ _ _ (ne_T hnm) hz (Lib.hid HR1) (Lib.hid HR2) (Lib.hid HSub) (Lib.hid HAdd) (Lib.hid HC1) (Lib.hid HSg) (Lib.hid HC2) (Lib.hid HDv) (Lib.hid HMul) w hT hC
      · rw [g1] at HC1 HSg
        rw [g2] at HC2
        obtain ⟨rfl, rfl⟩ := hl.uniq hl' g
        exact undoes_z1 _ _ _ _ _ _ hz (Lib.hid HR1) (Lib.hid HR2) (Lib.hid HSub) (Lib.hid HAdd) (Lib.hid HC1) (Lib.hid HSg) (Lib.hid HC2) (Lib.hid HDv) (Lib.hid HMul) w hT hC
      · rw [g1] at HC1 HSg
        rw [g2] at HC2
        by_cases hnm : n = m
        · have hde' : d ≠ e := fun hh => by rw [hnm, hh] at g; omega
          subst hnm
          exact undoes_pr1 _ _ _ _ _ _ _ (ne_T hde') hz (Lib.hid HR1) (Lib.hid HR2) (Lib.hid HSub) (Lib.hid HAdd) (Lib.hid HC1) (Lib.hid HSg) (Lib.hid HC2) (Lib.hid HDv) (Lib.hid HMul) w hT hC
        · exact undoes_p1 _ _ _ _ _ _ _ _ (ne_T hnm) hz (Lib.hid HR1) (Lib.hid HR2) (Lib.hid HSub) (Lib.hid HAdd) (Lib.hid HC1) (Lib.hid HSg) (Lib.hid HC2) (Lib.hid HDv) (Lib.hid HMul) w hT hC
end Go.Proofs.YtolkiimlchfmlaaGreatDoor

namespace Go.Proofs.YtolkiimlchfmlaaGreatDoor
open Go.RowKit Go.Proofs.Num

theorem index_slash : ∀ (a b : List UInt8), (∀ c ∈ a, c ≠ 47) → Lib.index (a ++ 47 :: b) [47] = a.length
  | [], b, _ => by simp [Lib.index, List.isPrefixOf]
  | c :: a, b, h => by
    have h1 : c ≠ 47 := h c (by simp)
    have ih := index_slash a b (fun x hx => h x (by simp [hx]))
    rw [List.cons_append, Lib.index]
    rw [ih]
    simp [List.isPrefixOf, Ne.symm h1]

theorem index_noslash : ∀ (a : List UInt8), (∀ c ∈ a, c ≠ 47) → Lib.index a [47] = -1
  | [], _ => by simp [Lib.index]
  | c :: a, h => by
    have h1 : c ≠ 47 := h c (by simp)
    have ih := index_noslash a (fun x hx => h x (by simp [hx]))
    rw [Lib.index, ih]
    simp [List.isPrefixOf, Ne.symm h1]

theorem noslash_T (z : Int) : ∀ c ∈ (T z).data.toList, c ≠ 47 := by
  rw [T_data]
  intro c hc
  have hd := (decDigits_facts z.natAbs).2.1
  unfold Lib.itoa at hc
  have key : ∀ n : Nat, (∀ c ∈ Lib.decDigits n, isDig c = true) → c ∈ Lib.decDigits n → c ≠ 47 := by
    intro n h hm e
    have := h c hm
    rw [e] at this
    exact absurd this (by decide)
  split at hc
  · rcases List.mem_cons.1 hc with h | h
    · rw [h]; decide
    · exact key _ hd h
  · exact key _ (decDigits_facts z.toNat).2.1 hc

theorem fParseT {D : Nat} (n d : Int) (hn : Few D n) (hd : Few D d) (h1 : 1 ≤ D) (hD : D ≤ 1024) (hl : Low n d) (w : World) (hT : Tab w) (hC : CutT w) :
    Calls Tryz.prog 23 #[.string (FT n d)] w (FrE w (T n) (T d) 0) := by
  have hk := fcheck_T n d hn hd h1 hD hl
  have hz1 := T_size hn h1
  have hz2 := T_size hd h1
  have hc1 := hn.chk h1 hD
  have hc2 := hd.chk h1 hD
  by_cases hd1 : d = 1
  · unfold FT
    rw [if_pos hd1]
    refine fParse_ok (T n) (T n) ⟨#[]⟩ (T d) false (fun w hC => ?_) (fun w => ?_) (fun w hT => hk w hT) w hT hC
    · have h := fcut (T n) (by omega) w hC
      unfold Lib.cut at h
      rw [index_noslash _ (noslash_T n), if_neg (by omega)] at h
      exact h
    · exact fparts_ok _ _ _ false (by omega) (by decide) (by rw [hc1]; decide) (.inl ⟨rfl, by rw [hd1]; decide +kernel⟩) w
  · unfold FT
    rw [if_neg hd1]
    refine fParse_ok _ (T n) (T d) (T d) true (fun w hC => ?_) (fun w => ?_) (fun w hT => hk w hT) w hT hC
    · have hl : (T n ++ ⟨#[47]⟩ ++ T d).data.toList = (T n).data.toList ++ 47 :: (T d).data.toList := by simp [ByteArray.data_append]
      have h := fcut (T n ++ ⟨#[47]⟩ ++ T d) (by rw [ByteArray.size_append, ByteArray.size_append, show (⟨#[47]⟩ : ByteArray).size = 1 from rfl]; omega) w hC
      unfold Lib.cut at h
      rw [hl, index_slash _ _ (noslash_T n), if_pos (by omega)] at h
      have e1 : ((T n).data.toList ++ 47 :: (T d).data.toList).take ((((T n).data.toList.length : Nat) : Int)).toNat = (T n).data.toList := by rw [Int.toNat_natCast, List.take_left]
      have e2 : ((T n).data.toList ++ 47 :: (T d).data.toList).drop ((((T n).data.toList.length : Nat) : Int).toNat + [(47 : UInt8)].length) = (T d).data.toList := by
        rw [Int.toNat_natCast, ← List.drop_drop, List.drop_left]; rfl
      rw [e1, e2] at h
      exact h
    · exact fparts_ok _ _ _ true (by omega) (by omega) (by rw [hc1]; decide) (.inr ⟨rfl, by rw [T_one_eq, decide_eq_false hd1], by rw [hc2]; decide, rfl⟩) w
end Go.Proofs.YtolkiimlchfmlaaGreatDoor

namespace Go.Proofs.YtolkiimlchfmlaaGreatDoor
open Go.RowKit Go.Proofs.Num

set_option maxHeartbeats 6400000 in
set_option maxRecDepth 100000 in
theorem reads_0 (s r TT K1 X Y M P Q : ByteArray) (u : Int) (hu0 : 0 ≤ u) (hu1 : u ≤ 65535)
    (HR1 : Hid (∀ w, Calls Tryz.prog 40 #[FrV s r] w fun e w' => e = .returned (.bool true) ∧ Below w.heap.size w w'))
    (HTx : Hid (∀ w, Tab w → Calls Tryz.prog 16 #[FrV s r] w (OutE w TT 0)))
    (HPa : Hid (∀ w, Tab w → CutT w → Calls Tryz.prog 23 #[.string TT] w (FrE w s r 0)))
    (HOf : Hid (∀ w, Tab w → Calls Tryz.prog 46 #[.int .i64 (-1 - u)] w fun e w' => e = .returned (.string K1) ∧ Below w.heap.size w w'))
    (HMx : Hid (∀ w, Tab w → Calls Tryz.prog 47 #[.string s, .string K1] w fun e w' => e = .returned (.tuple #[.string X, .int .i64 0]) ∧ Below w.heap.size w w'))
    (HMy : Hid (∀ w, Tab w → Calls Tryz.prog 47 #[.string r, .string K1] w fun e w' => e = .returned (.tuple #[.string Y, .int .i64 0]) ∧ Below w.heap.size w w'))
    (HMk : Hid (∀ w, Tab w → Calls Tryz.prog 21 #[.string X, .string Y] w (FrE w s r 0)))
    (HFl : Hid (∀ w, Tab w → Calls Tryz.prog 14 #[FrV s r] w (OutE w M 0)))
    (HSb : Hid (∀ w, Tab w → Calls Tryz.prog 29 #[FrV s r, FrV M ⟨#[49]⟩] w (FrE w P Q 0)))
    (HCl : Hid (∀ w, Tab w → Calls Tryz.prog 35 #[FrV P Q, FrV ⟨#[48]⟩ ⟨#[49]⟩] w (IntOut w 0 0)))
    (HCh : Hid (∀ w, Tab w → Calls Tryz.prog 35 #[FrV P Q, FrV ⟨#[49]⟩ ⟨#[49]⟩] w (IntOut w (-1) 0)))
    (w : World) (hT : Tab w) (hC : CutT w) : Calls Tryz.prog 9 #[FrV s r, .int .u16 u] w fun e w' => e = .returned (.bool true) ∧ Below w.heap.size w w' := by
  have HT := Lib.hid hT
  have HC := Lib.hid hC
  have HA := Lib.hid fawake
  have HH := Lib.hid fhalf
  clear hT hC
  unfold FrE at HPa HMk HSb
  unfold IntOut at HCl HCh
  unfold OutE at HTx HFl
  unfold FrOut FrV at *
  go_enter Tryz.func9, Tryz.ntmps9
  obtain ⟨W0, hW0, hR1, hBl0, hsz0⟩ := box1T 24 w (.string s) (.string r)
  have HW0 := Lib.hid hW0
  have HK1 := Lib.hid hR1
  have hB0 : Below w.heap.size w W0 := hBl0
  clear hR1 hBl0 hW0
  clear hsz0
  have x10 := HK1.out.c0; have x11 := HK1.out.c1
  rw [HW0.out] at x10 x11
  go_wp2_with fail
  rw [← HW0.out]
  clear x10 x11
  refine (HR1.out _ ).mono ?_
  rintro en w1 ⟨rfl, hb1⟩
  have hB1 : Below w.heap.size w w1 := hB0.trans (hb1.mono hB0.size)
  have hM1 := HK1.out.keep hb1
  clear HK1
  have HK1 := Lib.hid hM1
  clear hM1
  clear hb1 hB0
  have x10 := HK1.out.c0; have x11 := HK1.out.c1
  go_wp2_with fail
  clear x10 x11
  refine (HTx.out _ (HT.out.keep hB1)).mono ?_
  rintro en w2 ⟨rfl, hb2⟩
  have hB2 : Below w.heap.size w w2 := hB1.trans (hb2.mono hB1.size)
  have hM1 := HK1.out.keep hb2
  clear HK1
  have HK1 := Lib.hid hM1
  clear hM1
  clear hb2 hB1
  go_wp2_with fail
  refine (HPa.out _ (HT.out.keep hB2) (HC.out.keep hB2)).mono ?_
  rintro en w3 ⟨rfl, hb3⟩
  have hB3 : Below w.heap.size w w3 := hB2.trans (hb3.mono hB2.size)
  have hM1 := HK1.out.keep hb3
  clear HK1
  have HK1 := Lib.hid hM1
  clear hM1
  clear hb3 hB2
  obtain ⟨W4, hW4, hR2, hBl4, hsz4⟩ := box1T 24 w3 (.string s) (.string r)
  have hB4 : Below w.heap.size w W4 := hB3.trans (hBl4.mono hB3.size)
  have HW4 := Lib.hid hW4
  have hM1 := HK1.out.keep hBl4
  clear HK1
  have HK1 := Lib.hid hM1
  clear hM1
  have HK2 := Lib.hid hR2
  clear hR2 hW4 hBl4 hsz4 hB3
  have x10 := HK1.out.c0; have x11 := HK1.out.c1
  have x20 := HK2.out.c0; have x21 := HK2.out.c1
  rw [HW4.out] at x10 x11 x20 x21
  go_wp2_with fail
  rw [← HW4.out]
  clear x10 x11 x20 x21
  refine (HOf.out _ (HT.out.keep hB4)).mono ?_
  rintro en w5 ⟨rfl, hb5⟩
  have hB5 : Below w.heap.size w w5 := hB4.trans (hb5.mono hB4.size)
  have hM1 := HK1.out.keep hb5
  have hM2 := HK2.out.keep hb5
  clear HK1 HK2
  have HK1 := Lib.hid hM1
  clear hM1
  have HK2 := Lib.hid hM2
  clear hM2
  clear hb5 hB4
  have x10 := HK1.out.c0; have x11 := HK1.out.c1
  go_wp2_with fail
  clear x10 x11
  refine (HMx.out _ (HT.out.keep hB5)).mono ?_
  rintro en w6 ⟨rfl, hb6⟩
  have hB6 : Below w.heap.size w w6 := hB5.trans (hb6.mono hB5.size)
  have hM1 := HK1.out.keep hb6
  have hM2 := HK2.out.keep hb6
  clear HK1 HK2
  have HK1 := Lib.hid hM1
  clear hM1
  have HK2 := Lib.hid hM2
  clear hM2
  clear hb6 hB5
  have x10 := HK1.out.c0; have x11 := HK1.out.c1
  go_wp2_with fail
  clear x10 x11
  refine (HMy.out _ (HT.out.keep hB6)).mono ?_
  rintro en w7 ⟨rfl, hb7⟩
  have hB7 : Below w.heap.size w w7 := hB6.trans (hb7.mono hB6.size)
  have hM1 := HK1.out.keep hb7
  have hM2 := HK2.out.keep hb7
  clear HK1 HK2
  have HK1 := Lib.hid hM1
  clear hM1
  have HK2 := Lib.hid hM2
  clear hM2
  clear hb7 hB6
  go_wp2_with fail
  refine (HMk.out _ (HT.out.keep hB7)).mono ?_
  rintro en w8 ⟨rfl, hb8⟩
  have hB8 : Below w.heap.size w w8 := hB7.trans (hb8.mono hB7.size)
  have hM1 := HK1.out.keep hb8
  have hM2 := HK2.out.keep hb8
  clear HK1 HK2
  have HK1 := Lib.hid hM1
  clear hM1
  have HK2 := Lib.hid hM2
  clear hM2
  clear hb8 hB7
  obtain ⟨W9, hW9, hR3, hBl9, hsz9⟩ := box1T 24 w8 (.string s) (.string r)
  have hB9 : Below w.heap.size w W9 := hB8.trans (hBl9.mono hB8.size)
  have HW9 := Lib.hid hW9
  have hM1 := HK1.out.keep hBl9
  have hM2 := HK2.out.keep hBl9
  clear HK1 HK2
  have HK1 := Lib.hid hM1
  clear hM1
  have HK2 := Lib.hid hM2
  clear hM2
  have HK3 := Lib.hid hR3
  clear hR3 hW9 hBl9 hsz9 hB8
  have x10 := HK1.out.c0; have x11 := HK1.out.c1
  have x30 := HK3.out.c0; have x31 := HK3.out.c1
  rw [HW9.out] at x10 x11 x30 x31
  go_wp2_with fail
  rw [← HW9.out]
  clear x10 x11 x30 x31
  refine (HFl.out _ (HT.out.keep hB9)).mono ?_
  rintro en w10 ⟨rfl, hb10⟩
  have hB10 : Below w.heap.size w w10 := hB9.trans (hb10.mono hB9.size)
  have hM1 := HK1.out.keep hb10
  have hM2 := HK2.out.keep hb10
  have hM3 := HK3.out.keep hb10
  clear HK1 HK2 HK3
  have HK1 := Lib.hid hM1
  clear hM1
  have HK2 := Lib.hid hM2
  clear hM2
  have HK3 := Lib.hid hM3
  clear hM3
  clear hb10 hB9
  go_wp2
  obtain ⟨V, hV⟩ : ∃ V, V = w10 := ⟨_, rfl⟩
  rw [← hV] at hB10 HK1 HK2 HK3 ⊢
  clear hV HK2 HK3
  have HBV := Lib.hid hB10
  clear hB10
  refine wp_region_late (S := fun u => Below V.heap.size V u) (X := []) (by kernel_rfl) ?_
  obtain ⟨V1, hV1⟩ : ∃ V1, V1 = V.drew := ⟨_, rfl⟩
  rw [← hV1]
  have hBV1 : Below V.heap.size V V1 := by rw [hV1]; exact (Below.refl _ _).drew
  clear hV1
  refine wpAnyL_take (i := 0) (v := .agg #[.string s, .string r]) rfl (by kernel_rfl) (by kernel_rfl) (by kernel_rfl) (by kernel_rfl) (by kernel_rfl) (fun _ _ _ h => h) hBV1 (Or.inl ⟨by rfl, fun u hu => ?_⟩) ?_
  · have t0 := (HK1.out.keep hu).c0; have t1 := (HK1.out.keep hu).c1
    go_simp
  try simp only [Act.put, List.setIfInBounds_toArray]
  refine wpAnyL_pure (i := 1) (v := .string M) rfl (by kernel_rfl) (by kernel_rfl) (by kernel_rfl) (fun _ _ _ h => h) (Or.inl ⟨by rfl, fun u _ => ?_⟩) ?_
  · go_simp
  try simp only [Act.put]
  refine wpAnyL_some (rs := [2, 7]) (by kernel_rfl) (by simp) (fun i hi => ?_)
  rcases (show i = 2 ∨ i = 7 by simpa using hi) with rfl | rfl
  · refine ⟨_, rfl, fun K hK => ?_⟩
    go_simp
    go_at_call 44
    refine (HH.out _ _ _).mono ?_
    rintro e x1 ⟨rfl, hbx1⟩
    have hBx1 : Below V.heap.size V x1 := hBV1.trans (hbx1.mono hBV1.size)
    show K _ _
    refine hK.out _ _ (fun _ => hBx1) ?_
    clear hK K
    try simp only [Act.put]
    refine wpAnyL_some (rs := [3, 7]) (by kernel_rfl) (by simp) (fun i hi => ?_)
    rcases (show i = 3 ∨ i = 7 by simpa using hi) with rfl | rfl
    · refine ⟨_, rfl, fun K hK => ?_⟩
      go_simp
      go_at_call 29
      refine (HSb.out _ (HT.out.keep (HBV.out.trans (hBx1.mono HBV.out.size)))).mono ?_
      rintro e x2 ⟨rfl, hbx2⟩
      have hBx2 : Below V.heap.size V x2 := hBx1.trans (hbx2.mono hBx1.size)
      show K _ _
      refine hK.out _ _ (fun _ => hBx2) ?_
      clear hK K
      try simp only [Act.put]
      refine wpAnyL_pure (i := 4) (v := .tuple #[.agg #[.string P, .string Q], .int .i64 0]) rfl (by kernel_rfl) (by kernel_rfl) (by kernel_rfl) (fun _ _ _ h => h) (Or.inl ⟨by rfl, fun u _ => ?_⟩) ?_
      · go_simp
      try simp only [Act.put]
      refine wpAnyL_pure (i := 5) (v := .agg #[.string P, .string Q]) rfl (by kernel_rfl) (by kernel_rfl) (by kernel_rfl) (fun _ _ _ h => h) (Or.inl ⟨by rfl, fun u _ => ?_⟩) ?_
      · go_simp
      try simp only [Act.put]
      refine wpAnyL_pure (i := 6) (v := .int .i64 0) rfl (by kernel_rfl) (by kernel_rfl) (by kernel_rfl) (fun _ _ _ h => h) (Or.inl ⟨by rfl, fun u _ => ?_⟩) ?_
      · go_simp
      try simp only [Act.put]
      refine wpAnyL_one (i := 7) (by kernel_rfl) rfl (fun K hK => ?_)
      go_simp
      obtain ⟨x3, hWx3, hRx3, hbx3, hszx3⟩ := box1T 24 x2 (.string ⟨#[]⟩) (.string ⟨#[]⟩)
      have hBx3 : Below V.heap.size V x3 := hBx2.trans (hbx3.mono hBx2.size)
      have hgex3 := hBx2.size
      refine hK.out _ _ (fun _ _ => by rw [← hWx3]; exact hBx3) ?_
      clear hK K
      rw [← hWx3]
      have HWx3 := Lib.hid hWx3
      clear hWx3
      try simp only [Act.put]
      have c0 := hRx3.c0; have c1 := hRx3.c1; have c2 := hRx3.f0 0; have c3 := hRx3.f0 1
      have hkey : Below V.heap.size V ((x3.setCell ⟨x2.heap.size, 0, none⟩ (.string P)).setCell ⟨x2.heap.size, 1, none⟩ (.string Q)) := (hBx3.setCell (by simpa using hgex3) _).setCell (by simpa using hgex3) _
      have hkb := (hRx3.set0 (.string P)).set1 (.string Q)
      refine wpAnyL_one (i := 8) (by kernel_rfl) rfl (fun K hK => ?_)
      go_simp
      refine hK.out _ _ (fun _ _ => hkey) ?_
      clear hK K c0 c1 c2 c3
      refine wpAnyL_pureD (i := 9) 8 (.int .i64 0) rfl rfl (by kernel_rfl) (by kernel_rfl) (by kernel_rfl) (fun _ _ _ h => h) (Or.inl ⟨by rfl, fun u _ => ?_⟩) ?_
      · go_simp
      try simp only [Act.put]
      refine wpAnyL_done (by kernel_rfl) ?_ _
      try dsimp only [Act.put]
      try simp only [List.setIfInBounds_toArray, List.set_cons_zero, List.set_cons_succ]
      obtain ⟨u, hu⟩ : ∃ u, u = ((x3.setCell ⟨x2.heap.size, 0, none⟩ (.string P)).setCell ⟨x2.heap.size, 1, none⟩ (.string Q)) := ⟨_, rfl⟩
      rw [← hu] at hkey hkb ⊢
      have hk1 := HK1.out.keep hkey
      have HE := Lib.hid (HBV.out.trans (hkey.mono HBV.out.size))
      have HK1' := Lib.hid hk1
      have HK4 := Lib.hid hkb
      clear hkey hkb hk1 hu HK1
      have HK1 := HK1'
      clear HK1'
      have H4 : Hid (∀ y, Below u.heap.size u y → (Below u.heap.size u y ∧ y.cell? ⟨x2.heap.size, 0, none⟩ = some (.string P) ∧ y.cell? ⟨x2.heap.size, 1, none⟩ = some (.string Q))) := fun y hy => ⟨hy, (HK4.out.keep hy).c0, (HK4.out.keep hy).c1⟩
      try clear hszx1
      try clear hszx2
      try clear hszx3
      go_wp2
      have hu0 : Below u.heap.size u u := Below.refl _ _
      have hu1 : Below u.heap.size u u.drew := hu0.drew
      obtain ⟨_, d0, d1⟩ := H4.out _ hu1
      obtain ⟨_, f0, f1⟩ := H4.out _ hu0
      go_region_held3 (fun y => Below u.heap.size u y ∧ y.cell? ⟨x2.heap.size, 0, none⟩ = some (.string P) ∧ y.cell? ⟨x2.heap.size, 1, none⟩ = some (.string Q))
        (first | exact H4.out _ (by assumption) | exact H4.out _ (Below.drew (by assumption)))
        (first | (go_at_call 44; refine (HH.out _ _ _).mono ?_; rintro en wz ⟨rfl, hbz⟩; have hk2 := stepW (W := u) (by assumption) hbz; obtain ⟨_, g1, g2⟩ := H4.out _ hk2) | (go_at_call 35; refine (HCl.out _ (HT.out.keep (stepW' (W := u) HE.out (by assumption)))).mono ?_; rintro en wz ⟨rfl, hbz⟩; have hk2 := stepW (W := u) (by assumption) hbz; obtain ⟨_, g1, g2⟩ := H4.out _ hk2))
      clear d0 d1 f0 f1 hu0 hu1
      go_wp2
      have hz1 : Below u.heap.size u wz.drew := Below.drew hk2
      obtain ⟨_, d0, d1⟩ := H4.out _ hz1
      go_region_held3 (fun y => Below u.heap.size u y ∧ y.cell? ⟨x2.heap.size, 0, none⟩ = some (.string P) ∧ y.cell? ⟨x2.heap.size, 1, none⟩ = some (.string Q))
        (first | exact H4.out _ (by assumption) | exact H4.out _ (Below.drew (by assumption)))
        (first | (go_at_call 44; refine (HH.out _ _ _).mono ?_; rintro en wy ⟨rfl, hbz⟩; have hk3 := stepW (W := u) (by assumption) hbz; obtain ⟨_, g1, g2⟩ := H4.out _ hk3) | (go_at_call 35; refine (HCh.out _ (HT.out.keep (stepW' (W := u) HE.out (by assumption)))).mono ?_; rintro en wy ⟨rfl, hbz⟩; have hk3 := stepW (W := u) (by assumption) hbz; obtain ⟨_, g1, g2⟩ := H4.out _ hk3))
      clear d0 d1 hz1
      have hfin := stepW' HE.out hk3
      go_wp2_with fail
      refine (HA.out _ (HT.out.keep hfin) (HC.out.keep hfin)).mono ?_
      rintro en wf ⟨rfl, hbf⟩
      go_wp2
      go_ret
      exact ⟨rfl, hfin.trans (hbf.mono hfin.size)⟩

    · refine ⟨_, rfl, fun K hK => ?_⟩
      go_simp
      obtain ⟨x2, hWx2, hRx2, hbx2, hszx2⟩ := box1T 24 x1 (.string ⟨#[]⟩) (.string ⟨#[]⟩)
      have hBx2 : Below V.heap.size V x2 := hBx1.trans (hbx2.mono hBx1.size)
      have hgex2 := hBx1.size
      refine hK.out _ _ (fun _ => by rw [← hWx2]; exact hBx2) ?_
      clear hK K
      rw [← hWx2]
      have HWx2 := Lib.hid hWx2
      clear hWx2
      try simp only [Act.put]
      refine wpAnyL_one (i := 3) (by kernel_rfl) rfl (fun K hK => ?_)
      go_simp
      go_at_call 29
      refine (HSb.out _ (HT.out.keep (HBV.out.trans (hBx2.mono HBV.out.size)))).mono ?_
      rintro e x3 ⟨rfl, hbx3⟩
      have hBx3 : Below V.heap.size V x3 := hBx2.trans (hbx3.mono hBx2.size)
      show K _ _
      refine hK.out _ _ (fun _ _ => hBx3) ?_
      clear hK K
      try simp only [Act.put]
      refine wpAnyL_pure (i := 4) (v := .tuple #[.agg #[.string P, .string Q], .int .i64 0]) rfl (by kernel_rfl) (by kernel_rfl) (by kernel_rfl) (fun _ _ _ h => h) (Or.inl ⟨by rfl, fun u _ => ?_⟩) ?_
      · go_simp
      try simp only [Act.put]
      refine wpAnyL_pure (i := 5) (v := .agg #[.string P, .string Q]) rfl (by kernel_rfl) (by kernel_rfl) (by kernel_rfl) (fun _ _ _ h => h) (Or.inl ⟨by rfl, fun u _ => ?_⟩) ?_
      · go_simp
      try simp only [Act.put]
      refine wpAnyL_pure (i := 6) (v := .int .i64 0) rfl (by kernel_rfl) (by kernel_rfl) (by kernel_rfl) (fun _ _ _ h => h) (Or.inl ⟨by rfl, fun u _ => ?_⟩) ?_
      · go_simp
      try simp only [Act.put]
      have hRy := hRx2.keep hbx3
      have c0 := hRy.c0; have c1 := hRy.c1; have c2 := hRy.f0 0; have c3 := hRy.f0 1
      have hkey : Below V.heap.size V ((x3.setCell ⟨x1.heap.size, 0, none⟩ (.string P)).setCell ⟨x1.heap.size, 1, none⟩ (.string Q)) := (hBx3.setCell (by simpa using hgex2) _).setCell (by simpa using hgex2) _
      have hkb := (hRy.set0 (.string P)).set1 (.string Q)
      refine wpAnyL_one (i := 8) (by kernel_rfl) rfl (fun K hK => ?_)
      go_simp
      refine hK.out _ _ (fun _ _ => hkey) ?_
      clear hK K c0 c1 c2 c3
      refine wpAnyL_pureD (i := 9) 8 (.int .i64 0) rfl rfl (by kernel_rfl) (by kernel_rfl) (by kernel_rfl) (fun _ _ _ h => h) (Or.inl ⟨by rfl, fun u _ => ?_⟩) ?_
      · go_simp
      try simp only [Act.put]
      refine wpAnyL_done (by kernel_rfl) ?_ _
      try dsimp only [Act.put]
      try simp only [List.setIfInBounds_toArray, List.set_cons_zero, List.set_cons_succ]
      obtain ⟨u, hu⟩ : ∃ u, u = ((x3.setCell ⟨x1.heap.size, 0, none⟩ (.string P)).setCell ⟨x1.heap.size, 1, none⟩ (.string Q)) := ⟨_, rfl⟩
      rw [← hu] at hkey hkb ⊢
      have hk1 := HK1.out.keep hkey
      have HE := Lib.hid (HBV.out.trans (hkey.mono HBV.out.size))
      have HK1' := Lib.hid hk1
      have HK4 := Lib.hid hkb
      clear hkey hkb hk1 hu HK1
      have HK1 := HK1'
      clear HK1'
      have H4 : Hid (∀ y, Below u.heap.size u y → (Below u.heap.size u y ∧ y.cell? ⟨x1.heap.size, 0, none⟩ = some (.string P) ∧ y.cell? ⟨x1.heap.size, 1, none⟩ = some (.string Q))) := fun y hy => ⟨hy, (HK4.out.keep hy).c0, (HK4.out.keep hy).c1⟩
      try clear hszx1
      try clear hszx2
      try clear hszx3
      go_wp2
      have hu0 : Below u.heap.size u u := Below.refl _ _
      have hu1 : Below u.heap.size u u.drew := hu0.drew
      obtain ⟨_, d0, d1⟩ := H4.out _ hu1
      obtain ⟨_, f0, f1⟩ := H4.out _ hu0
      go_region_held3 (fun y => Below u.heap.size u y ∧ y.cell? ⟨x1.heap.size, 0, none⟩ = some (.string P) ∧ y.cell? ⟨x1.heap.size, 1, none⟩ = some (.string Q))
        (first | exact H4.out _ (by assumption) | exact H4.out _ (Below.drew (by assumption)))
        (first | (go_at_call 44; refine (HH.out _ _ _).mono ?_; rintro en wz ⟨rfl, hbz⟩; have hk2 := stepW (W := u) (by assumption) hbz; obtain ⟨_, g1, g2⟩ := H4.out _ hk2) | (go_at_call 35; refine (HCl.out _ (HT.out.keep (stepW' (W := u) HE.out (by assumption)))).mono ?_; rintro en wz ⟨rfl, hbz⟩; have hk2 := stepW (W := u) (by assumption) hbz; obtain ⟨_, g1, g2⟩ := H4.out _ hk2))
      clear d0 d1 f0 f1 hu0 hu1
      go_wp2
      have hz1 : Below u.heap.size u wz.drew := Below.drew hk2
      obtain ⟨_, d0, d1⟩ := H4.out _ hz1
      go_region_held3 (fun y => Below u.heap.size u y ∧ y.cell? ⟨x1.heap.size, 0, none⟩ = some (.string P) ∧ y.cell? ⟨x1.heap.size, 1, none⟩ = some (.string Q))
        (first | exact H4.out _ (by assumption) | exact H4.out _ (Below.drew (by assumption)))
        (first | (go_at_call 44; refine (HH.out _ _ _).mono ?_; rintro en wy ⟨rfl, hbz⟩; have hk3 := stepW (W := u) (by assumption) hbz; obtain ⟨_, g1, g2⟩ := H4.out _ hk3) | (go_at_call 35; refine (HCh.out _ (HT.out.keep (stepW' (W := u) HE.out (by assumption)))).mono ?_; rintro en wy ⟨rfl, hbz⟩; have hk3 := stepW (W := u) (by assumption) hbz; obtain ⟨_, g1, g2⟩ := H4.out _ hk3))
      clear d0 d1 hz1
      have hfin := stepW' HE.out hk3
      go_wp2_with fail
      refine (HA.out _ (HT.out.keep hfin) (HC.out.keep hfin)).mono ?_
      rintro en wf ⟨rfl, hbf⟩
      go_wp2
      go_ret
      exact ⟨rfl, hfin.trans (hbf.mono hfin.size)⟩

  · refine ⟨_, rfl, fun K hK => ?_⟩
    go_simp
    obtain ⟨x1, hWx1, hRx1, hbx1, hszx1⟩ := box1T 24 V1 (.string ⟨#[]⟩) (.string ⟨#[]⟩)
    have hBx1 : Below V.heap.size V x1 := hBV1.trans (hbx1.mono hBV1.size)
    have hgex1 := hBV1.size
    refine hK.out _ _ (fun _ => by rw [← hWx1]; exact hBx1) ?_
    clear hK K
    rw [← hWx1]
    have HWx1 := Lib.hid hWx1
    clear hWx1
    try simp only [Act.put]
    refine wpAnyL_one (i := 2) (by kernel_rfl) rfl (fun K hK => ?_)
    go_simp
    go_at_call 44
    refine (HH.out _ _ _).mono ?_
    rintro e x2 ⟨rfl, hbx2⟩
    have hBx2 : Below V.heap.size V x2 := hBx1.trans (hbx2.mono hBx1.size)
    show K _ _
    refine hK.out _ _ (fun _ _ => hBx2) ?_
    clear hK K
    try simp only [Act.put]
    refine wpAnyL_one (i := 3) (by kernel_rfl) rfl (fun K hK => ?_)
    go_simp
    go_at_call 29
    refine (HSb.out _ (HT.out.keep (HBV.out.trans (hBx2.mono HBV.out.size)))).mono ?_
    rintro e x3 ⟨rfl, hbx3⟩
    have hBx3 : Below V.heap.size V x3 := hBx2.trans (hbx3.mono hBx2.size)
    show K _ _
    refine hK.out _ _ (fun _ _ => hBx3) ?_
    clear hK K
    try simp only [Act.put]
    refine wpAnyL_pure (i := 4) (v := .tuple #[.agg #[.string P, .string Q], .int .i64 0]) rfl (by kernel_rfl) (by kernel_rfl) (by kernel_rfl) (fun _ _ _ h => h) (Or.inl ⟨by rfl, fun u _ => ?_⟩) ?_
    · go_simp
    try simp only [Act.put]
    refine wpAnyL_pure (i := 5) (v := .agg #[.string P, .string Q]) rfl (by kernel_rfl) (by kernel_rfl) (by kernel_rfl) (fun _ _ _ h => h) (Or.inl ⟨by rfl, fun u _ => ?_⟩) ?_
    · go_simp
    try simp only [Act.put]
    refine wpAnyL_pure (i := 6) (v := .int .i64 0) rfl (by kernel_rfl) (by kernel_rfl) (by kernel_rfl) (fun _ _ _ h => h) (Or.inl ⟨by rfl, fun u _ => ?_⟩) ?_
    · go_simp
    try simp only [Act.put]
    have hRy := (hRx1.keep hbx2).keep hbx3
    have c0 := hRy.c0; have c1 := hRy.c1; have c2 := hRy.f0 0; have c3 := hRy.f0 1
    have hkey : Below V.heap.size V ((x3.setCell ⟨V1.heap.size, 0, none⟩ (.string P)).setCell ⟨V1.heap.size, 1, none⟩ (.string Q)) := (hBx3.setCell (by simpa using hgex1) _).setCell (by simpa using hgex1) _
    have hkb := (hRy.set0 (.string P)).set1 (.string Q)
    refine wpAnyL_one (i := 8) (by kernel_rfl) rfl (fun K hK => ?_)
    go_simp
    refine hK.out _ _ (fun _ _ => hkey) ?_
    clear hK K c0 c1 c2 c3
    refine wpAnyL_pureD (i := 9) 8 (.int .i64 0) rfl rfl (by kernel_rfl) (by kernel_rfl) (by kernel_rfl) (fun _ _ _ h => h) (Or.inl ⟨by rfl, fun u _ => ?_⟩) ?_
    · go_simp
    try simp only [Act.put]
    refine wpAnyL_done (by kernel_rfl) ?_ _
    try dsimp only [Act.put]
    try simp only [List.setIfInBounds_toArray, List.set_cons_zero, List.set_cons_succ]
    obtain ⟨u, hu⟩ : ∃ u, u = ((x3.setCell ⟨V1.heap.size, 0, none⟩ (.string P)).setCell ⟨V1.heap.size, 1, none⟩ (.string Q)) := ⟨_, rfl⟩
    rw [← hu] at hkey hkb ⊢
    have hk1 := HK1.out.keep hkey
    have HE := Lib.hid (HBV.out.trans (hkey.mono HBV.out.size))
    have HK1' := Lib.hid hk1
    have HK4 := Lib.hid hkb
    clear hkey hkb hk1 hu HK1
    have HK1 := HK1'
    clear HK1'
    have H4 : Hid (∀ y, Below u.heap.size u y → (Below u.heap.size u y ∧ y.cell? ⟨V1.heap.size, 0, none⟩ = some (.string P) ∧ y.cell? ⟨V1.heap.size, 1, none⟩ = some (.string Q))) := fun y hy => ⟨hy, (HK4.out.keep hy).c0, (HK4.out.keep hy).c1⟩
    try clear hszx1
    try clear hszx2
    try clear hszx3
    go_wp2
    have hu0 : Below u.heap.size u u := Below.refl _ _
    have hu1 : Below u.heap.size u u.drew := hu0.drew
    obtain ⟨_, d0, d1⟩ := H4.out _ hu1
    obtain ⟨_, f0, f1⟩ := H4.out _ hu0
    go_region_held3 (fun y => Below u.heap.size u y ∧ y.cell? ⟨V1.heap.size, 0, none⟩ = some (.string P) ∧ y.cell? ⟨V1.heap.size, 1, none⟩ = some (.string Q))
      (first | exact H4.out _ (by assumption) | exact H4.out _ (Below.drew (by assumption)))
      (first | (go_at_call 44; refine (HH.out _ _ _).mono ?_; rintro en wz ⟨rfl, hbz⟩; have hk2 := stepW (W := u) (by assumption) hbz; obtain ⟨_, g1, g2⟩ := H4.out _ hk2) | (go_at_call 35; refine (HCl.out _ (HT.out.keep (stepW' (W := u) HE.out (by assumption)))).mono ?_; rintro en wz ⟨rfl, hbz⟩; have hk2 := stepW (W := u) (by assumption) hbz; obtain ⟨_, g1, g2⟩ := H4.out _ hk2))
    clear d0 d1 f0 f1 hu0 hu1
    go_wp2
    have hz1 : Below u.heap.size u wz.drew := Below.drew hk2
    obtain ⟨_, d0, d1⟩ := H4.out _ hz1
    go_region_held3 (fun y => Below u.heap.size u y ∧ y.cell? ⟨V1.heap.size, 0, none⟩ = some (.string P) ∧ y.cell? ⟨V1.heap.size, 1, none⟩ = some (.string Q))
      (first | exact H4.out _ (by assumption) | exact H4.out _ (Below.drew (by assumption)))
      (first | (go_at_call 44; refine (HH.out _ _ _).mono ?_; rintro en wy ⟨rfl, hbz⟩; have hk3 := stepW (W := u) (by assumption) hbz; obtain ⟨_, g1, g2⟩ := H4.out _ hk3) | (go_at_call 35; refine (HCh.out _ (HT.out.keep (stepW' (W := u) HE.out (by assumption)))).mono ?_; rintro en wy ⟨rfl, hbz⟩; have hk3 := stepW (W := u) (by assumption) hbz; obtain ⟨_, g1, g2⟩ := H4.out _ hk3))
    clear d0 d1 hz1
    have hfin := stepW' HE.out hk3
    go_wp2_with fail
    refine (HA.out _ (HT.out.keep hfin) (HC.out.keep hfin)).mono ?_
    rintro en wf ⟨rfl, hbf⟩
    go_wp2
    go_ret
    exact ⟨rfl, hfin.trans (hbf.mono hfin.size)⟩


set_option maxHeartbeats 6400000 in
set_option maxRecDepth 100000 in
theorem reads_1 (s r TT K1 X Y M P Q : ByteArray) (u : Int) (hu0 : 0 ≤ u) (hu1 : u ≤ 65535)
    (HR1 : Hid (∀ w, Calls Tryz.prog 40 #[FrV s r] w fun e w' => e = .returned (.bool true) ∧ Below w.heap.size w w'))
    (HTx : Hid (∀ w, Tab w → Calls Tryz.prog 16 #[FrV s r] w (OutE w TT 0)))
    (HPa : Hid (∀ w, Tab w → CutT w → Calls Tryz.prog 23 #[.string TT] w (FrE w s r 0)))
    (HOf : Hid (∀ w, Tab w → Calls Tryz.prog 46 #[.int .i64 (-1 - u)] w fun e w' => e = .returned (.string K1) ∧ Below w.heap.size w w'))
    (HMx : Hid (∀ w, Tab w → Calls Tryz.prog 47 #[.string s, .string K1] w fun e w' => e = .returned (.tuple #[.string X, .int .i64 0]) ∧ Below w.heap.size w w'))
    (HMy : Hid (∀ w, Tab w → Calls Tryz.prog 47 #[.string r, .string K1] w fun e w' => e = .returned (.tuple #[.string Y, .int .i64 0]) ∧ Below w.heap.size w w'))
    (HMk : Hid (∀ w, Tab w → Calls Tryz.prog 21 #[.string X, .string Y] w (FrE w s r 0)))
    (HFl : Hid (∀ w, Tab w → Calls Tryz.prog 14 #[FrV s r] w (OutE w M 0)))
    (HSb : Hid (∀ w, Tab w → Calls Tryz.prog 29 #[FrV s r, FrV M ⟨#[49]⟩] w (FrE w P Q 0)))
    (HCl : Hid (∀ w, Tab w → Calls Tryz.prog 35 #[FrV P Q, FrV ⟨#[48]⟩ ⟨#[49]⟩] w (IntOut w 1 0)))
    (HCh : Hid (∀ w, Tab w → Calls Tryz.prog 35 #[FrV P Q, FrV ⟨#[49]⟩ ⟨#[49]⟩] w (IntOut w (-1) 0)))
    (w : World) (hT : Tab w) (hC : CutT w) : Calls Tryz.prog 9 #[FrV s r, .int .u16 u] w fun e w' => e = .returned (.bool true) ∧ Below w.heap.size w w' := by
  have HT := Lib.hid hT
  have HC := Lib.hid hC
  have HA := Lib.hid fawake
  have HH := Lib.hid fhalf
  clear hT hC
  unfold FrE at HPa HMk HSb
  unfold IntOut at HCl HCh
  unfold OutE at HTx HFl
  unfold FrOut FrV at *
  go_enter Tryz.func9, Tryz.ntmps9
  obtain ⟨W0, hW0, hR1, hBl0, hsz0⟩ := box1T 24 w (.string s) (.string r)
  have HW0 := Lib.hid hW0
  have HK1 := Lib.hid hR1
  have hB0 : Below w.heap.size w W0 := hBl0
  clear hR1 hBl0 hW0
  clear hsz0
  have x10 := HK1.out.c0; have x11 := HK1.out.c1
  rw [HW0.out] at x10 x11
  go_wp2_with fail
  rw [← HW0.out]
  clear x10 x11
  refine (HR1.out _ ).mono ?_
  rintro en w1 ⟨rfl, hb1⟩
  have hB1 : Below w.heap.size w w1 := hB0.trans (hb1.mono hB0.size)
  have hM1 := HK1.out.keep hb1
  clear HK1
  have HK1 := Lib.hid hM1
  clear hM1
  clear hb1 hB0
  have x10 := HK1.out.c0; have x11 := HK1.out.c1
  go_wp2_with fail
  clear x10 x11
  refine (HTx.out _ (HT.out.keep hB1)).mono ?_
  rintro en w2 ⟨rfl, hb2⟩
  have hB2 : Below w.heap.size w w2 := hB1.trans (hb2.mono hB1.size)
  have hM1 := HK1.out.keep hb2
  clear HK1
  have HK1 := Lib.hid hM1
  clear hM1
  clear hb2 hB1
  go_wp2_with fail
  refine (HPa.out _ (HT.out.keep hB2) (HC.out.keep hB2)).mono ?_
  rintro en w3 ⟨rfl, hb3⟩
  have hB3 : Below w.heap.size w w3 := hB2.trans (hb3.mono hB2.size)
  have hM1 := HK1.out.keep hb3
  clear HK1
  have HK1 := Lib.hid hM1
  clear hM1
  clear hb3 hB2
  obtain ⟨W4, hW4, hR2, hBl4, hsz4⟩ := box1T 24 w3 (.string s) (.string r)
  have hB4 : Below w.heap.size w W4 := hB3.trans (hBl4.mono hB3.size)
  have HW4 := Lib.hid hW4
  have hM1 := HK1.out.keep hBl4
  clear HK1
  have HK1 := Lib.hid hM1
  clear hM1
  have HK2 := Lib.hid hR2
  clear hR2 hW4 hBl4 hsz4 hB3
  have x10 := HK1.out.c0; have x11 := HK1.out.c1
  have x20 := HK2.out.c0; have x21 := HK2.out.c1
  rw [HW4.out] at x10 x11 x20 x21
  go_wp2_with fail
  rw [← HW4.out]
  clear x10 x11 x20 x21
  refine (HOf.out _ (HT.out.keep hB4)).mono ?_
  rintro en w5 ⟨rfl, hb5⟩
  have hB5 : Below w.heap.size w w5 := hB4.trans (hb5.mono hB4.size)
  have hM1 := HK1.out.keep hb5
  have hM2 := HK2.out.keep hb5
  clear HK1 HK2
  have HK1 := Lib.hid hM1
  clear hM1
  have HK2 := Lib.hid hM2
  clear hM2
  clear hb5 hB4
  have x10 := HK1.out.c0; have x11 := HK1.out.c1
  go_wp2_with fail
  clear x10 x11
  refine (HMx.out _ (HT.out.keep hB5)).mono ?_
  rintro en w6 ⟨rfl, hb6⟩
  have hB6 : Below w.heap.size w w6 := hB5.trans (hb6.mono hB5.size)
  have hM1 := HK1.out.keep hb6
  have hM2 := HK2.out.keep hb6
  clear HK1 HK2
  have HK1 := Lib.hid hM1
  clear hM1
  have HK2 := Lib.hid hM2
  clear hM2
  clear hb6 hB5
  have x10 := HK1.out.c0; have x11 := HK1.out.c1
  go_wp2_with fail
  clear x10 x11
  refine (HMy.out _ (HT.out.keep hB6)).mono ?_
  rintro en w7 ⟨rfl, hb7⟩
  have hB7 : Below w.heap.size w w7 := hB6.trans (hb7.mono hB6.size)
  have hM1 := HK1.out.keep hb7
  have hM2 := HK2.out.keep hb7
  clear HK1 HK2
  have HK1 := Lib.hid hM1
  clear hM1
  have HK2 := Lib.hid hM2
  clear hM2
  clear hb7 hB6
  go_wp2_with fail
  refine (HMk.out _ (HT.out.keep hB7)).mono ?_
  rintro en w8 ⟨rfl, hb8⟩
  have hB8 : Below w.heap.size w w8 := hB7.trans (hb8.mono hB7.size)
  have hM1 := HK1.out.keep hb8
  have hM2 := HK2.out.keep hb8
  clear HK1 HK2
  have HK1 := Lib.hid hM1
  clear hM1
  have HK2 := Lib.hid hM2
  clear hM2
  clear hb8 hB7
  obtain ⟨W9, hW9, hR3, hBl9, hsz9⟩ := box1T 24 w8 (.string s) (.string r)
  have hB9 : Below w.heap.size w W9 := hB8.trans (hBl9.mono hB8.size)
  have HW9 := Lib.hid hW9
  have hM1 := HK1.out.keep hBl9
  have hM2 := HK2.out.keep hBl9
  clear HK1 HK2
  have HK1 := Lib.hid hM1
  clear hM1
  have HK2 := Lib.hid hM2
  clear hM2
  have HK3 := Lib.hid hR3
  clear hR3 hW9 hBl9 hsz9 hB8
  have x10 := HK1.out.c0; have x11 := HK1.out.c1
  have x30 := HK3.out.c0; have x31 := HK3.out.c1
  rw [HW9.out] at x10 x11 x30 x31
  go_wp2_with fail
  rw [← HW9.out]
  clear x10 x11 x30 x31
  refine (HFl.out _ (HT.out.keep hB9)).mono ?_
  rintro en w10 ⟨rfl, hb10⟩
  have hB10 : Below w.heap.size w w10 := hB9.trans (hb10.mono hB9.size)
  have hM1 := HK1.out.keep hb10
  have hM2 := HK2.out.keep hb10
  have hM3 := HK3.out.keep hb10
  clear HK1 HK2 HK3
  have HK1 := Lib.hid hM1
  clear hM1
  have HK2 := Lib.hid hM2
  clear hM2
  have HK3 := Lib.hid hM3
  clear hM3
  clear hb10 hB9
  go_wp2
  obtain ⟨V, hV⟩ : ∃ V, V = w10 := ⟨_, rfl⟩
  rw [← hV] at hB10 HK1 HK2 HK3 ⊢
  clear hV HK2 HK3
  have HBV := Lib.hid hB10
  clear hB10
  refine wp_region_late (S := fun u => Below V.heap.size V u) (X := []) (by kernel_rfl) ?_
  obtain ⟨V1, hV1⟩ : ∃ V1, V1 = V.drew := ⟨_, rfl⟩
  rw [← hV1]
  have hBV1 : Below V.heap.size V V1 := by rw [hV1]; exact (Below.refl _ _).drew
  clear hV1
  refine wpAnyL_take (i := 0) (v := .agg #[.string s, .string r]) rfl (by kernel_rfl) (by kernel_rfl) (by kernel_rfl) (by kernel_rfl) (by kernel_rfl) (fun _ _ _ h => h) hBV1 (Or.inl ⟨by rfl, fun u hu => ?_⟩) ?_
  · have t0 := (HK1.out.keep hu).c0; have t1 := (HK1.out.keep hu).c1
    go_simp
  try simp only [Act.put, List.setIfInBounds_toArray]
  refine wpAnyL_pure (i := 1) (v := .string M) rfl (by kernel_rfl) (by kernel_rfl) (by kernel_rfl) (fun _ _ _ h => h) (Or.inl ⟨by rfl, fun u _ => ?_⟩) ?_
  · go_simp
  try simp only [Act.put]
  refine wpAnyL_some (rs := [2, 7]) (by kernel_rfl) (by simp) (fun i hi => ?_)
  rcases (show i = 2 ∨ i = 7 by simpa using hi) with rfl | rfl
  · refine ⟨_, rfl, fun K hK => ?_⟩
    go_simp
    go_at_call 44
    refine (HH.out _ _ _).mono ?_
    rintro e x1 ⟨rfl, hbx1⟩
    have hBx1 : Below V.heap.size V x1 := hBV1.trans (hbx1.mono hBV1.size)
    show K _ _
    refine hK.out _ _ (fun _ => hBx1) ?_
    clear hK K
    try simp only [Act.put]
    refine wpAnyL_some (rs := [3, 7]) (by kernel_rfl) (by simp) (fun i hi => ?_)
    rcases (show i = 3 ∨ i = 7 by simpa using hi) with rfl | rfl
    · refine ⟨_, rfl, fun K hK => ?_⟩
      go_simp
      go_at_call 29
      refine (HSb.out _ (HT.out.keep (HBV.out.trans (hBx1.mono HBV.out.size)))).mono ?_
      rintro e x2 ⟨rfl, hbx2⟩
      have hBx2 : Below V.heap.size V x2 := hBx1.trans (hbx2.mono hBx1.size)
      show K _ _
      refine hK.out _ _ (fun _ => hBx2) ?_
      clear hK K
      try simp only [Act.put]
      refine wpAnyL_pure (i := 4) (v := .tuple #[.agg #[.string P, .string Q], .int .i64 0]) rfl (by kernel_rfl) (by kernel_rfl) (by kernel_rfl) (fun _ _ _ h => h) (Or.inl ⟨by rfl, fun u _ => ?_⟩) ?_
      · go_simp
      try simp only [Act.put]
      refine wpAnyL_pure (i := 5) (v := .agg #[.string P, .string Q]) rfl (by kernel_rfl) (by kernel_rfl) (by kernel_rfl) (fun _ _ _ h => h) (Or.inl ⟨by rfl, fun u _ => ?_⟩) ?_
      · go_simp
      try simp only [Act.put]
      refine wpAnyL_pure (i := 6) (v := .int .i64 0) rfl (by kernel_rfl) (by kernel_rfl) (by kernel_rfl) (fun _ _ _ h => h) (Or.inl ⟨by rfl, fun u _ => ?_⟩) ?_
      · go_simp
      try simp only [Act.put]
      refine wpAnyL_one (i := 7) (by kernel_rfl) rfl (fun K hK => ?_)
      go_simp
      obtain ⟨x3, hWx3, hRx3, hbx3, hszx3⟩ := box1T 24 x2 (.string ⟨#[]⟩) (.string ⟨#[]⟩)
      have hBx3 : Below V.heap.size V x3 := hBx2.trans (hbx3.mono hBx2.size)
      have hgex3 := hBx2.size
      refine hK.out _ _ (fun _ _ => by rw [← hWx3]; exact hBx3) ?_
      clear hK K
      rw [← hWx3]
      have HWx3 := Lib.hid hWx3
      clear hWx3
      try simp only [Act.put]
      have c0 := hRx3.c0; have c1 := hRx3.c1; have c2 := hRx3.f0 0; have c3 := hRx3.f0 1
      have hkey : Below V.heap.size V ((x3.setCell ⟨x2.heap.size, 0, none⟩ (.string P)).setCell ⟨x2.heap.size, 1, none⟩ (.string Q)) := (hBx3.setCell (by simpa using hgex3) _).setCell (by simpa using hgex3) _
      have hkb := (hRx3.set0 (.string P)).set1 (.string Q)
      refine wpAnyL_one (i := 8) (by kernel_rfl) rfl (fun K hK => ?_)
      go_simp
      refine hK.out _ _ (fun _ _ => hkey) ?_
      clear hK K c0 c1 c2 c3
      refine wpAnyL_pureD (i := 9) 8 (.int .i64 0) rfl rfl (by kernel_rfl) (by kernel_rfl) (by kernel_rfl) (fun _ _ _ h => h) (Or.inl ⟨by rfl, fun u _ => ?_⟩) ?_
      · go_simp
      try simp only [Act.put]
      refine wpAnyL_done (by kernel_rfl) ?_ _
      try dsimp only [Act.put]
      try simp only [List.setIfInBounds_toArray, List.set_cons_zero, List.set_cons_succ]
      obtain ⟨u, hu⟩ : ∃ u, u = ((x3.setCell ⟨x2.heap.size, 0, none⟩ (.string P)).setCell ⟨x2.heap.size, 1, none⟩ (.string Q)) := ⟨_, rfl⟩
      rw [← hu] at hkey hkb ⊢
      have hk1 := HK1.out.keep hkey
      have HE := Lib.hid (HBV.out.trans (hkey.mono HBV.out.size))
      have HK1' := Lib.hid hk1
      have HK4 := Lib.hid hkb
      clear hkey hkb hk1 hu HK1
      have HK1 := HK1'
      clear HK1'
      have H4 : Hid (∀ y, Below u.heap.size u y → (Below u.heap.size u y ∧ y.cell? ⟨x2.heap.size, 0, none⟩ = some (.string P) ∧ y.cell? ⟨x2.heap.size, 1, none⟩ = some (.string Q))) := fun y hy => ⟨hy, (HK4.out.keep hy).c0, (HK4.out.keep hy).c1⟩
      try clear hszx1
      try clear hszx2
      try clear hszx3
      go_wp2
      have hu0 : Below u.heap.size u u := Below.refl _ _
      have hu1 : Below u.heap.size u u.drew := hu0.drew
      obtain ⟨_, d0, d1⟩ := H4.out _ hu1
      obtain ⟨_, f0, f1⟩ := H4.out _ hu0
      go_region_held3 (fun y => Below u.heap.size u y ∧ y.cell? ⟨x2.heap.size, 0, none⟩ = some (.string P) ∧ y.cell? ⟨x2.heap.size, 1, none⟩ = some (.string Q))
        (first | exact H4.out _ (by assumption) | exact H4.out _ (Below.drew (by assumption)))
        (first | (go_at_call 44; refine (HH.out _ _ _).mono ?_; rintro en wz ⟨rfl, hbz⟩; have hk2 := stepW (W := u) (by assumption) hbz; obtain ⟨_, g1, g2⟩ := H4.out _ hk2) | (go_at_call 35; refine (HCl.out _ (HT.out.keep (stepW' (W := u) HE.out (by assumption)))).mono ?_; rintro en wz ⟨rfl, hbz⟩; have hk2 := stepW (W := u) (by assumption) hbz; obtain ⟨_, g1, g2⟩ := H4.out _ hk2))
      clear d0 d1 f0 f1 hu0 hu1
      go_wp2
      have hz1 : Below u.heap.size u wz.drew := Below.drew hk2
      obtain ⟨_, d0, d1⟩ := H4.out _ hz1
      go_region_held3 (fun y => Below u.heap.size u y ∧ y.cell? ⟨x2.heap.size, 0, none⟩ = some (.string P) ∧ y.cell? ⟨x2.heap.size, 1, none⟩ = some (.string Q))
        (first | exact H4.out _ (by assumption) | exact H4.out _ (Below.drew (by assumption)))
        (first | (go_at_call 44; refine (HH.out _ _ _).mono ?_; rintro en wy ⟨rfl, hbz⟩; have hk3 := stepW (W := u) (by assumption) hbz; obtain ⟨_, g1, g2⟩ := H4.out _ hk3) | (go_at_call 35; refine (HCh.out _ (HT.out.keep (stepW' (W := u) HE.out (by assumption)))).mono ?_; rintro en wy ⟨rfl, hbz⟩; have hk3 := stepW (W := u) (by assumption) hbz; obtain ⟨_, g1, g2⟩ := H4.out _ hk3))
      clear d0 d1 hz1
      have hfin := stepW' HE.out hk3
      go_wp2_with fail
      refine (HA.out _ (HT.out.keep hfin) (HC.out.keep hfin)).mono ?_
      rintro en wf ⟨rfl, hbf⟩
      go_wp2
      go_ret
      exact ⟨rfl, hfin.trans (hbf.mono hfin.size)⟩

    · refine ⟨_, rfl, fun K hK => ?_⟩
      go_simp
      obtain ⟨x2, hWx2, hRx2, hbx2, hszx2⟩ := box1T 24 x1 (.string ⟨#[]⟩) (.string ⟨#[]⟩)
      have hBx2 : Below V.heap.size V x2 := hBx1.trans (hbx2.mono hBx1.size)
      have hgex2 := hBx1.size
      refine hK.out _ _ (fun _ => by rw [← hWx2]; exact hBx2) ?_
      clear hK K
      rw [← hWx2]
      have HWx2 := Lib.hid hWx2
      clear hWx2
      try simp only [Act.put]
      refine wpAnyL_one (i := 3) (by kernel_rfl) rfl (fun K hK => ?_)
      go_simp
      go_at_call 29
      refine (HSb.out _ (HT.out.keep (HBV.out.trans (hBx2.mono HBV.out.size)))).mono ?_
      rintro e x3 ⟨rfl, hbx3⟩
      have hBx3 : Below V.heap.size V x3 := hBx2.trans (hbx3.mono hBx2.size)
      show K _ _
      refine hK.out _ _ (fun _ _ => hBx3) ?_
      clear hK K
      try simp only [Act.put]
      refine wpAnyL_pure (i := 4) (v := .tuple #[.agg #[.string P, .string Q], .int .i64 0]) rfl (by kernel_rfl) (by kernel_rfl) (by kernel_rfl) (fun _ _ _ h => h) (Or.inl ⟨by rfl, fun u _ => ?_⟩) ?_
      · go_simp
      try simp only [Act.put]
      refine wpAnyL_pure (i := 5) (v := .agg #[.string P, .string Q]) rfl (by kernel_rfl) (by kernel_rfl) (by kernel_rfl) (fun _ _ _ h => h) (Or.inl ⟨by rfl, fun u _ => ?_⟩) ?_
      · go_simp
      try simp only [Act.put]
      refine wpAnyL_pure (i := 6) (v := .int .i64 0) rfl (by kernel_rfl) (by kernel_rfl) (by kernel_rfl) (fun _ _ _ h => h) (Or.inl ⟨by rfl, fun u _ => ?_⟩) ?_
      · go_simp
      try simp only [Act.put]
      have hRy := hRx2.keep hbx3
      have c0 := hRy.c0; have c1 := hRy.c1; have c2 := hRy.f0 0; have c3 := hRy.f0 1
      have hkey : Below V.heap.size V ((x3.setCell ⟨x1.heap.size, 0, none⟩ (.string P)).setCell ⟨x1.heap.size, 1, none⟩ (.string Q)) := (hBx3.setCell (by simpa using hgex2) _).setCell (by simpa using hgex2) _
      have hkb := (hRy.set0 (.string P)).set1 (.string Q)
      refine wpAnyL_one (i := 8) (by kernel_rfl) rfl (fun K hK => ?_)
      go_simp
      refine hK.out _ _ (fun _ _ => hkey) ?_
      clear hK K c0 c1 c2 c3
      refine wpAnyL_pureD (i := 9) 8 (.int .i64 0) rfl rfl (by kernel_rfl) (by kernel_rfl) (by kernel_rfl) (fun _ _ _ h => h) (Or.inl ⟨by rfl, fun u _ => ?_⟩) ?_
      · go_simp
      try simp only [Act.put]
      refine wpAnyL_done (by kernel_rfl) ?_ _
      try dsimp only [Act.put]
      try simp only [List.setIfInBounds_toArray, List.set_cons_zero, List.set_cons_succ]
      obtain ⟨u, hu⟩ : ∃ u, u = ((x3.setCell ⟨x1.heap.size, 0, none⟩ (.string P)).setCell ⟨x1.heap.size, 1, none⟩ (.string Q)) := ⟨_, rfl⟩
      rw [← hu] at hkey hkb ⊢
      have hk1 := HK1.out.keep hkey
      have HE := Lib.hid (HBV.out.trans (hkey.mono HBV.out.size))
      have HK1' := Lib.hid hk1
      have HK4 := Lib.hid hkb
      clear hkey hkb hk1 hu HK1
      have HK1 := HK1'
      clear HK1'
      have H4 : Hid (∀ y, Below u.heap.size u y → (Below u.heap.size u y ∧ y.cell? ⟨x1.heap.size, 0, none⟩ = some (.string P) ∧ y.cell? ⟨x1.heap.size, 1, none⟩ = some (.string Q))) := fun y hy => ⟨hy, (HK4.out.keep hy).c0, (HK4.out.keep hy).c1⟩
      try clear hszx1
      try clear hszx2
      try clear hszx3
      go_wp2
      have hu0 : Below u.heap.size u u := Below.refl _ _
      have hu1 : Below u.heap.size u u.drew := hu0.drew
      obtain ⟨_, d0, d1⟩ := H4.out _ hu1
      obtain ⟨_, f0, f1⟩ := H4.out _ hu0
      go_region_held3 (fun y => Below u.heap.size u y ∧ y.cell? ⟨x1.heap.size, 0, none⟩ = some (.string P) ∧ y.cell? ⟨x1.heap.size, 1, none⟩ = some (.string Q))
        (first | exact H4.out _ (by assumption) | exact H4.out _ (Below.drew (by assumption)))
        (first | (go_at_call 44; refine (HH.out _ _ _).mono ?_; rintro en wz ⟨rfl, hbz⟩; have hk2 := stepW (W := u) (by assumption) hbz; obtain ⟨_, g1, g2⟩ := H4.out _ hk2) | (go_at_call 35; refine (HCl.out _ (HT.out.keep (stepW' (W := u) HE.out (by assumption)))).mono ?_; rintro en wz ⟨rfl, hbz⟩; have hk2 := stepW (W := u) (by assumption) hbz; obtain ⟨_, g1, g2⟩ := H4.out _ hk2))
      clear d0 d1 f0 f1 hu0 hu1
      go_wp2
      have hz1 : Below u.heap.size u wz.drew := Below.drew hk2
      obtain ⟨_, d0, d1⟩ := H4.out _ hz1
      go_region_held3 (fun y => Below u.heap.size u y ∧ y.cell? ⟨x1.heap.size, 0, none⟩ = some (.string P) ∧ y.cell? ⟨x1.heap.size, 1, none⟩ = some (.string Q))
        (first | exact H4.out _ (by assumption) | exact H4.out _ (Below.drew (by assumption)))
        (first | (go_at_call 44; refine (HH.out _ _ _).mono ?_; rintro en wy ⟨rfl, hbz⟩; have hk3 := stepW (W := u) (by assumption) hbz; obtain ⟨_, g1, g2⟩ := H4.out _ hk3) | (go_at_call 35; refine (HCh.out _ (HT.out.keep (stepW' (W := u) HE.out (by assumption)))).mono ?_; rintro en wy ⟨rfl, hbz⟩; have hk3 := stepW (W := u) (by assumption) hbz; obtain ⟨_, g1, g2⟩ := H4.out _ hk3))
      clear d0 d1 hz1
      have hfin := stepW' HE.out hk3
      go_wp2_with fail
      refine (HA.out _ (HT.out.keep hfin) (HC.out.keep hfin)).mono ?_
      rintro en wf ⟨rfl, hbf⟩
      go_wp2
      go_ret
      exact ⟨rfl, hfin.trans (hbf.mono hfin.size)⟩

  · refine ⟨_, rfl, fun K hK => ?_⟩
    go_simp
    obtain ⟨x1, hWx1, hRx1, hbx1, hszx1⟩ := box1T 24 V1 (.string ⟨#[]⟩) (.string ⟨#[]⟩)
    have hBx1 : Below V.heap.size V x1 := hBV1.trans (hbx1.mono hBV1.size)
    have hgex1 := hBV1.size
    refine hK.out _ _ (fun _ => by rw [← hWx1]; exact hBx1) ?_
    clear hK K
    rw [← hWx1]
    have HWx1 := Lib.hid hWx1
    clear hWx1
    try simp only [Act.put]
    refine wpAnyL_one (i := 2) (by kernel_rfl) rfl (fun K hK => ?_)
    go_simp
    go_at_call 44
    refine (HH.out _ _ _).mono ?_
    rintro e x2 ⟨rfl, hbx2⟩
    have hBx2 : Below V.heap.size V x2 := hBx1.trans (hbx2.mono hBx1.size)
    show K _ _
    refine hK.out _ _ (fun _ _ => hBx2) ?_
    clear hK K
    try simp only [Act.put]
    refine wpAnyL_one (i := 3) (by kernel_rfl) rfl (fun K hK => ?_)
    go_simp
    go_at_call 29
    refine (HSb.out _ (HT.out.keep (HBV.out.trans (hBx2.mono HBV.out.size)))).mono ?_
    rintro e x3 ⟨rfl, hbx3⟩
    have hBx3 : Below V.heap.size V x3 := hBx2.trans (hbx3.mono hBx2.size)
    show K _ _
    refine hK.out _ _ (fun _ _ => hBx3) ?_
    clear hK K
    try simp only [Act.put]
    refine wpAnyL_pure (i := 4) (v := .tuple #[.agg #[.string P, .string Q], .int .i64 0]) rfl (by kernel_rfl) (by kernel_rfl) (by kernel_rfl) (fun _ _ _ h => h) (Or.inl ⟨by rfl, fun u _ => ?_⟩) ?_
    · go_simp
    try simp only [Act.put]
    refine wpAnyL_pure (i := 5) (v := .agg #[.string P, .string Q]) rfl (by kernel_rfl) (by kernel_rfl) (by kernel_rfl) (fun _ _ _ h => h) (Or.inl ⟨by rfl, fun u _ => ?_⟩) ?_
    · go_simp
    try simp only [Act.put]
    refine wpAnyL_pure (i := 6) (v := .int .i64 0) rfl (by kernel_rfl) (by kernel_rfl) (by kernel_rfl) (fun _ _ _ h => h) (Or.inl ⟨by rfl, fun u _ => ?_⟩) ?_
    · go_simp
    try simp only [Act.put]
    have hRy := (hRx1.keep hbx2).keep hbx3
    have c0 := hRy.c0; have c1 := hRy.c1; have c2 := hRy.f0 0; have c3 := hRy.f0 1
    have hkey : Below V.heap.size V ((x3.setCell ⟨V1.heap.size, 0, none⟩ (.string P)).setCell ⟨V1.heap.size, 1, none⟩ (.string Q)) := (hBx3.setCell (by simpa using hgex1) _).setCell (by simpa using hgex1) _
    have hkb := (hRy.set0 (.string P)).set1 (.string Q)
    refine wpAnyL_one (i := 8) (by kernel_rfl) rfl (fun K hK => ?_)
    go_simp
    refine hK.out _ _ (fun _ _ => hkey) ?_
    clear hK K c0 c1 c2 c3
    refine wpAnyL_pureD (i := 9) 8 (.int .i64 0) rfl rfl (by kernel_rfl) (by kernel_rfl) (by kernel_rfl) (fun _ _ _ h => h) (Or.inl ⟨by rfl, fun u _ => ?_⟩) ?_
    · go_simp
    try simp only [Act.put]
    refine wpAnyL_done (by kernel_rfl) ?_ _
    try dsimp only [Act.put]
    try simp only [List.setIfInBounds_toArray, List.set_cons_zero, List.set_cons_succ]
    obtain ⟨u, hu⟩ : ∃ u, u = ((x3.setCell ⟨V1.heap.size, 0, none⟩ (.string P)).setCell ⟨V1.heap.size, 1, none⟩ (.string Q)) := ⟨_, rfl⟩
    rw [← hu] at hkey hkb ⊢
    have hk1 := HK1.out.keep hkey
    have HE := Lib.hid (HBV.out.trans (hkey.mono HBV.out.size))
    have HK1' := Lib.hid hk1
    have HK4 := Lib.hid hkb
    clear hkey hkb hk1 hu HK1
    have HK1 := HK1'
    clear HK1'
    have H4 : Hid (∀ y, Below u.heap.size u y → (Below u.heap.size u y ∧ y.cell? ⟨V1.heap.size, 0, none⟩ = some (.string P) ∧ y.cell? ⟨V1.heap.size, 1, none⟩ = some (.string Q))) := fun y hy => ⟨hy, (HK4.out.keep hy).c0, (HK4.out.keep hy).c1⟩
    try clear hszx1
    try clear hszx2
    try clear hszx3
    go_wp2
    have hu0 : Below u.heap.size u u := Below.refl _ _
    have hu1 : Below u.heap.size u u.drew := hu0.drew
    obtain ⟨_, d0, d1⟩ := H4.out _ hu1
    obtain ⟨_, f0, f1⟩ := H4.out _ hu0
    go_region_held3 (fun y => Below u.heap.size u y ∧ y.cell? ⟨V1.heap.size, 0, none⟩ = some (.string P) ∧ y.cell? ⟨V1.heap.size, 1, none⟩ = some (.string Q))
      (first | exact H4.out _ (by assumption) | exact H4.out _ (Below.drew (by assumption)))
      (first | (go_at_call 44; refine (HH.out _ _ _).mono ?_; rintro en wz ⟨rfl, hbz⟩; have hk2 := stepW (W := u) (by assumption) hbz; obtain ⟨_, g1, g2⟩ := H4.out _ hk2) | (go_at_call 35; refine (HCl.out _ (HT.out.keep (stepW' (W := u) HE.out (by assumption)))).mono ?_; rintro en wz ⟨rfl, hbz⟩; have hk2 := stepW (W := u) (by assumption) hbz; obtain ⟨_, g1, g2⟩ := H4.out _ hk2))
    clear d0 d1 f0 f1 hu0 hu1
    go_wp2
    have hz1 : Below u.heap.size u wz.drew := Below.drew hk2
    obtain ⟨_, d0, d1⟩ := H4.out _ hz1
    go_region_held3 (fun y => Below u.heap.size u y ∧ y.cell? ⟨V1.heap.size, 0, none⟩ = some (.string P) ∧ y.cell? ⟨V1.heap.size, 1, none⟩ = some (.string Q))
      (first | exact H4.out _ (by assumption) | exact H4.out _ (Below.drew (by assumption)))
      (first | (go_at_call 44; refine (HH.out _ _ _).mono ?_; rintro en wy ⟨rfl, hbz⟩; have hk3 := stepW (W := u) (by assumption) hbz; obtain ⟨_, g1, g2⟩ := H4.out _ hk3) | (go_at_call 35; refine (HCh.out _ (HT.out.keep (stepW' (W := u) HE.out (by assumption)))).mono ?_; rintro en wy ⟨rfl, hbz⟩; have hk3 := stepW (W := u) (by assumption) hbz; obtain ⟨_, g1, g2⟩ := H4.out _ hk3))
    clear d0 d1 hz1
    have hfin := stepW' HE.out hk3
    go_wp2_with fail
    refine (HA.out _ (HT.out.keep hfin) (HC.out.keep hfin)).mono ?_
    rintro en wf ⟨rfl, hbf⟩
    go_wp2
    go_ret
    exact ⟨rfl, hfin.trans (hbf.mono hfin.size)⟩

end Go.Proofs.YtolkiimlchfmlaaGreatDoor
