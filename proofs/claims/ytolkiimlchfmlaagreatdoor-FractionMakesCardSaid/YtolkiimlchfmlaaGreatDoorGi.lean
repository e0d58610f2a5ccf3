/- Walks of the laws of fractions: the law of what is made and read, for all texts. -/
import Derived.Test.YtolkiimlchfmlaaGreatDoorGh
import Derived.Test.YtolkiimlchfmlaaGreatDoorGb
import Derived.Test.YtolkiimlchfmlaaGreatDoorOd
namespace Go.Proofs.YtolkiimlchfmlaaGreatDoor
open Go.RowKit Go.Proofs.Num

/-- The lowest terms, by the reference. -/
theorem rlowestM {d : Nat} (x m : Int) (hx : Few d x) (hm : Few d m) (hm0 : m ≠ 0) (h1 : 1 ≤ d) (hd : d ≤ 40000) (w : World) :
    Calls Tryz.prog 59 #[.string (T x), .string (T m)] w (FrOut w (T (lowN x m)) (T (lowD x m))) := by
  have hg := gz_pos (n := x) hm0
  have hgf : Few d (gz x m) := few_gz hm hm0
  have HCm := fun w => rcommon_any x m hx hm h1 hd w
  have HMi := fun w => minus_any m w
  by_cases hn : m < 0
  · rw [decide_eq_true hn] at HMi
    have HTu := fun w => turned_any (gz x m) hgf h1 (by omega) w
    have HD1 := fun w => rdown_any x (-(gz x m)) hx hgf.neg (by omega) h1 (by omega) w
    have HD2 := fun w => rdown_any m (-(gz x m)) hm hgf.neg (by omega) h1 (by omega) w
    have e : ∀ y : Int, qz y (-(gz x m)) = qz (-y) (gz x m) := fun y => by
      unfold qz; rw [if_pos (by omega), if_neg (by omega), Int.neg_neg]
    rw [e] at HD1 HD2
    have h := rlowest_neg (T x) (T m) _ _ _ _ (Lib.hid HCm) (Lib.hid HMi) (Lib.hid HTu) (Lib.hid HD1) (Lib.hid HD2) w
    unfold lowN lowD
    rw [if_pos hn, if_pos hn]
    exact h
  · rw [decide_eq_false hn] at HMi
    have HD1 := fun w => rdown_any x (gz x m) hx hgf (by omega) h1 (by omega) w
    have HD2 := fun w => rdown_any m (gz x m) hm hgf (by omega) h1 (by omega) w
    have h := rlowest_pos (T x) (T m) _ _ _ (Lib.hid HCm) (Lib.hid HMi) (Lib.hid HD1) (Lib.hid HD2) w
    unfold lowN lowD
    rw [if_neg hn, if_neg hn]
    exact h


theorem ba_of {x : ByteArray} {l : List UInt8} (h : x.data.toList = l) : (⟨l.toArray⟩ : ByteArray) = x := by
  subst h; cases x; simp

theorem slash_ways : ∀ l : List UInt8, (∀ c ∈ l, c ≠ 47) ∨ ∃ a b, l = a ++ 47 :: b ∧ ∀ c ∈ a, c ≠ 47
  | [] => .inl (by simp)
  | c :: l => by
    by_cases hc : c = 47
    · subst hc; exact .inr ⟨[], l, rfl, by simp⟩
    · rcases slash_ways l with h | ⟨a, b, h, ha⟩
      · left; intro x hx; rcases List.mem_cons.1 hx with e | e
        · rw [e]; exact hc
        · exact h x e
      · right
        refine ⟨c :: a, b, by rw [h]; rfl, fun x hx => ?_⟩
        rcases List.mem_cons.1 hx with e | e
        · rw [e]; exact hc
        · exact ha x e

theorem get_data (s : ByteArray) (k : Nat) (hk : k < s.size) : s[k] = s.data.toList[k]'(by rw [size_toList]; exact hk) := by
  simp [ByteArray.getElem_eq_getElem_data]

theorem ne47 {c : UInt8} (h : c ≠ 47) : c.toNat ≠ 47 := fun e => h (by
  have : c = UInt8.ofNat 47 := by rw [← e]; simp
  simpa using this)

set_option maxHeartbeats 3200000 in
/-- Both read a text alike. -/
theorem parse_both (s : ByteArray) (hs : s.size ≤ 150) : ∃ (C D : ByteArray) (k : Nat), (∀ w, Tab w → CutT w → Calls Tryz.prog 23 #[.string s] w (FrE w C D k)) ∧ (∀ w, Tab w → Calls Tryz.prog 24 #[.string s] w (FrE w C D k)) := by
  have hcut := fcut s (by omega)
  unfold Lib.cut at hcut
  rcases slash_ways s.data.toList with hno | ⟨a, b, hl, ha⟩
  · rw [index_noslash _ hno, if_neg (by omega)] at hcut
    have hno' : ∀ (k : Nat) (hk : k < s.size), s[k].toNat ≠ 47 := fun k hk => ne47 (by rw [get_data s k hk]; exact hno _ (List.getElem_mem _))
    have hc2 : chk (⟨#[49]⟩ : ByteArray).data.toList = 0 := by decide +kernel
    have H1 := fun w => rcheck_any s w (by omega)
    have H2 := fun w => rcheck_any ⟨#[49]⟩ w (by decide)
    rw [hc2] at H2
    have e1 : (⟨s.data.toList.toArray⟩ : ByteArray) = s := ba_of rfl
    simp only [e1] at hcut
    by_cases h1 : chk s.data.toList = 3
    · rw [h1] at H1
      exact ⟨_, _, 3, fun w hT hC => fParse_bad s s ⟨#[]⟩ ⟨#[]⟩ false hcut (fun w => fparts_err s ⟨#[]⟩ false (by omega) (by decide) (.inl h1) w) w hT hC,
        fun w _ => rfParse_n_n3 s (by omega) hno' (Lib.hid H1) w⟩
    · have hp := fun w => fparts_ok s ⟨#[]⟩ ⟨#[49]⟩ false (by omega) (by decide) h1 (.inl ⟨rfl, rfl⟩) w
      have HP := fun w hT => fcheck_any s ⟨#[49]⟩ (by omega) (by decide) w hT
      have HR := fun w => rfcheck_any s ⟨#[49]⟩ (by omega) (by decide) w
      by_cases hk : fchk s.data.toList (⟨#[49]⟩ : ByteArray).data.toList = 0
      · rw [hk] at HP HR
        exact ⟨_, _, 0, fun w hT hC => fParse_ok s s ⟨#[]⟩ ⟨#[49]⟩ false hcut hp HP w hT hC, fun w _ => rfParse_n_ok s (by omega) hno' _ 0 h1 (by omega) (Lib.hid H1) (Lib.hid H2) (Lib.hid HR) w⟩
      · generalize fchk s.data.toList (⟨#[49]⟩ : ByteArray).data.toList = k at *
        exact ⟨_, _, k, fun w hT hC => fParse_chk s s ⟨#[]⟩ ⟨#[49]⟩ false k hk hcut hp HP w hT hC, fun w _ => rfParse_n_k s (by omega) hno' _ 0 k h1 (by omega) hk (Lib.hid H1) (Lib.hid H2) (Lib.hid HR) w⟩
  · have hsz : s.size = a.length + b.length + 1 := by rw [← size_toList, hl]; simp; omega
    obtain ⟨p, hp⟩ : ∃ p, p = a.length := ⟨_, rfl⟩
    have hps : p < s.size := by omega
    have e1 : (s.extract 0 p).data.toList = a := by rw [Lib.extract_data, hl, hp]; simp
    have e2 : (s.extract (p + 1) s.size).data.toList = b := by
      have hd : s.data.toList.drop (p + 1) = b := by rw [hl, hp, ← List.drop_drop, List.drop_left]; rfl
      rw [Lib.extract_data, hd]
      exact List.take_of_length_le (by omega)
    have h47 : s[p].toNat = 47 := by
      rw [get_data s p hps]
      have : s.data.toList[p]'(by rw [size_toList]; exact hps) = 47 := by simp [hl, hp]
      rw [this]; rfl
    have hno' : ∀ (k : Nat) (hk : k < s.size), k < p → s[k].toNat ≠ 47 := fun k hk hkp => ne47 (by
      rw [get_data s k hk]
      have : s.data.toList[k]'(by rw [size_toList]; exact hk) = a[k]'(by omega) := by simp only [hl]; rw [List.getElem_append_left]
      rw [this]; exact ha _ (List.getElem_mem _))
    rw [hl, index_slash _ _ ha, if_pos (by omega)] at hcut
    have g1 : (a ++ 47 :: b).take (((a.length : Nat) : Int)).toNat = a := by rw [Int.toNat_natCast, List.take_left]
    have g2 : (a ++ 47 :: b).drop ((((a.length : Nat) : Int)).toNat + [(47 : UInt8)].length) = b := by rw [Int.toNat_natCast, ← List.drop_drop, List.drop_left]; rfl
    rw [g1, g2] at hcut
    simp only [ba_of e1, ba_of e2] at hcut
    have z1 : (s.extract 0 p).size ≤ 150 := by rw [← size_toList, e1]; omega
    have z2 : (s.extract (p + 1) s.size).size ≤ 150 := by rw [← size_toList, e2]; omega
    have H1 := fun w => rcheck_any (s.extract 0 p) w (by omega)
    have H2 := fun w => rcheck_any (s.extract (p + 1) s.size) w (by omega)
    cases hB : ((s.extract (p + 1) s.size).toList == [49]) with
    | true =>
      refine ⟨_, _, 3, fun w hT hC => fParse_bad s _ _ ⟨#[]⟩ true hcut (fun w => fparts_err _ _ true (by omega) (by omega) ?_ w) w hT hC, fun w _ => rfParse_s_one s (by omega) p hps h47 hno' hB w⟩
      by_cases h1 : chk (s.extract 0 p).data.toList = 3
      · exact .inl h1
      · exact .inr (.inl ⟨h1, rfl, hB⟩)
    | false =>
      by_cases h1 : chk (s.extract 0 p).data.toList = 3
      · rw [h1] at H1
        exact ⟨_, _, 3, fun w hT hC => fParse_bad s _ _ ⟨#[]⟩ true hcut (fun w => fparts_err _ _ true (by omega) (by omega) (.inl h1) w) w hT hC, fun w _ => rfParse_s_n3 s (by omega) p hps h47 hno' hB (Lib.hid H1) w⟩
      · by_cases h2 : chk (s.extract (p + 1) s.size).data.toList = 3
        · rw [h2] at H2
          exact ⟨_, _, 3, fun w hT hC => fParse_bad s _ _ ⟨#[]⟩ true hcut (fun w => fparts_err _ _ true (by omega) (by omega) (.inr (.inr ⟨h1, rfl, hB, h2⟩)) w) w hT hC, fun w _ => rfParse_s_d3 s (by omega) p hps h47 hno' hB _ h1 (Lib.hid H1) (Lib.hid H2) w⟩
        · have hpp := fun w => fparts_ok (s.extract 0 p) (s.extract (p + 1) s.size) (s.extract (p + 1) s.size) true (by omega) (by omega) h1 (.inr ⟨rfl, hB, h2, rfl⟩) w
          have HP := fun w hT => fcheck_any (s.extract 0 p) (s.extract (p + 1) s.size) (by omega) (by omega) w hT
          have HR := fun w => rfcheck_any (s.extract 0 p) (s.extract (p + 1) s.size) (by omega) (by omega) w
          by_cases hk : fchk (s.extract 0 p).data.toList (s.extract (p + 1) s.size).data.toList = 0
          · rw [hk] at HP HR
            exact ⟨_, _, 0, fun w hT hC => fParse_ok s _ _ _ true hcut hpp HP w hT hC, fun w _ => rfParse_s_ok s (by omega) p hps h47 hno' hB _ _ h1 h2 (Lib.hid H1) (Lib.hid H2) (Lib.hid HR) w⟩
          · generalize fchk (s.extract 0 p).data.toList (s.extract (p + 1) s.size).data.toList = k at *
            exact ⟨_, _, k, fun w hT hC => fParse_chk s _ _ _ true k hk hcut hpp HP w hT hC, fun w _ => rfParse_s_k s (by omega) p hps h47 hno' hB _ _ k h1 h2 hk (Lib.hid H1) (Lib.hid H2) (Lib.hid HR) w⟩

/-- Both make a fraction alike. -/
theorem make_both (x y : ByteArray) (hx : fewB x = true) (hy : fewB y = true) : ∃ (C D : ByteArray) (k : Nat), (∀ w, Tab w → Calls Tryz.prog 21 #[.string x, .string y] w (FrE w C D k)) ∧ (∀ w, Tab w → Calls Tryz.prog 22 #[.string x, .string y] w (FrE w C D k)) := by
  have sx := fewB_size x hx
  have sy := fewB_size y hy
  have HK := fun w => fcheckTwo x y (by omega) (by omega) w
  have H1 := fun w => rcheck_any x w (by omega)
  have H2 := fun w => rcheck_any y w (by omega)
  unfold chk2 at HK
  by_cases h1 : chk x.data.toList = 0
  · rw [h1, if_neg (by simp)] at HK
    rw [h1] at H1
    by_cases h2 : chk y.data.toList = 0
    · rw [h2] at HK H2
      obtain ⟨n, d, rfl, rfl, hn⟩ := fewB_canon x hx h1
      obtain ⟨m, e, rfl, rfl, hm⟩ := fewB_canon y hy h2
      by_cases hm0 : m = 0
      · have hz : ((T m).toList == [48]) = true := by rw [T_zero_eq, decide_eq_true hm0]
        exact ⟨_, _, 10, fun w _ => fMake_zero _ _ hz (Lib.hid HK) w, fun w _ => rfMake_zero _ _ hz (Lib.hid H1) (Lib.hid H2) w⟩
      · have hz : ((T m).toList == [48]) = false := by rw [T_zero_eq, decide_eq_false hm0]
        exact ⟨_, _, 0, fun w hT => fMake n m hn hm (by omega) (by omega) hm0 w hT, fun w _ => rfMake_ok _ _ _ _ hz (Lib.hid H1) (Lib.hid H2) (Lib.hid fun w => rlowestM n m hn hm hm0 (by omega) (by omega) w) w⟩
    · generalize chk y.data.toList = k at *
      exact ⟨_, _, k, fun w _ => fMake_chk _ _ k h2 (Lib.hid HK) w, fun w _ => rfMake_e2 _ _ k h2 (Lib.hid H1) (Lib.hid H2) w⟩
  · rw [if_pos (by simpa using h1)] at HK
    generalize chk x.data.toList = k at *
    exact ⟨_, _, k, fun w _ => fMake_chk _ _ k h1 (Lib.hid HK) w, fun w _ => rfMake_e1 _ _ k h1 (Lib.hid H1) w⟩

/-- What the reference makes an int of. -/
theorem small_ways (x : ByteArray) (hx : fewB x = true) :
    (∃ j : Nat, j ≠ 0 ∧ ∀ w, Calls Tryz.prog 25 #[.string x] w fun e w' => e = .returned (.tuple #[.int .i64 0, .int .i64 ((j : Nat) : Int)]) ∧ Below w.heap.size w w') ∨
    (∃ n : Int, -9223372036854775808 ≤ n ∧ n ≤ 9223372036854775807 ∧ x = T n ∧ ∀ w, Calls Tryz.prog 25 #[.string x] w fun e w' => e = .returned (.tuple #[.int .i64 n, .int .i64 0]) ∧ Below w.heap.size w w') := by
  have sx := fewB_size x hx
  by_cases h1 : chk x.data.toList = 0
  · obtain ⟨n, d, rfl, rfl, hn⟩ := fewB_canon x hx h1
    have hp : parse (T n).data.toList = n := by rw [T_data, parse_itoa]
    by_cases h2 : n < -9223372036854775808 ∨ 9223372036854775807 < n
    · exact .inl ⟨2, by omega, fun w => rsmall_out (T n) (by rw [hp]; exact h2) h1 (by omega) w⟩
    · have h := fun w => rsmall_in (T n) (by rw [hp]; omega) (by rw [hp]; omega) h1 (by omega) w
      rw [hp] at h
      exact .inr ⟨n, by omega, by omega, rfl, h⟩
  · exact .inl ⟨chk x.data.toList, h1, fun w => rsmall_err x (by omega) h1 w⟩

set_option maxHeartbeats 3200000 in
theorem makes_any (x y s : ByteArray) (hx : x.size ≤ 9223372036854775807) (hy : y.size ≤ 9223372036854775807) (w : World) (hT : Tab w) (hC : CutT w) :
    Calls Tryz.prog 4 #[.string x, .string y, .string s] w fun e w' => e = .returned (.bool true) ∧ Below w.heap.size w w' := by
  have HE1 := fun w => rfew_any x hx w
  have HE2 := fun w => rfew_any y hy w
  cases h1 : fewB x with
  | false => rw [h1] at HE1; exact makes_no1 x y s (Lib.hid HE1) w hT hC
  | true =>
    rw [h1] at HE1
    cases h2 : fewB y with
    | false => rw [h2] at HE2; exact makes_no2 x y s (Lib.hid HE1) (Lib.hid HE2) w hT hC
    | true =>
      rw [h2] at HE2
      by_cases h3 : 150 < s.size
      · exact makes_no3 x y s (Lib.hid HE1) (Lib.hid HE2) (decide_eq_true (by omega)) w hT hC
      · have hl : decide (150 < ((s.size : Nat) : Int)) = false := decide_eq_false (by omega)
        obtain ⟨A, B, k, HM1, HM2⟩ := make_both x y h1 h2
        obtain ⟨C, D, k2, HP1, HP2⟩ := parse_both s (by omega)
        rcases small_ways x h1 with ⟨j, hj, HS1⟩ | ⟨n, n0, n1, ex, HS1⟩
        · rcases small_ways y h2 with ⟨j', hj', HS2⟩ | ⟨m, m0, m1, ey, HS2⟩
          · exact makes_e1 x y s A B C D 0 0 _ k k2 (Lib.hid HE1) (Lib.hid HE2) hl (Lib.hid HM1) (Lib.hid HM2) (Lib.hid HP1) (Lib.hid HP2) j hj (Lib.hid HS1) (Lib.hid HS2) w hT hC
          · exact makes_e1 x y s A B C D 0 m 0 k k2 (Lib.hid HE1) (Lib.hid HE2) hl (Lib.hid HM1) (Lib.hid HM2) (Lib.hid HP1) (Lib.hid HP2) j hj (Lib.hid HS1) (Lib.hid HS2) w hT hC
        · rcases small_ways y h2 with ⟨j', hj', HS2⟩ | ⟨m, m0, m1, ey, HS2⟩
          · exact makes_e2 x y s A B C D n 0 k k2 (Lib.hid HE1) (Lib.hid HE2) hl (Lib.hid HM1) (Lib.hid HM2) (Lib.hid HP1) (Lib.hid HP2) j' hj' (Lib.hid HS1) (Lib.hid HS2) w hT hC
          · have HO := fun w hT => fOf n m x y A B k (fun w hT => by rw [ex]; exact of_ok n n0 n1 w hT) (fun w hT => by rw [ey]; exact of_ok m m0 m1 w hT) HM1 w hT
            exact makes_ok x y s A B C D n m k k2 (Lib.hid HE1) (Lib.hid HE2) hl (Lib.hid HM1) (Lib.hid HM2) (Lib.hid HP1) (Lib.hid HP2) (Lib.hid HS1) (Lib.hid HS2) (Lib.hid HO) w hT hC
end Go.Proofs.YtolkiimlchfmlaaGreatDoor
