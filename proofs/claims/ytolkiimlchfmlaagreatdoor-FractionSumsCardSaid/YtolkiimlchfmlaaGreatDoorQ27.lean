/- Walks of fractions: the check of two texts, lowest terms, Make. And: Walks of fractions: products of their numbers, sums, differences, products and quotients of right fractions. And: Walks of fractions: what the operations make of right fractions. -/
import Derived.Test.YtolkiimlchfmlaaGreatDoorQ12
import Derived.Test.YtolkiimlchfmlaaGreatDoorQ26
import Derived.Test.YtolkiimlchfmlaaGreatDoorQ23
import Derived.Test.YtolkiimlchfmlaaGreatDoorQ25
import Derived.LoopN
namespace Go.Proofs.YtolkiimlchfmlaaGreatDoor
open Go.RowKit Go.Proofs.Num

/-- A fraction as a value. -/
def FrV (s r : ByteArray) : Value := .agg #[.string s, .string r]
/-- The error of a fraction. -/
def fchk (l m : List UInt8) : Nat := if chk2 l m ≠ 0 then chk2 l m else if parse m ≤ 0 then 3 else if Nat.gcd (parse l).natAbs (parse m).natAbs ≠ 1 then 3 else 0

theorem fchk_ok (s r : ByteArray) (h : fchk s.data.toList r.data.toList = 0) : ∃ n m d, s = T n ∧ r = T m ∧ 1 ≤ d ∧ d = 1024 ∧ Few d n ∧ Few d m ∧ Low n m := by
  unfold fchk at h
  by_cases h1 : chk2 s.data.toList r.data.toList ≠ 0
  · rw [if_pos h1] at h; exact absurd h h1
  · rw [if_neg h1] at h
    obtain ⟨c1, c2⟩ := chk2_zero (by simpa using h1)
    obtain ⟨x, d, hx1, hx2, hd1, hd2, hx⟩ := canon s c1
    obtain ⟨y, d', hy1, hy2, hd1', hd2', hy⟩ := canon r c2
    obtain rfl : d' = d := by omega
    rw [← hx2, ← hy2] at h
    by_cases h2 : y ≤ 0
    · rw [if_pos h2] at h; cases h
    · rw [if_neg h2] at h
      by_cases h3 : Nat.gcd x.natAbs y.natAbs ≠ 1
      · rw [if_pos h3] at h; cases h
      · exact ⟨x, y, d', hx1, hy1, hd1, hd2, hx, hy, by omega, by simpa using h3⟩

theorem chk2_T {d : Nat} {n m : Int} (hn : Few d n) (hm : Few d m) (h1 : 1 ≤ d) (hd : d ≤ 1024) : chk2 (T n).data.toList (T m).data.toList = 0 := by
  unfold chk2
  rw [hn.chk h1 hd, hm.chk h1 hd]; rfl

theorem fchk_T {d : Nat} {n m : Int} (hn : Few d n) (hm : Few d m) (h1 : 1 ≤ d) (hd : d ≤ 1024) (hl : Low n m) : fchk (T n).data.toList (T m).data.toList = 0 := by
  unfold fchk
  rw [chk2_T hn hm h1 hd, T_data, T_data, parse_itoa, parse_itoa, if_neg (by simp), if_neg (by have := hl.1; omega), if_neg (by have := hl.2; omega)]

set_option maxRecDepth 100000 in
theorem fcheckTwo (s r : ByteArray) (hs : s.size ≤ 9223372036854775807) (hr : r.size ≤ 9223372036854775807) (w : World) :
    Calls Tryz.prog 53 #[.string s, .string r] w fun e w' => e = .returned (.int .i64 ((chk2 s.data.toList r.data.toList : Nat) : Int)) ∧ w = w' := by
  have H1 := Lib.hid (fun w => check_any s w hs)
  have H2 := Lib.hid (fun w => check_any r w hr)
  unfold chk2
  generalize chk s.data.toList = x at *
  generalize chk r.data.toList = y at *
  by_cases h : x = 0
  · subst h
    rw [if_neg (by simp)]
    go_enter Tryz.func53, Tryz.ntmps53
    go_wp2_with fail
    refine (H1.out _).mono ?_
    rintro e w1 ⟨rfl, rfl⟩
    go_wp2_with fail
    refine (H2.out _).mono ?_
    rintro e w1 ⟨rfl, rfl⟩
    go_wp2
    go_ret
    exact ⟨rfl, rfl⟩
  · rw [if_pos h]
    have hx : ¬ ((x : Nat) : Int) = 0 := by omega
    have hx1 : ((x : Int) == 0) = false := beq_eq_false_iff_ne.2 hx
    go_enter Tryz.func53, Tryz.ntmps53
    go_wp2_with fail
    refine (H1.out _).mono ?_
    rintro e w1 ⟨rfl, rfl⟩
    go_wp2
    go_ret
    exact ⟨rfl, rfl⟩

theorem sgnT1 {d : Nat} (z : Int) (hz : Few d z) (h1 : 1 ≤ d) (hd : d ≤ 1024) (w : World) : Calls Tryz.prog 45 #[.string (T z)] w (IntOut w (sgn z) 0) := by
  have := sgn_ok (T z) (hz.size h1 hd) (hz.chk h1 hd) w
  rwa [T_data, parse_itoa] at this

/-- Hands back a fraction. -/
def FrOut (w : World) (A B : ByteArray) (e : Ending) (w' : World) : Prop := e = .returned (FrV A B) ∧ Below w.heap.size w w'
/-- Hands back a fraction and an error. -/
def FrE (w : World) (A B : ByteArray) (c : Nat) (e : Ending) (w' : World) : Prop := e = .returned (.tuple #[FrV A B, .int .i64 ((c : Nat) : Int)]) ∧ Below w.heap.size w w'

theorem lowN_le {d : Nat} {n m : Int} (hn : Few d n) (hm : m ≠ 0) : Few d (lowN n m) := hn.of_le (low_le hm).1
theorem lowD_le {d : Nat} {n m : Int} (hn : Few d m) (hm : m ≠ 0) : Few d (lowD n m) := hn.of_le (low_le hm).2
theorem few_gz {d : Nat} {n m : Int} (hm : Few d m) (hm0 : m ≠ 0) : Few d (gz n m) := by
  refine hm.of_le ?_
  unfold gz
  rw [Int.natAbs_natCast]
  exact Nat.le_of_dvd (by omega) (Nat.gcd_dvd_right _ _)

theorem T_one_eq (x : Int) : ((T x).toList == [49]) = decide (x = 1) := by
  have h := eq_T x 1
  rwa [show (T 1).toList = [49] by rw [Lib.toList_data, T_data]; kernel_rfl] at h

set_option maxHeartbeats 1600000 in
set_option maxRecDepth 100000 in
/-- Check of fractions. -/
theorem fcheck_any (s r : ByteArray) (hs : s.size ≤ 9223372036854775807) (hr : r.size ≤ 9223372036854775807) (w : World) (hT : Tab w) :
    Calls Tryz.prog 18 #[FrV s r] w fun e w' => e = .returned (.int .i64 ((fchk s.data.toList r.data.toList : Nat) : Int)) ∧ Below w.heap.size w w' := by
  have HK := Lib.hid (fun w => fcheckTwo s r hs hr w)
  have HT := Lib.hid hT
  unfold FrV
  obtain ⟨W, hW, hA, hBl, hsz⟩ := box1T 24 w (.string s) (.string r)
  have HW := Lib.hid hW
  have HA := Lib.hid hA
  have HBL := Lib.hid hBl
  obtain ⟨cc, hcc⟩ : ∃ cc, cc = fchk s.data.toList r.data.toList := ⟨_, rfl⟩
  rw [← hcc]
  have HCC := Lib.hid hcc
  unfold fchk at HCC
  by_cases h : chk2 s.data.toList r.data.toList = 0
  · obtain ⟨c1, c2⟩ := chk2_zero h
    have HSG := Lib.hid (fun w => sgn_ok r hr c2 w)
    rw [h] at HK HCC
    obtain ⟨x, d, hx1, hx2, hd1, hd2, hx⟩ := canon s c1
    obtain ⟨y, d', hy1, hy2, hd1', hd2', hy⟩ := canon r c2
    obtain rfl : d' = d := by omega
    have HG := Lib.hid (fun w (hT : Tab w) => gcdT x y w hx hy hd1 (by omega) hT)
    rw [← hx1, ← hy1] at HG
    have heq := T_one_eq ((Nat.gcd x.natAbs y.natAbs : Nat) : Int)
    rw [← hx2, ← hy2, if_neg (by simp)] at HCC
    rw [← hy2] at HSG
    generalize T ((Nat.gcd x.natAbs y.natAbs : Nat) : Int) = G at *
    clear c1 c2 h hx1 hy1 hx2 hy2 hx hy hd1 hd2 hd1' hd2' hT hA hBl hsz hcc
    have x0 := HA.out.c0; have x1 := HA.out.c1
    rw [HW.out] at x0 x1
    clear hW
    by_cases h2 : y ≤ 0
    · have hs2 : ∃ q, q = sgn y ∧ q ≤ 0 := ⟨_, rfl, by unfold sgn; split <;> (try split) <;> omega⟩
      obtain ⟨q, hq, hq0⟩ := hs2
      rw [← hq] at HSG
      have HC := Lib.hid (HCC.out.trans (if_pos h2))
      clear hq h2 heq HCC
      have hd : decide (q ≤ 0) = true := decide_eq_true hq0
      go_enter Tryz.func18, Tryz.ntmps18
      go_wp2_with fail
      refine (HK.out _).mono ?_
      rintro e w1 ⟨rfl, rfl⟩
      go_wp2_with fail
      refine (HSG.out _).mono ?_
      rintro e w1 ⟨rfl, hb1⟩
      rw [← HW.out] at hb1
      go_wp2
      go_ret
      exact ⟨by rw [HC.out]; rfl, HBL.out.trans (hb1.mono HBL.out.size)⟩
    · have hs2 : ∃ q, q = sgn y ∧ ¬ q ≤ 0 := ⟨_, rfl, by unfold sgn; rw [if_neg (by omega), if_pos (by omega)]; omega⟩
      obtain ⟨q, hq, hq0⟩ := hs2
      rw [← hq] at HSG
      have HC2 := Lib.hid (HCC.out.trans (if_neg h2))
      clear hq h2 HCC
      have hd : decide (q ≤ 0) = false := decide_eq_false hq0
      by_cases h3 : Nat.gcd x.natAbs y.natAbs = 1
      · have HC := Lib.hid (HC2.out.trans (if_neg (by simpa using h3)))
        rw [decide_eq_true (by omega)] at heq
        clear h3 HC2
        go_enter Tryz.func18, Tryz.ntmps18
        go_wp2_with fail
        refine (HK.out _).mono ?_
        rintro e w1 ⟨rfl, rfl⟩
        go_wp2_with fail
        refine (HSG.out _).mono ?_
        rintro e w1 ⟨rfl, hb1⟩
        rw [← HW.out] at hb1
        have hA1 := HA.out.keep hb1
        have hB1 : Below w.heap.size w w1 := HBL.out.trans (hb1.mono HBL.out.size)
        clear x0 x1
        have x0 := hA1.c0; have x1 := hA1.c1
        clear hA1
        go_wp2_with fail
        refine (HG.out _ (HT.out.keep hB1)).mono ?_
        rintro e w2 ⟨rfl, hb2⟩
        go_wp2
        go_ret
        exact ⟨by rw [HC.out]; rfl, hB1.trans (hb2.mono hB1.size)⟩
      · have HC := Lib.hid (HC2.out.trans (if_pos h3))
        rw [decide_eq_false (by omega)] at heq
        clear h3 HC2
        go_enter Tryz.func18, Tryz.ntmps18
        go_wp2_with fail
        refine (HK.out _).mono ?_
        rintro e w1 ⟨rfl, rfl⟩
        go_wp2_with fail
        refine (HSG.out _).mono ?_
        rintro e w1 ⟨rfl, hb1⟩
        rw [← HW.out] at hb1
        have hA1 := HA.out.keep hb1
        have hB1 : Below w.heap.size w w1 := HBL.out.trans (hb1.mono HBL.out.size)
        clear x0 x1
        have x0 := hA1.c0; have x1 := hA1.c1
        clear hA1
        go_wp2_with fail
        refine (HG.out _ (HT.out.keep hB1)).mono ?_
        rintro e w2 ⟨rfl, hb2⟩
        go_wp2
        go_ret
        exact ⟨by rw [HC.out]; rfl, hB1.trans (hb2.mono hB1.size)⟩
  · have HC := Lib.hid (HCC.out.trans (if_pos h))
    have x0 := hA.c0; have x1 := hA.c1
    rw [hW] at x0 x1
    generalize chk2 s.data.toList r.data.toList = k at *
    have hx : ¬ ((k : Nat) : Int) = 0 := by omega
    have hx1 : ((k : Int) == 0) = false := beq_eq_false_iff_ne.2 hx
    clear hA hBl hsz hW h hcc HCC hT
    go_enter Tryz.func18, Tryz.ntmps18
    go_wp2_with fail
    refine (HK.out _).mono ?_
    rintro e w1 ⟨rfl, rfl⟩
    go_wp2
    go_ret
    exact ⟨by rw [HC.out]; rfl, below1 _ _⟩

set_option maxHeartbeats 1600000 in
set_option maxRecDepth 100000 in
theorem flowest {d : Nat} (n m : Int) (hn : Few d n) (hm : Few d m) (hm0 : m ≠ 0) (h1 : 1 ≤ d) (hd : d ≤ 1024) (w : World) (hT : Tab w) :
    Calls Tryz.prog 58 #[.string (T n), .string (T m)] w (FrOut w (T (lowN n m)) (T (lowD n m))) := by
  have hg0 : gz n m ≠ 0 := by have := gz_pos (n := n) hm0; omega
  have hg := few_gz (n := n) hm hm0
  have HT := Lib.hid hT
  have HS := Lib.hid (fun w => sgnT1 m hm h1 hd w)
  unfold FrOut FrV
  by_cases hneg : m < 0
  · have e1 : lowN n m = qz (-n) (gz n m) := by unfold lowN; rw [if_pos hneg]
    have e2 : lowD n m = qz (-m) (gz n m) := by unfold lowD; rw [if_pos hneg]
    have HN1 := Lib.hid (fun w (hT : Tab w) => negT n w hn h1 hd hT)
    have HN2 := Lib.hid (fun w (hT : Tab w) => negT m w hm h1 hd hT)
    have HG : Hid (∀ w, Tab w → Calls Tryz.prog 54 #[.string (T (-n)), .string (T (-m))] w fun e w' => e = .returned (.tuple #[.string (T (gz n m)), .int .i64 0]) ∧ Below w.heap.size w w') := by
      intro w hT
      have := gcdT (-n) (-m) w hn.neg hm.neg h1 hd hT
      rw [Int.natAbs_neg, Int.natAbs_neg] at this
      exact this
    have HQ1 := Lib.hid (fun w (hT : Tab w) => quoT (-n) (gz n m) w hn.neg hg h1 hd hg0 hT)
    have HQ2 := Lib.hid (fun w (hT : Tab w) => quoT (-m) (gz n m) w hm.neg hg h1 hd hg0 hT)
    have hs : sgn m = -1 := by unfold sgn; rw [if_pos hneg]
    rw [← e1] at HQ1
    rw [← e2] at HQ2
    rw [hs] at HS
    clear e1 e2 hg0 hg hT hneg hs
    generalize T (lowN n m) = A at *
    generalize T (lowD n m) = B at *
    generalize T (gz n m) = G at *
    generalize T (-n) = X' at *
    generalize T (-m) = Y' at *
    generalize T n = X at *
    generalize T m = Y at *
    clear hn hm hm0
    obtain ⟨W, hW, hR, hBl, hsz⟩ := box1T 24 w (.string ⟨#[]⟩) (.string ⟨#[]⟩)
    have HW := Lib.hid hW
    have HR := Lib.hid hR
    have HBL := Lib.hid hBl
    clear hW hR hBl hsz
    go_enter Tryz.func58, Tryz.ntmps58
    go_wp2_with fail
    rw [← HW.out]
    refine (HS.out _).mono ?_
    rintro e w1 ⟨rfl, hb1⟩
    have hB1 : Below w.heap.size w w1 := HBL.out.trans (hb1.mono HBL.out.size)
    have hR1 := Lib.hid (HR.out.keep hb1)
    clear hb1
    go_wp2_with fail
    refine (HN1.out _ (HT.out.keep hB1)).mono ?_
    rintro e w1a ⟨rfl, hb1a⟩
    have hB1a : Below w.heap.size w w1a := hB1.trans (hb1a.mono hB1.size)
    have hR1a := Lib.hid (hR1.out.keep hb1a)
    clear hb1a hB1 hR1
    go_wp2_with fail
    refine (HN2.out _ (HT.out.keep hB1a)).mono ?_
    rintro e w1 ⟨rfl, hb1⟩
    have hB1 : Below w.heap.size w w1 := hB1a.trans (hb1.mono hB1a.size)
    have hR1 := Lib.hid (hR1a.out.keep hb1)
    clear hb1 hB1a hR1a
    go_wp2_with fail
    refine (HG.out _ (HT.out.keep hB1)).mono ?_
    rintro e w2 ⟨rfl, hb2⟩
    have hB2 : Below w.heap.size w w2 := hB1.trans (hb2.mono hB1.size)
    have hR2 := Lib.hid (hR1.out.keep hb2)
    clear hb2
    go_wp2_with fail
    refine (HQ1.out _ (HT.out.keep hB2)).mono ?_
    rintro e w3 ⟨rfl, hb3⟩
    have hB3 : Below w.heap.size w w3 := hB2.trans (hb3.mono hB2.size)
    have hR3 := Lib.hid (hR2.out.keep hb3)
    clear hb3
    go_wp2_with fail
    refine (HQ2.out _ (HT.out.keep hB3)).mono ?_
    rintro e w4 ⟨rfl, hb4⟩
    have hB4 : Below w.heap.size w w4 := hB3.trans (hb4.mono hB3.size)
    have hR4 := hR3.out.keep hb4
    clear hb4
    have x0 := hR4.c0; have x1 := hR4.c1; have x2 := hR4.f0 0; have x3 := hR4.f0 1
    go_wp2
    refine bodyPost_ret (v := .agg #[.string A, .string B]) (by simp [results, Tryz.results58, go_sem, x0, x1]) rfl ⟨rfl, (hB4.setCell (by simp) _).setCell (by simp) _⟩
  · have e1 : lowN n m = qz n (gz n m) := by unfold lowN; rw [if_neg hneg]
    have e2 : lowD n m = qz m (gz n m) := by unfold lowD; rw [if_neg hneg]
    have HG : Hid (∀ w, Tab w → Calls Tryz.prog 54 #[.string (T n), .string (T m)] w fun e w' => e = .returned (.tuple #[.string (T (gz n m)), .int .i64 0]) ∧ Below w.heap.size w w') := fun w hT => gcdT n m w hn hm h1 hd hT
    have HQ1 := Lib.hid (fun w (hT : Tab w) => quoT n (gz n m) w hn hg h1 hd hg0 hT)
    have HQ2 := Lib.hid (fun w (hT : Tab w) => quoT m (gz n m) w hm hg h1 hd hg0 hT)
    have hs : sgn m = 1 := by unfold sgn; rw [if_neg hneg, if_pos (by omega)]
    rw [← e1] at HQ1
    rw [← e2] at HQ2
    rw [hs] at HS
    clear e1 e2 hg0 hg hT hneg hs
    generalize T (lowN n m) = A at *
    generalize T (lowD n m) = B at *
    generalize T (gz n m) = G at *
    generalize T n = X at *
    generalize T m = Y at *
    clear hn hm hm0
    obtain ⟨W, hW, hR, hBl, hsz⟩ := box1T 24 w (.string ⟨#[]⟩) (.string ⟨#[]⟩)
    have HW := Lib.hid hW
    have HR := Lib.hid hR
    have HBL := Lib.hid hBl
    clear hW hR hBl hsz
    go_enter Tryz.func58, Tryz.ntmps58
    go_wp2_with fail
    rw [← HW.out]
    refine (HS.out _).mono ?_
    rintro e w1 ⟨rfl, hb1⟩
    have hB1 : Below w.heap.size w w1 := HBL.out.trans (hb1.mono HBL.out.size)
    have hR1 := Lib.hid (HR.out.keep hb1)
    clear hb1
    go_wp2_with fail
    refine (HG.out _ (HT.out.keep hB1)).mono ?_
    rintro e w2 ⟨rfl, hb2⟩
    have hB2 : Below w.heap.size w w2 := hB1.trans (hb2.mono hB1.size)
    have hR2 := Lib.hid (hR1.out.keep hb2)
    clear hb2
    go_wp2_with fail
    refine (HQ1.out _ (HT.out.keep hB2)).mono ?_
    rintro e w3 ⟨rfl, hb3⟩
    have hB3 : Below w.heap.size w w3 := hB2.trans (hb3.mono hB2.size)
    have hR3 := Lib.hid (hR2.out.keep hb3)
    clear hb3
    go_wp2_with fail
    refine (HQ2.out _ (HT.out.keep hB3)).mono ?_
    rintro e w4 ⟨rfl, hb4⟩
    have hB4 : Below w.heap.size w w4 := hB3.trans (hb4.mono hB3.size)
    have hR4 := hR3.out.keep hb4
    clear hb4
    have x0 := hR4.c0; have x1 := hR4.c1; have x2 := hR4.f0 0; have x3 := hR4.f0 1
    go_wp2
    refine bodyPost_ret (v := .agg #[.string A, .string B]) (by simp [results, Tryz.results58, go_sem, x0, x1]) rfl ⟨rfl, (hB4.setCell (by simp) _).setCell (by simp) _⟩
end Go.Proofs.YtolkiimlchfmlaaGreatDoor

namespace Go.Proofs.YtolkiimlchfmlaaGreatDoor
open Go.RowKit Go.Proofs.Num

theorem few_of_te {d : Nat} (hd : d = 1024) {z : Int} (h : te z = 0) : Few d z := by
  unfold te at h
  split at h
  · cases h
  · exact Nat.lt_of_lt_of_le (Lib.lt_pow_nDigits _) (Nat.pow_le_pow_right (by omega) (by omega))
theorem str_tx {z : Int} (h : te z = 0) : str (tx z) = .string (T z) := by
  unfold te at h
  unfold tx
  split at h
  · cases h
  · rename_i h1; rw [if_neg h1]; rfl
theorem str_tx_no {z : Int} (h : te z ≠ 0) : str (tx z) = .string ⟨#[]⟩ := by
  unfold te at h
  unfold tx
  split at h
  · rename_i h1; rw [if_pos h1]; rfl
  · exact absurd rfl h
theorem op2_TT (f : Int → Int → Int) {d : Nat} {x y : Int} (hx : Few d x) (hy : Few d y) (h1 : 1 ≤ d) (hd : d ≤ 1024) : op2 f (T x).data.toList (T y).data.toList = (tx (f x y), te (f x y)) := by
  unfold op2
  rw [hx.chk h1 hd, hy.chk h1 hd, if_neg (by simp), if_neg (by simp), T_data, T_data, parse_itoa, parse_itoa]

theorem mulTT {d : Nat} (x y : Int) (w : World) (hx : Few d x) (hy : Few d y) (h1 : 1 ≤ d) (hd : d ≤ 1024) (hT : Tab w) : Calls Tryz.prog 47 #[.string (T x), .string (T y)] w (TextOut w (tx (x * y)) (te (x * y))) := by
  have h := mul_any (T x) (T y) (hx.size h1 hd) (hy.size h1 hd) w hT
  rw [op2_TT (· * ·) hx hy h1 hd] at h
  exact h
theorem addTT {d : Nat} (x y : Int) (w : World) (hx : Few d x) (hy : Few d y) (h1 : 1 ≤ d) (hd : d ≤ 1024) (hT : Tab w) : Calls Tryz.prog 109 #[.string (T x), .string (T y)] w (TextOut w (tx (x + y)) (te (x + y))) := by
  have h := add_any (T x) (T y) (hx.size h1 hd) (hy.size h1 hd) w hT
  rw [op2_TT (· + ·) hx hy h1 hd] at h
  exact h
theorem subTT {d : Nat} (x y : Int) (w : World) (hx : Few d x) (hy : Few d y) (h1 : 1 ≤ d) (hd : d ≤ 1024) (hT : Tab w) : Calls Tryz.prog 73 #[.string (T x), .string (T y)] w (TextOut w (tx (x - y)) (te (x - y))) := by
  have h := sub_any (T x) (T y) (hx.size h1 hd) (hy.size h1 hd) w hT
  rw [op2_TT (· - ·) hx hy h1 hd] at h
  exact h

/-- Hands back two texts and an error. -/
def Two2E (w : World) (A B : ByteArray) (c : Nat) (e : Ending) (w' : World) : Prop := e = .returned (.tuple #[.string A, .string B, .int .i64 ((c : Nat) : Int)]) ∧ Below w.heap.size w w'
/-- The error of two numbers that may be too long; the two texts. -/
def pc (x y : Int) : Nat := if te x ≠ 0 then te x else te y
def PA (x y : Int) : ByteArray := if pc x y ≠ 0 then ⟨#[]⟩ else T x
def PB (x y : Int) : ByteArray := if pc x y ≠ 0 then ⟨#[]⟩ else T y
theorem pc_zero {x y : Int} (h : pc x y = 0) : te x = 0 ∧ te y = 0 := by
  unfold pc at h
  by_cases h1 : te x ≠ 0
  · rw [if_pos h1] at h; exact absurd h h1
  · rw [if_neg h1] at h; exact ⟨by simpa using h1, h⟩

set_option maxHeartbeats 1600000 in
set_option maxRecDepth 100000 in
theorem fproducts {d : Nat} (a b c e : Int) (ha : Few d a) (hb : Few d b) (hc : Few d c) (he : Few d e) (h1 : 1 ≤ d) (hd : d ≤ 1024) (w : World) (hT : Tab w) :
    Calls Tryz.prog 114 #[.string (T a), .string (T b), .string (T c), .string (T e)] w (Two2E w (PA (a * b) (c * e)) (PB (a * b) (c * e)) (pc (a * b) (c * e))) := by
  have HM1 := Lib.hid (fun w (hT : Tab w) => mulTT a b w ha hb h1 hd hT)
  have HM2 := Lib.hid (fun w (hT : Tab w) => mulTT c e w hc he h1 hd hT)
  have HT := Lib.hid hT
  clear ha hb hc he hT
  unfold TextOut at HM1 HM2
  generalize T a = X1 at *
  generalize T b = X2 at *
  generalize T c = X3 at *
  generalize T e = X4 at *
  generalize a * b = x at *
  generalize c * e = y at *
  unfold Two2E PA PB
  by_cases hx : te x = 0
  · rw [str_tx hx, hx] at HM1
    by_cases hy : te y = 0
    · rw [str_tx hy, hy] at HM2
      have hp : pc x y = 0 := by unfold pc; rw [hx, if_neg (by simp)]; exact hy
      rw [hp, if_neg (by simp), if_neg (by simp)]
      generalize T x = P at *
      generalize T y = Q at *
      clear hx hy hp
      go_enter Tryz.func114, Tryz.ntmps114
      go_wp2_with fail
      refine (HM1.out _ HT.out).mono ?_
      rintro e w1 ⟨rfl, hb1⟩
      go_wp2_with fail
      refine (HM2.out _ (HT.out.keep hb1)).mono ?_
      rintro e w2 ⟨rfl, hb2⟩
      go_wp2
      refine bodyPost_ret (v := .tuple #[.string P, .string Q, .int .i64 0]) (by simp [results, Tryz.results114, go_sem]) rfl ⟨rfl, hb1.trans (hb2.mono hb1.size)⟩
    · have hp : pc x y = te y := by unfold pc; rw [hx, if_neg (by simp)]
      rw [hp, if_pos hy, if_pos hy]
      generalize T x = P at *
      generalize hk : te y = k at *
      generalize str (tx y) = S at *
      have hx1 : ¬ ((k : Nat) : Int) = 0 := by omega
      have hx2 : ((k : Int) == 0) = false := beq_eq_false_iff_ne.2 hx1
      clear hx hy hp hk
      go_enter Tryz.func114, Tryz.ntmps114
      go_wp2_with fail
      refine (HM1.out _ HT.out).mono ?_
      rintro e w1 ⟨rfl, hb1⟩
      go_wp2_with fail
      refine (HM2.out _ (HT.out.keep hb1)).mono ?_
      rintro e w2 ⟨rfl, hb2⟩
      go_wp2
      refine bodyPost_ret (v := .tuple #[.string ⟨#[]⟩, .string ⟨#[]⟩, .int .i64 (k : Int)]) (by simp [results, Tryz.results114, go_sem]) rfl ⟨rfl, hb1.trans (hb2.mono hb1.size)⟩
  · have hp : pc x y = te x := by unfold pc; rw [if_pos hx]
    rw [hp, if_pos hx, if_pos hx]
    generalize hk : te x = k at *
    generalize str (tx x) = S at *
    have hx1 : ¬ ((k : Nat) : Int) = 0 := by omega
    have hx2 : ((k : Int) == 0) = false := beq_eq_false_iff_ne.2 hx1
    clear hx hp hk
    go_enter Tryz.func114, Tryz.ntmps114
    go_wp2_with fail
    refine (HM1.out _ HT.out).mono ?_
    rintro e w1 ⟨rfl, hb1⟩
    go_wp2
    refine bodyPost_ret (v := .tuple #[.string ⟨#[]⟩, .string ⟨#[]⟩, .int .i64 (k : Int)]) (by simp [results, Tryz.results114, go_sem]) rfl ⟨rfl, hb1⟩

set_option maxHeartbeats 1600000 in
set_option maxRecDepth 100000 in
theorem fcrossed {D : Nat} (n d m e : Int) (hn : Few D n) (hd : Few D d) (hm : Few D m) (he : Few D e) (h1 : 1 ≤ D) (hD : D ≤ 1024) (w : World) (hT : Tab w) :
    Calls Tryz.prog 84 #[FrV (T n) (T d), FrV (T m) (T e)] w (Two2E w (PA (n * e) (m * d)) (PB (n * e) (m * d)) (pc (n * e) (m * d))) := by
  have HP := Lib.hid (fun w (hT : Tab w) => fproducts n e m d hn he hm hd h1 hD w hT)
  have HT := Lib.hid hT
  unfold Two2E at *
  generalize PA (n * e) (m * d) = P at *
  generalize PB (n * e) (m * d) = Q at *
  generalize pc (n * e) (m * d) = k at *
  unfold FrV
  generalize T n = X1 at *
  generalize T d = X2 at *
  generalize T m = X3 at *
  generalize T e = X4 at *
  obtain ⟨W, hW, hA, hB, hBl, hsz⟩ := box2T 24 w (.string X1) (.string X2) (.string X3) (.string X4)
  have x0 := hA.c0; have x1 := hA.c1; have y0 := hB.c0; have y1 := hB.c1
  have HBL := Lib.hid hBl
  have HW := Lib.hid hW
  rw [hW] at x0 x1 y0 y1
  clear hn hd hm he hT hA hB hBl hsz hW
  go_enter Tryz.func84, Tryz.ntmps84
  go_wp2_with fail
  rw [← HW.out]
  refine (HP.out _ (HT.out.keep HBL.out)).mono ?_
  rintro e w1 ⟨rfl, hb1⟩
  go_wp2
  refine bodyPost_ret (v := .tuple #[.string P, .string Q, .int .i64 (k : Int)]) (by simp [results, Tryz.results84, go_sem]) rfl ⟨rfl, HBL.out.trans (hb1.mono HBL.out.size)⟩

/-- The numbers of a result, or nothing beside an error. -/
def frA (c : Nat) (x y : Int) : ByteArray := if c ≠ 0 then ⟨#[]⟩ else T (lowN x y)
def frB (c : Nat) (x y : Int) : ByteArray := if c ≠ 0 then ⟨#[]⟩ else T (lowD x y)
end Go.Proofs.YtolkiimlchfmlaaGreatDoor

namespace Go.Proofs.YtolkiimlchfmlaaGreatDoor
open Go.RowKit Go.Proofs.Num

theorem PA_zero {x y : Int} (h : pc x y = 0) : PA x y = T x := by unfold PA; rw [h, if_neg (by simp)]
theorem PB_zero {x y : Int} (h : pc x y = 0) : PB x y = T y := by unfold PB; rw [h, if_neg (by simp)]
theorem frA_zero (x y : Int) : frA 0 x y = T (lowN x y) := by unfold frA; rw [if_neg (by simp)]
theorem frB_zero (x y : Int) : frB 0 x y = T (lowD x y) := by unfold frB; rw [if_neg (by simp)]
theorem frA_bad {c : Nat} (h : c ≠ 0) (x y : Int) : frA c x y = ⟨#[]⟩ := by unfold frA; rw [if_pos h]
theorem frB_bad {c : Nat} (h : c ≠ 0) (x y : Int) : frB c x y = ⟨#[]⟩ := by unfold frB; rw [if_pos h]

set_option maxHeartbeats 1600000 in
set_option maxRecDepth 100000 in
theorem fmultiplied {D : Nat} (n d a b : Int) (hn : Few D n) (hd : Few D d) (ha : Few D a) (hb : Few D b) (h1 : 1 ≤ D) (hD : D = 1024) (h0 : d * b ≠ 0) (w : World) (hT : Tab w) :
    Calls Tryz.prog 77 #[FrV (T n) (T d), .string (T a), .string (T b)] w (FrE w (frA (pc (n * a) (d * b)) (n * a) (d * b)) (frB (pc (n * a) (d * b)) (n * a) (d * b)) (pc (n * a) (d * b))) := by
  have HP := Lib.hid (fun w (hT : Tab w) => fproducts n a d b hn ha hd hb h1 (by omega) w hT)
  have HT := Lib.hid hT
  have HLOW : Hid (pc (n * a) (d * b) = 0 → ∀ w, Tab w → Calls Tryz.prog 58 #[.string (T (n * a)), .string (T (d * b))] w (FrOut w (T (lowN (n * a) (d * b))) (T (lowD (n * a) (d * b))))) := fun h w hT =>
    flowest _ _ (few_of_te hD (pc_zero h).1) (few_of_te hD (pc_zero h).2) h0 h1 (by omega) w hT
  generalize n * a = x at *
  generalize d * b = y at *
  unfold FrV
  generalize T n = X1 at *
  generalize T d = X2 at *
  generalize T a = X3 at *
  generalize T b = X4 at *
  obtain ⟨W, hW, hA, hR, hBl, hsz⟩ := box2T 24 w (.string X1) (.string X2) (.string ⟨#[]⟩) (.string ⟨#[]⟩)
  have x0 := hA.c0; have x1 := hA.c1
  have HR := Lib.hid hR
  have HBL := Lib.hid hBl
  have HW := Lib.hid hW
  rw [hW] at x0 x1
  clear hn hd ha hb hT hA hR hBl hsz hW h0
  unfold FrE FrV
  unfold Two2E at HP
  by_cases hc : pc x y = 0
  · rw [PA_zero hc, PB_zero hc, hc] at HP
    have HL := Lib.hid (HLOW.out hc)
    rw [hc, frA_zero, frB_zero]
    unfold FrOut FrV at HL
    clear HLOW hc
    generalize T (lowN x y) = A at *
    generalize T (lowD x y) = B at *
    generalize T x = U at *
    generalize T y = V at *
    go_enter Tryz.func77, Tryz.ntmps77
    go_wp2_with fail
    rw [← HW.out]
    refine (HP.out _ (HT.out.keep HBL.out)).mono ?_
    rintro e w1 ⟨rfl, hb1⟩
    have hB1 : Below w.heap.size w w1 := HBL.out.trans (hb1.mono HBL.out.size)
    have hR1 := HR.out.keep hb1
    go_wp2_with fail
    refine (HL.out _ (HT.out.keep hB1)).mono ?_
    rintro e w2 ⟨rfl, hb2⟩
    have hB2 : Below w.heap.size w w2 := hB1.trans (hb2.mono hB1.size)
    have hR2 := hR1.keep hb2
    clear hR1 x0 x1
    have x0 := hR2.c0; have x1 := hR2.c1; have x2 := hR2.f0 0; have x3 := hR2.f0 1
    go_wp2
    refine bodyPost_ret (v := .tuple #[.agg #[.string A, .string B], .int .i64 0]) (by simp [results, Tryz.results77, go_sem, x0, x1]) rfl ⟨rfl, (hB2.setCell (by simp <;> omega) _).setCell (by simp <;> omega) _⟩
  · rw [frA_bad hc, frB_bad hc]
    generalize pc x y = k at *
    generalize PA x y = U at *
    generalize PB x y = V at *
    have hx1 : ¬ ((k : Nat) : Int) = 0 := by omega
    have hx2 : ((k : Int) == 0) = false := beq_eq_false_iff_ne.2 hx1
    clear HLOW hc
    go_enter Tryz.func77, Tryz.ntmps77
    go_wp2_with fail
    rw [← HW.out]
    refine (HP.out _ (HT.out.keep HBL.out)).mono ?_
    rintro e w1 ⟨rfl, hb1⟩
    have hB1 : Below w.heap.size w w1 := HBL.out.trans (hb1.mono HBL.out.size)
    have hR1 := HR.out.keep hb1
    clear x0 x1
    have x0 := hR1.c0; have x1 := hR1.c1; have x2 := hR1.f0 0; have x3 := hR1.f0 1
    go_wp2
    refine bodyPost_ret (v := .tuple #[.agg #[.string ⟨#[]⟩, .string ⟨#[]⟩], .int .i64 (k : Int)]) (by simp [results, Tryz.results77, go_sem, x0, x1]) rfl ⟨rfl, (hB1.setCell (by simp <;> omega) _).setCell (by simp <;> omega) _⟩

/-- The error of a sum or difference. -/
def cc (x y z u : Int) : Nat := if pc x y ≠ 0 then pc x y else if te z ≠ 0 then te z else te u

set_option maxHeartbeats 3200000 in
set_option maxRecDepth 100000 in
theorem fcombined_add {D : Nat} (n d m e : Int) (hn : Few D n) (hd : Few D d) (hm : Few D m) (he : Few D e) (h1 : 1 ≤ D) (hD : D = 1024) (h0 : d * e ≠ 0) (w : World) (hT : Tab w) :
    Calls Tryz.prog 72 #[FrV (T n) (T d), FrV (T m) (T e), .func (.func 109) #[] #[]] w
      (FrE w (frA (cc (n * e) (m * d) (n * e + m * d) (d * e)) (n * e + m * d) (d * e)) (frB (cc (n * e) (m * d) (n * e + m * d) (d * e)) (n * e + m * d) (d * e)) (cc (n * e) (m * d) (n * e + m * d) (d * e))) := by
  have HC := Lib.hid (fun w (hT : Tab w) => fcrossed n d m e hn hd hm he h1 (by omega) w hT)
  have HO : Hid (pc (n * e) (m * d) = 0 → ∀ w, Tab w → Calls Tryz.prog 109 #[.string (T (n * e)), .string (T (m * d))] w (TextOut w (tx (n * e + m * d)) (te (n * e + m * d)))) := fun h w hT =>
    addTT _ _ w (few_of_te hD (pc_zero h).1) (few_of_te hD (pc_zero h).2) h1 (by omega) hT
  have HM := Lib.hid (fun w (hT : Tab w) => mulTT d e w hd he h1 (by omega) hT)
  have HLOW : Hid (te (n * e + m * d) = 0 → te (d * e) = 0 → ∀ w, Tab w → Calls Tryz.prog 58 #[.string (T (n * e + m * d)), .string (T (d * e))] w (FrOut w (T (lowN (n * e + m * d) (d * e))) (T (lowD (n * e + m * d) (d * e))))) := fun h h' w hT =>
    flowest _ _ (few_of_te hD h) (few_of_te hD h') h0 h1 (by omega) w hT
  have HT := Lib.hid hT
  generalize n * e + m * d = z at *
  generalize n * e = x at *
  generalize m * d = y at *
  generalize d * e = u at *
  unfold FrV at HC ⊢
  generalize T n = X1 at *
  generalize T d = X2 at *
  generalize T m = X3 at *
  generalize T e = X4 at *
  obtain ⟨W, hW, hA, hB, hR, hBl, hsz⟩ := box3T 24 w (.string X1) (.string X2) (.string X3) (.string X4) (.string ⟨#[]⟩) (.string ⟨#[]⟩)
  have x0 := hA.c0; have x1 := hA.c1; have y0 := hB.c0; have y1 := hB.c1
  have HA := Lib.hid hA
  have HB := Lib.hid hB
  have HR := Lib.hid hR
  have HBL := Lib.hid hBl
  have HW := Lib.hid hW
  rw [hW] at x0 x1 y0 y1
  clear hn hd hm he hT hA hB hR hBl hsz hW h0
  unfold FrE FrV
  unfold Two2E at HC
  unfold TextOut at HO HM
  by_cases hc : pc x y = 0
  · rw [PA_zero hc, PB_zero hc, hc] at HC
    have HOO := Lib.hid (HO.out hc)
    by_cases hz : te z = 0
    · rw [str_tx hz, hz] at HOO
      have hcc : cc x y z u = te u := by unfold cc; rw [hc, hz, if_neg (by simp), if_neg (by simp)]
      rw [hcc]
      by_cases hu : te u = 0
      · rw [str_tx hu, hu] at HM
        have HL := Lib.hid (HLOW.out hz hu)
        unfold FrOut FrV at HL
        rw [hu, frA_zero, frB_zero]
        generalize T (lowN z u) = A at *
        generalize T (lowD z u) = B at *
        generalize T x = P at *
        generalize T y = Q at *
        generalize T z = R at *
        generalize T u = S at *
        clear HLOW HO hc hz hu hcc
        go_enter Tryz.func72, Tryz.ntmps72
        go_wp2_with fail
        rw [← HW.out]
        refine (HC.out _ (HT.out.keep HBL.out)).mono ?_
        rintro en w1 ⟨rfl, hb1⟩
        have hB1 : Below w.heap.size w w1 := HBL.out.trans (hb1.mono HBL.out.size)
        have hR1 := HR.out.keep hb1
        have hA1 := HA.out.keep hb1
        have hE1 := HB.out.keep hb1
        go_wp2_with fail
        refine (HOO.out _ (HT.out.keep hB1)).mono ?_
        rintro en w2 ⟨rfl, hb2⟩
        have hB2 : Below w.heap.size w w2 := hB1.trans (hb2.mono hB1.size)
        have hR2 := hR1.keep hb2
        have hA2 := hA1.keep hb2
        have hE2 := hE1.keep hb2
        clear hR1 hA1 hE1 hb1 hb2 hB1
        clear x0 x1 y0 y1
        have x0 := hA2.c0; have x1 := hA2.c1; have y0 := hE2.c0; have y1 := hE2.c1
        go_wp2_with fail
        refine (HM.out _ (HT.out.keep hB2)).mono ?_
        rintro en w3 ⟨rfl, hb3⟩
        have hB3 : Below w.heap.size w w3 := hB2.trans (hb3.mono hB2.size)
        have hR3 := hR2.keep hb3
        clear hR2 hA2 hE2 hb3 hB2
        go_wp2_with fail
        refine (HL.out _ (HT.out.keep hB3)).mono ?_
        rintro en w4 ⟨rfl, hb4⟩
        have hB4 : Below w.heap.size w w4 := hB3.trans (hb4.mono hB3.size)
        have hR4 := hR3.keep hb4
        clear x0 x1 y0 y1 hR3
        have x0 := hR4.c0; have x1 := hR4.c1; have x2 := hR4.f0 0; have x3 := hR4.f0 1
        go_wp2
        refine bodyPost_ret (v := .tuple #[.agg #[.string A, .string B], .int .i64 0]) (by simp [results, Tryz.results72, go_sem, x0, x1]) rfl ⟨rfl, (hB4.setCell (by simp <;> omega) _).setCell (by simp <;> omega) _⟩
      · rw [frA_bad hu, frB_bad hu]
        generalize te u = k at *
        generalize str (tx u) = S at *
        generalize T x = P at *
        generalize T y = Q at *
        generalize T z = R at *
        have hk1 : ¬ ((k : Nat) : Int) = 0 := by omega
        have hk2 : ((k : Int) == 0) = false := beq_eq_false_iff_ne.2 hk1
        clear HLOW HO hc hz hu hcc
        go_enter Tryz.func72, Tryz.ntmps72
        go_wp2_with fail
        rw [← HW.out]
        refine (HC.out _ (HT.out.keep HBL.out)).mono ?_
        rintro en w1 ⟨rfl, hb1⟩
        have hB1 : Below w.heap.size w w1 := HBL.out.trans (hb1.mono HBL.out.size)
        have hR1 := HR.out.keep hb1
        have hA1 := HA.out.keep hb1
        have hE1 := HB.out.keep hb1
        go_wp2_with fail
        refine (HOO.out _ (HT.out.keep hB1)).mono ?_
        rintro en w2 ⟨rfl, hb2⟩
        have hB2 : Below w.heap.size w w2 := hB1.trans (hb2.mono hB1.size)
        have hR2 := hR1.keep hb2
        have hA2 := hA1.keep hb2
        have hE2 := hE1.keep hb2
        clear hR1 hA1 hE1 hb1 hb2 hB1
        clear x0 x1 y0 y1
        have x0 := hA2.c0; have x1 := hA2.c1; have y0 := hE2.c0; have y1 := hE2.c1
        go_wp2_with fail
        refine (HM.out _ (HT.out.keep hB2)).mono ?_
        rintro en w3 ⟨rfl, hb3⟩
        have hB3 : Below w.heap.size w w3 := hB2.trans (hb3.mono hB2.size)
        have hR3 := hR2.keep hb3
        clear hR2 hA2 hE2 hb3 hB2
        clear x0 x1 y0 y1
        have x0 := hR3.c0; have x1 := hR3.c1; have x2 := hR3.f0 0; have x3 := hR3.f0 1
        go_wp2
        refine bodyPost_ret (v := .tuple #[.agg #[.string ⟨#[]⟩, .string ⟨#[]⟩], .int .i64 (k : Int)]) (by simp [results, Tryz.results72, go_sem, x0, x1]) rfl ⟨rfl, (hB3.setCell (by simp <;> omega) _).setCell (by simp <;> omega) _⟩
    · have hcc : cc x y z u = te z := by unfold cc; rw [hc, if_neg (by simp), if_pos hz]
      rw [hcc, frA_bad hz, frB_bad hz]
      generalize te z = k at *
      generalize str (tx z) = R at *
      generalize T x = P at *
      generalize T y = Q at *
      have hk1 : ¬ ((k : Nat) : Int) = 0 := by omega
      have hk2 : ((k : Int) == 0) = false := beq_eq_false_iff_ne.2 hk1
      clear HLOW HO HM hc hz hcc
      go_enter Tryz.func72, Tryz.ntmps72
      go_wp2_with fail
      rw [← HW.out]
      refine (HC.out _ (HT.out.keep HBL.out)).mono ?_
      rintro en w1 ⟨rfl, hb1⟩
      have hB1 : Below w.heap.size w w1 := HBL.out.trans (hb1.mono HBL.out.size)
      have hR1 := HR.out.keep hb1
      have hA1 := HA.out.keep hb1
      have hE1 := HB.out.keep hb1
      go_wp2_with fail
      refine (HOO.out _ (HT.out.keep hB1)).mono ?_
      rintro en w2 ⟨rfl, hb2⟩
      have hB2 : Below w.heap.size w w2 := hB1.trans (hb2.mono hB1.size)
      have hR2 := hR1.keep hb2
      have hA2 := hA1.keep hb2
      have hE2 := hE1.keep hb2
      clear hR1 hA1 hE1 hb1 hb2 hB1
      clear x0 x1 y0 y1
      have x0 := hR2.c0; have x1 := hR2.c1; have x2 := hR2.f0 0; have x3 := hR2.f0 1
      go_wp2
      refine bodyPost_ret (v := .tuple #[.agg #[.string ⟨#[]⟩, .string ⟨#[]⟩], .int .i64 (k : Int)]) (by simp [results, Tryz.results72, go_sem, x0, x1]) rfl ⟨rfl, (hB2.setCell (by simp <;> omega) _).setCell (by simp <;> omega) _⟩
  · have hcc : cc x y z u = pc x y := by unfold cc; rw [if_pos hc]
    rw [hcc, frA_bad hc, frB_bad hc]
    generalize pc x y = k at *
    generalize PA x y = P at *
    generalize PB x y = Q at *
    have hk1 : ¬ ((k : Nat) : Int) = 0 := by omega
    have hk2 : ((k : Int) == 0) = false := beq_eq_false_iff_ne.2 hk1
    clear HLOW HO HM hc hcc
    go_enter Tryz.func72, Tryz.ntmps72
    go_wp2_with fail
    rw [← HW.out]
    refine (HC.out _ (HT.out.keep HBL.out)).mono ?_
    rintro en w1 ⟨rfl, hb1⟩
    have hB1 : Below w.heap.size w w1 := HBL.out.trans (hb1.mono HBL.out.size)
    have hR1 := HR.out.keep hb1
    have hA1 := HA.out.keep hb1
    have hE1 := HB.out.keep hb1
    clear x0 x1 y0 y1
    have x0 := hR1.c0; have x1 := hR1.c1; have x2 := hR1.f0 0; have x3 := hR1.f0 1
    go_wp2
    refine bodyPost_ret (v := .tuple #[.agg #[.string ⟨#[]⟩, .string ⟨#[]⟩], .int .i64 (k : Int)]) (by simp [results, Tryz.results72, go_sem, x0, x1]) rfl ⟨rfl, (hB1.setCell (by simp <;> omega) _).setCell (by simp <;> omega) _⟩

set_option maxHeartbeats 3200000 in
set_option maxRecDepth 100000 in
theorem fcombined_sub {D : Nat} (n d m e : Int) (hn : Few D n) (hd : Few D d) (hm : Few D m) (he : Few D e) (h1 : 1 ≤ D) (hD : D = 1024) (h0 : d * e ≠ 0) (w : World) (hT : Tab w) :
    Calls Tryz.prog 72 #[FrV (T n) (T d), FrV (T m) (T e), .func (.func 73) #[] #[]] w
      (FrE w (frA (cc (n * e) (m * d) (n * e - m * d) (d * e)) (n * e - m * d) (d * e)) (frB (cc (n * e) (m * d) (n * e - m * d) (d * e)) (n * e - m * d) (d * e)) (cc (n * e) (m * d) (n * e - m * d) (d * e))) := by
  have HC := Lib.hid (fun w (hT : Tab w) => fcrossed n d m e hn hd hm he h1 (by omega) w hT)
  have HO : Hid (pc (n * e) (m * d) = 0 → ∀ w, Tab w → Calls Tryz.prog 73 #[.string (T (n * e)), .string (T (m * d))] w (TextOut w (tx (n * e - m * d)) (te (n * e - m * d)))) := fun h w hT =>
    subTT _ _ w (few_of_te hD (pc_zero h).1) (few_of_te hD (pc_zero h).2) h1 (by omega) hT
  have HM := Lib.hid (fun w (hT : Tab w) => mulTT d e w hd he h1 (by omega) hT)
  have HLOW : Hid (te (n * e - m * d) = 0 → te (d * e) = 0 → ∀ w, Tab w → Calls Tryz.prog 58 #[.string (T (n * e - m * d)), .string (T (d * e))] w (FrOut w (T (lowN (n * e - m * d) (d * e))) (T (lowD (n * e - m * d) (d * e))))) := fun h h' w hT =>
    flowest _ _ (few_of_te hD h) (few_of_te hD h') h0 h1 (by omega) w hT
  have HT := Lib.hid hT
  generalize n * e - m * d = z at *
  generalize n * e = x at *
  generalize m * d = y at *
  generalize d * e = u at *
  unfold FrV at HC ⊢
  generalize T n = X1 at *
  generalize T d = X2 at *
  generalize T m = X3 at *
  generalize T e = X4 at *
  obtain ⟨W, hW, hA, hB, hR, hBl, hsz⟩ := box3T 24 w (.string X1) (.string X2) (.string X3) (.string X4) (.string ⟨#[]⟩) (.string ⟨#[]⟩)
  have x0 := hA.c0; have x1 := hA.c1; have y0 := hB.c0; have y1 := hB.c1
  have HA := Lib.hid hA
  have HB := Lib.hid hB
  have HR := Lib.hid hR
  have HBL := Lib.hid hBl
  have HW := Lib.hid hW
  rw [hW] at x0 x1 y0 y1
  clear hn hd hm he hT hA hB hR hBl hsz hW h0
  unfold FrE FrV
  unfold Two2E at HC
  unfold TextOut at HO HM
  by_cases hc : pc x y = 0
  · rw [PA_zero hc, PB_zero hc, hc] at HC
    have HOO := Lib.hid (HO.out hc)
    by_cases hz : te z = 0
    · rw [str_tx hz, hz] at HOO
      have hcc : cc x y z u = te u := by unfold cc; rw [hc, hz, if_neg (by simp), if_neg (by simp)]
      rw [hcc]
      by_cases hu : te u = 0
      · rw [str_tx hu, hu] at HM
        have HL := Lib.hid (HLOW.out hz hu)
        unfold FrOut FrV at HL
        rw [hu, frA_zero, frB_zero]
        generalize T (lowN z u) = A at *
        generalize T (lowD z u) = B at *
        generalize T x = P at *
        generalize T y = Q at *
        generalize T z = R at *
        generalize T u = S at *
        clear HLOW HO hc hz hu hcc
        go_enter Tryz.func72, Tryz.ntmps72
        go_wp2_with fail
        rw [← HW.out]
        refine (HC.out _ (HT.out.keep HBL.out)).mono ?_
        rintro en w1 ⟨rfl, hb1⟩
        have hB1 : Below w.heap.size w w1 := HBL.out.trans (hb1.mono HBL.out.size)
        have hR1 := HR.out.keep hb1
        have hA1 := HA.out.keep hb1
        have hE1 := HB.out.keep hb1
        go_wp2_with fail
        refine (HOO.out _ (HT.out.keep hB1)).mono ?_
        rintro en w2 ⟨rfl, hb2⟩
        have hB2 : Below w.heap.size w w2 := hB1.trans (hb2.mono hB1.size)
        have hR2 := hR1.keep hb2
        have hA2 := hA1.keep hb2
        have hE2 := hE1.keep hb2
        clear hR1 hA1 hE1 hb1 hb2 hB1
        clear x0 x1 y0 y1
        have x0 := hA2.c0; have x1 := hA2.c1; have y0 := hE2.c0; have y1 := hE2.c1
        go_wp2_with fail
        refine (HM.out _ (HT.out.keep hB2)).mono ?_
        rintro en w3 ⟨rfl, hb3⟩
        have hB3 : Below w.heap.size w w3 := hB2.trans (hb3.mono hB2.size)
        have hR3 := hR2.keep hb3
        clear hR2 hA2 hE2 hb3 hB2
        go_wp2_with fail
        refine (HL.out _ (HT.out.keep hB3)).mono ?_
        rintro en w4 ⟨rfl, hb4⟩
        have hB4 : Below w.heap.size w w4 := hB3.trans (hb4.mono hB3.size)
        have hR4 := hR3.keep hb4
        clear x0 x1 y0 y1 hR3
        have x0 := hR4.c0; have x1 := hR4.c1; have x2 := hR4.f0 0; have x3 := hR4.f0 1
        go_wp2
        refine bodyPost_ret (v := .tuple #[.agg #[.string A, .string B], .int .i64 0]) (by simp [results, Tryz.results72, go_sem, x0, x1]) rfl ⟨rfl, (hB4.setCell (by simp <;> omega) _).setCell (by simp <;> omega) _⟩
      · rw [frA_bad hu, frB_bad hu]
        generalize te u = k at *
        generalize str (tx u) = S at *
        generalize T x = P at *
        generalize T y = Q at *
        generalize T z = R at *
        have hk1 : ¬ ((k : Nat) : Int) = 0 := by omega
        have hk2 : ((k : Int) == 0) = false := beq_eq_false_iff_ne.2 hk1
        clear HLOW HO hc hz hu hcc
        go_enter Tryz.func72, Tryz.ntmps72
        go_wp2_with fail
        rw [← HW.out]
        refine (HC.out _ (HT.out.keep HBL.out)).mono ?_
        rintro en w1 ⟨rfl, hb1⟩
        have hB1 : Below w.heap.size w w1 := HBL.out.trans (hb1.mono HBL.out.size)
        have hR1 := HR.out.keep hb1
        have hA1 := HA.out.keep hb1
        have hE1 := HB.out.keep hb1
        go_wp2_with fail
        refine (HOO.out _ (HT.out.keep hB1)).mono ?_
        rintro en w2 ⟨rfl, hb2⟩
        have hB2 : Below w.heap.size w w2 := hB1.trans (hb2.mono hB1.size)
        have hR2 := hR1.keep hb2
        have hA2 := hA1.keep hb2
        have hE2 := hE1.keep hb2
        clear hR1 hA1 hE1 hb1 hb2 hB1
        clear x0 x1 y0 y1
        have x0 := hA2.c0; have x1 := hA2.c1; have y0 := hE2.c0; have y1 := hE2.c1
        go_wp2_with fail
        refine (HM.out _ (HT.out.keep hB2)).mono ?_
        rintro en w3 ⟨rfl, hb3⟩
        have hB3 : Below w.heap.size w w3 := hB2.trans (hb3.mono hB2.size)
        have hR3 := hR2.keep hb3
        clear hR2 hA2 hE2 hb3 hB2
        clear x0 x1 y0 y1
        have x0 := hR3.c0; have x1 := hR3.c1; have x2 := hR3.f0 0; have x3 := hR3.f0 1
        go_wp2
        refine bodyPost_ret (v := .tuple #[.agg #[.string ⟨#[]⟩, .string ⟨#[]⟩], .int .i64 (k : Int)]) (by simp [results, Tryz.results72, go_sem, x0, x1]) rfl ⟨rfl, (hB3.setCell (by simp <;> omega) _).setCell (by simp <;> omega) _⟩
    · have hcc : cc x y z u = te z := by unfold cc; rw [hc, if_neg (by simp), if_pos hz]
      rw [hcc, frA_bad hz, frB_bad hz]
      generalize te z = k at *
      generalize str (tx z) = R at *
      generalize T x = P at *
      generalize T y = Q at *
      have hk1 : ¬ ((k : Nat) : Int) = 0 := by omega
      have hk2 : ((k : Int) == 0) = false := beq_eq_false_iff_ne.2 hk1
      clear HLOW HO HM hc hz hcc
      go_enter Tryz.func72, Tryz.ntmps72
      go_wp2_with fail
      rw [← HW.out]
      refine (HC.out _ (HT.out.keep HBL.out)).mono ?_
      rintro en w1 ⟨rfl, hb1⟩
      have hB1 : Below w.heap.size w w1 := HBL.out.trans (hb1.mono HBL.out.size)
      have hR1 := HR.out.keep hb1
      have hA1 := HA.out.keep hb1
      have hE1 := HB.out.keep hb1
      go_wp2_with fail
      refine (HOO.out _ (HT.out.keep hB1)).mono ?_
      rintro en w2 ⟨rfl, hb2⟩
      have hB2 : Below w.heap.size w w2 := hB1.trans (hb2.mono hB1.size)
      have hR2 := hR1.keep hb2
      have hA2 := hA1.keep hb2
      have hE2 := hE1.keep hb2
      clear hR1 hA1 hE1 hb1 hb2 hB1
      clear x0 x1 y0 y1
      have x0 := hR2.c0; have x1 := hR2.c1; have x2 := hR2.f0 0; have x3 := hR2.f0 1
      go_wp2
      refine bodyPost_ret (v := .tuple #[.agg #[.string ⟨#[]⟩, .string ⟨#[]⟩], .int .i64 (k : Int)]) (by simp [results, Tryz.results72, go_sem, x0, x1]) rfl ⟨rfl, (hB2.setCell (by simp <;> omega) _).setCell (by simp <;> omega) _⟩
  · have hcc : cc x y z u = pc x y := by unfold cc; rw [if_pos hc]
    rw [hcc, frA_bad hc, frB_bad hc]
    generalize pc x y = k at *
    generalize PA x y = P at *
    generalize PB x y = Q at *
    have hk1 : ¬ ((k : Nat) : Int) = 0 := by omega
    have hk2 : ((k : Int) == 0) = false := beq_eq_false_iff_ne.2 hk1
    clear HLOW HO HM hc hcc
    go_enter Tryz.func72, Tryz.ntmps72
    go_wp2_with fail
    rw [← HW.out]
    refine (HC.out _ (HT.out.keep HBL.out)).mono ?_
    rintro en w1 ⟨rfl, hb1⟩
    have hB1 : Below w.heap.size w w1 := HBL.out.trans (hb1.mono HBL.out.size)
    have hR1 := HR.out.keep hb1
    have hA1 := HA.out.keep hb1
    have hE1 := HB.out.keep hb1
    clear x0 x1 y0 y1
    have x0 := hR1.c0; have x1 := hR1.c1; have x2 := hR1.f0 0; have x3 := hR1.f0 1
    go_wp2
    refine bodyPost_ret (v := .tuple #[.agg #[.string ⟨#[]⟩, .string ⟨#[]⟩], .int .i64 (k : Int)]) (by simp [results, Tryz.results72, go_sem, x0, x1]) rfl ⟨rfl, (hB1.setCell (by simp <;> omega) _).setCell (by simp <;> omega) _⟩
end Go.Proofs.YtolkiimlchfmlaaGreatDoor
