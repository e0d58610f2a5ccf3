/- Quotients, remainders and coefficients of texts of numbers. And: Numbers: what the coefficients combine to, and that the divisor is the greatest common one; and: Walks: the greatest common divisor. -/
import Derived.Test.YtnfmcdfdbipeoaaGreatDoorQ22
import Derived.Test.YtnfmcdfdbipeoaaGreatDoorQ20
import Derived.Test.YtnfmcdfdbipeoaaGreatDoorQ18
import Derived.Deep.LoopGhost
namespace Go.Proofs.YtnfmcdfdbipeoaaGreatDoor
open Go.RowKit Go.Proofs.Num

theorem rz_le (x y : Int) (hy : y ≠ 0) : (rz x y).natAbs < y.natAbs := by
  obtain ⟨h1, h2, h3⟩ := qz_spec x y hy
  rcases (show 0 < y ∨ y < 0 by omega) with h | h
  · have := h2 h; omega
  · have := h3 h; omega

theorem Few.of_le {d : Nat} {x y : Int} (h : Few d y) (hx : x.natAbs ≤ y.natAbs) : Few d x := Nat.lt_of_le_of_lt hx h

theorem chkD_T {d : Nat} {x y : Int} (hx : Few d x) (hy : Few d y) (h1 : 1 ≤ d) (hd : d ≤ 1024) (hy0 : y ≠ 0) : chkD (T x).data.toList (T y).data.toList = 0 := by
  have e1 := hx.chk h1 hd
  have e2 := hy.chk h1 hd
  unfold chkD chk2
  rw [e1, e2, T_data y, parse_itoa]
  simp [hy0]

theorem quoT {d : Nat} (x y : Int) (w : World) (hx : Few d x) (hy : Few d y) (h1 : 1 ≤ d) (hd : d ≤ 1024) (hy0 : y ≠ 0) (hT : Tab w) :
    Calls Tryz.prog 48 #[.string (T x), .string (T y)] w fun e w' => e = .returned (.tuple #[.string (T (qz x y)), .int .i64 0]) ∧ Below w.heap.size w w' := by
  have hq : Few d (qz x y) := hx.of_le (qz_le x y hy0)
  have hs := chk_sm _ (hx.chk h1 hd)
  have h := quo_ok y.natAbs (divTo_all _) (T x) (T y) (hx.size h1 hd) (hy.size h1 hd) (chkD_T hx hy h1 hd hy0) (by rw [T_data, parse_itoa]; exact Nat.le_refl _)
  rw [T_data x, T_data y, parse_itoa, parse_itoa, hq.tx h1 hd, hq.te h1 hd] at h
  rw [T_data, parse_itoa] at hs
  exact h (Sm.up (Sm.mono hs (qz_le x y hy0)) (by omega)) w hT

theorem remT {d : Nat} (x y : Int) (w : World) (hx : Few d x) (hy : Few d y) (h1 : 1 ≤ d) (hd : d ≤ 1024) (hy0 : y ≠ 0) (hT : Tab w) :
    Calls Tryz.prog 46 #[.string (T x), .string (T y)] w fun e w' => e = .returned (.tuple #[.string (T (rz x y)), .int .i64 0]) ∧ Below w.heap.size w w' := by
  have hq : Few d (rz x y) := hy.of_le (Nat.le_of_lt (rz_le x y hy0))
  have hs := chk_sm _ (hy.chk h1 hd)
  have h := rem_ok y.natAbs (divTo_all _) (T x) (T y) (hx.size h1 hd) (hy.size h1 hd) (chkD_T hx hy h1 hd hy0) (by rw [T_data, parse_itoa]; exact Nat.le_refl _)
  rw [T_data x, T_data y, parse_itoa, parse_itoa, hq.tx h1 hd, hq.te h1 hd] at h
  rw [T_data, parse_itoa] at hs
  exact h (Sm.up (Sm.mono hs (Nat.le_of_lt (rz_le x y hy0))) (by omega)) w hT

theorem bez_few {d : Nat} {n m : Int} (hn : Few d n) (hm : Few d m) (h1 : 1 ≤ d) : Few d (bez n m).1 ∧ Few d (bez n m).2.1 ∧ Few (d + d + 1) (bez n m).2.2 := by
  have hs : Few d (sgn n) := by
    have h2 : (sgn n).natAbs ≤ 1 := by
      unfold sgn
      by_cases h : n < 0
      · rw [if_pos h]; decide
      · rw [if_neg h]
        by_cases h' : 0 < n
        · rw [if_pos h']; decide
        · rw [if_neg h']; decide
    have h3 : 10 ^ 1 ≤ 10 ^ d := Nat.pow_le_pow_right (by omega) h1
    unfold Few; omega
  unfold bez
  by_cases h0 : m = 0
  · rw [if_pos h0]
    refine ⟨hn.of_le (by omega), hs, ?_⟩
    show (0 : Int).natAbs < _
    exact Nat.pow_pos (by omega)
  · rw [if_neg h0]
    have h := coefB (n := n) h0
    generalize (inv ((m.natAbs : Nat) : Int) (rz n ((m.natAbs : Nat) : Int)) 0 1).1 = g at *
    generalize (inv ((m.natAbs : Nat) : Int) (rz n ((m.natAbs : Nat) : Int)) 0 1).2 = x at *
    generalize qz ((m.natAbs : Nat) : Int) g = q at *
    generalize rz x q = z at *
    have sg : Few d g := hm.of_le (by have := h.d0; have := h.dm; omega)
    have sz : Few d z := hm.of_le (by have := h.z0; have := h.zm; omega)
    have sp : Few (d + d + 1) (g - n * z) := (sg.le (show d ≤ d + d by omega)).sub (hn.mul sz)
    exact ⟨sg, sz, sp.of_le (qz_le _ _ h0)⟩

end Go.Proofs.YtnfmcdfdbipeoaaGreatDoor

namespace Go.Proofs.YtnfmcdfdbipeoaaGreatDoor
open Go.RowKit Go.Proofs.Num

theorem dvd_step {k r x : Int} (q : Int) : (k ∣ x ∧ k ∣ r - x * q) ↔ (k ∣ r ∧ k ∣ x) := by
  constructor
  · rintro ⟨h1, h2⟩
    have h3 := Int.dvd_add h2 (Int.dvd_mul_of_dvd_left h1 (c := q))
    rw [Int.sub_add_cancel] at h3
    exact ⟨h3, h1⟩
  · rintro ⟨h1, h2⟩
    exact ⟨h2, Int.dvd_sub h1 (Int.dvd_mul_of_dvd_left h2 (c := q))⟩

theorem inv_spec (n m : Int) : ∀ (k : Nat) (r x f g : Int), x.toNat ≤ k → 0 ≤ x → m ∣ n * f - r → m ∣ n * g - x → (∀ d : Int, (d ∣ r ∧ d ∣ x) ↔ (d ∣ n ∧ d ∣ m)) →
    m ∣ n * (inv r x f g).2 - (inv r x f g).1 ∧ ∀ d : Int, d ∣ (inv r x f g).1 ↔ (d ∣ n ∧ d ∣ m) := by
  intro k
  induction k with
  | zero =>
    intro r x f g hk hx h1 h2 h3
    obtain rfl : x = 0 := by omega
    rw [inv_stop]
    exact ⟨h1, fun d => by rw [← h3 d]; simp⟩
  | succ k ih =>
    intro r x f g hk hx h1 h2 h3
    by_cases h0 : 0 < x
    · rw [inv_go h0]
      obtain ⟨p1, p2, p3⟩ := rz_pos (r := r) h0
      refine ih _ _ _ _ (by omega) p1 h2 ?_ (fun d => ?_)
      · have e : n * (f - qz r x * g) - rz r x = (n * f - r) - qz r x * (n * g - x) := by
          have e1 : rz r x = r - qz r x * x := by omega
          rw [e1, Int.mul_sub, Int.mul_sub, Int.mul_left_comm]; omega
        rw [e]
        exact Int.dvd_sub h1 (Int.dvd_mul_of_dvd_right h2)
      · rw [← h3 d]
        exact dvd_step (qz r x)
    · obtain rfl : x = 0 := by omega
      rw [inv_stop]
      exact ⟨h1, fun d => by rw [← h3 d]; simp⟩

theorem qz_exact {a m : Int} (hm : m ≠ 0) (h : m ∣ a) : m * qz a m = a ∧ rz a m = 0 := by
  obtain ⟨h1, h2, h3⟩ := qz_spec a m hm
  have h4 := rz_le a m hm
  have h5 : m ∣ rz a m := Int.dvd_sub h (Int.dvd_mul_right m (qz a m))
  have h6 : rz a m = 0 := by
    obtain ⟨c, hc⟩ := h5
    by_cases h0 : c = 0
    · rw [hc, h0, Int.mul_zero]
    · rw [hc, Int.natAbs_mul] at h4
      have : m.natAbs * 1 ≤ m.natAbs * c.natAbs := Nat.mul_le_mul_left _ (by omega)
      omega
  exact ⟨by omega, h6⟩

/-- The coefficients combine to the divisor, which is the greatest common one. -/
theorem bez_spec (n m : Int) : n * (bez n m).2.1 + m * (bez n m).2.2 = (bez n m).1 ∧ (bez n m).1 = ((Nat.gcd n.natAbs m.natAbs : Nat) : Int) := by
  unfold bez
  by_cases h0 : m = 0
  · rw [if_pos h0]
    subst h0
    refine ⟨?_, by simp⟩
    show n * sgn n + 0 * 0 = _
    rcases Int.lt_trichotomy n 0 with h | h | h
    · rw [sgn_neg h]; omega
    · rw [h]; rfl
    · rw [sgn_pos h]; omega
  · rw [if_neg h0]
    have hcb := coefB (n := n) h0
    have hmm : 0 < ((m.natAbs : Nat) : Int) := by omega
    obtain ⟨p1, p2, p3⟩ := rz_pos (r := n) hmm
    have hs := inv_spec n ((m.natAbs : Nat) : Int) _ ((m.natAbs : Nat) : Int) (rz n ((m.natAbs : Nat) : Int)) 0 1 (Nat.le_refl _) p1 (by
        rw [Int.mul_zero, Int.zero_sub]; exact Int.dvd_neg.2 (Int.dvd_refl _)) (by
        rw [Int.mul_one]
        exact ⟨qz n ((m.natAbs : Nat) : Int), by rw [Int.mul_comm]; omega⟩) (fun d => by
        have := dvd_step (k := d) (r := n) (x := ((m.natAbs : Nat) : Int)) (qz n ((m.natAbs : Nat) : Int))
        rw [← this]
        have e : rz n ((m.natAbs : Nat) : Int) = n - ((m.natAbs : Nat) : Int) * qz n ((m.natAbs : Nat) : Int) := by rw [Int.mul_comm]; omega
        rw [e])
    obtain ⟨s1, s2⟩ := hs
    generalize (inv ((m.natAbs : Nat) : Int) (rz n ((m.natAbs : Nat) : Int)) 0 1).1 = d at *
    generalize (inv ((m.natAbs : Nat) : Int) (rz n ((m.natAbs : Nat) : Int)) 0 1).2 = x at *
    obtain ⟨dn, dm⟩ := (s2 d).1 (Int.dvd_refl d)
    have hd0 := hcb.d0
    have hdg : d = ((Nat.gcd n.natAbs m.natAbs : Nat) : Int) := by
      have a1 : d.natAbs ∣ Nat.gcd n.natAbs m.natAbs := by
        apply Nat.dvd_gcd
        · exact Int.natAbs_dvd_natAbs.2 dn
        · have := Int.natAbs_dvd_natAbs.2 dm
          rwa [Int.natAbs_natCast] at this
      have a2 : ((Nat.gcd n.natAbs m.natAbs : Nat) : Int) ∣ d := by
        rw [s2]
        refine ⟨?_, ?_⟩
        · rw [← Int.natAbs_dvd_natAbs, Int.natAbs_natCast]; exact Nat.gcd_dvd_left _ _
        · rw [← Int.natAbs_dvd_natAbs, Int.natAbs_natCast, Int.natAbs_natCast]; exact Nat.gcd_dvd_right _ _
      have a3 : Nat.gcd n.natAbs m.natAbs ∣ d.natAbs := by
        have := Int.natAbs_dvd_natAbs.2 a2
        rwa [Int.natAbs_natCast] at this
      have := Nat.dvd_antisymm a1 a3
      omega
    refine ⟨?_, hdg⟩
    obtain ⟨q1, q2⟩ := qz_exact (a := ((m.natAbs : Nat) : Int)) (m := d) (by omega) dm
    have hdiv : ((m.natAbs : Nat) : Int) ∣ d - n * rz x (qz ((m.natAbs : Nat) : Int) d) := by
      have e : d - n * rz x (qz ((m.natAbs : Nat) : Int) d) = n * qz ((m.natAbs : Nat) : Int) d * qz x (qz ((m.natAbs : Nat) : Int) d) - (n * x - d) := by
        unfold rz
        rw [Int.mul_sub, Int.mul_assoc]; omega
      rw [e]
      refine Int.dvd_sub (Int.dvd_mul_of_dvd_left ?_) s1
      obtain ⟨c, hc⟩ := dn
      exact ⟨c, by rw [hc, Int.mul_right_comm, q1]⟩
    have hdiv2 : m ∣ d - n * rz x (qz ((m.natAbs : Nat) : Int) d) := by
      rw [← Int.natAbs_dvd_natAbs] at hdiv ⊢
      rwa [Int.natAbs_natCast] at hdiv
    have := (qz_exact h0 hdiv2).1
    show n * rz x (qz ((m.natAbs : Nat) : Int) d) + m * qz (d - n * rz x (qz ((m.natAbs : Nat) : Int) d)) m = d
    omega
end Go.Proofs.YtnfmcdfdbipeoaaGreatDoor

namespace Go.Proofs.YtnfmcdfdbipeoaaGreatDoor
open Go.RowKit Go.Proofs.Num

theorem gcd_go (m n : Nat) : Nat.gcd m n = Nat.gcd n (m % n) := by rw [Nat.gcd_comm, Nat.gcd_rec, Nat.gcd_comm]

set_option maxHeartbeats 1600000 in
set_option maxRecDepth 100000 in
/-- words.commonDivisor -/
theorem wgcd_any (v1 v2 : Value) (m n : Nat) (w : World) (h1 : Wd w v1 m) (h2 : Wd w v2 n) (hm : (dig 1000000000 m).length ≤ 1073741823) (hn : (dig 1000000000 n).length ≤ 1073741823) :
    Calls Tryz.prog 125 #[v1, v2] w (GivesWd w (Nat.gcd m n)) := by
  obtain ⟨a1, k1, p1, rfl⟩ := Rd.sh h1
  obtain ⟨a2, k2, p2, rfl⟩ := Rd.sh h2
  obtain ⟨g, hg⟩ : ∃ g, g = Nat.gcd m n := ⟨_, rfl⟩
  rw [← hg]
  have HS : Hid (∃ (a b : Nat), b ≤ n ∧ Nat.gcd a b = g ∧ Wd w (.slice a1 k1 p1) a ∧ Wd w (.slice a2 k2 p2) b ∧ (dig 1000000000 a).length ≤ 1073741823 ∧ (dig 1000000000 b).length ≤ 1073741823) := ⟨m, n, Nat.le_refl _, hg.symm, h1, h2, hm, hn⟩
  clear h1 h2 hm hn hg
  go_enter Tryz.func125, Tryz.ntmps125
  go_wp2
  go_loopg [0, 1] n (fun gk s0 s1 wr => ∃ (a b : Nat) (x1 : Option Addr) (y1 z1 : Nat) (x2 : Option Addr) (y2 z2 : Nat), b ≤ gk ∧ s0 = .slice x1 y1 z1 ∧ s1 = .slice x2 y2 z2 ∧ Nat.gcd a b = g ∧ Wd wr (.slice x1 y1 z1) a ∧ Wd wr (.slice x2 y2 z2) b ∧ (dig 1000000000 a).length ≤ 1073741823 ∧ (dig 1000000000 b).length ≤ 1073741823 ∧ Below w.heap.size w wr)
  case atStart =>
    obtain ⟨a, b, hb, hg, g1, g2, l1, l2⟩ := HS.out
    exact ⟨a, b, a1, k1, p1, a2, k2, p2, hb, rfl, rfl, hg, g1, g2, l1, l2, Below.refl _ _⟩
  case round =>
    obtain ⟨a, b, x1, y1, z1, x2, y2, z2, hbk, rfl, rfl, hg, g1, g2, l1, l2, hB⟩ := hrel
    have hy := (Wd.len g2).2
    have HG : Hid (Nat.gcd a b = g ∧ Wd wr (.slice x1 y1 z1) a ∧ Wd wr (.slice x2 y2 z2) b) := ⟨hg, g1, g2⟩
    have HB := Lib.hid hB
    by_cases h0 : b = 0
    · obtain rfl : y2 = 0 := hy.2 h0
      have HZ := Lib.hid h0
      clear hg g1 g2 hB hy h0
      go_wp2
      go_ret
      refine ⟨_, rfl, ⟨_, _, _, rfl⟩, ?_, HB.out⟩
      have := HG.out.1
      rw [HZ.out, Nat.gcd_zero_right] at this
      rw [← this]; exact HG.out.2.1
    · have hy0 : 0 < y2 := by
        rcases Nat.eq_zero_or_pos y2 with h | h
        · exact absurd (hy.1 h) h0
        · exact h
      have HP : Hid (0 < b) := Nat.pos_of_ne_zero h0
      clear hg g1 g2 hB hy h0
      go_wp2_with fail
      refine (divTo_all b _ _ a b _ HG.out.2.1 HG.out.2.2 HP.out (Nat.le_refl _) l1 l2).mono ?_
      rintro e w1 ⟨q1, r1, rfl, hq, hr, hb1⟩
      obtain ⟨a3, k3, p3, rfl⟩ := Rd.sh hq
      obtain ⟨a4, k4, p4, rfl⟩ := Rd.sh hr
      have hlt := Nat.mod_lt a HP.out
      have hlr : (dig 1000000000 (a % b)).length ≤ 1073741823 := Nat.le_trans (dig_length_mono (by omega) (Nat.le_of_lt hlt)) l2
      have HE : Hid (∃ (a' b' : Nat) (x1' : Option Addr) (y1' z1' : Nat) (x2' : Option Addr) (y2' z2' : Nat), b' ≤ a % b ∧ (Value.slice x2 y2 z2) = .slice x1' y1' z1' ∧ (Value.slice a4 k4 p4) = .slice x2' y2' z2' ∧ Nat.gcd a' b' = g ∧ Wd w1 (.slice x1' y1' z1') a' ∧ Wd w1 (.slice x2' y2' z2') b' ∧ (dig 1000000000 a').length ≤ 1073741823 ∧ (dig 1000000000 b').length ≤ 1073741823 ∧ Below w.heap.size w w1) :=
        ⟨b, a % b, x2, y2, z2, a4, k4, p4, Nat.le_refl _, rfl, rfl, by rw [← gcd_go]; exact HG.out.1, HG.out.2.2.keep hb1, hr, l2, hlr, HB.out.trans (hb1.mono HB.out.size)⟩
      clear hq hr hlr hb1
      go_wp2
      go_roundg (a % b)
      case measure => omega
      case rel => exact HE.out

set_option maxRecDepth 100000 in
set_option maxHeartbeats 3200000 in
theorem gcd_ok (s r : ByteArray) (hs : s.size ≤ 9223372036854775807) (hr : r.size ≤ 9223372036854775807) (h0 : chk2 s.data.toList r.data.toList = 0) (w : World) (hT : Tab w) :
    Calls Tryz.prog 88 #[.string s, .string r] w (TextOut w (tx ((Nat.gcd (parse s.data.toList).natAbs (parse r.data.toList).natAbs : Nat) : Int)) (te ((Nat.gcd (parse s.data.toList).natAbs (parse r.data.toList).natAbs : Nat) : Int))) := by
  obtain ⟨h1, h2⟩ := chk2_zero h0
  have sn := chk_sm _ h1
  have sm := chk_sm _ h2
  generalize hn : parse s.data.toList = n at *
  generalize hm : parse r.data.toList = m at *
  have sg : Sm ((Nat.gcd n.natAbs m.natAbs : Nat) : Int) 4294967295 := by
    by_cases hz : n.natAbs = 0
    · rw [hz, Nat.gcd_zero_left]
      exact Sm.up (Sm.mono sm (by omega)) (by omega)
    · exact Sm.up (Sm.mono sn (by have := Nat.le_of_dvd (by omega) (Nat.gcd_dvd_left n.natAbs m.natAbs); omega)) (by omega)
  obtain ⟨z, hz⟩ : ∃ z : Int, z = ((Nat.gcd n.natAbs m.natAbs : Nat) : Int) := ⟨_, rfl⟩
  rw [← hz] at sg ⊢
  obtain ⟨t, ht⟩ : ∃ t, t = tx z := ⟨_, rfl⟩
  obtain ⟨c, hc⟩ : ∃ c, c = te z := ⟨_, rfl⟩
  rw [← ht, ← hc]
  have HE : Hid (z = ((Nat.gcd n.natAbs m.natAbs : Nat) : Int) ∧ t = tx z ∧ c = te z) := ⟨hz, ht, hc⟩
  have HS : Hid (Sm n 114 ∧ Sm m 114 ∧ Sm z 4294967295) := ⟨sn, sm, sg⟩
  have HP : Hid (parse s.data.toList = n ∧ parse r.data.toList = m) := ⟨hn, hm⟩
  have HC := Lib.hid h0
  have HT := Lib.hid hT
  clear sn sm sg hz ht hc hn hm h0 hT h1 h2
  go_enter Tryz.func88, Tryz.ntmps88
  go_wp2_with fail
  refine (readTwo_any s r hs hr _).mono ?_
  rintro e w1 ⟨v1, v2, rfl, hb, ⟨b, a, k, p, rfl⟩, ⟨b', a', k', p', rfl⟩, hok⟩
  have hok := hok HC.out
  rw [HP.out.1, HP.out.2] at hok
  rw [HC.out]
  obtain ⟨W, hW, hA, hB, hBl, hsz⟩ := boxes2 w1 (.bool b) (.slice a k p) (.bool b') (.slice a' k' p')
  obtain ⟨-, gn, -, -⟩ := (hok.1.keep hBl).parts
  obtain ⟨-, gm, -, -⟩ := (hok.2.keep hBl).parts
  have HN : Hid (Wd W (.slice a k p) n.natAbs ∧ Wd W (.slice a' k' p') m.natAbs) := ⟨gn, gm⟩
  have hbW : Below w.heap.size w W := hb.trans (hBl.mono hb.size)
  have a0 := hA.c0; have a1 := hA.c1; have b0 := hB.c0; have b1 := hB.c1
  have HW := Lib.hid hW
  rw [hW] at a0 a1 b0 b1
  clear hok hA hB hW hBl hsz gn gm
  go_wp2_with fail
  rw [← HW.out]
  have sn := HS.out.1
  have sm := HS.out.2.1
  unfold Sm at sn sm
  refine (wgcd_any _ _ n.natAbs m.natAbs _ HN.out.1 HN.out.2 (by omega) (by omega)).mono ?_
  rintro e w2 ⟨v, rfl, ⟨a5, k5, p5, rfl⟩, hg, hb2⟩
  have hb3 : Below w.heap.size w w2 := hbW.trans (hb2.mono hbW.size)
  have hnm : Nm w2 (.agg #[.bool false, .slice a5 k5 p5]) z := by
    rw [HE.out.1]
    exact Nm.mk' (by simp) (by rw [Int.natAbs_natCast]; exact hg)
  have HNM := Lib.hid hnm
  clear hnm hg sn sm
  go_wp2_with fail
  refine (text_any _ z _ HNM.out HS.out.2.2 (HT.out.keep hb3)).mono ?_
  rintro e w4 ⟨he, hb4⟩
  rw [← HE.out.2.1, ← HE.out.2.2] at he
  subst he
  go_wp2
  go_ret2
  exact ⟨rfl, hb3.trans (hb4.mono hb3.size)⟩

theorem gcdT {d : Nat} (x y : Int) (w : World) (hx : Few d x) (hy : Few d y) (h1 : 1 ≤ d) (hd : d ≤ 1024) (hT : Tab w) :
    Calls Tryz.prog 88 #[.string (T x), .string (T y)] w fun e w' => e = .returned (.tuple #[.string (T ((Nat.gcd x.natAbs y.natAbs : Nat) : Int)), .int .i64 0]) ∧ Below w.heap.size w w' := by
  have hc : chk2 (T x).data.toList (T y).data.toList = 0 := by
    unfold chk2
    rw [hx.chk h1 hd, hy.chk h1 hd]; rfl
  have hg : Few d ((Nat.gcd x.natAbs y.natAbs : Nat) : Int) := by
    by_cases hz : x.natAbs = 0
    · rw [hz, Nat.gcd_zero_left]; exact hy.of_le (by omega)
    · exact hx.of_le (by have := Nat.le_of_dvd (by omega) (Nat.gcd_dvd_left x.natAbs y.natAbs); omega)
  have h := gcd_ok (T x) (T y) (hx.size h1 hd) (hy.size h1 hd) hc w hT
  rw [T_data x, T_data y, parse_itoa, parse_itoa, hg.tx h1 hd, hg.te h1 hd] at h
  exact h
end Go.Proofs.YtnfmcdfdbipeoaaGreatDoor
