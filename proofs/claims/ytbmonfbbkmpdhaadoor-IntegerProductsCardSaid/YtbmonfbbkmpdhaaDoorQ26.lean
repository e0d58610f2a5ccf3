/- Powers by squares: the steps, and what too many digits say; and: Walks of the numbers' functions: power. And: Walks of the exported functions: Pow. -/
import Derived.Test.YtbmonfbbkmpdhaaDoorQ25
import Derived.Test.YtbmonfbbkmpdhaaDoorQ14
import Derived.Lib.RabinKarpLaws
import Derived.Test.YtbmonfbbkmpdhaaDoorQ21
namespace Go.Proofs.YtbmonfbbkmpdhaaDoor
open Go.RowKit Go.Proofs.Num

theorem half_step (e k : Nat) : e / 2 ^ k = 2 * (e / 2 ^ (k + 1)) + e / 2 ^ k % 2 := by
  rw [Nat.pow_succ, ← Nat.div_div_eq_div_mul]; omega

theorem pow_step (a : Int) (e k : Nat) : a ^ (e / 2 ^ k) = if e / 2 ^ k % 2 = 1 then a ^ (e / 2 ^ (k + 1)) * a ^ (e / 2 ^ (k + 1)) * a else a ^ (e / 2 ^ (k + 1)) * a ^ (e / 2 ^ (k + 1)) := by
  have h := half_step e k
  split
  · rename_i h1
    rw [h1] at h
    rw [h, Int.pow_succ, Nat.two_mul, Int.pow_add]
  · have h0 : e / 2 ^ k % 2 = 0 := by omega
    rw [h0] at h
    rw [h, Nat.add_zero, Nat.two_mul, Int.pow_add]

theorem natAbs_pow (a : Int) : ∀ k : Nat, (a ^ k).natAbs = a.natAbs ^ k
  | 0 => by simp
  | k + 1 => by rw [Int.pow_succ, Nat.pow_succ, Int.natAbs_mul, natAbs_pow a k]

theorem nD_mono {u v : Nat} (h : u ≤ v) : Lib.nDigits u ≤ Lib.nDigits v :=
  nD_le _ u (Lib.nDigits_pos v) (Nat.lt_of_le_of_lt h (Lib.lt_pow_nDigits v))

/-- A power that is too long: so are those with greater exponents. -/
theorem long_power {a : Int} {k e : Nat} (hk : k ≤ e) (h : 1024 < Lib.nDigits (a ^ k).natAbs) : 1024 < Lib.nDigits (a ^ e).natAbs := by
  rw [natAbs_pow] at h ⊢
  rcases Nat.eq_zero_or_pos a.natAbs with h0 | h0
  · rw [h0] at h
    have h1 : 0 ^ k ≤ 1 := by cases k <;> simp
    have := nD_mono h1
    rw [Lib.nDigits_small (u := 1) (by omega)] at this
    omega
  · exact Nat.lt_of_lt_of_le h (nD_mono (Nat.pow_le_pow_right h0 hk))

end Go.Proofs.YtbmonfbbkmpdhaaDoor

namespace Go.Proofs.YtbmonfbbkmpdhaaDoor
open Go.RowKit Go.Proofs.Num

set_option maxRecDepth 100000 in
set_option maxHeartbeats 3200000 in
theorem power_any (v : Value) (A : Int) (e : Nat) (w : World) (hv : Nm w v A) (hA : ∃ d : Nat, d = 1024 ∧ A.natAbs < 10 ^ d) (he : e < 4611686018427387904) :
    Calls Tryd.prog 72 #[v, .int .i64 e] w fun en w' => ∃ v', en = .returned (.tuple #[v', .int .i64 ((te (A ^ e) : Nat) : Int)]) ∧ Below w.heap.size w w' ∧ (∃ b a k p, v' = .agg #[.bool b, .slice a k p]) ∧ (te (A ^ e) = 0 → Nm w' v' (A ^ e)) := by
  obtain ⟨d, hd, hA⟩ := hA
  obtain ⟨b0, a0, k0, p0, rfl⟩ := hv.sh
  obtain ⟨W1, hW1, hB0, hB1, hBl1, hsz1⟩ := boxes2 w (.bool b0) (.slice a0 k0 p0) (.bool false) (.slice none 0 0)
  obtain ⟨W, hW⟩ : ∃ W, W = (W1.alloc (.cells #[.int .u64 1] 102)).alloc (.cells #[.bool false, .slice (some ⟨w.heap.size + 1 + 1, 0, none⟩) 1 1] 73) := ⟨_, rfl⟩
  have hBW : Below W1.heap.size W1 W := by rw [hW]; exact (below1 W1 _).alloc (by simp) _
  have hWs : W.heap.size = w.heap.size + 1 + 1 + 1 + 1 := by rw [hW, World.size_alloc, World.size_alloc, hsz1]
  have hR : Box 73 W (w.heap.size + 1 + 1 + 1) (.bool false) (.slice (some ⟨w.heap.size + 1 + 1, 0, none⟩) 1 1) := by
    have := Box.new 73 (W1.alloc (.cells #[.int .u64 1] 102)) (.bool false) (.slice (some ⟨w.heap.size + 1 + 1, 0, none⟩) 1 1)
    rw [World.size_alloc, hsz1] at this
    rw [hW]; exact this
  have hone : Nm W (.agg #[.bool false, .slice (some ⟨w.heap.size + 1 + 1, 0, none⟩) 1 1]) 1 := by
    have := nm_one W1
    rw [hsz1] at this
    rw [hW]; exact this.keep (below1 _ _)
  have hlen := Tryd.bits_Len (e : Int) W (by omega) (by omega)
  rw [Int.toNat_natCast] at hlen
  have HLEN := Lib.hid hlen
  rw [hW1] at hW
  have HW := Lib.hid hW
  have HB0 := Lib.hid (hB0.keep hBW)
  have HB1 := Lib.hid (hB1.keep hBW)
  have HR := Lib.hid hR
  have HONE := Lib.hid hone
  have HA : Hid (Nm W (.agg #[.bool b0, .slice a0 k0 p0]) A) := (hv.keep hBl1).keep hBW
  have HBL : Hid (Below w.heap.size w W) := hBl1.trans (hBW.mono hBl1.size)
  have HWS := Lib.hid hWs
  have HSA := Lib.hid hA
  have HD := Lib.hid hd
  clear hv hd hA hW1 hB0 hB1 hBl1 hsz1 hW hBW hWs hR hone hlen
  go_enter Tryd.func72, Tryd.ntmps72
  go_wp2_with fail
  rw [← HW.out]
  refine (HLEN.out).mono ?_
  rintro en w1 ⟨rfl, hw⟩
  rw [hw]
  clear hw w1
  obtain ⟨n, hn⟩ : ∃ n, n = Lib.bitLen e := ⟨_, rfl⟩
  rw [← hn]
  have HN := Lib.hid hn
  have hn64 : n ≤ 64 := by rw [hn]; exact Lib.bitLen_le e 64 (Nat.le_refl _) (Nat.lt_of_lt_of_le he (by decide))
  have hK0 : Kept [w.heap.size + 1 + 1 + 1] W W := Kept.start (by intro r hr; simp at hr; subst hr; exact ⟨_, _, HR.out⟩)
  have HK0 := Lib.hid hK0
  clear hn hK0
  go_wp2
  go_loopw [7] (fun i wr => ∃ (k : Nat) (b : Bool) (a : Option Addr) (p q : Nat), k ≤ n ∧ i = .int .i64 ((k : Int) - 1) ∧ Box 73 wr (w.heap.size + 1 + 1 + 1) (.bool b) (.slice a p q) ∧ Nm wr (.agg #[.bool b, .slice a p q]) (A ^ (e / 2 ^ k)) ∧ Lib.nDigits (A ^ (e / 2 ^ k)).natAbs ≤ 1024 ∧ Nm wr (.agg #[.bool b0, .slice a0 k0 p0]) A ∧ Kept [w.heap.size + 1 + 1 + 1] W wr)
    (fun i _ => (intOf i + 1).toNat)
  case atStart =>
    have e0 : e / 2 ^ n = 0 := by
      rw [HN.out]
      by_cases hz : e = 0
      · rw [hz]; exact Nat.zero_div _
      · exact Nat.div_eq_of_lt (Lib.bitLenAux_bounds 64 e (Nat.lt_of_lt_of_le he (by decide)) hz).2.2
    refine ⟨n, _, _, _, _, Nat.le_refl _, by go_num, HR.out, by rw [e0, Int.pow_zero]; exact HONE.out, by rw [e0, Int.pow_zero]; show Lib.nDigits 1 ≤ 1024; rw [Lib.nDigits_small (by omega)]; omega, HA.out, HK0.out⟩
  case round =>
    obtain ⟨k, b, a, p, q, hk, rfl, hbox, hnm, hdg, hna, hK⟩ := hrel
    have HBOX := Lib.hid hbox
    have HNM := Lib.hid hnm
    have HDG := Lib.hid hdg
    have HK := Lib.hid hK
    have HNA0 := Lib.hid hna
    have x0 := hbox.c0; have x1 := hbox.c1; have x2 := hbox.f0 0; have x3 := hbox.f0 1
    clear hbox hnm hdg hK hna
    by_cases h0 : k = 0
    · subst h0
      have hb1 := HK.out.box HB1.out (by simp)
      have y0 := hb1.c0; have y1 := hb1.c1; have y2 := hb1.f0 0; have y3 := hb1.f0 1
      have HB1' := Lib.hid hb1
      clear hb1
      have hte : te (A ^ e) = 0 := by
        have h1 := HDG.out
        rw [Nat.pow_zero, Nat.div_one] at h1
        unfold te; rw [if_neg (by omega)]
      have HTE := Lib.hid hte
      clear hte
      go_wp2
      have e1 : A ^ (e / 2 ^ 0) = A ^ e := by rw [Nat.pow_zero, Nat.div_one]
      have hn := HNM.out
      rw [e1] at hn
      refine bodyPost_ret (v := .tuple #[.agg #[.bool b, .slice a p q], .int .i64 0]) (by simp [results, Tryd.results72, go_sem, y0, y1]) rfl ⟨_, by rw [HTE.out]; rfl, ?_, ⟨_, _, _, _, rfl⟩, fun _ => Nm.stores hn HB1'.out _ _⟩
      exact ((HBL.out.trans (HK.out.below HBL.out.size (by simp; omega))).setCell (by simp) _).setCell (by simp) _
    · obtain ⟨j, rfl⟩ : ∃ j, k = j + 1 := ⟨k - 1, by omega⟩
      rw [show (((j + 1 : Nat) : Int) - 1) = (j : Int) by omega]
      have HX : Hid (Sm (A ^ (e / 2 ^ (j + 1))) 2147483647) := Sm.le (sm_of_lt (k := 114) (Lib.lt_pow_nDigits _) (by have := HDG.out; omega)) (by omega)
      have HXX : Hid (Sm (A ^ (e / 2 ^ (j + 1)) * A ^ (e / 2 ^ (j + 1))) 2147483647) := Sm.le (sm_of_lt (k := 228) (lt_mul (Lib.lt_pow_nDigits _) (Lib.lt_pow_nDigits _)) (by have := HDG.out; omega)) (by omega)
      go_wp2_with fail
      refine (ntimes_any _ _ _ _ _ HNM.out HNM.out HX.out HX.out).mono ?_
      rintro en w2 ⟨v2, rfl, hn2, hb2⟩
      obtain ⟨b2, a2, p2, q2, rfl⟩ := hn2.sh
      have hbox2 := HBOX.out.keep hb2
      have hK2 := HK.out.step hb2
      clear x0 x1 x2 x3
      have x0 := hbox2.c0; have x1 := hbox2.c1; have x2 := hbox2.f0 0; have x3 := hbox2.f0 1
      have HN2 := Lib.hid hn2
      have HNA2 := Lib.hid (HNA0.out.keep hb2)
      have HK2 := Lib.hid hK2
      have HBOX2 := Lib.hid hbox2
      clear hn2 hK2 hbox2
      have HYS : Hid ((dig 1000000000 (A ^ (e / 2 ^ j)).natAbs).length ≤ 4294967295) := by
        show Sm (A ^ (e / 2 ^ j)) 4294967295
        rw [pow_step A e j]
        split
        · exact Sm.le (sm_of_lt (k := 342) (lt_mul (lt_mul (Lib.lt_pow_nDigits _) (Lib.lt_pow_nDigits _)) HSA.out) (by have := HDG.out; have := HD.out; omega)) (by omega)
        · exact Sm.le HXX.out (by omega)
      have hcast : ((e : Int) / 2 ^ j) = ((e / 2 ^ j : Nat) : Int) := by simp
      have hlt2 : e / 2 ^ j < 9223372036854775808 := Nat.lt_of_le_of_lt (Nat.div_le_self _ _) (by omega)
      have hand := Go.Proofs.and_one (e / 2 ^ j) hlt2
      rw [← hcast] at hand
      have HAND := Lib.hid hand
      clear hand hcast hlt2
      by_cases hodd : e / 2 ^ j % 2 = 1
      · have hbit : (bits BinOp.and IntKind.i64 ((e : Int) / 2 ^ j) 1 == 1) = true := by rw [HAND.out, hodd]; rfl
        have hy : A ^ (e / 2 ^ j) = A ^ (e / 2 ^ (j + 1)) * A ^ (e / 2 ^ (j + 1)) * A := by rw [pow_step A e j, if_pos hodd]
        have HY := Lib.hid hy
        clear hy hodd
        have hb0 := HK2.out.box HB0.out (by simp; omega)
        have z0 := hb0.c0; have z1 := hb0.c1
        clear hb0
        go_wp2_with fail
        obtain ⟨u2, hu2⟩ : ∃ u, u = (w2.setCell ⟨w.heap.size + 1 + 1 + 1, 0, none⟩ (.bool b2)).setCell ⟨w.heap.size + 1 + 1 + 1, 1, none⟩ (.slice a2 p2 q2) := ⟨_, rfl⟩
        have hn4 : Nm u2 (.agg #[.bool b2, .slice a2 p2 q2]) (A ^ (e / 2 ^ (j + 1)) * A ^ (e / 2 ^ (j + 1))) := by rw [hu2]; exact Nm.stores HN2.out HBOX2.out _ _
        have hb4 : Box 73 u2 (w.heap.size + 1 + 1 + 1) (.bool b2) (.slice a2 p2 q2) := by rw [hu2]; exact (HBOX2.out.set0 _).set1 _
        have hk4 : Kept [w.heap.size + 1 + 1 + 1] W u2 := by rw [hu2]; exact Kept.store HK2.out _ _ _ (by simp)
        have HNA : Hid (Nm u2 (.agg #[.bool b0, .slice a0 k0 p0]) A) := by unfold Hid; rw [hu2]; exact Nm.stores HNA2.out HBOX2.out _ _
        rw [← hu2]
        refine (ntimes_any _ _ _ _ _ hn4 HNA.out HXX.out (Sm.le (sm_of_lt (k := 114) HSA.out (by have := HD.out; omega)) (by omega))).mono ?_
        rintro en w3 ⟨v3, rfl, hn3, hb3⟩
        obtain ⟨b3, a3, p3, q3, rfl⟩ := hn3.sh
        have HN3 := Lib.hid hn3
        have HNA3 := Lib.hid (HNA.out.keep hb3)
        have HBOX3 := Lib.hid (hb4.keep hb3)
        have HK3 := Lib.hid (hk4.step hb3)
        clear hn3 hn4 hb4 hk4 hu2 x0 x1 x2 x3
        have x0 := HBOX3.out.c0; have x1 := HBOX3.out.c1; have x2 := HBOX3.out.f0 0; have x3 := HBOX3.out.f0 1
        go_wp2_with fail
        obtain ⟨u, hu⟩ : ∃ u, u = (w3.setCell ⟨w.heap.size + 1 + 1 + 1, 0, none⟩ (.bool b3)).setCell ⟨w.heap.size + 1 + 1 + 1, 1, none⟩ (.slice a3 p3 q3) := ⟨_, rfl⟩
        have hNu : Nm u (.agg #[.bool b3, .slice a3 p3 q3]) (A ^ (e / 2 ^ j)) := by rw [hu, HY.out]; exact Nm.stores HN3.out HBOX3.out _ _
        have hNAu : Nm u (.agg #[.bool b0, .slice a0 k0 p0]) A := by rw [hu]; exact Nm.stores HNA3.out HBOX3.out _ _
        have hBu : Box 73 u (w.heap.size + 1 + 1 + 1) (.bool b3) (.slice a3 p3 q3) := by rw [hu]; exact (HBOX3.out.set0 _).set1 _
        have hKu : Kept [w.heap.size + 1 + 1 + 1] W u := by rw [hu]; exact Kept.store HK3.out _ _ _ (by simp)
        have HU := Lib.hid hu
        have HNu := Lib.hid hNu
        have HNAu := Lib.hid hNAu
        have HBu := Lib.hid hBu
        have HKu := Lib.hid hKu
        clear hu hNAu hNu hBu hKu x0 x1 x2 x3
        have x0 := HBu.out.c0; have x1 := HBu.out.c1; have x2 := HBu.out.f0 0; have x3 := HBu.out.f0 1
        rw [← HU.out]
        obtain ⟨l, hl⟩ : ∃ l, l = (dig 10 (A ^ (e / 2 ^ j)).natAbs).length := ⟨_, rfl⟩
        refine (wdigits_any _ _ _ HNu.out.parts.2.1 HYS.out).mono ?_
        rintro en w5 ⟨he5, hw5⟩
        rw [← hl] at he5
        subst he5
        subst hw5
        have HLL := Lib.hid hl
        clear hl
        by_cases hbig : 1024 < l
        · have HTE : Hid (te (A ^ e) = 11) := by
            unfold Hid te
            rw [if_pos]
            refine long_power (k := e / 2 ^ j) (Nat.div_le_self _ _) ?_
            rw [nDigits_dig, ← HLL.out]
            · exact hbig
            · intro hz; rw [HLL.out, hz] at hbig; simp [dig_zero] at hbig
          have hb1 := HKu.out.box HB1.out (by simp)
          have y0 := hb1.c0; have y1 := hb1.c1; have y2 := hb1.f0 0; have y3 := hb1.f0 1
          have hbig' : decide (1024 < ((l : Nat) : Int)) = true := by simp; omega
          clear hb1
          go_wp2
          refine bodyPost_ret (v := .tuple #[.agg #[.bool false, .slice none 0 0], .int .i64 11]) (by simp [results, Tryd.results72, go_sem, y0, y1]) rfl ⟨_, by rw [HTE.out]; rfl, ?_, ⟨_, _, _, _, rfl⟩, fun h => by rw [HTE.out] at h; cases h⟩
          exact ((HBL.out.trans (HKu.out.below HBL.out.size (by simp; omega))).setCell (by simp) _).setCell (by simp) _
        · have hdg' : Lib.nDigits (A ^ (e / 2 ^ j)).natAbs ≤ 1024 := by
            by_cases hz : (A ^ (e / 2 ^ j)).natAbs = 0
            · rw [hz, Lib.nDigits_small (by omega)]; omega
            · rw [nDigits_dig hz, ← HLL.out]; omega
          have HDG' := Lib.hid hdg'
          have hbig' : decide (1024 < ((l : Nat) : Int)) = false := by simp; omega
          clear hdg'
          go_wp2
          go_roundw
          case rel => exact ⟨j, _, _, _, _, by omega, by go_num, HBu.out, HNu.out, HDG'.out, HNAu.out, HKu.out⟩
          case measure => simp [intOf]
      · have hbit : (bits BinOp.and IntKind.i64 ((e : Int) / 2 ^ j) 1 == 1) = false := by rw [HAND.out, show e / 2 ^ j % 2 = 0 by omega]; rfl
        have hy : A ^ (e / 2 ^ j) = A ^ (e / 2 ^ (j + 1)) * A ^ (e / 2 ^ (j + 1)) := by rw [pow_step A e j, if_neg hodd]
        have HY := Lib.hid hy
        clear hy hodd
        go_wp2_with fail
        obtain ⟨u, hu⟩ : ∃ u, u = (w2.setCell ⟨w.heap.size + 1 + 1 + 1, 0, none⟩ (.bool b2)).setCell ⟨w.heap.size + 1 + 1 + 1, 1, none⟩ (.slice a2 p2 q2) := ⟨_, rfl⟩
        have hNu : Nm u (.agg #[.bool b2, .slice a2 p2 q2]) (A ^ (e / 2 ^ j)) := by rw [hu, HY.out]; exact Nm.stores HN2.out HBOX2.out _ _
        have hNAu : Nm u (.agg #[.bool b0, .slice a0 k0 p0]) A := by rw [hu]; exact Nm.stores HNA2.out HBOX2.out _ _
        have hBu : Box 73 u (w.heap.size + 1 + 1 + 1) (.bool b2) (.slice a2 p2 q2) := by rw [hu]; exact (HBOX2.out.set0 _).set1 _
        have hKu : Kept [w.heap.size + 1 + 1 + 1] W u := by rw [hu]; exact Kept.store HK2.out _ _ _ (by simp)
        have HU := Lib.hid hu
        have HNu := Lib.hid hNu
        have HNAu := Lib.hid hNAu
        have HBu := Lib.hid hBu
        have HKu := Lib.hid hKu
        clear hu hNAu hNu hBu hKu x0 x1 x2 x3
        have x0 := HBu.out.c0; have x1 := HBu.out.c1; have x2 := HBu.out.f0 0; have x3 := HBu.out.f0 1
        rw [← HU.out]
        obtain ⟨l, hl⟩ : ∃ l, l = (dig 10 (A ^ (e / 2 ^ j)).natAbs).length := ⟨_, rfl⟩
        refine (wdigits_any _ _ _ HNu.out.parts.2.1 HYS.out).mono ?_
        rintro en w5 ⟨he5, hw5⟩
        rw [← hl] at he5
        subst he5
        subst hw5
        have HLL := Lib.hid hl
        clear hl
        by_cases hbig : 1024 < l
        · have HTE : Hid (te (A ^ e) = 11) := by
            unfold Hid te
            rw [if_pos]
            refine long_power (k := e / 2 ^ j) (Nat.div_le_self _ _) ?_
            rw [nDigits_dig, ← HLL.out]
            · exact hbig
            · intro hz; rw [HLL.out, hz] at hbig; simp [dig_zero] at hbig
          have hb1 := HKu.out.box HB1.out (by simp)
          have y0 := hb1.c0; have y1 := hb1.c1; have y2 := hb1.f0 0; have y3 := hb1.f0 1
          have hbig' : decide (1024 < ((l : Nat) : Int)) = true := by simp; omega
          clear hb1
          go_wp2
          refine bodyPost_ret (v := .tuple #[.agg #[.bool false, .slice none 0 0], .int .i64 11]) (by simp [results, Tryd.results72, go_sem, y0, y1]) rfl ⟨_, by rw [HTE.out]; rfl, ?_, ⟨_, _, _, _, rfl⟩, fun h => by rw [HTE.out] at h; cases h⟩
          exact ((HBL.out.trans (HKu.out.below HBL.out.size (by simp; omega))).setCell (by simp) _).setCell (by simp) _
        · have hdg' : Lib.nDigits (A ^ (e / 2 ^ j)).natAbs ≤ 1024 := by
            by_cases hz : (A ^ (e / 2 ^ j)).natAbs = 0
            · rw [hz, Lib.nDigits_small (by omega)]; omega
            · rw [nDigits_dig hz, ← HLL.out]; omega
          have HDG' := Lib.hid hdg'
          have hbig' : decide (1024 < ((l : Nat) : Int)) = false := by simp; omega
          clear hdg'
          go_wp2
          go_roundw
          case rel => exact ⟨j, _, _, _, _, by omega, by go_num, HBu.out, HNu.out, HDG'.out, HNAu.out, HKu.out⟩
          case measure => simp [intOf]

end Go.Proofs.YtbmonfbbkmpdhaaDoor

namespace Go.Proofs.YtbmonfbbkmpdhaaDoor
open Go.RowKit Go.Proofs.Num

set_option maxRecDepth 100000 in
set_option maxHeartbeats 1600000 in
theorem pow_ok (s : ByteArray) (hs : s.size ≤ 9223372036854775807) (h0 : chk s.data.toList = 0) (n : Nat) (hn : n ≤ 4096) (hte : te ((parse s.data.toList) ^ n) = 0) (w : World) (hT : Tab w) :
    Calls Tryd.prog 38 #[.string s, .int .i64 n] w (TextOut w (tx ((parse s.data.toList) ^ n)) 0) := by
  have HT := Lib.hid hT
  have HX : Hid (∃ d : Nat, d = 1024 ∧ (parse s.data.toList).natAbs < 10 ^ d) := chk_ex _ h0
  have HC := Lib.hid h0
  clear hT h0
  generalize hz : parse s.data.toList = z at *
  obtain ⟨t, ht⟩ : ∃ t, t = tx (z ^ n) := ⟨_, rfl⟩
  rw [← ht]
  have HZ := Lib.hid hz
  have HTX := Lib.hid ht
  have HTE := Lib.hid hte
  have hn1 : decide (((n : Nat) : Int) < 0) = false := by simp
  have hn2 : decide (4096 < ((n : Nat) : Int)) = false := by simp; omega
  have hn3 : n < 4611686018427387904 := by omega
  clear hz ht hte
  go_enter Tryd.func38, Tryd.ntmps38
  go_wp2_with fail
  refine (read_any s hs _).mono ?_
  rintro e w1 ⟨b, a, k, p, rfl, hb, hok, -⟩
  have hok := hok HC.out
  rw [HZ.out] at hok
  rw [HC.out]
  have HOK : Hid (Nm (w1.alloc (.cells #[.bool b, .slice a k p] 73)) (.agg #[.bool b, .slice a k p]) z) := hok.keep (below1 _ _)
  have hbl1 : Below w.heap.size w (w1.alloc (.cells #[.bool b, .slice a k p] 73)) := hb.alloc hb.size _
  clear hok
  go_wp2_with fail
  refine (power_any _ z n _ HOK.out HX.out hn3).mono ?_
  rintro e w2 ⟨v, rfl, hb2, ⟨b', a', k', p', rfl⟩, hnm⟩
  have hbl2 : Below w.heap.size w w2 := hbl1.trans (hb2.mono hbl1.size)
  rw [HTE.out] at hnm ⊢
  have hnm := hnm rfl
  have HNM : Hid (Nm (w2.alloc (.cells #[.bool b', .slice a' k' p'] 73)) (.agg #[.bool b', .slice a' k' p']) (z ^ n)) := hnm.keep (below1 _ _)
  have hbl3 : Below w.heap.size w (w2.alloc (.cells #[.bool b', .slice a' k' p'] 73)) := hbl2.alloc hbl2.size _
  have HSM : Hid (Sm (z ^ n) 4294967295) := by
    unfold Hid
    refine Sm.le (sm_of_lt (k := 114) (Lib.lt_pow_nDigits _) ?_) (by omega)
    have h := HTE.out
    unfold te at h
    split at h
    · cases h
    · omega
  clear hnm
  go_wp2_with fail
  refine (text_any _ _ _ HNM.out HSM.out (HT.out.keep hbl3)).mono ?_
  rintro e w3 ⟨he, hb3⟩
  rw [← HTX.out, HTE.out] at he
  subst he
  go_wp2
  go_ret2
  exact ⟨rfl, hbl3.trans (hb3.mono hbl3.size)⟩


set_option maxRecDepth 100000 in
set_option maxHeartbeats 1600000 in
theorem pow_long (s : ByteArray) (hs : s.size ≤ 9223372036854775807) (h0 : chk s.data.toList = 0) (n : Nat) (hn : n ≤ 4096) (hte : te ((parse s.data.toList) ^ n) = 11) (w : World) (hT : Tab w) :
    Calls Tryd.prog 38 #[.string s, .int .i64 n] w (TextOut w (tx ((parse s.data.toList) ^ n)) 11) := by
  have HT := Lib.hid hT
  have HX : Hid (∃ d : Nat, d = 1024 ∧ (parse s.data.toList).natAbs < 10 ^ d) := chk_ex _ h0
  have HC := Lib.hid h0
  clear hT h0
  generalize hz : parse s.data.toList = z at *
  obtain ⟨t, ht⟩ : ∃ t, t = tx (z ^ n) := ⟨_, rfl⟩
  rw [← ht]
  have HZ := Lib.hid hz
  have HTX := Lib.hid ht
  have HTE := Lib.hid hte
  have hn1 : decide (((n : Nat) : Int) < 0) = false := by simp
  have hn2 : decide (4096 < ((n : Nat) : Int)) = false := by simp; omega
  have hn3 : n < 4611686018427387904 := by omega
  clear hz ht hte
  go_enter Tryd.func38, Tryd.ntmps38
  go_wp2_with fail
  refine (read_any s hs _).mono ?_
  rintro e w1 ⟨b, a, k, p, rfl, hb, hok, -⟩
  have hok := hok HC.out
  rw [HZ.out] at hok
  rw [HC.out]
  have HOK : Hid (Nm (w1.alloc (.cells #[.bool b, .slice a k p] 73)) (.agg #[.bool b, .slice a k p]) z) := hok.keep (below1 _ _)
  have hbl1 : Below w.heap.size w (w1.alloc (.cells #[.bool b, .slice a k p] 73)) := hb.alloc hb.size _
  clear hok
  go_wp2_with fail
  refine (power_any _ z n _ HOK.out HX.out hn3).mono ?_
  rintro e w2 ⟨v, rfl, hb2, ⟨b', a', k', p', rfl⟩, hnm⟩
  have hbl2 : Below w.heap.size w w2 := hbl1.trans (hb2.mono hbl1.size)
  rw [HTE.out] at hnm ⊢
  have htn : t = [] := by
    have h := HTE.out
    rw [HTX.out]
    unfold te at h
    unfold tx
    split at h
    · rename_i h1; rw [if_pos h1]
    · cases h
  have HTN := Lib.hid htn
  clear htn hnm
  go_wp2
  go_ret2
  refine ⟨?_, hbl2.alloc hbl2.size _⟩
  rw [HTN.out]; rfl


theorem te_ways (z : Int) : te z = 0 ∨ te z = 11 := by unfold te; split <;> simp

/-- Pow: canonical texts, exponents that may be. -/
theorem pow_any (s : ByteArray) (hs : s.size ≤ 9223372036854775807) (h0 : chk s.data.toList = 0) (n : Nat) (hn : n ≤ 4096) (w : World) (hT : Tab w) :
    Calls Tryd.prog 38 #[.string s, .int .i64 n] w (TextOut w (tx ((parse s.data.toList) ^ n)) (te ((parse s.data.toList) ^ n))) := by
  rcases te_ways ((parse s.data.toList) ^ n) with h | h
  · rw [h]; exact pow_ok s hs h0 n hn h w hT
  · rw [h]; exact pow_long s hs h0 n hn h w hT

end Go.Proofs.YtbmonfbbkmpdhaaDoor
