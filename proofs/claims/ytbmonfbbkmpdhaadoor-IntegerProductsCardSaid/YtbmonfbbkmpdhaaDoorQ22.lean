/- Walks of the exported functions: Bezout. -/
import Derived.Test.YtbmonfbbkmpdhaaDoorQ16
import Derived.Test.YtbmonfbbkmpdhaaDoorQ17
import Derived.Test.YtbmonfbbkmpdhaaDoorQ21
namespace Go.Proofs.YtbmonfbbkmpdhaaDoor
open Go.RowKit Go.Proofs.Num

theorem coef_any (v1 v2 : Value) (n m : Int) (w : World) (h1 : Nm w v1 n) (h2 : Nm w v2 m) (hn : Sm n 500000000) (hs : Sm m 500000000) :
    Calls Tryd.prog 77 #[v1, v2] w (Gives3N w (bez n m).1 (bez n m).2.1 (bez n m).2.2) := by
  by_cases hm : m = 0
  · subst hm
    have := coef_zero v1 v2 n w h1 h2
    unfold bez
    rw [if_pos rfl]
    exact this
  · exact coef_pos m.natAbs (divTo_all _) v1 v2 n m w h1 h2 hm (Nat.le_refl _) hn hs

theorem qz_le (x y : Int) (hy : y ≠ 0) : (qz x y).natAbs ≤ x.natAbs := by
  obtain ⟨h1, h2, h3⟩ := qz_spec x y hy
  generalize qz x y = q at *
  generalize rz x y = r at *
  have h4 : y.natAbs * q.natAbs = (y * q).natAbs := (Int.natAbs_mul _ _).symm
  have h5 : y * q = x - r := by omega
  rw [h5] at h4
  have h6 : r.natAbs < y.natAbs := by
    rcases (show 0 < y ∨ y < 0 by omega) with h | h
    · have := h2 h; omega
    · have := h3 h; omega
  apply Classical.byContradiction
  intro hn
  obtain ⟨k, hk⟩ : ∃ k, q.natAbs = k + 1 := ⟨q.natAbs - 1, by omega⟩
  rw [hk, Nat.mul_add, Nat.mul_one] at h4
  have h7 : 1 * k ≤ y.natAbs * k := Nat.mul_le_mul_right _ (by omega)
  omega

theorem bez_sm {n m : Int} (hn : Sm n 200) (hm : Sm m 200) : Sm (bez n m).1 4294967295 ∧ Sm (bez n m).2.1 4294967295 ∧ Sm (bez n m).2.2 4294967295 := by
  unfold bez
  by_cases h0 : m = 0
  · rw [if_pos h0]
    refine ⟨Sm.up (Sm.mono hn (by omega)) (by omega), ?_, ?_⟩
    · have h1 : (sgn n).natAbs ≤ 1 := by
        unfold sgn
        by_cases h : n < 0
        · rw [if_pos h]; decide
        · rw [if_neg h]
          by_cases h' : 0 < n
          · rw [if_pos h']; decide
          · rw [if_neg h']; decide
      have : Sm (sgn n) 1 := Sm.of (by rw [Nat.pow_one]; omega)
      exact Sm.up this (by omega)
    · have : Sm 0 0 := Sm.of (by simp)
      exact Sm.up this (by omega)
  · rw [if_neg h0]
    have h := coefB (n := n) h0
    generalize (inv ((m.natAbs : Nat) : Int) (rz n ((m.natAbs : Nat) : Int)) 0 1).1 = d at *
    generalize (inv ((m.natAbs : Nat) : Int) (rz n ((m.natAbs : Nat) : Int)) 0 1).2 = x at *
    generalize qz ((m.natAbs : Nat) : Int) d = q at *
    generalize rz x q = z at *
    have sd : Sm d 200 := Sm.mono hm (by have := h.d0; have := h.dm; omega)
    have sz : Sm z 200 := Sm.mono hm (by have := h.z0; have := h.zm; omega)
    have sp : Sm (d - n * z) 401 := Sm.sub (Sm.up sd (by omega)) (Sm.mul hn sz)
    exact ⟨Sm.up sd (by omega), Sm.up sz (by omega), Sm.up (Sm.mono sp (qz_le _ _ h0)) (by omega)⟩

/-- Hands back three texts and an error. -/
def BezOut (w : World) (a b c : List UInt8) (n : Nat) (e : Ending) (w' : World) : Prop := e = .returned (.tuple #[str a, str b, str c, .int .i64 ((n : Nat) : Int)]) ∧ Below w.heap.size w w'

theorem boxes3' (w : World) (x1 y1 x2 y2 x3 y3 : Value) : ∃ W, W = ((w.alloc (.cells #[x1, y1] 73)).alloc (.cells #[x2, y2] 73)).alloc (.cells #[x3, y3] 73) ∧
    Box 73 W w.heap.size x1 y1 ∧ Box 73 W (w.heap.size + 1) x2 y2 ∧ Box 73 W (w.heap.size + 1 + 1) x3 y3 ∧ Below w.heap.size w W := by
  obtain ⟨W, hW, h1, h2, h3, hb, hz⟩ := boxes3 w x1 y1 x2 y2 x3 y3
  exact ⟨W, hW, h1, h2, h3, hb⟩

set_option maxRecDepth 100000 in
set_option maxHeartbeats 3200000 in
theorem bezout_ok (s r : ByteArray) (hs : s.size ≤ 9223372036854775807) (hr : r.size ≤ 9223372036854775807) (h0 : chk2 s.data.toList r.data.toList = 0) (w : World) (hT : Tab w) :
    Calls Tryd.prog 44 #[.string s, .string r] w (BezOut w (tx (bez (parse s.data.toList) (parse r.data.toList)).1) (tx (bez (parse s.data.toList) (parse r.data.toList)).2.1) (tx (bez (parse s.data.toList) (parse r.data.toList)).2.2) 0) := by
  have hch := h0
  unfold chk2 at hch
  have h1 : chk s.data.toList = 0 := by split at hch <;> omega
  have h2 : chk r.data.toList = 0 := by split at hch <;> omega
  clear hch
  have sn := chk_sm _ h1
  have sm := chk_sm _ h2
  generalize hn : parse s.data.toList = n at *
  generalize hm : parse r.data.toList = m at *
  have hb := bez_sm (Sm.up sn (by omega)) (Sm.up sm (by omega))
  obtain ⟨d, hd⟩ : ∃ d, d = (bez n m).1 := ⟨_, rfl⟩
  obtain ⟨x, hx⟩ : ∃ d, d = (bez n m).2.1 := ⟨_, rfl⟩
  obtain ⟨y, hy⟩ : ∃ d, d = (bez n m).2.2 := ⟨_, rfl⟩
  rw [← hd, ← hx, ← hy] at hb ⊢
  obtain ⟨td, htd⟩ : ∃ t, t = tx d := ⟨_, rfl⟩
  obtain ⟨tx', htx⟩ : ∃ t, t = tx x := ⟨_, rfl⟩
  obtain ⟨ty, hty⟩ : ∃ t, t = tx y := ⟨_, rfl⟩
  rw [← htd, ← htx, ← hty]
  have HE : Hid (d = (bez n m).1 ∧ x = (bez n m).2.1 ∧ y = (bez n m).2.2 ∧ td = tx d ∧ tx' = tx x ∧ ty = tx y) := ⟨hd, hx, hy, htd, htx, hty⟩
  have HS : Hid (Sm n 114 ∧ Sm m 114 ∧ Sm d 4294967295 ∧ Sm x 4294967295 ∧ Sm y 4294967295) := ⟨sn, sm, hb⟩
  have HP : Hid (parse s.data.toList = n ∧ parse r.data.toList = m) := ⟨hn, hm⟩
  have HC := Lib.hid h0
  have HT := Lib.hid hT
  clear sn sm hb hd hx hy htd htx hty hn hm h0 hT h1 h2
  go_enter Tryd.func44, Tryd.ntmps44
  go_wp2_with fail
  refine (readTwo_any s r hs hr _).mono ?_
  rintro e w1 ⟨v1, v2, rfl, hb, ⟨b, a, k, p, rfl⟩, ⟨b', a', k', p', rfl⟩, hok⟩
  have hok := hok HC.out
  rw [HP.out.1, HP.out.2] at hok
  rw [HC.out]
  obtain ⟨W, hW, hA, hB, hBl, hsz⟩ := boxes2 w1 (.bool b) (.slice a k p) (.bool b') (.slice a' k' p')
  have HN : Hid (Nm W (.agg #[.bool b, .slice a k p]) n ∧ Nm W (.agg #[.bool b', .slice a' k' p']) m) := ⟨hok.1.keep hBl, hok.2.keep hBl⟩
  have hbW : Below w.heap.size w W := hb.trans (hBl.mono hb.size)
  have a0 := hA.c0; have a1 := hA.c1; have b0 := hB.c0; have b1 := hB.c1
  have HW := Lib.hid hW
  rw [hW] at a0 a1 b0 b1
  clear hok hA hB hW hBl hsz
  go_wp2_with fail
  rw [← HW.out]
  refine (coef_any _ _ n m _ HN.out.1 HN.out.2 (Sm.up HS.out.1 (by omega)) (Sm.up HS.out.2.1 (by omega))).mono ?_
  rintro e w2 ⟨v1, v2, v3, rfl, n1, n2, n3, hb2⟩
  rw [← HE.out.1] at n1
  rw [← HE.out.2.1] at n2
  rw [← HE.out.2.2.1] at n3
  obtain ⟨c1, c2, c3, c4, rfl⟩ := n1.sh
  obtain ⟨d1, d2, d3, d4, rfl⟩ := n2.sh
  obtain ⟨e1, e2, e3, e4, rfl⟩ := n3.sh
  obtain ⟨W3, hW3, hC, hD, hE, hBl3⟩ := boxes3' w2 (.bool c1) (.slice c2 c3 c4) (.bool d1) (.slice d2 d3 d4) (.bool e1) (.slice e2 e3 e4)
  have HN3 : Hid (Nm W3 (.agg #[.bool c1, .slice c2 c3 c4]) d ∧ Nm W3 (.agg #[.bool d1, .slice d2 d3 d4]) x ∧ Nm W3 (.agg #[.bool e1, .slice e2 e3 e4]) y) := ⟨n1.keep hBl3, n2.keep hBl3, n3.keep hBl3⟩
  have hb23 := hb2.trans (hBl3.mono hb2.size)
  have HB3 := Lib.hid (hbW.trans (hb23.mono hbW.size))
  have HCD : Hid (Box 73 W3 w2.heap.size (.bool c1) (.slice c2 c3 c4) ∧ Box 73 W3 (w2.heap.size + 1) (.bool d1) (.slice d2 d3 d4) ∧ Box 73 W3 (w2.heap.size + 1 + 1) (.bool e1) (.slice e2 e3 e4)) := ⟨hC, hD, hE⟩
  clear a0 a1 b0 b1
  have a0 := hC.c0; have a1 := hC.c1
  have HW3 := Lib.hid hW3
  rw [hW3] at a0 a1
  clear hC hD hE hW3 hBl3 hb23 n1 n2 n3 hb2
  go_wp2_with fail
  rw [← HW3.out]
  refine (text_any _ d _ HN3.out.1 HS.out.2.2.1 (HT.out.keep HB3.out)).mono ?_
  rintro e w4 ⟨he, hb4⟩
  rw [← HE.out.2.2.2.1] at he
  subst he
  clear a0 a1
  have a0 := (HCD.out.2.1.keep hb4).c0; have a1 := (HCD.out.2.1.keep hb4).c1
  have HB4 := Lib.hid (HB3.out.trans (hb4.mono HB3.out.size))
  go_wp2_with fail
  refine (text_any _ x _ (HN3.out.2.1.keep hb4) HS.out.2.2.2.1 (HT.out.keep HB4.out)).mono ?_
  rintro e w5 ⟨he, hb5⟩
  rw [← HE.out.2.2.2.2.1] at he
  subst he
  clear a0 a1
  have hb45 := hb4.trans (hb5.mono hb4.size)
  have a0 := (HCD.out.2.2.keep hb45).c0; have a1 := (HCD.out.2.2.keep hb45).c1
  have HB5 := Lib.hid (HB3.out.trans (hb45.mono HB3.out.size))
  go_wp2_with fail
  refine (text_any _ y _ (HN3.out.2.2.keep hb45) HS.out.2.2.2.2 (HT.out.keep HB5.out)).mono ?_
  rintro e w6 ⟨he, hb6⟩
  rw [← HE.out.2.2.2.2.2] at he
  subst he
  go_wp2
  refine bodyPost_ret (v := .tuple #[str td, str tx', str ty, .int .i64 0]) (by simp [results, Tryd.results44, go_sem]) rfl ⟨rfl, HB5.out.trans (hb6.mono HB5.out.size)⟩

set_option maxRecDepth 100000 in
set_option maxHeartbeats 1600000 in
theorem bezout_err (s r : ByteArray) (hs : s.size ≤ 9223372036854775807) (hr : r.size ≤ 9223372036854775807) (h0 : chk2 s.data.toList r.data.toList ≠ 0) (w : World) :
    Calls Tryd.prog 44 #[.string s, .string r] w (BezOut w [] [] [] (chk2 s.data.toList r.data.toList)) := by
  obtain ⟨c, hcc⟩ : ∃ c, c = chk2 s.data.toList r.data.toList := ⟨_, rfl⟩
  have hne : ((c : Int) == 0) = false := by simp; omega
  have hne2 : ((c : Int) != 0) = true := by simp; omega
  rw [← hcc]
  have HC := Lib.hid hcc
  clear hcc h0
  go_enter Tryd.func44, Tryd.ntmps44
  go_wp2_with fail
  refine (readTwo_any s r hs hr _).mono ?_
  rintro e w1 ⟨v1, v2, rfl, hb, ⟨b, a, k, p, rfl⟩, ⟨b', a', k', p', rfl⟩, -⟩
  rw [← HC.out]
  go_wp2
  refine bodyPost_ret (v := .tuple #[str [], str [], str [], .int .i64 (c : Int)]) (by simp [results, Tryd.results44, go_sem, str]) rfl ⟨rfl, (hb.alloc hb.size _).alloc (by have := hb.size; simp; omega) _⟩
end Go.Proofs.YtbmonfbbkmpdhaaDoor
