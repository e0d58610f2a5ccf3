/- Walks of the exported functions: quotients. -/
import Derived.Test.YtbmonfbbkmpdhaaDoorUd
import Derived.Test.YtbmonfbbkmpdhaaDoorNf
namespace Go.Proofs.YtbmonfbbkmpdhaaDoor
open Go.RowKit Go.Proofs.Num

set_option maxRecDepth 100000 in
set_option maxHeartbeats 3200000 in
theorem divided_err (s r : ByteArray) (hs : s.size ≤ 9223372036854775807) (hr : r.size ≤ 9223372036854775807) (h0 : chk2 s.data.toList r.data.toList ≠ 0) (w : World) :
    Calls Tryd.prog 73 #[.string s, .string r] w fun e w' => e = .returned (.tuple #[.agg #[.bool false, .slice none 0 0], .agg #[.bool false, .slice none 0 0], .int .i64 ((chk2 s.data.toList r.data.toList : Nat) : Int)]) ∧ Below w.heap.size w w' := by
  obtain ⟨c, hcc⟩ : ∃ c, c = chk2 s.data.toList r.data.toList := ⟨_, rfl⟩
  have hne : ((c : Int) == 0) = false := by simp; omega
  have hne2 : ((c : Int) != 0) = true := by simp; omega
  rw [← hcc]
  obtain ⟨W, hW, hA, hB, hBl, hsz⟩ := boxes2 w (.bool false) (.slice none 0 0) (.bool false) (.slice none 0 0)
  have HC := Lib.hid hcc
  have H0 := Lib.hid h0
  have HW := Lib.hid hW
  have HA := Lib.hid hA
  have HB := Lib.hid hB
  have HZ := Lib.hid hsz
  clear hcc h0 hA hB hW hsz
  go_enter Tryd.func73, Tryd.ntmps73
  go_wp2_with fail
  rw [← HW.out]
  refine (readTwo_any s r hs hr _).mono ?_
  rintro e w1 ⟨v1, v2, rfl, hb, ⟨b, a, k, p, rfl⟩, ⟨b', a', k', p', rfl⟩, -⟩
  rw [← HC.out]
  have hb1 : Below W.heap.size W ((w1.alloc (.cells #[.bool b, .slice a k p] 73)).alloc (.cells #[.bool b', .slice a' k' p'] 73)) := (hb.alloc hb.size _).alloc (by have := hb.size; simp; omega) _
  have hA1 := HA.out.keep hb1
  have hB1 := HB.out.keep hb1
  have a0 := hA1.c0; have a1 := hA1.c1; have b0 := hB1.c0; have b1 := hB1.c1; have a2 := hA1.f0 0; have a3 := hA1.f0 1; have b2 := hB1.f0 0; have b3 := hB1.f0 1
  have hK : Kept [w.heap.size, w.heap.size + 1] ((w1.alloc (.cells #[.bool b, .slice a k p] 73)).alloc (.cells #[.bool b', .slice a' k' p'] 73)) ((w1.alloc (.cells #[.bool b, .slice a k p] 73)).alloc (.cells #[.bool b', .slice a' k' p'] 73)) := Kept.start (by intro r hr; simp at hr; rcases hr with rfl | rfl; exact ⟨_, _, hA1⟩; exact ⟨_, _, hB1⟩)
  have HK := Lib.hid hK
  clear hA1 hB1 hK
  go_wp2
  exact bodyPost_ret (v := .tuple #[.agg #[.bool false, .slice none 0 0], .agg #[.bool false, .slice none 0 0], .int .i64 (c : Int)]) (by simp [results, Tryd.results73, go_sem, a0, a1, b0, b1]) rfl
    ⟨rfl, (Kept.store (Kept.store HK.out _ _ _ (by simp)) _ _ _ (by simp)).from (hBl.trans (hb1.mono hBl.size)) (by simp)⟩

theorem chk2_zero {l m : List UInt8} (h : chk2 l m = 0) : chk l = 0 ∧ chk m = 0 := by
  unfold chk2 at h
  split at h <;> omega

set_option maxRecDepth 100000 in
set_option maxHeartbeats 3200000 in
theorem divided_ok (M : Nat) (hD : DivTo M) (s r : ByteArray) (hs : s.size ≤ 9223372036854775807) (hr : r.size ≤ 9223372036854775807) (h0 : chk2 s.data.toList r.data.toList = 0) (hy0 : parse r.data.toList ≠ 0) (hyM : (parse r.data.toList).natAbs ≤ M) (w : World) :
    Calls Tryd.prog 73 #[.string s, .string r] w fun e w' => ∃ b1 a1 k1 p1 b2 a2 k2 p2, e = .returned (.tuple #[.agg #[.bool b1, .slice a1 k1 p1], .agg #[.bool b2, .slice a2 k2 p2], .int .i64 0]) ∧ Below w.heap.size w w' ∧
      Nm w' (.agg #[.bool b1, .slice a1 k1 p1]) (qz (parse s.data.toList) (parse r.data.toList)) ∧ Nm w' (.agg #[.bool b2, .slice a2 k2 p2]) (rz (parse s.data.toList) (parse r.data.toList)) := by
  obtain ⟨W, hW, hA, hB, hBl, hsz⟩ := boxes2 w (.bool false) (.slice none 0 0) (.bool false) (.slice none 0 0)
  obtain ⟨h1, h2⟩ := chk2_zero h0
  have HL : Hid (parse r.data.toList ≠ 0 ∧ (parse r.data.toList).natAbs ≤ M ∧ Sm (parse s.data.toList) 1073741823 ∧ Sm (parse r.data.toList) 1073741823) := ⟨hy0, hyM, Sm.le (chk_sm _ h1) (by omega), Sm.le (chk_sm _ h2) (by omega)⟩
  have HC := Lib.hid h0
  have HD := Lib.hid hD
  have HW := Lib.hid hW
  have HA := Lib.hid hA
  have HB := Lib.hid hB
  have HZ := Lib.hid hsz
  clear h0 h1 h2 hA hB hW hsz hy0 hyM hD
  generalize hx : parse s.data.toList = x at *
  generalize hy : parse r.data.toList = y at *
  have HX := Lib.hid hx
  have HY := Lib.hid hy
  have hsg : (sgn y == 0) = false := by
    have := HL.out.1
    unfold sgn
    by_cases h1 : y < 0
    · rw [if_pos h1]; decide
    · rw [if_neg h1, if_pos (by omega)]; decide
  clear hx hy
  go_enter Tryd.func73, Tryd.ntmps73
  go_wp2_with fail
  rw [← HW.out]
  refine (readTwo_any s r hs hr _).mono ?_
  rintro e w1 ⟨v1, v2, rfl, hb, ⟨b, a, k, p, rfl⟩, ⟨b', a', k', p', rfl⟩, hok⟩
  have hok := hok HC.out
  rw [HX.out, HY.out] at hok
  rw [HC.out]
  obtain ⟨W1, hW1, hA1, hB1, hBl1, hsz1⟩ := boxes2 w1 (.bool b) (.slice a k p) (.bool b') (.slice a' k' p')
  have HN : Hid (Nm W1 (.agg #[.bool b, .slice a k p]) x ∧ Nm W1 (.agg #[.bool b', .slice a' k' p']) y) := ⟨hok.1.keep hBl1, hok.2.keep hBl1⟩
  have hbW : Below W.heap.size W W1 := hb.trans (hBl1.mono hb.size)
  have a0 := hA1.c0; have a1 := hA1.c1; have b0 := hB1.c0; have b1 := hB1.c1
  have HW1 := Lib.hid hW1
  rw [hW1] at a0 a1 b0 b1
  have HAB : Hid (Box 73 W1 w1.heap.size (.bool b) (.slice a k p) ∧ Box 73 W1 (w1.heap.size + 1) (.bool b') (.slice a' k' p')) := ⟨hA1, hB1⟩
  clear hok hA1 hB1 hW1 hBl1 hsz1
  go_wp2_with fail
  rw [← HW1.out]
  refine (nsign_any _ y _ HN.out.2).mono ?_
  rintro e w2 ⟨rfl, hb2⟩
  clear a0 a1 b0 b1
  have a0 := (HAB.out.1.keep hb2).c0; have a1 := (HAB.out.1.keep hb2).c1; have b0 := (HAB.out.2.keep hb2).c0; have b1 := (HAB.out.2.keep hb2).c1
  go_wp2_with fail
  refine (ndivide_any M HD.out _ _ x y _ (HN.out.1.keep hb2) (HN.out.2.keep hb2) HL.out.1 HL.out.2.1 HL.out.2.2.1 HL.out.2.2.2).mono ?_
  rintro e w3 ⟨v1, v2, rfl, hq, hrm, hb3⟩
  obtain ⟨c, d, n, o, rfl⟩ := hq.sh
  obtain ⟨c', d', n', o', rfl⟩ := hrm.sh
  obtain ⟨W3, hW3, hC1, hD1, hBl3, hsz3⟩ := boxes2 w3 (.bool c) (.slice d n o) (.bool c') (.slice d' n' o')
  have hbW3 : Below W.heap.size W W3 := by
    have h5 := hb2.trans (hb3.mono hb2.size)
    have h6 := hbW.trans (h5.mono hbW.size)
    exact h6.trans (hBl3.mono h6.size)
  have hs3 : w.heap.size + 1 + 1 ≤ w3.heap.size := by
    rw [← HZ.out]
    exact Nat.le_trans (Nat.le_trans hbW.size hb2.size) hb3.size
  have hA3 := HA.out.keep hbW3
  have hB3 := HB.out.keep hbW3
  have a4 := hA3.c0; have a5 := hA3.c1; have b4 := hB3.c0; have b5 := hB3.c1; have a6 := hA3.f0 0; have a7 := hA3.f0 1; have b6 := hB3.f0 0; have b7 := hB3.f0 1
  have c0 := hC1.c0; have c1 := hC1.c1; have d0 := hD1.c0; have d1 := hD1.c1
  have hK : Kept [w.heap.size, w.heap.size + 1] W3 W3 := Kept.start (by intro r hr; simp at hr; rcases hr with rfl | rfl; exact ⟨_, _, hA3⟩; exact ⟨_, _, hB3⟩)
  have HR : Hid (Nm W3 (.agg #[.bool c, .slice d n o]) (qz x y) ∧ Nm W3 (.agg #[.bool c', .slice d' n' o']) (rz x y) ∧ Box 73 W3 w.heap.size (.bool false) (.slice none 0 0) ∧ Box 73 W3 (w.heap.size + 1) (.bool false) (.slice none 0 0)) := ⟨hq.keep hBl3, hrm.keep hBl3, hA3, hB3⟩
  have HK := Lib.hid hK
  have HW3 := Lib.hid hW3
  clear hA3 hB3 hK hW3 hC1 hD1 hq hrm a0 a1 b0 b1
  go_wp2_with fail
  rw [← HW3.out]
  have q1 : ¬ (w.heap.size = w3.heap.size) := by omega
  have q2 : ¬ (w.heap.size = w3.heap.size + 1) := by omega
  have q3 : ¬ (w.heap.size + 1 = w3.heap.size) := by omega
  have q4 : ¬ (w.heap.size + 1 = w3.heap.size + 1) := by omega
  have q5 : ¬ (w3.heap.size = w.heap.size) := by omega
  have q6 : ¬ (w3.heap.size + 1 = w.heap.size) := by omega
  have q7 : ¬ (w3.heap.size = w.heap.size + 1) := by omega
  have q8 : ¬ (w3.heap.size + 1 = w.heap.size + 1) := by omega
  go_region
  go_wp2
  have hB2 := (HR.out.2.2.2.other ⟨w.heap.size, 0, none⟩ (.bool c) (by simp)).other ⟨w.heap.size, 1, none⟩ (.slice d n o) (by simp)
  exact bodyPost_ret (v := .tuple #[.agg #[.bool c, .slice d n o], .agg #[.bool c', .slice d' n' o'], .int .i64 0]) (by simp [results, Tryd.results73, go_sem, a4, a5, b4, b5]) rfl
    ⟨_, _, _, _, _, _, _, _, rfl, ((Kept.store (Kept.store HK.out _ _ _ (by simp)) _ _ _ (by simp)).drew).from (hBl.trans (hbW3.mono hBl.size)) (by simp),
      (Nm.stores (Nm.stores HR.out.1 HR.out.2.2.1 _ _) hB2 _ _).keep (Below.refl _ _).drew, (Nm.stores (Nm.stores HR.out.2.1 HR.out.2.2.1 _ _) hB2 _ _).keep (Below.refl _ _).drew⟩

end Go.Proofs.YtbmonfbbkmpdhaaDoor
