/- Walks of the exported functions: reading two texts. -/
import Derived.Test.YtbmonfbbkmpdhaaDoorUc
namespace Go.Proofs.YtbmonfbbkmpdhaaDoor
open Go.RowKit Go.Proofs.Num

/-- The first error of two texts. -/
def chk2 (l m : List UInt8) : Nat := if chk l ≠ 0 then chk l else chk m

/-- What reading two texts hands back. -/
def Rd2Out (w : World) (l m : List UInt8) (e : Ending) (w' : World) : Prop :=
  ∃ v1 v2, e = .returned (.tuple #[v1, v2, .int .i64 ((chk2 l m : Nat) : Int)]) ∧ Below w.heap.size w w' ∧ (∃ b a k p, v1 = .agg #[.bool b, .slice a k p]) ∧ (∃ b a k p, v2 = .agg #[.bool b, .slice a k p]) ∧
    (chk2 l m = 0 → Nm w' v1 (parse l) ∧ Nm w' v2 (parse m))

set_option maxRecDepth 100000 in
set_option maxHeartbeats 3200000 in
theorem readTwo_err1 (s r : ByteArray) (hs : s.size ≤ 9223372036854775807) (h0 : chk s.data.toList ≠ 0) (w : World) :
    Calls Tryd.prog 64 #[.string s, .string r] w fun e w' => e = .returned (.tuple #[.agg #[.bool false, .slice none 0 0], .agg #[.bool false, .slice none 0 0], .int .i64 ((chk s.data.toList : Nat) : Int)]) ∧ Below w.heap.size w w' := by
  obtain ⟨c, hcc⟩ : ∃ c, c = chk s.data.toList := ⟨_, rfl⟩
  have hne : ((c : Int) == 0) = false := by simp; omega
  have hne2 : ((c : Int) != 0) = true := by simp; omega
  rw [← hcc]
  obtain ⟨W, hW, hA, hB, hBl, hsz⟩ := boxes2 w (.bool false) (.slice none 0 0) (.bool false) (.slice none 0 0)
  have HC := Lib.hid hcc
  have H0 := Lib.hid h0
  have HW := Lib.hid hW
  have HA := Lib.hid hA
  have HB := Lib.hid hB
  have HZ := Lib.hid hsz
  clear hcc h0 hA hB hW hsz
  go_enter Tryd.func64, Tryd.ntmps64
  go_wp2_with fail
  rw [← HW.out]
  refine (read_any s hs _).mono ?_
  rintro e w1 ⟨b, a, k, p, rfl, hb, -, -⟩
  rw [← HC.out]
  have hA1 := HA.out.keep (hb.alloc hb.size (.cells #[.bool b, .slice a k p] 73))
  have hB1 := HB.out.keep (hb.alloc hb.size (.cells #[.bool b, .slice a k p] 73))
  have a0 := hA1.c0; have a1 := hA1.c1; have b0 := hB1.c0; have b1 := hB1.c1; have a2 := hA1.f0 0; have a3 := hA1.f0 1; have b2 := hB1.f0 0; have b3 := hB1.f0 1
  have hK : Kept [w.heap.size, w.heap.size + 1] (w1.alloc (.cells #[.bool b, .slice a k p] 73)) (w1.alloc (.cells #[.bool b, .slice a k p] 73)) := Kept.start (by intro r hr; simp at hr; rcases hr with rfl | rfl; exact ⟨_, _, hA1⟩; exact ⟨_, _, hB1⟩)
  have HK := Lib.hid hK
  clear hA1 hB1 hK
  go_wp2
  exact bodyPost_ret (v := .tuple #[.agg #[.bool false, .slice none 0 0], .agg #[.bool false, .slice none 0 0], .int .i64 (c : Int)]) (by simp [results, Tryd.results64, go_sem, a0, a1, b0, b1]) rfl
    ⟨rfl, (Kept.store (Kept.store HK.out _ _ _ (by simp)) _ _ _ (by simp)).from (hBl.trans ((hb.alloc hb.size _).mono hBl.size)) (by simp)⟩

set_option maxRecDepth 100000 in
set_option maxHeartbeats 3200000 in
theorem readTwo_err2 (s r : ByteArray) (hs : s.size ≤ 9223372036854775807) (hr : r.size ≤ 9223372036854775807) (h0 : chk s.data.toList = 0) (h1 : chk r.data.toList ≠ 0) (w : World) :
    Calls Tryd.prog 64 #[.string s, .string r] w fun e w' => e = .returned (.tuple #[.agg #[.bool false, .slice none 0 0], .agg #[.bool false, .slice none 0 0], .int .i64 ((chk r.data.toList : Nat) : Int)]) ∧ Below w.heap.size w w' := by
  obtain ⟨c, hcc⟩ : ∃ c, c = chk r.data.toList := ⟨_, rfl⟩
  have hne : ((c : Int) == 0) = false := by simp; omega
  have hne2 : ((c : Int) != 0) = true := by simp; omega
  rw [← hcc]
  obtain ⟨W, hW, hA, hB, hBl, hsz⟩ := boxes2 w (.bool false) (.slice none 0 0) (.bool false) (.slice none 0 0)
  have HC := Lib.hid hcc
  have H0 := Lib.hid h0
  have HW := Lib.hid hW
  have HA := Lib.hid hA
  have HB := Lib.hid hB
  have HZ := Lib.hid hsz
  clear hcc h0 h1 hA hB hW hsz
  go_enter Tryd.func64, Tryd.ntmps64
  go_wp2_with fail
  rw [← HW.out]
  refine (read_any s hs _).mono ?_
  rintro e w1 ⟨b, a, k, p, rfl, hb, -, -⟩
  rw [H0.out]
  have hb1 : Below W.heap.size W (w1.alloc (.cells #[.bool b, .slice a k p] 73)) := hb.alloc hb.size _
  go_wp2_with fail
  refine (read_any r hr _).mono ?_
  rintro e w2 ⟨b', a', k', p', rfl, hb2, -, -⟩
  rw [← HC.out]
  have hb3 : Below W.heap.size W (w2.alloc (.cells #[.bool b', .slice a' k' p'] 73)) := hb1.trans ((hb2.alloc hb2.size _).mono hb1.size)
  have hA1 := HA.out.keep hb3
  have hB1 := HB.out.keep hb3
  have a0 := hA1.c0; have a1 := hA1.c1; have b0 := hB1.c0; have b1 := hB1.c1; have a2 := hA1.f0 0; have a3 := hA1.f0 1; have b2 := hB1.f0 0; have b3 := hB1.f0 1
  have hK : Kept [w.heap.size, w.heap.size + 1] (w2.alloc (.cells #[.bool b', .slice a' k' p'] 73)) (w2.alloc (.cells #[.bool b', .slice a' k' p'] 73)) := Kept.start (by intro r hr; simp at hr; rcases hr with rfl | rfl; exact ⟨_, _, hA1⟩; exact ⟨_, _, hB1⟩)
  have HK := Lib.hid hK
  clear hA1 hB1 hK
  go_wp2
  exact bodyPost_ret (v := .tuple #[.agg #[.bool false, .slice none 0 0], .agg #[.bool false, .slice none 0 0], .int .i64 (c : Int)]) (by simp [results, Tryd.results64, go_sem, a0, a1, b0, b1]) rfl
    ⟨rfl, (Kept.store (Kept.store HK.out _ _ _ (by simp)) _ _ _ (by simp)).from (hBl.trans (hb3.mono hBl.size)) (by simp)⟩

set_option maxRecDepth 100000 in
set_option maxHeartbeats 3200000 in
theorem readTwo_ok (s r : ByteArray) (hs : s.size ≤ 9223372036854775807) (hr : r.size ≤ 9223372036854775807) (h0 : chk s.data.toList = 0) (h1 : chk r.data.toList = 0) (w : World) :
    Calls Tryd.prog 64 #[.string s, .string r] w fun e w' => ∃ b1 a1 k1 p1 b2 a2 k2 p2, e = .returned (.tuple #[.agg #[.bool b1, .slice a1 k1 p1], .agg #[.bool b2, .slice a2 k2 p2], .int .i64 0]) ∧ Below w.heap.size w w' ∧
      Nm w' (.agg #[.bool b1, .slice a1 k1 p1]) (parse s.data.toList) ∧ Nm w' (.agg #[.bool b2, .slice a2 k2 p2]) (parse r.data.toList) := by
  obtain ⟨W, hW, hA, hB, hBl, hsz⟩ := boxes2 w (.bool false) (.slice none 0 0) (.bool false) (.slice none 0 0)
  have HC := Lib.hid h1
  have H0 := Lib.hid h0
  have HW := Lib.hid hW
  have HA := Lib.hid hA
  have HB := Lib.hid hB
  have HZ := Lib.hid hsz
  clear h0 h1 hA hB hW hsz
  generalize hx : parse s.data.toList = x at *
  generalize hy : parse r.data.toList = y at *
  have HX := Lib.hid hx
  have HY := Lib.hid hy
  clear hx hy
  go_enter Tryd.func64, Tryd.ntmps64
  go_wp2_with fail
  rw [← HW.out]
  refine (read_any s hs _).mono ?_
  rintro e w1 ⟨b, a, k, p, rfl, hb, hok, -⟩
  have hok := hok H0.out
  rw [HX.out] at hok
  rw [H0.out]
  have hb1 : Below W.heap.size W (w1.alloc (.cells #[.bool b, .slice a k p] 73)) := hb.alloc hb.size _
  have hX : Nm (w1.alloc (.cells #[.bool b, .slice a k p] 73)) (.agg #[.bool b, .slice a k p]) x := hok.keep (below1 _ _)
  have hC : Box 73 (w1.alloc (.cells #[.bool b, .slice a k p] 73)) w1.heap.size (.bool b) (.slice a k p) := Box.new _ _ _ _
  have HXN := Lib.hid hX
  have HCB := Lib.hid hC
  clear hX hC hok
  go_wp2_with fail
  refine (read_any r hr _).mono ?_
  rintro e w2 ⟨b', a', k', p', rfl, hb2, hok, -⟩
  have hok := hok HC.out
  rw [HY.out] at hok
  rw [HC.out]
  obtain ⟨W3, hW3⟩ : ∃ W3, W3 = w2.alloc (.cells #[.bool b', .slice a' k' p'] 73) := ⟨_, rfl⟩
  have hb23 : Below (w1.alloc (.cells #[.bool b, .slice a k p] 73)).heap.size (w1.alloc (.cells #[.bool b, .slice a k p] 73)) W3 := by rw [hW3]; exact hb2.alloc hb2.size _
  have hb3 : Below W.heap.size W W3 := hb1.trans (hb23.mono hb1.size)
  have hY : Nm W3 (.agg #[.bool b', .slice a' k' p']) y := by rw [hW3]; exact hok.keep (below1 _ _)
  have hX3 : Nm W3 (.agg #[.bool b, .slice a k p]) x := HXN.out.keep hb23
  have hA1 := HA.out.keep hb3
  have hB1 := HB.out.keep hb3
  have hC1 := HCB.out.keep hb23
  have hD1 : Box 73 W3 w2.heap.size (.bool b') (.slice a' k' p') := by rw [hW3]; exact Box.new _ _ _ _
  have hs2 : w.heap.size + 1 + 1 ≤ w1.heap.size := by rw [← HZ.out]; exact hb.size
  have hs3 : w.heap.size + 1 + 1 ≤ w2.heap.size := by have := hb2.size; rw [World.size_alloc] at this; omega
  have hK : Kept [w.heap.size, w.heap.size + 1] W3 W3 := Kept.start (by intro r hr; simp at hr; rcases hr with rfl | rfl; exact ⟨_, _, hA1⟩; exact ⟨_, _, hB1⟩)
  have HS : Hid (∀ u, Kept [w.heap.size, w.heap.size + 1] W3 u → (Kept [w.heap.size, w.heap.size + 1] W3 u ∧ u.cell? ⟨w1.heap.size, 0, none⟩ = some (.bool b) ∧ u.cell? ⟨w1.heap.size, 1, none⟩ = some (.slice a k p) ∧ u.cell? ⟨w2.heap.size, 0, none⟩ = some (.bool b') ∧ u.cell? ⟨w2.heap.size, 1, none⟩ = some (.slice a' k' p'))) :=
    fun u hu => ⟨hu, (hu.box hC1 (by simp; omega)).c0, (hu.box hC1 (by simp; omega)).c1, (hu.box hD1 (by simp; omega)).c0, (hu.box hD1 (by simp; omega)).c1⟩
  have HW3 := Lib.hid hW3
  have HN : Hid (Nm W3 (.agg #[.bool b, .slice a k p]) x ∧ Nm W3 (.agg #[.bool b', .slice a' k' p']) y ∧ Box 73 W3 w.heap.size (.bool false) (.slice none 0 0) ∧ Box 73 W3 (w.heap.size + 1) (.bool false) (.slice none 0 0)) := ⟨hX3, hY, hA1, hB1⟩
  have HK := Lib.hid hK
  clear hW3 hY hX3 hA1 hB1 hC1 hD1 hK hok
  go_wp2_with fail
  rw [← HW3.out]
  have hK1 := HK.out.drew
  obtain ⟨_, d1, d2, d3, d4⟩ := HS.out _ HK.out
  have a0 := HN.out.2.2.1.c0; have a1 := HN.out.2.2.1.c1; have b0 := HN.out.2.2.2.c0; have b1 := HN.out.2.2.2.c1; have a2 := HN.out.2.2.1.f0 0; have a3 := HN.out.2.2.1.f0 1; have b2 := HN.out.2.2.2.f0 0; have b3 := HN.out.2.2.2.f0 1
  have q1 : ¬ (w.heap.size = w1.heap.size) := by omega
  have q2 : ¬ (w.heap.size = w2.heap.size) := by omega
  have q3 : ¬ (w.heap.size + 1 = w1.heap.size) := by omega
  have q4 : ¬ (w.heap.size + 1 = w2.heap.size) := by omega
  have q5 : ¬ (w1.heap.size = w.heap.size) := by omega
  have q6 : ¬ (w2.heap.size = w.heap.size) := by omega
  have q7 : ¬ (w1.heap.size = w.heap.size + 1) := by omega
  have q8 : ¬ (w2.heap.size = w.heap.size + 1) := by omega
  go_region
  go_wp2
  have hB2 := (HN.out.2.2.2.other ⟨w.heap.size, 0, none⟩ (.bool b) (by simp)).other ⟨w.heap.size, 1, none⟩ (.slice a k p) (by simp)
  exact bodyPost_ret (v := .tuple #[.agg #[.bool b, .slice a k p], .agg #[.bool b', .slice a' k' p'], .int .i64 0]) (by simp [results, Tryd.results64, go_sem, a0, a1, b0, b1]) rfl
    ⟨_, _, _, _, _, _, _, _, rfl, ((Kept.store (Kept.store HK.out _ _ _ (by simp)) _ _ _ (by simp)).drew).from (hBl.trans (hb3.mono hBl.size)) (by simp),
      (Nm.stores (Nm.stores HN.out.1 HN.out.2.2.1 _ _) hB2 _ _).keep (Below.refl _ _).drew, (Nm.stores (Nm.stores HN.out.2.1 HN.out.2.2.1 _ _) hB2 _ _).keep (Below.refl _ _).drew⟩

/-- readTwo -/
theorem readTwo_any (s r : ByteArray) (hs : s.size ≤ 9223372036854775807) (hr : r.size ≤ 9223372036854775807) (w : World) : Calls Tryd.prog 64 #[.string s, .string r] w (Rd2Out w s.data.toList r.data.toList) := by
  unfold Rd2Out chk2
  by_cases h1 : chk s.data.toList = 0
  · rw [if_neg (by omega)]
    by_cases h2 : chk r.data.toList = 0
    · refine (readTwo_ok s r hs hr h1 h2 w).mono ?_
      rintro e w' ⟨b1, a1, k1, p1, b2, a2, k2, p2, rfl, hb, hx, hy⟩
      exact ⟨_, _, by rw [h2]; rfl, hb, ⟨_, _, _, _, rfl⟩, ⟨_, _, _, _, rfl⟩, fun _ => ⟨hx, hy⟩⟩
    · refine (readTwo_err2 s r hs hr h1 h2 w).mono ?_
      rintro e w' ⟨rfl, hb⟩
      exact ⟨_, _, rfl, hb, ⟨_, _, _, _, rfl⟩, ⟨_, _, _, _, rfl⟩, fun h => absurd h h2⟩
  · rw [if_pos h1]
    refine (readTwo_err1 s r hs h1 w).mono ?_
    rintro e w' ⟨rfl, hb⟩
    exact ⟨_, _, rfl, hb, ⟨_, _, _, _, rfl⟩, ⟨_, _, _, _, rfl⟩, fun h => absurd h h1⟩

set_option maxRecDepth 100000 in
set_option maxHeartbeats 1600000 in
theorem cmp_err (s r : ByteArray) (hs : s.size ≤ 9223372036854775807) (hr : r.size ≤ 9223372036854775807) (h0 : chk2 s.data.toList r.data.toList ≠ 0) (w : World) :
    Calls Tryd.prog 27 #[.string s, .string r] w (IntOut w 0 (chk2 s.data.toList r.data.toList)) := by
  obtain ⟨c, hcc⟩ : ∃ c, c = chk2 s.data.toList r.data.toList := ⟨_, rfl⟩
  have hne : ((c : Int) == 0) = false := by simp; omega
  have hne2 : ((c : Int) != 0) = true := by simp; omega
  rw [← hcc]
  have HC := Lib.hid hcc
  clear hcc h0
  go_enter Tryd.func27, Tryd.ntmps27
  go_wp2_with fail
  refine (readTwo_any s r hs hr _).mono ?_
  rintro e w1 ⟨v1, v2, rfl, hb, ⟨b, a, k, p, rfl⟩, ⟨b', a', k', p', rfl⟩, -⟩
  rw [← HC.out]
  go_wp2
  go_ret2
  exact ⟨rfl, (hb.alloc hb.size _).alloc (by have := hb.size; simp; omega) _⟩

set_option maxRecDepth 100000 in
set_option maxHeartbeats 1600000 in
theorem cmp_ok (s r : ByteArray) (hs : s.size ≤ 9223372036854775807) (hr : r.size ≤ 9223372036854775807) (h1 : chk s.data.toList = 0) (h2 : chk r.data.toList = 0) (w : World) :
    Calls Tryd.prog 27 #[.string s, .string r] w (IntOut w (cmpZ (parse s.data.toList) (parse r.data.toList)) 0) := by
  have hc : chk2 s.data.toList r.data.toList = 0 := by unfold chk2; rw [if_neg (by omega)]; exact h2
  have HC := Lib.hid hc
  have HSX : Hid (Sm (parse s.data.toList) 4294967295 ∧ Sm (parse r.data.toList) 4294967295) := ⟨Sm.le (chk_sm _ h1) (by omega), Sm.le (chk_sm _ h2) (by omega)⟩
  clear hc h1 h2
  generalize hx : parse s.data.toList = x at *
  generalize hy : parse r.data.toList = y at *
  have HX := Lib.hid hx
  have HY := Lib.hid hy
  clear hx hy
  go_enter Tryd.func27, Tryd.ntmps27
  go_wp2_with fail
  refine (readTwo_any s r hs hr _).mono ?_
  rintro e w1 ⟨v1, v2, rfl, hb, ⟨b, a, k, p, rfl⟩, ⟨b', a', k', p', rfl⟩, hok⟩
  have hok := hok HC.out
  rw [HX.out, HY.out] at hok
  rw [HC.out]
  obtain ⟨W, hW, hA, hB, hBl, hsz⟩ := boxes2 w1 (.bool b) (.slice a k p) (.bool b') (.slice a' k' p')
  have HN : Hid (Nm W (.agg #[.bool b, .slice a k p]) x ∧ Nm W (.agg #[.bool b', .slice a' k' p']) y) := ⟨hok.1.keep hBl, hok.2.keep hBl⟩
  have hbW : Below w.heap.size w W := hb.trans (hBl.mono hb.size)
  have a0 := hA.c0; have a1 := hA.c1; have b0 := hB.c0; have b1 := hB.c1
  have HW := Lib.hid hW
  rw [hW] at a0 a1 b0 b1
  clear hok hA hB hW hBl hsz
  go_wp2_with fail
  rw [← HW.out]
  refine (ncompare_any _ _ x y _ HN.out.1 HN.out.2 HSX.out.1 HSX.out.2).mono ?_
  rintro e w2 ⟨rfl, hb2⟩
  go_wp2
  go_ret2
  exact ⟨rfl, hbW.trans (hb2.mono hbW.size)⟩

end Go.Proofs.YtbmonfbbkmpdhaaDoor
