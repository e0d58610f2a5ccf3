/- Walks of the numbers' functions: differences, products, the order. -/
import Derived.Test.YtbmonfbbkmpdhaaDoorNb
namespace Go.Proofs.YtbmonfbbkmpdhaaDoor
open Go.RowKit Go.Proofs.Num

theorem Nm.sh {w : World} {v : Value} {z : Int} (h : Nm w v z) : ∃ b a k cap, v = .agg #[.bool b, .slice a k cap] := by
  obtain ⟨s, rfl, h⟩ := h
  obtain ⟨a, cap, rfl⟩ := Rd.shape h
  exact ⟨_, a, _, cap, rfl⟩

theorem Nm.stores {w : World} {v : Value} {z : Int} {r : Nat} {x y : Value} (h : Nm w v z) (hB : Box 73 w r x y) (u v' : Value) : Nm ((w.setCell ⟨r, 0, none⟩ u).setCell ⟨r, 1, none⟩ v') v z := by
  obtain ⟨s, rfl, h⟩ := h
  exact ⟨s, rfl, Rd.stores h hB (by decide) _ _⟩

/-- A number of not too many words. -/
def Sm (z : Int) (k : Nat) : Prop := (dig 1000000000 z.natAbs).length ≤ k

set_option maxHeartbeats 3200000 in
set_option maxRecDepth 100000 in
/-- number.minus -/
theorem nminus_any (v1 v2 : Value) (x y : Int) (w : World) (h1 : Nm w v1 x) (h2 : Nm w v2 y) (hm : Sm x 4294967295) (hn : Sm y 4294967295) :
    Calls Tryd.prog 62 #[v1, v2] w (GivesNm w (x - y)) := by
  obtain ⟨b1, a1, k1, p1, rfl⟩ := h1.sh
  obtain ⟨b2, a2, k2, p2, rfl⟩ := h2.sh
  have hn' : (dig 1000000000 (-y).natAbs).length ≤ 4294967295 := by rw [Int.natAbs_neg]; exact hn
  obtain ⟨W, hW, hA, hB, hR, hBl, hsz⟩ := boxes3 w (.bool b1) (.slice a1 k1 p1) (.bool b2) (.slice a2 k2 p2) (.bool false) (.slice none 0 0)
  have hK0 : Kept [w.heap.size + 1 + 1] W W := Kept.start (by intro r hr; simp at hr; subst hr; exact ⟨_, _, hR⟩)
  have hK1 := hK0.drew
  have H1 : Hid (∀ u, Kept [w.heap.size + 1 + 1] W u → Nm u (.agg #[.bool b1, .slice a1 k1 p1]) x ∧ Nm u (.agg #[.bool b2, .slice a2 k2 p2]) y) := fun u hu => ⟨h1.keep (hu.from hBl (by simp; omega)), h2.keep (hu.from hBl (by simp; omega))⟩
  have HL : Hid ((dig 1000000000 x.natAbs).length ≤ 4294967295 ∧ (dig 1000000000 (-y).natAbs).length ≤ 4294967295) := ⟨hm, hn'⟩
  have HS : Hid (∀ u, Kept [w.heap.size + 1 + 1] W u → (Kept [w.heap.size + 1 + 1] W u ∧ u.cell? ⟨w.heap.size, 0, none⟩ = some (.bool b1) ∧ u.cell? ⟨w.heap.size, 1, none⟩ = some (.slice a1 k1 p1) ∧ u.cell? ⟨w.heap.size + 1, 0, none⟩ = some (.bool b2) ∧ u.cell? ⟨w.heap.size + 1, 1, none⟩ = some (.slice a2 k2 p2))) :=
    fun u hu => ⟨hu, (hu.box hA (by simp; omega)).c0, (hu.box hA (by simp; omega)).c1, (hu.box hB (by simp)).c0, (hu.box hB (by simp)).c1⟩
  obtain ⟨_, e1, e2, e3, e4⟩ := HS.out _ hK0
  obtain ⟨_, d1, d2, d3, d4⟩ := HS.out _ hK1
  have HW := Lib.hid hW
  clear hA hB hR hW hsz hm hn hn' h1 h2
  go_enter Tryd.func62, Tryd.ntmps62
  go_wp2_with fail
  rw [← HW.out]
  go_region_held3 (fun u => Kept [w.heap.size + 1 + 1] W u ∧ u.cell? ⟨w.heap.size, 0, none⟩ = some (.bool b1) ∧ u.cell? ⟨w.heap.size, 1, none⟩ = some (.slice a1 k1 p1) ∧ u.cell? ⟨w.heap.size + 1, 0, none⟩ = some (.bool b2) ∧ u.cell? ⟨w.heap.size + 1, 1, none⟩ = some (.slice a2 k2 p2))
    (first | exact HS.out _ (Kept.store (by assumption) _ _ _ (by simp)) | exact HS.out _ (by assumption) | exact HS.out _ (Kept.drew (by assumption)))
    (first
      | (go_at_call 66; refine (nopposite_any _ y _ (H1.out _ (by assumption)).2).mono ?_; rintro e w1 ⟨v', rfl, hw, hb⟩; have hk2 := Kept.step (ws := [w.heap.size + 1 + 1]) (W := W) (by assumption) hb; obtain ⟨_, f1, f2, f3, f4⟩ := HS.out _ hk2; obtain ⟨b', a', k', cap', rfl⟩ := hw.sh)
      | (go_at_call 59; refine (nplus_any _ _ x (-y) _ (H1.out _ (by assumption)).1 hw HL.out.1 HL.out.2).mono ?_; rintro e w2 ⟨v', rfl, hw2, hb2⟩; obtain ⟨b3, a3, k3, cap3, rfl⟩ := hw2.sh; have hk3 := hk2.step hb2; obtain ⟨_, j1, j2, j3, j4⟩ := HS.out _ hk3; obtain ⟨x5, x6, g5⟩ := hk3.wr _ (List.mem_singleton.2 rfl); have f5 := g5.c0; have f6 := g5.c1; have f7 := g5.f0 0; have f8 := g5.f0 1; have fz := g5.lt))
  go_wp2
  refine bodyPost_ret (v := .agg #[.bool b3, .slice a3 k3 cap3]) (by simp [results, Tryd.results62, go_sem, f5, f6]) rfl ⟨_, rfl, ?_, ?_⟩
  · exact Nm.stores hw2 g5 _ _
  · exact (Kept.store hk3 _ _ _ (by simp)).from hBl (by simp; omega)

theorem Nm.parts {w : World} {b : Bool} {a : Option Addr} {k cap : Nat} {z : Int} (h : Nm w (.agg #[.bool b, .slice a k cap]) z) : b = decide (z < 0) ∧ Wd w (.slice a k cap) z.natAbs ∧ k = (dig 1000000000 z.natAbs).length ∧ (k = 0 ↔ z = 0) := by
  obtain ⟨s, he, h⟩ := h
  simp at he
  obtain ⟨rfl, rfl⟩ := he
  obtain ⟨a', cap', hs⟩ := Rd.shape h
  simp at hs
  refine ⟨rfl, h, hs.2.1, ?_⟩
  rw [hs.2.1, List.length_eq_zero_iff, dig_eq_nil (by omega)]; omega
theorem Nm.mk' {w : World} {b : Bool} {v : Value} {z : Int} (hb : b = decide (z < 0)) (h : Wd w v z.natAbs) : Nm w (.agg #[.bool b, v]) z := ⟨v, by rw [hb], h⟩
theorem Rd.sh {q : IntKind} {T : TypeId} {w : World} {v : Value} {l : List Nat} (h : Rd q T w v l) : ∃ a k cap, v = .slice a k cap := by
  obtain ⟨a, cap, e⟩ := Rd.shape h; exact ⟨a, _, cap, e⟩
theorem Wd.len {w : World} {a : Option Addr} {k cap n : Nat} (h : Wd w (.slice a k cap) n) : k = (dig 1000000000 n).length ∧ (k = 0 ↔ n = 0) := by
  obtain ⟨a', cap', hs⟩ := Rd.shape h
  simp at hs
  refine ⟨hs.2.1, ?_⟩
  rw [hs.2.1, List.length_eq_zero_iff, dig_eq_nil (by omega)]

set_option maxHeartbeats 3200000 in
set_option maxRecDepth 100000 in
/-- number.times -/
theorem ntimes_any (v1 v2 : Value) (x y : Int) (w : World) (h1 : Nm w v1 x) (h2 : Nm w v2 y) (hm : Sm x 2147483647) (hn : Sm y 2147483647) :
    Calls Tryd.prog 70 #[v1, v2] w (GivesNm w (x * y)) := by
  obtain ⟨b1, a1, k1, p1, rfl⟩ := h1.sh
  obtain ⟨b2, a2, k2, p2, rfl⟩ := h2.sh
  obtain ⟨hb1, g1, -, hz1⟩ := h1.parts
  obtain ⟨hb2, g2, -, hz2⟩ := h2.parts
  obtain ⟨W, hW, hA, hB, hR, hBl, hsz⟩ := boxes3 w (.bool b1) (.slice a1 k1 p1) (.bool b2) (.slice a2 k2 p2) (.bool false) (.slice none 0 0)
  have hK0 : Kept [w.heap.size + 1 + 1] W W := Kept.start (by intro r hr; simp at hr; subst hr; exact ⟨_, _, hR⟩)
  have hK1 := hK0.drew
  have H1 : Hid (∀ u, Kept [w.heap.size + 1 + 1] W u → Wd u (.slice a1 k1 p1) x.natAbs ∧ Wd u (.slice a2 k2 p2) y.natAbs) := fun u hu => ⟨g1.keep (hu.from hBl (by simp; omega)), g2.keep (hu.from hBl (by simp; omega))⟩
  have HL : Hid ((dig 1000000000 x.natAbs).length ≤ 2147483647 ∧ (dig 1000000000 y.natAbs).length ≤ 2147483647) := ⟨hm, hn⟩
  have HS : Hid (∀ u, Kept [w.heap.size + 1 + 1] W u → (Kept [w.heap.size + 1 + 1] W u ∧ u.cell? ⟨w.heap.size, 0, none⟩ = some (.bool b1) ∧ u.cell? ⟨w.heap.size, 1, none⟩ = some (.slice a1 k1 p1) ∧ u.cell? ⟨w.heap.size + 1, 0, none⟩ = some (.bool b2) ∧ u.cell? ⟨w.heap.size + 1, 1, none⟩ = some (.slice a2 k2 p2))) :=
    fun u hu => ⟨hu, (hu.box hA (by simp; omega)).c0, (hu.box hA (by simp; omega)).c1, (hu.box hB (by simp)).c0, (hu.box hB (by simp)).c1⟩
  have HF : Hid (∀ (w' : World) (k : Nat), (k = 0 ↔ x.natAbs * y.natAbs = 0) → (!(b1 == b2) && decide (0 < k)) = decide (x * y < 0)) := by
    intro w' k hk
    rw [hb1, hb2, Bool.eq_iff_iff]
    have e : (x * y).natAbs = x.natAbs * y.natAbs := Int.natAbs_mul x y
    have h0 : x.natAbs * y.natAbs = 0 ↔ x * y = 0 := by rw [← e]; omega
    rcases (show x < 0 ∨ x = 0 ∨ 0 < x by omega) with h | h | h <;> rcases (show y < 0 ∨ y = 0 ∨ 0 < y by omega) with h' | h' | h'
    · have := Int.mul_pos_of_neg_of_neg h h'; simp [h, h']; omega
    · subst h'; simp at hk; simp; omega
    · have := Int.mul_neg_of_neg_of_pos h h'; simp [h, show ¬ y < 0 by omega]; omega
    · subst h; simp at hk; simp; omega
    · subst h; simp at hk; simp; omega
    · subst h; simp at hk; simp; omega
    · have := Int.mul_neg_of_pos_of_neg h h'; simp [h', show ¬ x < 0 by omega]; omega
    · subst h'; simp at hk; simp; omega
    · have := Int.mul_pos h h'; simp [show ¬ x < 0 by omega, show ¬ y < 0 by omega]; omega
  obtain ⟨_, e1, e2, e3, e4⟩ := HS.out _ hK0
  obtain ⟨_, d1, d2, d3, d4⟩ := HS.out _ hK1
  have HW := Lib.hid hW
  clear hA hB hR hW hsz hm hn h1 h2 hb1 hb2 g1 g2 hz1 hz2
  go_enter Tryd.func70, Tryd.ntmps70
  go_wp2_with fail
  rw [← HW.out]
  go_region_held3 (fun u => Kept [w.heap.size + 1 + 1] W u ∧ u.cell? ⟨w.heap.size, 0, none⟩ = some (.bool b1) ∧ u.cell? ⟨w.heap.size, 1, none⟩ = some (.slice a1 k1 p1) ∧ u.cell? ⟨w.heap.size + 1, 0, none⟩ = some (.bool b2) ∧ u.cell? ⟨w.heap.size + 1, 1, none⟩ = some (.slice a2 k2 p2))
    (first | exact HS.out _ (Kept.store (by assumption) _ _ _ (by simp)) | exact HS.out _ (by assumption) | exact HS.out _ (Kept.drew (by assumption)))
    (first
      | (go_at_call 98; refine (wtimes_any _ _ _ _ _ (H1.out _ (by assumption)).1 (H1.out _ (by assumption)).2 HL.out.1 HL.out.2).mono ?_; rintro e w1 ⟨v', rfl, _, hw, hb⟩; have hk2 := Kept.step (ws := [w.heap.size + 1 + 1]) (W := W) (by assumption) hb; obtain ⟨_, f1, f2, f3, f4⟩ := HS.out _ hk2; obtain ⟨a', k', cap', rfl⟩ := Rd.sh hw)
      | (go_at_call 89; refine (signed_any _ _ _ _ _).mono ?_; rintro e w2 ⟨he, hb2⟩; rw [HF.out w2 _ (Wd.len hw).2] at he; generalize hb3 : decide (x * y < 0) = b3 at he; have HB3 := Lib.hid hb3; clear hb3; subst he; have hk3 := hk2.step hb2; obtain ⟨_, j1, j2, j3, j4⟩ := HS.out _ hk3; obtain ⟨x5, x6, g5⟩ := hk3.wr _ (List.mem_singleton.2 rfl); have f5 := g5.c0; have f6 := g5.c1; have f7 := g5.f0 0; have f8 := g5.f0 1; have fz := g5.lt))
  go_wp2
  refine bodyPost_ret (v := .agg #[.bool b3, .slice a' k' cap']) (by simp [results, Tryd.results70, go_sem, f5, f6]) rfl ⟨_, rfl, ?_, ?_⟩
  · exact Nm.mk' HB3.out.symm (by rw [Int.natAbs_mul]; exact Rd.stores (hw.keep hb2) g5 (by decide) _ _)
  · exact (Kept.store hk3 _ _ _ (by simp)).from hBl (by simp; omega)

theorem boxes2 (w : World) (x1 y1 x2 y2 : Value) : ∃ W, W = ((w.alloc (.cells #[x1, y1] 73)).alloc (.cells #[x2, y2] 73)) ∧
    Box 73 W w.heap.size x1 y1 ∧ Box 73 W (w.heap.size + 1) x2 y2 ∧ Below w.heap.size w W ∧ W.heap.size = w.heap.size + 1 + 1 := by
  refine ⟨_, rfl, ((Box.new 73 w x1 y1).alloc _), ?_, ((below1 w _).alloc (by simp) _), by simp⟩
  have := Box.new 73 (w.alloc (.cells #[x1, y1] 73)) x2 y2
  rwa [World.size_alloc] at this

theorem sgn_neg {n : Int} (h : n < 0) : sgn n = -1 := by unfold sgn; rw [if_pos h]
theorem sgn_pos {n : Int} (h : 0 < n) : sgn n = 1 := by unfold sgn; rw [if_neg (by omega), if_pos h]
theorem sgn_zero : sgn 0 = 0 := rfl

/-- The order of two numbers. -/
def cmpZ (x y : Int) : Int := if x < y then -1 else if y < x then 1 else 0

set_option maxHeartbeats 3200000 in
set_option maxRecDepth 100000 in
/-- number.compare -/
theorem ncompare_any (v1 v2 : Value) (x y : Int) (w : World) (h1 : Nm w v1 x) (h2 : Nm w v2 y) (hm : Sm x 4294967295) (hn : Sm y 4294967295) :
    Calls Tryd.prog 65 #[v1, v2] w fun e w' => e = .returned (.int .i64 (cmpZ x y)) ∧ Below w.heap.size w w' := by
  obtain ⟨b1, a1, k1, p1, rfl⟩ := h1.sh
  obtain ⟨b2, a2, k2, p2, rfl⟩ := h2.sh
  obtain ⟨hb1, g1, -, hz1⟩ := h1.parts
  obtain ⟨hb2, g2, -, hz2⟩ := h2.parts
  obtain ⟨W, hW, hA, hB, hBl, hsz⟩ := boxes2 w (.bool b1) (.slice a1 k1 p1) (.bool b2) (.slice a2 k2 p2)
  have hK0 : Kept [] W W := Kept.start (by simp)
  have hK1 := hK0.drew
  have H1 : Hid (∀ u, Kept [] W u → Nm u (.agg #[.bool b1, .slice a1 k1 p1]) x ∧ Nm u (.agg #[.bool b2, .slice a2 k2 p2]) y ∧ Wd u (.slice a1 k1 p1) x.natAbs ∧ Wd u (.slice a2 k2 p2) y.natAbs) := fun u hu => ⟨h1.keep (hu.from hBl (by simp)), h2.keep (hu.from hBl (by simp)), g1.keep (hu.from hBl (by simp)), g2.keep (hu.from hBl (by simp))⟩
  have HL : Hid ((dig 1000000000 x.natAbs).length ≤ 4294967295 ∧ (dig 1000000000 y.natAbs).length ≤ 4294967295) := ⟨hm, hn⟩
  have HS : Hid (∀ u, Kept [] W u → (Kept [] W u ∧ u.cell? ⟨w.heap.size, 0, none⟩ = some (.bool b1) ∧ u.cell? ⟨w.heap.size, 1, none⟩ = some (.slice a1 k1 p1) ∧ u.cell? ⟨w.heap.size + 1, 0, none⟩ = some (.bool b2) ∧ u.cell? ⟨w.heap.size + 1, 1, none⟩ = some (.slice a2 k2 p2))) :=
    fun u hu => ⟨hu, (hu.box hA (by simp)).c0, (hu.box hA (by simp)).c1, (hu.box hB (by simp)).c0, (hu.box hB (by simp)).c1⟩
  obtain ⟨_, e1, e2, e3, e4⟩ := HS.out _ hK0
  obtain ⟨_, d1, d2, d3, d4⟩ := HS.out _ hK1
  have HW := Lib.hid hW
  have HK0 := Lib.hid hK0
  by_cases hne : b1 = b2
  · subst hne
    have hnn : (b1 != b1) = false := by simp
    have hfin : cmpZ x y = if b1 then cmpN y.natAbs x.natAbs else cmpN x.natAbs y.natAbs := by
      unfold cmpZ cmpN
      have hc := bool_cases (hb1.symm.trans hb2)
      rcases hc with h | h
      · rw [show b1 = true by rw [hb1]; simp; omega]; simp only [if_true]
        rcases (show x < y ∨ x = y ∨ y < x by omega) with h' | h' | h'
        · rw [if_pos h', if_pos (by omega)]
        · rw [if_neg (by omega), if_neg (by omega), if_neg (by omega), if_neg (by omega)]
        · rw [if_neg (by omega), if_pos h', if_neg (by omega), if_pos (by omega)]
      · rw [show b1 = false by rw [hb1]; simp; omega]; simp only [Bool.false_eq_true, if_false]
        rcases (show x < y ∨ x = y ∨ y < x by omega) with h' | h' | h'
        · rw [if_pos h', if_pos (by omega)]
        · rw [if_neg (by omega), if_neg (by omega), if_neg (by omega), if_neg (by omega)]
        · rw [if_neg (by omega), if_pos h', if_neg (by omega), if_pos (by omega)]
    have HF := Lib.hid hfin
    clear hA hB hW hsz hm hn h1 h2 hb1 hb2 g1 g2 hz1 hz2 hK0 hfin
    cases b1
    · go_enter Tryd.func65, Tryd.ntmps65
      go_wp2_with fail
      rw [← HW.out]
      go_wp2_with fail
      refine (wcompare_any _ _ _ _ _ (H1.out _ HK0.out).2.2.1 (H1.out _ HK0.out).2.2.2 HL.out.1 HL.out.2).mono ?_
      rintro e w1 ⟨rfl, kk, rfl⟩
      go_wp2
      go_ret
      exact ⟨by rw [HF.out]; rfl, below_drewN hBl _⟩
    · go_enter Tryd.func65, Tryd.ntmps65
      go_wp2_with fail
      rw [← HW.out]
      go_wp2_with fail
      refine (wcompare_any _ _ _ _ _ (H1.out _ HK0.out).2.2.2 (H1.out _ HK0.out).2.2.1 HL.out.2 HL.out.1).mono ?_
      rintro e w1 ⟨rfl, kk, rfl⟩
      go_wp2
      go_ret
      exact ⟨by rw [HF.out]; rfl, below_drewN hBl _⟩
  · have hnn : (b1 != b2) = true := by simpa using hne
    have hnn2 : (b1 == b2) = false := by simpa using hne
    have hfin : sgn (sgn x - sgn y) = cmpZ x y := by
      have hc : (x < 0 ∧ 0 ≤ y) ∨ (0 ≤ x ∧ y < 0) := by
        rw [hb1, hb2] at hne
        by_cases hx : x < 0 <;> by_cases hy : y < 0 <;> simp [hx, hy] at hne <;> omega
      unfold cmpZ
      rcases hc with h | h
      · rw [if_pos (by omega), sgn_neg h.1]
        rcases (show y = 0 ∨ 0 < y by omega) with h' | h'
        · rw [h', sgn_zero]; rfl
        · rw [sgn_pos h']; rfl
      · rw [if_neg (by omega), if_pos (by omega), sgn_neg h.2]
        rcases (show x = 0 ∨ 0 < x by omega) with h' | h'
        · rw [h', sgn_zero]; rfl
        · rw [sgn_pos h']; rfl
    have hs1 : -1 ≤ sgn x ∧ sgn x ≤ 1 := by unfold sgn; split <;> (try split) <;> omega
    have hs2 : -1 ≤ sgn y ∧ sgn y ≤ 1 := by unfold sgn; split <;> (try split) <;> omega
    have H2 : Hid (∀ u, Kept [] W u → Nm u (.agg #[.bool b1, .slice a1 k1 p1]) x ∧ Nm u (.agg #[.bool b2, .slice a2 k2 p2]) y) := fun u hu => ⟨(H1.out u hu).1, (H1.out u hu).2.1⟩
    obtain ⟨sx, hsx⟩ : ∃ s, s = sgn x := ⟨_, rfl⟩
    obtain ⟨sy, hsy⟩ : ∃ s, s = sgn y := ⟨_, rfl⟩
    have HSX := Lib.hid hsx
    have HSY := Lib.hid hsy
    rw [← hsx, ← hsy] at hfin
    rw [← hsx] at hs1
    rw [← hsy] at hs2
    have HF := Lib.hid hfin
    clear hA hB hW hsz hm hn h1 h2 hb1 hb2 g1 g2 hz1 hz2 hK0 hfin hsx hsy hne
    go_enter Tryd.func65, Tryd.ntmps65
    go_wp2_with fail
    rw [← HW.out]
    go_wp2_with fail
    go_region_held3 (fun u => Kept [] W u ∧ u.cell? ⟨w.heap.size, 0, none⟩ = some (.bool b1) ∧ u.cell? ⟨w.heap.size, 1, none⟩ = some (.slice a1 k1 p1) ∧ u.cell? ⟨w.heap.size + 1, 0, none⟩ = some (.bool b2) ∧ u.cell? ⟨w.heap.size + 1, 1, none⟩ = some (.slice a2 k2 p2))
      (first | exact HS.out _ hk2 | exact HS.out _ (by assumption) | exact HS.out _ (Kept.drew (by assumption)))
      (first
        | (go_at_call_of 52 (Value.agg #[Value.bool b1, Value.slice a1 k1 p1]); refine (nsign_any _ x _ (H2.out _ (by assumption)).1).mono ?_; rintro e w1 ⟨he, hb⟩; rw [← HSX.out] at he; subst he; have hk2 := Kept.step (ws := []) (W := W) (by assumption) hb; obtain ⟨_, f1, f2, f3, f4⟩ := HS.out _ hk2)
        | (go_at_call_of 52 (Value.agg #[Value.bool b2, Value.slice a2 k2 p2]); refine (nsign_any _ y _ (H2.out _ (by assumption)).2).mono ?_; rintro e w1 ⟨he, hb⟩; rw [← HSY.out] at he; subst he; have hk2 := Kept.step (ws := []) (W := W) (by assumption) hb; obtain ⟨_, f1, f2, f3, f4⟩ := HS.out _ hk2)
        | (go_at_call 94; refine (sign_any _ _).mono ?_; rintro e w2 ⟨he, rfl⟩; rw [IntWalk.i64_in _ (by omega), HF.out] at he; generalize hcz : cmpZ x y = cz at he; have HCZ := Lib.hid hcz; clear hcz; subst he))
    go_wp2
    go_ret
    exact ⟨by rw [HCZ.out]; rfl, hk2.from hBl (by simp)⟩
end Go.Proofs.YtbmonfbbkmpdhaaDoor
