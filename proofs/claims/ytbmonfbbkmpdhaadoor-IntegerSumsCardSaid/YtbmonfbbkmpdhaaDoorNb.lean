/- Walks of the numbers' functions: sums. -/
import Derived.Test.YtbmonfbbkmpdhaaDoorKept
namespace Go.Proofs.YtbmonfbbkmpdhaaDoor
open Go.RowKit Go.Proofs.Num

/-- Three boxes one behind the other: two arguments and a result. -/
theorem boxes3 (w : World) (x1 y1 x2 y2 x3 y3 : Value) : ∃ W, W = ((w.alloc (.cells #[x1, y1] 73)).alloc (.cells #[x2, y2] 73)).alloc (.cells #[x3, y3] 73) ∧
    Box 73 W w.heap.size x1 y1 ∧ Box 73 W (w.heap.size + 1) x2 y2 ∧ Box 73 W (w.heap.size + 1 + 1) x3 y3 ∧ Below w.heap.size w W ∧ W.heap.size = w.heap.size + 1 + 1 + 1 := by
  refine ⟨_, rfl, ((Box.new 73 w x1 y1).alloc _).alloc _, ?_, ?_, ((below1 w _).alloc (by simp) _).alloc (by simp; omega) _, by simp⟩
  · have := (Box.new 73 (w.alloc (.cells #[x1, y1] 73)) x2 y2).alloc (.cells #[x3, y3] 73)
    rwa [World.size_alloc] at this
  · have := Box.new 73 ((w.alloc (.cells #[x1, y1] 73)).alloc (.cells #[x2, y2] 73)) x3 y3
    rwa [World.size_alloc, World.size_alloc] at this

set_option maxHeartbeats 3200000 in
set_option maxRecDepth 100000 in
theorem nplus_same (b : Bool) (s1 s2 : Value) (m n : Nat) (w : World) (h1 : Wd w s1 m) (h2 : Wd w s2 n) (hm : (dig 1000000000 m).length ≤ 4294967295) (hn : (dig 1000000000 n).length ≤ 4294967295) :
    Calls Tryd.prog 59 #[.agg #[.bool b, s1], .agg #[.bool b, s2]] w fun e w' => ∃ s, e = .returned (.agg #[.bool b, s]) ∧ Wd w' s (m + n) ∧ Below w.heap.size w w' := by
  obtain ⟨a1, p1, rfl⟩ := Rd.shape h1
  obtain ⟨a2, p2, rfl⟩ := Rd.shape h2
  generalize hl1 : (dig 1000000000 m).length = k1 at *
  generalize hl2 : (dig 1000000000 n).length = k2 at *
  obtain ⟨W, hW, hA, hB, hR, hBl, hsz⟩ := boxes3 w (.bool b) (.slice a1 k1 p1) (.bool b) (.slice a2 k2 p2) (.bool false) (.slice none 0 0)
  have hK : Kept [w.heap.size + 1 + 1] W W.drew := (Kept.start (by intro r hr; simp at hr; subst hr; exact ⟨_, _, hR⟩)).drew
  have H1 : Hid (∀ x, Kept [w.heap.size + 1 + 1] W x → Wd x (.slice a1 k1 p1) m ∧ Wd x (.slice a2 k2 p2) n) := fun x hx => ⟨h1.keep (hx.from hBl (by simp; omega)), h2.keep (hx.from hBl (by simp; omega))⟩
  have HL : Hid ((dig 1000000000 m).length ≤ 4294967295 ∧ (dig 1000000000 n).length ≤ 4294967295) := ⟨by rw [hl1]; exact hm, by rw [hl2]; exact hn⟩
  have HS : Hid (∀ x, Kept [w.heap.size + 1 + 1] W x → (Kept [w.heap.size + 1 + 1] W x ∧ x.cell? ⟨w.heap.size, 0, none⟩ = some (.bool b) ∧ x.cell? ⟨w.heap.size, 1, none⟩ = some (.slice a1 k1 p1) ∧ x.cell? ⟨w.heap.size + 1, 1, none⟩ = some (.slice a2 k2 p2))) :=
    fun x hx => ⟨hx, (hx.box hA (by simp; omega)).c0, (hx.box hA (by simp; omega)).c1, (hx.box hB (by simp)).c1⟩
  have HA := Lib.hid hA
  have HB := Lib.hid hB
  have HR := Lib.hid hR
  have HW := Lib.hid hW
  have HZ := Lib.hid hsz
  clear hA hB hR hW hsz hl1 hl2
  go_enter Tryd.func59, Tryd.ntmps59
  go_wp2
  rw [← HW.out]
  have e1 := HA.out.c0; have e2 := HA.out.c1; have e3 := HB.out.c0; have e4 := HB.out.c1
  go_wp2
  have d1 := HA.out.drew.c0; have d2 := HA.out.drew.c1; have d4 := HB.out.drew.c1
  go_region_held3 (fun w' => Kept [w.heap.size + 1 + 1] W w' ∧ w'.cell? ⟨w.heap.size, 0, none⟩ = some (.bool b) ∧ w'.cell? ⟨w.heap.size, 1, none⟩ = some (.slice a1 k1 p1) ∧ w'.cell? ⟨w.heap.size + 1, 1, none⟩ = some (.slice a2 k2 p2))
    (first | exact HS.out _ (Kept.store (by assumption) _ _ _ (by simp)) | exact HS.out _ (by assumption) | exact HS.out _ (Kept.drew (by assumption)))
    (first | (go_at_call 87; refine (wplus_any _ _ m n _ (H1.out _ (by assumption)).1 (H1.out _ (by assumption)).2 HL.out.1 HL.out.2).mono ?_; rintro e w1 ⟨v', rfl, ⟨a', k', cap', rfl⟩, hw, hb⟩; have hk2 := Kept.step (ws := [w.heap.size + 1 + 1]) (W := W) (by assumption) hb; obtain ⟨_, f1, f2, f4⟩ := HS.out _ hk2; obtain ⟨x5, x6, g5⟩ := hk2.wr _ (List.mem_singleton.2 rfl); have f5 := g5.c0; have f6 := g5.c1; have f7 := g5.f0 0; have f8 := g5.f0 1; have fz := g5.lt))
  go_wp2
  refine bodyPost_ret (v := .agg #[.bool b, .slice a' k' cap']) (by simp [results, Tryd.results59, go_sem, f5, f6]) rfl ⟨_, rfl, ?_, ?_⟩
  · exact Rd.stores hw g5 (by decide) _ _
  · exact (Kept.store hk2 _ _ _ (by simp)).from hBl (by simp; omega)

set_option maxHeartbeats 3200000 in
set_option maxRecDepth 100000 in
theorem nplus_lt (b : Bool) (s1 s2 : Value) (m n : Nat) (w : World) (h1 : Wd w s1 m) (h2 : Wd w s2 n) (hm : (dig 1000000000 m).length ≤ 4294967295) (hn : (dig 1000000000 n).length ≤ 4294967295) (hlt : m < n) :
    Calls Tryd.prog 59 #[.agg #[.bool (!b), s1], .agg #[.bool b, s2]] w fun e w' => ∃ s, e = .returned (.agg #[.bool b, s]) ∧ Wd w' s (n - m) ∧ Below w.heap.size w w' := by
  obtain ⟨a1, p1, rfl⟩ := Rd.shape h1
  obtain ⟨a2, p2, rfl⟩ := Rd.shape h2
  generalize hl1 : (dig 1000000000 m).length = k1 at *
  generalize hl2 : (dig 1000000000 n).length = k2 at *
  obtain ⟨W, hW, hA, hB, hR, hBl, hsz⟩ := boxes3 w (.bool (!b)) (.slice a1 k1 p1) (.bool b) (.slice a2 k2 p2) (.bool false) (.slice none 0 0)
  have hcmp : cmpN m n = -1 := by unfold cmpN; rw [if_pos hlt]
  have hK0 : Kept [w.heap.size + 1 + 1] W W := Kept.start (by intro r hr; simp at hr; subst hr; exact ⟨_, _, hR⟩)
  have H1 : Hid (∀ x, Kept [w.heap.size + 1 + 1] W x → Wd x (.slice a1 k1 p1) m ∧ Wd x (.slice a2 k2 p2) n) := fun x hx => ⟨h1.keep (hx.from hBl (by simp; omega)), h2.keep (hx.from hBl (by simp; omega))⟩
  have HL : Hid ((dig 1000000000 m).length ≤ 4294967295 ∧ (dig 1000000000 n).length ≤ 4294967295 ∧ m < n ∧ cmpN m n = -1) := ⟨by rw [hl1]; exact hm, by rw [hl2]; exact hn, hlt, hcmp⟩
  have HS : Hid (∀ x, Kept [w.heap.size + 1 + 1] W x → (Kept [w.heap.size + 1 + 1] W x ∧ x.cell? ⟨w.heap.size + 1, 0, none⟩ = some (.bool b) ∧ x.cell? ⟨w.heap.size, 1, none⟩ = some (.slice a1 k1 p1) ∧ x.cell? ⟨w.heap.size + 1, 1, none⟩ = some (.slice a2 k2 p2))) :=
    fun x hx => ⟨hx, (hx.box hB (by simp)).c0, (hx.box hA (by simp; omega)).c1, (hx.box hB (by simp)).c1⟩
  have hn0 : decide (0 < (dig 1000000000 (n - m)).length) = true := by
    have : (dig 1000000000 (n - m)).length ≠ 0 := by rw [Ne, List.length_eq_zero_iff, dig_eq_nil (by omega)]; omega
    simp; omega
  have HN := Lib.hid hn0
  have HA := Lib.hid hA
  have HB := Lib.hid hB
  have HR := Lib.hid hR
  have HW := Lib.hid hW
  have HZ := Lib.hid hsz
  have HK0 := Lib.hid hK0
  clear hA hB hR hW hsz hl1 hl2 hlt hcmp hn0 hK0
  go_enter Tryd.func59, Tryd.ntmps59
  have hnb : (!b == b) = false := by cases b <;> rfl
  go_wp2_with fail
  rw [← HW.out]
  have e1 := HA.out.c0; have e2 := HA.out.c1; have e3 := HB.out.c0; have e4 := HB.out.c1
  go_wp2_with fail
  refine (wcompare_any _ _ m n _ (H1.out _ HK0.out).1 (H1.out _ HK0.out).2 HL.out.1 HL.out.2.1).mono ?_
  rintro e w1 ⟨he, kk, rfl⟩
  rw [HL.out.2.2.2] at he
  subst he
  have hK1 := HK0.out.step (below_drewN (Below.refl _ _) kk)
  have hK2 := hK1.drew
  obtain ⟨_, d1, d2, d4⟩ := HS.out _ hK1
  obtain ⟨_, c1, c2, c4⟩ := HS.out _ hK2
  go_wp2_with fail
  go_region_held3 (fun w' => Kept [w.heap.size + 1 + 1] W w' ∧ w'.cell? ⟨w.heap.size + 1, 0, none⟩ = some (.bool b) ∧ w'.cell? ⟨w.heap.size, 1, none⟩ = some (.slice a1 k1 p1) ∧ w'.cell? ⟨w.heap.size + 1, 1, none⟩ = some (.slice a2 k2 p2))
    (first | exact HS.out _ (Kept.store (by assumption) _ _ _ (by simp)) | exact HS.out _ (by assumption) | exact HS.out _ (Kept.drew (by assumption)))
    (first
      | (go_at_call 90; refine (wminus_any _ _ n m _ (H1.out _ (by assumption)).2 (H1.out _ (by assumption)).1 HL.out.2.1 (Nat.le_of_lt HL.out.2.2.1)).mono ?_; rintro e w1 ⟨v', rfl, _, hw, hb⟩; obtain ⟨a', cap', rfl⟩ := Rd.shape hw; have hk2 := Kept.step (ws := [w.heap.size + 1 + 1]) (W := W) (by assumption) hb; obtain ⟨_, f1, f2, f4⟩ := HS.out _ hk2)
      | (go_at_call 89; refine (signed_any _ _ _ _ _).mono ?_; rintro e w2 ⟨he, hb2⟩; rw [HN.out, Bool.and_true] at he; subst he; have hk3 := hk2.step hb2; obtain ⟨_, j1, j2, j4⟩ := HS.out _ hk3; obtain ⟨x5, x6, g5⟩ := hk3.wr _ (List.mem_singleton.2 rfl); have f5 := g5.c0; have f6 := g5.c1; have f7 := g5.f0 0; have f8 := g5.f0 1; have fz := g5.lt))
  go_wp2
  refine bodyPost_ret (v := .agg #[.bool b, .slice a' (dig 1000000000 (n - m)).length cap']) (by simp [results, Tryd.results59, go_sem, f5, f6]) rfl ⟨_, rfl, ?_, ?_⟩
  · exact Rd.stores (hw.keep hb2) g5 (by decide) _ _
  · exact (Kept.store hk3 _ _ _ (by simp)).from hBl (by simp; omega)
set_option maxHeartbeats 3200000 in
set_option maxRecDepth 100000 in
theorem nplus_ge (b : Bool) (s1 s2 : Value) (m n : Nat) (w : World) (h1 : Wd w s1 m) (h2 : Wd w s2 n) (hm : (dig 1000000000 m).length ≤ 4294967295) (hn : (dig 1000000000 n).length ≤ 4294967295) (hge : n ≤ m) :
    Calls Tryd.prog 59 #[.agg #[.bool b, s1], .agg #[.bool (!b), s2]] w fun e w' => ∃ s, e = .returned (.agg #[.bool (b && decide (0 < (dig 1000000000 (m - n)).length)), s]) ∧ Wd w' s (m - n) ∧ Below w.heap.size w w' := by
  obtain ⟨a1, p1, rfl⟩ := Rd.shape h1
  obtain ⟨a2, p2, rfl⟩ := Rd.shape h2
  generalize hl1 : (dig 1000000000 m).length = k1 at *
  generalize hl2 : (dig 1000000000 n).length = k2 at *
  obtain ⟨W, hW, hA, hB, hR, hBl, hsz⟩ := boxes3 w (.bool b) (.slice a1 k1 p1) (.bool (!b)) (.slice a2 k2 p2) (.bool false) (.slice none 0 0)
  have hcmp : decide (cmpN m n < 0) = false := by unfold cmpN; rw [if_neg (by omega)]; split <;> simp
  have hK0 : Kept [w.heap.size + 1 + 1] W W := Kept.start (by intro r hr; simp at hr; subst hr; exact ⟨_, _, hR⟩)
  have H1 : Hid (∀ x, Kept [w.heap.size + 1 + 1] W x → Wd x (.slice a1 k1 p1) m ∧ Wd x (.slice a2 k2 p2) n) := fun x hx => ⟨h1.keep (hx.from hBl (by simp; omega)), h2.keep (hx.from hBl (by simp; omega))⟩
  have HL : Hid ((dig 1000000000 m).length ≤ 4294967295 ∧ (dig 1000000000 n).length ≤ 4294967295 ∧ n ≤ m) := ⟨by rw [hl1]; exact hm, by rw [hl2]; exact hn, hge⟩
  have HS : Hid (∀ x, Kept [w.heap.size + 1 + 1] W x → (Kept [w.heap.size + 1 + 1] W x ∧ x.cell? ⟨w.heap.size, 0, none⟩ = some (.bool b) ∧ x.cell? ⟨w.heap.size, 1, none⟩ = some (.slice a1 k1 p1) ∧ x.cell? ⟨w.heap.size + 1, 1, none⟩ = some (.slice a2 k2 p2))) :=
    fun x hx => ⟨hx, (hx.box hA (by simp; omega)).c0, (hx.box hA (by simp; omega)).c1, (hx.box hB (by simp)).c1⟩
  have HA := Lib.hid hA
  have HB := Lib.hid hB
  have HR := Lib.hid hR
  have HW := Lib.hid hW
  have HZ := Lib.hid hsz
  have HK0 := Lib.hid hK0
  clear hA hB hR hW hsz hl1 hl2 hge hK0
  go_enter Tryd.func59, Tryd.ntmps59
  have hnb : (b == !b) = false := by cases b <;> rfl
  go_wp2_with fail
  rw [← HW.out]
  have e1 := HA.out.c0; have e2 := HA.out.c1; have e3 := HB.out.c0; have e4 := HB.out.c1
  go_wp2_with fail
  refine (wcompare_any _ _ m n _ (H1.out _ HK0.out).1 (H1.out _ HK0.out).2 HL.out.1 HL.out.2.1).mono ?_
  rintro e w1 ⟨he, kk, rfl⟩
  generalize cmpN m n = cc at *
  subst he
  have hK1 := HK0.out.step (below_drewN (Below.refl _ _) kk)
  have hK2 := hK1.drew
  obtain ⟨_, d1, d2, d4⟩ := HS.out _ hK1
  obtain ⟨_, c1, c2, c4⟩ := HS.out _ hK2
  go_wp2_with fail
  go_region_held3 (fun w' => Kept [w.heap.size + 1 + 1] W w' ∧ w'.cell? ⟨w.heap.size, 0, none⟩ = some (.bool b) ∧ w'.cell? ⟨w.heap.size, 1, none⟩ = some (.slice a1 k1 p1) ∧ w'.cell? ⟨w.heap.size + 1, 1, none⟩ = some (.slice a2 k2 p2))
    (first | exact HS.out _ (Kept.store (by assumption) _ _ _ (by simp)) | exact HS.out _ (by assumption) | exact HS.out _ (Kept.drew (by assumption)))
    (first
      | (go_at_call 90; refine (wminus_any _ _ m n _ (H1.out _ (by assumption)).1 (H1.out _ (by assumption)).2 HL.out.1 HL.out.2.2).mono ?_; rintro e w1 ⟨v', rfl, _, hw, hb⟩; obtain ⟨a', cap', rfl⟩ := Rd.shape hw; have hk2 := Kept.step (ws := [w.heap.size + 1 + 1]) (W := W) (by assumption) hb; obtain ⟨_, f1, f2, f4⟩ := HS.out _ hk2)
      | (go_at_call 89; refine (signed_any _ _ _ _ _).mono ?_; rintro e w2 ⟨he, hb2⟩; subst he; have hk3 := hk2.step hb2; obtain ⟨_, j1, j2, j4⟩ := HS.out _ hk3; obtain ⟨x5, x6, g5⟩ := hk3.wr _ (List.mem_singleton.2 rfl); have f5 := g5.c0; have f6 := g5.c1; have f7 := g5.f0 0; have f8 := g5.f0 1; have fz := g5.lt))
  go_wp2
  refine bodyPost_ret (v := .agg #[.bool (b && decide (0 < (dig 1000000000 (m - n)).length)), .slice a' (dig 1000000000 (m - n)).length cap']) (by simp [results, Tryd.results59, go_sem, f5, f6]) rfl ⟨_, rfl, ?_, ?_⟩
  · exact Rd.stores (hw.keep hb2) g5 (by decide) _ _
  · exact (Kept.store hk3 _ _ _ (by simp)).from hBl (by simp; omega)

theorem bool_cases {x y : Int} (h : decide (x < 0) = decide (y < 0)) : (x < 0 ∧ y < 0) ∨ (0 ≤ x ∧ 0 ≤ y) := by
  by_cases hx : x < 0 <;> by_cases hy : y < 0 <;> simp [hx, hy] at h <;> omega

/-- number.plus -/
theorem nplus_any (v1 v2 : Value) (x y : Int) (w : World) (h1 : Nm w v1 x) (h2 : Nm w v2 y) (hm : (dig 1000000000 x.natAbs).length ≤ 4294967295) (hn : (dig 1000000000 y.natAbs).length ≤ 4294967295) :
    Calls Tryd.prog 59 #[v1, v2] w (GivesNm w (x + y)) := by
  obtain ⟨s1, rfl, g1⟩ := h1
  obtain ⟨s2, rfl, g2⟩ := h2
  by_cases hs : decide (x < 0) = decide (y < 0)
  · rw [← hs]
    refine (nplus_same _ s1 s2 _ _ w g1 g2 hm hn).mono ?_
    rintro e w' ⟨s, rfl, hw, hb⟩
    refine ⟨_, rfl, ⟨s, ?_, ?_⟩, hb⟩
    · rw [show decide (x < 0) = decide (x + y < 0) by rcases bool_cases hs with h | h <;> simp <;> omega]
    · rwa [show (x + y).natAbs = x.natAbs + y.natAbs by rcases bool_cases hs with h | h <;> omega]
  · have hne : decide (x < 0) = !decide (y < 0) := by
      cases h1 : decide (x < 0) <;> cases h2 : decide (y < 0) <;> simp_all
    have hc : (x < 0 ∧ 0 ≤ y) ∨ (0 ≤ x ∧ y < 0) := by
      by_cases hx : x < 0 <;> by_cases hy : y < 0 <;> simp [hx, hy] at hne <;> omega
    rcases Nat.lt_or_ge x.natAbs y.natAbs with hlt | hge
    · rw [hne]
      refine (nplus_lt _ s1 s2 _ _ w g1 g2 hm hn hlt).mono ?_
      rintro e w' ⟨s, rfl, hw, hb⟩
      refine ⟨_, rfl, ⟨s, ?_, ?_⟩, hb⟩
      · rw [show decide (y < 0) = decide (x + y < 0) by rcases hc with h | h <;> simp <;> omega]
      · rwa [show (x + y).natAbs = y.natAbs - x.natAbs by rcases hc with h | h <;> omega]
    · rw [show decide (y < 0) = !decide (x < 0) by rw [hne]; simp]
      refine (nplus_ge _ s1 s2 _ _ w g1 g2 hm hn hge).mono ?_
      rintro e w' ⟨s, rfl, hw, hb⟩
      refine ⟨_, rfl, ⟨s, ?_, ?_⟩, hb⟩
      · have e0 : (dig 1000000000 (x.natAbs - y.natAbs)).length = 0 ↔ x.natAbs - y.natAbs = 0 := by rw [List.length_eq_zero_iff, dig_eq_nil (by omega)]
        have e1 : (decide (x < 0) && decide (0 < (dig 1000000000 (x.natAbs - y.natAbs)).length)) = decide (x + y < 0) := by
          rw [Bool.eq_iff_iff]; simp; rcases hc with h | h <;> omega
        rw [e1]
      · rwa [show (x + y).natAbs = x.natAbs - y.natAbs by rcases hc with h | h <;> omega]
end Go.Proofs.YtbmonfbbkmpdhaaDoor
