/- Walks of the laws of fractions: the closures of the ring's law. -/
import Derived.Test.YtolkiimlchfmlaaGreatDoorQ33
import Derived.Deep.RegionHeld3
namespace Go.Proofs.YtolkiimlchfmlaaGreatDoor
open Go.RowKit Go.Proofs.Num

theorem Stay.one {T : TypeId} {ws : List Nat} {W w' : World} (h : Stay T ws W w') {T' : TypeId} {b : Nat} {x : Value} (hB : One T' W b x) (hn : b ∉ ws) : One T' w' b x := (h.block b hB.lt hn).trans hB

set_option maxHeartbeats 3200000 in
set_option maxRecDepth 100000 in
theorem ring_add (s r s' r' P Q : ByteArray) (b c : Nat)
    (HO : Hid (∀ w, Tab w → Calls Tryz.prog 27 #[FrV s r, FrV s' r'] w (FrE w P Q 0)))
    (w : World) (hT : Tab w) (hb : One 63 w b (.bool true)) (hc : One 61 w c (.pointer (some ⟨b, 0, none⟩))) :
    Calls Tryz.prog 41 #[FrV s r, FrV s' r', .pointer (some ⟨c, 0, none⟩)] w (FrOut w P Q) := by
  have HT := Lib.hid hT
  unfold FrE at HO
  unfold FrOut FrV at *
  obtain ⟨W, hW, hA, hB, hR, hBl, hsz⟩ := box3T 24 w (.string s) (.string r) (.string s') (.string r') (.string ⟨#[]⟩) (.string ⟨#[]⟩)
  have hb1 := hb.keep hBl
  have hc1 := hc.keep hBl
  have hblt := hb.lt
  have hclt := hc.lt
  have hK : Stay 24 [w.heap.size + 1 + 1] W W := Stay.start1 hR
  have HS : Hid (∀ x, Stay 24 [w.heap.size + 1 + 1] W x → (Stay 24 [w.heap.size + 1 + 1] W x ∧ x.cell? ⟨w.heap.size, 0, none⟩ = some (.string s) ∧ x.cell? ⟨w.heap.size, 1, none⟩ = some (.string r) ∧ x.cell? ⟨w.heap.size + 1, 0, none⟩ = some (.string s') ∧ x.cell? ⟨w.heap.size + 1, 1, none⟩ = some (.string r') ∧ x.cell? ⟨c, 0, none⟩ = some (.pointer (some ⟨b, 0, none⟩)))) :=
    fun x hx => ⟨hx, (hx.box hA (by simp; omega)).c0, (hx.box hA (by simp; omega)).c1, (hx.box hB (by simp)).c0, (hx.box hB (by simp)).c1, (hx.one hc1 (by simp; omega)).c0⟩
  have HSU : Hid (∀ x, Stay 24 [w.heap.size + 1 + 1] W x → Tab x ∧ One 63 x b (.bool true)) :=
    fun x hx => ⟨hT.keep (hx.from hBl (by simp; omega)), hx.one hb1 (by simp; omega)⟩
  have HSO := Lib.hid (fun w h => sums_of b P Q w h)
  unfold FrOut FrV at HSO
  have HR := Lib.hid hR
  have HW := Lib.hid hW
  have HZ := Lib.hid hsz
  have HBL := Lib.hid hBl
  obtain ⟨_, x0, x1, y0, y1, z0⟩ := HS.out _ hK
  rw [hW] at x0 x1 y0 y1 z0
  clear hT hA hB hR hW hsz hBl hb hc hb1 hc1 hblt hclt
  go_enter Tryz.func41, Tryz.ntmps41
  go_wp2
  rw [← HW.out]
  clear x0 x1 y0 y1 z0
  have hK2 := hK.drew
  obtain ⟨_, d0, d1, d2, d3, d4⟩ := HS.out _ hK2
  go_region_held3 (fun x => Stay 24 [w.heap.size + 1 + 1] W x ∧ x.cell? ⟨w.heap.size, 0, none⟩ = some (.string s) ∧ x.cell? ⟨w.heap.size, 1, none⟩ = some (.string r) ∧ x.cell? ⟨w.heap.size + 1, 0, none⟩ = some (.string s') ∧ x.cell? ⟨w.heap.size + 1, 1, none⟩ = some (.string r') ∧ x.cell? ⟨c, 0, none⟩ = some (.pointer (some ⟨b, 0, none⟩)))
    (first | exact HS.out _ (Stay.store (by assumption) _ _ _ (by simp)) | exact HS.out _ (by assumption) | exact HS.out _ (Stay.drew (by assumption)))
    (first | (go_at_call 27; refine (HO.out _ (HSU.out _ (by assumption)).1).mono ?_; rintro e w1 ⟨rfl, hb1⟩; have hk2 := Stay.step (T := 24) (ws := [w.heap.size + 1 + 1]) (W := W) (by assumption) hb1; obtain ⟨_, f0, f1, f2, f3, f4⟩ := HS.out _ hk2) | (go_at_call 42; refine (HSO.out _ (HSU.out _ (by assumption)).2).mono ?_; rintro e w2 ⟨rfl, hb2⟩; have hk3 := Stay.step (T := 24) (ws := [w.heap.size + 1 + 1]) (W := W) (by assumption) hb2; obtain ⟨_, g0, g1, g2, g3, g4⟩ := HS.out _ hk3; obtain ⟨x5, x6, g5⟩ := hk3.wr _ (List.mem_singleton.2 rfl); have f5 := g5.c0; have f6 := g5.c1; have f7 := g5.f0 0; have f8 := g5.f0 1; have fz := g5.lt))
  go_wp2
  refine bodyPost_ret (v := .agg #[.string P, .string Q]) (by simp [results, Tryz.results41, go_sem, f5, f6]) rfl ⟨rfl, ?_⟩
  exact (Stay.store hk3 _ _ _ (by simp)).from HBL.out (by simp; omega)

set_option maxHeartbeats 3200000 in
set_option maxRecDepth 100000 in
theorem ring_mul (s r s' r' P Q : ByteArray) (b c : Nat)
    (HO : Hid (∀ w, Tab w → Calls Tryz.prog 31 #[FrV s r, FrV s' r'] w (FrE w P Q 0)))
    (w : World) (hT : Tab w) (hb : One 63 w b (.bool true)) (hc : One 61 w c (.pointer (some ⟨b, 0, none⟩))) :
    Calls Tryz.prog 43 #[FrV s r, FrV s' r', .pointer (some ⟨c, 0, none⟩)] w (FrOut w P Q) := by
  have HT := Lib.hid hT
  unfold FrE at HO
  unfold FrOut FrV at *
  obtain ⟨W, hW, hA, hB, hR, hBl, hsz⟩ := box3T 24 w (.string s) (.string r) (.string s') (.string r') (.string ⟨#[]⟩) (.string ⟨#[]⟩)
  have hb1 := hb.keep hBl
  have hc1 := hc.keep hBl
  have hblt := hb.lt
  have hclt := hc.lt
  have hK : Stay 24 [w.heap.size + 1 + 1] W W := Stay.start1 hR
  have HS : Hid (∀ x, Stay 24 [w.heap.size + 1 + 1] W x → (Stay 24 [w.heap.size + 1 + 1] W x ∧ x.cell? ⟨w.heap.size, 0, none⟩ = some (.string s) ∧ x.cell? ⟨w.heap.size, 1, none⟩ = some (.string r) ∧ x.cell? ⟨w.heap.size + 1, 0, none⟩ = some (.string s') ∧ x.cell? ⟨w.heap.size + 1, 1, none⟩ = some (.string r') ∧ x.cell? ⟨c, 0, none⟩ = some (.pointer (some ⟨b, 0, none⟩)))) :=
    fun x hx => ⟨hx, (hx.box hA (by simp; omega)).c0, (hx.box hA (by simp; omega)).c1, (hx.box hB (by simp)).c0, (hx.box hB (by simp)).c1, (hx.one hc1 (by simp; omega)).c0⟩
  have HSU : Hid (∀ x, Stay 24 [w.heap.size + 1 + 1] W x → Tab x ∧ One 63 x b (.bool true)) :=
    fun x hx => ⟨hT.keep (hx.from hBl (by simp; omega)), hx.one hb1 (by simp; omega)⟩
  have HSO := Lib.hid (fun w h => sums_of b P Q w h)
  unfold FrOut FrV at HSO
  have HR := Lib.hid hR
  have HW := Lib.hid hW
  have HZ := Lib.hid hsz
  have HBL := Lib.hid hBl
  obtain ⟨_, x0, x1, y0, y1, z0⟩ := HS.out _ hK
  rw [hW] at x0 x1 y0 y1 z0
  clear hT hA hB hR hW hsz hBl hb hc hb1 hc1 hblt hclt
  go_enter Tryz.func43, Tryz.ntmps43
  go_wp2
  rw [← HW.out]
  clear x0 x1 y0 y1 z0
  have hK2 := hK.drew
  obtain ⟨_, d0, d1, d2, d3, d4⟩ := HS.out _ hK2
  go_region_held3 (fun x => Stay 24 [w.heap.size + 1 + 1] W x ∧ x.cell? ⟨w.heap.size, 0, none⟩ = some (.string s) ∧ x.cell? ⟨w.heap.size, 1, none⟩ = some (.string r) ∧ x.cell? ⟨w.heap.size + 1, 0, none⟩ = some (.string s') ∧ x.cell? ⟨w.heap.size + 1, 1, none⟩ = some (.string r') ∧ x.cell? ⟨c, 0, none⟩ = some (.pointer (some ⟨b, 0, none⟩)))
    (first | exact HS.out _ (Stay.store (by assumption) _ _ _ (by simp)) | exact HS.out _ (by assumption) | exact HS.out _ (Stay.drew (by assumption)))
    (first | (go_at_call 31; refine (HO.out _ (HSU.out _ (by assumption)).1).mono ?_; rintro e w1 ⟨rfl, hb1⟩; have hk2 := Stay.step (T := 24) (ws := [w.heap.size + 1 + 1]) (W := W) (by assumption) hb1; obtain ⟨_, f0, f1, f2, f3, f4⟩ := HS.out _ hk2) | (go_at_call 42; refine (HSO.out _ (HSU.out _ (by assumption)).2).mono ?_; rintro e w2 ⟨rfl, hb2⟩; have hk3 := Stay.step (T := 24) (ws := [w.heap.size + 1 + 1]) (W := W) (by assumption) hb2; obtain ⟨_, g0, g1, g2, g3, g4⟩ := HS.out _ hk3; obtain ⟨x5, x6, g5⟩ := hk3.wr _ (List.mem_singleton.2 rfl); have f5 := g5.c0; have f6 := g5.c1; have f7 := g5.f0 0; have f8 := g5.f0 1; have fz := g5.lt))
  go_wp2
  refine bodyPost_ret (v := .agg #[.string P, .string Q]) (by simp [results, Tryz.results43, go_sem, f5, f6]) rfl ⟨rfl, ?_⟩
  exact (Stay.store hk3 _ _ _ (by simp)).from HBL.out (by simp; omega)

end Go.Proofs.YtolkiimlchfmlaaGreatDoor
