/- Walks of the laws of fractions: the ring's law, its long way. -/
import Derived.Test.YtolkiimlchfmlaaGreatDoorFu
namespace Go.Proofs.YtolkiimlchfmlaaGreatDoor
open Go.RowKit Go.Proofs.Num

theorem two1T (T T' : TypeId) (w : World) : ∃ W, W = (w.alloc (.cells #[.bool true] T)).alloc (.cells #[.pointer (some ⟨w.heap.size, 0, none⟩)] T') ∧
    One T W w.heap.size (.bool true) ∧ One T' W (w.heap.size + 1) (.pointer (some ⟨w.heap.size, 0, none⟩)) ∧ Below w.heap.size w W ∧ W.heap.size = w.heap.size + 1 + 1 := by
  refine ⟨_, rfl, (One.new T w _).keep (below1 _ _), ?_, (below1 w _).alloc (by simp) _, by simp⟩
  have := One.new T' (w.alloc (.cells #[.bool true] T)) (.pointer (some ⟨w.heap.size, 0, none⟩))
  rwa [World.size_alloc] at this

set_option maxHeartbeats 12800000 in
set_option maxRecDepth 100000 in
theorem ring_walk (a a' b b' c c' AB AB' MM MM' ABC ABC' BC BC' MMM MMM' NN NN' D D' MC MC' : ByteArray)
    (HR1 : Hid (∀ w, Calls Tryz.prog 40 #[FrV a a'] w fun e w' => e = .returned (.bool true) ∧ Below w.heap.size w w'))
    (HR2 : Hid (∀ w, Calls Tryz.prog 40 #[FrV b b'] w fun e w' => e = .returned (.bool true) ∧ Below w.heap.size w w'))
    (HR3 : Hid (∀ w, Calls Tryz.prog 40 #[FrV c c'] w fun e w' => e = .returned (.bool true) ∧ Below w.heap.size w w'))
    (HAab : Hid (∀ (u v : Nat) (w : World), Tab w → One 63 w u (.bool true) → One 61 w v (.pointer (some ⟨u, 0, none⟩)) → Calls Tryz.prog 41 #[FrV a a', FrV b b', .pointer (some ⟨v, 0, none⟩)] w (FrOut w AB AB')))
    (HAba : Hid (∀ (u v : Nat) (w : World), Tab w → One 63 w u (.bool true) → One 61 w v (.pointer (some ⟨u, 0, none⟩)) → Calls Tryz.prog 41 #[FrV b b', FrV a a', .pointer (some ⟨v, 0, none⟩)] w (FrOut w AB AB')))
    (HMab : Hid (∀ (u v : Nat) (w : World), Tab w → One 63 w u (.bool true) → One 61 w v (.pointer (some ⟨u, 0, none⟩)) → Calls Tryz.prog 43 #[FrV a a', FrV b b', .pointer (some ⟨v, 0, none⟩)] w (FrOut w MM MM')))
    (HMba : Hid (∀ (u v : Nat) (w : World), Tab w → One 63 w u (.bool true) → One 61 w v (.pointer (some ⟨u, 0, none⟩)) → Calls Tryz.prog 43 #[FrV b b', FrV a a', .pointer (some ⟨v, 0, none⟩)] w (FrOut w MM MM')))
    (HAxc : Hid (∀ (u v : Nat) (w : World), Tab w → One 63 w u (.bool true) → One 61 w v (.pointer (some ⟨u, 0, none⟩)) → Calls Tryz.prog 41 #[FrV AB AB', FrV c c', .pointer (some ⟨v, 0, none⟩)] w (FrOut w ABC ABC')))
    (HAbc : Hid (∀ (u v : Nat) (w : World), Tab w → One 63 w u (.bool true) → One 61 w v (.pointer (some ⟨u, 0, none⟩)) → Calls Tryz.prog 41 #[FrV b b', FrV c c', .pointer (some ⟨v, 0, none⟩)] w (FrOut w BC BC')))
    (HAay : Hid (∀ (u v : Nat) (w : World), Tab w → One 63 w u (.bool true) → One 61 w v (.pointer (some ⟨u, 0, none⟩)) → Calls Tryz.prog 41 #[FrV a a', FrV BC BC', .pointer (some ⟨v, 0, none⟩)] w (FrOut w ABC ABC')))
    (HMxc : Hid (∀ (u v : Nat) (w : World), Tab w → One 63 w u (.bool true) → One 61 w v (.pointer (some ⟨u, 0, none⟩)) → Calls Tryz.prog 43 #[FrV MM MM', FrV c c', .pointer (some ⟨v, 0, none⟩)] w (FrOut w MMM MMM')))
    (HMbc : Hid (∀ (u v : Nat) (w : World), Tab w → One 63 w u (.bool true) → One 61 w v (.pointer (some ⟨u, 0, none⟩)) → Calls Tryz.prog 43 #[FrV b b', FrV c c', .pointer (some ⟨v, 0, none⟩)] w (FrOut w NN NN')))
    (HMay : Hid (∀ (u v : Nat) (w : World), Tab w → One 63 w u (.bool true) → One 61 w v (.pointer (some ⟨u, 0, none⟩)) → Calls Tryz.prog 43 #[FrV a a', FrV NN NN', .pointer (some ⟨v, 0, none⟩)] w (FrOut w MMM MMM')))
    (HMad : Hid (∀ (u v : Nat) (w : World), Tab w → One 63 w u (.bool true) → One 61 w v (.pointer (some ⟨u, 0, none⟩)) → Calls Tryz.prog 43 #[FrV a a', FrV BC BC', .pointer (some ⟨v, 0, none⟩)] w (FrOut w D D')))
    (HMac : Hid (∀ (u v : Nat) (w : World), Tab w → One 63 w u (.bool true) → One 61 w v (.pointer (some ⟨u, 0, none⟩)) → Calls Tryz.prog 43 #[FrV a a', FrV c c', .pointer (some ⟨v, 0, none⟩)] w (FrOut w MC MC')))
    (HAmm : Hid (∀ (u v : Nat) (w : World), Tab w → One 63 w u (.bool true) → One 61 w v (.pointer (some ⟨u, 0, none⟩)) → Calls Tryz.prog 41 #[FrV MM MM', FrV MC MC', .pointer (some ⟨v, 0, none⟩)] w (FrOut w D D')))
    (HAa0 : Hid (∀ (u v : Nat) (w : World), Tab w → One 63 w u (.bool true) → One 61 w v (.pointer (some ⟨u, 0, none⟩)) → Calls Tryz.prog 41 #[FrV a a', FrV ⟨#[48]⟩ ⟨#[49]⟩, .pointer (some ⟨v, 0, none⟩)] w (FrOut w a a')))
    (HMa1 : Hid (∀ (u v : Nat) (w : World), Tab w → One 63 w u (.bool true) → One 61 w v (.pointer (some ⟨u, 0, none⟩)) → Calls Tryz.prog 43 #[FrV a a', FrV ⟨#[49]⟩ ⟨#[49]⟩, .pointer (some ⟨v, 0, none⟩)] w (FrOut w a a')))
    (HC0 : Hid (∀ w, Tab w → Calls Tryz.prog 18 #[FrV AB AB'] w fun e w' => e = .returned (.int .i64 0) ∧ Below w.heap.size w w'))
    (HC1 : Hid (∀ w, Tab w → Calls Tryz.prog 18 #[FrV MM MM'] w fun e w' => e = .returned (.int .i64 0) ∧ Below w.heap.size w w'))
    (HC2 : Hid (∀ w, Tab w → Calls Tryz.prog 18 #[FrV ABC ABC'] w fun e w' => e = .returned (.int .i64 0) ∧ Below w.heap.size w w'))
    (HC3 : Hid (∀ w, Tab w → Calls Tryz.prog 18 #[FrV MMM MMM'] w fun e w' => e = .returned (.int .i64 0) ∧ Below w.heap.size w w'))
    (HC4 : Hid (∀ w, Tab w → Calls Tryz.prog 18 #[FrV D D'] w fun e w' => e = .returned (.int .i64 0) ∧ Below w.heap.size w w'))
    (HC5 : Hid (∀ w, Tab w → Calls Tryz.prog 18 #[FrV a a'] w fun e w' => e = .returned (.int .i64 0) ∧ Below w.heap.size w w'))
    (w : World) (hT : Tab w) (hC : CutT w) : Calls Tryz.prog 7 #[FrV a a', FrV b b', FrV c c'] w fun e w' => e = .returned (.bool true) ∧ Below w.heap.size w w' := by
  have HT := Lib.hid hT
  have HC := Lib.hid hC
  have HA := Lib.hid fawake
  have HH := Lib.hid fhalf
  clear hT hC
  unfold FrOut FrV at *
  go_enter Tryz.func7, Tryz.ntmps7
  obtain ⟨W0, hW0, hR1, hR2, hR3, hBl0, hsz0⟩ := box3T 24 w (.string a) (.string a') (.string b) (.string b') (.string c) (.string c')
  have HW0 := Lib.hid hW0
  have HK1 := Lib.hid hR1
  have HK2 := Lib.hid hR2
  have HK3 := Lib.hid hR3
  have hB0 : Below w.heap.size w W0 := hBl0
  clear hR1 hR2 hR3 hBl0 hW0
  clear hsz0
  have x10 := HK1.out.c0; have x11 := HK1.out.c1
  rw [HW0.out] at x10 x11
  go_wp2_with fail
  rw [← HW0.out]
  clear x10 x11
  refine (HR1.out _ ).mono ?_
  rintro en w1 ⟨rfl, hb1⟩
  have hB1 : Below w.heap.size w w1 := hB0.trans (hb1.mono hB0.size)
  have hM1 := HK1.out.keep hb1
  have hM2 := HK2.out.keep hb1
  have hM3 := HK3.out.keep hb1
  clear HK1 HK2 HK3
  have HK1 := Lib.hid hM1
  clear hM1
  have HK2 := Lib.hid hM2
  clear hM2
  have HK3 := Lib.hid hM3
  clear hM3
  clear hb1 hB0
  have x20 := HK2.out.c0; have x21 := HK2.out.c1
  go_wp2_with fail
  clear x20 x21
  refine (HR2.out _ ).mono ?_
  rintro en w2 ⟨rfl, hb2⟩
  have hB2 : Below w.heap.size w w2 := hB1.trans (hb2.mono hB1.size)
  have hM1 := HK1.out.keep hb2
  have hM2 := HK2.out.keep hb2
  have hM3 := HK3.out.keep hb2
  clear HK1 HK2 HK3
  have HK1 := Lib.hid hM1
  clear hM1
  have HK2 := Lib.hid hM2
  clear hM2
  have HK3 := Lib.hid hM3
  clear hM3
  clear hb2 hB1
  have x30 := HK3.out.c0; have x31 := HK3.out.c1
  go_wp2_with fail
  clear x30 x31
  refine (HR3.out _ ).mono ?_
  rintro en w3 ⟨rfl, hb3⟩
  have hB3 : Below w.heap.size w w3 := hB2.trans (hb3.mono hB2.size)
  have hM1 := HK1.out.keep hb3
  have hM2 := HK2.out.keep hb3
  have hM3 := HK3.out.keep hb3
  clear HK1 HK2 HK3
  have HK1 := Lib.hid hM1
  clear hM1
  have HK2 := Lib.hid hM2
  clear hM2
  have HK3 := Lib.hid hM3
  clear hM3
  clear hb3 hB2
  obtain ⟨Z, hZ, hR4, hR5, hBlZ, hszZ⟩ := two1T 63 61 w3
  have HWZ := Lib.hid hZ
  have hBZ : Below w.heap.size w Z := hB3.trans (hBlZ.mono hB3.size)
  have hM1 := HK1.out.keep hBlZ
  have hM2 := HK2.out.keep hBlZ
  have hM3 := HK3.out.keep hBlZ
  clear HK1 HK2 HK3
  have HK1 := Lib.hid hM1
  have HK2 := Lib.hid hM2
  have HK3 := Lib.hid hM3
  have HK4 := Lib.hid hR4
  have HK5 := Lib.hid hR5
  clear hM1 hM2 hM3 hR4 hR5 hZ hBlZ hszZ hB3
  have HS : Hid (∀ y, Below Z.heap.size Z y → (Below Z.heap.size Z y ∧ y.cell? ⟨w.heap.size, 0, none⟩ = some (.string a) ∧ y.cell? ⟨w.heap.size, 1, none⟩ = some (.string a') ∧ y.cell? ⟨w.heap.size + 1, 0, none⟩ = some (.string b) ∧ y.cell? ⟨w.heap.size + 1, 1, none⟩ = some (.string b') ∧ y.cell? ⟨w.heap.size + 1 + 1, 0, none⟩ = some (.string c) ∧ y.cell? ⟨w.heap.size + 1 + 1, 1, none⟩ = some (.string c'))) := fun y hy => ⟨hy, (HK1.out.keep hy).c0, (HK1.out.keep hy).c1, (HK2.out.keep hy).c0, (HK2.out.keep hy).c1, (HK3.out.keep hy).c0, (HK3.out.keep hy).c1⟩
  have HSU : Hid (∀ y, Below Z.heap.size Z y → Tab y ∧ One 63 y w3.heap.size (.bool true) ∧ One 61 y (w3.heap.size + 1) (.pointer (some ⟨w3.heap.size, 0, none⟩))) := fun y hy => ⟨HT.out.keep (hBZ.trans (hy.mono hBZ.size)), HK4.out.keep hy, HK5.out.keep hy⟩
  have HBZ := Lib.hid hBZ
  clear hBZ
  have hu0 : Below Z.heap.size Z Z := Below.refl _ _
  obtain ⟨_, f0, f1, f2, f3, f4, f5⟩ := HS.out _ hu0
  rw [HWZ.out] at f0 f1 f2 f3 f4 f5
  go_wp2
  rw [← HWZ.out]
  clear f0 f1 f2 f3 f4 f5
  have hk2 : Below Z.heap.size Z Z.drew := hu0.drew
  clear hu0
  obtain ⟨_, d0, d1, d2, d3, d4, d5⟩ := HS.out _ hk2
  simp only [List.append_eq, List.cons_append, List.nil_append]
  go_region_held3 (fun y => Below Z.heap.size Z y ∧ y.cell? ⟨w.heap.size, 0, none⟩ = some (.string a) ∧ y.cell? ⟨w.heap.size, 1, none⟩ = some (.string a') ∧ y.cell? ⟨w.heap.size + 1, 0, none⟩ = some (.string b) ∧ y.cell? ⟨w.heap.size + 1, 1, none⟩ = some (.string b') ∧ y.cell? ⟨w.heap.size + 1 + 1, 0, none⟩ = some (.string c) ∧ y.cell? ⟨w.heap.size + 1 + 1, 1, none⟩ = some (.string c'))
    (first | exact HS.out _ (by assumption) | exact HS.out _ (Below.drew (by assumption)) | (refine HS.out _ ?_; exact Below.alloc (by assumption) (Below.size (by assumption)) _))
    (first | (go_at_call 41; (first | (with_reducible refine (HAab.out _ _ _ (HSU.out _ hk2).1 (HSU.out _ hk2).2.1 (HSU.out _ hk2).2.2).mono ?_) | (with_reducible refine (HAba.out _ _ _ (HSU.out _ hk2).1 (HSU.out _ hk2).2.1 (HSU.out _ hk2).2.2).mono ?_) | (with_reducible refine (HAxc.out _ _ _ (HSU.out _ hk2).1 (HSU.out _ hk2).2.1 (HSU.out _ hk2).2.2).mono ?_) | (with_reducible refine (HAbc.out _ _ _ (HSU.out _ hk2).1 (HSU.out _ hk2).2.1 (HSU.out _ hk2).2.2).mono ?_) | (with_reducible refine (HAay.out _ _ _ (HSU.out _ hk2).1 (HSU.out _ hk2).2.1 (HSU.out _ hk2).2.2).mono ?_) | (with_reducible refine (HAmm.out _ _ _ (HSU.out _ hk2).1 (HSU.out _ hk2).2.1 (HSU.out _ hk2).2.2).mono ?_) | (with_reducible refine (HAa0.out _ _ _ (HSU.out _ hk2).1 (HSU.out _ hk2).2.1 (HSU.out _ hk2).2.2).mono ?_)); rintro en wz ⟨rfl, hbz⟩; have hk3 := hk2.trans (hbz.mono hk2.size); clear hbz hk2; have hk2 := hk3; clear hk3) | (go_at_call 43; (first | (with_reducible refine (HMab.out _ _ _ (HSU.out _ hk2).1 (HSU.out _ hk2).2.1 (HSU.out _ hk2).2.2).mono ?_) | (with_reducible refine (HMba.out _ _ _ (HSU.out _ hk2).1 (HSU.out _ hk2).2.1 (HSU.out _ hk2).2.2).mono ?_) | (with_reducible refine (HMxc.out _ _ _ (HSU.out _ hk2).1 (HSU.out _ hk2).2.1 (HSU.out _ hk2).2.2).mono ?_) | (with_reducible refine (HMbc.out _ _ _ (HSU.out _ hk2).1 (HSU.out _ hk2).2.1 (HSU.out _ hk2).2.2).mono ?_) | (with_reducible refine (HMay.out _ _ _ (HSU.out _ hk2).1 (HSU.out _ hk2).2.1 (HSU.out _ hk2).2.2).mono ?_) | (with_reducible refine (HMad.out _ _ _ (HSU.out _ hk2).1 (HSU.out _ hk2).2.1 (HSU.out _ hk2).2.2).mono ?_) | (with_reducible refine (HMac.out _ _ _ (HSU.out _ hk2).1 (HSU.out _ hk2).2.1 (HSU.out _ hk2).2.2).mono ?_) | (with_reducible refine (HMa1.out _ _ _ (HSU.out _ hk2).1 (HSU.out _ hk2).2.1 (HSU.out _ hk2).2.2).mono ?_)); rintro en wz ⟨rfl, hbz⟩; have hk3 := hk2.trans (hbz.mono hk2.size); clear hbz hk2; have hk2 := hk3; clear hk3) | (go_at_call 44; refine (HH.out _ _ _).mono ?_; rintro en wz ⟨rfl, hbz⟩; have hk3 := hk2.trans (hbz.mono hk2.size); clear hbz hk2; have hk2 := hk3; clear hk3))
  rename_i hHeldz
  clear hHeldz
  try clear d0 d1 d2 d3 d4 d5
  have hfin := HBZ.out.trans (hk2.mono HBZ.out.size)
  obtain ⟨Y, hY⟩ : ∃ Y, Y = wz.alloc (.cells #[.string AB, .string AB', .string AB, .string AB', .string MM, .string MM', .string MM, .string MM', .string ABC, .string ABC', .string ABC, .string ABC', .string MMM, .string MMM', .string MMM, .string MMM', .string D, .string D', .string D, .string D', .string a, .string a', .string a, .string a', .string a, .string a', .string a, .string a'] 66) := ⟨_, rfl⟩
  have hbY : Below wz.heap.size wz Y := by rw [hY]; exact below1 _ _
  have hrow : Y.heap[wz.heap.size]? = some (.cells #[.string AB, .string AB', .string AB, .string AB', .string MM, .string MM', .string MM, .string MM', .string ABC, .string ABC', .string ABC, .string ABC', .string MMM, .string MMM', .string MMM, .string MMM', .string D, .string D', .string D, .string D', .string a, .string a', .string a, .string a', .string a, .string a', .string a, .string a'] 66 (0, 0)) := by rw [hY]; exact heap_alloc_new wz _
  have hlt : wz.heap.size < Y.heap.size := (Array.getElem?_eq_some_iff.1 hrow).1
  have HC28 : Hid (∀ wr, Below Y.heap.size Y wr → ∀ j, wr.cell? ⟨wz.heap.size, j, none⟩ = (#[.string AB, .string AB', .string AB, .string AB', .string MM, .string MM', .string MM, .string MM', .string ABC, .string ABC', .string ABC, .string ABC', .string MMM, .string MMM', .string MMM, .string MMM', .string D, .string D', .string D, .string D', .string a, .string a', .string a, .string a', .string a, .string a', .string a, .string a'] : Array Value)[j]?) := fun wr hb j => by
    rw [hb.cell (p := ⟨wz.heap.size, j, none⟩) hlt]; exact cell_of_row Y wz.heap.size j _ 66 (0, 0) hrow
  have HBY := Lib.hid (hfin.trans (hbY.mono hfin.size))
  have hkY : Below Z.heap.size Z Y := hk2.trans (hbY.mono hk2.size)
  have HK4' := Lib.hid (HK4.out.keep hkY)
  have HK5' := Lib.hid (HK5.out.keep hkY)
  have HY := Lib.hid hY
  clear HK4 HK5
  have HK4 := HK4'
  have HK5 := HK5'
  clear HK4' HK5' hbY hrow hlt hY hfin hkY
  rw [← HY.out]
  go_wp2_with fail
  go_loopw [112] (fun si wr => ∃ k : Nat, k ≤ 7 ∧ si = .int .i64 k ∧ Below Y.heap.size Y wr) (fun si _ => 7 - (intOf si).toNat)
  case atStart => exact ⟨0, by omega, rfl, Below.refl _ _⟩
  case round =>
    obtain ⟨k, hk, rfl, hb⟩ := hrel
    have HBR := Lib.hid hb
    rcases (show k = 0 ∨ k = 1 ∨ k = 2 ∨ k = 3 ∨ k = 4 ∨ k = 5 ∨ k = 6 ∨ k = 7 by omega) with rfl | rfl | rfl | rfl | rfl | rfl | rfl | rfl
    · have g0 : wr.cell? ⟨wz.heap.size, 0, none⟩ = some (.string AB) := HC28.out wr hb 0
      have g1 : wr.cell? ⟨wz.heap.size, 1, none⟩ = some (.string AB') := HC28.out wr hb 1
      have g2 : wr.cell? ⟨wz.heap.size, 2, none⟩ = some (.string AB) := HC28.out wr hb 2
      have g3 : wr.cell? ⟨wz.heap.size, 3, none⟩ = some (.string AB') := HC28.out wr hb 3
      clear hb
      obtain ⟨W2, hW2⟩ : ∃ W2, W2 = wr.alloc (.cells #[.string AB, .string AB', .string AB, .string AB'] 66) := ⟨_, rfl⟩
      have hrow2 : W2.heap[wr.heap.size]? = some (.cells #[.string AB, .string AB', .string AB, .string AB'] 66 (0, 0)) := by rw [hW2]; exact heap_alloc_new wr _
      have hbr2 : Below Y.heap.size Y W2 := by rw [hW2]; exact HBR.out.alloc HBR.out.size _
      have hb2 : Below w.heap.size w W2 := HBY.out.trans (hbr2.mono HBY.out.size)
      have f0 : W2.cell? ⟨wr.heap.size, 0, none⟩ = some (.string AB) := cell_of_row W2 wr.heap.size 0 _ 66 (0, 0) hrow2
      have f1 : W2.cell? ⟨wr.heap.size, 1, none⟩ = some (.string AB') := cell_of_row W2 wr.heap.size 1 _ 66 (0, 0) hrow2
      have f2 : W2.cell? ⟨wr.heap.size, 2, none⟩ = some (.string AB) := cell_of_row W2 wr.heap.size 2 _ 66 (0, 0) hrow2
      have f3 : W2.cell? ⟨wr.heap.size, 3, none⟩ = some (.string AB') := cell_of_row W2 wr.heap.size 3 _ 66 (0, 0) hrow2
      rw [hW2] at f0 f1 f2 f3
      have HW2 := Lib.hid hW2
      have HB2 := Lib.hid hb2
      have HBR2 := Lib.hid hbr2
      clear hW2 hrow2 hb2 hbr2
      go_wp2_with fail
      rw [← HW2.out]
      refine (HC0.out _ (HT.out.keep HB2.out)).mono ?_
      rintro e w1 ⟨rfl, hb1⟩
      have HE := Lib.hid (HBR2.out.trans (hb1.mono HBR2.out.size))
      clear hb1 f0 f1 f2 f3 g0 g1 g2 g3
      go_wp2
      go_roundw
      case rel => exact ⟨1, by omega, rfl, HE.out⟩
      case measure => simp [intOf]
    · have g0 : wr.cell? ⟨wz.heap.size, 4, none⟩ = some (.string MM) := HC28.out wr hb 4
      have g1 : wr.cell? ⟨wz.heap.size, 5, none⟩ = some (.string MM') := HC28.out wr hb 5
      have g2 : wr.cell? ⟨wz.heap.size, 6, none⟩ = some (.string MM) := HC28.out wr hb 6
      have g3 : wr.cell? ⟨wz.heap.size, 7, none⟩ = some (.string MM') := HC28.out wr hb 7
      clear hb
      obtain ⟨W2, hW2⟩ : ∃ W2, W2 = wr.alloc (.cells #[.string MM, .string MM', .string MM, .string MM'] 66) := ⟨_, rfl⟩
      have hrow2 : W2.heap[wr.heap.size]? = some (.cells #[.string MM, .string MM', .string MM, .string MM'] 66 (0, 0)) := by rw [hW2]; exact heap_alloc_new wr _
      have hbr2 : Below Y.heap.size Y W2 := by rw [hW2]; exact HBR.out.alloc HBR.out.size _
      have hb2 : Below w.heap.size w W2 := HBY.out.trans (hbr2.mono HBY.out.size)
      have f0 : W2.cell? ⟨wr.heap.size, 0, none⟩ = some (.string MM) := cell_of_row W2 wr.heap.size 0 _ 66 (0, 0) hrow2
      have f1 : W2.cell? ⟨wr.heap.size, 1, none⟩ = some (.string MM') := cell_of_row W2 wr.heap.size 1 _ 66 (0, 0) hrow2
      have f2 : W2.cell? ⟨wr.heap.size, 2, none⟩ = some (.string MM) := cell_of_row W2 wr.heap.size 2 _ 66 (0, 0) hrow2
      have f3 : W2.cell? ⟨wr.heap.size, 3, none⟩ = some (.string MM') := cell_of_row W2 wr.heap.size 3 _ 66 (0, 0) hrow2
      rw [hW2] at f0 f1 f2 f3
      have HW2 := Lib.hid hW2
      have HB2 := Lib.hid hb2
      have HBR2 := Lib.hid hbr2
      clear hW2 hrow2 hb2 hbr2
      go_wp2_with fail
      rw [← HW2.out]
      refine (HC1.out _ (HT.out.keep HB2.out)).mono ?_
      rintro e w1 ⟨rfl, hb1⟩
      have HE := Lib.hid (HBR2.out.trans (hb1.mono HBR2.out.size))
      clear hb1 f0 f1 f2 f3 g0 g1 g2 g3
      go_wp2
      go_roundw
      case rel => exact ⟨2, by omega, rfl, HE.out⟩
      case measure => simp [intOf]
    · have g0 : wr.cell? ⟨wz.heap.size, 8, none⟩ = some (.string ABC) := HC28.out wr hb 8
      have g1 : wr.cell? ⟨wz.heap.size, 9, none⟩ = some (.string ABC') := HC28.out wr hb 9
      have g2 : wr.cell? ⟨wz.heap.size, 10, none⟩ = some (.string ABC) := HC28.out wr hb 10
      have g3 : wr.cell? ⟨wz.heap.size, 11, none⟩ = some (.string ABC') := HC28.out wr hb 11
      clear hb
      obtain ⟨W2, hW2⟩ : ∃ W2, W2 = wr.alloc (.cells #[.string ABC, .string ABC', .string ABC, .string ABC'] 66) := ⟨_, rfl⟩
      have hrow2 : W2.heap[wr.heap.size]? = some (.cells #[.string ABC, .string ABC', .string ABC, .string ABC'] 66 (0, 0)) := by rw [hW2]; exact heap_alloc_new wr _
      have hbr2 : Below Y.heap.size Y W2 := by rw [hW2]; exact HBR.out.alloc HBR.out.size _
      have hb2 : Below w.heap.size w W2 := HBY.out.trans (hbr2.mono HBY.out.size)
      have f0 : W2.cell? ⟨wr.heap.size, 0, none⟩ = some (.string ABC) := cell_of_row W2 wr.heap.size 0 _ 66 (0, 0) hrow2
      have f1 : W2.cell? ⟨wr.heap.size, 1, none⟩ = some (.string ABC') := cell_of_row W2 wr.heap.size 1 _ 66 (0, 0) hrow2
      have f2 : W2.cell? ⟨wr.heap.size, 2, none⟩ = some (.string ABC) := cell_of_row W2 wr.heap.size 2 _ 66 (0, 0) hrow2
      have f3 : W2.cell? ⟨wr.heap.size, 3, none⟩ = some (.string ABC') := cell_of_row W2 wr.heap.size 3 _ 66 (0, 0) hrow2
      rw [hW2] at f0 f1 f2 f3
      have HW2 := Lib.hid hW2
      have HB2 := Lib.hid hb2
      have HBR2 := Lib.hid hbr2
      clear hW2 hrow2 hb2 hbr2
      go_wp2_with fail
      rw [← HW2.out]
      refine (HC2.out _ (HT.out.keep HB2.out)).mono ?_
      rintro e w1 ⟨rfl, hb1⟩
      have HE := Lib.hid (HBR2.out.trans (hb1.mono HBR2.out.size))
      clear hb1 f0 f1 f2 f3 g0 g1 g2 g3
      go_wp2
      go_roundw
      case rel => exact ⟨3, by omega, rfl, HE.out⟩
      case measure => simp [intOf]
    · have g0 : wr.cell? ⟨wz.heap.size, 12, none⟩ = some (.string MMM) := HC28.out wr hb 12
      have g1 : wr.cell? ⟨wz.heap.size, 13, none⟩ = some (.string MMM') := HC28.out wr hb 13
      have g2 : wr.cell? ⟨wz.heap.size, 14, none⟩ = some (.string MMM) := HC28.out wr hb 14
      have g3 : wr.cell? ⟨wz.heap.size, 15, none⟩ = some (.string MMM') := HC28.out wr hb 15
      clear hb
      obtain ⟨W2, hW2⟩ : ∃ W2, W2 = wr.alloc (.cells #[.string MMM, .string MMM', .string MMM, .string MMM'] 66) := ⟨_, rfl⟩
      have hrow2 : W2.heap[wr.heap.size]? = some (.cells #[.string MMM, .string MMM', .string MMM, .string MMM'] 66 (0, 0)) := by rw [hW2]; exact heap_alloc_new wr _
      have hbr2 : Below Y.heap.size Y W2 := by rw [hW2]; exact HBR.out.alloc HBR.out.size _
      have hb2 : Below w.heap.size w W2 := HBY.out.trans (hbr2.mono HBY.out.size)
      have f0 : W2.cell? ⟨wr.heap.size, 0, none⟩ = some (.string MMM) := cell_of_row W2 wr.heap.size 0 _ 66 (0, 0) hrow2
      have f1 : W2.cell? ⟨wr.heap.size, 1, none⟩ = some (.string MMM') := cell_of_row W2 wr.heap.size 1 _ 66 (0, 0) hrow2
      have f2 : W2.cell? ⟨wr.heap.size, 2, none⟩ = some (.string MMM) := cell_of_row W2 wr.heap.size 2 _ 66 (0, 0) hrow2
      have f3 : W2.cell? ⟨wr.heap.size, 3, none⟩ = some (.string MMM') := cell_of_row W2 wr.heap.size 3 _ 66 (0, 0) hrow2
      rw [hW2] at f0 f1 f2 f3
      have HW2 := Lib.hid hW2
      have HB2 := Lib.hid hb2
      have HBR2 := Lib.hid hbr2
      clear hW2 hrow2 hb2 hbr2
      go_wp2_with fail
      rw [← HW2.out]
      refine (HC3.out _ (HT.out.keep HB2.out)).mono ?_
      rintro e w1 ⟨rfl, hb1⟩
      have HE := Lib.hid (HBR2.out.trans (hb1.mono HBR2.out.size))
      clear hb1 f0 f1 f2 f3 g0 g1 g2 g3
      go_wp2
      go_roundw
      case rel => exact ⟨4, by omega, rfl, HE.out⟩
      case measure => simp [intOf]
    · have g0 : wr.cell? ⟨wz.heap.size, 16, none⟩ = some (.string D) := HC28.out wr hb 16
      have g1 : wr.cell? ⟨wz.heap.size, 17, none⟩ = some (.string D') := HC28.out wr hb 17
      have g2 : wr.cell? ⟨wz.heap.size, 18, none⟩ = some (.string D) := HC28.out wr hb 18
      have g3 : wr.cell? ⟨wz.heap.size, 19, none⟩ = some (.string D') := HC28.out wr hb 19
      clear hb
      obtain ⟨W2, hW2⟩ : ∃ W2, W2 = wr.alloc (.cells #[.string D, .string D', .string D, .string D'] 66) := ⟨_, rfl⟩
      have hrow2 : W2.heap[wr.heap.size]? = some (.cells #[.string D, .string D', .string D, .string D'] 66 (0, 0)) := by rw [hW2]; exact heap_alloc_new wr _
      have hbr2 : Below Y.heap.size Y W2 := by rw [hW2]; exact HBR.out.alloc HBR.out.size _
      have hb2 : Below w.heap.size w W2 := HBY.out.trans (hbr2.mono HBY.out.size)
      have f0 : W2.cell? ⟨wr.heap.size, 0, none⟩ = some (.string D) := cell_of_row W2 wr.heap.size 0 _ 66 (0, 0) hrow2
      have f1 : W2.cell? ⟨wr.heap.size, 1, none⟩ = some (.string D') := cell_of_row W2 wr.heap.size 1 _ 66 (0, 0) hrow2
      have f2 : W2.cell? ⟨wr.heap.size, 2, none⟩ = some (.string D) := cell_of_row W2 wr.heap.size 2 _ 66 (0, 0) hrow2
      have f3 : W2.cell? ⟨wr.heap.size, 3, none⟩ = some (.string D') := cell_of_row W2 wr.heap.size 3 _ 66 (0, 0) hrow2
      rw [hW2] at f0 f1 f2 f3
      have HW2 := Lib.hid hW2
      have HB2 := Lib.hid hb2
      have HBR2 := Lib.hid hbr2
      clear hW2 hrow2 hb2 hbr2
      go_wp2_with fail
      rw [← HW2.out]
      refine (HC4.out _ (HT.out.keep HB2.out)).mono ?_
      rintro e w1 ⟨rfl, hb1⟩
      have HE := Lib.hid (HBR2.out.trans (hb1.mono HBR2.out.size))
      clear hb1 f0 f1 f2 f3 g0 g1 g2 g3
      go_wp2
      go_roundw
      case rel => exact ⟨5, by omega, rfl, HE.out⟩
      case measure => simp [intOf]
    · have g0 : wr.cell? ⟨wz.heap.size, 20, none⟩ = some (.string a) := HC28.out wr hb 20
      have g1 : wr.cell? ⟨wz.heap.size, 21, none⟩ = some (.string a') := HC28.out wr hb 21
      have g2 : wr.cell? ⟨wz.heap.size, 22, none⟩ = some (.string a) := HC28.out wr hb 22
      have g3 : wr.cell? ⟨wz.heap.size, 23, none⟩ = some (.string a') := HC28.out wr hb 23
      clear hb
      obtain ⟨W2, hW2⟩ : ∃ W2, W2 = wr.alloc (.cells #[.string a, .string a', .string a, .string a'] 66) := ⟨_, rfl⟩
      have hrow2 : W2.heap[wr.heap.size]? = some (.cells #[.string a, .string a', .string a, .string a'] 66 (0, 0)) := by rw [hW2]; exact heap_alloc_new wr _
      have hbr2 : Below Y.heap.size Y W2 := by rw [hW2]; exact HBR.out.alloc HBR.out.size _
      have hb2 : Below w.heap.size w W2 := HBY.out.trans (hbr2.mono HBY.out.size)
      have f0 : W2.cell? ⟨wr.heap.size, 0, none⟩ = some (.string a) := cell_of_row W2 wr.heap.size 0 _ 66 (0, 0) hrow2
      have f1 : W2.cell? ⟨wr.heap.size, 1, none⟩ = some (.string a') := cell_of_row W2 wr.heap.size 1 _ 66 (0, 0) hrow2
      have f2 : W2.cell? ⟨wr.heap.size, 2, none⟩ = some (.string a) := cell_of_row W2 wr.heap.size 2 _ 66 (0, 0) hrow2
      have f3 : W2.cell? ⟨wr.heap.size, 3, none⟩ = some (.string a') := cell_of_row W2 wr.heap.size 3 _ 66 (0, 0) hrow2
      rw [hW2] at f0 f1 f2 f3
      have HW2 := Lib.hid hW2
      have HB2 := Lib.hid hb2
      have HBR2 := Lib.hid hbr2
      clear hW2 hrow2 hb2 hbr2
      go_wp2_with fail
      rw [← HW2.out]
      refine (HC5.out _ (HT.out.keep HB2.out)).mono ?_
      rintro e w1 ⟨rfl, hb1⟩
      have HE := Lib.hid (HBR2.out.trans (hb1.mono HBR2.out.size))
      clear hb1 f0 f1 f2 f3 g0 g1 g2 g3
      go_wp2
      go_roundw
      case rel => exact ⟨6, by omega, rfl, HE.out⟩
      case measure => simp [intOf]
    · have g0 : wr.cell? ⟨wz.heap.size, 24, none⟩ = some (.string a) := HC28.out wr hb 24
      have g1 : wr.cell? ⟨wz.heap.size, 25, none⟩ = some (.string a') := HC28.out wr hb 25
      have g2 : wr.cell? ⟨wz.heap.size, 26, none⟩ = some (.string a) := HC28.out wr hb 26
      have g3 : wr.cell? ⟨wz.heap.size, 27, none⟩ = some (.string a') := HC28.out wr hb 27
      clear hb
      obtain ⟨W2, hW2⟩ : ∃ W2, W2 = wr.alloc (.cells #[.string a, .string a', .string a, .string a'] 66) := ⟨_, rfl⟩
      have hrow2 : W2.heap[wr.heap.size]? = some (.cells #[.string a, .string a', .string a, .string a'] 66 (0, 0)) := by rw [hW2]; exact heap_alloc_new wr _
      have hbr2 : Below Y.heap.size Y W2 := by rw [hW2]; exact HBR.out.alloc HBR.out.size _
      have hb2 : Below w.heap.size w W2 := HBY.out.trans (hbr2.mono HBY.out.size)
      have f0 : W2.cell? ⟨wr.heap.size, 0, none⟩ = some (.string a) := cell_of_row W2 wr.heap.size 0 _ 66 (0, 0) hrow2
      have f1 : W2.cell? ⟨wr.heap.size, 1, none⟩ = some (.string a') := cell_of_row W2 wr.heap.size 1 _ 66 (0, 0) hrow2
      have f2 : W2.cell? ⟨wr.heap.size, 2, none⟩ = some (.string a) := cell_of_row W2 wr.heap.size 2 _ 66 (0, 0) hrow2
      have f3 : W2.cell? ⟨wr.heap.size, 3, none⟩ = some (.string a') := cell_of_row W2 wr.heap.size 3 _ 66 (0, 0) hrow2
      rw [hW2] at f0 f1 f2 f3
      have HW2 := Lib.hid hW2
      have HB2 := Lib.hid hb2
      have HBR2 := Lib.hid hbr2
      clear hW2 hrow2 hb2 hbr2
      go_wp2_with fail
      rw [← HW2.out]
      refine (HC5.out _ (HT.out.keep HB2.out)).mono ?_
      rintro e w1 ⟨rfl, hb1⟩
      have HE := Lib.hid (HBR2.out.trans (hb1.mono HBR2.out.size))
      clear hb1 f0 f1 f2 f3 g0 g1 g2 g3
      go_wp2
      go_roundw
      case rel => exact ⟨7, by omega, rfl, HE.out⟩
      case measure => simp [intOf]
    · have hE := HBY.out.trans (hb.mono HBY.out.size)
      have h4 := HK4.out.keep hb
      have h5 := HK5.out.keep hb
      have z0 := h4.c0; have z1 := h5.c0
      clear hb h4 h5
      go_wp2_with fail
      refine (HA.out _ (HT.out.keep hE) (HC.out.keep hE)).mono ?_
      rintro en wf ⟨rfl, hbf⟩
      go_wp2
      go_ret
      exact ⟨rfl, hE.trans (hbf.mono hE.size)⟩
end Go.Proofs.YtolkiimlchfmlaaGreatDoor
