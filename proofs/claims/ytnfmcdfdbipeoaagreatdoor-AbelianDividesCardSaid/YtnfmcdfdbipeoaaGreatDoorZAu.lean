/- Abelian groups: elements, in the reference. -/
import Derived.Test.YtnfmcdfdbipeoaaGreatDoorQ35
import Derived.Test.YtnfmcdfdbipeoaaGreatDoorQ13
namespace Go.Proofs.YtnfmcdfdbipeoaaGreatDoor
open Go.RowKit Go.Proofs.Num

set_option maxHeartbeats 3200000 in
set_option maxRecDepth 100000 in
theorem rin_shape (a b : Option Addr) (n m c1 c2 : Nat) (hn : m ≠ n) (w : World) :
    Calls Tryz.prog 80 #[.slice a n c1, .slice b m c2] w (fun e w' => e = .returned (.int .i64 8) ∧ Below w.heap.size w w') := by
  have d0 : (((m : Nat) : Int) != ((n : Nat) : Int)) = true := by simp; omega
  have d1 : ¬ ((m : Nat) : Int) = ((n : Nat) : Int) := by omega
  clear hn
  go_enter Tryz.func80, Tryz.ntmps80
  go_wp2
  go_ret
  exact ⟨rfl, Below.refl _ _⟩

set_option maxHeartbeats 3200000 in
set_option maxRecDepth 100000 in
theorem rin_ok (a b : Option Addr) (c1 c2 : Nat) (L G : List ByteArray) (hL : L.length = G.length) (hl : G.length ≤ 4096) (HO : Hid (∀ j, j < G.length → ∀ w, Calls Tryz.prog 44 #[.string (sat L j)] w (fun e w' => e = .returned (.int .i64 0) ∧ Below w.heap.size w w')))
    (HM : Hid (∀ j, j < G.length → ∀ w, Calls Tryz.prog 61 #[.string (sat L j)] w (fun e w' => e = .returned (.bool false) ∧ w = w')))
    (c : Nat → Int) (hc : Hid (∀ j, j < G.length → c j < 0)) (HR : Hid (∀ j, j < G.length → ∀ w, Calls Tryz.prog 26 #[.string (sat L j), .string (sat G j)] w (fun e w' => e = .returned (.int .i64 (c j)) ∧ Below w.heap.size w w'))) (w : World) (h1 : TsAt w a G) (h2 : TsAt w b L) :
    Calls Tryz.prog 80 #[.slice a G.length c1, .slice b L.length c2] w (fun e w' => e = .returned (.int .i64 0) ∧ Below w.heap.size w w') := by
  rw [hL]
  have H1 := Lib.hid h1
  have H2 := Lib.hid h2
  have HL := Lib.hid hL
  clear h1 h2 hL
  go_enter Tryz.func80, Tryz.ntmps80
  go_wp2
  go_loopw [5] (fun v wr => ∃ i : Nat, i ≤ G.length ∧ v = .int .i64 i ∧ Below w.heap.size w wr) (fun v _ => G.length - (intOf v).toNat)
  case atStart => exact ⟨0, Nat.zero_le _, rfl, Below.refl _ _⟩
  case round =>
    obtain ⟨i, hi, rfl, hB⟩ := hrel
    by_cases hlt : i < G.length
    · have C := Lib.hid (fun w => HO.out i hlt w)
      have M := Lib.hid (fun w => HM.out i hlt w)
      have D := Lib.hid (fun w => HR.out i hlt w)
      obtain ⟨ci, hci⟩ : ∃ ci, ci = c i := ⟨_, rfl⟩
      have hcn := hc.out i hlt
      rw [← hci] at D hcn
      have hcd : decide (0 ≤ ci) = false := decide_eq_false (by omega)
      clear hci hcn
      have hiG : i < G.length := by omega
      obtain ⟨b1, o1, rfl, hb1, hc1⟩ := (H1.out.keep hB) i hiG
      obtain ⟨b2, o2, rfl, hb2, hc2⟩ := (H2.out.keep hB) i (by rw [HL.out]; exact hiG)
      go_wp2_with fail
      refine (C.out _).mono ?_
      rintro e w1 ⟨rfl, hbb⟩
      have hB1 : Below w.heap.size w w1 := hB.trans (hbb.mono hB.size)
      have HS : Hid (∀ x, Below w1.heap.size w1 x → (Below w1.heap.size w1 x ∧ x.cell? ⟨b1, o1 + i, none⟩ = some (.string (sat G i)) ∧ x.cell? ⟨b2, o2 + i, none⟩ = some (.string (sat L i)))) := fun x hx => ⟨hx, ((hbb.trans (hx.mono hbb.size)).cell (p := ⟨b1, o1 + i, none⟩) hb1).trans hc1, ((hbb.trans (hx.mono hbb.size)).cell (p := ⟨b2, o2 + i, none⟩) hb2).trans hc2⟩
      clear hbb hb1 hb2 hc1 hc2
      obtain ⟨_, e0, e1⟩ := HS.out _ (Below.refl _ _)
      go_wp2
      have hk2 : Below w1.heap.size w1 w1.drew := (Below.refl _ _).drew
      clear e0 e1
      obtain ⟨_, f0, f1⟩ := HS.out _ hk2
      go_region_held3 (fun x => Below w1.heap.size w1 x ∧ x.cell? ⟨b1, o1 + i, none⟩ = some (.string (sat G i)) ∧ x.cell? ⟨b2, o2 + i, none⟩ = some (.string (sat L i)))
    (first | exact HS.out _ (by assumption) | exact HS.out _ (Below.drew (by assumption)) | (refine HS.out _ ?_; exact Below.alloc hk2 hk2.size _))
    (first | (go_at_call 61; refine (M.out _).mono ?_; rintro e wy ⟨rfl, rfl⟩) | (go_at_call 26; refine (D.out _).mono ?_; rintro e wz ⟨rfl, hbz⟩; have hk3 := hk2.trans (hbz.mono hk2.size); clear hbz hk2; have hk2 := hk3; clear hk3))
      rename_i hHeldz
      clear hHeldz
      have hB2 : Below w.heap.size w wz := hB1.trans (hk2.mono hB1.size)
      clear f0 f1 hk2
      go_wp2
      go_roundw
      case rel => exact ⟨i + 1, by omega, by go_num, hB2⟩
      case measure => simp [intOf]; omega
    · obtain rfl : i = G.length := by omega
      go_wp2
      go_ret
      exact ⟨rfl, hB⟩

set_option maxHeartbeats 3200000 in
set_option maxRecDepth 100000 in
theorem rin_one (a b : Option Addr) (c1 c2 : Nat) (L G : List ByteArray) (hL : L.length = G.length) (hl : G.length ≤ 4096) (p : Nat) (hp : p < G.length) (k : Nat) (hk : k ≠ 0) (HO : Hid (∀ j, j < p → ∀ w, Calls Tryz.prog 44 #[.string (sat L j)] w (fun e w' => e = .returned (.int .i64 0) ∧ Below w.heap.size w w')))
    (HM : Hid (∀ j, j < p → ∀ w, Calls Tryz.prog 61 #[.string (sat L j)] w (fun e w' => e = .returned (.bool false) ∧ w = w')))
    (c : Nat → Int) (hc : Hid (∀ j, j < p → c j < 0)) (HR : Hid (∀ j, j < p → ∀ w, Calls Tryz.prog 26 #[.string (sat L j), .string (sat G j)] w (fun e w' => e = .returned (.int .i64 (c j)) ∧ Below w.heap.size w w')))
    (HB : Hid (∀ w, Calls Tryz.prog 44 #[.string (sat L p)] w (fun e w' => e = .returned (.int .i64 ((k : Nat) : Int)) ∧ Below w.heap.size w w'))) (w : World) (h1 : TsAt w a G) (h2 : TsAt w b L) :
    Calls Tryz.prog 80 #[.slice a G.length c1, .slice b L.length c2] w (fun e w' => e = .returned (.int .i64 ((k : Nat) : Int)) ∧ Below w.heap.size w w') := by
  rw [hL]
  have H1 := Lib.hid h1
  have H2 := Lib.hid h2
  have HL := Lib.hid hL
  have hk0 : ¬ ((k : Nat) : Int) = 0 := by omega
  have hk1 : (((k : Nat) : Int) != 0) = true := by simp; omega
  clear hk
  clear h1 h2 hL
  go_enter Tryz.func80, Tryz.ntmps80
  go_wp2
  go_loopw [5] (fun v wr => ∃ i : Nat, i ≤ p ∧ v = .int .i64 i ∧ Below w.heap.size w wr) (fun v _ => p - (intOf v).toNat)
  case atStart => exact ⟨0, Nat.zero_le _, rfl, Below.refl _ _⟩
  case round =>
    obtain ⟨i, hi, rfl, hB⟩ := hrel
    by_cases hlt : i < p
    · have C := Lib.hid (fun w => HO.out i hlt w)
      have M := Lib.hid (fun w => HM.out i hlt w)
      have D := Lib.hid (fun w => HR.out i hlt w)
      obtain ⟨ci, hci⟩ : ∃ ci, ci = c i := ⟨_, rfl⟩
      have hcn := hc.out i hlt
      rw [← hci] at D hcn
      have hcd : decide (0 ≤ ci) = false := decide_eq_false (by omega)
      clear hci hcn
      have hiG : i < G.length := by omega
      obtain ⟨b1, o1, rfl, hb1, hc1⟩ := (H1.out.keep hB) i hiG
      obtain ⟨b2, o2, rfl, hb2, hc2⟩ := (H2.out.keep hB) i (by rw [HL.out]; exact hiG)
      go_wp2_with fail
      refine (C.out _).mono ?_
      rintro e w1 ⟨rfl, hbb⟩
      have hB1 : Below w.heap.size w w1 := hB.trans (hbb.mono hB.size)
      have HS : Hid (∀ x, Below w1.heap.size w1 x → (Below w1.heap.size w1 x ∧ x.cell? ⟨b1, o1 + i, none⟩ = some (.string (sat G i)) ∧ x.cell? ⟨b2, o2 + i, none⟩ = some (.string (sat L i)))) := fun x hx => ⟨hx, ((hbb.trans (hx.mono hbb.size)).cell (p := ⟨b1, o1 + i, none⟩) hb1).trans hc1, ((hbb.trans (hx.mono hbb.size)).cell (p := ⟨b2, o2 + i, none⟩) hb2).trans hc2⟩
      clear hbb hb1 hb2 hc1 hc2
      obtain ⟨_, e0, e1⟩ := HS.out _ (Below.refl _ _)
      go_wp2
      have hk2 : Below w1.heap.size w1 w1.drew := (Below.refl _ _).drew
      clear e0 e1
      obtain ⟨_, f0, f1⟩ := HS.out _ hk2
      go_region_held3 (fun x => Below w1.heap.size w1 x ∧ x.cell? ⟨b1, o1 + i, none⟩ = some (.string (sat G i)) ∧ x.cell? ⟨b2, o2 + i, none⟩ = some (.string (sat L i)))
    (first | exact HS.out _ (by assumption) | exact HS.out _ (Below.drew (by assumption)) | (refine HS.out _ ?_; exact Below.alloc hk2 hk2.size _))
    (first | (go_at_call 61; refine (M.out _).mono ?_; rintro e wy ⟨rfl, rfl⟩) | (go_at_call 26; refine (D.out _).mono ?_; rintro e wz ⟨rfl, hbz⟩; have hk3 := hk2.trans (hbz.mono hk2.size); clear hbz hk2; have hk2 := hk3; clear hk3))
      rename_i hHeldz
      clear hHeldz
      have hB2 : Below w.heap.size w wz := hB1.trans (hk2.mono hB1.size)
      clear f0 f1 hk2
      go_wp2
      go_roundw
      case rel => exact ⟨i + 1, by omega, by go_num, hB2⟩
      case measure => simp [intOf]; omega
    · obtain rfl : i = p := by omega
      obtain ⟨b2, o2, rfl, hb2, hc2⟩ := (H2.out.keep hB) i (by rw [HL.out]; exact hp)
      go_wp2_with fail
      refine (HB.out _).mono ?_
      rintro e w1 ⟨rfl, hbb⟩
      have hB1 : Below w.heap.size w w1 := hB.trans (hbb.mono hB.size)
      clear hbb hb2 hc2
      go_wp2
      go_ret
      exact ⟨rfl, hB1⟩

set_option maxHeartbeats 3200000 in
set_option maxRecDepth 100000 in
theorem rin_neg (a b : Option Addr) (c1 c2 : Nat) (L G : List ByteArray) (hL : L.length = G.length) (hl : G.length ≤ 4096) (p : Nat) (hp : p < G.length) (HO : Hid (∀ j, j < p → ∀ w, Calls Tryz.prog 44 #[.string (sat L j)] w (fun e w' => e = .returned (.int .i64 0) ∧ Below w.heap.size w w')))
    (HM : Hid (∀ j, j < p → ∀ w, Calls Tryz.prog 61 #[.string (sat L j)] w (fun e w' => e = .returned (.bool false) ∧ w = w')))
    (c : Nat → Int) (hc : Hid (∀ j, j < p → c j < 0)) (HR : Hid (∀ j, j < p → ∀ w, Calls Tryz.prog 26 #[.string (sat L j), .string (sat G j)] w (fun e w' => e = .returned (.int .i64 (c j)) ∧ Below w.heap.size w w')))
    (HB : Hid (∀ w, Calls Tryz.prog 44 #[.string (sat L p)] w (fun e w' => e = .returned (.int .i64 0) ∧ Below w.heap.size w w')))
    (HB2 : Hid (∀ w, Calls Tryz.prog 61 #[.string (sat L p)] w (fun e w' => e = .returned (.bool true) ∧ w = w'))) (w : World) (h1 : TsAt w a G) (h2 : TsAt w b L) :
    Calls Tryz.prog 80 #[.slice a G.length c1, .slice b L.length c2] w (fun e w' => e = .returned (.int .i64 2) ∧ Below w.heap.size w w') := by
  rw [hL]
  have H1 := Lib.hid h1
  have H2 := Lib.hid h2
  have HL := Lib.hid hL
  clear h1 h2 hL
  go_enter Tryz.func80, Tryz.ntmps80
  go_wp2
  go_loopw [5] (fun v wr => ∃ i : Nat, i ≤ p ∧ v = .int .i64 i ∧ Below w.heap.size w wr) (fun v _ => p - (intOf v).toNat)
  case atStart => exact ⟨0, Nat.zero_le _, rfl, Below.refl _ _⟩
  case round =>
    obtain ⟨i, hi, rfl, hB⟩ := hrel
    by_cases hlt : i < p
    · have C := Lib.hid (fun w => HO.out i hlt w)
      have M := Lib.hid (fun w => HM.out i hlt w)
      have D := Lib.hid (fun w => HR.out i hlt w)
      obtain ⟨ci, hci⟩ : ∃ ci, ci = c i := ⟨_, rfl⟩
      have hcn := hc.out i hlt
      rw [← hci] at D hcn
      have hcd : decide (0 ≤ ci) = false := decide_eq_false (by omega)
      clear hci hcn
      have hiG : i < G.length := by omega
      obtain ⟨b1, o1, rfl, hb1, hc1⟩ := (H1.out.keep hB) i hiG
      obtain ⟨b2, o2, rfl, hb2, hc2⟩ := (H2.out.keep hB) i (by rw [HL.out]; exact hiG)
      go_wp2_with fail
      refine (C.out _).mono ?_
      rintro e w1 ⟨rfl, hbb⟩
      have hB1 : Below w.heap.size w w1 := hB.trans (hbb.mono hB.size)
      have HS : Hid (∀ x, Below w1.heap.size w1 x → (Below w1.heap.size w1 x ∧ x.cell? ⟨b1, o1 + i, none⟩ = some (.string (sat G i)) ∧ x.cell? ⟨b2, o2 + i, none⟩ = some (.string (sat L i)))) := fun x hx => ⟨hx, ((hbb.trans (hx.mono hbb.size)).cell (p := ⟨b1, o1 + i, none⟩) hb1).trans hc1, ((hbb.trans (hx.mono hbb.size)).cell (p := ⟨b2, o2 + i, none⟩) hb2).trans hc2⟩
      clear hbb hb1 hb2 hc1 hc2
      obtain ⟨_, e0, e1⟩ := HS.out _ (Below.refl _ _)
      go_wp2
      have hk2 : Below w1.heap.size w1 w1.drew := (Below.refl _ _).drew
      clear e0 e1
      obtain ⟨_, f0, f1⟩ := HS.out _ hk2
      go_region_held3 (fun x => Below w1.heap.size w1 x ∧ x.cell? ⟨b1, o1 + i, none⟩ = some (.string (sat G i)) ∧ x.cell? ⟨b2, o2 + i, none⟩ = some (.string (sat L i)))
    (first | exact HS.out _ (by assumption) | exact HS.out _ (Below.drew (by assumption)) | (refine HS.out _ ?_; exact Below.alloc hk2 hk2.size _))
    (first | (go_at_call 61; refine (M.out _).mono ?_; rintro e wy ⟨rfl, rfl⟩) | (go_at_call 26; refine (D.out _).mono ?_; rintro e wz ⟨rfl, hbz⟩; have hk3 := hk2.trans (hbz.mono hk2.size); clear hbz hk2; have hk2 := hk3; clear hk3))
      rename_i hHeldz
      clear hHeldz
      have hB2 : Below w.heap.size w wz := hB1.trans (hk2.mono hB1.size)
      clear f0 f1 hk2
      go_wp2
      go_roundw
      case rel => exact ⟨i + 1, by omega, by go_num, hB2⟩
      case measure => simp [intOf]; omega
    · obtain rfl : i = p := by omega
      have hiG : i < G.length := by omega
      obtain ⟨b1, o1, rfl, hb1, hc1⟩ := (H1.out.keep hB) i hiG
      obtain ⟨b2, o2, rfl, hb2, hc2⟩ := (H2.out.keep hB) i (by rw [HL.out]; exact hiG)
      go_wp2_with fail
      refine (HB.out _).mono ?_
      rintro e w1 ⟨rfl, hbb⟩
      have hB1 : Below w.heap.size w w1 := hB.trans (hbb.mono hB.size)
      have HS : Hid (∀ x, Below w1.heap.size w1 x → (Below w1.heap.size w1 x ∧ x.cell? ⟨b1, o1 + i, none⟩ = some (.string (sat G i)) ∧ x.cell? ⟨b2, o2 + i, none⟩ = some (.string (sat L i)))) := fun x hx => ⟨hx, ((hbb.trans (hx.mono hbb.size)).cell (p := ⟨b1, o1 + i, none⟩) hb1).trans hc1, ((hbb.trans (hx.mono hbb.size)).cell (p := ⟨b2, o2 + i, none⟩) hb2).trans hc2⟩
      clear hbb hb1 hb2 hc1 hc2
      obtain ⟨_, e0, e1⟩ := HS.out _ (Below.refl _ _)
      go_wp2
      have hk2 : Below w1.heap.size w1 w1.drew := (Below.refl _ _).drew
      clear e0 e1
      obtain ⟨_, f0, f1⟩ := HS.out _ hk2
      refine wp_region_late (S := fun u => Below w1.heap.size w1 u) (X := []) (by kernel_rfl) ?_
      refine wpAnyL_pureD (i := 0) 26 (.slice (some ⟨b2, o2, none⟩) G.length c2) rfl rfl (by kernel_rfl) (by kernel_rfl) (by kernel_rfl) (fun _ _ _ h => h) (Or.inl ⟨by rfl, fun u _ => ?_⟩) ?_
      · go_simp
      try simp only [Act.put, List.setIfInBounds_toArray, List.set_cons_zero, List.set_cons_succ]
      refine wpAnyL_pureD (i := 1) 27 (.int .i64 i) rfl rfl (by kernel_rfl) (by kernel_rfl) (by kernel_rfl) (fun _ _ _ h => h) (Or.inl ⟨by rfl, fun u _ => ?_⟩) ?_
      · go_simp
      try simp only [Act.put, List.setIfInBounds_toArray, List.set_cons_zero, List.set_cons_succ]
      refine wpAnyL_pureD (i := 2) 28 (.pointer (some ⟨b2, o2 + i, none⟩)) rfl rfl (by kernel_rfl) (by kernel_rfl) (by kernel_rfl) (fun _ _ _ h => h) (Or.inl ⟨by rfl, fun u _ => ?_⟩) ?_
      · go_simp
      try simp only [Act.put, List.setIfInBounds_toArray, List.set_cons_zero, List.set_cons_succ]
      refine wpAnyL_one (i := 3) (by kernel_rfl) rfl (fun K hK => ?_)
      go_simp
      show K _ _
      refine hK.out _ _ (fun _ h => h) ?_
      clear hK K
      try simp only [Act.put, List.setIfInBounds_toArray, List.set_cons_zero, List.set_cons_succ]
      refine wpAnyL_one (i := 4) (by kernel_rfl) rfl (fun K hK => ?_)
      go_simp
      go_at_call 61
      refine (HB2.out _).mono ?_
      rintro e wz ⟨rfl, rfl⟩
      show K _ _
      refine hK.out _ _ (fun _ h => h) ?_
      clear hK K
      try simp only [Act.put, List.setIfInBounds_toArray, List.set_cons_zero, List.set_cons_succ]
      refine wpAnyL_pureD (i := 5) 31 (.bool true) rfl rfl (by kernel_rfl) (by kernel_rfl) (by kernel_rfl) (fun _ _ _ h => h) (Or.inl ⟨by rfl, fun u _ => ?_⟩) ?_
      · go_simp
      try simp only [Act.put, List.setIfInBounds_toArray, List.set_cons_zero, List.set_cons_succ]
      refine wpAnyL_pureD (i := 6) 32 undef rfl rfl (by kernel_rfl) (by kernel_rfl) (by kernel_rfl) (fun _ _ _ h => h) (Or.inr ⟨by kernel_rfl, rfl⟩) ?_
      refine wpAnyL_pureD (i := 7) 33 undef rfl rfl (by kernel_rfl) (by kernel_rfl) (by kernel_rfl) (fun _ _ _ h => h) (Or.inr ⟨by kernel_rfl, rfl⟩) ?_
      refine wpAnyL_pureD (i := 8) 34 undef rfl rfl (by kernel_rfl) (by kernel_rfl) (by kernel_rfl) (fun _ _ _ h => h) (Or.inr ⟨by kernel_rfl, rfl⟩) ?_
      refine wpAnyL_pureD (i := 9) 35 undef rfl rfl (by kernel_rfl) (by kernel_rfl) (by kernel_rfl) (fun _ _ _ h => h) (Or.inr ⟨by kernel_rfl, rfl⟩) ?_
      refine wpAnyL_pureD (i := 10) 36 undef rfl rfl (by kernel_rfl) (by kernel_rfl) (by kernel_rfl) (fun _ _ _ h => h) (Or.inr ⟨by kernel_rfl, rfl⟩) ?_
      refine wpAnyL_pureD (i := 11) 37 undef rfl rfl (by kernel_rfl) (by kernel_rfl) (by kernel_rfl) (fun _ _ _ h => h) (Or.inr ⟨by kernel_rfl, rfl⟩) ?_
      refine wpAnyL_pureD (i := 12) 38 undef rfl rfl (by kernel_rfl) (by kernel_rfl) (by kernel_rfl) (fun _ _ _ h => h) (Or.inr ⟨by kernel_rfl, rfl⟩) ?_
      refine wpAnyL_pureD (i := 13) 39 undef rfl rfl (by kernel_rfl) (by kernel_rfl) (by kernel_rfl) (fun _ _ _ h => h) (Or.inr ⟨by kernel_rfl, rfl⟩) ?_
      refine wpAnyL_pureD (i := 14) 40 undef rfl rfl (by kernel_rfl) (by kernel_rfl) (by kernel_rfl) (fun _ _ _ h => h) (Or.inr ⟨by kernel_rfl, rfl⟩) ?_
      refine wpAnyL_pureD (i := 15) 41 undef rfl rfl (by kernel_rfl) (by kernel_rfl) (by kernel_rfl) (fun _ _ _ h => h) (Or.inr ⟨by kernel_rfl, rfl⟩) ?_
      refine wpAnyL_pureD (i := 16) 42 (.bool true) rfl rfl (by kernel_rfl) (by kernel_rfl) (by kernel_rfl) (fun _ _ _ h => h) (Or.inl ⟨by kernel_rfl, fun u _ => ?_⟩) ?_
      · simp only [Act.put, List.setIfInBounds_toArray, List.set_cons_zero, List.set_cons_succ]
        go_simp
      refine wpAnyL_done (by kernel_rfl) ?_ _
      simp only [Act.put, List.setIfInBounds_toArray, List.set_cons_zero, List.set_cons_succ]
      have hB2 : Below w.heap.size w w1.drew := hB1.trans (hk2.mono hB1.size)
      clear f0 f1 hk2
      go_wp2
      go_ret
      exact ⟨rfl, hB2⟩

set_option maxHeartbeats 3200000 in
set_option maxRecDepth 100000 in
theorem rin_big (a b : Option Addr) (c1 c2 : Nat) (L G : List ByteArray) (hL : L.length = G.length) (hl : G.length ≤ 4096) (p : Nat) (hp : p < G.length) (d : Int) (hd : 0 ≤ d) (HO : Hid (∀ j, j < p → ∀ w, Calls Tryz.prog 44 #[.string (sat L j)] w (fun e w' => e = .returned (.int .i64 0) ∧ Below w.heap.size w w')))
    (HM : Hid (∀ j, j < p → ∀ w, Calls Tryz.prog 61 #[.string (sat L j)] w (fun e w' => e = .returned (.bool false) ∧ w = w')))
    (c : Nat → Int) (hc : Hid (∀ j, j < p → c j < 0)) (HR : Hid (∀ j, j < p → ∀ w, Calls Tryz.prog 26 #[.string (sat L j), .string (sat G j)] w (fun e w' => e = .returned (.int .i64 (c j)) ∧ Below w.heap.size w w')))
    (HB : Hid (∀ w, Calls Tryz.prog 44 #[.string (sat L p)] w (fun e w' => e = .returned (.int .i64 0) ∧ Below w.heap.size w w')))
    (HB2 : Hid (∀ w, Calls Tryz.prog 61 #[.string (sat L p)] w (fun e w' => e = .returned (.bool false) ∧ w = w')))
    (HB3 : Hid (∀ w, Calls Tryz.prog 26 #[.string (sat L p), .string (sat G p)] w (fun e w' => e = .returned (.int .i64 d) ∧ Below w.heap.size w w'))) (w : World) (h1 : TsAt w a G) (h2 : TsAt w b L) :
    Calls Tryz.prog 80 #[.slice a G.length c1, .slice b L.length c2] w (fun e w' => e = .returned (.int .i64 2) ∧ Below w.heap.size w w') := by
  rw [hL]
  have H1 := Lib.hid h1
  have H2 := Lib.hid h2
  have HL := Lib.hid hL
  have hd1 : decide (0 ≤ d) = true := decide_eq_true hd
  clear hd
  clear h1 h2 hL
  go_enter Tryz.func80, Tryz.ntmps80
  go_wp2
  go_loopw [5] (fun v wr => ∃ i : Nat, i ≤ p ∧ v = .int .i64 i ∧ Below w.heap.size w wr) (fun v _ => p - (intOf v).toNat)
  case atStart => exact ⟨0, Nat.zero_le _, rfl, Below.refl _ _⟩
  case round =>
    obtain ⟨i, hi, rfl, hB⟩ := hrel
    by_cases hlt : i < p
    · have C := Lib.hid (fun w => HO.out i hlt w)
      have M := Lib.hid (fun w => HM.out i hlt w)
      have D := Lib.hid (fun w => HR.out i hlt w)
      obtain ⟨ci, hci⟩ : ∃ ci, ci = c i := ⟨_, rfl⟩
      have hcn := hc.out i hlt
      rw [← hci] at D hcn
      have hcd : decide (0 ≤ ci) = false := decide_eq_false (by omega)
      clear hci hcn
      have hiG : i < G.length := by omega
      obtain ⟨b1, o1, rfl, hb1, hc1⟩ := (H1.out.keep hB) i hiG
      obtain ⟨b2, o2, rfl, hb2, hc2⟩ := (H2.out.keep hB) i (by rw [HL.out]; exact hiG)
      go_wp2_with fail
      refine (C.out _).mono ?_
      rintro e w1 ⟨rfl, hbb⟩
      have hB1 : Below w.heap.size w w1 := hB.trans (hbb.mono hB.size)
      have HS : Hid (∀ x, Below w1.heap.size w1 x → (Below w1.heap.size w1 x ∧ x.cell? ⟨b1, o1 + i, none⟩ = some (.string (sat G i)) ∧ x.cell? ⟨b2, o2 + i, none⟩ = some (.string (sat L i)))) := fun x hx => ⟨hx, ((hbb.trans (hx.mono hbb.size)).cell (p := ⟨b1, o1 + i, none⟩) hb1).trans hc1, ((hbb.trans (hx.mono hbb.size)).cell (p := ⟨b2, o2 + i, none⟩) hb2).trans hc2⟩
      clear hbb hb1 hb2 hc1 hc2
      obtain ⟨_, e0, e1⟩ := HS.out _ (Below.refl _ _)
      go_wp2
      have hk2 : Below w1.heap.size w1 w1.drew := (Below.refl _ _).drew
      clear e0 e1
      obtain ⟨_, f0, f1⟩ := HS.out _ hk2
      go_region_held3 (fun x => Below w1.heap.size w1 x ∧ x.cell? ⟨b1, o1 + i, none⟩ = some (.string (sat G i)) ∧ x.cell? ⟨b2, o2 + i, none⟩ = some (.string (sat L i)))
    (first | exact HS.out _ (by assumption) | exact HS.out _ (Below.drew (by assumption)) | (refine HS.out _ ?_; exact Below.alloc hk2 hk2.size _))
    (first | (go_at_call 61; refine (M.out _).mono ?_; rintro e wy ⟨rfl, rfl⟩) | (go_at_call 26; refine (D.out _).mono ?_; rintro e wz ⟨rfl, hbz⟩; have hk3 := hk2.trans (hbz.mono hk2.size); clear hbz hk2; have hk2 := hk3; clear hk3))
      rename_i hHeldz
      clear hHeldz
      have hB2 : Below w.heap.size w wz := hB1.trans (hk2.mono hB1.size)
      clear f0 f1 hk2
      go_wp2
      go_roundw
      case rel => exact ⟨i + 1, by omega, by go_num, hB2⟩
      case measure => simp [intOf]; omega
    · obtain rfl : i = p := by omega
      have hiG : i < G.length := by omega
      obtain ⟨b1, o1, rfl, hb1, hc1⟩ := (H1.out.keep hB) i hiG
      obtain ⟨b2, o2, rfl, hb2, hc2⟩ := (H2.out.keep hB) i (by rw [HL.out]; exact hiG)
      go_wp2_with fail
      refine (HB.out _).mono ?_
      rintro e w1 ⟨rfl, hbb⟩
      have hB1 : Below w.heap.size w w1 := hB.trans (hbb.mono hB.size)
      have HS : Hid (∀ x, Below w1.heap.size w1 x → (Below w1.heap.size w1 x ∧ x.cell? ⟨b1, o1 + i, none⟩ = some (.string (sat G i)) ∧ x.cell? ⟨b2, o2 + i, none⟩ = some (.string (sat L i)))) := fun x hx => ⟨hx, ((hbb.trans (hx.mono hbb.size)).cell (p := ⟨b1, o1 + i, none⟩) hb1).trans hc1, ((hbb.trans (hx.mono hbb.size)).cell (p := ⟨b2, o2 + i, none⟩) hb2).trans hc2⟩
      clear hbb hb1 hb2 hc1 hc2
      obtain ⟨_, e0, e1⟩ := HS.out _ (Below.refl _ _)
      go_wp2
      have hk2 : Below w1.heap.size w1 w1.drew := (Below.refl _ _).drew
      clear e0 e1
      obtain ⟨_, f0, f1⟩ := HS.out _ hk2
      go_region_held3 (fun x => Below w1.heap.size w1 x ∧ x.cell? ⟨b1, o1 + i, none⟩ = some (.string (sat G i)) ∧ x.cell? ⟨b2, o2 + i, none⟩ = some (.string (sat L i)))
    (first | exact HS.out _ (by assumption) | exact HS.out _ (Below.drew (by assumption)) | (refine HS.out _ ?_; exact Below.alloc hk2 hk2.size _))
    (first | (go_at_call 61; refine (HB2.out _).mono ?_; rintro e wy ⟨rfl, rfl⟩) | (go_at_call 26; refine (HB3.out _).mono ?_; rintro e wz ⟨rfl, hbz⟩; have hk3 := hk2.trans (hbz.mono hk2.size); clear hbz hk2; have hk2 := hk3; clear hk3))
      rename_i hHeldz
      clear hHeldz
      have hB2 : Below w.heap.size w wz := hB1.trans (hk2.mono hB1.size)
      clear f0 f1 hk2
      go_wp2
      go_ret
      exact ⟨rfl, hB2⟩

end Go.Proofs.YtnfmcdfdbipeoaaGreatDoor
