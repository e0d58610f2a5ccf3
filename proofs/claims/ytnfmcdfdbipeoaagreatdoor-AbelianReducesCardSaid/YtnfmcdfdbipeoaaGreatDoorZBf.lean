/- Abelian groups: elements of sums, and diagonals with further ones. -/
import Derived.Test.YtnfmcdfdbipeoaaGreatDoorZBe
namespace Go.Proofs.YtnfmcdfdbipeoaaGreatDoor
open Go.RowKit Go.Proofs.Num

set_option maxHeartbeats 3200000 in
set_option maxRecDepth 100000 in
theorem reduces_no_r (HA : Awake) (a b d : Option Addr) (cap c1 c2 : Nat) (G L M : List ByteArray) (w : World) (HR : Hid (Calls Tryz.prog 43 #[.slice a G.length cap, .slice none 0 0] w (fun e w' => e = .returned (.bool false) ∧ Below w.heap.size w w'))) (hT : Tab w) :
    Calls Tryz.prog 10 #[.slice a G.length cap, .slice b L.length c1, .slice d M.length c2] w (fun e w' => e = .returned (.bool true) ∧ Below w.heap.size w w') := by
  have HT := Lib.hid hT
  have HAW := Lib.hid HA
  clear HA hT
  go_enter Tryz.func10, Tryz.ntmps10
  have hk : Below w.heap.size w w := Below.refl _ _
  go_wp2_with fail
  refine (HR.out).mono ?_
  rintro e w30 ⟨rfl, hc30⟩
  have hk9 := hk.trans (hc30.mono hk.size)
  clear hk hc30
  have hk := hk9
  clear hk9
  go_wp2_with fail
  refine (HAW.out _ (HT.out.keep hk)).mono ?_
  rintro e w29 ⟨rfl, hc29⟩
  have hk9 := hk.trans (hc29.mono hk.size)
  clear hk hc29
  have hk := hk9
  clear hk9
  go_wp2
  go_ret
  exact ⟨rfl, hk⟩

set_option maxHeartbeats 3200000 in
set_option maxRecDepth 100000 in
theorem reduces_no_a (HA : Awake) (a b d : Option Addr) (cap c1 c2 : Nat) (G L M : List ByteArray) (w : World) (HR : Hid (Calls Tryz.prog 43 #[.slice a G.length cap, .slice none 0 0] w (fun e w' => e = .returned (.bool true) ∧ Below w.heap.size w w'))) (hn : L.length ≠ G.length) (hT : Tab w) :
    Calls Tryz.prog 10 #[.slice a G.length cap, .slice b L.length c1, .slice d M.length c2] w (fun e w' => e = .returned (.bool true) ∧ Below w.heap.size w w') := by
  have e0 : (((L.length : Nat) : Int) != ((G.length : Nat) : Int)) = true := by simp; omega
  have e1 : ¬ ((L.length : Nat) : Int) = ((G.length : Nat) : Int) := by omega
  have HT := Lib.hid hT
  have HAW := Lib.hid HA
  clear HA hT hn
  go_enter Tryz.func10, Tryz.ntmps10
  have hk : Below w.heap.size w w := Below.refl _ _
  go_wp2_with fail
  refine (HR.out).mono ?_
  rintro e w30 ⟨rfl, hc30⟩
  have hk9 := hk.trans (hc30.mono hk.size)
  clear hk hc30
  have hk := hk9
  clear hk9
  go_wp2_with fail
  refine (HAW.out _ (HT.out.keep hk)).mono ?_
  rintro e w29 ⟨rfl, hc29⟩
  have hk9 := hk.trans (hc29.mono hk.size)
  clear hk hc29
  have hk := hk9
  clear hk9
  go_wp2
  go_ret
  exact ⟨rfl, hk⟩

set_option maxHeartbeats 3200000 in
set_option maxRecDepth 100000 in
theorem reduces_no_b (HA : Awake) (a b d : Option Addr) (cap c1 c2 : Nat) (G L M : List ByteArray) (w : World) (HR : Hid (Calls Tryz.prog 43 #[.slice a G.length cap, .slice none 0 0] w (fun e w' => e = .returned (.bool true) ∧ Below w.heap.size w w'))) (hn : L.length = G.length) (hm : M.length ≠ G.length) (hT : Tab w) :
    Calls Tryz.prog 10 #[.slice a G.length cap, .slice b L.length c1, .slice d M.length c2] w (fun e w' => e = .returned (.bool true) ∧ Below w.heap.size w w') := by
  have f0 : (((M.length : Nat) : Int) != ((G.length : Nat) : Int)) = true := by simp; omega
  have f1 : ¬ ((M.length : Nat) : Int) = ((G.length : Nat) : Int) := by omega
  rw [hn]
  have HT := Lib.hid hT
  have HAW := Lib.hid HA
  clear HA hT hn hm
  go_enter Tryz.func10, Tryz.ntmps10
  have hk : Below w.heap.size w w := Below.refl _ _
  go_wp2_with fail
  refine (HR.out).mono ?_
  rintro e w30 ⟨rfl, hc30⟩
  have hk9 := hk.trans (hc30.mono hk.size)
  clear hk hc30
  have hk := hk9
  clear hk9
  go_wp2_with fail
  refine (HAW.out _ (HT.out.keep hk)).mono ?_
  rintro e w29 ⟨rfl, hc29⟩
  have hk9 := hk.trans (hc29.mono hk.size)
  clear hk hc29
  have hk := hk9
  clear hk9
  go_wp2
  go_ret
  exact ⟨rfl, hk⟩

set_option maxHeartbeats 3200000 in
set_option maxRecDepth 100000 in
theorem reduces_no_f (HA : Awake) (a b d : Option Addr) (cap c1 c2 : Nat) (G L M : List ByteArray) (w : World) (HR : Hid (Calls Tryz.prog 43 #[.slice a G.length cap, .slice none 0 0] w (fun e w' => e = .returned (.bool true) ∧ Below w.heap.size w w'))) (hn : L.length = G.length) (hm : M.length = G.length) (HL : Hid (∀ W, TsAt W b L → TsAt W d M → Calls Tryz.prog 12 #[.slice (some ⟨W.heap.size, 0, none⟩) 2 2] (W.alloc (.cells #[.slice b L.length c1, .slice d M.length c2] 22)) (fun e w' => e = .returned (.bool false) ∧ W.alloc (.cells #[.slice b L.length c1, .slice d M.length c2] 22) = w'))) (h2 : TsAt w b L) (h3 : TsAt w d M) (hT : Tab w) :
    Calls Tryz.prog 10 #[.slice a G.length cap, .slice b L.length c1, .slice d M.length c2] w (fun e w' => e = .returned (.bool true) ∧ Below w.heap.size w w') := by
  have H2 := Lib.hid h2
  have H3 := Lib.hid h3
  rw [hn, hm] at HL
  rw [hn, hm]
  have HT := Lib.hid hT
  have HAW := Lib.hid HA
  clear HA hT h2 h3
  go_enter Tryz.func10, Tryz.ntmps10
  have hk : Below w.heap.size w w := Below.refl _ _
  go_wp2_with fail
  refine (HR.out).mono ?_
  rintro e w30 ⟨rfl, hc30⟩
  have hk9 := hk.trans (hc30.mono hk.size)
  clear hk hc30
  have hk := hk9
  clear hk9
  go_wp2_with fail
  refine (HL.out _ (H2.out.keep hk) (H3.out.keep hk)).mono ?_
  rintro e w1 ⟨rfl, rfl⟩
  have hk9 := hk.alloc hk.size (.cells #[.slice b G.length c1, .slice d G.length c2] 22)
  clear hk
  have hk := hk9
  clear hk9
  go_wp2_with fail
  refine (HAW.out _ (HT.out.keep hk)).mono ?_
  rintro e w29 ⟨rfl, hc29⟩
  have hk9 := hk.trans (hc29.mono hk.size)
  clear hk hc29
  have hk := hk9
  clear hk9
  go_wp2
  go_ret
  exact ⟨rfl, hk⟩

set_option maxHeartbeats 3200000 in
set_option maxRecDepth 100000 in
theorem reduces_no_ka (HA : Awake) (a b d : Option Addr) (cap c1 c2 : Nat) (G L M : List ByteArray) (w : World) (HR : Hid (Calls Tryz.prog 43 #[.slice a G.length cap, .slice none 0 0] w (fun e w' => e = .returned (.bool true) ∧ Below w.heap.size w w'))) (hn : L.length = G.length) (hm : M.length = G.length) (HL : Hid (∀ W, TsAt W b L → TsAt W d M → Calls Tryz.prog 12 #[.slice (some ⟨W.heap.size, 0, none⟩) 2 2] (W.alloc (.cells #[.slice b L.length c1, .slice d M.length c2] 22)) (fun e w' => e = .returned (.bool true) ∧ W.alloc (.cells #[.slice b L.length c1, .slice d M.length c2] 22) = w'))) (g : Nat → ByteArray) (p : Nat) (hp : p < G.length) (k : Nat) (hk9 : k ≠ 0) (hl : G.length ≤ 4096) (HO : Hid (∀ j, j < p → ∀ w, Calls Tryz.prog 53 #[.string (sat L j), .string (sat M j)] w (fun e w' => e = .returned (.string (g j)) ∧ Below w.heap.size w w'))) (HKA : Hid (∀ j, j < p → ∀ w, Calls Tryz.prog 44 #[.string (sat L j)] w (fun e w' => e = .returned (.int .i64 0) ∧ w = w'))) (HKB : Hid (∀ j, j < p → ∀ w, Calls Tryz.prog 44 #[.string (sat M j)] w (fun e w' => e = .returned (.int .i64 0) ∧ w = w'))) (HBA : Hid (∀ w, Calls Tryz.prog 44 #[.string (sat L p)] w (fun e w' => e = .returned (.int .i64 ((k : Nat) : Int)) ∧ w = w'))) (h2 : TsAt w b L) (h3 : TsAt w d M) (hT : Tab w) :
    Calls Tryz.prog 10 #[.slice a G.length cap, .slice b L.length c1, .slice d M.length c2] w (fun e w' => e = .returned (.bool true) ∧ Below w.heap.size w w') := by
  have hk0 : ¬ ((k : Nat) : Int) = 0 := by omega
  have hk1 : (((k : Nat) : Int) != 0) = true := by simp; omega
  clear hk9
  have H2 := Lib.hid h2
  have H3 := Lib.hid h3
  have HLl := Lib.hid hn
  have HMl := Lib.hid hm
  rw [hn, hm] at HL
  rw [hn, hm]
  obtain ⟨i0, hi, hz0, hz1, hz2⟩ := info_parts info31
  have HT := Lib.hid hT
  have HAW := Lib.hid HA
  clear HA hT h2 h3 hn hm
  go_enter Tryz.func10, Tryz.ntmps10
  have hk : Below w.heap.size w w := Below.refl _ _
  go_wp2_with fail
  refine (HR.out).mono ?_
  rintro e w30 ⟨rfl, hc30⟩
  have hk9 := hk.trans (hc30.mono hk.size)
  clear hk hc30
  have hk := hk9
  clear hk9
  go_wp2_with fail
  refine (HL.out _ (H2.out.keep hk) (H3.out.keep hk)).mono ?_
  rintro e w1 ⟨rfl, rfl⟩
  have hk9 := hk.alloc hk.size (.cells #[.slice b G.length c1, .slice d G.length c2] 22)
  clear hk
  have hk := hk9
  clear hk9
  go_wp2_with fail
  go_wp2
  have HB0 := Lib.hid hk
  clear hk
  go_loopw [7, 46] (fun v l wr => ∃ i : Nat, i ≤ p ∧ l = .int .i64 i ∧ wr.ownsRow w.heap.size 31 1 v (upto g i).length (strs (upto g i)) ∧ Below w.heap.size w wr) (fun _ l _ => p - (intOf l).toNat)
  case atStart => exact ⟨0, Nat.zero_le _, rfl, World.ownsRow_nil _ _ _ _, HB0.out⟩
  case round =>
    clear HB0
    obtain ⟨i, hi', rfl, hown, hB⟩ := hrel
    have HOW := Lib.hid hown
    clear hown
    by_cases hlt : i < p
    · have hiG : i < G.length := by omega
      obtain ⟨d1, o1, rfl, hd1, hc1⟩ := H2.out i (by rw [HLl.out]; exact hiG)
      obtain ⟨d2, o2, rfl, hd2, hc2⟩ := H3.out i (by rw [HMl.out]; exact hiG)
      have C := Lib.hid (fun w => HO.out i hlt w)
      have KA := Lib.hid (fun w => HKA.out i hlt w)
      have KB := Lib.hid (fun w => HKB.out i hlt w)
      have hul : (upto g i).length = i := upto_len g i
      have HS : Hid (∀ x, Below w.heap.size w x → (Below w.heap.size w x ∧ x.cell? ⟨d1, o1 + i, none⟩ = some (.string (sat L i)) ∧ x.cell? ⟨d2, o2 + i, none⟩ = some (.string (sat M i)))) := fun x hx => ⟨hx, (hx.cell (p := ⟨d1, o1 + i, none⟩) hd1).trans hc1, (hx.cell (p := ⟨d2, o2 + i, none⟩) hd2).trans hc2⟩
      clear hd1 hd2 hc1 hc2
      obtain ⟨_, f0, f1⟩ := HS.out _ hB
      go_wp2_with fail
      refine (KA.out _).mono ?_
      rintro e w5 ⟨rfl, rfl⟩
      go_wp2_with fail
      refine (KB.out _).mono ?_
      rintro e w6 ⟨rfl, rfl⟩
      clear f0 f1
      have hbs := hB.size
      go_wp2
      have hk2 : Below wr.heap.size wr wr.drew := (Below.refl _ _).drew
      obtain ⟨_, f0, f1⟩ := HS.out _ (hB.trans (hk2.mono hB.size))
      go_region_held3 (fun x => Below w.heap.size w x ∧ x.cell? ⟨d1, o1 + i, none⟩ = some (.string (sat L i)) ∧ x.cell? ⟨d2, o2 + i, none⟩ = some (.string (sat M i)))
    (first | exact HS.out _ (by assumption) | exact HS.out _ (hB.trans (Below.mono (by assumption) hB.size)) | exact HS.out _ (hB.trans ((hk2.alloc hk2.size _).mono hB.size)))
    (first | (go_at_call 53; refine (C.out _).mono ?_; rintro e wz ⟨rfl, hbz⟩; have hk3 := hk2.trans (hbz.mono hk2.size); clear hbz hk2; have hk2 := hk3; clear hk3) | (rw [if_pos (by rfl)]; refine wp_append_own _ _ _ 22 rfl w.heap.size 31 i0 (.string ⟨#[]⟩) 1 16 Tryz.underlying22 hi hz0 hz1 hz2 rfl (by decide) _ _ _ rfl ((own_keep HOW.out hk2).alloc _) ⟨_, 0, none⟩ 1 1 [.string (g i)] rfl rfl (lit_one _ _) (by simp [Value.oneCell']) (by rw [upto_len]; unfold maxLen; omega) (by rw [upto_len]; omega) (by rw [World.size_alloc]; have := hk2.size; omega) ?_; intro v1 w3 hown1 hgrow1 _; have hk4 := below_push (hB.trans (hk2.mono hB.size)) (fun k hk => (HOW.out.lt k hk).1) hgrow1))
      rename_i hHeldz
      clear hHeldz
      have HOW3 := Lib.hid hown1
      clear hown1 hgrow1 hk2 hul f0 f1
      go_wp2
      go_roundw
      case rel => exact ⟨i + 1, by omega, by go_num, by rw [upto_succ, List.length_append, strs_append]; exact HOW3.out, hk4⟩
      case measure => simp [intOf]; omega
    · obtain rfl : i = p := by omega
      obtain ⟨d1, o1, rfl, hd1, hc1⟩ := (H2.out.keep hB) i (by rw [HLl.out]; exact hp)
      obtain ⟨d2, o2, rfl, hd2, hc2⟩ := (H3.out.keep hB) i (by rw [HMl.out]; exact hp)
      go_wp2_with fail
      refine (HBA.out _).mono ?_
      rintro e w5 ⟨rfl, rfl⟩
      go_wp2_with fail
      clear hc1 hc2 hd1 hd2
      refine (HAW.out _ (HT.out.keep hB)).mono ?_
      rintro e w7 ⟨rfl, hb7⟩
      go_wp2
      go_ret
      exact ⟨rfl, hB.trans (hb7.mono hB.size)⟩

set_option maxHeartbeats 3200000 in
set_option maxRecDepth 100000 in
theorem reduces_no_kb (HA : Awake) (a b d : Option Addr) (cap c1 c2 : Nat) (G L M : List ByteArray) (w : World) (HR : Hid (Calls Tryz.prog 43 #[.slice a G.length cap, .slice none 0 0] w (fun e w' => e = .returned (.bool true) ∧ Below w.heap.size w w'))) (hn : L.length = G.length) (hm : M.length = G.length) (HL : Hid (∀ W, TsAt W b L → TsAt W d M → Calls Tryz.prog 12 #[.slice (some ⟨W.heap.size, 0, none⟩) 2 2] (W.alloc (.cells #[.slice b L.length c1, .slice d M.length c2] 22)) (fun e w' => e = .returned (.bool true) ∧ W.alloc (.cells #[.slice b L.length c1, .slice d M.length c2] 22) = w'))) (g : Nat → ByteArray) (p : Nat) (hp : p < G.length) (k : Nat) (hk9 : k ≠ 0) (hl : G.length ≤ 4096) (HO : Hid (∀ j, j < p → ∀ w, Calls Tryz.prog 53 #[.string (sat L j), .string (sat M j)] w (fun e w' => e = .returned (.string (g j)) ∧ Below w.heap.size w w'))) (HKA : Hid (∀ j, j < p → ∀ w, Calls Tryz.prog 44 #[.string (sat L j)] w (fun e w' => e = .returned (.int .i64 0) ∧ w = w'))) (HKB : Hid (∀ j, j < p → ∀ w, Calls Tryz.prog 44 #[.string (sat M j)] w (fun e w' => e = .returned (.int .i64 0) ∧ w = w'))) (HBA : Hid (∀ w, Calls Tryz.prog 44 #[.string (sat L p)] w (fun e w' => e = .returned (.int .i64 0) ∧ w = w'))) (HBB : Hid (∀ w, Calls Tryz.prog 44 #[.string (sat M p)] w (fun e w' => e = .returned (.int .i64 ((k : Nat) : Int)) ∧ w = w'))) (h2 : TsAt w b L) (h3 : TsAt w d M) (hT : Tab w) :
    Calls Tryz.prog 10 #[.slice a G.length cap, .slice b L.length c1, .slice d M.length c2] w (fun e w' => e = .returned (.bool true) ∧ Below w.heap.size w w') := by
  have hk0 : ¬ ((k : Nat) : Int) = 0 := by omega
  have hk1 : (((k : Nat) : Int) != 0) = true := by simp; omega
  clear hk9
  have H2 := Lib.hid h2
  have H3 := Lib.hid h3
  have HLl := Lib.hid hn
  have HMl := Lib.hid hm
  rw [hn, hm] at HL
  rw [hn, hm]
  obtain ⟨i0, hi, hz0, hz1, hz2⟩ := info_parts info31
  have HT := Lib.hid hT
  have HAW := Lib.hid HA
  clear HA hT h2 h3 hn hm
  go_enter Tryz.func10, Tryz.ntmps10
  have hk : Below w.heap.size w w := Below.refl _ _
  go_wp2_with fail
  refine (HR.out).mono ?_
  rintro e w30 ⟨rfl, hc30⟩
  have hk9 := hk.trans (hc30.mono hk.size)
  clear hk hc30
  have hk := hk9
  clear hk9
  go_wp2_with fail
  refine (HL.out _ (H2.out.keep hk) (H3.out.keep hk)).mono ?_
  rintro e w1 ⟨rfl, rfl⟩
  have hk9 := hk.alloc hk.size (.cells #[.slice b G.length c1, .slice d G.length c2] 22)
  clear hk
  have hk := hk9
  clear hk9
  go_wp2_with fail
  go_wp2
  have HB0 := Lib.hid hk
  clear hk
  go_loopw [7, 46] (fun v l wr => ∃ i : Nat, i ≤ p ∧ l = .int .i64 i ∧ wr.ownsRow w.heap.size 31 1 v (upto g i).length (strs (upto g i)) ∧ Below w.heap.size w wr) (fun _ l _ => p - (intOf l).toNat)
  case atStart => exact ⟨0, Nat.zero_le _, rfl, World.ownsRow_nil _ _ _ _, HB0.out⟩
  case round =>
    clear HB0
    obtain ⟨i, hi', rfl, hown, hB⟩ := hrel
    have HOW := Lib.hid hown
    clear hown
    by_cases hlt : i < p
    · have hiG : i < G.length := by omega
      obtain ⟨d1, o1, rfl, hd1, hc1⟩ := H2.out i (by rw [HLl.out]; exact hiG)
      obtain ⟨d2, o2, rfl, hd2, hc2⟩ := H3.out i (by rw [HMl.out]; exact hiG)
      have C := Lib.hid (fun w => HO.out i hlt w)
      have KA := Lib.hid (fun w => HKA.out i hlt w)
      have KB := Lib.hid (fun w => HKB.out i hlt w)
      have hul : (upto g i).length = i := upto_len g i
      have HS : Hid (∀ x, Below w.heap.size w x → (Below w.heap.size w x ∧ x.cell? ⟨d1, o1 + i, none⟩ = some (.string (sat L i)) ∧ x.cell? ⟨d2, o2 + i, none⟩ = some (.string (sat M i)))) := fun x hx => ⟨hx, (hx.cell (p := ⟨d1, o1 + i, none⟩) hd1).trans hc1, (hx.cell (p := ⟨d2, o2 + i, none⟩) hd2).trans hc2⟩
      clear hd1 hd2 hc1 hc2
      obtain ⟨_, f0, f1⟩ := HS.out _ hB
      go_wp2_with fail
      refine (KA.out _).mono ?_
      rintro e w5 ⟨rfl, rfl⟩
      go_wp2_with fail
      refine (KB.out _).mono ?_
      rintro e w6 ⟨rfl, rfl⟩
      clear f0 f1
      have hbs := hB.size
      go_wp2
      have hk2 : Below wr.heap.size wr wr.drew := (Below.refl _ _).drew
      obtain ⟨_, f0, f1⟩ := HS.out _ (hB.trans (hk2.mono hB.size))
      go_region_held3 (fun x => Below w.heap.size w x ∧ x.cell? ⟨d1, o1 + i, none⟩ = some (.string (sat L i)) ∧ x.cell? ⟨d2, o2 + i, none⟩ = some (.string (sat M i)))
    (first | exact HS.out _ (by assumption) | exact HS.out _ (hB.trans (Below.mono (by assumption) hB.size)) | exact HS.out _ (hB.trans ((hk2.alloc hk2.size _).mono hB.size)))
    (first | (go_at_call 53; refine (C.out _).mono ?_; rintro e wz ⟨rfl, hbz⟩; have hk3 := hk2.trans (hbz.mono hk2.size); clear hbz hk2; have hk2 := hk3; clear hk3) | (rw [if_pos (by rfl)]; refine wp_append_own _ _ _ 22 rfl w.heap.size 31 i0 (.string ⟨#[]⟩) 1 16 Tryz.underlying22 hi hz0 hz1 hz2 rfl (by decide) _ _ _ rfl ((own_keep HOW.out hk2).alloc _) ⟨_, 0, none⟩ 1 1 [.string (g i)] rfl rfl (lit_one _ _) (by simp [Value.oneCell']) (by rw [upto_len]; unfold maxLen; omega) (by rw [upto_len]; omega) (by rw [World.size_alloc]; have := hk2.size; omega) ?_; intro v1 w3 hown1 hgrow1 _; have hk4 := below_push (hB.trans (hk2.mono hB.size)) (fun k hk => (HOW.out.lt k hk).1) hgrow1))
      rename_i hHeldz
      clear hHeldz
      have HOW3 := Lib.hid hown1
      clear hown1 hgrow1 hk2 hul f0 f1
      go_wp2
      go_roundw
      case rel => exact ⟨i + 1, by omega, by go_num, by rw [upto_succ, List.length_append, strs_append]; exact HOW3.out, hk4⟩
      case measure => simp [intOf]; omega
    · obtain rfl : i = p := by omega
      obtain ⟨d1, o1, rfl, hd1, hc1⟩ := (H2.out.keep hB) i (by rw [HLl.out]; exact hp)
      obtain ⟨d2, o2, rfl, hd2, hc2⟩ := (H3.out.keep hB) i (by rw [HMl.out]; exact hp)
      go_wp2_with fail
      refine (HBA.out _).mono ?_
      rintro e w5 ⟨rfl, rfl⟩
      go_wp2_with fail
      refine (HBB.out _).mono ?_
      rintro e w6 ⟨rfl, rfl⟩
      go_wp2_with fail
      clear hc1 hc2 hd1 hd2
      refine (HAW.out _ (HT.out.keep hB)).mono ?_
      rintro e w7 ⟨rfl, hb7⟩
      go_wp2
      go_ret
      exact ⟨rfl, hB.trans (hb7.mono hB.size)⟩

set_option maxHeartbeats 12800000 in
set_option maxRecDepth 100000 in
theorem reduces_yes (HA : Awake) (a b d : Option Addr) (cap c1 c2 : Nat) (G L M : List ByteArray) (w : World) (HR : Hid (Calls Tryz.prog 43 #[.slice a G.length cap, .slice none 0 0] w (fun e w' => e = .returned (.bool true) ∧ Below w.heap.size w w'))) (hn : L.length = G.length) (hm : M.length = G.length) (HL : Hid (∀ W, TsAt W b L → TsAt W d M → Calls Tryz.prog 12 #[.slice (some ⟨W.heap.size, 0, none⟩) 2 2] (W.alloc (.cells #[.slice b L.length c1, .slice d M.length c2] 22)) (fun e w' => e = .returned (.bool true) ∧ W.alloc (.cells #[.slice b L.length c1, .slice d M.length c2] 22) = w'))) (g : Nat → ByteArray) (hl : G.length ≤ 4096) (HO : Hid (∀ j, j < G.length → ∀ w, Calls Tryz.prog 53 #[.string (sat L j), .string (sat M j)] w (fun e w' => e = .returned (.string (g j)) ∧ Below w.heap.size w w'))) (HKA : Hid (∀ j, j < G.length → ∀ w, Calls Tryz.prog 44 #[.string (sat L j)] w (fun e w' => e = .returned (.int .i64 0) ∧ w = w'))) (HKB : Hid (∀ j, j < G.length → ∀ w, Calls Tryz.prog 44 #[.string (sat M j)] w (fun e w' => e = .returned (.int .i64 0) ∧ w = w'))) (X Y Z : List ByteArray)
    (Q1 : Hid (∀ (w : World) (b : Option Addr) (c1 : Nat), TsAt w a G → TsAt w b L → Tab w → Calls Tryz.prog 20 #[.slice a G.length cap, .slice b G.length c1] w (GivesTs w X 0)))
    (Q2 : Hid (∀ (w : World) (b : Option Addr) (c1 : Nat), TsAt w a G → TsAt w b M → Tab w → Calls Tryz.prog 20 #[.slice a G.length cap, .slice b G.length c1] w (GivesTs w Y 0)))
    (Q3 : Hid (∀ (w : World) (b : Option Addr) (c1 : Nat), TsAt w a G → TsAt w b (upto g G.length) → Tab w → Calls Tryz.prog 20 #[.slice a G.length cap, .slice b (upto g G.length).length c1] w (GivesTs w Z 0)))
    (Q4 : Hid (∀ (w : World) (b d : Option Addr) (c1 c2 : Nat), TsAt w a G → TsAt w b X → TsAt w d Y → Tab w → Calls Tryz.prog 32 #[.slice a G.length cap, .slice b X.length c1, .slice d Y.length c2] w (GivesTs w Z 0)))
    (Q5 : Hid (∀ (w : World) (b : Option Addr) (c1 : Nat), TsAt w b (onesG G) → Tab w → Calls Tryz.prog 14 #[.slice b (onesG G).length c1] w (GivesTs w G 0)))
    (E1 : Hid (∀ (a b : Option Addr) (c1 c2 : Nat) (w : World), TsAt w a Z → TsAt w b Z → Calls Tryz.prog 45 #[.slice a Z.length c1, .slice b Z.length c2] w (fun e w' => e = .returned (.bool true) ∧ Below w.heap.size w w')))
    (E2 : Hid (∀ (a b : Option Addr) (c1 c2 : Nat) (w : World), TsAt w a G → TsAt w b G → Calls Tryz.prog 45 #[.slice a G.length c1, .slice b G.length c2] w (fun e w' => e = .returned (.bool true) ∧ Below w.heap.size w w'))) (h : TsAt w a G) (h2 : TsAt w b L) (h3 : TsAt w d M) (hT : Tab w) :
    Calls Tryz.prog 10 #[.slice a G.length cap, .slice b L.length c1, .slice d M.length c2] w (fun e w' => e = .returned (.bool true) ∧ Below w.heap.size w w') := by
  have H1 := Lib.hid h
  have H2 := Lib.hid h2
  have H3 := Lib.hid h3
  have HLl := Lib.hid hn
  have HMl := Lib.hid hm
  rw [hn, hm] at HL
  rw [hn, hm]
  obtain ⟨i0, hi, hz0, hz1, hz2⟩ := info_parts info31
  have HT := Lib.hid hT
  have HAW := Lib.hid HA
  clear HA hT h h2 h3 hn hm
  go_enter Tryz.func10, Tryz.ntmps10
  have hk : Below w.heap.size w w := Below.refl _ _
  go_wp2_with fail
  refine (HR.out).mono ?_
  rintro e w30 ⟨rfl, hc30⟩
  have hk9 := hk.trans (hc30.mono hk.size)
  clear hk hc30
  have hk := hk9
  clear hk9
  go_wp2_with fail
  refine (HL.out _ (H2.out.keep hk) (H3.out.keep hk)).mono ?_
  rintro e w1 ⟨rfl, rfl⟩
  have hk9 := hk.alloc hk.size (.cells #[.slice b G.length c1, .slice d G.length c2] 22)
  clear hk
  have hk := hk9
  clear hk9
  go_wp2_with fail
  go_wp2
  have HB0 := Lib.hid hk
  clear hk
  go_loopw [7, 46] (fun v l wr => ∃ i : Nat, i ≤ G.length ∧ l = .int .i64 i ∧ wr.ownsRow w.heap.size 31 1 v (upto g i).length (strs (upto g i)) ∧ Below w.heap.size w wr) (fun _ l _ => G.length - (intOf l).toNat)
  case atStart => exact ⟨0, Nat.zero_le _, rfl, World.ownsRow_nil _ _ _ _, HB0.out⟩
  case round =>
    clear HB0
    obtain ⟨i, hi', rfl, hown, hB⟩ := hrel
    have HOW := Lib.hid hown
    clear hown
    by_cases hlt : i < G.length
    · have hiG : i < G.length := by omega
      obtain ⟨d1, o1, rfl, hd1, hc1⟩ := H2.out i (by rw [HLl.out]; exact hiG)
      obtain ⟨d2, o2, rfl, hd2, hc2⟩ := H3.out i (by rw [HMl.out]; exact hiG)
      have C := Lib.hid (fun w => HO.out i hlt w)
      have KA := Lib.hid (fun w => HKA.out i hlt w)
      have KB := Lib.hid (fun w => HKB.out i hlt w)
      have hul : (upto g i).length = i := upto_len g i
      have HS : Hid (∀ x, Below w.heap.size w x → (Below w.heap.size w x ∧ x.cell? ⟨d1, o1 + i, none⟩ = some (.string (sat L i)) ∧ x.cell? ⟨d2, o2 + i, none⟩ = some (.string (sat M i)))) := fun x hx => ⟨hx, (hx.cell (p := ⟨d1, o1 + i, none⟩) hd1).trans hc1, (hx.cell (p := ⟨d2, o2 + i, none⟩) hd2).trans hc2⟩
      clear hd1 hd2 hc1 hc2
      obtain ⟨_, f0, f1⟩ := HS.out _ hB
      go_wp2_with fail
      refine (KA.out _).mono ?_
      rintro e w5 ⟨rfl, rfl⟩
      go_wp2_with fail
      refine (KB.out _).mono ?_
      rintro e w6 ⟨rfl, rfl⟩
      clear f0 f1
      have hbs := hB.size
      go_wp2
      have hk2 : Below wr.heap.size wr wr.drew := (Below.refl _ _).drew
      obtain ⟨_, f0, f1⟩ := HS.out _ (hB.trans (hk2.mono hB.size))
      go_region_held3 (fun x => Below w.heap.size w x ∧ x.cell? ⟨d1, o1 + i, none⟩ = some (.string (sat L i)) ∧ x.cell? ⟨d2, o2 + i, none⟩ = some (.string (sat M i)))
    (first | exact HS.out _ (by assumption) | exact HS.out _ (hB.trans (Below.mono (by assumption) hB.size)) | exact HS.out _ (hB.trans ((hk2.alloc hk2.size _).mono hB.size)))
    (first | (go_at_call 53; refine (C.out _).mono ?_; rintro e wz ⟨rfl, hbz⟩; have hk3 := hk2.trans (hbz.mono hk2.size); clear hbz hk2; have hk2 := hk3; clear hk3) | (rw [if_pos (by rfl)]; refine wp_append_own _ _ _ 22 rfl w.heap.size 31 i0 (.string ⟨#[]⟩) 1 16 Tryz.underlying22 hi hz0 hz1 hz2 rfl (by decide) _ _ _ rfl ((own_keep HOW.out hk2).alloc _) ⟨_, 0, none⟩ 1 1 [.string (g i)] rfl rfl (lit_one _ _) (by simp [Value.oneCell']) (by rw [upto_len]; unfold maxLen; omega) (by rw [upto_len]; omega) (by rw [World.size_alloc]; have := hk2.size; omega) ?_; intro v1 w3 hown1 hgrow1 _; have hk4 := below_push (hB.trans (hk2.mono hB.size)) (fun k hk => (HOW.out.lt k hk).1) hgrow1))
      rename_i hHeldz
      clear hHeldz
      have HOW3 := Lib.hid hown1
      clear hown1 hgrow1 hk2 hul f0 f1
      go_wp2
      go_roundw
      case rel => exact ⟨i + 1, by omega, by go_num, by rw [upto_succ, List.length_append, strs_append]; exact HOW3.out, hk4⟩
      case measure => simp [intOf]; omega
    · obtain rfl : i = G.length := by omega
      obtain ⟨ax, cx, e1, e2⟩ := TsAt.of_own HOW.out
      subst e1
      have HZ0 := Lib.hid e2
      have hk := hB
      clear e2 hB HOW
      go_wp2_with fail
      refine (Q1.out _ _ _ (H1.out.keep hk) (H2.out.keep hk) (HT.out.keep hk)).mono ?_
      rintro e w1 ⟨a1, q1, rfl, hz1, hc1⟩
      have hk9 := hk.trans (hc1.mono hk.size)
      have HZ0_ := Lib.hid (HZ0.out.keep hc1)
      clear HZ0
      have HZ0 := HZ0_
      clear HZ0_
      clear hk hc1
      have hk := hk9
      clear hk9
      have HZ1 := Lib.hid hz1
      clear hz1
      go_wp2_with fail
      refine (Q2.out _ _ _ (H1.out.keep hk) (H3.out.keep hk) (HT.out.keep hk)).mono ?_
      rintro e w2 ⟨a2, q2, rfl, hz2, hc2⟩
      have hk9 := hk.trans (hc2.mono hk.size)
      have HZ0_ := Lib.hid (HZ0.out.keep hc2)
      clear HZ0
      have HZ0 := HZ0_
      clear HZ0_
      have HZ1_ := Lib.hid (HZ1.out.keep hc2)
      clear HZ1
      have HZ1 := HZ1_
      clear HZ1_
      clear hk hc2
      have hk := hk9
      clear hk9
      have HZ2 := Lib.hid hz2
      clear hz2
      go_wp2_with fail
      refine (Q3.out _ _ _ (H1.out.keep hk) HZ0.out (HT.out.keep hk)).mono ?_
      rintro e w3 ⟨a3, q3, rfl, hz3, hc3⟩
      have hk9 := hk.trans (hc3.mono hk.size)
      have HZ1_ := Lib.hid (HZ1.out.keep hc3)
      clear HZ1
      have HZ1 := HZ1_
      clear HZ1_
      have HZ2_ := Lib.hid (HZ2.out.keep hc3)
      clear HZ2
      have HZ2 := HZ2_
      clear HZ2_
      clear hk hc3
      have hk := hk9
      clear hk9
      have HZ3 := Lib.hid hz3
      clear hz3
      go_wp2_with fail
      refine (Q4.out _ _ _ _ _ (H1.out.keep hk) HZ1.out HZ2.out (HT.out.keep hk)).mono ?_
      rintro e w4 ⟨a4, q4, rfl, hz4, hc4⟩
      have hk9 := hk.trans (hc4.mono hk.size)
      have HZ3_ := Lib.hid (HZ3.out.keep hc4)
      clear HZ3
      have HZ3 := HZ3_
      clear HZ3_
      clear hk hc4
      have hk := hk9
      clear hk9
      have HZ4 := Lib.hid hz4
      clear hz4

      have hlit : (w4.alloc (.cells #[.string ⟨#[49]⟩, .string ⟨#[49]⟩] 31)).ownsRow w.heap.size 31 1 (.slice (some ⟨w4.heap.size, 0, none⟩) 2 2) 2 (strs [one1, one1]) := World.ownsRow_lit (base := w.heap.size) (e := 31) (size := 1) w4 #[.string ⟨#[49]⟩, .string ⟨#[49]⟩] 2 hk.size (by unfold maxLen; omega) rfl
      have HLIT := Lib.hid hlit
      have h4a : Below w4.heap.size w4 (w4.alloc (.cells #[.string ⟨#[49]⟩, .string ⟨#[49]⟩] 31)) := (Below.refl _ _).alloc (Nat.le_refl _) _
      have hka : Below w.heap.size w (w4.alloc (.cells #[.string ⟨#[49]⟩, .string ⟨#[49]⟩] 31)) := hk.trans (h4a.mono hk.size)
      have HG4 := Lib.hid (H1.out.keep hka)
      have HZ3a := Lib.hid (HZ3.out.keep h4a)
      have HZ4a := Lib.hid (HZ4.out.keep h4a)
      have hks := hka.size
      have HK4 := Lib.hid hk
      have HZ3b := Lib.hid HZ3.out
      have HZ4b := Lib.hid HZ4.out
      clear hlit HZ3 HZ4 hk
      go_wp2_with (at_builtin; refine wpList_append_ts rfl _ _ 22 rfl w.heap.size 31 i0 (.string ⟨#[]⟩) 16 Tryz.underlying22 hi hz0 hz1 hz2 rfl _ _ _ rfl HLIT.out a cap G rfl HG4.out (by unfold maxLen; omega) (by omega) hks ?_; intro v5 w5 hown5 hgrow5)
      have hl5 : (onesG G).length = 2 + G.length := by unfold onesG; simp; omega
      have hown6 : w5.ownsRow w.heap.size 31 1 v5 (onesG G).length (strs (onesG G)) := by rw [hl5]; unfold onesG; rw [strs_append]; exact hown5
      have hgrow6 : (w4.alloc (.cells #[.string ⟨#[49]⟩, .string ⟨#[49]⟩] 31)).grownBy w5 (some w4.heap.size) := hgrow5
      have h45 : Below w4.heap.size w4 w5 := h4a.grown hgrow6 (by rw [World.size_alloc]; omega) (fun k hk => by cases hk; omega)
      obtain ⟨a5, q5, e5, hz5⟩ := TsAt.of_own hown6
      subst e5
      have HZ5 := Lib.hid hz5
      have HZ3 := Lib.hid (HZ3b.out.keep h45)
      have HZ4 := Lib.hid (HZ4b.out.keep h45)
      have hk := HK4.out.trans (h45.mono HK4.out.size)
      clear hz5 hown5 hown6 hgrow5 hgrow6 h45 hl5 HZ3a HZ4a h4a hka hks HLIT HZ3b HZ4b HK4
      refine (Q5.out _ _ _ HZ5.out (HT.out.keep hk)).mono ?_
      rintro e w6 ⟨a6, q6, rfl, hz6, hc6⟩
      have hk9 := hk.trans (hc6.mono hk.size)
      have HZ3_ := Lib.hid (HZ3.out.keep hc6)
      clear HZ3
      have HZ3 := HZ3_
      clear HZ3_
      have HZ4_ := Lib.hid (HZ4.out.keep hc6)
      clear HZ4
      have HZ4 := HZ4_
      clear HZ4_
      clear hk hc6
      have hk := hk9
      clear hk9
      have HZ6 := Lib.hid hz6
      clear hz6
      go_wp2_with fail
      refine (E1.out _ _ _ _ _ HZ3.out HZ4.out).mono ?_
      rintro e w7 ⟨rfl, hc7⟩
      have hk9 := hk.trans (hc7.mono hk.size)
      have HZ6_ := Lib.hid (HZ6.out.keep hc7)
      clear HZ6
      have HZ6 := HZ6_
      clear HZ6_
      clear hk hc7
      have hk := hk9
      clear hk9
      go_wp2_with fail
      refine (E2.out _ _ _ _ _ HZ6.out (H1.out.keep hk)).mono ?_
      rintro e w8 ⟨rfl, hc8⟩
      have hk9 := hk.trans (hc8.mono hk.size)
      clear hk hc8
      have hk := hk9
      clear hk9
      go_wp2_with fail
      refine (HAW.out _ (HT.out.keep hk)).mono ?_
      rintro e w29 ⟨rfl, hc29⟩
      have hk9 := hk.trans (hc29.mono hk.size)
      clear hk hc29
      have hk := hk9
      clear hk9
      go_wp2
      go_ret
      exact ⟨rfl, hk⟩

/-- The law, for all groups and lists. -/
theorem reduces_any (HA : Awake) (a b d : Option Addr) (cap c1 c2 : Nat) (G L M : List ByteArray) (hG : G.length ≤ 9223372036854775807) (hL : L.length ≤ 9223372036854775807) (hM : M.length ≤ 9223372036854775807) (hsz : ∀ j, j < G.length → (sat G j).size ≤ 9223372036854775807) (hsz2 : ∀ j, j < L.length → (sat L j).size ≤ 9223372036854775807) (hsz3 : ∀ j, j < M.length → (sat M j).size ≤ 9223372036854775807) (w : World) (h : TsAt w a G) (h2 : TsAt w b L) (h3 : TsAt w d M) (hT : Tab w) :
    Calls Tryz.prog 10 #[.slice a G.length cap, .slice b L.length c1, .slice d M.length c2] w (fun e w' => e = .returned (.bool true) ∧ Below w.heap.size w w') := by
  obtain ⟨Q, hQ⟩ : ∃ Q : Bool, Q = decide (fewG G = true ∧ gck fck G = 0) := ⟨_, rfl⟩
  have HR : Calls Tryz.prog 43 #[.slice a G.length cap, .slice none 0 0] w (fun e w' => e = .returned (.bool Q) ∧ Below w.heap.size w w') := right_any a none cap 0 0 (by omega) G (fun _ => []) (fun _ => none) (fun _ => 0) hG hsz (fun i hi => by omega) w h (fun j hj => by omega) (fun i hi => by omega) Q (by
    rw [hQ, decide_eq_true_iff]
    exact ⟨fun k => ⟨k.1, k.2, fun i hi => by omega⟩, fun k => ⟨k.1, k.2.1⟩⟩)
  by_cases hq : Q = true
  · rw [hq] at HR
    rw [hq] at hQ
    obtain ⟨hf, h0⟩ := of_decide_eq_true hQ.symm
    by_cases hn : L.length = G.length
    · by_cases hm : M.length = G.length
      · have HL := fun W h1 h2 => few_two b d c1 c2 L M hL hM hsz2 hsz3 W h1 h2
        by_cases hq2 : (fewL L && fewL M) = true
        · rw [hq2] at HL
          have hl := (short_right h0 hf).1
          have hC : ∀ (X : List ByteArray), (∀ j, j < X.length → (sat X j).size ≤ 9223372036854775807) → ∀ j, j < X.length → ∀ w, Calls Tryz.prog 44 #[.string (sat X j)] w (fun e w' => e = .returned (.int .i64 ((ck (sat X j) : Nat) : Int)) ∧ w = w') := fun X hX j hj w => rcheck_any (sat X j) w (hX j hj)
          have hC0 : ∀ (X : List ByteArray), (∀ j, j < X.length → (sat X j).size ≤ 9223372036854775807) → ∀ j, j < X.length → ck (sat X j) = 0 → ∀ w, Calls Tryz.prog 44 #[.string (sat X j)] w (fun e w' => e = .returned (.int .i64 0) ∧ w = w') := fun X hX j hj h w => by
            have := hC X hX j hj w
            rw [h] at this
            exact this
          have hP : ∀ j, ck (sat L j) = 0 → ck (sat M j) = 0 → ∀ w, Calls Tryz.prog 53 #[.string (sat L j), .string (sat M j)] w (fun e w' => e = .returned (.string (T (pz (sat L j) + pz (sat M j)))) ∧ Below w.heap.size w w') := fun j k1 k2 w => by
            obtain ⟨D, hD⟩ : ∃ D : Nat, D = 1024 := ⟨_, rfl⟩
            have := rplus_any (pz (sat L j)) (pz (sat M j)) (right_few k1 D hD) (right_few k2 D hD) (by omega) (by omega) w
            rw [← right_T k1, ← right_T k2] at this
            exact this
          rcases firstBadN (fun j => ck (sat L j) = 0 ∧ ck (sat M j) = 0) G.length with h1 | ⟨p, hp, h1, hbad⟩
          · obtain ⟨q1, q2⟩ := Bool.and_eq_true_iff.1 hq2
            have fL := few_short q1
            have fM := few_short q2
            have hcS : ∀ j, j < G.length → Few 61 (pz (sat L j) + pz (sat M j)) := fun j hj => Few.add (fL j (by omega) (h1 j hj).1) (fM j (by omega) (h1 j hj).2)
            have e1 := fun j (hj : j < G.length) => sat_upto (fun j => T (pz (sat L j) + pz (sat M j))) G.length j hj
            refine reduces_yes HA a b d cap c1 c2 G L M w (Lib.hid HR) hn hm (Lib.hid HL) (fun j => T (pz (sat L j) + pz (sat M j))) (by omega) (Lib.hid fun j hj w => hP j (h1 j hj).1 (h1 j hj).2 w) (Lib.hid fun j hj w => hC0 L hsz2 j (by omega) (h1 j hj).1 w) (Lib.hid fun j hj w => hC0 M hsz3 j (by omega) (h1 j hj).2 w)
              (EL G (fun j => pz (sat L j) % pz (sat G j))) (EL G (fun j => pz (sat M j) % pz (sat G j))) (EL G (fun j => (pz (sat L j) + pz (sat M j)) % pz (sat G j)))
              (Lib.hid fun w b c1 h h2 hT => ?_) (Lib.hid fun w b c1 h h2 hT => ?_) (Lib.hid fun w b c1 h h2 hT => ?_) (Lib.hid fun w b d c1 c2 h h2 h3 hT => ?_) (Lib.hid fun w b c1 h2 hT => ?_)
              (Lib.hid fun a b c1 c2 w h1 h2 => equal_true a b c1 c2 _ (by rw [EL_len]; omega) w h1 h2) (Lib.hid fun a b c1 c2 w h1 h2 => equal_true a b c1 c2 G (by omega) w h1 h2) h h2 h3 hT
            · have := elem_EL a b cap c1 L G h0 hsz hsz2 hn (fun j hj => (h1 j hj).1) w h h2 hT
              rw [hn] at this
              exact this
            · have := elem_EL a b cap c1 M G h0 hsz hsz3 hm (fun j hj => (h1 j hj).2) w h h2 hT
              rw [hm] at this
              exact this
            · have := elem_EL a b cap c1 (upto (fun j => T (pz (sat L j) + pz (sat M j))) G.length) G h0 hsz (fun j hj => by rw [upto_len] at hj; rw [e1 j hj]; exact (hcS j hj).size (by omega) (by omega)) (upto_len _ _) (fun j hj => by rw [e1 j hj]; exact ck_T (hcS j hj) (by omega) (by omega)) w h h2 hT
              have e9 : EL G (fun j => pz (sat (upto (fun j => T (pz (sat L j) + pz (sat M j))) G.length) j) % pz (sat G j)) = EL G (fun j => (pz (sat L j) + pz (sat M j)) % pz (sat G j)) := EL_congr fun j hj => by rw [e1 j hj, pz_T]
              rw [e9] at this
              exact this
            · have := add_EL a b d cap c1 c2 G _ _ h0 hf hsz (InR.mod G h0 (fun j => pz (sat L j))) (InR.mod G h0 (fun j => pz (sat M j))) w h h2 h3 hT
              have e9 : EL G (fun j => (pz (sat L j) % pz (sat G j) + pz (sat M j) % pz (sat G j)) % pz (sat G j)) = EL G (fun j => (pz (sat L j) + pz (sat M j)) % pz (sat G j)) := EL_congr fun j hj => by rw [Int.emod_add_emod, Int.add_emod_emod]
              rw [e9] at this
              exact this
            · have := of_any b c1 (onesG G) (fun _ j hj => ?_) w h2 hT
              · rw [ofL_onesG h0 (by omega), gck_onesG h0 (by omega)] at this
                exact this
              · have hl6 : (onesG G).length = G.length + 2 := by unfold onesG; simp
                rcases j with _ | _ | j
                · show one1.size ≤ _
                  decide
                · show one1.size ≤ _
                  decide
                · rw [sat_onesG]
                  exact hsz j (by omega)
          · by_cases k1 : ck (sat L p) = 0
            · have k2 : ck (sat M p) ≠ 0 := fun k2 => hbad ⟨k1, k2⟩
              exact reduces_no_kb HA a b d cap c1 c2 G L M w (Lib.hid HR) hn hm (Lib.hid HL) (fun j => T (pz (sat L j) + pz (sat M j))) p hp _ k2 (by omega) (Lib.hid fun j hj w => hP j (h1 j hj).1 (h1 j hj).2 w) (Lib.hid fun j hj w => hC0 L hsz2 j (by omega) (h1 j hj).1 w) (Lib.hid fun j hj w => hC0 M hsz3 j (by omega) (h1 j hj).2 w) (Lib.hid fun w => hC0 L hsz2 p (by omega) k1 w) (Lib.hid fun w => hC M hsz3 p (by omega) w) h2 h3 hT
            · exact reduces_no_ka HA a b d cap c1 c2 G L M w (Lib.hid HR) hn hm (Lib.hid HL) (fun j => T (pz (sat L j) + pz (sat M j))) p hp _ k1 (by omega) (Lib.hid fun j hj w => hP j (h1 j hj).1 (h1 j hj).2 w) (Lib.hid fun j hj w => hC0 L hsz2 j (by omega) (h1 j hj).1 w) (Lib.hid fun j hj w => hC0 M hsz3 j (by omega) (h1 j hj).2 w) (Lib.hid fun w => hC L hsz2 p (by omega) w) h2 h3 hT
        · rw [show (fewL L && fewL M) = false by simpa using hq2] at HL
          exact reduces_no_f HA a b d cap c1 c2 G L M w (Lib.hid HR) hn hm (Lib.hid HL) h2 h3 hT
      · exact reduces_no_b HA a b d cap c1 c2 G L M w (Lib.hid HR) hn hm hT
    · exact reduces_no_a HA a b d cap c1 c2 G L M w (Lib.hid HR) hn hT
  · rw [show Q = false by simpa using hq] at HR
    exact reduces_no_r HA a b d cap c1 c2 G L M w (Lib.hid HR) hT

end Go.Proofs.YtnfmcdfdbipeoaaGreatDoor
