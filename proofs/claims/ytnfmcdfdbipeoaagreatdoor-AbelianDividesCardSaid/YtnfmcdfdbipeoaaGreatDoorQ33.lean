/- Abelian groups: the group of a diagonal, of the reference. -/
import Derived.Test.YtnfmcdfdbipeoaaGreatDoorQ32
namespace Go.Proofs.YtnfmcdfdbipeoaaGreatDoor
open Go.RowKit Go.Proofs.Num

set_option maxHeartbeats 3200000 in
set_option maxRecDepth 100000 in
theorem rof_many (a : Option Addr) (n cap : Nat) (hl : 16 < n) (w : World) :
    Calls Tryz.prog 15 #[.slice a n cap] w (fun e w' => e = .returned (.tuple #[.slice none 0 0, .int .i64 5]) ∧ Below w.heap.size w w') := by
  have d0 : decide (16 < ((n : Nat) : Int)) = true := decide_eq_true (by omega)
  go_enter Tryz.func15, Tryz.ntmps15
  go_wp2
  go_ret2
  exact ⟨rfl, Below.refl _ _⟩

set_option maxHeartbeats 3200000 in
set_option maxRecDepth 100000 in
theorem rof_ok (a : Option Addr) (cap : Nat) (L : List ByteArray) (hl : L.length ≤ 16) (HO : Hid (∀ j, j < L.length → ∀ w, Calls Tryz.prog 44 #[.string (sat L j)] w (fun e w' => e = .returned (.int .i64 0) ∧ Below w.heap.size w w')))
    (HM : Hid (∀ j, j < L.length → ∀ w, Calls Tryz.prog 61 #[.string (sat L j)] w (fun e w' => e = .returned (.bool false) ∧ w = w')))
    (HQ : Hid (∀ j, j < L.length → ((sat L j).toList == [48]) = false))
    (HD : Hid (∀ j, j + 1 < L.length → ∀ w, Calls Tryz.prog 62 #[.string (sat L j), .string (sat L (j + 1))] w (fun e w' => e = .returned (.bool true) ∧ Below w.heap.size w w'))) (w : World) (h : TsAt w a L) :
    Calls Tryz.prog 15 #[.slice a L.length cap] w (GivesTs w (ones L) 0) := by
  have d0 : decide (16 < ((L.length : Nat) : Int)) = false := decide_eq_false (by omega)
  have H := Lib.hid h
  obtain ⟨i0, hi, hz0, hz1, hz2⟩ := info_parts info31
  have HST := Lib.hid (fun i (hi : i < L.length) => ones_step L i hi)
  have HLE := Lib.hid (fun i => ones_len L i)
  have HTK : Hid (L.take L.length = L) := List.take_length
  clear h
  go_enter Tryz.func15, Tryz.ntmps15
  go_wp2
  go_loopw [4, 5] (fun v l wr => ∃ i : Nat, i ≤ L.length ∧ l = .int .i64 i ∧ wr.ownsRow w.heap.size 31 1 v (ones (L.take i)).length (strs (ones (L.take i))) ∧ Below w.heap.size w wr) (fun _ l _ => L.length - (intOf l).toNat)
  case atStart => exact ⟨0, Nat.zero_le _, rfl, World.ownsRow_nil _ _ _ _, Below.refl _ _⟩
  case round =>
    obtain ⟨i, hi', rfl, hown, hB⟩ := hrel
    have HOW := Lib.hid hown
    clear hown
    by_cases hlt : i < L.length
    · have hiL : i < L.length := by omega
      have C := Lib.hid (fun w => HO.out i hlt w)
      have M := Lib.hid (fun w => HM.out i hlt w)
      have hq0 := HQ.out i hlt
      have D := Lib.hid (fun j (hj : j + 1 = i) w => HD.out j (by omega) w)
      have S := Lib.hid (HST.out i hiL)
      have hln := HLE.out i
      obtain ⟨b, off, rfl, hb, hc0⟩ := (H.out.keep hB) i hiL
      go_wp2_with fail
      refine (C.out _).mono ?_
      rintro e w1 ⟨rfl, hb1⟩
      have hB1 : Below w.heap.size w w1 := hB.trans (hb1.mono hB.size)
      have hc1 : w1.cell? ⟨b, off + i, none⟩ = some (.string (sat L i)) := (hb1.cell (p := ⟨b, off + i, none⟩) hb).trans hc0
      have HOW1 := Lib.hid (own_keep HOW.out hb1)
      have hb' : b < w1.heap.size := Nat.lt_of_lt_of_le hb hb1.size
      clear hb1 hc0 hb HOW
      go_wp2_with fail
      refine (M.out _).mono ?_
      rintro e w1' ⟨rfl, rfl⟩
      have hbs := hB1.size
      rcases Nat.eq_zero_or_pos i with h0 | h0
      · subst h0
        simp only [Nat.add_zero] at hc1
        clear D
        go_wp2
        refine wp_region_late (S := fun _ => True) (X := []) (by kernel_rfl) ?_
        refine wpAnyL_pureD (i := 0) 34 (.int .i64 0) rfl rfl (by kernel_rfl) (by kernel_rfl) (by kernel_rfl) (fun _ _ _ h => h) (Or.inl ⟨by rfl, fun u _ => ?_⟩) ?_
        · go_simp
        try simp only [Act.put, List.setIfInBounds_toArray]
        refine wpAnyL_pureD (i := 1) 35 (.bool false) rfl rfl (by kernel_rfl) (by kernel_rfl) (by kernel_rfl) (fun _ _ _ h => h) (Or.inl ⟨by rfl, fun u _ => ?_⟩) ?_
        · go_simp
        try simp only [Act.put, List.setIfInBounds_toArray]
        refine wpAnyL_pureD (i := 2) 36 (.bool false) rfl rfl (by kernel_rfl) (by kernel_rfl) (by kernel_rfl) (fun _ _ _ h => h) (Or.inl ⟨by rfl, fun u _ => ?_⟩) ?_
        · go_simp
        try simp only [Act.put, List.setIfInBounds_toArray]
        refine wpAnyL_pureD (i := 3) 37 undef rfl rfl (by kernel_rfl) (by kernel_rfl) (by kernel_rfl) (fun _ _ _ h => h) (Or.inr ⟨by kernel_rfl, rfl⟩) ?_
        refine wpAnyL_pureD (i := 4) 38 undef rfl rfl (by kernel_rfl) (by kernel_rfl) (by kernel_rfl) (fun _ _ _ h => h) (Or.inr ⟨by kernel_rfl, rfl⟩) ?_
        refine wpAnyL_pureD (i := 5) 39 undef rfl rfl (by kernel_rfl) (by kernel_rfl) (by kernel_rfl) (fun _ _ _ h => h) (Or.inr ⟨by kernel_rfl, rfl⟩) ?_
        refine wpAnyL_pureD (i := 6) 40 undef rfl rfl (by kernel_rfl) (by kernel_rfl) (by kernel_rfl) (fun _ _ _ h => h) (Or.inr ⟨by kernel_rfl, rfl⟩) ?_
        refine wpAnyL_pureD (i := 7) 41 undef rfl rfl (by kernel_rfl) (by kernel_rfl) (by kernel_rfl) (fun _ _ _ h => h) (Or.inr ⟨by kernel_rfl, rfl⟩) ?_
        refine wpAnyL_pureD (i := 8) 42 undef rfl rfl (by kernel_rfl) (by kernel_rfl) (by kernel_rfl) (fun _ _ _ h => h) (Or.inr ⟨by kernel_rfl, rfl⟩) ?_
        refine wpAnyL_pureD (i := 9) 43 undef rfl rfl (by kernel_rfl) (by kernel_rfl) (by kernel_rfl) (fun _ _ _ h => h) (Or.inr ⟨by kernel_rfl, rfl⟩) ?_
        refine wpAnyL_pureD (i := 10) 44 undef rfl rfl (by kernel_rfl) (by kernel_rfl) (by kernel_rfl) (fun _ _ _ h => h) (Or.inr ⟨by kernel_rfl, rfl⟩) ?_
        refine wpAnyL_pureD (i := 11) 45 undef rfl rfl (by kernel_rfl) (by kernel_rfl) (by kernel_rfl) (fun _ _ _ h => h) (Or.inr ⟨by kernel_rfl, rfl⟩) ?_
        refine wpAnyL_pureD (i := 12) 46 undef rfl rfl (by kernel_rfl) (by kernel_rfl) (by kernel_rfl) (fun _ _ _ h => h) (Or.inr ⟨by kernel_rfl, rfl⟩) ?_
        refine wpAnyL_pureD (i := 13) 47 undef rfl rfl (by kernel_rfl) (by kernel_rfl) (by kernel_rfl) (fun _ _ _ h => h) (Or.inr ⟨by kernel_rfl, rfl⟩) ?_
        refine wpAnyL_pureD (i := 14) 48 (.bool false) rfl rfl (by kernel_rfl) (by kernel_rfl) (by kernel_rfl) (fun _ _ _ h => h) (Or.inl ⟨by kernel_rfl, fun u _ => ?_⟩) ?_
        · simp only [Act.put, List.setIfInBounds_toArray, List.set_cons_zero, List.set_cons_succ]
          go_simp
        refine wpAnyL_done (by kernel_rfl) ?_ _
        simp only [Act.put, List.setIfInBounds_toArray, List.set_cons_zero, List.set_cons_succ]
        have HOW2 := Lib.hid (own_keep HOW1.out (show Below w1.heap.size w1 w1.drew from (Below.refl _ _).drew))
        have hB2 : Below w.heap.size w w1.drew := hB1.drew
        obtain ⟨w2, hw2⟩ : ∃ w2, w2 = w1.drew := ⟨_, rfl⟩
        have hc2 : w2.cell? ⟨b, off, none⟩ = some (.string (sat L 0)) := by rw [hw2]; exact hc1
        rw [← hw2] at HOW2 hB2 ⊢
        clear hw2 hc1 HOW1 hB1 hbs
        have hbs := hB2.size
        obtain ⟨s, hs⟩ : ∃ s, s = sat L (0) := ⟨_, rfl⟩
        rw [← hs] at S hc2 hq0
        clear hs
        cases hkp : keep s with
        | true =>
          have hq : (s.toList == [49]) = false := by unfold keep at hkp; simpa using hkp
          rw [hkp] at S
          clear hkp
          go_wp2_with (at_builtin; refine wpList_append_own _ rfl _ _ 22 rfl w.heap.size 31 i0 (.string ⟨#[]⟩) 1 16 Tryz.underlying22 hi hz0 hz1 hz2 rfl (by decide) _ _ _ rfl (HOW2.out.alloc _) ⟨w2.heap.size, 0, none⟩ 1 1 [.string s] rfl rfl (lit_one _ _) (by simp [Value.oneCell']) (by unfold maxLen; omega) (by omega) (by rw [World.size_alloc]; omega) ?_; intro v1 w3 hown1 hgrow1 _)
          rw [← strs_one, ← strs_append] at hown1
          have HOW3 := Lib.hid hown1
          have hB3 : Below w.heap.size w w3 := below_push hB2 (fun k hk => (HOW2.out.lt k hk).1) hgrow1
          clear hown1 hgrow1
          go_wp2
          go_roundw
          case rel => exact ⟨1, by omega, by go_num, by rw [S.out, if_pos rfl, List.length_append]; exact HOW3.out, hB3⟩
          case measure => simp [intOf] <;> omega
        | false =>
          have hq : (s.toList == [49]) = true := by unfold keep at hkp; simpa using hkp
          rw [hkp] at S
          clear hkp
          go_wp2
          go_roundw
          case rel => exact ⟨1, by omega, by go_num, by rw [S.out, if_neg (by simp)]; exact HOW2.out, hB2⟩
          case measure => simp [intOf] <;> omega
      · obtain ⟨m, rfl⟩ : ∃ m, i = m + 1 := ⟨i - 1, by omega⟩
        clear h0
        have E := Lib.hid (fun w => D.out m rfl w)
        have hcm : w1.cell? ⟨b, off + m, none⟩ = some (.string (sat L m)) := by
          obtain ⟨b', off', he, _, hc'⟩ := H.out.keep hB1 m (by omega)
          simp only [Option.some.injEq, Addr.mk.injEq, and_true] at he
          obtain ⟨rfl, rfl⟩ := he
          exact hc'
        clear D
        go_wp2
        have hk2 : Below w1.heap.size w1 w1.drew := (Below.refl _ _).drew
        have HS : Hid (∀ x, Below w1.heap.size w1 x → (Below w1.heap.size w1 x ∧ x.cell? ⟨b, off + m, none⟩ = some (.string (sat L m)) ∧ x.cell? ⟨b, off + (m + 1), none⟩ = some (.string (sat L (m + 1))))) := fun x hx => ⟨hx, (hx.cell (p := ⟨b, off + m, none⟩) hb').trans hcm, (hx.cell (p := ⟨b, off + (m + 1), none⟩) hb').trans hc1⟩
        obtain ⟨_, f0, f1⟩ := HS.out _ hk2
        clear hcm hc1
        have g1 : (0 : Int) ≤ (m : Int) := by omega
        have g2 : (m : Int) < ((L.length : Nat) : Int) := by omega
        have g3 : (0 : Int) ≤ (m : Int) + 1 := by omega
        have g4 : (m : Int) + 1 < ((L.length : Nat) : Int) := by omega
        have g9 : IntKind.i64.wrap (m : Int) = (m : Int) := IntWalk.i64_in _ (by omega)
        go_region_held3 (fun x => Below w1.heap.size w1 x ∧ x.cell? ⟨b, off + m, none⟩ = some (.string (sat L m)) ∧ x.cell? ⟨b, off + (m + 1), none⟩ = some (.string (sat L (m + 1))))
    (first | exact HS.out _ (by assumption) | exact HS.out _ (Below.drew (by assumption)) | (refine HS.out _ ?_; exact Below.alloc hk2 hk2.size _))
    (first | (go_at_call 62; refine (E.out _).mono ?_; rintro e wz ⟨rfl, hbz⟩; have hk3 := hk2.trans (hbz.mono hk2.size); clear hbz hk2; have hk2 := hk3; clear hk3))
        rename_i hHeldz
        clear hHeldz
        have hB2 : Below w.heap.size w wz := hB1.trans (hk2.mono hB1.size)
        have HOW2 := Lib.hid (own_keep HOW1.out hk2)
        obtain ⟨_, _, hc2⟩ := HS.out _ hk2
        clear f0 f1 hk2 HOW1 hbs
        have hbs := hB2.size
        obtain ⟨s, hs⟩ : ∃ s, s = sat L (m + 1) := ⟨_, rfl⟩
        rw [← hs] at S hc2 hq0
        clear hs
        cases hkp : keep s with
        | true =>
          have hq : (s.toList == [49]) = false := by unfold keep at hkp; simpa using hkp
          rw [hkp] at S
          clear hkp
          go_wp2_with (at_builtin; refine wpList_append_own _ rfl _ _ 22 rfl w.heap.size 31 i0 (.string ⟨#[]⟩) 1 16 Tryz.underlying22 hi hz0 hz1 hz2 rfl (by decide) _ _ _ rfl (HOW2.out.alloc _) ⟨wz.heap.size, 0, none⟩ 1 1 [.string s] rfl rfl (lit_one _ _) (by simp [Value.oneCell']) (by unfold maxLen; omega) (by omega) (by rw [World.size_alloc]; omega) ?_; intro v1 w3 hown1 hgrow1 _)
          rw [← strs_one, ← strs_append] at hown1
          have HOW3 := Lib.hid hown1
          have hB3 : Below w.heap.size w w3 := below_push hB2 (fun k hk => (HOW2.out.lt k hk).1) hgrow1
          clear hown1 hgrow1
          go_wp2
          go_roundw
          case rel => exact ⟨m + 1 + 1, by omega, by go_num, by rw [S.out, if_pos rfl, List.length_append]; exact HOW3.out, hB3⟩
          case measure => simp [intOf] <;> omega
        | false =>
          have hq : (s.toList == [49]) = true := by unfold keep at hkp; simpa using hkp
          rw [hkp] at S
          clear hkp
          go_wp2
          go_roundw
          case rel => exact ⟨m + 1 + 1, by omega, by go_num, by rw [S.out, if_neg (by simp)]; exact HOW2.out, hB2⟩
          case measure => simp [intOf] <;> omega
    · obtain rfl : i = L.length := by omega
      have HE := HOW.out
      rw [HTK.out] at HE
      obtain ⟨a', c', e1, e2⟩ := TsAt.of_own HE
      have HE1 := Lib.hid e1
      have HE2 := Lib.hid e2
      clear HE e1 e2
      go_wp2
      go_ret2
      exact ⟨a', c', by rw [← HE1.out]; rfl, HE2.out, hB⟩

set_option maxHeartbeats 3200000 in
set_option maxRecDepth 100000 in
theorem rof_one (a : Option Addr) (cap : Nat) (L : List ByteArray) (hl : L.length ≤ 16) (p : Nat) (hp : p < L.length) (k : Nat) (hk : k ≠ 0) (HO : Hid (∀ j, j < p → ∀ w, Calls Tryz.prog 44 #[.string (sat L j)] w (fun e w' => e = .returned (.int .i64 0) ∧ Below w.heap.size w w')))
    (HM : Hid (∀ j, j < p → ∀ w, Calls Tryz.prog 61 #[.string (sat L j)] w (fun e w' => e = .returned (.bool false) ∧ w = w')))
    (HQ : Hid (∀ j, j < p → ((sat L j).toList == [48]) = false))
    (HD : Hid (∀ j, j + 1 < p → ∀ w, Calls Tryz.prog 62 #[.string (sat L j), .string (sat L (j + 1))] w (fun e w' => e = .returned (.bool true) ∧ Below w.heap.size w w')))
    (HB : Hid (∀ w, Calls Tryz.prog 44 #[.string (sat L p)] w (fun e w' => e = .returned (.int .i64 ((k : Nat) : Int)) ∧ Below w.heap.size w w'))) (w : World) (h : TsAt w a L) :
    Calls Tryz.prog 15 #[.slice a L.length cap] w (fun e w' => e = .returned (.tuple #[.slice none 0 0, .int .i64 ((k : Nat) : Int)]) ∧ Below w.heap.size w w') := by
  have d0 : decide (16 < ((L.length : Nat) : Int)) = false := decide_eq_false (by omega)
  have H := Lib.hid h
  obtain ⟨i0, hi, hz0, hz1, hz2⟩ := info_parts info31
  have HST := Lib.hid (fun i (hi : i < L.length) => ones_step L i hi)
  have HLE := Lib.hid (fun i => ones_len L i)
  have HTK : Hid (L.take L.length = L) := List.take_length
  have hk0 : ¬ ((k : Nat) : Int) = 0 := by omega
  have hk1 : (((k : Nat) : Int) != 0) = true := by simp; omega
  clear hk
  clear h
  go_enter Tryz.func15, Tryz.ntmps15
  go_wp2
  go_loopw [4, 5] (fun v l wr => ∃ i : Nat, i ≤ p ∧ l = .int .i64 i ∧ wr.ownsRow w.heap.size 31 1 v (ones (L.take i)).length (strs (ones (L.take i))) ∧ Below w.heap.size w wr) (fun _ l _ => p - (intOf l).toNat)
  case atStart => exact ⟨0, Nat.zero_le _, rfl, World.ownsRow_nil _ _ _ _, Below.refl _ _⟩
  case round =>
    obtain ⟨i, hi', rfl, hown, hB⟩ := hrel
    have HOW := Lib.hid hown
    clear hown
    by_cases hlt : i < p
    · have hiL : i < L.length := by omega
      have C := Lib.hid (fun w => HO.out i hlt w)
      have M := Lib.hid (fun w => HM.out i hlt w)
      have hq0 := HQ.out i hlt
      have D := Lib.hid (fun j (hj : j + 1 = i) w => HD.out j (by omega) w)
      have S := Lib.hid (HST.out i hiL)
      have hln := HLE.out i
      obtain ⟨b, off, rfl, hb, hc0⟩ := (H.out.keep hB) i hiL
      go_wp2_with fail
      refine (C.out _).mono ?_
      rintro e w1 ⟨rfl, hb1⟩
      have hB1 : Below w.heap.size w w1 := hB.trans (hb1.mono hB.size)
      have hc1 : w1.cell? ⟨b, off + i, none⟩ = some (.string (sat L i)) := (hb1.cell (p := ⟨b, off + i, none⟩) hb).trans hc0
      have HOW1 := Lib.hid (own_keep HOW.out hb1)
      have hb' : b < w1.heap.size := Nat.lt_of_lt_of_le hb hb1.size
      clear hb1 hc0 hb HOW
      go_wp2_with fail
      refine (M.out _).mono ?_
      rintro e w1' ⟨rfl, rfl⟩
      have hbs := hB1.size
      rcases Nat.eq_zero_or_pos i with h0 | h0
      · subst h0
        simp only [Nat.add_zero] at hc1
        clear D
        go_wp2
        refine wp_region_late (S := fun _ => True) (X := []) (by kernel_rfl) ?_
        refine wpAnyL_pureD (i := 0) 34 (.int .i64 0) rfl rfl (by kernel_rfl) (by kernel_rfl) (by kernel_rfl) (fun _ _ _ h => h) (Or.inl ⟨by rfl, fun u _ => ?_⟩) ?_
        · go_simp
        try simp only [Act.put, List.setIfInBounds_toArray]
        refine wpAnyL_pureD (i := 1) 35 (.bool false) rfl rfl (by kernel_rfl) (by kernel_rfl) (by kernel_rfl) (fun _ _ _ h => h) (Or.inl ⟨by rfl, fun u _ => ?_⟩) ?_
        · go_simp
        try simp only [Act.put, List.setIfInBounds_toArray]
        refine wpAnyL_pureD (i := 2) 36 (.bool false) rfl rfl (by kernel_rfl) (by kernel_rfl) (by kernel_rfl) (fun _ _ _ h => h) (Or.inl ⟨by rfl, fun u _ => ?_⟩) ?_
        · go_simp
        try simp only [Act.put, List.setIfInBounds_toArray]
        refine wpAnyL_pureD (i := 3) 37 undef rfl rfl (by kernel_rfl) (by kernel_rfl) (by kernel_rfl) (fun _ _ _ h => h) (Or.inr ⟨by kernel_rfl, rfl⟩) ?_
        refine wpAnyL_pureD (i := 4) 38 undef rfl rfl (by kernel_rfl) (by kernel_rfl) (by kernel_rfl) (fun _ _ _ h => h) (Or.inr ⟨by kernel_rfl, rfl⟩) ?_
        refine wpAnyL_pureD (i := 5) 39 undef rfl rfl (by kernel_rfl) (by kernel_rfl) (by kernel_rfl) (fun _ _ _ h => h) (Or.inr ⟨by kernel_rfl, rfl⟩) ?_
        refine wpAnyL_pureD (i := 6) 40 undef rfl rfl (by kernel_rfl) (by kernel_rfl) (by kernel_rfl) (fun _ _ _ h => h) (Or.inr ⟨by kernel_rfl, rfl⟩) ?_
        refine wpAnyL_pureD (i := 7) 41 undef rfl rfl (by kernel_rfl) (by kernel_rfl) (by kernel_rfl) (fun _ _ _ h => h) (Or.inr ⟨by kernel_rfl, rfl⟩) ?_
        refine wpAnyL_pureD (i := 8) 42 undef rfl rfl (by kernel_rfl) (by kernel_rfl) (by kernel_rfl) (fun _ _ _ h => h) (Or.inr ⟨by kernel_rfl, rfl⟩) ?_
        refine wpAnyL_pureD (i := 9) 43 undef rfl rfl (by kernel_rfl) (by kernel_rfl) (by kernel_rfl) (fun _ _ _ h => h) (Or.inr ⟨by kernel_rfl, rfl⟩) ?_
        refine wpAnyL_pureD (i := 10) 44 undef rfl rfl (by kernel_rfl) (by kernel_rfl) (by kernel_rfl) (fun _ _ _ h => h) (Or.inr ⟨by kernel_rfl, rfl⟩) ?_
        refine wpAnyL_pureD (i := 11) 45 undef rfl rfl (by kernel_rfl) (by kernel_rfl) (by kernel_rfl) (fun _ _ _ h => h) (Or.inr ⟨by kernel_rfl, rfl⟩) ?_
        refine wpAnyL_pureD (i := 12) 46 undef rfl rfl (by kernel_rfl) (by kernel_rfl) (by kernel_rfl) (fun _ _ _ h => h) (Or.inr ⟨by kernel_rfl, rfl⟩) ?_
        refine wpAnyL_pureD (i := 13) 47 undef rfl rfl (by kernel_rfl) (by kernel_rfl) (by kernel_rfl) (fun _ _ _ h => h) (Or.inr ⟨by kernel_rfl, rfl⟩) ?_
        refine wpAnyL_pureD (i := 14) 48 (.bool false) rfl rfl (by kernel_rfl) (by kernel_rfl) (by kernel_rfl) (fun _ _ _ h => h) (Or.inl ⟨by kernel_rfl, fun u _ => ?_⟩) ?_
        · simp only [Act.put, List.setIfInBounds_toArray, List.set_cons_zero, List.set_cons_succ]
          go_simp
        refine wpAnyL_done (by kernel_rfl) ?_ _
        simp only [Act.put, List.setIfInBounds_toArray, List.set_cons_zero, List.set_cons_succ]
        have HOW2 := Lib.hid (own_keep HOW1.out (show Below w1.heap.size w1 w1.drew from (Below.refl _ _).drew))
        have hB2 : Below w.heap.size w w1.drew := hB1.drew
        obtain ⟨w2, hw2⟩ : ∃ w2, w2 = w1.drew := ⟨_, rfl⟩
        have hc2 : w2.cell? ⟨b, off, none⟩ = some (.string (sat L 0)) := by rw [hw2]; exact hc1
        rw [← hw2] at HOW2 hB2 ⊢
        clear hw2 hc1 HOW1 hB1 hbs
        have hbs := hB2.size
        obtain ⟨s, hs⟩ : ∃ s, s = sat L (0) := ⟨_, rfl⟩
        rw [← hs] at S hc2 hq0
        clear hs
        cases hkp : keep s with
        | true =>
          have hq : (s.toList == [49]) = false := by unfold keep at hkp; simpa using hkp
          rw [hkp] at S
          clear hkp
          go_wp2_with (at_builtin; refine wpList_append_own _ rfl _ _ 22 rfl w.heap.size 31 i0 (.string ⟨#[]⟩) 1 16 Tryz.underlying22 hi hz0 hz1 hz2 rfl (by decide) _ _ _ rfl (HOW2.out.alloc _) ⟨w2.heap.size, 0, none⟩ 1 1 [.string s] rfl rfl (lit_one _ _) (by simp [Value.oneCell']) (by unfold maxLen; omega) (by omega) (by rw [World.size_alloc]; omega) ?_; intro v1 w3 hown1 hgrow1 _)
          rw [← strs_one, ← strs_append] at hown1
          have HOW3 := Lib.hid hown1
          have hB3 : Below w.heap.size w w3 := below_push hB2 (fun k hk => (HOW2.out.lt k hk).1) hgrow1
          clear hown1 hgrow1
          go_wp2
          go_roundw
          case rel => exact ⟨1, by omega, by go_num, by rw [S.out, if_pos rfl, List.length_append]; exact HOW3.out, hB3⟩
          case measure => simp [intOf] <;> omega
        | false =>
          have hq : (s.toList == [49]) = true := by unfold keep at hkp; simpa using hkp
          rw [hkp] at S
          clear hkp
          go_wp2
          go_roundw
          case rel => exact ⟨1, by omega, by go_num, by rw [S.out, if_neg (by simp)]; exact HOW2.out, hB2⟩
          case measure => simp [intOf] <;> omega
      · obtain ⟨m, rfl⟩ : ∃ m, i = m + 1 := ⟨i - 1, by omega⟩
        clear h0
        have E := Lib.hid (fun w => D.out m rfl w)
        have hcm : w1.cell? ⟨b, off + m, none⟩ = some (.string (sat L m)) := by
          obtain ⟨b', off', he, _, hc'⟩ := H.out.keep hB1 m (by omega)
          simp only [Option.some.injEq, Addr.mk.injEq, and_true] at he
          obtain ⟨rfl, rfl⟩ := he
          exact hc'
        clear D
        go_wp2
        have hk2 : Below w1.heap.size w1 w1.drew := (Below.refl _ _).drew
        have HS : Hid (∀ x, Below w1.heap.size w1 x → (Below w1.heap.size w1 x ∧ x.cell? ⟨b, off + m, none⟩ = some (.string (sat L m)) ∧ x.cell? ⟨b, off + (m + 1), none⟩ = some (.string (sat L (m + 1))))) := fun x hx => ⟨hx, (hx.cell (p := ⟨b, off + m, none⟩) hb').trans hcm, (hx.cell (p := ⟨b, off + (m + 1), none⟩) hb').trans hc1⟩
        obtain ⟨_, f0, f1⟩ := HS.out _ hk2
        clear hcm hc1
        have g1 : (0 : Int) ≤ (m : Int) := by omega
        have g2 : (m : Int) < ((L.length : Nat) : Int) := by omega
        have g3 : (0 : Int) ≤ (m : Int) + 1 := by omega
        have g4 : (m : Int) + 1 < ((L.length : Nat) : Int) := by omega
        have g9 : IntKind.i64.wrap (m : Int) = (m : Int) := IntWalk.i64_in _ (by omega)
        go_region_held3 (fun x => Below w1.heap.size w1 x ∧ x.cell? ⟨b, off + m, none⟩ = some (.string (sat L m)) ∧ x.cell? ⟨b, off + (m + 1), none⟩ = some (.string (sat L (m + 1))))
    (first | exact HS.out _ (by assumption) | exact HS.out _ (Below.drew (by assumption)) | (refine HS.out _ ?_; exact Below.alloc hk2 hk2.size _))
    (first | (go_at_call 62; refine (E.out _).mono ?_; rintro e wz ⟨rfl, hbz⟩; have hk3 := hk2.trans (hbz.mono hk2.size); clear hbz hk2; have hk2 := hk3; clear hk3))
        rename_i hHeldz
        clear hHeldz
        have hB2 : Below w.heap.size w wz := hB1.trans (hk2.mono hB1.size)
        have HOW2 := Lib.hid (own_keep HOW1.out hk2)
        obtain ⟨_, _, hc2⟩ := HS.out _ hk2
        clear f0 f1 hk2 HOW1 hbs
        have hbs := hB2.size
        obtain ⟨s, hs⟩ : ∃ s, s = sat L (m + 1) := ⟨_, rfl⟩
        rw [← hs] at S hc2 hq0
        clear hs
        cases hkp : keep s with
        | true =>
          have hq : (s.toList == [49]) = false := by unfold keep at hkp; simpa using hkp
          rw [hkp] at S
          clear hkp
          go_wp2_with (at_builtin; refine wpList_append_own _ rfl _ _ 22 rfl w.heap.size 31 i0 (.string ⟨#[]⟩) 1 16 Tryz.underlying22 hi hz0 hz1 hz2 rfl (by decide) _ _ _ rfl (HOW2.out.alloc _) ⟨wz.heap.size, 0, none⟩ 1 1 [.string s] rfl rfl (lit_one _ _) (by simp [Value.oneCell']) (by unfold maxLen; omega) (by omega) (by rw [World.size_alloc]; omega) ?_; intro v1 w3 hown1 hgrow1 _)
          rw [← strs_one, ← strs_append] at hown1
          have HOW3 := Lib.hid hown1
          have hB3 : Below w.heap.size w w3 := below_push hB2 (fun k hk => (HOW2.out.lt k hk).1) hgrow1
          clear hown1 hgrow1
          go_wp2
          go_roundw
          case rel => exact ⟨m + 1 + 1, by omega, by go_num, by rw [S.out, if_pos rfl, List.length_append]; exact HOW3.out, hB3⟩
          case measure => simp [intOf] <;> omega
        | false =>
          have hq : (s.toList == [49]) = true := by unfold keep at hkp; simpa using hkp
          rw [hkp] at S
          clear hkp
          go_wp2
          go_roundw
          case rel => exact ⟨m + 1 + 1, by omega, by go_num, by rw [S.out, if_neg (by simp)]; exact HOW2.out, hB2⟩
          case measure => simp [intOf] <;> omega
    · obtain rfl : i = p := by omega
      obtain ⟨b, off, rfl, hb, hc0⟩ := (H.out.keep hB) (i) hp
      go_wp2_with fail
      refine (HB.out _).mono ?_
      rintro e w1 ⟨rfl, hb1⟩
      have hB1 : Below w.heap.size w w1 := hB.trans (hb1.mono hB.size)
      clear hb1 hc0 hb
      go_wp2
      go_ret2
      exact ⟨rfl, hB1⟩

set_option maxHeartbeats 3200000 in
set_option maxRecDepth 100000 in
theorem rof_minus (a : Option Addr) (cap : Nat) (L : List ByteArray) (hl : L.length ≤ 16) (p : Nat) (hp : p < L.length) (HO : Hid (∀ j, j < p → ∀ w, Calls Tryz.prog 44 #[.string (sat L j)] w (fun e w' => e = .returned (.int .i64 0) ∧ Below w.heap.size w w')))
    (HM : Hid (∀ j, j < p → ∀ w, Calls Tryz.prog 61 #[.string (sat L j)] w (fun e w' => e = .returned (.bool false) ∧ w = w')))
    (HQ : Hid (∀ j, j < p → ((sat L j).toList == [48]) = false))
    (HD : Hid (∀ j, j + 1 < p → ∀ w, Calls Tryz.prog 62 #[.string (sat L j), .string (sat L (j + 1))] w (fun e w' => e = .returned (.bool true) ∧ Below w.heap.size w w')))
    (HB : Hid (∀ w, Calls Tryz.prog 44 #[.string (sat L p)] w (fun e w' => e = .returned (.int .i64 0) ∧ Below w.heap.size w w')))
    (HB2 : Hid (∀ w, Calls Tryz.prog 61 #[.string (sat L p)] w (fun e w' => e = .returned (.bool true) ∧ w = w'))) (w : World) (h : TsAt w a L) :
    Calls Tryz.prog 15 #[.slice a L.length cap] w (fun e w' => e = .returned (.tuple #[.slice none 0 0, .int .i64 2]) ∧ Below w.heap.size w w') := by
  have d0 : decide (16 < ((L.length : Nat) : Int)) = false := decide_eq_false (by omega)
  have H := Lib.hid h
  obtain ⟨i0, hi, hz0, hz1, hz2⟩ := info_parts info31
  have HST := Lib.hid (fun i (hi : i < L.length) => ones_step L i hi)
  have HLE := Lib.hid (fun i => ones_len L i)
  have HTK : Hid (L.take L.length = L) := List.take_length
  clear h
  go_enter Tryz.func15, Tryz.ntmps15
  go_wp2
  go_loopw [4, 5] (fun v l wr => ∃ i : Nat, i ≤ p ∧ l = .int .i64 i ∧ wr.ownsRow w.heap.size 31 1 v (ones (L.take i)).length (strs (ones (L.take i))) ∧ Below w.heap.size w wr) (fun _ l _ => p - (intOf l).toNat)
  case atStart => exact ⟨0, Nat.zero_le _, rfl, World.ownsRow_nil _ _ _ _, Below.refl _ _⟩
  case round =>
    obtain ⟨i, hi', rfl, hown, hB⟩ := hrel
    have HOW := Lib.hid hown
    clear hown
    by_cases hlt : i < p
    · have hiL : i < L.length := by omega
      have C := Lib.hid (fun w => HO.out i hlt w)
      have M := Lib.hid (fun w => HM.out i hlt w)
      have hq0 := HQ.out i hlt
      have D := Lib.hid (fun j (hj : j + 1 = i) w => HD.out j (by omega) w)
      have S := Lib.hid (HST.out i hiL)
      have hln := HLE.out i
      obtain ⟨b, off, rfl, hb, hc0⟩ := (H.out.keep hB) i hiL
      go_wp2_with fail
      refine (C.out _).mono ?_
      rintro e w1 ⟨rfl, hb1⟩
      have hB1 : Below w.heap.size w w1 := hB.trans (hb1.mono hB.size)
      have hc1 : w1.cell? ⟨b, off + i, none⟩ = some (.string (sat L i)) := (hb1.cell (p := ⟨b, off + i, none⟩) hb).trans hc0
      have HOW1 := Lib.hid (own_keep HOW.out hb1)
      have hb' : b < w1.heap.size := Nat.lt_of_lt_of_le hb hb1.size
      clear hb1 hc0 hb HOW
      go_wp2_with fail
      refine (M.out _).mono ?_
      rintro e w1' ⟨rfl, rfl⟩
      have hbs := hB1.size
      rcases Nat.eq_zero_or_pos i with h0 | h0
      · subst h0
        simp only [Nat.add_zero] at hc1
        clear D
        go_wp2
        refine wp_region_late (S := fun _ => True) (X := []) (by kernel_rfl) ?_
        refine wpAnyL_pureD (i := 0) 34 (.int .i64 0) rfl rfl (by kernel_rfl) (by kernel_rfl) (by kernel_rfl) (fun _ _ _ h => h) (Or.inl ⟨by rfl, fun u _ => ?_⟩) ?_
        · go_simp
        try simp only [Act.put, List.setIfInBounds_toArray]
        refine wpAnyL_pureD (i := 1) 35 (.bool false) rfl rfl (by kernel_rfl) (by kernel_rfl) (by kernel_rfl) (fun _ _ _ h => h) (Or.inl ⟨by rfl, fun u _ => ?_⟩) ?_
        · go_simp
        try simp only [Act.put, List.setIfInBounds_toArray]
        refine wpAnyL_pureD (i := 2) 36 (.bool false) rfl rfl (by kernel_rfl) (by kernel_rfl) (by kernel_rfl) (fun _ _ _ h => h) (Or.inl ⟨by rfl, fun u _ => ?_⟩) ?_
        · go_simp
        try simp only [Act.put, List.setIfInBounds_toArray]
        refine wpAnyL_pureD (i := 3) 37 undef rfl rfl (by kernel_rfl) (by kernel_rfl) (by kernel_rfl) (fun _ _ _ h => h) (Or.inr ⟨by kernel_rfl, rfl⟩) ?_
        refine wpAnyL_pureD (i := 4) 38 undef rfl rfl (by kernel_rfl) (by kernel_rfl) (by kernel_rfl) (fun _ _ _ h => h) (Or.inr ⟨by kernel_rfl, rfl⟩) ?_
        refine wpAnyL_pureD (i := 5) 39 undef rfl rfl (by kernel_rfl) (by kernel_rfl) (by kernel_rfl) (fun _ _ _ h => h) (Or.inr ⟨by kernel_rfl, rfl⟩) ?_
        refine wpAnyL_pureD (i := 6) 40 undef rfl rfl (by kernel_rfl) (by kernel_rfl) (by kernel_rfl) (fun _ _ _ h => h) (Or.inr ⟨by kernel_rfl, rfl⟩) ?_
        refine wpAnyL_pureD (i := 7) 41 undef rfl rfl (by kernel_rfl) (by kernel_rfl) (by kernel_rfl) (fun _ _ _ h => h) (Or.inr ⟨by kernel_rfl, rfl⟩) ?_
        refine wpAnyL_pureD (i := 8) 42 undef rfl rfl (by kernel_rfl) (by kernel_rfl) (by kernel_rfl) (fun _ _ _ h => h) (Or.inr ⟨by kernel_rfl, rfl⟩) ?_
        refine wpAnyL_pureD (i := 9) 43 undef rfl rfl (by kernel_rfl) (by kernel_rfl) (by kernel_rfl) (fun _ _ _ h => h) (Or.inr ⟨by kernel_rfl, rfl⟩) ?_
        refine wpAnyL_pureD (i := 10) 44 undef rfl rfl (by kernel_rfl) (by kernel_rfl) (by kernel_rfl) (fun _ _ _ h => h) (Or.inr ⟨by kernel_rfl, rfl⟩) ?_
        refine wpAnyL_pureD (i := 11) 45 undef rfl rfl (by kernel_rfl) (by kernel_rfl) (by kernel_rfl) (fun _ _ _ h => h) (Or.inr ⟨by kernel_rfl, rfl⟩) ?_
        refine wpAnyL_pureD (i := 12) 46 undef rfl rfl (by kernel_rfl) (by kernel_rfl) (by kernel_rfl) (fun _ _ _ h => h) (Or.inr ⟨by kernel_rfl, rfl⟩) ?_
        refine wpAnyL_pureD (i := 13) 47 undef rfl rfl (by kernel_rfl) (by kernel_rfl) (by kernel_rfl) (fun _ _ _ h => h) (Or.inr ⟨by kernel_rfl, rfl⟩) ?_
        refine wpAnyL_pureD (i := 14) 48 (.bool false) rfl rfl (by kernel_rfl) (by kernel_rfl) (by kernel_rfl) (fun _ _ _ h => h) (Or.inl ⟨by kernel_rfl, fun u _ => ?_⟩) ?_
        · simp only [Act.put, List.setIfInBounds_toArray, List.set_cons_zero, List.set_cons_succ]
          go_simp
        refine wpAnyL_done (by kernel_rfl) ?_ _
        simp only [Act.put, List.setIfInBounds_toArray, List.set_cons_zero, List.set_cons_succ]
        have HOW2 := Lib.hid (own_keep HOW1.out (show Below w1.heap.size w1 w1.drew from (Below.refl _ _).drew))
        have hB2 : Below w.heap.size w w1.drew := hB1.drew
        obtain ⟨w2, hw2⟩ : ∃ w2, w2 = w1.drew := ⟨_, rfl⟩
        have hc2 : w2.cell? ⟨b, off, none⟩ = some (.string (sat L 0)) := by rw [hw2]; exact hc1
        rw [← hw2] at HOW2 hB2 ⊢
        clear hw2 hc1 HOW1 hB1 hbs
        have hbs := hB2.size
        obtain ⟨s, hs⟩ : ∃ s, s = sat L (0) := ⟨_, rfl⟩
        rw [← hs] at S hc2 hq0
        clear hs
        cases hkp : keep s with
        | true =>
          have hq : (s.toList == [49]) = false := by unfold keep at hkp; simpa using hkp
          rw [hkp] at S
          clear hkp
          go_wp2_with (at_builtin; refine wpList_append_own _ rfl _ _ 22 rfl w.heap.size 31 i0 (.string ⟨#[]⟩) 1 16 Tryz.underlying22 hi hz0 hz1 hz2 rfl (by decide) _ _ _ rfl (HOW2.out.alloc _) ⟨w2.heap.size, 0, none⟩ 1 1 [.string s] rfl rfl (lit_one _ _) (by simp [Value.oneCell']) (by unfold maxLen; omega) (by omega) (by rw [World.size_alloc]; omega) ?_; intro v1 w3 hown1 hgrow1 _)
          rw [← strs_one, ← strs_append] at hown1
          have HOW3 := Lib.hid hown1
          have hB3 : Below w.heap.size w w3 := below_push hB2 (fun k hk => (HOW2.out.lt k hk).1) hgrow1
          clear hown1 hgrow1
          go_wp2
          go_roundw
          case rel => exact ⟨1, by omega, by go_num, by rw [S.out, if_pos rfl, List.length_append]; exact HOW3.out, hB3⟩
          case measure => simp [intOf] <;> omega
        | false =>
          have hq : (s.toList == [49]) = true := by unfold keep at hkp; simpa using hkp
          rw [hkp] at S
          clear hkp
          go_wp2
          go_roundw
          case rel => exact ⟨1, by omega, by go_num, by rw [S.out, if_neg (by simp)]; exact HOW2.out, hB2⟩
          case measure => simp [intOf] <;> omega
      · obtain ⟨m, rfl⟩ : ∃ m, i = m + 1 := ⟨i - 1, by omega⟩
        clear h0
        have E := Lib.hid (fun w => D.out m rfl w)
        have hcm : w1.cell? ⟨b, off + m, none⟩ = some (.string (sat L m)) := by
          obtain ⟨b', off', he, _, hc'⟩ := H.out.keep hB1 m (by omega)
          simp only [Option.some.injEq, Addr.mk.injEq, and_true] at he
          obtain ⟨rfl, rfl⟩ := he
          exact hc'
        clear D
        go_wp2
        have hk2 : Below w1.heap.size w1 w1.drew := (Below.refl _ _).drew
        have HS : Hid (∀ x, Below w1.heap.size w1 x → (Below w1.heap.size w1 x ∧ x.cell? ⟨b, off + m, none⟩ = some (.string (sat L m)) ∧ x.cell? ⟨b, off + (m + 1), none⟩ = some (.string (sat L (m + 1))))) := fun x hx => ⟨hx, (hx.cell (p := ⟨b, off + m, none⟩) hb').trans hcm, (hx.cell (p := ⟨b, off + (m + 1), none⟩) hb').trans hc1⟩
        obtain ⟨_, f0, f1⟩ := HS.out _ hk2
        clear hcm hc1
        have g1 : (0 : Int) ≤ (m : Int) := by omega
        have g2 : (m : Int) < ((L.length : Nat) : Int) := by omega
        have g3 : (0 : Int) ≤ (m : Int) + 1 := by omega
        have g4 : (m : Int) + 1 < ((L.length : Nat) : Int) := by omega
        have g9 : IntKind.i64.wrap (m : Int) = (m : Int) := IntWalk.i64_in _ (by omega)
        go_region_held3 (fun x => Below w1.heap.size w1 x ∧ x.cell? ⟨b, off + m, none⟩ = some (.string (sat L m)) ∧ x.cell? ⟨b, off + (m + 1), none⟩ = some (.string (sat L (m + 1))))
    (first | exact HS.out _ (by assumption) | exact HS.out _ (Below.drew (by assumption)) | (refine HS.out _ ?_; exact Below.alloc hk2 hk2.size _))
    (first | (go_at_call 62; refine (E.out _).mono ?_; rintro e wz ⟨rfl, hbz⟩; have hk3 := hk2.trans (hbz.mono hk2.size); clear hbz hk2; have hk2 := hk3; clear hk3))
        rename_i hHeldz
        clear hHeldz
        have hB2 : Below w.heap.size w wz := hB1.trans (hk2.mono hB1.size)
        have HOW2 := Lib.hid (own_keep HOW1.out hk2)
        obtain ⟨_, _, hc2⟩ := HS.out _ hk2
        clear f0 f1 hk2 HOW1 hbs
        have hbs := hB2.size
        obtain ⟨s, hs⟩ : ∃ s, s = sat L (m + 1) := ⟨_, rfl⟩
        rw [← hs] at S hc2 hq0
        clear hs
        cases hkp : keep s with
        | true =>
          have hq : (s.toList == [49]) = false := by unfold keep at hkp; simpa using hkp
          rw [hkp] at S
          clear hkp
          go_wp2_with (at_builtin; refine wpList_append_own _ rfl _ _ 22 rfl w.heap.size 31 i0 (.string ⟨#[]⟩) 1 16 Tryz.underlying22 hi hz0 hz1 hz2 rfl (by decide) _ _ _ rfl (HOW2.out.alloc _) ⟨wz.heap.size, 0, none⟩ 1 1 [.string s] rfl rfl (lit_one _ _) (by simp [Value.oneCell']) (by unfold maxLen; omega) (by omega) (by rw [World.size_alloc]; omega) ?_; intro v1 w3 hown1 hgrow1 _)
          rw [← strs_one, ← strs_append] at hown1
          have HOW3 := Lib.hid hown1
          have hB3 : Below w.heap.size w w3 := below_push hB2 (fun k hk => (HOW2.out.lt k hk).1) hgrow1
          clear hown1 hgrow1
          go_wp2
          go_roundw
          case rel => exact ⟨m + 1 + 1, by omega, by go_num, by rw [S.out, if_pos rfl, List.length_append]; exact HOW3.out, hB3⟩
          case measure => simp [intOf] <;> omega
        | false =>
          have hq : (s.toList == [49]) = true := by unfold keep at hkp; simpa using hkp
          rw [hkp] at S
          clear hkp
          go_wp2
          go_roundw
          case rel => exact ⟨m + 1 + 1, by omega, by go_num, by rw [S.out, if_neg (by simp)]; exact HOW2.out, hB2⟩
          case measure => simp [intOf] <;> omega
    · obtain rfl : i = p := by omega
      obtain ⟨b, off, rfl, hb, hc0⟩ := (H.out.keep hB) (i) hp
      go_wp2_with fail
      refine (HB.out _).mono ?_
      rintro e w1 ⟨rfl, hb1⟩
      have hB1 : Below w.heap.size w w1 := hB.trans (hb1.mono hB.size)
      have hc1 : w1.cell? ⟨b, off + (i), none⟩ = some (.string (sat L (i))) := (hb1.cell (p := ⟨b, off + (i), none⟩) hb).trans hc0
      have hb' : b < w1.heap.size := Nat.lt_of_lt_of_le hb hb1.size
      clear hc0 hb1 hb
      go_wp2_with fail
      refine (HB2.out _).mono ?_
      rintro e w1' ⟨rfl, rfl⟩
      go_wp2
      go_ret2
      exact ⟨rfl, hB1⟩

set_option maxHeartbeats 3200000 in
set_option maxRecDepth 100000 in
theorem rof_zero (a : Option Addr) (cap : Nat) (L : List ByteArray) (hl : L.length ≤ 16) (p : Nat) (hp : p < L.length) (HO : Hid (∀ j, j < p → ∀ w, Calls Tryz.prog 44 #[.string (sat L j)] w (fun e w' => e = .returned (.int .i64 0) ∧ Below w.heap.size w w')))
    (HM : Hid (∀ j, j < p → ∀ w, Calls Tryz.prog 61 #[.string (sat L j)] w (fun e w' => e = .returned (.bool false) ∧ w = w')))
    (HQ : Hid (∀ j, j < p → ((sat L j).toList == [48]) = false))
    (HD : Hid (∀ j, j + 1 < p → ∀ w, Calls Tryz.prog 62 #[.string (sat L j), .string (sat L (j + 1))] w (fun e w' => e = .returned (.bool true) ∧ Below w.heap.size w w')))
    (HB : Hid (∀ w, Calls Tryz.prog 44 #[.string (sat L p)] w (fun e w' => e = .returned (.int .i64 0) ∧ Below w.heap.size w w')))
    (HB2 : Hid (∀ w, Calls Tryz.prog 61 #[.string (sat L p)] w (fun e w' => e = .returned (.bool false) ∧ w = w')))
    (hz : ((sat L p).toList == [48]) = true) (w : World) (h : TsAt w a L) :
    Calls Tryz.prog 15 #[.slice a L.length cap] w (fun e w' => e = .returned (.tuple #[.slice none 0 0, .int .i64 10]) ∧ Below w.heap.size w w') := by
  have d0 : decide (16 < ((L.length : Nat) : Int)) = false := decide_eq_false (by omega)
  have H := Lib.hid h
  obtain ⟨i0, hi, hz0, hz1, hz2⟩ := info_parts info31
  have HST := Lib.hid (fun i (hi : i < L.length) => ones_step L i hi)
  have HLE := Lib.hid (fun i => ones_len L i)
  have HTK : Hid (L.take L.length = L) := List.take_length
  have HZ := Lib.hid hz
  clear hz
  clear h
  go_enter Tryz.func15, Tryz.ntmps15
  go_wp2
  go_loopw [4, 5] (fun v l wr => ∃ i : Nat, i ≤ p ∧ l = .int .i64 i ∧ wr.ownsRow w.heap.size 31 1 v (ones (L.take i)).length (strs (ones (L.take i))) ∧ Below w.heap.size w wr) (fun _ l _ => p - (intOf l).toNat)
  case atStart => exact ⟨0, Nat.zero_le _, rfl, World.ownsRow_nil _ _ _ _, Below.refl _ _⟩
  case round =>
    obtain ⟨i, hi', rfl, hown, hB⟩ := hrel
    have HOW := Lib.hid hown
    clear hown
    by_cases hlt : i < p
    · have hiL : i < L.length := by omega
      have C := Lib.hid (fun w => HO.out i hlt w)
      have M := Lib.hid (fun w => HM.out i hlt w)
      have hq0 := HQ.out i hlt
      have D := Lib.hid (fun j (hj : j + 1 = i) w => HD.out j (by omega) w)
      have S := Lib.hid (HST.out i hiL)
      have hln := HLE.out i
      obtain ⟨b, off, rfl, hb, hc0⟩ := (H.out.keep hB) i hiL
      go_wp2_with fail
      refine (C.out _).mono ?_
      rintro e w1 ⟨rfl, hb1⟩
      have hB1 : Below w.heap.size w w1 := hB.trans (hb1.mono hB.size)
      have hc1 : w1.cell? ⟨b, off + i, none⟩ = some (.string (sat L i)) := (hb1.cell (p := ⟨b, off + i, none⟩) hb).trans hc0
      have HOW1 := Lib.hid (own_keep HOW.out hb1)
      have hb' : b < w1.heap.size := Nat.lt_of_lt_of_le hb hb1.size
      clear hb1 hc0 hb HOW
      go_wp2_with fail
      refine (M.out _).mono ?_
      rintro e w1' ⟨rfl, rfl⟩
      have hbs := hB1.size
      rcases Nat.eq_zero_or_pos i with h0 | h0
      · subst h0
        simp only [Nat.add_zero] at hc1
        clear D
        go_wp2
        refine wp_region_late (S := fun _ => True) (X := []) (by kernel_rfl) ?_
        refine wpAnyL_pureD (i := 0) 34 (.int .i64 0) rfl rfl (by kernel_rfl) (by kernel_rfl) (by kernel_rfl) (fun _ _ _ h => h) (Or.inl ⟨by rfl, fun u _ => ?_⟩) ?_
        · go_simp
        try simp only [Act.put, List.setIfInBounds_toArray]
        refine wpAnyL_pureD (i := 1) 35 (.bool false) rfl rfl (by kernel_rfl) (by kernel_rfl) (by kernel_rfl) (fun _ _ _ h => h) (Or.inl ⟨by rfl, fun u _ => ?_⟩) ?_
        · go_simp
        try simp only [Act.put, List.setIfInBounds_toArray]
        refine wpAnyL_pureD (i := 2) 36 (.bool false) rfl rfl (by kernel_rfl) (by kernel_rfl) (by kernel_rfl) (fun _ _ _ h => h) (Or.inl ⟨by rfl, fun u _ => ?_⟩) ?_
        · go_simp
        try simp only [Act.put, List.setIfInBounds_toArray]
        refine wpAnyL_pureD (i := 3) 37 undef rfl rfl (by kernel_rfl) (by kernel_rfl) (by kernel_rfl) (fun _ _ _ h => h) (Or.inr ⟨by kernel_rfl, rfl⟩) ?_
        refine wpAnyL_pureD (i := 4) 38 undef rfl rfl (by kernel_rfl) (by kernel_rfl) (by kernel_rfl) (fun _ _ _ h => h) (Or.inr ⟨by kernel_rfl, rfl⟩) ?_
        refine wpAnyL_pureD (i := 5) 39 undef rfl rfl (by kernel_rfl) (by kernel_rfl) (by kernel_rfl) (fun _ _ _ h => h) (Or.inr ⟨by kernel_rfl, rfl⟩) ?_
        refine wpAnyL_pureD (i := 6) 40 undef rfl rfl (by kernel_rfl) (by kernel_rfl) (by kernel_rfl) (fun _ _ _ h => h) (Or.inr ⟨by kernel_rfl, rfl⟩) ?_
        refine wpAnyL_pureD (i := 7) 41 undef rfl rfl (by kernel_rfl) (by kernel_rfl) (by kernel_rfl) (fun _ _ _ h => h) (Or.inr ⟨by kernel_rfl, rfl⟩) ?_
        refine wpAnyL_pureD (i := 8) 42 undef rfl rfl (by kernel_rfl) (by kernel_rfl) (by kernel_rfl) (fun _ _ _ h => h) (Or.inr ⟨by kernel_rfl, rfl⟩) ?_
        refine wpAnyL_pureD (i := 9) 43 undef rfl rfl (by kernel_rfl) (by kernel_rfl) (by kernel_rfl) (fun _ _ _ h => h) (Or.inr ⟨by kernel_rfl, rfl⟩) ?_
        refine wpAnyL_pureD (i := 10) 44 undef rfl rfl (by kernel_rfl) (by kernel_rfl) (by kernel_rfl) (fun _ _ _ h => h) (Or.inr ⟨by kernel_rfl, rfl⟩) ?_
        refine wpAnyL_pureD (i := 11) 45 undef rfl rfl (by kernel_rfl) (by kernel_rfl) (by kernel_rfl) (fun _ _ _ h => h) (Or.inr ⟨by kernel_rfl, rfl⟩) ?_
        refine wpAnyL_pureD (i := 12) 46 undef rfl rfl (by kernel_rfl) (by kernel_rfl) (by kernel_rfl) (fun _ _ _ h => h) (Or.inr ⟨by kernel_rfl, rfl⟩) ?_
        refine wpAnyL_pureD (i := 13) 47 undef rfl rfl (by kernel_rfl) (by kernel_rfl) (by kernel_rfl) (fun _ _ _ h => h) (Or.inr ⟨by kernel_rfl, rfl⟩) ?_
        refine wpAnyL_pureD (i := 14) 48 (.bool false) rfl rfl (by kernel_rfl) (by kernel_rfl) (by kernel_rfl) (fun _ _ _ h => h) (Or.inl ⟨by kernel_rfl, fun u _ => ?_⟩) ?_
        · simp only [Act.put, List.setIfInBounds_toArray, List.set_cons_zero, List.set_cons_succ]
          go_simp
        refine wpAnyL_done (by kernel_rfl) ?_ _
        simp only [Act.put, List.setIfInBounds_toArray, List.set_cons_zero, List.set_cons_succ]
        have HOW2 := Lib.hid (own_keep HOW1.out (show Below w1.heap.size w1 w1.drew from (Below.refl _ _).drew))
        have hB2 : Below w.heap.size w w1.drew := hB1.drew
        obtain ⟨w2, hw2⟩ : ∃ w2, w2 = w1.drew := ⟨_, rfl⟩
        have hc2 : w2.cell? ⟨b, off, none⟩ = some (.string (sat L 0)) := by rw [hw2]; exact hc1
        rw [← hw2] at HOW2 hB2 ⊢
        clear hw2 hc1 HOW1 hB1 hbs
        have hbs := hB2.size
        obtain ⟨s, hs⟩ : ∃ s, s = sat L (0) := ⟨_, rfl⟩
        rw [← hs] at S hc2 hq0
        clear hs
        cases hkp : keep s with
        | true =>
          have hq : (s.toList == [49]) = false := by unfold keep at hkp; simpa using hkp
          rw [hkp] at S
          clear hkp
          go_wp2_with (at_builtin; refine wpList_append_own _ rfl _ _ 22 rfl w.heap.size 31 i0 (.string ⟨#[]⟩) 1 16 Tryz.underlying22 hi hz0 hz1 hz2 rfl (by decide) _ _ _ rfl (HOW2.out.alloc _) ⟨w2.heap.size, 0, none⟩ 1 1 [.string s] rfl rfl (lit_one _ _) (by simp [Value.oneCell']) (by unfold maxLen; omega) (by omega) (by rw [World.size_alloc]; omega) ?_; intro v1 w3 hown1 hgrow1 _)
          rw [← strs_one, ← strs_append] at hown1
          have HOW3 := Lib.hid hown1
          have hB3 : Below w.heap.size w w3 := below_push hB2 (fun k hk => (HOW2.out.lt k hk).1) hgrow1
          clear hown1 hgrow1
          go_wp2
          go_roundw
          case rel => exact ⟨1, by omega, by go_num, by rw [S.out, if_pos rfl, List.length_append]; exact HOW3.out, hB3⟩
          case measure => simp [intOf] <;> omega
        | false =>
          have hq : (s.toList == [49]) = true := by unfold keep at hkp; simpa using hkp
          rw [hkp] at S
          clear hkp
          go_wp2
          go_roundw
          case rel => exact ⟨1, by omega, by go_num, by rw [S.out, if_neg (by simp)]; exact HOW2.out, hB2⟩
          case measure => simp [intOf] <;> omega
      · obtain ⟨m, rfl⟩ : ∃ m, i = m + 1 := ⟨i - 1, by omega⟩
        clear h0
        have E := Lib.hid (fun w => D.out m rfl w)
        have hcm : w1.cell? ⟨b, off + m, none⟩ = some (.string (sat L m)) := by
          obtain ⟨b', off', he, _, hc'⟩ := H.out.keep hB1 m (by omega)
          simp only [Option.some.injEq, Addr.mk.injEq, and_true] at he
          obtain ⟨rfl, rfl⟩ := he
          exact hc'
        clear D
        go_wp2
        have hk2 : Below w1.heap.size w1 w1.drew := (Below.refl _ _).drew
        have HS : Hid (∀ x, Below w1.heap.size w1 x → (Below w1.heap.size w1 x ∧ x.cell? ⟨b, off + m, none⟩ = some (.string (sat L m)) ∧ x.cell? ⟨b, off + (m + 1), none⟩ = some (.string (sat L (m + 1))))) := fun x hx => ⟨hx, (hx.cell (p := ⟨b, off + m, none⟩) hb').trans hcm, (hx.cell (p := ⟨b, off + (m + 1), none⟩) hb').trans hc1⟩
        obtain ⟨_, f0, f1⟩ := HS.out _ hk2
        clear hcm hc1
        have g1 : (0 : Int) ≤ (m : Int) := by omega
        have g2 : (m : Int) < ((L.length : Nat) : Int) := by omega
        have g3 : (0 : Int) ≤ (m : Int) + 1 := by omega
        have g4 : (m : Int) + 1 < ((L.length : Nat) : Int) := by omega
        have g9 : IntKind.i64.wrap (m : Int) = (m : Int) := IntWalk.i64_in _ (by omega)
        go_region_held3 (fun x => Below w1.heap.size w1 x ∧ x.cell? ⟨b, off + m, none⟩ = some (.string (sat L m)) ∧ x.cell? ⟨b, off + (m + 1), none⟩ = some (.string (sat L (m + 1))))
    (first | exact HS.out _ (by assumption) | exact HS.out _ (Below.drew (by assumption)) | (refine HS.out _ ?_; exact Below.alloc hk2 hk2.size _))
    (first | (go_at_call 62; refine (E.out _).mono ?_; rintro e wz ⟨rfl, hbz⟩; have hk3 := hk2.trans (hbz.mono hk2.size); clear hbz hk2; have hk2 := hk3; clear hk3))
        rename_i hHeldz
        clear hHeldz
        have hB2 : Below w.heap.size w wz := hB1.trans (hk2.mono hB1.size)
        have HOW2 := Lib.hid (own_keep HOW1.out hk2)
        obtain ⟨_, _, hc2⟩ := HS.out _ hk2
        clear f0 f1 hk2 HOW1 hbs
        have hbs := hB2.size
        obtain ⟨s, hs⟩ : ∃ s, s = sat L (m + 1) := ⟨_, rfl⟩
        rw [← hs] at S hc2 hq0
        clear hs
        cases hkp : keep s with
        | true =>
          have hq : (s.toList == [49]) = false := by unfold keep at hkp; simpa using hkp
          rw [hkp] at S
          clear hkp
          go_wp2_with (at_builtin; refine wpList_append_own _ rfl _ _ 22 rfl w.heap.size 31 i0 (.string ⟨#[]⟩) 1 16 Tryz.underlying22 hi hz0 hz1 hz2 rfl (by decide) _ _ _ rfl (HOW2.out.alloc _) ⟨wz.heap.size, 0, none⟩ 1 1 [.string s] rfl rfl (lit_one _ _) (by simp [Value.oneCell']) (by unfold maxLen; omega) (by omega) (by rw [World.size_alloc]; omega) ?_; intro v1 w3 hown1 hgrow1 _)
          rw [← strs_one, ← strs_append] at hown1
          have HOW3 := Lib.hid hown1
          have hB3 : Below w.heap.size w w3 := below_push hB2 (fun k hk => (HOW2.out.lt k hk).1) hgrow1
          clear hown1 hgrow1
          go_wp2
          go_roundw
          case rel => exact ⟨m + 1 + 1, by omega, by go_num, by rw [S.out, if_pos rfl, List.length_append]; exact HOW3.out, hB3⟩
          case measure => simp [intOf] <;> omega
        | false =>
          have hq : (s.toList == [49]) = true := by unfold keep at hkp; simpa using hkp
          rw [hkp] at S
          clear hkp
          go_wp2
          go_roundw
          case rel => exact ⟨m + 1 + 1, by omega, by go_num, by rw [S.out, if_neg (by simp)]; exact HOW2.out, hB2⟩
          case measure => simp [intOf] <;> omega
    · obtain rfl : i = p := by omega
      obtain ⟨b, off, rfl, hb, hc0⟩ := (H.out.keep hB) (i) hp
      go_wp2_with fail
      refine (HB.out _).mono ?_
      rintro e w1 ⟨rfl, hb1⟩
      have hB1 : Below w.heap.size w w1 := hB.trans (hb1.mono hB.size)
      have hc1 : w1.cell? ⟨b, off + (i), none⟩ = some (.string (sat L (i))) := (hb1.cell (p := ⟨b, off + (i), none⟩) hb).trans hc0
      have hb' : b < w1.heap.size := Nat.lt_of_lt_of_le hb hb1.size
      clear hc0 hb1 hb
      go_wp2_with fail
      refine (HB2.out _).mono ?_
      rintro e w1' ⟨rfl, rfl⟩
      have hz := HZ.out
      go_wp2
      go_ret2
      exact ⟨rfl, hB1⟩

set_option maxHeartbeats 3200000 in
set_option maxRecDepth 100000 in
theorem rof_order (a : Option Addr) (cap : Nat) (L : List ByteArray) (hl : L.length ≤ 16) (m : Nat) (hp : m + 1 < L.length) (HO : Hid (∀ j, j < (m + 1) → ∀ w, Calls Tryz.prog 44 #[.string (sat L j)] w (fun e w' => e = .returned (.int .i64 0) ∧ Below w.heap.size w w')))
    (HM : Hid (∀ j, j < (m + 1) → ∀ w, Calls Tryz.prog 61 #[.string (sat L j)] w (fun e w' => e = .returned (.bool false) ∧ w = w')))
    (HQ : Hid (∀ j, j < (m + 1) → ((sat L j).toList == [48]) = false))
    (HD : Hid (∀ j, j + 1 < (m + 1) → ∀ w, Calls Tryz.prog 62 #[.string (sat L j), .string (sat L (j + 1))] w (fun e w' => e = .returned (.bool true) ∧ Below w.heap.size w w')))
    (HB : Hid (∀ w, Calls Tryz.prog 44 #[.string (sat L (m + 1))] w (fun e w' => e = .returned (.int .i64 0) ∧ Below w.heap.size w w')))
    (HB2 : Hid (∀ w, Calls Tryz.prog 61 #[.string (sat L (m + 1))] w (fun e w' => e = .returned (.bool false) ∧ w = w')))
    (hz : ((sat L (m + 1)).toList == [48]) = false)
    (HB3 : Hid (∀ w, Calls Tryz.prog 62 #[.string (sat L m), .string (sat L (m + 1))] w (fun e w' => e = .returned (.bool false) ∧ Below w.heap.size w w'))) (w : World) (h : TsAt w a L) :
    Calls Tryz.prog 15 #[.slice a L.length cap] w (fun e w' => e = .returned (.tuple #[.slice none 0 0, .int .i64 9]) ∧ Below w.heap.size w w') := by
  have d0 : decide (16 < ((L.length : Nat) : Int)) = false := decide_eq_false (by omega)
  have H := Lib.hid h
  obtain ⟨i0, hi, hz0, hz1, hz2⟩ := info_parts info31
  have HST := Lib.hid (fun i (hi : i < L.length) => ones_step L i hi)
  have HLE := Lib.hid (fun i => ones_len L i)
  have HTK : Hid (L.take L.length = L) := List.take_length
  have HZ := Lib.hid hz
  clear hz
  clear h
  go_enter Tryz.func15, Tryz.ntmps15
  go_wp2
  go_loopw [4, 5] (fun v l wr => ∃ i : Nat, i ≤ (m + 1) ∧ l = .int .i64 i ∧ wr.ownsRow w.heap.size 31 1 v (ones (L.take i)).length (strs (ones (L.take i))) ∧ Below w.heap.size w wr) (fun _ l _ => (m + 1) - (intOf l).toNat)
  case atStart => exact ⟨0, Nat.zero_le _, rfl, World.ownsRow_nil _ _ _ _, Below.refl _ _⟩
  case round =>
    obtain ⟨i, hi', rfl, hown, hB⟩ := hrel
    have HOW := Lib.hid hown
    clear hown
    by_cases hlt : i < (m + 1)
    · have hiL : i < L.length := by omega
      have C := Lib.hid (fun w => HO.out i hlt w)
      have M := Lib.hid (fun w => HM.out i hlt w)
      have hq0 := HQ.out i hlt
      have D := Lib.hid (fun j (hj : j + 1 = i) w => HD.out j (by omega) w)
      have S := Lib.hid (HST.out i hiL)
      have hln := HLE.out i
      obtain ⟨b, off, rfl, hb, hc0⟩ := (H.out.keep hB) i hiL
      go_wp2_with fail
      refine (C.out _).mono ?_
      rintro e w1 ⟨rfl, hb1⟩
      have hB1 : Below w.heap.size w w1 := hB.trans (hb1.mono hB.size)
      have hc1 : w1.cell? ⟨b, off + i, none⟩ = some (.string (sat L i)) := (hb1.cell (p := ⟨b, off + i, none⟩) hb).trans hc0
      have HOW1 := Lib.hid (own_keep HOW.out hb1)
      have hb' : b < w1.heap.size := Nat.lt_of_lt_of_le hb hb1.size
      clear hb1 hc0 hb HOW
      go_wp2_with fail
      refine (M.out _).mono ?_
      rintro e w1' ⟨rfl, rfl⟩
      have hbs := hB1.size
      rcases Nat.eq_zero_or_pos i with h0 | h0
      · subst h0
        simp only [Nat.add_zero] at hc1
        clear D
        go_wp2
        refine wp_region_late (S := fun _ => True) (X := []) (by kernel_rfl) ?_
        refine wpAnyL_pureD (i := 0) 34 (.int .i64 0) rfl rfl (by kernel_rfl) (by kernel_rfl) (by kernel_rfl) (fun _ _ _ h => h) (Or.inl ⟨by rfl, fun u _ => ?_⟩) ?_
        · go_simp
        try simp only [Act.put, List.setIfInBounds_toArray]
        refine wpAnyL_pureD (i := 1) 35 (.bool false) rfl rfl (by kernel_rfl) (by kernel_rfl) (by kernel_rfl) (fun _ _ _ h => h) (Or.inl ⟨by rfl, fun u _ => ?_⟩) ?_
        · go_simp
        try simp only [Act.put, List.setIfInBounds_toArray]
        refine wpAnyL_pureD (i := 2) 36 (.bool false) rfl rfl (by kernel_rfl) (by kernel_rfl) (by kernel_rfl) (fun _ _ _ h => h) (Or.inl ⟨by rfl, fun u _ => ?_⟩) ?_
        · go_simp
        try simp only [Act.put, List.setIfInBounds_toArray]
        refine wpAnyL_pureD (i := 3) 37 undef rfl rfl (by kernel_rfl) (by kernel_rfl) (by kernel_rfl) (fun _ _ _ h => h) (Or.inr ⟨by kernel_rfl, rfl⟩) ?_
        refine wpAnyL_pureD (i := 4) 38 undef rfl rfl (by kernel_rfl) (by kernel_rfl) (by kernel_rfl) (fun _ _ _ h => h) (Or.inr ⟨by kernel_rfl, rfl⟩) ?_
        refine wpAnyL_pureD (i := 5) 39 undef rfl rfl (by kernel_rfl) (by kernel_rfl) (by kernel_rfl) (fun _ _ _ h => h) (Or.inr ⟨by kernel_rfl, rfl⟩) ?_
        refine wpAnyL_pureD (i := 6) 40 undef rfl rfl (by kernel_rfl) (by kernel_rfl) (by kernel_rfl) (fun _ _ _ h => h) (Or.inr ⟨by kernel_rfl, rfl⟩) ?_
        refine wpAnyL_pureD (i := 7) 41 undef rfl rfl (by kernel_rfl) (by kernel_rfl) (by kernel_rfl) (fun _ _ _ h => h) (Or.inr ⟨by kernel_rfl, rfl⟩) ?_
        refine wpAnyL_pureD (i := 8) 42 undef rfl rfl (by kernel_rfl) (by kernel_rfl) (by kernel_rfl) (fun _ _ _ h => h) (Or.inr ⟨by kernel_rfl, rfl⟩) ?_
        refine wpAnyL_pureD (i := 9) 43 undef rfl rfl (by kernel_rfl) (by kernel_rfl) (by kernel_rfl) (fun _ _ _ h => h) (Or.inr ⟨by kernel_rfl, rfl⟩) ?_
        refine wpAnyL_pureD (i := 10) 44 undef rfl rfl (by kernel_rfl) (by kernel_rfl) (by kernel_rfl) (fun _ _ _ h => h) (Or.inr ⟨by kernel_rfl, rfl⟩) ?_
        refine wpAnyL_pureD (i := 11) 45 undef rfl rfl (by kernel_rfl) (by kernel_rfl) (by kernel_rfl) (fun _ _ _ h => h) (Or.inr ⟨by kernel_rfl, rfl⟩) ?_
        refine wpAnyL_pureD (i := 12) 46 undef rfl rfl (by kernel_rfl) (by kernel_rfl) (by kernel_rfl) (fun _ _ _ h => h) (Or.inr ⟨by kernel_rfl, rfl⟩) ?_
        refine wpAnyL_pureD (i := 13) 47 undef rfl rfl (by kernel_rfl) (by kernel_rfl) (by kernel_rfl) (fun _ _ _ h => h) (Or.inr ⟨by kernel_rfl, rfl⟩) ?_
        refine wpAnyL_pureD (i := 14) 48 (.bool false) rfl rfl (by kernel_rfl) (by kernel_rfl) (by kernel_rfl) (fun _ _ _ h => h) (Or.inl ⟨by kernel_rfl, fun u _ => ?_⟩) ?_
        · simp only [Act.put, List.setIfInBounds_toArray, List.set_cons_zero, List.set_cons_succ]
          go_simp
        refine wpAnyL_done (by kernel_rfl) ?_ _
        simp only [Act.put, List.setIfInBounds_toArray, List.set_cons_zero, List.set_cons_succ]
        have HOW2 := Lib.hid (own_keep HOW1.out (show Below w1.heap.size w1 w1.drew from (Below.refl _ _).drew))
        have hB2 : Below w.heap.size w w1.drew := hB1.drew
        obtain ⟨w2, hw2⟩ : ∃ w2, w2 = w1.drew := ⟨_, rfl⟩
        have hc2 : w2.cell? ⟨b, off, none⟩ = some (.string (sat L 0)) := by rw [hw2]; exact hc1
        rw [← hw2] at HOW2 hB2 ⊢
        clear hw2 hc1 HOW1 hB1 hbs
        have hbs := hB2.size
        obtain ⟨s, hs⟩ : ∃ s, s = sat L (0) := ⟨_, rfl⟩
        rw [← hs] at S hc2 hq0
        clear hs
        cases hkp : keep s with
        | true =>
          have hq : (s.toList == [49]) = false := by unfold keep at hkp; simpa using hkp
          rw [hkp] at S
          clear hkp
          go_wp2_with (at_builtin; refine wpList_append_own _ rfl _ _ 22 rfl w.heap.size 31 i0 (.string ⟨#[]⟩) 1 16 Tryz.underlying22 hi hz0 hz1 hz2 rfl (by decide) _ _ _ rfl (HOW2.out.alloc _) ⟨w2.heap.size, 0, none⟩ 1 1 [.string s] rfl rfl (lit_one _ _) (by simp [Value.oneCell']) (by unfold maxLen; omega) (by omega) (by rw [World.size_alloc]; omega) ?_; intro v1 w3 hown1 hgrow1 _)
          rw [← strs_one, ← strs_append] at hown1
          have HOW3 := Lib.hid hown1
          have hB3 : Below w.heap.size w w3 := below_push hB2 (fun k hk => (HOW2.out.lt k hk).1) hgrow1
          clear hown1 hgrow1
          go_wp2
          go_roundw
          case rel => exact ⟨1, by omega, by go_num, by rw [S.out, if_pos rfl, List.length_append]; exact HOW3.out, hB3⟩
          case measure => simp [intOf] <;> omega
        | false =>
          have hq : (s.toList == [49]) = true := by unfold keep at hkp; simpa using hkp
          rw [hkp] at S
          clear hkp
          go_wp2
          go_roundw
          case rel => exact ⟨1, by omega, by go_num, by rw [S.out, if_neg (by simp)]; exact HOW2.out, hB2⟩
          case measure => simp [intOf] <;> omega
      · obtain ⟨m, rfl⟩ : ∃ m, i = m + 1 := ⟨i - 1, by omega⟩
        clear h0
        have E := Lib.hid (fun w => D.out m rfl w)
        have hcm : w1.cell? ⟨b, off + m, none⟩ = some (.string (sat L m)) := by
          obtain ⟨b', off', he, _, hc'⟩ := H.out.keep hB1 m (by omega)
          simp only [Option.some.injEq, Addr.mk.injEq, and_true] at he
          obtain ⟨rfl, rfl⟩ := he
          exact hc'
        clear D
        go_wp2
        have hk2 : Below w1.heap.size w1 w1.drew := (Below.refl _ _).drew
        have HS : Hid (∀ x, Below w1.heap.size w1 x → (Below w1.heap.size w1 x ∧ x.cell? ⟨b, off + m, none⟩ = some (.string (sat L m)) ∧ x.cell? ⟨b, off + (m + 1), none⟩ = some (.string (sat L (m + 1))))) := fun x hx => ⟨hx, (hx.cell (p := ⟨b, off + m, none⟩) hb').trans hcm, (hx.cell (p := ⟨b, off + (m + 1), none⟩) hb').trans hc1⟩
        obtain ⟨_, f0, f1⟩ := HS.out _ hk2
        clear hcm hc1
        have g1 : (0 : Int) ≤ (m : Int) := by omega
        have g2 : (m : Int) < ((L.length : Nat) : Int) := by omega
        have g3 : (0 : Int) ≤ (m : Int) + 1 := by omega
        have g4 : (m : Int) + 1 < ((L.length : Nat) : Int) := by omega
        have g9 : IntKind.i64.wrap (m : Int) = (m : Int) := IntWalk.i64_in _ (by omega)
        go_region_held3 (fun x => Below w1.heap.size w1 x ∧ x.cell? ⟨b, off + m, none⟩ = some (.string (sat L m)) ∧ x.cell? ⟨b, off + (m + 1), none⟩ = some (.string (sat L (m + 1))))
    (first | exact HS.out _ (by assumption) | exact HS.out _ (Below.drew (by assumption)) | (refine HS.out _ ?_; exact Below.alloc hk2 hk2.size _))
    (first | (go_at_call 62; refine (E.out _).mono ?_; rintro e wz ⟨rfl, hbz⟩; have hk3 := hk2.trans (hbz.mono hk2.size); clear hbz hk2; have hk2 := hk3; clear hk3))
        rename_i hHeldz
        clear hHeldz
        have hB2 : Below w.heap.size w wz := hB1.trans (hk2.mono hB1.size)
        have HOW2 := Lib.hid (own_keep HOW1.out hk2)
        obtain ⟨_, _, hc2⟩ := HS.out _ hk2
        clear f0 f1 hk2 HOW1 hbs
        have hbs := hB2.size
        obtain ⟨s, hs⟩ : ∃ s, s = sat L (m + 1) := ⟨_, rfl⟩
        rw [← hs] at S hc2 hq0
        clear hs
        cases hkp : keep s with
        | true =>
          have hq : (s.toList == [49]) = false := by unfold keep at hkp; simpa using hkp
          rw [hkp] at S
          clear hkp
          go_wp2_with (at_builtin; refine wpList_append_own _ rfl _ _ 22 rfl w.heap.size 31 i0 (.string ⟨#[]⟩) 1 16 Tryz.underlying22 hi hz0 hz1 hz2 rfl (by decide) _ _ _ rfl (HOW2.out.alloc _) ⟨wz.heap.size, 0, none⟩ 1 1 [.string s] rfl rfl (lit_one _ _) (by simp [Value.oneCell']) (by unfold maxLen; omega) (by omega) (by rw [World.size_alloc]; omega) ?_; intro v1 w3 hown1 hgrow1 _)
          rw [← strs_one, ← strs_append] at hown1
          have HOW3 := Lib.hid hown1
          have hB3 : Below w.heap.size w w3 := below_push hB2 (fun k hk => (HOW2.out.lt k hk).1) hgrow1
          clear hown1 hgrow1
          go_wp2
          go_roundw
          case rel => exact ⟨m + 1 + 1, by omega, by go_num, by rw [S.out, if_pos rfl, List.length_append]; exact HOW3.out, hB3⟩
          case measure => simp [intOf] <;> omega
        | false =>
          have hq : (s.toList == [49]) = true := by unfold keep at hkp; simpa using hkp
          rw [hkp] at S
          clear hkp
          go_wp2
          go_roundw
          case rel => exact ⟨m + 1 + 1, by omega, by go_num, by rw [S.out, if_neg (by simp)]; exact HOW2.out, hB2⟩
          case measure => simp [intOf] <;> omega
    · obtain rfl : i = m + 1 := by omega
      obtain ⟨b, off, rfl, hb, hc0⟩ := (H.out.keep hB) (m + 1) hp
      go_wp2_with fail
      refine (HB.out _).mono ?_
      rintro e w1 ⟨rfl, hb1⟩
      have hB1 : Below w.heap.size w w1 := hB.trans (hb1.mono hB.size)
      have hc1 : w1.cell? ⟨b, off + (m + 1), none⟩ = some (.string (sat L (m + 1))) := (hb1.cell (p := ⟨b, off + (m + 1), none⟩) hb).trans hc0
      have hb' : b < w1.heap.size := Nat.lt_of_lt_of_le hb hb1.size
      clear hc0 hb1 hb
      go_wp2_with fail
      refine (HB2.out _).mono ?_
      rintro e w1' ⟨rfl, rfl⟩
      have hq0 := HZ.out
      have hcm : w1.cell? ⟨b, off + m, none⟩ = some (.string (sat L m)) := by
        obtain ⟨b', off', he, _, hc'⟩ := H.out.keep hB1 m (by omega)
        simp only [Option.some.injEq, Addr.mk.injEq, and_true] at he
        obtain ⟨rfl, rfl⟩ := he
        exact hc'
      go_wp2
      have hk2 : Below w1.heap.size w1 w1.drew := (Below.refl _ _).drew
      have HS : Hid (∀ x, Below w1.heap.size w1 x → (Below w1.heap.size w1 x ∧ x.cell? ⟨b, off + m, none⟩ = some (.string (sat L m)) ∧ x.cell? ⟨b, off + (m + 1), none⟩ = some (.string (sat L (m + 1))))) := fun x hx => ⟨hx, (hx.cell (p := ⟨b, off + m, none⟩) hb').trans hcm, (hx.cell (p := ⟨b, off + (m + 1), none⟩) hb').trans hc1⟩
      obtain ⟨_, f0, f1⟩ := HS.out _ hk2
      clear hcm hc1
      have g1 : (0 : Int) ≤ (m : Int) := by omega
      have g2 : (m : Int) < ((L.length : Nat) : Int) := by omega
      have g3 : (0 : Int) ≤ (m : Int) + 1 := by omega
      have g4 : (m : Int) + 1 < ((L.length : Nat) : Int) := by omega
      have g9 : IntKind.i64.wrap (m : Int) = (m : Int) := IntWalk.i64_in _ (by omega)
      go_region_held3 (fun x => Below w1.heap.size w1 x ∧ x.cell? ⟨b, off + m, none⟩ = some (.string (sat L m)) ∧ x.cell? ⟨b, off + (m + 1), none⟩ = some (.string (sat L (m + 1))))
    (first | exact HS.out _ (by assumption) | exact HS.out _ (Below.drew (by assumption)) | (refine HS.out _ ?_; exact Below.alloc hk2 hk2.size _))
    (first | (go_at_call 62; refine (HB3.out _).mono ?_; rintro e wz ⟨rfl, hbz⟩; have hk3 := hk2.trans (hbz.mono hk2.size); clear hbz hk2; have hk2 := hk3; clear hk3))
      rename_i hHeldz
      clear hHeldz
      have hB2 : Below w.heap.size w wz := hB1.trans (hk2.mono hB1.size)
      clear f0 f1 hk2
      go_wp2
      go_ret2
      exact ⟨rfl, hB2⟩

end Go.Proofs.YtnfmcdfdbipeoaaGreatDoor
