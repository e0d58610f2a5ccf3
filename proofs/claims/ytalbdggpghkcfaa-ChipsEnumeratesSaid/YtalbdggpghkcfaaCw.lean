/- Count of the reference. -/
import Derived.Test.YtalbdggpghkcfaaCv
namespace Go.Proofs.Ytalbdggpghkcfaa
open Go.RowKit Go.Proofs.Gr Go.Proofs.Cp
attribute [local go_sem] Oper.semAt_some

set_option maxHeartbeats 12800000 in
set_option maxRecDepth 100000 in
theorem rCount_any (N k : Nat) (hN : N < 12) (hk9 : k ≤ 1048576) (w : World) :
    Calls Try.prog 77 #[.int .i64 ((N + 1 : Nat) : Int), .int .i64 (k : Int)] w (fun e w' => e = .returned (.int .i64 (capN N k)) ∧ Below w.heap.size w w') := by
  have HCAP1 : Hid (N = 0 → capN N k = 1) := Lib.hid fun h => by subst h; rfl
  have HCAPL : Hid (N ≠ 0 → 16384 < k → capN N k = 16385) := Lib.hid fun h h' => by
    obtain ⟨m, rfl⟩ : ∃ m, N = m + 1 := ⟨N - 1, by omega⟩
    exact cap_large m k h'
  have HON0 := Lib.hid (ones_zero k)
  have HONS := Lib.hid (fun i hi => ones_set k i hi)
  have HONL := Lib.hid (fun i => ones_len k i)
  have HONA := Lib.hid (ones_all k)
  have HML := Lib.hid (fun m i => mix_len k m i)
  have HMS := Lib.hid (fun m i hi => mix_set k m i hi)
  have HMN := Lib.hid (fun m i hi => mix_new k m i hi)
  have HMO := Lib.hid (fun m i hi => mix_old k m i hi)
  have HMA : Hid (∀ m, mixL k m (k + 1) = mixL k (m + 1) 1) := Lib.hid fun m => by rw [mix_all, mix_one]
  have HMF : Hid (∀ m, iAt (mixL k m 1) k = capN m k) := Lib.hid fun m => by rw [mix_one, fnL_at _ _ _ (by omega)]
  have HST := Lib.hid (fun m j => cap_step m j)
  have HBD := Lib.hid (fun m j => cap_bd m j)
  generalize mixL k = MX at *
  generalize onesL k = OX at *
  by_cases h0 : N = 0
  · subst h0
    have HR := Lib.hid (HCAP1.out rfl)
    have d1 : (((0 + 1 : Nat) : Int) == 1) = true := by decide
    go_enter Try.func77, Try.ntmps77
    go_wp2
    go_ret
    exact ⟨by rw [HR.out]; rfl, Below.refl _ _⟩
  have d1 : (((N + 1 : Nat) : Int) == 1) = false := by rw [beq_eq_false_iff_ne]; omega
  by_cases hk : 16384 < k
  · have HR := Lib.hid (HCAPL.out h0 hk)
    have d2 : (16384 : Int) < (k : Int) := by omega
    go_enter Try.func77, Try.ntmps77
    go_wp2
    go_ret
    exact ⟨by rw [HR.out]; rfl, Below.refl _ _⟩
  have d2 : ¬ (16384 : Int) < (k : Int) := by omega
  have hmk : (Instr.makeSlice 22 (.int .i64 ((k + 1 : Nat) : Int)) (.int .i64 ((k + 1 : Nat) : Int))).run Try.prog w = .ok (.slice (some ⟨w.heap.size, 0, none⟩) (k + 1) (k + 1)) (w.alloc (.cells (flat encI (List.replicate (k + 1) 0)).toArray 3)) := make_ints (k + 1) (by omega) _
  rw [show ((k + 1 : Nat) : Int) = (k : Int) + 1 by omega] at hmk
  obtain ⟨W9, hW9⟩ : ∃ v, v = w.alloc (.cells (flat encI (List.replicate (k + 1) 0)).toArray 3) := ⟨_, rfl⟩
  obtain ⟨g, hgg⟩ : ∃ v, v = w.heap.size := ⟨_, rfl⟩
  have HRB : Hid (RowB encI 3 W9 g (OX 0)) := Lib.hid (by rw [HON0.out, hW9, hgg]; exact RowB.new _ _ _ _)
  have HBL : Hid (Below w.heap.size w W9) := Lib.hid (by rw [hW9]; exact (Below.refl _ _).alloc (Nat.le_refl _) _)
  have HGE : Hid (w.heap.size ≤ g) := Lib.hid (by rw [hgg]; exact Nat.le_refl _)
  rw [← hW9, ← hgg] at hmk
  have HKB : Hid (k ≤ 16384) := Lib.hid (by omega)
  clear hW9 hgg hk
  go_enter Try.func77, Try.ntmps77
  go_wp2
  go_loopw [6] (fun x wr => ∃ i : Nat, i ≤ k + 1 ∧ x = .int .i64 (i : Int) ∧ RowB encI 3 wr g (OX i) ∧ Below w.heap.size w wr) (fun x _ => k + 1 - (intOf x).toNat)
  case atStart => exact ⟨0, by omega, rfl, HRB.out, HBL.out⟩
  case round =>
    obtain ⟨i, hi, rfl, hp, hb⟩ := hrel
    have HB := Lib.hid hb
    by_cases hlt : i ≤ k
    · have i1 : (i : Int) ≤ (k : Int) := by omega
      have i2 : (0 : Int) ≤ (i : Int) := by omega
      have i3 : (i : Int) < ((k + 1 : Nat) : Int) := by omega
      have hkb := HKB.out
      have s1 := hp.cell i (by rw [HONL.out]; omega)
      have s2 : wr.frozen? ⟨g, i, none⟩ = false := Blk.frozen hp i
      have HPN : Hid (RowB encI 3 (wr.setCell ⟨g, i, none⟩ (.int .i64 1)) g (OX (i + 1))) := Lib.hid (by rw [← HONS.out i (by omega)]; exact hp.set i 1)
      have HBN : Hid (Below w.heap.size w (wr.setCell ⟨g, i, none⟩ (.int .i64 1))) := Lib.hid (hb.setCell (p := ⟨g, i, none⟩) HGE.out _)
      generalize iAt (OX i) i = old at s1
      clear hp hb
      go_wp2
      go_roundw
      case rel => exact ⟨i + 1, by omega, by go_num, HPN.out, HBN.out⟩
      case measure => simp [intOf]; omega
    · obtain rfl : i = k + 1 := by omega
      have i1 : ¬ ((k + 1 : Nat) : Int) ≤ (k : Int) := by omega
      rw [HONA.out] at hp
      have HP0 := Lib.hid hp
      clear hp hb
      go_wp2
      go_loopw [7] (fun x wr => ∃ m : Nat, m ≤ N ∧ x = .int .i64 ((m : Int) + 2) ∧ RowB encI 3 wr g (MX m 1) ∧ Below w.heap.size w wr) (fun x _ => N + 2 - (intOf x).toNat)
      case atStart => exact ⟨0, by omega, congrArg (Value.int .i64) (by omega), HP0.out, HB.out⟩
      case round =>
        obtain ⟨m, hm, rfl, hp, hb⟩ := hrel
        have HBm := Lib.hid hb
        have HPm := Lib.hid hp
        by_cases hlt : m < N
        · have j1 : (m : Int) + 2 ≤ (N : Int) + 1 := by omega
          clear hp hb
          go_wp2
          go_loopw [8] (fun x wr => ∃ i : Nat, i ≤ k ∧ x = .int .i64 ((i : Int) + 1) ∧ RowB encI 3 wr g (MX m (i + 1)) ∧ Below w.heap.size w wr) (fun x _ => k + 1 - (intOf x).toNat)
          case atStart => exact ⟨0, by omega, congrArg (Value.int .i64) (by omega), HPm.out, HBm.out⟩
          case round =>
            obtain ⟨i, hi, rfl, hp, hb⟩ := hrel
            have HBi := Lib.hid hb
            have HPi := Lib.hid hp
            by_cases hlt2 : i < k
            · have j2 : (i : Int) + 1 ≤ (k : Int) := by omega
              have j3 : ((i + 1 : Nat) : Int) < ((k + 1 : Nat) : Int) := by omega
              have j4 : (i : Int) < ((k + 1 : Nat) : Int) := by omega
              have j5 : (0 : Int) ≤ ((i + 1 : Nat) : Int) := by omega
              have j6 : (0 : Int) ≤ (i : Int) + 1 := by omega
              have j7 : (i : Int) + 1 < (k : Int) + 1 := by omega
              have j8 : (i : Int) < (k : Int) + 1 := by omega
              have j9 : (0 : Int) ≤ (i : Int) := by omega
              have s1 := hp.cell (i + 1) (by rw [HML.out]; omega)
              have s3 := hp.cell i (by rw [HML.out]; omega)
              rw [HMN.out m i hlt2] at s1
              rw [HMO.out m i hlt2] at s3
              have s2 : wr.frozen? ⟨g, i + 1, none⟩ = false := Blk.frozen hp (i + 1)
              have HU1 := Lib.hid (HBD.out m (i + 1))
              have HU2 := Lib.hid (HBD.out (m + 1) i)
              have HPN : Hid (RowB encI 3 (wr.setCell ⟨g, i + 1, none⟩ (.int .i64 (min (capN m (i + 1) + capN (m + 1) i) 16385))) g (MX m (i + 1 + 1))) := Lib.hid (by rw [HST.out, ← HMS.out m i hlt2]; exact hp.set _ _)
              have HBN : Hid (Below w.heap.size w (wr.setCell ⟨g, i + 1, none⟩ (.int .i64 (min (capN m (i + 1) + capN (m + 1) i) 16385)))) := Lib.hid (hb.setCell (p := ⟨g, i + 1, none⟩) HGE.out _)
              have HS : Hid (∀ u, Below wr.heap.size wr u → u.cell? ⟨g, i + 1, none⟩ = some (.int .i64 (capN m (i + 1))) ∧ u.cell? ⟨g, i, none⟩ = some (.int .i64 (capN (m + 1) i))) := Lib.hid fun u hu => ⟨(hu.cell (p := ⟨g, i + 1, none⟩) hp.lt).trans s1, (hu.cell (p := ⟨g, i, none⟩) hp.lt).trans s3⟩
              generalize capN m (i + 1) = u1 at *
              generalize capN (m + 1) i = u2 at *
              have hu1 := HU1.out
              have hu2 := HU2.out
              have hkb := HKB.out
              clear hp hb s3
              go_wp2
              have hj0 : Below wr.heap.size wr wr.drew := (Below.refl _ _).drew
              refine wp_region_late (S := fun u => Below wr.heap.size wr u) (X := [14]) (by kernel_rfl) ?_
              refine wpAnyL_pureD (i := 0) 34 (.slice (some ⟨g, 0, none⟩) (k + 1) (k + 1)) rfl rfl (by kernel_rfl) (by kernel_rfl) (by kernel_rfl) (fun _ _ _ h => h) (Or.inl ⟨by rfl, fun u _ => ?_⟩) ?_
              · go_simp
              try simp only [Act.put, List.setIfInBounds_toArray, List.set_cons_zero, List.set_cons_succ]
              refine wpAnyL_pureD (i := 1) 35 (.int .i64 ((i : Int) + 1)) rfl rfl (by kernel_rfl) (by kernel_rfl) (by kernel_rfl) (fun _ _ _ h => h) (Or.inl ⟨by rfl, fun u _ => ?_⟩) ?_
              · go_simp
              try simp only [Act.put, List.setIfInBounds_toArray, List.set_cons_zero, List.set_cons_succ]
              refine wpAnyL_pureD (i := 2) 36 (.slice (some ⟨g, 0, none⟩) (k + 1) (k + 1)) rfl rfl (by kernel_rfl) (by kernel_rfl) (by kernel_rfl) (fun _ _ _ h => h) (Or.inl ⟨by rfl, fun u _ => ?_⟩) ?_
              · go_simp
              try simp only [Act.put, List.setIfInBounds_toArray, List.set_cons_zero, List.set_cons_succ]
              refine wpAnyL_pureD (i := 3) 37 (.int .i64 ((i : Int) + 1)) rfl rfl (by kernel_rfl) (by kernel_rfl) (by kernel_rfl) (fun _ _ _ h => h) (Or.inl ⟨by rfl, fun u _ => ?_⟩) ?_
              · go_simp
              try simp only [Act.put, List.setIfInBounds_toArray, List.set_cons_zero, List.set_cons_succ]
              refine wpAnyL_pureD (i := 4) 38 (.pointer (some ⟨g, i + 1, none⟩)) rfl rfl (by kernel_rfl) (by kernel_rfl) (by kernel_rfl) (fun _ _ _ h => h) (Or.inl ⟨by rfl, fun u _ => ?_⟩) ?_
              · go_simp
              try simp only [Act.put, List.setIfInBounds_toArray, List.set_cons_zero, List.set_cons_succ]
              refine wpAnyL_takeD (i := 5) 39 (.int .i64 u1) rfl rfl (by kernel_rfl) (by kernel_rfl) (by kernel_rfl) (by kernel_rfl) (by kernel_rfl) (fun _ _ _ h => h) hj0 (Or.inl ⟨by rfl, fun u hu => ?_⟩) ?_
              · obtain ⟨t0, t1⟩ := HS.out u hu
                go_simp
              try simp only [Act.put, List.setIfInBounds_toArray, List.set_cons_zero, List.set_cons_succ]
              refine wpAnyL_pureD (i := 6) 40 (.slice (some ⟨g, 0, none⟩) (k + 1) (k + 1)) rfl rfl (by kernel_rfl) (by kernel_rfl) (by kernel_rfl) (fun _ _ _ h => h) (Or.inl ⟨by rfl, fun u _ => ?_⟩) ?_
              · go_simp
              try simp only [Act.put, List.setIfInBounds_toArray, List.set_cons_zero, List.set_cons_succ]
              refine wpAnyL_pureD (i := 7) 41 (.int .i64 ((i : Int) + 1)) rfl rfl (by kernel_rfl) (by kernel_rfl) (by kernel_rfl) (fun _ _ _ h => h) (Or.inl ⟨by rfl, fun u _ => ?_⟩) ?_
              · go_simp
              try simp only [Act.put, List.setIfInBounds_toArray, List.set_cons_zero, List.set_cons_succ]
              refine wpAnyL_pureD (i := 8) 42 (.int .i64 (i : Int)) rfl rfl (by kernel_rfl) (by kernel_rfl) (by kernel_rfl) (fun _ _ _ h => h) (Or.inl ⟨by rfl, fun u _ => ?_⟩) ?_
              · go_simp
                try (rw [IntKind.wrap_i64]; omega)
              try simp only [Act.put, List.setIfInBounds_toArray, List.set_cons_zero, List.set_cons_succ]
              refine wpAnyL_pureD (i := 9) 43 (.pointer (some ⟨g, i, none⟩)) rfl rfl (by kernel_rfl) (by kernel_rfl) (by kernel_rfl) (fun _ _ _ h => h) (Or.inl ⟨by rfl, fun u _ => ?_⟩) ?_
              · go_simp
              try simp only [Act.put, List.setIfInBounds_toArray, List.set_cons_zero, List.set_cons_succ]
              refine wpAnyL_takeD (i := 10) 44 (.int .i64 u2) rfl rfl (by kernel_rfl) (by kernel_rfl) (by kernel_rfl) (by kernel_rfl) (by kernel_rfl) (fun _ _ _ h => h) hj0 (Or.inl ⟨by rfl, fun u hu => ?_⟩) ?_
              · obtain ⟨t0, t1⟩ := HS.out u hu
                go_simp
              try simp only [Act.put, List.setIfInBounds_toArray, List.set_cons_zero, List.set_cons_succ]
              refine wpAnyL_pureD (i := 11) 45 (.int .i64 (u1 + u2)) rfl rfl (by kernel_rfl) (by kernel_rfl) (by kernel_rfl) (fun _ _ _ h => h) (Or.inl ⟨by rfl, fun u _ => ?_⟩) ?_
              · go_simp
                try (rw [IntKind.wrap_i64]; omega)
              try simp only [Act.put, List.setIfInBounds_toArray, List.set_cons_zero, List.set_cons_succ]
              refine wpAnyL_pureD (i := 12) 46 (.int .i64 (min (u1 + u2) 16385)) rfl rfl (by kernel_rfl) (by kernel_rfl) (by kernel_rfl) (fun _ _ _ h => h) (Or.inl ⟨by rfl, fun u _ => ?_⟩) ?_
              · go_simp
              try simp only [Act.put, List.setIfInBounds_toArray, List.set_cons_zero, List.set_cons_succ]
              refine wpAnyL_pureD (i := 13) 47 (.pointer (some ⟨g, i + 1, none⟩)) rfl rfl (by kernel_rfl) (by kernel_rfl) (by kernel_rfl) (fun _ _ _ h => h) (Or.inl ⟨by rfl, fun u _ => ?_⟩) ?_
              · go_simp
              try simp only [Act.put, List.setIfInBounds_toArray, List.set_cons_zero, List.set_cons_succ]
              refine wpAnyL_one (i := 14) (by kernel_rfl) rfl (fun K hK => ?_)
              go_simp
              refine hK.out _ _ (fun h => absurd (by decide) h) ?_
              clear hK K
              refine wpAnyL_done (by kernel_rfl) ?_ _
              try simp only [Act.put, List.setIfInBounds_toArray, List.set_cons_zero, List.set_cons_succ]
              clear hj0 s1 s2
              go_wp2
              go_roundw
              case rel => exact ⟨i + 1, by omega, congrArg (Value.int .i64) (by omega), HPN.out, HBN.out.drew⟩
              case measure => simp [intOf]; omega
            · obtain rfl : i = k := by omega
              have j2 : ¬ (i : Int) + 1 ≤ (i : Int) := by omega
              rw [HMA.out] at hp
              have HPN := Lib.hid hp
              clear hp hb
              go_wp2
              go_roundw
              case rel => exact ⟨m + 1, by omega, congrArg (Value.int .i64) (by omega), HPN.out, HBi.out⟩
              case measure => simp [intOf]; omega
        · obtain rfl : m = N := by omega
          have j1 : ¬ (m : Int) + 2 ≤ (m : Int) + 1 := by omega
          have j3 : (k : Int) < ((k + 1 : Nat) : Int) := by omega
          have j5 : (0 : Int) ≤ (k : Int) := by omega
          have s1 := hp.cell k (by rw [HML.out]; omega)
          rw [HMF.out] at s1
          clear hp hb
          go_wp2
          go_ret
          exact ⟨rfl, HBm.out⟩
end Go.Proofs.Ytalbdggpghkcfaa
