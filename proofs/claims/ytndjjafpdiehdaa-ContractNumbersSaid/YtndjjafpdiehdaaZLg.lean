/- The reference: errors of divisors; divisors that are the same; divisors that are spread. -/
import Derived.Test.YtndjjafpdiehdaaZLf
import Derived.Test.YtndjjafpdiehdaaQ18
import Derived.Lib.AppendZerosOnto
import Derived.Lib.AppendZeros
namespace Go.Proofs.Ytndjjafpdiehdaa
open Go.RowKit Go.Shelf Go.Proofs.Gr
attribute [local go_sem] Oper.semAt_some

set_option maxHeartbeats 12800000 in
set_option maxRecDepth 100000 in
theorem rchips_any (n : Int) (a : Option Addr) (cap : Nat) (L : List E) (b : Option Addr) (c : Nat) (D : List Int) (hD : D.length ≤ 100000) (w : World) (h : EsAt w a L) (hd : IsAt w b D) :
    Calls Try.prog 74 #[gv n a L.length cap, .slice b D.length c] w (GivesN w (dvE n D : Nat)) := by
  have HT := Lib.hid (fun i h1 h2 h3 => all_take (D := D) (i := i) h1 h2 h3)
  have HBD := Lib.hid (fun i h1 h2 => all_bad (D := D) (i := i) h1 h2)
  have HTA : Hid ((D.take D.length).all rngD = D.all rngD) := Lib.hid (by rw [List.take_length])
  have HK : Hid (dvE n D = if (D.length : Int) ≠ n then 8 else if D.all rngD = true then 0 else 2) := Lib.hid rfl
  have HRD : Hid (∀ v, rngD v = (decide (-1048576 ≤ v) && decide (v ≤ 1048576))) := Lib.hid fun v => rfl
  generalize dvE n D = K at *
  unfold GivesN gv
  obtain ⟨W, hW⟩ : ∃ W, W = w.alloc (Obj.cells #[.int .i64 n, .slice a L.length cap] 24) := ⟨_, rfl⟩
  have hB0 : Below w.heap.size w W := by rw [hW]; exact (Below.refl _ w).alloc (Nat.le_refl _) _
  have hG : Blk W w.heap.size 24 #[.int .i64 n, .slice a L.length cap] := by rw [hW]; exact Blk.new _ _ _
  have hWs : W.heap.size = w.heap.size + 1 := by rw [hW]; simp
  have HW := Lib.hid hW
  have HWS := Lib.hid hWs
  have HB0 := Lib.hid hB0
  have HE := Lib.hid (h.keep hB0)
  have HF : Hid (∀ u, Below W.heap.size W u → u.cell? ⟨w.heap.size, 0, none⟩ = some (.int .i64 n) ∧ u.cell? ⟨w.heap.size, 1, none⟩ = some (.slice a L.length cap)) := Lib.hid fun u hu => ⟨(hG.below hu hG.lt).cell 0, (hG.below hu hG.lt).cell 1⟩
  obtain ⟨g0, g1⟩ := HF.out W (Below.refl _ _)
  have HD := Lib.hid (hd.keep hB0)
  clear hd hB0 hG hW hWs h
  by_cases hn : (D.length : Int) = n
  · have d1 : ((D.length : Int) != n) = false := by simpa using hn
    go_enter Try.func74, Try.ntmps74
    go_wp2
    rw [← HW.out]
    clear g0 g1
    go_loopw [5] (fun x wr => ∃ i : Nat, i ≤ D.length ∧ x = .int .i64 i ∧ (D.take i).all rngD = true ∧ Below W.heap.size W wr) (fun x _ => D.length - (intOf x).toNat)
    case atStart => exact ⟨0, by omega, rfl, by simp, Below.refl _ _⟩
    case round =>
      obtain ⟨i, hi, rfl, hall, hb⟩ := hrel
      by_cases hlt : i < D.length
      · have i1 : (i : Int) < (D.length : Int) := by omega
        have i2 : (0 : Int) ≤ (i : Int) := by omega
        obtain ⟨b1, o1, hbb, q1, x1⟩ := (HD.out.keep hb).one i hlt
        subst hbb
        have HAL := Lib.hid hall
        have HBr := Lib.hid hb
        have HTi := Lib.hid (HT.out i hlt)
        have HBi := Lib.hid (HBD.out i hlt)
        have HRv := Lib.hid (HRD.out (iAt D i))
        generalize iAt D i = v at *
        generalize rngD v = RG at *
        clear hall hb
        by_cases h1 : v < -1048576
        · have d2 : decide (v < -1048576) = true := decide_eq_true h1
          have HKv : Hid (K = 2) := Lib.hid (by rw [HK.out, if_neg (by omega), HBi.out (by rw [HRv.out, decide_eq_false (by omega)]; rfl)]; rfl)
          have HEND := Lib.hid (HB0.out.trans (HBr.out.mono HB0.out.size))
          go_wp2
          go_ret
          exact ⟨by rw [HKv.out]; rfl, HEND.out⟩
        · have d2 : decide (v < -1048576) = false := decide_eq_false h1
          by_cases h2 : 1048576 < v
          · have d3 : decide (1048576 < v) = true := decide_eq_true h2
            have HKv : Hid (K = 2) := Lib.hid (by rw [HK.out, if_neg (by omega), HBi.out (by rw [HRv.out, decide_eq_false (p := v ≤ 1048576) (by omega), Bool.and_false])]; rfl)
            have HEND := Lib.hid (HB0.out.trans (HBr.out.mono HB0.out.size))
            go_wp2
            go_ret
            exact ⟨by rw [HKv.out]; rfl, HEND.out⟩
          · have d3 : decide (1048576 < v) = false := decide_eq_false h2
            have HTn : Hid ((D.take (i + 1)).all rngD = true) := Lib.hid (HTi.out HAL.out (by rw [HRv.out, decide_eq_true (by omega), decide_eq_true (by omega)]; rfl))
            go_wp2
            go_roundw
            case rel => exact ⟨i + 1, by omega, by go_num, HTn.out, HBr.out⟩
            case measure => simp [intOf]; omega
      · obtain rfl : i = D.length := by omega
        have i1 : ¬ (D.length : Int) < (D.length : Int) := by omega
        have HKv : Hid (K = 0) := Lib.hid (by rw [HK.out, if_neg (by omega), ← HTA.out, hall]; rfl)
        have HEND := Lib.hid (HB0.out.trans (hb.mono HB0.out.size))
        clear hall hb
        go_wp2
        go_ret
        exact ⟨by rw [HKv.out]; rfl, HEND.out⟩
  · have d1 : ((D.length : Int) != n) = true := by rw [bne_iff_ne]; exact hn
    have HKv : Hid (K = 8) := Lib.hid (by rw [HK.out, if_pos hn])
    have HEND := Lib.hid HB0.out
    go_enter Try.func74, Try.ntmps74
    go_wp2
    rw [← HW.out]
    go_ret
    exact ⟨by rw [HKv.out]; rfl, HEND.out⟩
set_option maxHeartbeats 12800000 in
set_option maxRecDepth 100000 in
theorem rsameD_true (a b : Option Addr) (c d : Nat) (D : List Int) (hD : D.length ≤ 100000) (w : World) (h1 : IsAt w a D) (h2 : IsAt w b D) :
    Calls Try.prog 29 #[.slice a D.length c, .slice b D.length d] w (fun e w' => e = .returned (.bool true) ∧ Below w.heap.size w w') := by
  have d1 : ((D.length : Int) != (D.length : Int)) = false := by simp
  have H1 := Lib.hid h1
  have H2 := Lib.hid h2
  clear h1 h2
  go_enter Try.func29, Try.ntmps29
  go_wp2
  go_loopw [5] (fun x wr => ∃ i : Nat, i ≤ D.length ∧ x = .int .i64 i ∧ Below w.heap.size w wr) (fun x _ => D.length - (intOf x).toNat)
  case atStart => exact ⟨0, by omega, rfl, Below.refl _ _⟩
  case round =>
    obtain ⟨i, hi, rfl, hb⟩ := hrel
    by_cases hlt : i < D.length
    · have i1 : (i : Int) < (D.length : Int) := by omega
      have i2 : (0 : Int) ≤ (i : Int) := by omega
      obtain ⟨b1, o1, hb1, q1, x1⟩ := (H1.out.keep hb).one i hlt
      obtain ⟨b2, o2, hb2, q2, x2⟩ := (H2.out.keep hb).one i hlt
      subst hb1 hb2
      have HXY : Hid (∀ u, Below wr.heap.size wr u → u.cell? ⟨b1, o1 + i, none⟩ = some (.int .i64 (iAt D i)) ∧ u.cell? ⟨b2, o2 + i, none⟩ = some (.int .i64 (iAt D i))) := Lib.hid fun u hu => by
        obtain ⟨b3, o3, e1, -, y1⟩ := (H1.out.keep (hb.trans (hu.mono hb.size))).one i hlt
        obtain ⟨b4, o4, e2, -, y2⟩ := (H2.out.keep (hb.trans (hu.mono hb.size))).one i hlt
        injection e1 with e1; injection e1 with e3 e4
        injection e2 with e2; injection e2 with e5 e6
        subst e3 e4 e5 e6
        exact ⟨y1, y2⟩
      have HBr := Lib.hid hb
      clear hb x1 x2
      generalize iAt D i = z at *
      have d2 : (z != z) = false := by simp
      go_wp2
      have hj0 : Below wr.heap.size wr wr.drew := (Below.refl _ _).drew
      refine wp_region_late (S := fun u => Below wr.heap.size wr u) (X := []) (by kernel_rfl) ?_
      refine wpAnyL_pureD (i := 0) 17 (.slice (some ⟨b1, o1, none⟩) D.length c) rfl rfl (by kernel_rfl) (by kernel_rfl) (by kernel_rfl) (fun _ _ _ h => h) (Or.inl ⟨by rfl, fun u _ => ?_⟩) ?_
      · go_simp
      try simp only [Act.put, List.setIfInBounds_toArray, List.set_cons_zero, List.set_cons_succ]
      refine wpAnyL_pureD (i := 1) 18 (.int .i64 i) rfl rfl (by kernel_rfl) (by kernel_rfl) (by kernel_rfl) (fun _ _ _ h => h) (Or.inl ⟨by rfl, fun u _ => ?_⟩) ?_
      · go_simp
      try simp only [Act.put, List.setIfInBounds_toArray, List.set_cons_zero, List.set_cons_succ]
      refine wpAnyL_pureD (i := 2) 19 (.pointer (some ⟨b1, o1 + i, none⟩)) rfl rfl (by kernel_rfl) (by kernel_rfl) (by kernel_rfl) (fun _ _ _ h => h) (Or.inl ⟨by rfl, fun u _ => ?_⟩) ?_
      · go_simp
      try simp only [Act.put, List.setIfInBounds_toArray, List.set_cons_zero, List.set_cons_succ]
      refine wpAnyL_takeD (i := 3) 20 (.int .i64 z) rfl rfl (by kernel_rfl) (by kernel_rfl) (by kernel_rfl) (by kernel_rfl) (by kernel_rfl) (fun _ _ _ h => h) hj0 (Or.inl ⟨by rfl, fun u hu => ?_⟩) ?_
      · obtain ⟨t0, t1⟩ := HXY.out u hu
        go_simp
      try simp only [Act.put, List.setIfInBounds_toArray, List.set_cons_zero, List.set_cons_succ]
      refine wpAnyL_pureD (i := 4) 21 (.slice (some ⟨b2, o2, none⟩) D.length d) rfl rfl (by kernel_rfl) (by kernel_rfl) (by kernel_rfl) (fun _ _ _ h => h) (Or.inl ⟨by rfl, fun u _ => ?_⟩) ?_
      · go_simp
      try simp only [Act.put, List.setIfInBounds_toArray, List.set_cons_zero, List.set_cons_succ]
      refine wpAnyL_pureD (i := 5) 22 (.int .i64 i) rfl rfl (by kernel_rfl) (by kernel_rfl) (by kernel_rfl) (fun _ _ _ h => h) (Or.inl ⟨by rfl, fun u _ => ?_⟩) ?_
      · go_simp
      try simp only [Act.put, List.setIfInBounds_toArray, List.set_cons_zero, List.set_cons_succ]
      refine wpAnyL_pureD (i := 6) 23 (.pointer (some ⟨b2, o2 + i, none⟩)) rfl rfl (by kernel_rfl) (by kernel_rfl) (by kernel_rfl) (fun _ _ _ h => h) (Or.inl ⟨by rfl, fun u _ => ?_⟩) ?_
      · go_simp
      try simp only [Act.put, List.setIfInBounds_toArray, List.set_cons_zero, List.set_cons_succ]
      refine wpAnyL_takeD (i := 7) 24 (.int .i64 z) rfl rfl (by kernel_rfl) (by kernel_rfl) (by kernel_rfl) (by kernel_rfl) (by kernel_rfl) (fun _ _ _ h => h) hj0 (Or.inl ⟨by rfl, fun u hu => ?_⟩) ?_
      · obtain ⟨t0, t1⟩ := HXY.out u hu
        go_simp
      try simp only [Act.put, List.setIfInBounds_toArray, List.set_cons_zero, List.set_cons_succ]
      refine wpAnyL_pureD (i := 8) 25 (.bool false) rfl rfl (by kernel_rfl) (by kernel_rfl) (by kernel_rfl) (fun _ _ _ h => h) (Or.inl ⟨by rfl, fun u _ => ?_⟩) ?_
      · go_simp
      try simp only [Act.put, List.setIfInBounds_toArray, List.set_cons_zero, List.set_cons_succ]
      refine wpAnyL_done (by kernel_rfl) ?_ _
      try simp only [Act.put, List.setIfInBounds_toArray, List.set_cons_zero, List.set_cons_succ]
      have HBN := Lib.hid (HBr.out.trans (hj0.mono HBr.out.size))
      clear hj0
      go_wp2
      go_roundw
      case rel => exact ⟨i + 1, by omega, by go_num, HBN.out⟩
      case measure => simp [intOf]; omega
    · obtain rfl : i = D.length := by omega
      have i1 : ¬ (D.length : Int) < (D.length : Int) := by omega
      have HEND := Lib.hid hb
      clear hb
      go_wp2
      go_ret
      exact ⟨rfl, HEND.out⟩
theorem zeroCells_int (k : Nat) : Builtin.zeroCells (Value.int .i64 0).cells k = Array.replicate k (.int .i64 0) := by
  apply Array.ext'
  simp [Builtin.zeroCells, Value.cells, Nat.mod_one, List.map_const']
/-- Appending zeros to a list of one's own. -/
theorem append_zeros (w : World) (B : Nat) (g c : Nat) (D : List Int) (k : Nat) (hs : D.length + k ≤ 1000000) (ty : TypeId) (hown : w.ownsRow B 3 1 (.slice (some ⟨g, 0, none⟩) D.length c) D.length (flat encI D)) :
    ∃ a' c' w', (Builtin.append_ #[48, 3] ty #[.slice (some ⟨g, 0, none⟩) D.length c, .int .i64 (k : Int)]).run Try.prog w = .ok (.slice a' (D.length + k) c') w' ∧ IsAt w' a' (D ++ List.replicate k 0) ∧ ∀ v, Below B v w → Below B v w' := by
  obtain ⟨i0, hi0, hz0, hz1, hz2⟩ := info_parts infoI
  have hlt := hown.lt g rfl
  obtain ⟨a2, c2, hv2, hrow⟩ := RowAt.of_own encI_len hown
  injection hv2 with e1 e2 e3
  subst e1 e3
  have hcell := fun j v hj => hrow.cells (by decide) encI_len j v hj
  rcases hown.2 with ⟨h, _⟩ | ⟨g', c', cur, hv, hbase, hg, hn, hcap, hcur, htake⟩
  · cases h
  injection hv with e1 e2 e3
  injection e1 with e1
  injection e1 with e1
  subst e1 e3
  have hw : IntKind.i64.wrap (k : Int) = k := by rw [IntKind.wrap_i64]; omega
  have hneg : ¬ ((k : Int) < 0) := by omega
  have h48i : ¬ (281474976710656 < (k : Int) * (i0.bytes : Int)) := by rw [hz2]; omega
  by_cases hk : k = 0
  · subst hk
    refine ⟨_, c, w, ?_, by simpa using hrow, fun v h => h⟩
    have hfit : D.length ≤ c := hn
    have hw0 : IntKind.i64.wrap 0 = 0 := by decide
    simp [Builtin.append_, run_underlying Try.underlying48, run_underlying Try.underlying3, sizeOf, typeInfo, hi0, asInt, asIntOf, hw0, hfit, storeCells]
  by_cases hfit : D.length + k ≤ c
  · have hc : ∀ j, j < (List.replicate k (Value.int .i64 0)).length → (w.cell? ⟨g, D.length + j, none⟩).isSome = true := fun j hj => by
      rw [List.length_replicate] at hj
      have hb : Blk w g 3 cur := hg
      rw [hb.cell, Array.getElem?_eq_getElem (by omega)]; rfl
    have hf : ∀ j, j < (List.replicate k (Value.int .i64 0)).length → w.frozen? ⟨g, D.length + j, none⟩ = false := fun j _ => by
      have hb : Blk w g 3 cur := hg
      exact hb.frozen _
    have hst := run_storeCells_cells (P := Try.prog) g D.length (List.replicate k (Value.int .i64 0)) 0 w (by simpa using hc) (by simpa using hf) (fun u hu => by rw [List.mem_replicate] at hu; rw [hu.2]; rfl)
    simp only [Nat.add_zero] at hst
    refine ⟨some ⟨g, 0, none⟩, c, w.setCells g D.length (List.replicate k (.int .i64 0)), ?_, ?_, fun v h => h.grown (grown_setCells g _ _ w) (by omega) (fun k hk => by injection hk with hk; omega)⟩
    · have hns : ¬ (k * i0.size = 0) := by rw [hz1]; omega
      simp [Builtin.append_, run_underlying Try.underlying48, run_underlying Try.underlying3, sizeOf, typeInfo, zeroValue, hi0, hz0, hz1, asInt, asIntOf, hw, hneg, h48i, hfit, hk, zeroCells_int, Addr.add_lit, hst]
    · intro j hj
      rw [List.length_append, List.length_replicate] at hj
      refine ⟨g, 0, rfl, Nat.lt_of_lt_of_le hlt.2 (grown_setCells g _ _ w).size, fun i hi => ?_⟩
      obtain rfl : i = 0 := by omega
      rw [Nat.mul_one, Nat.add_zero, Nat.zero_add]
      by_cases h1 : j < D.length
      · rw [World.cell?_setCells_out g _ _ w ⟨g, j, none⟩ (fun _ _ => .inl h1)]
        obtain ⟨b', o', he, -, hx⟩ := hrow j h1
        simp only [Option.some.injEq, Addr.mk.injEq] at he
        obtain ⟨rfl, rfl, -⟩ := he
        have := hx 0 (by omega)
        rw [Nat.mul_one, Nat.add_zero, Nat.zero_add] at this
        rw [this, List.getElem_append_left h1]
      · have h2 := World.cell?_setCells_in g (List.replicate k (Value.int .i64 0)) D.length w hc (j - D.length) (by rw [List.length_replicate]; omega)
        rw [show D.length + (j - D.length) = j by omega] at h2
        rw [h2, List.getElem_append_right (by omega), List.getElem_replicate, List.getElem_replicate]; rfl
  · have hold := run_firstCells_some (P := Try.prog) w.drew i0.size D.length ⟨g, 0, none⟩ D.length c (flat encI D) (by rw [flat_len encI_len, hz1]) (by simpa using hcell)
    have hzc := zeroCells_int
    have hr := Go.Lib.run_append_grow_zeros (P := Try.prog) w 48 3 ty 3 i0 (.int .i64 0) .i64 .i64 Try.underlying48 Try.underlying3 hi0 hz0 (some ⟨g, 0, none⟩) D.length c (flat encI D) hold k (by omega) (by omega) (by omega) (by omega) (by rw [hz2]; omega) (by
      rw [hz2]
      have := nextslicecap_le (need := D.length + k) (old := c) (by omega)
      omega)
    refine ⟨_, _, _, hr, ?_, fun v h => h.drew.alloc (by have := h.size; simp; omega) _⟩
    intro j hj
    rw [List.length_append, List.length_replicate] at hj
    refine ⟨w.heap.size, 0, rfl, by simp, fun i hi => ?_⟩
    obtain rfl : i = 0 := by omega
    rw [Nat.mul_one, Nat.add_zero, Nat.zero_add]
    have hfl : (flat encI D).length = D.length := by rw [flat_len encI_len, Nat.mul_one]
    have hb := (Blk.new w.drew 3 ((flat encI D).toArray ++ Builtin.zeroCells (Value.int .i64 0).cells k ++ Builtin.zeroCells (Value.int .i64 0).cells (grownCap w (D.length + k) c 3 - (D.length + k)))).cell j
    refine hb.trans ?_
    rw [hzc, Array.getElem?_append_left (by simp [hfl]; omega)]
    by_cases h1 : j < D.length
    · rw [Array.getElem?_append_left (by simp [hfl]; omega), List.getElem_append_left h1]
      have := flat_at encI_len D j 0 h1 (by omega)
      rw [Nat.mul_one, Nat.add_zero] at this
      simpa using this
    · rw [Array.getElem?_append_right (by simp [hfl]; omega), List.getElem_append_right (by omega), List.getElem_replicate]
      rw [Array.getElem?_replicate, if_pos (by simp [hfl]; omega)]; rfl
end Go.Proofs.Ytndjjafpdiehdaa
