/- Sortings, by the reference. -/
import Derived.Test.YtlnaahkheankoaaZAe
import Derived.Test.YtlnaahkheankoaaQ09
import Derived.Test.YtlnaahkheankoaaQ07
import Derived.Test.YtlnaahkheankoaaQ00
namespace Go.Proofs.Ytlnaahkheankoaa
open Go.RowKit Go.Shelf Go.Proofs.Gr
attribute [local go_sem] Oper.semAt_some

set_option maxHeartbeats 12800000 in
set_option maxRecDepth 100000 in
theorem rfree_any (p : Option Addr) (pc : Nat) (P : List (Int × Int)) (hP : P.length ≤ 5000000) (b : Option Addr) (c : Nat) (O : List Bool) (hl : P.length = O.length) (s : Option Addr) (d : Nat) (Z : List Int) (hZ : Z.length ≤ 100000) (v : Int) (w : World) (hp : PsAt w p P) (ho : BsAt w b O) (hz : IsAt w s Z) :
    Calls Try.prog 101 #[.slice p P.length pc, .slice b O.length c, .slice s Z.length d, .int .i64 v] w (GivesB w (freeB (arcs P O) Z v)) := by
  have HHD := Lib.hid (fun p q x w => rhead_any p q x w)
  have HTL := Lib.hid (fun p q x w => rtail_any p q x w)
  have HHO := Lib.hid (fun v w h => holds_any s d Z hZ v w h)
  have HPA := Lib.hid hp
  have HOB := Lib.hid ho
  have HZA := Lib.hid hz
  have HOL := Lib.hid hl
  have HY : Hid ((∀ j, j < P.length → badB (arcs P O) Z v j = false) → freeB (arcs P O) Z v = true) := Lib.hid (fun h => free_yes (by rw [arcs_len]; exact h))
  have HN : Hid (∀ j, j < P.length → badB (arcs P O) Z v j = true → freeB (arcs P O) Z v = false) := Lib.hid (fun j hj h => free_no j (by rw [arcs_len]; exact hj) h)
  have HBD : Hid (∀ j, j < P.length → badB (arcs P O) Z v j = (hdV (pAt P j).1 (pAt P j).2 (bAt O j) == v && !Z.contains (hdV (pAt P j).1 (pAt P j).2 (!bAt O j)))) := Lib.hid (fun j hj => by unfold badB; rw [arcs_at _ _ _ hj, hdV_arc, tlV_arc])
  unfold GivesN at *
  unfold GivesB
  generalize badB (arcs P O) Z v = BD at *
  generalize freeB (arcs P O) Z v = F at *
  clear hp ho hz hl
  go_enter Try.func101, Try.ntmps101
  go_wp2
  go_loopw [9] (fun x wr => ∃ i : Nat, i ≤ P.length ∧ x = .int .i64 i ∧ (∀ j, j < i → BD j = false) ∧ Below w.heap.size w wr) (fun x _ => P.length - (intOf x).toNat)
  case atStart => exact ⟨0, by omega, rfl, fun j hj => by omega, Below.refl _ _⟩
  case round =>
    obtain ⟨i, hi, rfl, hzr, hb⟩ := hrel
    have HZF := Lib.hid hzr
    clear hzr
    by_cases hlt : i < P.length
    · have i1 : (i : Int) < (P.length : Int) := by omega
      have i2 : (0 : Int) ≤ (i : Int) := by omega
      have i4 : i < O.length := by rw [← HOL.out]; exact hlt
      have i3 : (i : Int) < (O.length : Int) := by omega
      obtain ⟨b2, o2, hb2, q2, y2, y3⟩ := (HPA.out.keep hb).two i hlt
      obtain ⟨b3, o3, hb3, q3, y4⟩ := (HOB.out.keep hb).bit i i4
      subst hb2 hb3
      have HXY : Hid (∀ u, Below wr.heap.size wr u → u.cell? ⟨b2, o2 + i * 2, none⟩ = some (.int .i64 (pAt P i).1) ∧ u.cell? ⟨b2, o2 + i * 2 + 1, none⟩ = some (.int .i64 (pAt P i).2) ∧ u.cell? ⟨b3, o3 + i, none⟩ = some (.bool (bAt O i))) :=
        Lib.hid fun u hu => ⟨(hu.cell (p := ⟨b2, o2 + i * 2, none⟩) q2).trans y2, (hu.cell (p := ⟨b2, o2 + i * 2 + 1, none⟩) q2).trans y3, (hu.cell (p := ⟨b3, o3 + i, none⟩) q3).trans y4⟩
      have HZR := Lib.hid (HZA.out.keep hb)
      have HBi := Lib.hid (HBD.out i hlt)
      have HNi := Lib.hid (HN.out i hlt)
      have HBr := Lib.hid hb
      have HNX : Hid (BD i = false → ∀ j, j < i + 1 → BD j = false) := Lib.hid (fun h0 j hj => by
        by_cases e : j = i
        · subst e; exact h0
        · exact HZF.out j (by omega))
      clear hb y2 y3 y4
      generalize BD i = bd at *
      generalize (pAt P i).1 = pa at *
      generalize (pAt P i).2 = pb at *
      generalize bAt O i = bo at *
      cases hh : (hdV pa pb bo == v) with
      | false =>
        have hb0 : bd = false := by rw [HBi.out, hh]; rfl
        have HNZ := Lib.hid (HNX.out hb0)
        go_wp2
        have hj0 : Below wr.heap.size wr wr.drew := (Below.refl _ _).drew
        refine wp_region_late (S := fun u => Below wr.heap.size wr u) (X := []) (by kernel_rfl) ?_
        refine wpAnyL_pureD (i := 0) 16 (.slice (some ⟨b2, o2, none⟩) P.length pc) rfl rfl (by kernel_rfl) (by kernel_rfl) (by kernel_rfl) (fun _ _ _ h => h) (Or.inl ⟨by rfl, fun u _ => ?_⟩) ?_
        · go_simp
        try simp only [Act.put, List.setIfInBounds_toArray, List.set_cons_zero, List.set_cons_succ]
        refine wpAnyL_pureD (i := 1) 17 (.int .i64 i) rfl rfl (by kernel_rfl) (by kernel_rfl) (by kernel_rfl) (fun _ _ _ h => h) (Or.inl ⟨by rfl, fun u _ => ?_⟩) ?_
        · go_simp
        try simp only [Act.put, List.setIfInBounds_toArray, List.set_cons_zero, List.set_cons_succ]
        refine wpAnyL_pureD (i := 2) 18 (.pointer (some ⟨b2, o2 + i * 2, none⟩)) rfl rfl (by kernel_rfl) (by kernel_rfl) (by kernel_rfl) (fun _ _ _ h => h) (Or.inl ⟨by rfl, fun u _ => ?_⟩) ?_
        · go_simp
        try simp only [Act.put, List.setIfInBounds_toArray, List.set_cons_zero, List.set_cons_succ]
        refine wpAnyL_takeD (i := 3) 19 (.agg #[.int .i64 pa, .int .i64 pb]) rfl rfl (by kernel_rfl) (by kernel_rfl) (by kernel_rfl) (by kernel_rfl) (by kernel_rfl) (fun _ _ _ h => h) hj0 (Or.inl ⟨by rfl, fun u hu => ?_⟩) ?_
        · obtain ⟨t0, t1, t2⟩ := HXY.out u hu
          go_simp
        try simp only [Act.put, List.setIfInBounds_toArray, List.set_cons_zero, List.set_cons_succ]
        refine wpAnyL_pureD (i := 4) 20 (.slice (some ⟨b3, o3, none⟩) O.length c) rfl rfl (by kernel_rfl) (by kernel_rfl) (by kernel_rfl) (fun _ _ _ h => h) (Or.inl ⟨by rfl, fun u _ => ?_⟩) ?_
        · go_simp
        try simp only [Act.put, List.setIfInBounds_toArray, List.set_cons_zero, List.set_cons_succ]
        refine wpAnyL_pureD (i := 5) 21 (.int .i64 i) rfl rfl (by kernel_rfl) (by kernel_rfl) (by kernel_rfl) (fun _ _ _ h => h) (Or.inl ⟨by rfl, fun u _ => ?_⟩) ?_
        · go_simp
        try simp only [Act.put, List.setIfInBounds_toArray, List.set_cons_zero, List.set_cons_succ]
        refine wpAnyL_pureD (i := 6) 22 (.pointer (some ⟨b3, o3 + i, none⟩)) rfl rfl (by kernel_rfl) (by kernel_rfl) (by kernel_rfl) (fun _ _ _ h => h) (Or.inl ⟨by rfl, fun u _ => ?_⟩) ?_
        · go_simp
        try simp only [Act.put, List.setIfInBounds_toArray, List.set_cons_zero, List.set_cons_succ]
        refine wpAnyL_takeD (i := 7) 23 (.bool bo) rfl rfl (by kernel_rfl) (by kernel_rfl) (by kernel_rfl) (by kernel_rfl) (by kernel_rfl) (fun _ _ _ h => h) hj0 (Or.inl ⟨by rfl, fun u hu => ?_⟩) ?_
        · obtain ⟨t0, t1, t2⟩ := HXY.out u hu
          go_simp
        try simp only [Act.put, List.setIfInBounds_toArray, List.set_cons_zero, List.set_cons_succ]
        refine wpAnyL_pureD (i := 9) 25 (.int .i64 v) rfl rfl (by kernel_rfl) (by kernel_rfl) (by kernel_rfl) (fun _ _ _ h => h) (Or.inl ⟨by rfl, fun u _ => ?_⟩) ?_
        · go_simp
        try simp only [Act.put, List.setIfInBounds_toArray, List.set_cons_zero, List.set_cons_succ]
        refine wpAnyL_one (i := 8) (by kernel_rfl) rfl (fun K hK => ?_)
        go_simp
        go_at_call 92
        refine (HHD.out pa pb bo _).mono ?_
        rintro e9 y ⟨rfl, hb⟩
        have hj1 : Below wr.heap.size wr y := hj0.trans (hb.mono hj0.size)
        show K _ _
        refine hK.out _ _ (fun _ _ => hj1) ?_
        clear hK K
        try simp only [Act.put, List.setIfInBounds_toArray, List.set_cons_zero, List.set_cons_succ]
        refine wpAnyL_pureD (i := 10) 26 (.bool false) rfl rfl (by kernel_rfl) (by kernel_rfl) (by kernel_rfl) (fun _ _ _ h => h) (Or.inl ⟨by rfl, fun u _ => ?_⟩) ?_
        · go_simp
        try simp only [Act.put, List.setIfInBounds_toArray, List.set_cons_zero, List.set_cons_succ]
        refine wpAnyL_pureD (i := 11) 27 (.bool false) rfl rfl (by kernel_rfl) (by kernel_rfl) (by kernel_rfl) (fun _ _ _ h => h) (Or.inl ⟨by rfl, fun u _ => ?_⟩) ?_
        · go_simp
        try simp only [Act.put, List.setIfInBounds_toArray, List.set_cons_zero, List.set_cons_succ]
        refine wpAnyL_pureD (i := 12) 28 undef rfl rfl (by kernel_rfl) (by kernel_rfl) (by kernel_rfl) (fun _ _ _ h => h) (Or.inr ⟨by kernel_rfl, rfl⟩) ?_
        try simp only [Act.put, List.setIfInBounds_toArray, List.set_cons_zero, List.set_cons_succ]
        refine wpAnyL_pureD (i := 13) 29 undef rfl rfl (by kernel_rfl) (by kernel_rfl) (by kernel_rfl) (fun _ _ _ h => h) (Or.inr ⟨by kernel_rfl, rfl⟩) ?_
        try simp only [Act.put, List.setIfInBounds_toArray, List.set_cons_zero, List.set_cons_succ]
        refine wpAnyL_pureD (i := 14) 30 undef rfl rfl (by kernel_rfl) (by kernel_rfl) (by kernel_rfl) (fun _ _ _ h => h) (Or.inr ⟨by kernel_rfl, rfl⟩) ?_
        try simp only [Act.put, List.setIfInBounds_toArray, List.set_cons_zero, List.set_cons_succ]
        refine wpAnyL_pureD (i := 15) 31 undef rfl rfl (by kernel_rfl) (by kernel_rfl) (by kernel_rfl) (fun _ _ _ h => h) (Or.inr ⟨by kernel_rfl, rfl⟩) ?_
        try simp only [Act.put, List.setIfInBounds_toArray, List.set_cons_zero, List.set_cons_succ]
        refine wpAnyL_pureD (i := 16) 32 undef rfl rfl (by kernel_rfl) (by kernel_rfl) (by kernel_rfl) (fun _ _ _ h => h) (Or.inr ⟨by kernel_rfl, rfl⟩) ?_
        try simp only [Act.put, List.setIfInBounds_toArray, List.set_cons_zero, List.set_cons_succ]
        refine wpAnyL_pureD (i := 17) 33 undef rfl rfl (by kernel_rfl) (by kernel_rfl) (by kernel_rfl) (fun _ _ _ h => h) (Or.inr ⟨by kernel_rfl, rfl⟩) ?_
        try simp only [Act.put, List.setIfInBounds_toArray, List.set_cons_zero, List.set_cons_succ]
        refine wpAnyL_pureD (i := 18) 34 undef rfl rfl (by kernel_rfl) (by kernel_rfl) (by kernel_rfl) (fun _ _ _ h => h) (Or.inr ⟨by kernel_rfl, rfl⟩) ?_
        try simp only [Act.put, List.setIfInBounds_toArray, List.set_cons_zero, List.set_cons_succ]
        refine wpAnyL_pureD (i := 19) 35 undef rfl rfl (by kernel_rfl) (by kernel_rfl) (by kernel_rfl) (fun _ _ _ h => h) (Or.inr ⟨by kernel_rfl, rfl⟩) ?_
        try simp only [Act.put, List.setIfInBounds_toArray, List.set_cons_zero, List.set_cons_succ]
        refine wpAnyL_pureD (i := 20) 36 undef rfl rfl (by kernel_rfl) (by kernel_rfl) (by kernel_rfl) (fun _ _ _ h => h) (Or.inr ⟨by kernel_rfl, rfl⟩) ?_
        try simp only [Act.put, List.setIfInBounds_toArray, List.set_cons_zero, List.set_cons_succ]
        refine wpAnyL_pureD (i := 21) 37 undef rfl rfl (by kernel_rfl) (by kernel_rfl) (by kernel_rfl) (fun _ _ _ h => h) (Or.inr ⟨by kernel_rfl, rfl⟩) ?_
        try simp only [Act.put, List.setIfInBounds_toArray, List.set_cons_zero, List.set_cons_succ]
        refine wpAnyL_pureD (i := 22) 38 undef rfl rfl (by kernel_rfl) (by kernel_rfl) (by kernel_rfl) (fun _ _ _ h => h) (Or.inr ⟨by kernel_rfl, rfl⟩) ?_
        try simp only [Act.put, List.setIfInBounds_toArray, List.set_cons_zero, List.set_cons_succ]
        refine wpAnyL_pureD (i := 23) 39 undef rfl rfl (by kernel_rfl) (by kernel_rfl) (by kernel_rfl) (fun _ _ _ h => h) (Or.inr ⟨by kernel_rfl, rfl⟩) ?_
        try simp only [Act.put, List.setIfInBounds_toArray, List.set_cons_zero, List.set_cons_succ]
        refine wpAnyL_pureD (i := 24) 40 (.bool false) rfl rfl (by kernel_rfl) (by kernel_rfl) (by kernel_rfl) (fun _ _ _ h => h) (Or.inl ⟨by rfl, fun u _ => ?_⟩) ?_
        · go_simp
        try simp only [Act.put, List.setIfInBounds_toArray, List.set_cons_zero, List.set_cons_succ]
        refine wpAnyL_done (by kernel_rfl) ?_ _
        try simp only [Act.put, List.setIfInBounds_toArray, List.set_cons_zero, List.set_cons_succ]
        have HB2 := Lib.hid (HBr.out.trans (hj1.mono HBr.out.size))
        clear hj0 hj1 hb
        go_wp2
        go_roundw
        case rel => exact ⟨i + 1, by omega, by go_num, HNZ.out, HB2.out⟩
        case measure => simp [intOf]; omega
      | true =>
        go_wp2
        have hj0 : Below wr.heap.size wr wr.drew := (Below.refl _ _).drew
        refine wp_region_late (S := fun u => Below wr.heap.size wr u) (X := []) (by kernel_rfl) ?_
        refine wpAnyL_pureD (i := 0) 16 (.slice (some ⟨b2, o2, none⟩) P.length pc) rfl rfl (by kernel_rfl) (by kernel_rfl) (by kernel_rfl) (fun _ _ _ h => h) (Or.inl ⟨by rfl, fun u _ => ?_⟩) ?_
        · go_simp
        try simp only [Act.put, List.setIfInBounds_toArray, List.set_cons_zero, List.set_cons_succ]
        refine wpAnyL_pureD (i := 1) 17 (.int .i64 i) rfl rfl (by kernel_rfl) (by kernel_rfl) (by kernel_rfl) (fun _ _ _ h => h) (Or.inl ⟨by rfl, fun u _ => ?_⟩) ?_
        · go_simp
        try simp only [Act.put, List.setIfInBounds_toArray, List.set_cons_zero, List.set_cons_succ]
        refine wpAnyL_pureD (i := 2) 18 (.pointer (some ⟨b2, o2 + i * 2, none⟩)) rfl rfl (by kernel_rfl) (by kernel_rfl) (by kernel_rfl) (fun _ _ _ h => h) (Or.inl ⟨by rfl, fun u _ => ?_⟩) ?_
        · go_simp
        try simp only [Act.put, List.setIfInBounds_toArray, List.set_cons_zero, List.set_cons_succ]
        refine wpAnyL_takeD (i := 3) 19 (.agg #[.int .i64 pa, .int .i64 pb]) rfl rfl (by kernel_rfl) (by kernel_rfl) (by kernel_rfl) (by kernel_rfl) (by kernel_rfl) (fun _ _ _ h => h) hj0 (Or.inl ⟨by rfl, fun u hu => ?_⟩) ?_
        · obtain ⟨t0, t1, t2⟩ := HXY.out u hu
          go_simp
        try simp only [Act.put, List.setIfInBounds_toArray, List.set_cons_zero, List.set_cons_succ]
        refine wpAnyL_pureD (i := 4) 20 (.slice (some ⟨b3, o3, none⟩) O.length c) rfl rfl (by kernel_rfl) (by kernel_rfl) (by kernel_rfl) (fun _ _ _ h => h) (Or.inl ⟨by rfl, fun u _ => ?_⟩) ?_
        · go_simp
        try simp only [Act.put, List.setIfInBounds_toArray, List.set_cons_zero, List.set_cons_succ]
        refine wpAnyL_pureD (i := 5) 21 (.int .i64 i) rfl rfl (by kernel_rfl) (by kernel_rfl) (by kernel_rfl) (fun _ _ _ h => h) (Or.inl ⟨by rfl, fun u _ => ?_⟩) ?_
        · go_simp
        try simp only [Act.put, List.setIfInBounds_toArray, List.set_cons_zero, List.set_cons_succ]
        refine wpAnyL_pureD (i := 6) 22 (.pointer (some ⟨b3, o3 + i, none⟩)) rfl rfl (by kernel_rfl) (by kernel_rfl) (by kernel_rfl) (fun _ _ _ h => h) (Or.inl ⟨by rfl, fun u _ => ?_⟩) ?_
        · go_simp
        try simp only [Act.put, List.setIfInBounds_toArray, List.set_cons_zero, List.set_cons_succ]
        refine wpAnyL_takeD (i := 7) 23 (.bool bo) rfl rfl (by kernel_rfl) (by kernel_rfl) (by kernel_rfl) (by kernel_rfl) (by kernel_rfl) (fun _ _ _ h => h) hj0 (Or.inl ⟨by rfl, fun u hu => ?_⟩) ?_
        · obtain ⟨t0, t1, t2⟩ := HXY.out u hu
          go_simp
        try simp only [Act.put, List.setIfInBounds_toArray, List.set_cons_zero, List.set_cons_succ]
        refine wpAnyL_pureD (i := 9) 25 (.int .i64 v) rfl rfl (by kernel_rfl) (by kernel_rfl) (by kernel_rfl) (fun _ _ _ h => h) (Or.inl ⟨by rfl, fun u _ => ?_⟩) ?_
        · go_simp
        try simp only [Act.put, List.setIfInBounds_toArray, List.set_cons_zero, List.set_cons_succ]
        refine wpAnyL_one (i := 8) (by kernel_rfl) rfl (fun K hK => ?_)
        go_simp
        go_at_call 92
        refine (HHD.out pa pb bo _).mono ?_
        rintro e9 y ⟨rfl, hb⟩
        have hj1 : Below wr.heap.size wr y := hj0.trans (hb.mono hj0.size)
        show K _ _
        refine hK.out _ _ (fun _ _ => hj1) ?_
        clear hK K
        try simp only [Act.put, List.setIfInBounds_toArray, List.set_cons_zero, List.set_cons_succ]
        refine wpAnyL_pureD (i := 10) 26 (.bool true) rfl rfl (by kernel_rfl) (by kernel_rfl) (by kernel_rfl) (fun _ _ _ h => h) (Or.inl ⟨by rfl, fun u _ => ?_⟩) ?_
        · go_simp
        try simp only [Act.put, List.setIfInBounds_toArray, List.set_cons_zero, List.set_cons_succ]
        refine wpAnyL_pureD (i := 11) 27 (.bool true) rfl rfl (by kernel_rfl) (by kernel_rfl) (by kernel_rfl) (fun _ _ _ h => h) (Or.inl ⟨by rfl, fun u _ => ?_⟩) ?_
        · go_simp
        try simp only [Act.put, List.setIfInBounds_toArray, List.set_cons_zero, List.set_cons_succ]
        refine wpAnyL_pureD (i := 12) 28 (.slice s Z.length d) rfl rfl (by kernel_rfl) (by kernel_rfl) (by kernel_rfl) (fun _ _ _ h => h) (Or.inl ⟨by rfl, fun u _ => ?_⟩) ?_
        · go_simp
        try simp only [Act.put, List.setIfInBounds_toArray, List.set_cons_zero, List.set_cons_succ]
        refine wpAnyL_pureD (i := 13) 29 (.slice (some ⟨b2, o2, none⟩) P.length pc) rfl rfl (by kernel_rfl) (by kernel_rfl) (by kernel_rfl) (fun _ _ _ h => h) (Or.inl ⟨by rfl, fun u _ => ?_⟩) ?_
        · go_simp
        try simp only [Act.put, List.setIfInBounds_toArray, List.set_cons_zero, List.set_cons_succ]
        refine wpAnyL_pureD (i := 14) 30 (.int .i64 i) rfl rfl (by kernel_rfl) (by kernel_rfl) (by kernel_rfl) (fun _ _ _ h => h) (Or.inl ⟨by rfl, fun u _ => ?_⟩) ?_
        · go_simp
        try simp only [Act.put, List.setIfInBounds_toArray, List.set_cons_zero, List.set_cons_succ]
        refine wpAnyL_pureD (i := 15) 31 (.pointer (some ⟨b2, o2 + i * 2, none⟩)) rfl rfl (by kernel_rfl) (by kernel_rfl) (by kernel_rfl) (fun _ _ _ h => h) (Or.inl ⟨by rfl, fun u _ => ?_⟩) ?_
        · go_simp
        try simp only [Act.put, List.setIfInBounds_toArray, List.set_cons_zero, List.set_cons_succ]
        refine wpAnyL_takeD (i := 16) 32 (.agg #[.int .i64 pa, .int .i64 pb]) rfl rfl (by kernel_rfl) (by kernel_rfl) (by kernel_rfl) (by kernel_rfl) (by kernel_rfl) (fun _ _ _ h => h) hj1 (Or.inl ⟨by rfl, fun u hu => ?_⟩) ?_
        · obtain ⟨t0, t1, t2⟩ := HXY.out u hu
          go_simp
        try simp only [Act.put, List.setIfInBounds_toArray, List.set_cons_zero, List.set_cons_succ]
        refine wpAnyL_pureD (i := 17) 33 (.slice (some ⟨b3, o3, none⟩) O.length c) rfl rfl (by kernel_rfl) (by kernel_rfl) (by kernel_rfl) (fun _ _ _ h => h) (Or.inl ⟨by rfl, fun u _ => ?_⟩) ?_
        · go_simp
        try simp only [Act.put, List.setIfInBounds_toArray, List.set_cons_zero, List.set_cons_succ]
        refine wpAnyL_pureD (i := 18) 34 (.int .i64 i) rfl rfl (by kernel_rfl) (by kernel_rfl) (by kernel_rfl) (fun _ _ _ h => h) (Or.inl ⟨by rfl, fun u _ => ?_⟩) ?_
        · go_simp
        try simp only [Act.put, List.setIfInBounds_toArray, List.set_cons_zero, List.set_cons_succ]
        refine wpAnyL_pureD (i := 19) 35 (.pointer (some ⟨b3, o3 + i, none⟩)) rfl rfl (by kernel_rfl) (by kernel_rfl) (by kernel_rfl) (fun _ _ _ h => h) (Or.inl ⟨by rfl, fun u _ => ?_⟩) ?_
        · go_simp
        try simp only [Act.put, List.setIfInBounds_toArray, List.set_cons_zero, List.set_cons_succ]
        refine wpAnyL_takeD (i := 20) 36 (.bool bo) rfl rfl (by kernel_rfl) (by kernel_rfl) (by kernel_rfl) (by kernel_rfl) (by kernel_rfl) (fun _ _ _ h => h) hj1 (Or.inl ⟨by rfl, fun u hu => ?_⟩) ?_
        · obtain ⟨t0, t1, t2⟩ := HXY.out u hu
          go_simp
        try simp only [Act.put, List.setIfInBounds_toArray, List.set_cons_zero, List.set_cons_succ]
        refine wpAnyL_one (i := 21) (by kernel_rfl) rfl (fun K hK => ?_)
        go_simp
        go_at_call 104
        refine (HTL.out pa pb bo _).mono ?_
        rintro e9 y2 ⟨rfl, hb2⟩
        have hj2 : Below wr.heap.size wr y2 := hj1.trans (hb2.mono hj1.size)
        show K _ _
        refine hK.out _ _ (fun _ _ => hj2) ?_
        clear hK K
        try simp only [Act.put, List.setIfInBounds_toArray, List.set_cons_zero, List.set_cons_succ]
        refine wpAnyL_one (i := 22) (by kernel_rfl) rfl (fun K hK => ?_)
        go_simp
        go_at_call 80
        refine (HHO.out (hdV pa pb (!bo)) _ (HZR.out.keep hj2)).mono ?_
        rintro e9 y9 ⟨rfl, rfl⟩
        show K _ _
        refine hK.out _ _ (fun _ _ => hj2) ?_
        clear hK K
        try simp only [Act.put, List.setIfInBounds_toArray, List.set_cons_zero, List.set_cons_succ]
        cases hc : Z.contains (hdV pa pb (!bo)) with
        | true =>
          have hb0 : bd = false := by rw [HBi.out, hh, hc]; rfl
          have HNZ := Lib.hid (HNX.out hb0)
          refine wpAnyL_pureD (i := 23) 39 (.bool false) rfl rfl (by kernel_rfl) (by kernel_rfl) (by kernel_rfl) (fun _ _ _ h => h) (Or.inl ⟨by rfl, fun u _ => ?_⟩) ?_
          · go_simp
          try simp only [Act.put, List.setIfInBounds_toArray, List.set_cons_zero, List.set_cons_succ]
          refine wpAnyL_pureD (i := 24) 40 (.bool false) rfl rfl (by kernel_rfl) (by kernel_rfl) (by kernel_rfl) (fun _ _ _ h => h) (Or.inl ⟨by rfl, fun u _ => ?_⟩) ?_
          · go_simp
          try simp only [Act.put, List.setIfInBounds_toArray, List.set_cons_zero, List.set_cons_succ]
          refine wpAnyL_done (by kernel_rfl) ?_ _
          try simp only [Act.put, List.setIfInBounds_toArray, List.set_cons_zero, List.set_cons_succ]
          have HB2 := Lib.hid (HBr.out.trans (hj2.mono HBr.out.size))
          clear hj0 hj1 hj2 hb hb2
          go_wp2
          go_roundw
          case rel => exact ⟨i + 1, by omega, by go_num, HNZ.out, HB2.out⟩
          case measure => simp [intOf]; omega
        | false =>
          have hb0 : bd = true := by rw [HBi.out, hh, hc]; rfl
          have HF := Lib.hid (HNi.out hb0)
          refine wpAnyL_pureD (i := 23) 39 (.bool true) rfl rfl (by kernel_rfl) (by kernel_rfl) (by kernel_rfl) (fun _ _ _ h => h) (Or.inl ⟨by rfl, fun u _ => ?_⟩) ?_
          · go_simp
          try simp only [Act.put, List.setIfInBounds_toArray, List.set_cons_zero, List.set_cons_succ]
          refine wpAnyL_pureD (i := 24) 40 (.bool true) rfl rfl (by kernel_rfl) (by kernel_rfl) (by kernel_rfl) (fun _ _ _ h => h) (Or.inl ⟨by rfl, fun u _ => ?_⟩) ?_
          · go_simp
          try simp only [Act.put, List.setIfInBounds_toArray, List.set_cons_zero, List.set_cons_succ]
          refine wpAnyL_done (by kernel_rfl) ?_ _
          try simp only [Act.put, List.setIfInBounds_toArray, List.set_cons_zero, List.set_cons_succ]
          have HEND := Lib.hid (HBr.out.trans (hj2.mono HBr.out.size))
          clear hj0 hj1 hj2 hb hb2
          go_wp2
          go_ret
          exact ⟨by rw [HF.out]; rfl, HEND.out⟩
    · obtain rfl : i = P.length := by omega
      have i1 : ¬ (P.length : Int) < (P.length : Int) := by omega
      have HF := Lib.hid (HY.out HZF.out)
      have HEND := Lib.hid hb
      clear hb
      go_wp2
      go_ret
      exact ⟨by rw [HF.out]; rfl, HEND.out⟩
end Go.Proofs.Ytlnaahkheankoaa
