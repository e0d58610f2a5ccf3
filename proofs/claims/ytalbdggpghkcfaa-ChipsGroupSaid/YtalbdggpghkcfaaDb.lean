/- Equal lists of divisors. -/
import Derived.Test.YtalbdggpghkcfaaCo
import Derived.Test.YtalbdggpghkcfaaLateD
namespace Go.Proofs.Ytalbdggpghkcfaa
open Go.RowKit Go.Proofs.Gr Go.Proofs.Cp
attribute [local go_sem] Oper.semAt_some

theorem mAt_ne {M M' : List (List Int)} (i : Nat) (h : M.getD i [] ≠ M'.getD i []) : decide (M = M') = false := by
  rw [decide_eq_false_iff_not]; rintro rfl; exact h rfl
theorem mEq_of {M M' : List (List Int)} (hl : M.length = M'.length) (h : ∀ j, j < M.length → M.getD j [] = M'.getD j []) : M = M' := by
  refine List.ext_getElem hl fun j h1 h2 => ?_
  have := h j h1
  rwa [List.getD_eq_getElem?_getD, List.getD_eq_getElem?_getD, List.getElem?_eq_getElem h1, List.getElem?_eq_getElem h2] at this
theorem LsAt.at {u : World} {a : Option Addr} {M : List (List Int)} (h : LsAt u a M) (i : Nat) (hi : i < M.length) : ∃ b o x y, a = some ⟨b, o, none⟩ ∧ b < u.heap.size ∧ u.cell? ⟨b, o + i, none⟩ = some (.slice x (M.getD i []).length y) ∧ IsAt u x (M.getD i []) := by
  obtain ⟨X, rfl, hr, hb⟩ := h
  rw [List.length_map] at hi
  obtain ⟨b, o, e, hlt, hc⟩ := hr.div i hi
  have hg : (X.map DX.b).getD i [] = (xAt X i).b := by rw [List.getD_eq_getElem?_getD, List.getElem?_map, List.getElem?_eq_getElem hi, xAt_get X i hi]; rfl
  refine ⟨b, o, (xAt X i).a, (xAt X i).c, e, hlt, ?_, ?_⟩
  · rw [hg]; exact hc
  · rw [hg, ← xAt_get X i hi]; exact hb _ (List.getElem_mem hi)
set_option maxHeartbeats 12800000 in
set_option maxRecDepth 100000 in
theorem rSameAll_any (a b : Option Addr) (c d : Nat) (M M2 : List (List Int)) (hM : M.length ≤ 100000) (hM2 : M2.length ≤ 100000) (hl1 : ∀ i, i < M.length → (M.getD i []).length ≤ 1000) (hl2 : ∀ i, i < M2.length → (M2.getD i []).length ≤ 1000) (w : World) (h1 : LsAt w a M) (h2 : LsAt w b M2) :
    Calls Try.prog 50 #[.slice a M.length c, .slice b M2.length d] w (fun e w' => e = .returned (.bool (decide (M = M2))) ∧ Below w.heap.size w w') := by
  have H1 := Lib.hid h1
  have H2 := Lib.hid h2
  have HL1 := Lib.hid hl1
  have HL2 := Lib.hid hl2
  have HNE := Lib.hid (fun i h => mAt_ne (M := M) (M' := M2) i h)
  have HNL : Hid (M.length ≠ M2.length → decide (M = M2) = false) := Lib.hid fun h => by rw [decide_eq_false_iff_not]; rintro rfl; exact h rfl
  have HEQ : Hid (M.length = M2.length → (∀ j, j < M.length → M.getD j [] = M2.getD j []) → decide (M = M2) = true) := Lib.hid fun hl h => decide_eq_true (mEq_of hl h)
  generalize decide (M = M2) = R at *
  clear h1 h2 hl1 hl2
  go_enter Try.func50, Try.ntmps50
  by_cases hl : M.length = M2.length
  · have d0 : ((M.length : Int) != (M2.length : Int)) = false := by rw [bne_eq_false_iff_eq]; omega
    have HLL := Lib.hid hl
    have HE2 := Lib.hid (HEQ.out hl)
    clear hl
    go_wp2
    go_loopw [5] (fun x wr => ∃ i : Nat, i ≤ M.length ∧ x = .int .i64 i ∧ (∀ j, j < i → M.getD j [] = M2.getD j []) ∧ Below w.heap.size w wr) (fun x _ => M.length - (intOf x).toNat)
    case atStart => exact ⟨0, by omega, rfl, fun j hj => by omega, Below.refl _ _⟩
    case round =>
      obtain ⟨i, hi, rfl, hz, hb⟩ := hrel
      have HZ := Lib.hid hz
      have HBr := Lib.hid hb
      by_cases hlt : i < M.length
      · have i1 : (i : Int) < (M.length : Int) := by omega
        have i2 : (0 : Int) ≤ (i : Int) := by omega
        have i3 : (i : Int) < (M2.length : Int) := by have := HLL.out; omega
        have HLT := Lib.hid hlt
        obtain ⟨b1, o1, xa, xc, hb1, q1, x1, r1⟩ := (H1.out.keep hb).at i hlt
        obtain ⟨b2, o2, ya, yc, hb2, q2, x2, r2⟩ := (H2.out.keep hb).at i (by rw [← HLL.out]; exact hlt)
        subst hb1 hb2
        have HXY : Hid (∀ u, Below wr.heap.size wr u → u.cell? ⟨b1, o1 + i, none⟩ = some (.slice xa (M.getD i []).length xc) ∧ u.cell? ⟨b2, o2 + i, none⟩ = some (.slice ya (M2.getD i []).length yc)) := Lib.hid fun u hu => ⟨(hu.cell (p := ⟨b1, o1 + i, none⟩) q1).trans x1, (hu.cell (p := ⟨b2, o2 + i, none⟩) q2).trans x2⟩
        have HSM := Lib.hid (fun u h1 h2 => rSame_any xa ya xc yc (M.getD i []) (M2.getD i []) (HL1.out i hlt) (HL2.out i (by rw [← HLL.out]; exact hlt)) u h1 h2)
        have HR1 := Lib.hid r1
        have HR2 := Lib.hid r2
        have HN1 := Lib.hid (HNE.out i)
        have HZN : Hid (M.getD i [] = M2.getD i [] → ∀ j, j < i + 1 → M.getD j [] = M2.getD j []) := Lib.hid fun h0 j hj => by
          by_cases e : j = i
          · subst e; exact h0
          · exact HZ.out j (by omega)
        clear hb x1 x2 r1 r2 hz hlt
        generalize M.getD i [] = O at *
        generalize M2.getD i [] = O2 at *
        go_wp2
        have hj0 : Below wr.heap.size wr wr.drew := (Below.refl _ _).drew
        refine wp_region_late (S := fun u => Below wr.heap.size wr u) (X := []) (by kernel_rfl) ?_
        refine wpAnyL_pureD (i := 0) 17 (.slice (some ⟨b1, o1, none⟩) M.length c) rfl rfl (by kernel_rfl) (by kernel_rfl) (by kernel_rfl) (fun _ _ _ h => h) (Or.inl ⟨by rfl, fun u _ => ?_⟩) ?_
        · go_simp
        try simp only [Act.put, List.setIfInBounds_toArray, List.set_cons_zero, List.set_cons_succ]
        refine wpAnyL_pureD (i := 1) 18 (.int .i64 i) rfl rfl (by kernel_rfl) (by kernel_rfl) (by kernel_rfl) (fun _ _ _ h => h) (Or.inl ⟨by rfl, fun u _ => ?_⟩) ?_
        · go_simp
        try simp only [Act.put, List.setIfInBounds_toArray, List.set_cons_zero, List.set_cons_succ]
        refine wpAnyL_pureD (i := 2) 19 (.pointer (some ⟨b1, o1 + i, none⟩)) rfl rfl (by kernel_rfl) (by kernel_rfl) (by kernel_rfl) (fun _ _ _ h => h) (Or.inl ⟨by rfl, fun u _ => ?_⟩) ?_
        · go_simp
        try simp only [Act.put, List.setIfInBounds_toArray, List.set_cons_zero, List.set_cons_succ]
        refine wpAnyL_takeD (i := 3) 20 (.slice xa O.length xc) rfl rfl (by kernel_rfl) (by kernel_rfl) (by kernel_rfl) (by kernel_rfl) (by kernel_rfl) (fun _ _ _ h => h) hj0 (Or.inl ⟨by rfl, fun u hu => ?_⟩) ?_
        · obtain ⟨t0, t1⟩ := HXY.out u hu
          go_simp
        try simp only [Act.put, List.setIfInBounds_toArray, List.set_cons_zero, List.set_cons_succ]
        refine wpAnyL_pureD (i := 4) 21 (.slice (some ⟨b2, o2, none⟩) M2.length d) rfl rfl (by kernel_rfl) (by kernel_rfl) (by kernel_rfl) (fun _ _ _ h => h) (Or.inl ⟨by rfl, fun u _ => ?_⟩) ?_
        · go_simp
        try simp only [Act.put, List.setIfInBounds_toArray, List.set_cons_zero, List.set_cons_succ]
        refine wpAnyL_pureD (i := 5) 22 (.int .i64 i) rfl rfl (by kernel_rfl) (by kernel_rfl) (by kernel_rfl) (fun _ _ _ h => h) (Or.inl ⟨by rfl, fun u _ => ?_⟩) ?_
        · go_simp
        try simp only [Act.put, List.setIfInBounds_toArray, List.set_cons_zero, List.set_cons_succ]
        refine wpAnyL_pureD (i := 6) 23 (.pointer (some ⟨b2, o2 + i, none⟩)) rfl rfl (by kernel_rfl) (by kernel_rfl) (by kernel_rfl) (fun _ _ _ h => h) (Or.inl ⟨by rfl, fun u _ => ?_⟩) ?_
        · go_simp
        try simp only [Act.put, List.setIfInBounds_toArray, List.set_cons_zero, List.set_cons_succ]
        refine wpAnyL_takeD (i := 7) 24 (.slice ya O2.length yc) rfl rfl (by kernel_rfl) (by kernel_rfl) (by kernel_rfl) (by kernel_rfl) (by kernel_rfl) (fun _ _ _ h => h) hj0 (Or.inl ⟨by rfl, fun u hu => ?_⟩) ?_
        · obtain ⟨t0, t1⟩ := HXY.out u hu
          go_simp
        try simp only [Act.put, List.setIfInBounds_toArray, List.set_cons_zero, List.set_cons_succ]
        refine wpAnyL_one (i := 8) (by kernel_rfl) rfl (fun K hK => ?_)
        go_simp
        go_at_call 20
        refine (HSM.out _ (HR1.out.keep hj0) (HR2.out.keep hj0)).mono ?_
        rintro e y ⟨rfl, hb⟩
        have hj1 : Below wr.heap.size wr y := hj0.trans (hb.mono hj0.size)
        show K _ _
        refine hK.out _ _ (fun _ _ => hj1) ?_
        clear hK K
        try simp only [Act.put, List.setIfInBounds_toArray, List.set_cons_zero, List.set_cons_succ]
        refine wpAnyL_pureD (i := 9) 26 (.bool (!decide (O = O2))) rfl rfl (by kernel_rfl) (by kernel_rfl) (by kernel_rfl) (fun _ _ _ h => h) (Or.inl ⟨by rfl, fun u _ => ?_⟩) ?_
        · go_simp
        try simp only [Act.put, List.setIfInBounds_toArray, List.set_cons_zero, List.set_cons_succ]
        refine wpAnyL_done (by kernel_rfl) ?_ _
        try simp only [Act.put, List.setIfInBounds_toArray, List.set_cons_zero, List.set_cons_succ]
        have HBN := Lib.hid (HBr.out.trans (hj1.mono HBr.out.size))
        clear hj0 hj1 hb
        by_cases e1 : O = O2
        · have d1 : decide (O = O2) = true := decide_eq_true e1
          have HR := Lib.hid (HZN.out e1)
          rw [d1, Bool.not_true]
          clear e1 d1
          go_wp2
          go_roundw
          case rel => exact ⟨i + 1, by have := HLT.out; omega, by go_num, HR.out, HBN.out⟩
          case measure => have := HLT.out; simp [intOf]; omega
        · have d1 : decide (O = O2) = false := decide_eq_false e1
          have HR := Lib.hid (HN1.out e1)
          rw [d1, Bool.not_false]
          clear e1 d1
          go_wp2
          go_ret
          exact ⟨by rw [HR.out]; rfl, HBN.out⟩
      · obtain rfl : i = M.length := by omega
        have i1 : ¬ (M.length : Int) < (M.length : Int) := by omega
        have HR := Lib.hid (HE2.out hz)
        clear hz hb
        go_wp2
        go_ret
        exact ⟨by rw [HR.out]; rfl, HBr.out⟩
  · have d0 : ((M.length : Int) != (M2.length : Int)) = true := by rw [bne_iff_ne]; omega
    have HR := Lib.hid (HNL.out hl)
    go_wp2
    go_ret
    exact ⟨by rw [HR.out]; rfl, Below.refl _ _⟩
end Go.Proofs.Ytalbdggpghkcfaa
