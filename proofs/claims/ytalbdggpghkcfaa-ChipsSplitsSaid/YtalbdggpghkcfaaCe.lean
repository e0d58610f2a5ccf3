/- What comes of two divisors, vertex by vertex, by the program: Add$1. -/
import Derived.Test.YtalbdggpghkcfaaCd
namespace Go.Proofs.Ytalbdggpghkcfaa
open Go.RowKit Go.Proofs.Gr Go.Proofs.Cp
attribute [local go_sem] Oper.semAt_some

set_option maxHeartbeats 12800000 in
set_option maxRecDepth 100000 in
theorem combAdd (a b : Option Addr) (c d : Nat) (A B : List Int) (hA : A.length ≤ 1000) (hB : B.length ≤ 1000) (w : World) (h1 : IsAt w a A) (h2 : IsAt w b B) :
    Calls Try.prog 60 #[.slice a A.length c, .slice b B.length d, (.func (.func 61) #[] #[])] w (GivesIE w (cmbL (fun x y => x + y) A B) (cmbK (fun x y => x + y) A B)) := by
  have HF : Hid (∀ x y u, -1048576 ≤ x ∧ x ≤ 1048576 → -1048576 ≤ y ∧ y ≤ 1048576 → Below w.heap.size w u → Calls Try.prog 61 #[.int .i64 x, .int .i64 y] u (fun e u' => e = .returned (.int .i64 ((fun x y => x + y) x y)) ∧ Below u.heap.size u u')) := Lib.hid fun x y u hx hy hb => (add1_any x y hx hy u).mono fun e u' h => ⟨h.1, by rw [← h.2]; exact Below.refl _ _⟩
  have HCK := Lib.hid (check2_any a b c d A B hA hB w h1 h2)
  have H1 := Lib.hid h1
  have H2 := Lib.hid h2
  have HDV : Hid (bothD A B = 0 → Div A ∧ Div B ∧ A.length = B.length) := Lib.hid fun h => both_div h
  have HKE : Hid (cmbK (fun x y => x + y) A B = if bothD A B ≠ 0 then bothD A B else if (zipD (fun x y => x + y) A B).any big = true then 11 else 0) := Lib.hid rfl
  have HLE : Hid (cmbL (fun x y => x + y) A B = if cmbK (fun x y => x + y) A B = 0 then zipD (fun x y => x + y) A B else []) := Lib.hid rfl
  generalize cmbL (fun x y => x + y) A B = XL at *
  generalize cmbK (fun x y => x + y) A B = XK at *
  unfold GivesIE
  clear h1 h2
  go_enter Try.func60, Try.ntmps60
  go_wp2_with fail
  refine HCK.out.mono ?_
  rintro e w1 ⟨rfl, hb1⟩
  have HB1 := Lib.hid hb1
  by_cases hk : bothD A B ≠ 0
  · have q0 : (((bothD A B : Nat) : Int) != 0) = true := by rw [bne_iff_ne]; omega
    have HR : Hid (XK = bothD A B) := Lib.hid (by rw [HKE.out, if_pos hk])
    have HR2 : Hid (XL = []) := Lib.hid (by rw [HLE.out, HR.out, if_neg hk])
    clear hb1 hk HDV HKE HLE
    generalize bothD A B = k at *
    go_wp2
    go_ret2
    exact ⟨none, 0, by rw [HR.out, HR2.out]; rfl, by rw [HR2.out]; exact RowAt.nil _ _ _ _, HB1.out⟩
  have hk0 : bothD A B = 0 := by omega
  obtain ⟨hdA, hdB, hll⟩ := HDV.out hk0
  rw [hk0] at HKE
  rw [hk0]
  have HAL := Lib.hid hdA.le
  have HA1 := Lib.hid hdA.one
  have HCL := Lib.hid (fun w h => clone_any a c A hdA.one hA w h)
  have HRA := Lib.hid (fun i hi => div_at hdA i hi)
  have HRB := Lib.hid (fun i hi => div_at hdB i hi)
  have HLL := Lib.hid hll
  have HZ0 : Hid (stepD (fun x y => x + y) A B 0 = A) := Lib.hid rfl
  have HZS := Lib.hid (fun i => stepD_one (fun x y => x + y) A B i)
  have HZL := Lib.hid (fun i => stepD_len (fun x y => x + y) A B i)
  have HZA : Hid (stepD (fun x y => x + y) A B A.length = zipD (fun x y => x + y) A B) := Lib.hid (stepD_all _ hll)
  have HZN : Hid ((zipD (fun x y => x + y) A B).length = A.length) := Lib.hid (zip_len _ hll)
  have HKN : Hid (XK = if (zipD (fun x y => x + y) A B).any big = true then 11 else 0) := Lib.hid (by rw [HKE.out, if_neg (by omega)])
  clear hb1 hk hk0 hdA hdB hll HDV HKE
  generalize stepD (fun x y => x + y) A B = Z at *
  generalize zipD (fun x y => x + y) A B = ZZ at *
  go_wp2_with fail
  refine (HCL.out w1 (H1.out.keep HB1.out)).mono ?_
  rintro e w2 ⟨g, cap, rfl, hg, hpb, hb2⟩
  have HGE : Hid (w.heap.size ≤ g) := Lib.hid (by have := HB1.out.size; omega)
  have HB2 := Lib.hid (HB1.out.trans (hb2.mono HB1.out.size))
  have HPB := Lib.hid hpb
  clear hg hb2 hpb
  go_wp2
  go_loopw [22] (fun x wr => ∃ i : Nat, i ≤ A.length ∧ x = .int .i64 i ∧ PB wr g (Z i) ∧ Below w.heap.size w wr) (fun x _ => A.length - (intOf x).toNat)
  case atStart => exact ⟨0, by omega, rfl, by rw [HZ0.out]; exact HPB.out, HB2.out⟩
  case round =>
    obtain ⟨i, hi, rfl, hpw, hb⟩ := hrel
    have HBR := Lib.hid hb
    have HPW := Lib.hid hpw
    by_cases hlt : i < A.length
    · have i1 : (i : Int) < (A.length : Int) := by omega
      have i2 : (0 : Int) ≤ (i : Int) := by omega
      have i3 : (i : Int) < (B.length : Int) := by have := HLL.out; omega
      have HLT := Lib.hid hlt
      obtain ⟨b1, o1, hb1, q1, x1⟩ := (H1.out.keep hb).one i hlt
      obtain ⟨b2, o2, hb2, q2, x2⟩ := (H2.out.keep hb).one i (by rw [← HLL.out]; exact hlt)
      subst hb1 hb2
      have HXR := Lib.hid (HRA.out i hlt)
      have HYR := Lib.hid (HRB.out i (by rw [← HLL.out]; exact hlt))
      have HS : Hid (∀ u, Below wr.heap.size wr u → u.cell? ⟨b1, o1 + i, none⟩ = some (.int .i64 (iAt A i)) ∧ u.cell? ⟨b2, o2 + i, none⟩ = some (.int .i64 (iAt B i))) := Lib.hid fun u hu => ⟨(hu.cell (p := ⟨b1, o1 + i, none⟩) q1).trans x1, (hu.cell (p := ⟨b2, o2 + i, none⟩) q2).trans x2⟩
      have HZI := Lib.hid (HZS.out i)
      have HQL := Lib.hid (HZL.out i)
      clear hpw hb x1 x2 hlt
      generalize iAt A i = x at *
      generalize iAt B i = y at *
      generalize Z i = Q at *
      go_wp2
      have hj0 : Below wr.heap.size wr wr.drew := (Below.refl _ _).drew
      refine wp_region_late (S := fun u => Below wr.heap.size wr u) (X := [13]) (by kernel_rfl) ?_
      refine wpAnyL_pureD (i := 0) 25 (.slice (some ⟨g, 0, none⟩) A.length cap) rfl rfl (by kernel_rfl) (by kernel_rfl) (by kernel_rfl) (fun _ _ _ h => h) (Or.inl ⟨by rfl, fun u _ => ?_⟩) ?_
      · go_simp
      try simp only [Act.put, List.setIfInBounds_toArray, List.set_cons_zero, List.set_cons_succ]
      refine wpAnyL_pureD (i := 1) 26 (.int .i64 i) rfl rfl (by kernel_rfl) (by kernel_rfl) (by kernel_rfl) (fun _ _ _ h => h) (Or.inl ⟨by rfl, fun u _ => ?_⟩) ?_
      · go_simp
      try simp only [Act.put, List.setIfInBounds_toArray, List.set_cons_zero, List.set_cons_succ]
      refine wpAnyL_pureD (i := 2) 27 (.func (.func 61) #[] #[]) rfl rfl (by kernel_rfl) (by kernel_rfl) (by kernel_rfl) (fun _ _ _ h => h) (Or.inl ⟨by rfl, fun u _ => ?_⟩) ?_
      · go_simp
      try simp only [Act.put, List.setIfInBounds_toArray, List.set_cons_zero, List.set_cons_succ]
      refine wpAnyL_pureD (i := 3) 28 (.slice (some ⟨b1, o1, none⟩) A.length c) rfl rfl (by kernel_rfl) (by kernel_rfl) (by kernel_rfl) (fun _ _ _ h => h) (Or.inl ⟨by rfl, fun u _ => ?_⟩) ?_
      · go_simp
      try simp only [Act.put, List.setIfInBounds_toArray, List.set_cons_zero, List.set_cons_succ]
      refine wpAnyL_pureD (i := 4) 29 (.int .i64 i) rfl rfl (by kernel_rfl) (by kernel_rfl) (by kernel_rfl) (fun _ _ _ h => h) (Or.inl ⟨by rfl, fun u _ => ?_⟩) ?_
      · go_simp
      try simp only [Act.put, List.setIfInBounds_toArray, List.set_cons_zero, List.set_cons_succ]
      refine wpAnyL_pureD (i := 5) 30 (.pointer (some ⟨b1, o1 + i, none⟩)) rfl rfl (by kernel_rfl) (by kernel_rfl) (by kernel_rfl) (fun _ _ _ h => h) (Or.inl ⟨by rfl, fun u _ => ?_⟩) ?_
      · go_simp
      try simp only [Act.put, List.setIfInBounds_toArray, List.set_cons_zero, List.set_cons_succ]
      refine wpAnyL_takeD (i := 6) 31 (.int .i64 x) rfl rfl (by kernel_rfl) (by kernel_rfl) (by kernel_rfl) (by kernel_rfl) (by kernel_rfl) (fun _ _ _ h => h) hj0 (Or.inl ⟨by rfl, fun u hu => ?_⟩) ?_
      · obtain ⟨t0, t1⟩ := HS.out u hu
        go_simp
      try simp only [Act.put, List.setIfInBounds_toArray, List.set_cons_zero, List.set_cons_succ]
      refine wpAnyL_pureD (i := 7) 32 (.slice (some ⟨b2, o2, none⟩) B.length d) rfl rfl (by kernel_rfl) (by kernel_rfl) (by kernel_rfl) (fun _ _ _ h => h) (Or.inl ⟨by rfl, fun u _ => ?_⟩) ?_
      · go_simp
      try simp only [Act.put, List.setIfInBounds_toArray, List.set_cons_zero, List.set_cons_succ]
      refine wpAnyL_pureD (i := 8) 33 (.int .i64 i) rfl rfl (by kernel_rfl) (by kernel_rfl) (by kernel_rfl) (fun _ _ _ h => h) (Or.inl ⟨by rfl, fun u _ => ?_⟩) ?_
      · go_simp
      try simp only [Act.put, List.setIfInBounds_toArray, List.set_cons_zero, List.set_cons_succ]
      refine wpAnyL_pureD (i := 9) 34 (.pointer (some ⟨b2, o2 + i, none⟩)) rfl rfl (by kernel_rfl) (by kernel_rfl) (by kernel_rfl) (fun _ _ _ h => h) (Or.inl ⟨by rfl, fun u _ => ?_⟩) ?_
      · go_simp
      try simp only [Act.put, List.setIfInBounds_toArray, List.set_cons_zero, List.set_cons_succ]
      refine wpAnyL_takeD (i := 10) 35 (.int .i64 y) rfl rfl (by kernel_rfl) (by kernel_rfl) (by kernel_rfl) (by kernel_rfl) (by kernel_rfl) (fun _ _ _ h => h) hj0 (Or.inl ⟨by rfl, fun u hu => ?_⟩) ?_
      · obtain ⟨t0, t1⟩ := HS.out u hu
        go_simp
      try simp only [Act.put, List.setIfInBounds_toArray, List.set_cons_zero, List.set_cons_succ]
      refine wpAnyL_one (i := 11) (by kernel_rfl) rfl (fun K hK => ?_)
      go_simp
      go_at_call 61
      refine (HF.out x y _ HXR.out HYR.out (HBR.out.trans (hj0.mono HBR.out.size))).mono ?_
      rintro e y1 ⟨rfl, hb1⟩
      have hj1 := hj0.trans (hb1.mono hj0.size)
      show K _ _
      refine hK.out _ _ (fun _ _ => hj1) ?_
      clear hK K
      try simp only [Act.put, List.setIfInBounds_toArray, List.set_cons_zero, List.set_cons_succ]
      have hp1 : PB y1 g Q := HPW.out.keep hj1
      have s1 := hp1.cell i (by rw [HQL.out]; exact HLT.out)
      have s2 := hp1.frozen i
      generalize iAt Q i = old at s1
      refine wpAnyL_pureD (i := 12) 37 (.pointer (some ⟨g, i, none⟩)) rfl rfl (by kernel_rfl) (by kernel_rfl) (by kernel_rfl) (fun _ _ _ h => h) (Or.inl ⟨by rfl, fun u _ => ?_⟩) ?_
      · go_simp
      try simp only [Act.put, List.setIfInBounds_toArray, List.set_cons_zero, List.set_cons_succ]
      refine wpAnyL_one (i := 13) (by kernel_rfl) rfl (fun K hK => ?_)
      go_simp
      refine hK.out _ _ (fun h => absurd (by decide) h) ?_
      clear hK K
      refine wpAnyL_done (by kernel_rfl) ?_ _
      try simp only [Act.put, List.setIfInBounds_toArray, List.set_cons_zero, List.set_cons_succ]
      have HPN : Hid (PB (y1.setCell ⟨g, i, none⟩ (.int .i64 ((fun x y => x + y) x y))) g (Z (i + 1))) := Lib.hid (by rw [HZI.out]; exact hp1.set i _)
      have HBN : Hid (Below w.heap.size w (y1.setCell ⟨g, i, none⟩ (.int .i64 ((fun x y => x + y) x y)))) := Lib.hid ((HBR.out.trans (hj1.mono HBR.out.size)).setCell (p := ⟨g, i, none⟩) HGE.out _)
      clear hj0 hj1 hp1 s1 s2 hb1
      go_wp2
      go_roundw
      case rel => exact ⟨i + 1, by omega, by go_num, HPN.out, HBN.out⟩
      case measure => have := HLT.out; simp [intOf]; omega
    · obtain rfl : i = A.length := by omega
      have i1 : ¬ (A.length : Int) < (A.length : Int) := by omega
      rw [HZA.out] at hpw
      have HCO : Hid (∀ u, IsAt u (some ⟨g, 0, none⟩) ZZ → Calls Try.prog 59 #[.slice (some ⟨g, 0, none⟩) A.length cap, (.func (.func 57) #[] #[])] u (fun e u' => e = .returned (.bool (ZZ.any big)) ∧ Below u.heap.size u u')) := Lib.hid fun u hu => by
        have := contLarge_any (some ⟨g, 0, none⟩) cap ZZ (by rw [HZN.out]; exact hA) u hu
        rwa [HZN.out] at this
      have HRW := Lib.hid hpw.row
      have HBE := Lib.hid hb
      clear hpw hb HPW
      go_wp2_with fail
      refine (HCO.out wr HRW.out).mono ?_
      rintro e w3 ⟨rfl, hb3⟩
      have HEND := Lib.hid (HBE.out.trans (hb3.mono HBE.out.size))
      have HRE := Lib.hid (HRW.out.keep hb3)
      clear hb3
      cases hbz : ZZ.any big with
      | true =>
        have HR : Hid (XK = 11) := Lib.hid (by rw [HKN.out, if_pos hbz])
        have HR2 : Hid (XL = []) := Lib.hid (by rw [HLE.out, HR.out]; rfl)
        clear hbz
        go_wp2
        go_ret2
        exact ⟨none, 0, by rw [HR.out, HR2.out]; rfl, by rw [HR2.out]; exact RowAt.nil _ _ _ _, HEND.out⟩
      | false =>
        have HR : Hid (XK = 0) := Lib.hid (by rw [HKN.out, if_neg (by rw [hbz]; simp)])
        have HR2 : Hid (XL = ZZ) := Lib.hid (by rw [HLE.out, HR.out]; rfl)
        clear hbz
        go_wp2
        go_ret2
        exact ⟨some ⟨g, 0, none⟩, cap, by rw [HR.out, HR2.out, HZN.out]; rfl, by rw [HR2.out]; exact HRE.out, HEND.out⟩
end Go.Proofs.Ytalbdggpghkcfaa
