/- Sums of the reference. -/
import Derived.Test.YtalbdggpghkcfaaCq
namespace Go.Proofs.Ytalbdggpghkcfaa
open Go.RowKit Go.Proofs.Gr Go.Proofs.Cp
attribute [local go_sem] Oper.semAt_some

/-- Hands back ints and whether there are any. -/
def GivesIB (w : World) (X : List Int) (q : Bool) (e : Ending) (x : World) : Prop := ∃ a c, e = .returned (.tuple #[.slice a X.length c, .bool q]) ∧ IsAt x a X ∧ Below w.heap.size w x
set_option maxHeartbeats 12800000 in
set_option maxRecDepth 100000 in
theorem rSum_any (a b : Option Addr) (c d : Nat) (A B : List Int) (hA : A.length ≤ 1000) (_hB : B.length ≤ 1000) (hl : A.length = B.length) (hra : Rng A) (hrb : Rng B) (f : Int → Int → Int) (k : Int) (hk : k = 1 ∨ k = -1) (hf : ∀ x y, f x y = x + k * y) (w : World) (h1 : IsAt w a A) (h2 : IsAt w b B) :
    Calls Try.prog 62 #[.slice a A.length c, .slice b B.length d, .int .i64 k] w (GivesIB w (if (zipD f A B).any big = true then [] else zipD f A B) (!(zipD f A B).any big)) := by
  have H1 := Lib.hid h1
  have H2 := Lib.hid h2
  have HLL := Lib.hid hl
  have HIN := Lib.hid (fun k w => rIn_any k w)
  have HRA := Lib.hid (fun i hi => rng_at hra i hi)
  have HRB2 := Lib.hid (fun i hi => rng_at hrb i hi)
  have HZ0 : Hid (stepG A.length (fun j => f (iAt A j) (iAt B j)) 0 = List.replicate A.length 0) := Lib.hid rfl
  have HZS : Hid (∀ i, stepG A.length (fun j => f (iAt A j) (iAt B j)) (i + 1) = (stepG A.length (fun j => f (iAt A j) (iAt B j)) i).set i (iAt A i + k * iAt B i)) := Lib.hid fun i => by rw [stepG_one, hf]
  have HZL := Lib.hid (fun i => stepG_len A.length (fun j => f (iAt A j) (iAt B j)) i)
  have HZA : Hid (stepG A.length (fun j => f (iAt A j) (iAt B j)) A.length = zipD f A B) := Lib.hid (stepG_zip f hl)
  have HZN : Hid ((zipD f A B).length = A.length) := Lib.hid (zip_len _ hl)
  have HBG : Hid (∀ i, i < A.length → big (iAt A i + k * iAt B i) = true → (zipD f A B).any big = true) := Lib.hid fun i hi h => by
    rw [List.any_eq_true]
    have hz : i < (zipD f A B).length := by rw [zip_len f hl]; exact hi
    refine ⟨(zipD f A B)[i], List.getElem_mem hz, ?_⟩
    rw [iAt_get _ i hz, zip_at f hl i hi, hf]; exact h
  have HNB : Hid ((∀ i, i < A.length → big (iAt A i + k * iAt B i) = false) → (zipD f A B).any big = false) := Lib.hid fun h => by
    rw [List.any_eq_false]
    intro z hz
    obtain ⟨j, hj, rfl⟩ := List.getElem_of_mem hz
    have hj' := hj
    rw [zip_len f hl] at hj'
    rw [iAt_get _ j hj, zip_at f hl j hj', hf, h j hj']; simp
  obtain ⟨XX, hXX⟩ : ∃ XX, XX = (if (zipD f A B).any big = true then [] else zipD f A B) := ⟨_, rfl⟩
  obtain ⟨QQ, hQQ⟩ : ∃ QQ, QQ = !(zipD f A B).any big := ⟨_, rfl⟩
  rw [← hXX, ← hQQ]
  have HXX := Lib.hid hXX
  have HQQ := Lib.hid hQQ
  clear hXX hQQ
  unfold GivesIB
  clear h1 h2 hl hra hrb hf
  generalize stepG A.length (fun j => f (iAt A j) (iAt B j)) = Z at *
  generalize zipD f A B = ZZ at *
  have hmk : (Instr.makeSlice 23 (.int .i64 (A.length : Int)) (.int .i64 (A.length : Int))).run Try.prog w = .ok (.slice (some ⟨w.heap.size, 0, none⟩) A.length A.length) (w.alloc (.cells (flat encI (List.replicate A.length 0)).toArray 3)) := make_divs A.length (by omega) _
  obtain ⟨W9, hW9⟩ : ∃ v, v = w.alloc (.cells (flat encI (List.replicate A.length 0)).toArray 3) := ⟨_, rfl⟩
  obtain ⟨g, hgg⟩ : ∃ v, v = w.heap.size := ⟨_, rfl⟩
  have HRB : Hid (RowB encI 3 W9 g (List.replicate A.length 0)) := Lib.hid (by rw [hW9, hgg]; exact RowB.new _ _ _ _)
  have HBL : Hid (Below w.heap.size w W9) := Lib.hid (by rw [hW9]; exact (Below.refl _ _).alloc (Nat.le_refl _) _)
  have HGE : Hid (w.heap.size ≤ g) := Lib.hid (by rw [hgg]; exact Nat.le_refl _)
  rw [← hW9, ← hgg] at hmk
  clear hW9 hgg
  go_enter Try.func62, Try.ntmps62
  go_wp2
  go_loopw [9] (fun x wr => ∃ i : Nat, i ≤ A.length ∧ x = .int .i64 i ∧ (∀ j, j < i → big (iAt A j + k * iAt B j) = false) ∧ RowB encI 3 wr g (Z i) ∧ Below w.heap.size w wr) (fun x _ => A.length - (intOf x).toNat)
  case atStart => exact ⟨0, by omega, rfl, fun j hj => by omega, by rw [HZ0.out]; exact HRB.out, HBL.out⟩
  case round =>
    obtain ⟨i, hi, rfl, hz, hpw, hb⟩ := hrel
    have HBR := Lib.hid hb
    have HPW := Lib.hid hpw
    have HZ := Lib.hid hz
    by_cases hlt : i < A.length
    · have i1 : (i : Int) < (A.length : Int) := by omega
      have i2 : (0 : Int) ≤ (i : Int) := by omega
      have i3 : (i : Int) < (B.length : Int) := by have := HLL.out; omega
      have HLT := Lib.hid hlt
      obtain ⟨b1, o1, hb1, q1, x1⟩ := (H1.out.keep hb).one i hlt
      obtain ⟨b2, o2, hb2, q2, x2⟩ := (H2.out.keep hb).one i (by rw [← HLL.out]; exact hlt)
      subst hb1 hb2
      have hxr := HRA.out i hlt
      have hyr := HRB2.out i (by rw [← HLL.out]; exact hlt)
      have HS : Hid (∀ u, Below wr.heap.size wr u → u.cell? ⟨b1, o1 + i, none⟩ = some (.int .i64 (iAt A i)) ∧ u.cell? ⟨b2, o2 + i, none⟩ = some (.int .i64 (iAt B i))) := Lib.hid fun u hu => ⟨(hu.cell (p := ⟨b1, o1 + i, none⟩) q1).trans x1, (hu.cell (p := ⟨b2, o2 + i, none⟩) q2).trans x2⟩
      have HZI := Lib.hid (HZS.out i)
      have HQL := Lib.hid (HZL.out i)
      have HBI := Lib.hid (HBG.out i hlt)
      have HZJ : Hid (big (iAt A i + k * iAt B i) = false → ∀ j, j < i + 1 → big (iAt A j + k * iAt B j) = false) := Lib.hid fun h0 j hj => by
        by_cases e : j = i
        · subst e; exact h0
        · exact HZ.out j (by omega)
      have s1 := hpw.cell i (by rw [HQL.out]; exact hlt)
      have s2 : wr.frozen? ⟨g, i, none⟩ = false := Blk.frozen hpw i
      clear hpw hb x1 x2 hlt hz
      generalize iAt A i = x at *
      generalize iAt B i = y at *
      generalize Z i = Q at *
      generalize iAt Q i = old at s1
      have m1 : -1048576 ≤ k * y ∧ k * y ≤ 1048576 := by
        rcases hk with rfl | rfl <;> omega
      have m2 : -2097152 ≤ x + k * y ∧ x + k * y ≤ 2097152 := by omega
      have hps := HPW.out.set i (x + k * y)
      have HPN : Hid (RowB encI 3 (wr.setCell ⟨g, i, none⟩ (.int .i64 (x + k * y))) g (Z (i + 1))) := Lib.hid (by rw [HZI.out]; exact hps)
      have s3 : (wr.setCell ⟨g, i, none⟩ (.int .i64 (x + k * y))).cell? ⟨g, i, none⟩ = some (.int .i64 (x + k * y)) := by
        have := hps.cell i (by rw [List.length_set, HQL.out]; exact HLT.out)
        rwa [iAt_set _ _ _ _ (by rw [HQL.out]; exact HLT.out), if_pos rfl] at this
      have HBN : Hid (Below w.heap.size w (wr.setCell ⟨g, i, none⟩ (.int .i64 (x + k * y)))) := Lib.hid (HBR.out.setCell (p := ⟨g, i, none⟩) HGE.out _)
      clear hps
      go_wp2
      have hj0 : Below wr.heap.size wr wr.drew := (Below.refl _ _).drew
      refine wp_region_late (S := fun u => Below wr.heap.size wr u) (X := [14]) (by kernel_rfl) ?_
      refine wpAnyL_pureD (i := 0) 19 (.slice (some ⟨g, 0, none⟩) A.length A.length) rfl rfl (by kernel_rfl) (by kernel_rfl) (by kernel_rfl) (fun _ _ _ h => h) (Or.inl ⟨by rfl, fun u _ => ?_⟩) ?_
      · go_simp
      try simp only [Act.put, List.setIfInBounds_toArray, List.set_cons_zero, List.set_cons_succ]
      refine wpAnyL_pureD (i := 1) 20 (.int .i64 i) rfl rfl (by kernel_rfl) (by kernel_rfl) (by kernel_rfl) (fun _ _ _ h => h) (Or.inl ⟨by rfl, fun u _ => ?_⟩) ?_
      · go_simp
      try simp only [Act.put, List.setIfInBounds_toArray, List.set_cons_zero, List.set_cons_succ]
      refine wpAnyL_pureD (i := 2) 21 (.slice (some ⟨b1, o1, none⟩) A.length c) rfl rfl (by kernel_rfl) (by kernel_rfl) (by kernel_rfl) (fun _ _ _ h => h) (Or.inl ⟨by rfl, fun u _ => ?_⟩) ?_
      · go_simp
      try simp only [Act.put, List.setIfInBounds_toArray, List.set_cons_zero, List.set_cons_succ]
      refine wpAnyL_pureD (i := 3) 22 (.int .i64 i) rfl rfl (by kernel_rfl) (by kernel_rfl) (by kernel_rfl) (fun _ _ _ h => h) (Or.inl ⟨by rfl, fun u _ => ?_⟩) ?_
      · go_simp
      try simp only [Act.put, List.setIfInBounds_toArray, List.set_cons_zero, List.set_cons_succ]
      refine wpAnyL_pureD (i := 4) 23 (.pointer (some ⟨b1, o1 + i, none⟩)) rfl rfl (by kernel_rfl) (by kernel_rfl) (by kernel_rfl) (fun _ _ _ h => h) (Or.inl ⟨by rfl, fun u _ => ?_⟩) ?_
      · go_simp
      try simp only [Act.put, List.setIfInBounds_toArray, List.set_cons_zero, List.set_cons_succ]
      refine wpAnyL_takeD (i := 5) 24 (.int .i64 x) rfl rfl (by kernel_rfl) (by kernel_rfl) (by kernel_rfl) (by kernel_rfl) (by kernel_rfl) (fun _ _ _ h => h) hj0 (Or.inl ⟨by rfl, fun u hu => ?_⟩) ?_
      · obtain ⟨t0, t1⟩ := HS.out u hu
        go_simp
      try simp only [Act.put, List.setIfInBounds_toArray, List.set_cons_zero, List.set_cons_succ]
      refine wpAnyL_pureD (i := 6) 25 (.int .i64 k) rfl rfl (by kernel_rfl) (by kernel_rfl) (by kernel_rfl) (fun _ _ _ h => h) (Or.inl ⟨by rfl, fun u _ => ?_⟩) ?_
      · go_simp
      try simp only [Act.put, List.setIfInBounds_toArray, List.set_cons_zero, List.set_cons_succ]
      refine wpAnyL_pureD (i := 7) 26 (.slice (some ⟨b2, o2, none⟩) B.length d) rfl rfl (by kernel_rfl) (by kernel_rfl) (by kernel_rfl) (fun _ _ _ h => h) (Or.inl ⟨by rfl, fun u _ => ?_⟩) ?_
      · go_simp
      try simp only [Act.put, List.setIfInBounds_toArray, List.set_cons_zero, List.set_cons_succ]
      refine wpAnyL_pureD (i := 8) 27 (.int .i64 i) rfl rfl (by kernel_rfl) (by kernel_rfl) (by kernel_rfl) (fun _ _ _ h => h) (Or.inl ⟨by rfl, fun u _ => ?_⟩) ?_
      · go_simp
      try simp only [Act.put, List.setIfInBounds_toArray, List.set_cons_zero, List.set_cons_succ]
      refine wpAnyL_pureD (i := 9) 28 (.pointer (some ⟨b2, o2 + i, none⟩)) rfl rfl (by kernel_rfl) (by kernel_rfl) (by kernel_rfl) (fun _ _ _ h => h) (Or.inl ⟨by rfl, fun u _ => ?_⟩) ?_
      · go_simp
      try simp only [Act.put, List.setIfInBounds_toArray, List.set_cons_zero, List.set_cons_succ]
      refine wpAnyL_takeD (i := 10) 29 (.int .i64 y) rfl rfl (by kernel_rfl) (by kernel_rfl) (by kernel_rfl) (by kernel_rfl) (by kernel_rfl) (fun _ _ _ h => h) hj0 (Or.inl ⟨by rfl, fun u hu => ?_⟩) ?_
      · obtain ⟨t0, t1⟩ := HS.out u hu
        go_simp
      try simp only [Act.put, List.setIfInBounds_toArray, List.set_cons_zero, List.set_cons_succ]
      refine wpAnyL_pureD (i := 11) 30 (.int .i64 (k * y)) rfl rfl (by kernel_rfl) (by kernel_rfl) (by kernel_rfl) (fun _ _ _ h => h) (Or.inl ⟨by rfl, fun u _ => ?_⟩) ?_
      · go_simp
        try (rw [IntKind.wrap_i64]; omega)
      try simp only [Act.put, List.setIfInBounds_toArray, List.set_cons_zero, List.set_cons_succ]
      refine wpAnyL_pureD (i := 12) 31 (.int .i64 (x + k * y)) rfl rfl (by kernel_rfl) (by kernel_rfl) (by kernel_rfl) (fun _ _ _ h => h) (Or.inl ⟨by rfl, fun u _ => ?_⟩) ?_
      · go_simp
        try (rw [IntKind.wrap_i64]; omega)
      try simp only [Act.put, List.setIfInBounds_toArray, List.set_cons_zero, List.set_cons_succ]
      refine wpAnyL_pureD (i := 13) 32 (.pointer (some ⟨g, i, none⟩)) rfl rfl (by kernel_rfl) (by kernel_rfl) (by kernel_rfl) (fun _ _ _ h => h) (Or.inl ⟨by rfl, fun u _ => ?_⟩) ?_
      · go_simp
      try simp only [Act.put, List.setIfInBounds_toArray, List.set_cons_zero, List.set_cons_succ]
      refine wpAnyL_one (i := 14) (by kernel_rfl) rfl (fun K hK => ?_)
      go_simp
      refine hK.out _ _ (fun h => absurd (by decide) h) ?_
      clear hK K
      refine wpAnyL_done (by kernel_rfl) ?_ _
      try simp only [Act.put, List.setIfInBounds_toArray, List.set_cons_zero, List.set_cons_succ]
      clear hj0 s1 s2
      go_wp2_with fail
      refine (HIN.out (x + k * y) _).mono ?_
      rintro e w2 ⟨rfl, rfl⟩
      clear m1 m2 s3
      generalize x + k * y = v at *
      cases hbv : big v with
      | true =>
        have HR : Hid (XX = [] ∧ QQ = false) := Lib.hid (by rw [HXX.out, HQQ.out, HBI.out hbv]; exact ⟨rfl, rfl⟩)
        clear hbv
        rw [Bool.not_true]
        go_wp2
        go_ret2
        first | exact ⟨none, ⟨0, by rw [HR.out.1, HR.out.2]; rfl⟩, by rw [HR.out.1]; exact RowAt.nil _ _ _ _, HBN.out.drew⟩ | exact ⟨none, 0, by rw [HR.out.1, HR.out.2]; rfl, by rw [HR.out.1]; exact RowAt.nil _ _ _ _, HBN.out.drew⟩
      | false =>
        have HR := Lib.hid (HZJ.out hbv)
        clear hbv
        rw [Bool.not_false]
        go_wp2
        go_roundw
        case rel => exact ⟨i + 1, by omega, by go_num, HR.out, HPN.out, HBN.out.drew⟩
        case measure => have := HLT.out; simp [intOf]; omega
    · obtain rfl : i = A.length := by omega
      have i1 : ¬ (A.length : Int) < (A.length : Int) := by omega
      rw [HZA.out] at hpw
      have HRW : Hid (IsAt wr (some ⟨g, 0, none⟩) ZZ) := Lib.hid (hpw.row encI_len)
      have HR : Hid (XX = ZZ ∧ QQ = true) := Lib.hid (by rw [HXX.out, HQQ.out, HNB.out hz]; exact ⟨rfl, rfl⟩)
      clear hpw hb HPW hz
      go_wp2
      go_ret2
      first | exact ⟨some ⟨g, 0, none⟩, ⟨A.length, by rw [HR.out.1, HR.out.2, HZN.out]; rfl⟩, by rw [HR.out.1]; exact HRW.out, HBR.out⟩ | exact ⟨some ⟨g, 0, none⟩, A.length, by rw [HR.out.1, HR.out.2, HZN.out]; rfl, by rw [HR.out.1]; exact HRW.out, HBR.out⟩
set_option maxHeartbeats 12800000 in
set_option maxRecDepth 100000 in
theorem rresult_any (a : Option Addr) (n c : Nat) (q : Bool) (w : World) :
    Calls Try.prog 63 #[.slice a n c, .bool q] w (fun e w' => e = .returned (.tuple #[if q = true then .slice a n c else .slice none 0 0, .int .i64 (if q = true then 0 else 11)]) ∧ w = w') := by

  go_enter Try.func63, Try.ntmps63
  cases q
  all_goals (go_wp2; go_ret2; exact ⟨rfl, rfl⟩)
set_option maxHeartbeats 12800000 in
set_option maxRecDepth 100000 in
theorem rAdd_any (a b : Option Addr) (c d : Nat) (A B : List Int) (hA : A.length ≤ 1000) (hB : B.length ≤ 1000) (w : World) (h1 : IsAt w a A) (h2 : IsAt w b B) :
    Calls Try.prog 22 #[.slice a A.length c, .slice b B.length d] w (GivesIE w (cmbL (fun x y => x + y) A B) (cmbK (fun x y => x + y) A B)) := by
  have HC := Lib.hid (rBoth_any a b c d A B hA hB w h1 h2)
  have H1 := Lib.hid h1
  have H2 := Lib.hid h2
  have HRS := Lib.hid (fun a n c q w => rresult_any a n c q w)
  have HS : Hid (bothD A B = 0 → ∀ u, IsAt u a A → IsAt u b B → Calls Try.prog 62 #[.slice a A.length c, .slice b B.length d, .int .i64 (1)] u (GivesIB u (if (zipD (fun x y => x + y) A B).any big = true then [] else zipD (fun x y => x + y) A B) (!(zipD (fun x y => x + y) A B).any big))) := Lib.hid fun hz u ha hb => by
    obtain ⟨d1, d2, d3⟩ := both_div hz
    exact rSum_any a b c d A B hA hB d3 d1.rng d2.rng (fun x y => x + y) (1) (by omega) (fun x y => by omega) u ha hb
  have HE0 : Hid (bothD A B ≠ 0 → cmbK (fun x y => x + y) A B = bothD A B ∧ cmbL (fun x y => x + y) A B = []) := Lib.hid fun h => cmb_err h
  have HE1 : Hid (bothD A B = 0 → (zipD (fun x y => x + y) A B).any big = true → cmbK (fun x y => x + y) A B = 11 ∧ cmbL (fun x y => x + y) A B = []) := Lib.hid fun h h' => cmb_big h h'
  have HE2 : Hid (bothD A B = 0 → (zipD (fun x y => x + y) A B).any big = false → cmbK (fun x y => x + y) A B = 0 ∧ cmbL (fun x y => x + y) A B = zipD (fun x y => x + y) A B) := Lib.hid fun h h' => cmb_ok h h'
  unfold GivesIE
  unfold GivesIB at HS
  generalize cmbL (fun x y => x + y) A B = X at *
  generalize cmbK (fun x y => x + y) A B = K at *
  generalize zipD (fun x y => x + y) A B = ZZ at *
  generalize bothD A B = k at *
  clear h1 h2
  go_enter Try.func22, Try.ntmps22
  go_wp2_with fail
  refine HC.out.mono ?_
  rintro e w1 ⟨rfl, hb1⟩
  have HB1 := Lib.hid hb1
  clear hb1
  by_cases hk : k ≠ 0
  · have q0 : (((k : Nat) : Int) != 0) = true := by rw [bne_iff_ne]; omega
    have HR2 := Lib.hid (HE0.out hk)
    clear hk
    go_wp2
    go_ret2
    exact ⟨none, 0, by rw [HR2.out.1, HR2.out.2]; rfl, by rw [HR2.out.2]; exact RowAt.nil _ _ _ _, HB1.out⟩
  have hk0 : k = 0 := by omega
  have HF := Lib.hid (HS.out hk0)
  have HT := Lib.hid (HE1.out hk0)
  have HN := Lib.hid (HE2.out hk0)
  subst hk0
  clear hk
  go_wp2_with fail
  refine (HF.out w1 (H1.out.keep HB1.out) (H2.out.keep HB1.out)).mono ?_
  rintro e w2 ⟨p, q, rfl, hr, hb⟩
  have HB2 := Lib.hid (HB1.out.trans (hb.mono HB1.out.size))
  have HP := Lib.hid hr
  clear hb hr
  cases hz : ZZ.any big with
  | true =>
    rw [hz] at HP
    rw [if_pos rfl] at HP
    rw [if_pos rfl, Bool.not_true]
    have HR := Lib.hid (HT.out hz)
    clear hz
    go_wp2_with fail
    refine (HRS.out p _ q false w2).mono ?_
    rintro e w3 ⟨rfl, rfl⟩
    go_wp2
    go_ret2
    exact ⟨none, 0, by rw [HR.out.1, HR.out.2]; rfl, by rw [HR.out.2]; exact RowAt.nil _ _ _ _, HB2.out⟩
  | false =>
    rw [hz] at HP
    rw [if_neg (by simp)] at HP
    rw [if_neg (by simp), Bool.not_false]
    have HR := Lib.hid (HN.out hz)
    clear hz
    go_wp2_with fail
    refine (HRS.out p _ q true w2).mono ?_
    rintro e w3 ⟨rfl, rfl⟩
    go_wp2
    go_ret2
    exact ⟨p, q, by rw [HR.out.1, HR.out.2]; rfl, by rw [HR.out.2]; exact HP.out, HB2.out⟩
set_option maxHeartbeats 12800000 in
set_option maxRecDepth 100000 in
theorem rSub_any (a b : Option Addr) (c d : Nat) (A B : List Int) (hA : A.length ≤ 1000) (hB : B.length ≤ 1000) (w : World) (h1 : IsAt w a A) (h2 : IsAt w b B) :
    Calls Try.prog 24 #[.slice a A.length c, .slice b B.length d] w (GivesIE w (cmbL (fun x y => x - y) A B) (cmbK (fun x y => x - y) A B)) := by
  have HC := Lib.hid (rBoth_any a b c d A B hA hB w h1 h2)
  have H1 := Lib.hid h1
  have H2 := Lib.hid h2
  have HRS := Lib.hid (fun a n c q w => rresult_any a n c q w)
  have HS : Hid (bothD A B = 0 → ∀ u, IsAt u a A → IsAt u b B → Calls Try.prog 62 #[.slice a A.length c, .slice b B.length d, .int .i64 (-1)] u (GivesIB u (if (zipD (fun x y => x - y) A B).any big = true then [] else zipD (fun x y => x - y) A B) (!(zipD (fun x y => x - y) A B).any big))) := Lib.hid fun hz u ha hb => by
    obtain ⟨d1, d2, d3⟩ := both_div hz
    exact rSum_any a b c d A B hA hB d3 d1.rng d2.rng (fun x y => x - y) (-1) (by omega) (fun x y => by omega) u ha hb
  have HE0 : Hid (bothD A B ≠ 0 → cmbK (fun x y => x - y) A B = bothD A B ∧ cmbL (fun x y => x - y) A B = []) := Lib.hid fun h => cmb_err h
  have HE1 : Hid (bothD A B = 0 → (zipD (fun x y => x - y) A B).any big = true → cmbK (fun x y => x - y) A B = 11 ∧ cmbL (fun x y => x - y) A B = []) := Lib.hid fun h h' => cmb_big h h'
  have HE2 : Hid (bothD A B = 0 → (zipD (fun x y => x - y) A B).any big = false → cmbK (fun x y => x - y) A B = 0 ∧ cmbL (fun x y => x - y) A B = zipD (fun x y => x - y) A B) := Lib.hid fun h h' => cmb_ok h h'
  unfold GivesIE
  unfold GivesIB at HS
  generalize cmbL (fun x y => x - y) A B = X at *
  generalize cmbK (fun x y => x - y) A B = K at *
  generalize zipD (fun x y => x - y) A B = ZZ at *
  generalize bothD A B = k at *
  clear h1 h2
  go_enter Try.func24, Try.ntmps24
  go_wp2_with fail
  refine HC.out.mono ?_
  rintro e w1 ⟨rfl, hb1⟩
  have HB1 := Lib.hid hb1
  clear hb1
  by_cases hk : k ≠ 0
  · have q0 : (((k : Nat) : Int) != 0) = true := by rw [bne_iff_ne]; omega
    have HR2 := Lib.hid (HE0.out hk)
    clear hk
    go_wp2
    go_ret2
    exact ⟨none, 0, by rw [HR2.out.1, HR2.out.2]; rfl, by rw [HR2.out.2]; exact RowAt.nil _ _ _ _, HB1.out⟩
  have hk0 : k = 0 := by omega
  have HF := Lib.hid (HS.out hk0)
  have HT := Lib.hid (HE1.out hk0)
  have HN := Lib.hid (HE2.out hk0)
  subst hk0
  clear hk
  go_wp2_with fail
  refine (HF.out w1 (H1.out.keep HB1.out) (H2.out.keep HB1.out)).mono ?_
  rintro e w2 ⟨p, q, rfl, hr, hb⟩
  have HB2 := Lib.hid (HB1.out.trans (hb.mono HB1.out.size))
  have HP := Lib.hid hr
  clear hb hr
  cases hz : ZZ.any big with
  | true =>
    rw [hz] at HP
    rw [if_pos rfl] at HP
    rw [if_pos rfl, Bool.not_true]
    have HR := Lib.hid (HT.out hz)
    clear hz
    go_wp2_with fail
    refine (HRS.out p _ q false w2).mono ?_
    rintro e w3 ⟨rfl, rfl⟩
    go_wp2
    go_ret2
    exact ⟨none, 0, by rw [HR.out.1, HR.out.2]; rfl, by rw [HR.out.2]; exact RowAt.nil _ _ _ _, HB2.out⟩
  | false =>
    rw [hz] at HP
    rw [if_neg (by simp)] at HP
    rw [if_neg (by simp), Bool.not_false]
    have HR := Lib.hid (HN.out hz)
    clear hz
    go_wp2_with fail
    refine (HRS.out p _ q true w2).mono ?_
    rintro e w3 ⟨rfl, rfl⟩
    go_wp2
    go_ret2
    exact ⟨p, q, by rw [HR.out.1, HR.out.2]; rfl, by rw [HR.out.2]; exact HP.out, HB2.out⟩
end Go.Proofs.Ytalbdggpghkcfaa
