/- Meet and Join of the reference. -/
import Derived.Test.YtalbdggpghkcfaaCp
namespace Go.Proofs.Ytalbdggpghkcfaa
open Go.RowKit Go.Proofs.Gr Go.Proofs.Cp
attribute [local go_sem] Oper.semAt_some

/-- A made list, place by place. -/
def stepG (n : Nat) (h : Nat → Int) : Nat → List Int
  | 0 => List.replicate n 0
  | k + 1 => (stepG n h k).set k (h k)
theorem stepG_len (n : Nat) (h : Nat → Int) (k : Nat) : (stepG n h k).length = n := by
  induction k with
  | zero => simp [stepG]
  | succ k ih => rw [stepG, List.length_set, ih]
theorem stepG_at (n : Nat) (h : Nat → Int) (k j : Nat) (hk : k ≤ n) (hj : j < n) : (stepG n h k)[j]? = some (if j < k then h j else 0) := by
  induction k with
  | zero => rw [stepG, List.getElem?_replicate, if_pos hj, if_neg (by omega)]
  | succ k ih =>
    rw [stepG]
    by_cases e : k = j
    · subst e
      rw [List.getElem?_set_self (by rw [stepG_len]; omega), if_pos (by omega)]
    · rw [List.getElem?_set_ne e, ih (by omega)]
      by_cases h : j < k
      · rw [if_pos h, if_pos (by omega)]
      · rw [if_neg h, if_neg (by omega)]
theorem stepG_zip (f : Int → Int → Int) {A B : List Int} (hl : A.length = B.length) : stepG A.length (fun j => f (iAt A j) (iAt B j)) A.length = zipD f A B := by
  refine List.ext_getElem? fun j => ?_
  by_cases hj : j < A.length
  · rw [stepG_at _ _ _ j (Nat.le_refl _) hj, if_pos hj, List.getElem?_eq_getElem (by rw [zip_len f hl]; exact hj), iAt_get _ j (by rw [zip_len f hl]; exact hj), zip_at f hl j hj]
  · rw [List.getElem?_eq_none (by rw [stepG_len]; omega), List.getElem?_eq_none (by rw [zip_len f hl]; omega)]
theorem stepG_one (n : Nat) (h : Nat → Int) (k : Nat) : stepG n h (k + 1) = (stepG n h k).set k (h k) := rfl
set_option maxHeartbeats 12800000 in
set_option maxRecDepth 100000 in
theorem rMeet_any (a b : Option Addr) (c d : Nat) (A B : List Int) (hA : A.length ≤ 1000) (hB : B.length ≤ 1000) (w : World) (h1 : IsAt w a A) (h2 : IsAt w b B) :
    Calls Try.prog 43 #[.slice a A.length c, .slice b B.length d] w (GivesIE w (cmbL (fun x y => min x y) A B) (cmbK (fun x y => min x y) A B)) := by
  have HC := Lib.hid (rBoth_any a b c d A B hA hB w h1 h2)
  obtain ⟨e1, e2⟩ := meet_ok A B
  rw [e1]
  obtain ⟨K, hK⟩ : ∃ K, K = bothD A B := ⟨_, rfl⟩
  rw [← hK]
  have HKK := Lib.hid hK
  clear hK
  have HX := Lib.hid e2
  have HX2 : Hid (bothD A B ≠ 0 → cmbL (fun x y => min x y) A B = []) := Lib.hid fun h => (cmb_err h).2
  have H1 := Lib.hid h1
  have H2 := Lib.hid h2
  have HDV : Hid (bothD A B = 0 → Div A ∧ Div B ∧ A.length = B.length) := Lib.hid fun h => both_div h
  generalize cmbL (fun x y => min x y) A B = X at *
  unfold GivesIE
  clear h1 h2 e1 e2
  go_enter Try.func43, Try.ntmps43
  go_wp2_with fail
  refine HC.out.mono ?_
  rintro e w1 ⟨rfl, hb1⟩
  have HB1 := Lib.hid hb1
  by_cases hk : bothD A B ≠ 0
  · have q0 : (((bothD A B : Nat) : Int) != 0) = true := by rw [bne_iff_ne]; omega
    have HR2 := Lib.hid (HX2.out hk)
    clear hb1 hk HDV HX HX2
    generalize bothD A B = k at *
    go_wp2
    go_ret2
    exact ⟨none, 0, by rw [HKK.out, HR2.out]; rfl, by rw [HR2.out]; exact RowAt.nil _ _ _ _, HB1.out⟩
  have hk0 : bothD A B = 0 := by omega
  obtain ⟨hdA, hdB, hll⟩ := HDV.out hk0
  have HXX := Lib.hid (HX.out hk0)
  rw [hk0] at HKK ⊢
  have HA1 := Lib.hid hdA.one
  have HRA := Lib.hid (fun i hi => div_at hdA i hi)
  have HRB2 := Lib.hid (fun i hi => div_at hdB i hi)
  have HLL := Lib.hid hll
  have HZ0 : Hid (stepG A.length (fun j => min (iAt A j) (iAt B j)) 0 = List.replicate A.length 0) := Lib.hid rfl
  have HZS := Lib.hid (fun i => stepG_one A.length (fun j => min (iAt A j) (iAt B j)) i)
  have HZL := Lib.hid (fun i => stepG_len A.length (fun j => min (iAt A j) (iAt B j)) i)
  have HZA : Hid (stepG A.length (fun j => min (iAt A j) (iAt B j)) A.length = zipD (fun x y => min x y) A B) := Lib.hid (stepG_zip (fun x y => min x y) hll)
  have HZN : Hid ((zipD (fun x y => min x y) A B).length = A.length) := Lib.hid (zip_len _ hll)
  clear hb1 hk hk0 hdA hdB hll HDV HX HX2
  generalize stepG A.length (fun j => min (iAt A j) (iAt B j)) = Z at *
  generalize zipD (fun x y => min x y) A B = ZZ at *
  have hmk : (Instr.makeSlice 23 (.int .i64 (A.length : Int)) (.int .i64 (A.length : Int))).run Try.prog w1 = .ok (.slice (some ⟨w1.heap.size, 0, none⟩) A.length A.length) (w1.alloc (.cells (flat encI (List.replicate A.length 0)).toArray 3)) := make_divs A.length (by omega) _
  obtain ⟨W9, hW9⟩ : ∃ v, v = w1.alloc (.cells (flat encI (List.replicate A.length 0)).toArray 3) := ⟨_, rfl⟩
  obtain ⟨g, hgg⟩ : ∃ v, v = w1.heap.size := ⟨_, rfl⟩
  have HRB : Hid (RowB encI 3 W9 g (List.replicate A.length 0)) := Lib.hid (by rw [hW9, hgg]; exact RowB.new _ _ _ _)
  have HBL : Hid (Below w.heap.size w W9) := Lib.hid (by rw [hW9]; exact HB1.out.alloc HB1.out.size _)
  have HGE : Hid (w.heap.size ≤ g) := Lib.hid (by rw [hgg]; exact HB1.out.size)
  rw [← hW9, ← hgg] at hmk
  clear hW9 hgg
  go_wp2
  go_loopw [8] (fun x wr => ∃ i : Nat, i ≤ A.length ∧ x = .int .i64 i ∧ RowB encI 3 wr g (Z i) ∧ Below w.heap.size w wr) (fun x _ => A.length - (intOf x).toNat)
  case atStart => exact ⟨0, by omega, rfl, by rw [HZ0.out]; exact HRB.out, HBL.out⟩
  case round =>
    obtain ⟨i, hi, rfl, hpw, hb⟩ := hrel
    have HBR := Lib.hid hb
    have HPW := Lib.hid hpw
    by_cases hlt : i < A.length
    · have i1 : (i : Int) < (A.length : Int) := by omega
      have i2 : (0 : Int) ≤ (i : Int) := by omega
      have i3 : (i : Int) < (B.length : Int) := by have := HLL.out; omega
      have HLT := Lib.hid hlt
      obtain ⟨b1, o1, hb1, q1, x1⟩ := (H1.out.keep hb).one i hlt
      obtain ⟨b2, o2, hb2, q2, x2⟩ := (H2.out.keep hb).one i (by rw [← HLL.out]; exact hlt)
      subst hb1 hb2
      have hxr := HRA.out i hlt
      have hyr := HRB2.out i (by rw [← HLL.out]; exact hlt)
      have HS : Hid (∀ u, Below wr.heap.size wr u → u.cell? ⟨b1, o1 + i, none⟩ = some (.int .i64 (iAt A i)) ∧ u.cell? ⟨b2, o2 + i, none⟩ = some (.int .i64 (iAt B i))) := Lib.hid fun u hu => ⟨(hu.cell (p := ⟨b1, o1 + i, none⟩) q1).trans x1, (hu.cell (p := ⟨b2, o2 + i, none⟩) q2).trans x2⟩
      have HZI := Lib.hid (HZS.out i)
      have HQL := Lib.hid (HZL.out i)
      have s1 := hpw.cell i (by rw [HQL.out]; exact hlt)
      have s2 : wr.frozen? ⟨g, i, none⟩ = false := Blk.frozen hpw i
      clear hpw hb x1 x2 hlt
      generalize iAt A i = x at *
      generalize iAt B i = y at *
      generalize Z i = Q at *
      generalize iAt Q i = old at s1
      have HPN : Hid (RowB encI 3 (wr.setCell ⟨g, i, none⟩ (.int .i64 (min x y))) g (Z (i + 1))) := Lib.hid (by rw [HZI.out]; exact HPW.out.set i _)
      have HBN : Hid (Below w.heap.size w (wr.setCell ⟨g, i, none⟩ (.int .i64 (min x y)))) := Lib.hid (HBR.out.setCell (p := ⟨g, i, none⟩) HGE.out _)
      go_wp2
      have hj0 : Below wr.heap.size wr wr.drew := (Below.refl _ _).drew
      refine wp_region_late (S := fun u => Below wr.heap.size wr u) (X := [12]) (by kernel_rfl) ?_
      refine wpAnyL_pureD (i := 0) 24 (.slice (some ⟨g, 0, none⟩) A.length A.length) rfl rfl (by kernel_rfl) (by kernel_rfl) (by kernel_rfl) (fun _ _ _ h => h) (Or.inl ⟨by rfl, fun u _ => ?_⟩) ?_
      · go_simp
      try simp only [Act.put, List.setIfInBounds_toArray, List.set_cons_zero, List.set_cons_succ]
      refine wpAnyL_pureD (i := 1) 25 (.int .i64 i) rfl rfl (by kernel_rfl) (by kernel_rfl) (by kernel_rfl) (fun _ _ _ h => h) (Or.inl ⟨by rfl, fun u _ => ?_⟩) ?_
      · go_simp
      try simp only [Act.put, List.setIfInBounds_toArray, List.set_cons_zero, List.set_cons_succ]
      refine wpAnyL_pureD (i := 2) 26 (.slice (some ⟨b1, o1, none⟩) A.length c) rfl rfl (by kernel_rfl) (by kernel_rfl) (by kernel_rfl) (fun _ _ _ h => h) (Or.inl ⟨by rfl, fun u _ => ?_⟩) ?_
      · go_simp
      try simp only [Act.put, List.setIfInBounds_toArray, List.set_cons_zero, List.set_cons_succ]
      refine wpAnyL_pureD (i := 3) 27 (.int .i64 i) rfl rfl (by kernel_rfl) (by kernel_rfl) (by kernel_rfl) (fun _ _ _ h => h) (Or.inl ⟨by rfl, fun u _ => ?_⟩) ?_
      · go_simp
      try simp only [Act.put, List.setIfInBounds_toArray, List.set_cons_zero, List.set_cons_succ]
      refine wpAnyL_pureD (i := 4) 28 (.pointer (some ⟨b1, o1 + i, none⟩)) rfl rfl (by kernel_rfl) (by kernel_rfl) (by kernel_rfl) (fun _ _ _ h => h) (Or.inl ⟨by rfl, fun u _ => ?_⟩) ?_
      · go_simp
      try simp only [Act.put, List.setIfInBounds_toArray, List.set_cons_zero, List.set_cons_succ]
      refine wpAnyL_takeD (i := 5) 29 (.int .i64 x) rfl rfl (by kernel_rfl) (by kernel_rfl) (by kernel_rfl) (by kernel_rfl) (by kernel_rfl) (fun _ _ _ h => h) hj0 (Or.inl ⟨by rfl, fun u hu => ?_⟩) ?_
      · obtain ⟨t0, t1⟩ := HS.out u hu
        go_simp
      try simp only [Act.put, List.setIfInBounds_toArray, List.set_cons_zero, List.set_cons_succ]
      refine wpAnyL_pureD (i := 6) 30 (.slice (some ⟨b2, o2, none⟩) B.length d) rfl rfl (by kernel_rfl) (by kernel_rfl) (by kernel_rfl) (fun _ _ _ h => h) (Or.inl ⟨by rfl, fun u _ => ?_⟩) ?_
      · go_simp
      try simp only [Act.put, List.setIfInBounds_toArray, List.set_cons_zero, List.set_cons_succ]
      refine wpAnyL_pureD (i := 7) 31 (.int .i64 i) rfl rfl (by kernel_rfl) (by kernel_rfl) (by kernel_rfl) (fun _ _ _ h => h) (Or.inl ⟨by rfl, fun u _ => ?_⟩) ?_
      · go_simp
      try simp only [Act.put, List.setIfInBounds_toArray, List.set_cons_zero, List.set_cons_succ]
      refine wpAnyL_pureD (i := 8) 32 (.pointer (some ⟨b2, o2 + i, none⟩)) rfl rfl (by kernel_rfl) (by kernel_rfl) (by kernel_rfl) (fun _ _ _ h => h) (Or.inl ⟨by rfl, fun u _ => ?_⟩) ?_
      · go_simp
      try simp only [Act.put, List.setIfInBounds_toArray, List.set_cons_zero, List.set_cons_succ]
      refine wpAnyL_takeD (i := 9) 33 (.int .i64 y) rfl rfl (by kernel_rfl) (by kernel_rfl) (by kernel_rfl) (by kernel_rfl) (by kernel_rfl) (fun _ _ _ h => h) hj0 (Or.inl ⟨by rfl, fun u hu => ?_⟩) ?_
      · obtain ⟨t0, t1⟩ := HS.out u hu
        go_simp
      try simp only [Act.put, List.setIfInBounds_toArray, List.set_cons_zero, List.set_cons_succ]
      refine wpAnyL_pureD (i := 10) 34 (.int .i64 (min x y)) rfl rfl (by kernel_rfl) (by kernel_rfl) (by kernel_rfl) (fun _ _ _ h => h) (Or.inl ⟨by rfl, fun u _ => ?_⟩) ?_
      · go_simp
      try simp only [Act.put, List.setIfInBounds_toArray, List.set_cons_zero, List.set_cons_succ]
      refine wpAnyL_pureD (i := 11) 35 (.pointer (some ⟨g, i, none⟩)) rfl rfl (by kernel_rfl) (by kernel_rfl) (by kernel_rfl) (fun _ _ _ h => h) (Or.inl ⟨by rfl, fun u _ => ?_⟩) ?_
      · go_simp
      try simp only [Act.put, List.setIfInBounds_toArray, List.set_cons_zero, List.set_cons_succ]
      refine wpAnyL_one (i := 12) (by kernel_rfl) rfl (fun K hK => ?_)
      go_simp
      refine hK.out _ _ (fun h => absurd (by decide) h) ?_
      clear hK K
      refine wpAnyL_done (by kernel_rfl) ?_ _
      try simp only [Act.put, List.setIfInBounds_toArray, List.set_cons_zero, List.set_cons_succ]
      clear hj0 s1 s2
      go_wp2
      go_roundw
      case rel => exact ⟨i + 1, by omega, by go_num, HPN.out, HBN.out.drew⟩
      case measure => have := HLT.out; simp [intOf]; omega
    · obtain rfl : i = A.length := by omega
      have i1 : ¬ (A.length : Int) < (A.length : Int) := by omega
      rw [HZA.out] at hpw
      have HRW : Hid (IsAt wr (some ⟨g, 0, none⟩) ZZ) := Lib.hid (hpw.row encI_len)
      clear hpw hb HPW
      go_wp2
      go_ret2
      first | exact ⟨some ⟨g, 0, none⟩, ⟨A.length, by rw [HKK.out, HXX.out, HZN.out]; rfl⟩, by rw [HXX.out]; exact HRW.out, HBR.out⟩ | exact ⟨some ⟨g, 0, none⟩, A.length, by rw [HKK.out, HXX.out, HZN.out]; rfl, by rw [HXX.out]; exact HRW.out, HBR.out⟩
set_option maxHeartbeats 12800000 in
set_option maxRecDepth 100000 in
theorem rJoin_any (a b : Option Addr) (c d : Nat) (A B : List Int) (hA : A.length ≤ 1000) (hB : B.length ≤ 1000) (w : World) (h1 : IsAt w a A) (h2 : IsAt w b B) :
    Calls Try.prog 45 #[.slice a A.length c, .slice b B.length d] w (GivesIE w (cmbL (fun x y => max x y) A B) (cmbK (fun x y => max x y) A B)) := by
  have HC := Lib.hid (rBoth_any a b c d A B hA hB w h1 h2)
  obtain ⟨e1, e2⟩ := join_ok A B
  rw [e1]
  obtain ⟨K, hK⟩ : ∃ K, K = bothD A B := ⟨_, rfl⟩
  rw [← hK]
  have HKK := Lib.hid hK
  clear hK
  have HX := Lib.hid e2
  have HX2 : Hid (bothD A B ≠ 0 → cmbL (fun x y => max x y) A B = []) := Lib.hid fun h => (cmb_err h).2
  have H1 := Lib.hid h1
  have H2 := Lib.hid h2
  have HDV : Hid (bothD A B = 0 → Div A ∧ Div B ∧ A.length = B.length) := Lib.hid fun h => both_div h
  generalize cmbL (fun x y => max x y) A B = X at *
  unfold GivesIE
  clear h1 h2 e1 e2
  go_enter Try.func45, Try.ntmps45
  go_wp2_with fail
  refine HC.out.mono ?_
  rintro e w1 ⟨rfl, hb1⟩
  have HB1 := Lib.hid hb1
  by_cases hk : bothD A B ≠ 0
  · have q0 : (((bothD A B : Nat) : Int) != 0) = true := by rw [bne_iff_ne]; omega
    have HR2 := Lib.hid (HX2.out hk)
    clear hb1 hk HDV HX HX2
    generalize bothD A B = k at *
    go_wp2
    go_ret2
    exact ⟨none, 0, by rw [HKK.out, HR2.out]; rfl, by rw [HR2.out]; exact RowAt.nil _ _ _ _, HB1.out⟩
  have hk0 : bothD A B = 0 := by omega
  obtain ⟨hdA, hdB, hll⟩ := HDV.out hk0
  have HXX := Lib.hid (HX.out hk0)
  rw [hk0] at HKK ⊢
  have HA1 := Lib.hid hdA.one
  have HRA := Lib.hid (fun i hi => div_at hdA i hi)
  have HRB2 := Lib.hid (fun i hi => div_at hdB i hi)
  have HLL := Lib.hid hll
  have HZ0 : Hid (stepG A.length (fun j => max (iAt A j) (iAt B j)) 0 = List.replicate A.length 0) := Lib.hid rfl
  have HZS := Lib.hid (fun i => stepG_one A.length (fun j => max (iAt A j) (iAt B j)) i)
  have HZL := Lib.hid (fun i => stepG_len A.length (fun j => max (iAt A j) (iAt B j)) i)
  have HZA : Hid (stepG A.length (fun j => max (iAt A j) (iAt B j)) A.length = zipD (fun x y => max x y) A B) := Lib.hid (stepG_zip (fun x y => max x y) hll)
  have HZN : Hid ((zipD (fun x y => max x y) A B).length = A.length) := Lib.hid (zip_len _ hll)
  clear hb1 hk hk0 hdA hdB hll HDV HX HX2
  generalize stepG A.length (fun j => max (iAt A j) (iAt B j)) = Z at *
  generalize zipD (fun x y => max x y) A B = ZZ at *
  have hmk : (Instr.makeSlice 23 (.int .i64 (A.length : Int)) (.int .i64 (A.length : Int))).run Try.prog w1 = .ok (.slice (some ⟨w1.heap.size, 0, none⟩) A.length A.length) (w1.alloc (.cells (flat encI (List.replicate A.length 0)).toArray 3)) := make_divs A.length (by omega) _
  obtain ⟨W9, hW9⟩ : ∃ v, v = w1.alloc (.cells (flat encI (List.replicate A.length 0)).toArray 3) := ⟨_, rfl⟩
  obtain ⟨g, hgg⟩ : ∃ v, v = w1.heap.size := ⟨_, rfl⟩
  have HRB : Hid (RowB encI 3 W9 g (List.replicate A.length 0)) := Lib.hid (by rw [hW9, hgg]; exact RowB.new _ _ _ _)
  have HBL : Hid (Below w.heap.size w W9) := Lib.hid (by rw [hW9]; exact HB1.out.alloc HB1.out.size _)
  have HGE : Hid (w.heap.size ≤ g) := Lib.hid (by rw [hgg]; exact HB1.out.size)
  rw [← hW9, ← hgg] at hmk
  clear hW9 hgg
  go_wp2
  go_loopw [8] (fun x wr => ∃ i : Nat, i ≤ A.length ∧ x = .int .i64 i ∧ RowB encI 3 wr g (Z i) ∧ Below w.heap.size w wr) (fun x _ => A.length - (intOf x).toNat)
  case atStart => exact ⟨0, by omega, rfl, by rw [HZ0.out]; exact HRB.out, HBL.out⟩
  case round =>
    obtain ⟨i, hi, rfl, hpw, hb⟩ := hrel
    have HBR := Lib.hid hb
    have HPW := Lib.hid hpw
    by_cases hlt : i < A.length
    · have i1 : (i : Int) < (A.length : Int) := by omega
      have i2 : (0 : Int) ≤ (i : Int) := by omega
      have i3 : (i : Int) < (B.length : Int) := by have := HLL.out; omega
      have HLT := Lib.hid hlt
      obtain ⟨b1, o1, hb1, q1, x1⟩ := (H1.out.keep hb).one i hlt
      obtain ⟨b2, o2, hb2, q2, x2⟩ := (H2.out.keep hb).one i (by rw [← HLL.out]; exact hlt)
      subst hb1 hb2
      have hxr := HRA.out i hlt
      have hyr := HRB2.out i (by rw [← HLL.out]; exact hlt)
      have HS : Hid (∀ u, Below wr.heap.size wr u → u.cell? ⟨b1, o1 + i, none⟩ = some (.int .i64 (iAt A i)) ∧ u.cell? ⟨b2, o2 + i, none⟩ = some (.int .i64 (iAt B i))) := Lib.hid fun u hu => ⟨(hu.cell (p := ⟨b1, o1 + i, none⟩) q1).trans x1, (hu.cell (p := ⟨b2, o2 + i, none⟩) q2).trans x2⟩
      have HZI := Lib.hid (HZS.out i)
      have HQL := Lib.hid (HZL.out i)
      have s1 := hpw.cell i (by rw [HQL.out]; exact hlt)
      have s2 : wr.frozen? ⟨g, i, none⟩ = false := Blk.frozen hpw i
      clear hpw hb x1 x2 hlt
      generalize iAt A i = x at *
      generalize iAt B i = y at *
      generalize Z i = Q at *
      generalize iAt Q i = old at s1
      have HPN : Hid (RowB encI 3 (wr.setCell ⟨g, i, none⟩ (.int .i64 (max x y))) g (Z (i + 1))) := Lib.hid (by rw [HZI.out]; exact HPW.out.set i _)
      have HBN : Hid (Below w.heap.size w (wr.setCell ⟨g, i, none⟩ (.int .i64 (max x y)))) := Lib.hid (HBR.out.setCell (p := ⟨g, i, none⟩) HGE.out _)
      go_wp2
      have hj0 : Below wr.heap.size wr wr.drew := (Below.refl _ _).drew
      refine wp_region_late (S := fun u => Below wr.heap.size wr u) (X := [12]) (by kernel_rfl) ?_
      refine wpAnyL_pureD (i := 0) 24 (.slice (some ⟨g, 0, none⟩) A.length A.length) rfl rfl (by kernel_rfl) (by kernel_rfl) (by kernel_rfl) (fun _ _ _ h => h) (Or.inl ⟨by rfl, fun u _ => ?_⟩) ?_
      · go_simp
      try simp only [Act.put, List.setIfInBounds_toArray, List.set_cons_zero, List.set_cons_succ]
      refine wpAnyL_pureD (i := 1) 25 (.int .i64 i) rfl rfl (by kernel_rfl) (by kernel_rfl) (by kernel_rfl) (fun _ _ _ h => h) (Or.inl ⟨by rfl, fun u _ => ?_⟩) ?_
      · go_simp
      try simp only [Act.put, List.setIfInBounds_toArray, List.set_cons_zero, List.set_cons_succ]
      refine wpAnyL_pureD (i := 2) 26 (.slice (some ⟨b1, o1, none⟩) A.length c) rfl rfl (by kernel_rfl) (by kernel_rfl) (by kernel_rfl) (fun _ _ _ h => h) (Or.inl ⟨by rfl, fun u _ => ?_⟩) ?_
      · go_simp
      try simp only [Act.put, List.setIfInBounds_toArray, List.set_cons_zero, List.set_cons_succ]
      refine wpAnyL_pureD (i := 3) 27 (.int .i64 i) rfl rfl (by kernel_rfl) (by kernel_rfl) (by kernel_rfl) (fun _ _ _ h => h) (Or.inl ⟨by rfl, fun u _ => ?_⟩) ?_
      · go_simp
      try simp only [Act.put, List.setIfInBounds_toArray, List.set_cons_zero, List.set_cons_succ]
      refine wpAnyL_pureD (i := 4) 28 (.pointer (some ⟨b1, o1 + i, none⟩)) rfl rfl (by kernel_rfl) (by kernel_rfl) (by kernel_rfl) (fun _ _ _ h => h) (Or.inl ⟨by rfl, fun u _ => ?_⟩) ?_
      · go_simp
      try simp only [Act.put, List.setIfInBounds_toArray, List.set_cons_zero, List.set_cons_succ]
      refine wpAnyL_takeD (i := 5) 29 (.int .i64 x) rfl rfl (by kernel_rfl) (by kernel_rfl) (by kernel_rfl) (by kernel_rfl) (by kernel_rfl) (fun _ _ _ h => h) hj0 (Or.inl ⟨by rfl, fun u hu => ?_⟩) ?_
      · obtain ⟨t0, t1⟩ := HS.out u hu
        go_simp
      try simp only [Act.put, List.setIfInBounds_toArray, List.set_cons_zero, List.set_cons_succ]
      refine wpAnyL_pureD (i := 6) 30 (.slice (some ⟨b2, o2, none⟩) B.length d) rfl rfl (by kernel_rfl) (by kernel_rfl) (by kernel_rfl) (fun _ _ _ h => h) (Or.inl ⟨by rfl, fun u _ => ?_⟩) ?_
      · go_simp
      try simp only [Act.put, List.setIfInBounds_toArray, List.set_cons_zero, List.set_cons_succ]
      refine wpAnyL_pureD (i := 7) 31 (.int .i64 i) rfl rfl (by kernel_rfl) (by kernel_rfl) (by kernel_rfl) (fun _ _ _ h => h) (Or.inl ⟨by rfl, fun u _ => ?_⟩) ?_
      · go_simp
      try simp only [Act.put, List.setIfInBounds_toArray, List.set_cons_zero, List.set_cons_succ]
      refine wpAnyL_pureD (i := 8) 32 (.pointer (some ⟨b2, o2 + i, none⟩)) rfl rfl (by kernel_rfl) (by kernel_rfl) (by kernel_rfl) (fun _ _ _ h => h) (Or.inl ⟨by rfl, fun u _ => ?_⟩) ?_
      · go_simp
      try simp only [Act.put, List.setIfInBounds_toArray, List.set_cons_zero, List.set_cons_succ]
      refine wpAnyL_takeD (i := 9) 33 (.int .i64 y) rfl rfl (by kernel_rfl) (by kernel_rfl) (by kernel_rfl) (by kernel_rfl) (by kernel_rfl) (fun _ _ _ h => h) hj0 (Or.inl ⟨by rfl, fun u hu => ?_⟩) ?_
      · obtain ⟨t0, t1⟩ := HS.out u hu
        go_simp
      try simp only [Act.put, List.setIfInBounds_toArray, List.set_cons_zero, List.set_cons_succ]
      refine wpAnyL_pureD (i := 10) 34 (.int .i64 (max x y)) rfl rfl (by kernel_rfl) (by kernel_rfl) (by kernel_rfl) (fun _ _ _ h => h) (Or.inl ⟨by rfl, fun u _ => ?_⟩) ?_
      · go_simp
      try simp only [Act.put, List.setIfInBounds_toArray, List.set_cons_zero, List.set_cons_succ]
      refine wpAnyL_pureD (i := 11) 35 (.pointer (some ⟨g, i, none⟩)) rfl rfl (by kernel_rfl) (by kernel_rfl) (by kernel_rfl) (fun _ _ _ h => h) (Or.inl ⟨by rfl, fun u _ => ?_⟩) ?_
      · go_simp
      try simp only [Act.put, List.setIfInBounds_toArray, List.set_cons_zero, List.set_cons_succ]
      refine wpAnyL_one (i := 12) (by kernel_rfl) rfl (fun K hK => ?_)
      go_simp
      refine hK.out _ _ (fun h => absurd (by decide) h) ?_
      clear hK K
      refine wpAnyL_done (by kernel_rfl) ?_ _
      try simp only [Act.put, List.setIfInBounds_toArray, List.set_cons_zero, List.set_cons_succ]
      clear hj0 s1 s2
      go_wp2
      go_roundw
      case rel => exact ⟨i + 1, by omega, by go_num, HPN.out, HBN.out.drew⟩
      case measure => have := HLT.out; simp [intOf]; omega
    · obtain rfl : i = A.length := by omega
      have i1 : ¬ (A.length : Int) < (A.length : Int) := by omega
      rw [HZA.out] at hpw
      have HRW : Hid (IsAt wr (some ⟨g, 0, none⟩) ZZ) := Lib.hid (hpw.row encI_len)
      clear hpw hb HPW
      go_wp2
      go_ret2
      first | exact ⟨some ⟨g, 0, none⟩, ⟨A.length, by rw [HKK.out, HXX.out, HZN.out]; rfl⟩, by rw [HXX.out]; exact HRW.out, HBR.out⟩ | exact ⟨some ⟨g, 0, none⟩, A.length, by rw [HKK.out, HXX.out, HZN.out]; rfl, by rw [HXX.out]; exact HRW.out, HBR.out⟩
end Go.Proofs.Ytalbdggpghkcfaa
