/- Counted, Count, Ends of the reference. -/
import Derived.Test.YtgejkgeojjgclaaFw
import Derived.Lib.MinMax
namespace Go.Proofs.Ytgejkgeojjgclaa
open Go.RowKit Go.Proofs.Gr Go.Proofs.Cp
attribute [local go_sem] Oper.semAt_some

set_option maxHeartbeats 12800000 in
set_option maxRecDepth 100000 in
theorem rCounted_any (N : Nat) (a : Option Addr) (m cap : Nat) (hN : N ≤ 1000) (sa : Option Addr) (sc : Nat) (A : List Int) (hA : A.length ≤ 100000) (hr : ∀ i, i < A.length → 0 ≤ iAt A i ∧ iAt A i < N) (w : World) (hs : IsAt w sa A) :
    Calls Try.prog 70 #[gv N a m cap, .slice sa A.length sc] w (fun e w' => ∃ p q, e = .returned (.slice p N q) ∧ IsAt w' p (couL N A A.length) ∧ Below w.heap.size w w') := by
  have HS0 : Hid (couL N A 0 = List.replicate N 0) := Lib.hid rfl
  have HSS : Hid (∀ k, couL N A (k + 1) = (couL N A k).set (iAt A k).toNat (iAt (couL N A k) (iAt A k).toNat + 1)) := Lib.hid fun _ => rfl
  have HSL := Lib.hid (fun k => couL_len N A k)
  have HSR := Lib.hid (fun k v => couL_rng N A k v)
  have HAR := Lib.hid hr
  have HAL := Lib.hid hA
  generalize couL N A = Z at *
  unfold gv
  obtain ⟨W, hW⟩ : ∃ W, W = w.alloc (Obj.cells #[.int .i64 (N : Int), .slice a m cap] 24) := ⟨_, rfl⟩
  have hB0 : Below w.heap.size w W := by rw [hW]; exact (Below.refl _ w).alloc (Nat.le_refl _) _
  have hG : Blk W w.heap.size 24 #[.int .i64 (N : Int), .slice a m cap] := by rw [hW]; exact Blk.new _ _ _
  have g0 := hG.cell 0
  simp only [List.getElem?_toArray, List.getElem?_cons_zero] at g0
  have hmk : (Instr.makeSlice 26 (.int .i64 (N : Int)) (.int .i64 (N : Int))).run Try.prog W = .ok (.slice (some ⟨W.heap.size, 0, none⟩) N N) (W.alloc (.cells (flat encI (List.replicate N 0)).toArray 3)) := make_scr N (by omega) _
  obtain ⟨W9, hW9⟩ : ∃ v, v = W.alloc (.cells (flat encI (List.replicate N 0)).toArray 3) := ⟨_, rfl⟩
  obtain ⟨g, hgg⟩ : ∃ v, v = W.heap.size := ⟨_, rfl⟩
  have hR0 : RowB encI 3 W9 g (List.replicate N 0) := by rw [hW9, hgg]; exact RowB.new _ _ _ _
  have HBL : Hid (Below w.heap.size w W9) := Lib.hid (by rw [hW9]; exact hB0.alloc hB0.size _)
  have HGE : Hid (w.heap.size ≤ g) := Lib.hid (by rw [hgg]; exact hB0.size)
  rw [← hW9, ← hgg] at hmk
  have HHS := Lib.hid hs
  rw [hW] at g0 hmk
  have HRB : Hid (RowB encI 3 W9 g (Z 0)) := Lib.hid (by rw [HS0.out]; exact hR0)
  clear hW hB0 hG hW9 hgg hR0 hN hs hr
  go_enter Try.func70, Try.ntmps70
  go_wp2
  go_loopw [6] (fun x wr => ∃ i : Nat, i ≤ A.length ∧ x = .int .i64 i ∧ RowB encI 3 wr g (Z i) ∧ Below w.heap.size w wr) (fun x _ => A.length - (intOf x).toNat)
  case atStart => exact ⟨0, by omega, rfl, HRB.out, HBL.out⟩
  case round =>
    obtain ⟨i, hi, rfl, hp, hb⟩ := hrel
    have HBR := Lib.hid hb
    by_cases hlt : i < A.length
    · have i1 : (i : Int) < (A.length : Int) := by omega
      have i2 : (0 : Int) ≤ (i : Int) := by omega
      have HLT := Lib.hid hlt
      obtain ⟨b1, o1, hb1, q1, x1⟩ := (HHS.out.keep (HBR.out)).one i hlt
      subst hb1
      have har := HAR.out i hlt
      have HZI := Lib.hid (HSS.out i)
      have HQL := Lib.hid (HSL.out i)
      obtain ⟨u, hu⟩ : ∃ u : Nat, iAt A i = u := ⟨(iAt A i).toNat, by omega⟩
      rw [hu] at x1 har HZI
      rw [Int.toNat_natCast] at HZI
      have j1 : (u : Int) < (N : Int) := by omega
      have j2 : (0 : Int) ≤ (u : Int) := by omega
      have s1 := hp.cell u (by rw [HQL.out]; omega)
      have s2 : wr.frozen? ⟨g, u, none⟩ = false := Blk.frozen hp u
      have hold := HSR.out i u
      have hal := HAL.out
      have o1 : 0 ≤ iAt (Z i) u := hold.1
      have o2 : iAt (Z i) u ≤ 100000 := by omega
      have HPN : Hid (RowB encI 3 (wr.setCell ⟨g, u, none⟩ (.int .i64 (iAt (Z i) u + 1))) g (Z (i + 1))) := Lib.hid (by rw [HZI.out]; exact hp.set u _)
      have HBN : Hid (Below w.heap.size w (wr.setCell ⟨g, u, none⟩ (.int .i64 (iAt (Z i) u + 1)))) := Lib.hid (hb.setCell (p := ⟨g, u, none⟩) HGE.out _)
      generalize iAt (Z i) u = old at *
      clear hp hb hu hlt har hold hal
      go_wp2
      go_roundw
      case rel => exact ⟨i + 1, by have := HLT.out; omega, by go_num, HPN.out, HBN.out⟩
      case measure => have := HLT.out; simp [intOf]; omega
    · obtain rfl : i = A.length := by omega
      have i1 : ¬ (A.length : Int) < (A.length : Int) := by omega
      have HPS : Hid (IsAt wr (some ⟨g, 0, none⟩) (Z A.length)) := Lib.hid (hp.row encI_len)
      clear hp hb
      go_wp2
      go_ret
      first | exact ⟨some ⟨g, 0, none⟩, ⟨N, rfl⟩, HPS.out, HBR.out⟩ | exact ⟨some ⟨g, 0, none⟩, N, rfl, HPS.out, HBR.out⟩
set_option maxHeartbeats 12800000 in
set_option maxRecDepth 100000 in
theorem rCount_any (n : Int) (a : Option Addr) (cap : Nat) (L : List E) (hL : L.length ≤ 100000) (sa : Option Addr) (sc : Nat) (A : List Int) (hA : A.length ≤ 100000) (w : World) (h : EsAt w a L) (hs : IsAt w sa A) :
    Calls Try.prog 36 #[gv n a L.length cap, .slice sa A.length sc] w (GivesIE w (couV n L A) (couK n L A)) := by
  have HC := Lib.hid (fun w h => rcheck_any n a cap L (by omega) w h)
  have HCM := Lib.hid (fun w h => rMoves_any n a L.length cap sa sc A hA w h)
  have HR1 : Hid (chkG n L ≠ 0 → couK n L A = chkG n L ∧ couV n L A = []) := Lib.hid fun h => by
    have : couK n L A = chkG n L := by unfold couK; rw [if_pos h]
    exact ⟨this, by unfold couV; rw [if_pos (by rw [this]; exact h)]⟩
  have HR2 : Hid (chkG n L = 0 → movK n A ≠ 0 → couK n L A = movK n A ∧ couV n L A = []) := Lib.hid fun h h' => by
    have : couK n L A = movK n A := by unfold couK; rw [if_neg (by omega)]
    exact ⟨this, by unfold couV; rw [if_pos (by rw [this]; exact h')]⟩
  have HR3 : Hid (chkG n L = 0 → movK n A = 0 → (couK n L A = 0 ∧ couV n L A = couL n.toNat A A.length)) := Lib.hid fun h h' => by
    have : couK n L A = 0 := by unfold couK; rw [if_neg (by omega)]; exact h'
    exact ⟨this, by unfold couV; rw [if_neg (by omega)]⟩
  have HCO : Hid (chkG n L = 0 → movK n A = 0 → ∀ u, IsAt u sa A → Calls Try.prog 70 #[gv n a L.length cap, .slice sa A.length sc] u (fun e w' => ∃ p q, e = .returned (.slice p (couL n.toNat A A.length).length q) ∧ IsAt w' p (couL n.toNat A A.length) ∧ Below u.heap.size u w')) := Lib.hid fun h h' u h3 => by
    have hn := chkG_n h
    obtain ⟨N, rfl⟩ : ∃ N : Nat, n = N := ⟨n.toNat, by omega⟩
    rw [Int.toNat_natCast, couL_len]
    exact rCounted_any N a L.length cap (by omega) sa sc A hA (movK_zero h').2 u h3
  generalize couL n.toNat A A.length = Z at *
  generalize couK n L A = RK at *
  generalize couV n L A = RV at *
  generalize chkG n L = K at *
  generalize movK n A = M at *
  unfold GivesIE gv at *
  unfold GivesN at HC
  obtain ⟨W, hW⟩ : ∃ W, W = w.alloc (Obj.cells #[.int .i64 n, .slice a L.length cap] 24) := ⟨_, rfl⟩
  have hB0 : Below w.heap.size w W := by rw [hW]; exact (Below.refl _ w).alloc (Nat.le_refl _) _
  have hG : Blk W w.heap.size 24 #[.int .i64 n, .slice a L.length cap] := by rw [hW]; exact Blk.new _ _ _
  have HW := Lib.hid hW
  have HB0 := Lib.hid hB0
  have HE1 := Lib.hid (h.keep hB0)
  have HF : Hid (∀ u, Below W.heap.size W u → u.cell? ⟨w.heap.size, 0, none⟩ = some (.int .i64 n) ∧ u.cell? ⟨w.heap.size, 1, none⟩ = some (.slice a L.length cap)) := Lib.hid fun u hu => ⟨(hG.below hu hG.lt).cell 0, (hG.below hu hG.lt).cell 1⟩
  obtain ⟨g0, g1⟩ := HF.out W (Below.refl _ _)
  have HHS := Lib.hid (hs.keep hB0)
  rw [hW] at g0 g1
  clear hs hB0 hG hW h
  go_enter Try.func36, Try.ntmps36
  go_wp2_with fail
  rw [← HW.out]
  refine (HC.out _ HE1.out).mono ?_
  rintro e w1 ⟨rfl, hb⟩
  have HB1 := Lib.hid hb
  clear g0 g1
  obtain ⟨g0, g1⟩ := HF.out w1 hb
  clear hb
  by_cases hk : K ≠ 0
  · have q0 : (((K : Nat) : Int) != 0) = true := by rw [bne_iff_ne]; omega
    have HR := Lib.hid (HR1.out hk)
    clear hk
    go_wp2
    go_ret2
    exact ⟨none, 0, by rw [HR.out.1, HR.out.2]; rfl, by rw [HR.out.2]; exact RowAt.nil _ _ _ _, HB0.out.trans (HB1.out.mono HB0.out.size)⟩
  · have hK0 : K = 0 := by omega
    have HR2a := Lib.hid (HR2.out hK0)
    have HR3a := Lib.hid (HR3.out hK0)
    have HCOa := Lib.hid (HCO.out hK0)
    clear hk HR1 HC HR2 HR3 HCO
    subst hK0
    go_wp2_with fail
    refine (HCM.out _ (HHS.out.keep HB1.out)).mono ?_
    rintro e w2 ⟨rfl, hb⟩
    have hb2 := HB1.out.trans (hb.mono HB1.out.size)
    have HB2 := Lib.hid hb2
    clear g0 g1
    obtain ⟨g0, g1⟩ := HF.out w2 hb2
    clear hb hb2
    by_cases hm : M ≠ 0
    · have q0 : (((M : Nat) : Int) != 0) = true := by rw [bne_iff_ne]; omega
      have HR := Lib.hid (HR2a.out hm)
      clear hm
      go_wp2
      go_ret2
      exact ⟨none, 0, by rw [HR.out.1, HR.out.2]; rfl, by rw [HR.out.2]; exact RowAt.nil _ _ _ _, HB0.out.trans (HB2.out.mono HB0.out.size)⟩
    · have hM0 : M = 0 := by omega
      have HR := Lib.hid (HR3a.out hM0)
      have HCOb := Lib.hid (HCOa.out hM0 w2 (HHS.out.keep HB2.out))
      clear hm HR2a HCM HR3a HCOa
      subst hM0
      go_wp2_with fail
      refine HCOb.out.mono ?_
      rintro e w3 ⟨p9, q9, rfl, hr, hb⟩
      have HR9 := Lib.hid hr
      have HB3 := Lib.hid (HB2.out.trans (hb.mono HB2.out.size))
      clear hr hb
      go_wp2
      go_ret2
      first | exact ⟨p9, ⟨q9, by rw [HR.out.1, HR.out.2]; rfl⟩, by rw [HR.out.2]; exact HR9.out, HB0.out.trans (HB3.out.mono HB0.out.size)⟩ | exact ⟨p9, q9, by rw [HR.out.1, HR.out.2]; rfl, by rw [HR.out.2]; exact HR9.out, HB0.out.trans (HB3.out.mono HB0.out.size)⟩
set_option maxHeartbeats 12800000 in
set_option maxRecDepth 100000 in
theorem rEnds_any (a : Option Addr) (c : Nat) (S : List Int) (h0 : 1 ≤ S.length) (hS : S.length ≤ 1000) (w : World) (h : IsAt w a S) :
    Calls Try.prog 74 #[.slice a S.length c] w (fun e w' => e = .returned (.tuple #[.int .i64 (leS S), .int .i64 (moS S)]) ∧ Below w.heap.size w w') := by
  have HE := Lib.hid h
  have HZ : Hid (minT S 0 = iAt S 0 ∧ maxT S 0 = iAt S 0) := Lib.hid ⟨rfl, rfl⟩
  have HN : Hid (∀ i, minT S (i + 1 - 1) = min (minT S (i - 1)) (iAt S i) ∧ maxT S (i + 1 - 1) = max (maxT S (i - 1)) (iAt S i)) := Lib.hid fun i => by
    cases i with
    | zero => constructor <;> simp [minT, maxT]
    | succ j => exact ⟨rfl, rfl⟩
  have HL : Hid (minT S (S.length - 1) = leS S ∧ maxT S (S.length - 1) = moS S) := Lib.hid ⟨rfl, rfl⟩
  obtain ⟨b1, o1, hb1, q1, x1⟩ := h.one 0 (by omega)
  subst hb1
  rw [Nat.add_zero] at x1
  have HX := Lib.hid x1
  have HQ := Lib.hid q1
  have HSE : Hid (S ≠ []) := Lib.hid (by rintro rfl; simp at h0)
  generalize leS S = lo at *
  generalize moS S = hi at *
  generalize minT S = Z at *
  generalize maxT S = Y at *
  have n2 : (0 : Int) < (S.length : Int) := by omega
  have y1 : w.drew.cell? ⟨b1, o1, none⟩ = some (.int .i64 (iAt S 0)) := x1
  clear h x1 q1
  go_enter Try.func74, Try.ntmps74
  go_wp2
  have HF9 : Hid (∀ u, Below w.heap.size w u → u.cell? ⟨b1, o1, none⟩ = some (.int .i64 (iAt S 0)) ∧ True) := Lib.hid fun u hu => ⟨(hu.cell (p := ⟨b1, o1, none⟩) HQ.out).trans HX.out, trivial⟩
  generalize iAt S 0 = s0 at *
  clear y1
  have hj0 : Below w.heap.size w w.drew := (Below.refl _ _).drew
  refine wp_region_late (S := fun u => Below w.heap.size w u) (X := []) (by kernel_rfl) ?_
  refine wpAnyL_pureD (i := 0) 7 (.slice (some ⟨b1, o1, none⟩) S.length c) rfl rfl (by kernel_rfl) (by kernel_rfl) (by kernel_rfl) (fun _ _ _ h => h) (Or.inl ⟨by rfl, fun u _ => ?_⟩) ?_
  · go_simp
  try simp only [Act.put, List.setIfInBounds_toArray, List.set_cons_zero, List.set_cons_succ]
  refine wpAnyL_pureD (i := 1) 8 (.pointer (some ⟨b1, o1, none⟩)) rfl rfl (by kernel_rfl) (by kernel_rfl) (by kernel_rfl) (fun _ _ _ h => h) (Or.inl ⟨by rfl, fun u _ => ?_⟩) ?_
  · go_simp
    try (intro h9; exact absurd h9 HSE.out)
  try simp only [Act.put, List.setIfInBounds_toArray, List.set_cons_zero, List.set_cons_succ]
  refine wpAnyL_takeD (i := 2) 9 (.int .i64 s0) rfl rfl (by kernel_rfl) (by kernel_rfl) (by kernel_rfl) (by kernel_rfl) (by kernel_rfl) (fun _ _ _ h => h) hj0 (Or.inl ⟨by rfl, fun u hu => ?_⟩) ?_
  · obtain ⟨t0, t1⟩ := HF9.out u hu
    go_simp
  try simp only [Act.put, List.setIfInBounds_toArray, List.set_cons_zero, List.set_cons_succ]
  refine wpAnyL_pureD (i := 3) 10 (.slice (some ⟨b1, o1, none⟩) S.length c) rfl rfl (by kernel_rfl) (by kernel_rfl) (by kernel_rfl) (fun _ _ _ h => h) (Or.inl ⟨by rfl, fun u _ => ?_⟩) ?_
  · go_simp
  try simp only [Act.put, List.setIfInBounds_toArray, List.set_cons_zero, List.set_cons_succ]
  refine wpAnyL_pureD (i := 4) 11 (.pointer (some ⟨b1, o1, none⟩)) rfl rfl (by kernel_rfl) (by kernel_rfl) (by kernel_rfl) (fun _ _ _ h => h) (Or.inl ⟨by rfl, fun u _ => ?_⟩) ?_
  · go_simp
    try (intro h9; exact absurd h9 HSE.out)
  try simp only [Act.put, List.setIfInBounds_toArray, List.set_cons_zero, List.set_cons_succ]
  refine wpAnyL_takeD (i := 5) 12 (.int .i64 s0) rfl rfl (by kernel_rfl) (by kernel_rfl) (by kernel_rfl) (by kernel_rfl) (by kernel_rfl) (fun _ _ _ h => h) hj0 (Or.inl ⟨by rfl, fun u hu => ?_⟩) ?_
  · obtain ⟨t0, t1⟩ := HF9.out u hu
    go_simp
  try simp only [Act.put, List.setIfInBounds_toArray, List.set_cons_zero, List.set_cons_succ]
  refine wpAnyL_pureD (i := 6) 4 (.int .i64 s0) rfl rfl (by kernel_rfl) (by kernel_rfl) (by kernel_rfl) (fun _ _ _ h => h) (Or.inl ⟨by rfl, fun u _ => ?_⟩) ?_
  · go_simp
  try simp only [Act.put, List.setIfInBounds_toArray, List.set_cons_zero, List.set_cons_succ]
  refine wpAnyL_pureD (i := 7) 5 (.int .i64 s0) rfl rfl (by kernel_rfl) (by kernel_rfl) (by kernel_rfl) (fun _ _ _ h => h) (Or.inl ⟨by rfl, fun u _ => ?_⟩) ?_
  · go_simp
  try simp only [Act.put, List.setIfInBounds_toArray, List.set_cons_zero, List.set_cons_succ]
  refine wpAnyL_done (by kernel_rfl) ?_ _
  try simp only [Act.put, List.setIfInBounds_toArray, List.set_cons_zero, List.set_cons_succ]
  have HB00 := Lib.hid hj0
  clear hj0 HF9
  go_wp2
  go_loopw [4, 5, 6] (fun s t x wr => ∃ i : Nat, i ≤ S.length ∧ x = .int .i64 i ∧ s = .int .i64 (Z (i - 1)) ∧ t = .int .i64 (Y (i - 1)) ∧ Below w.heap.size w wr) (fun _ _ x _ => S.length - (intOf x).toNat)
  case atStart => exact ⟨0, by omega, rfl, by rw [HZ.out.1], by rw [HZ.out.2], HB00.out⟩
  case round =>
    obtain ⟨i, hi, rfl, rfl, rfl, hb⟩ := hrel
    have HB := Lib.hid hb
    by_cases hlt : i < S.length
    · have i1 : (i : Int) < (S.length : Int) := by omega
      have i2 : (0 : Int) ≤ (i : Int) := by omega
      have HLT := Lib.hid hlt
      obtain ⟨b2, o2, hb2, q2, x2⟩ := (HE.out.keep hb).one i hlt
      injection hb2 with hb2
      injection hb2 with e1 e2
      subst e1 e2
      have HM := Lib.hid (HN.out i)
      generalize iAt S i = z at *
      generalize hy : Z (i - 1) = y at *
      generalize hy2 : Y (i - 1) = y2 at *
      clear hy hy2 hb hlt
      go_wp2
      have HF9 : Hid (∀ u, Below wr.heap.size wr u → u.cell? ⟨b1, o1 + i, none⟩ = some (.int .i64 z) ∧ True) := Lib.hid fun u hu => ⟨(hu.cell (p := ⟨b1, o1 + i, none⟩) q2).trans x2, trivial⟩
      clear x2 q2
      have hj0 : Below wr.heap.size wr wr.drew := (Below.refl _ _).drew
      refine wp_region_late (S := fun u => Below wr.heap.size wr u) (X := []) (by kernel_rfl) ?_
      refine wpAnyL_pureD (i := 0) 19 (.int .i64 y) rfl rfl (by kernel_rfl) (by kernel_rfl) (by kernel_rfl) (fun _ _ _ h => h) (Or.inl ⟨by rfl, fun u _ => ?_⟩) ?_
      · go_simp
      try simp only [Act.put, List.setIfInBounds_toArray, List.set_cons_zero, List.set_cons_succ]
      refine wpAnyL_pureD (i := 1) 20 (.slice (some ⟨b1, o1, none⟩) S.length c) rfl rfl (by kernel_rfl) (by kernel_rfl) (by kernel_rfl) (fun _ _ _ h => h) (Or.inl ⟨by rfl, fun u _ => ?_⟩) ?_
      · go_simp
      try simp only [Act.put, List.setIfInBounds_toArray, List.set_cons_zero, List.set_cons_succ]
      refine wpAnyL_pureD (i := 2) 21 (.int .i64 (i : Int)) rfl rfl (by kernel_rfl) (by kernel_rfl) (by kernel_rfl) (fun _ _ _ h => h) (Or.inl ⟨by rfl, fun u _ => ?_⟩) ?_
      · go_simp
      try simp only [Act.put, List.setIfInBounds_toArray, List.set_cons_zero, List.set_cons_succ]
      refine wpAnyL_pureD (i := 3) 22 (.pointer (some ⟨b1, o1 + i, none⟩)) rfl rfl (by kernel_rfl) (by kernel_rfl) (by kernel_rfl) (fun _ _ _ h => h) (Or.inl ⟨by rfl, fun u _ => ?_⟩) ?_
      · go_simp
      try simp only [Act.put, List.setIfInBounds_toArray, List.set_cons_zero, List.set_cons_succ]
      refine wpAnyL_takeD (i := 4) 23 (.int .i64 z) rfl rfl (by kernel_rfl) (by kernel_rfl) (by kernel_rfl) (by kernel_rfl) (by kernel_rfl) (fun _ _ _ h => h) hj0 (Or.inl ⟨by rfl, fun u hu => ?_⟩) ?_
      · obtain ⟨t0, t1⟩ := HF9.out u hu
        go_simp
      try simp only [Act.put, List.setIfInBounds_toArray, List.set_cons_zero, List.set_cons_succ]
      refine wpAnyL_pureD (i := 5) 24 (.int .i64 (min y z)) rfl rfl (by kernel_rfl) (by kernel_rfl) (by kernel_rfl) (fun _ _ _ h => h) (Or.inl ⟨by rfl, fun u _ => ?_⟩) ?_
      · go_simp
      try simp only [Act.put, List.setIfInBounds_toArray, List.set_cons_zero, List.set_cons_succ]
      refine wpAnyL_pureD (i := 6) 25 (.int .i64 y2) rfl rfl (by kernel_rfl) (by kernel_rfl) (by kernel_rfl) (fun _ _ _ h => h) (Or.inl ⟨by rfl, fun u _ => ?_⟩) ?_
      · go_simp
      try simp only [Act.put, List.setIfInBounds_toArray, List.set_cons_zero, List.set_cons_succ]
      refine wpAnyL_pureD (i := 7) 26 (.slice (some ⟨b1, o1, none⟩) S.length c) rfl rfl (by kernel_rfl) (by kernel_rfl) (by kernel_rfl) (fun _ _ _ h => h) (Or.inl ⟨by rfl, fun u _ => ?_⟩) ?_
      · go_simp
      try simp only [Act.put, List.setIfInBounds_toArray, List.set_cons_zero, List.set_cons_succ]
      refine wpAnyL_pureD (i := 8) 27 (.int .i64 (i : Int)) rfl rfl (by kernel_rfl) (by kernel_rfl) (by kernel_rfl) (fun _ _ _ h => h) (Or.inl ⟨by rfl, fun u _ => ?_⟩) ?_
      · go_simp
      try simp only [Act.put, List.setIfInBounds_toArray, List.set_cons_zero, List.set_cons_succ]
      refine wpAnyL_pureD (i := 9) 28 (.pointer (some ⟨b1, o1 + i, none⟩)) rfl rfl (by kernel_rfl) (by kernel_rfl) (by kernel_rfl) (fun _ _ _ h => h) (Or.inl ⟨by rfl, fun u _ => ?_⟩) ?_
      · go_simp
      try simp only [Act.put, List.setIfInBounds_toArray, List.set_cons_zero, List.set_cons_succ]
      refine wpAnyL_takeD (i := 10) 29 (.int .i64 z) rfl rfl (by kernel_rfl) (by kernel_rfl) (by kernel_rfl) (by kernel_rfl) (by kernel_rfl) (fun _ _ _ h => h) hj0 (Or.inl ⟨by rfl, fun u hu => ?_⟩) ?_
      · obtain ⟨t0, t1⟩ := HF9.out u hu
        go_simp
      try simp only [Act.put, List.setIfInBounds_toArray, List.set_cons_zero, List.set_cons_succ]
      refine wpAnyL_pureD (i := 11) 30 (.int .i64 (max y2 z)) rfl rfl (by kernel_rfl) (by kernel_rfl) (by kernel_rfl) (fun _ _ _ h => h) (Or.inl ⟨by rfl, fun u _ => ?_⟩) ?_
      · go_simp
      try simp only [Act.put, List.setIfInBounds_toArray, List.set_cons_zero, List.set_cons_succ]
      refine wpAnyL_pureD (i := 12) 4 (.int .i64 (min y z)) rfl rfl (by kernel_rfl) (by kernel_rfl) (by kernel_rfl) (fun _ _ _ h => h) (Or.inl ⟨by rfl, fun u _ => ?_⟩) ?_
      · go_simp
      try simp only [Act.put, List.setIfInBounds_toArray, List.set_cons_zero, List.set_cons_succ]
      refine wpAnyL_pureD (i := 13) 5 (.int .i64 (max y2 z)) rfl rfl (by kernel_rfl) (by kernel_rfl) (by kernel_rfl) (fun _ _ _ h => h) (Or.inl ⟨by rfl, fun u _ => ?_⟩) ?_
      · go_simp
      try simp only [Act.put, List.setIfInBounds_toArray, List.set_cons_zero, List.set_cons_succ]
      refine wpAnyL_done (by kernel_rfl) ?_ _
      try simp only [Act.put, List.setIfInBounds_toArray, List.set_cons_zero, List.set_cons_succ]
      have HB2 := Lib.hid (HB.out.trans (hj0.mono HB.out.size))
      clear hj0 HF9
      go_wp2
      go_roundw
      case rel => exact ⟨i + 1, by have := HLT.out; omega, by go_num, by rw [HM.out.1], by rw [HM.out.2], HB2.out⟩
      case measure => have := HLT.out; simp [intOf]; omega
    · obtain rfl : i = S.length := by omega
      have i1 : ¬ (S.length : Int) < (S.length : Int) := by omega
      rw [HL.out.1, HL.out.2]
      clear hb
      go_wp2
      go_ret2
      exact ⟨rfl, HB.out⟩
end Go.Proofs.Ytgejkgeojjgclaa
