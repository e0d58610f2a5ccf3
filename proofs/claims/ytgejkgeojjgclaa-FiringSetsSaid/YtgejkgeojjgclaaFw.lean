/- Legal, LegalSet, Moves, Counted, Count of the reference. -/
import Derived.Test.YtgejkgeojjgclaaFv
namespace Go.Proofs.Ytgejkgeojjgclaa
open Go.RowKit Go.Proofs.Gr Go.Proofs.Cp
attribute [local go_sem] Oper.semAt_some

set_option maxHeartbeats 12800000 in
set_option maxRecDepth 100000 in
theorem rLegalSet_any (n : Int) (a : Option Addr) (cap : Nat) (L : List E) (hL : L.length ≤ 100000) (b : Option Addr) (c : Nat) (D : List Int) (hD : D.length ≤ 1000) (sa : Option Addr) (sc : Nat) (A : List Int) (hA : A.length ≤ 100000) (w : World) (h : EsAt w a L) (ho : IsAt w b D) (hs : IsAt w sa A) :
    Calls Try.prog 31 #[gv n a L.length cap, .slice b D.length c, .slice sa A.length sc] w (fun e w' => e = .returned (.tuple #[.bool (legV n L D A), .int .i64 (setK n L D A : Nat)]) ∧ Below w.heap.size w w') := by
  have HC := Lib.hid (fun w h ho => rGiven_any n a cap L hL b c D hD w h ho)
  have HC2 := Lib.hid (fun w h ho => rsubset_any n a cap L sa sc A hA w h ho)
  have HAK : Hid (setK n L D A = if chkGD n L D ≠ 0 then chkGD n L D else subE n A) := Lib.hid (by
    by_cases h : chkGD n L D ≠ 0
    · rw [if_pos h]; unfold setK; rw [if_pos h]
    · rw [if_neg h]; exact setK_g (by omega) A)
  have HV1 : Hid (setK n L D A ≠ 0 → legV n L D A = false) := Lib.hid fun h => by unfold legV; rw [if_neg h]
  have HV2 : Hid (setK n L D A = 0 → legV n L D A = legB L D A) := Lib.hid fun h => by unfold legV; rw [if_pos h]
  have HLG : Hid (setK n L D A = 0 → ∀ u, EsAt u a L → IsAt u b D → IsAt u sa A → Calls Try.prog 65 #[gv n a L.length cap, .slice b D.length c, .slice sa A.length sc] u (fun e w' => e = .returned (.bool (legB L D A)) ∧ Below u.heap.size u w')) := Lib.hid fun hz u h1 h2 h3 => by
    obtain ⟨h4, hr⟩ := setK_zero hz
    obtain ⟨hR, hd, hl⟩ := chkGD_zero h4
    obtain rfl : n = (D.length : Int) := hl.symm
    exact rMaySet_any D.length a cap L hL hR b c D rfl sa sc A hA hr u h1 h2 h3
  unfold GivesN gv at *
  generalize legV n L D A = V at *
  generalize legB L D A = R at *
  generalize setK n L D A = ak at *
  generalize chkGD n L D = k at *
  generalize subE n A = k2 at *
  obtain ⟨W, hW⟩ : ∃ W, W = w.alloc (Obj.cells #[.int .i64 n, .slice a L.length cap] 24) := ⟨_, rfl⟩
  have hB0 : Below w.heap.size w W := by rw [hW]; exact (Below.refl _ w).alloc (Nat.le_refl _) _
  have hG : Blk W w.heap.size 24 #[.int .i64 n, .slice a L.length cap] := by rw [hW]; exact Blk.new _ _ _
  have hWs : W.heap.size = w.heap.size + 1 := by rw [hW]; simp
  have HW := Lib.hid hW
  have HWS := Lib.hid hWs
  have HB0 := Lib.hid hB0
  have HE1 := Lib.hid (h.keep hB0)
  have HF : Hid (∀ u, Below W.heap.size W u → u.cell? ⟨w.heap.size, 0, none⟩ = some (.int .i64 n) ∧ u.cell? ⟨w.heap.size, 1, none⟩ = some (.slice a L.length cap)) := Lib.hid fun u hu => ⟨(hG.below hu hG.lt).cell 0, (hG.below hu hG.lt).cell 1⟩
  obtain ⟨g0, g1⟩ := HF.out W (Below.refl _ _)
  have HHO := Lib.hid (ho.keep hB0)
  have HHS := Lib.hid (hs.keep hB0)
  clear ho hs hB0 hG hW hWs h
  go_enter Try.func31, Try.ntmps31
  go_wp2_with fail
  rw [← HW.out]
  refine (HC.out _ HE1.out HHO.out).mono ?_
  rintro e w1 ⟨rfl, hb⟩
  have HB1 := Lib.hid hb
  clear g0 g1
  obtain ⟨g0, g1⟩ := HF.out w1 hb
  clear hb
  by_cases hk : k ≠ 0
  · have q0 : (((k : Nat) : Int) != 0) = true := by rw [bne_iff_ne]; omega
    have ha : ak = k := by rw [HAK.out, if_pos hk]
    have HR := Lib.hid (HV1.out (by omega))
    have HA := Lib.hid ha
    clear hk ha
    go_wp2
    go_ret2
    exact ⟨by rw [HR.out, HA.out]; rfl, HB0.out.trans (HB1.out.mono HB0.out.size)⟩
  obtain rfl : k = 0 := by omega
  have ha : ak = k2 := by rw [HAK.out, if_neg hk]
  subst ha
  clear hk HC
  go_wp2_with fail
  refine (HC2.out _ (HE1.out.keep HB1.out) (HHS.out.keep HB1.out)).mono ?_
  rintro e w2 ⟨rfl, hb⟩
  have HB2 := Lib.hid (HB1.out.trans (hb.mono HB1.out.size))
  clear g0 g1 hb
  obtain ⟨g0, g1⟩ := HF.out w2 HB2.out
  by_cases hk : ak ≠ 0
  · have q0 : (((ak : Nat) : Int) != 0) = true := by rw [bne_iff_ne]; omega
    have HR := Lib.hid (HV1.out hk)
    clear hk
    go_wp2
    go_ret2
    exact ⟨by rw [HR.out]; rfl, HB0.out.trans (HB2.out.mono HB0.out.size)⟩
  obtain rfl : ak = 0 := by omega
  have HR := Lib.hid (HV2.out rfl)
  have HL1 := Lib.hid (HLG.out (by first | exact rfl | trivial) w2 (HE1.out.keep HB2.out) (HHO.out.keep HB2.out) (HHS.out.keep HB2.out))
  clear hk HLG HV1 HV2
  go_wp2_with fail
  refine HL1.out.mono ?_
  rintro e w3 ⟨rfl, hb⟩
  have HB3 := Lib.hid (HB2.out.trans (hb.mono HB2.out.size))
  clear hb
  go_wp2
  go_ret2
  exact ⟨by rw [HR.out]; rfl, HB0.out.trans (HB3.out.mono HB0.out.size)⟩
set_option maxHeartbeats 12800000 in
set_option maxRecDepth 100000 in
theorem rLegal_any (n : Int) (a : Option Addr) (cap : Nat) (L : List E) (hL : L.length ≤ 100000) (b : Option Addr) (c : Nat) (D : List Int) (hD : D.length ≤ 1000) (v : Int) (w : World) (h : EsAt w a L) (ho : IsAt w b D) :
    Calls Try.prog 29 #[gv n a L.length cap, .slice b D.length c, .int .i64 v] w (fun e w' => e = .returned (.tuple #[.bool (legV n L D [v]), .int .i64 (setK n L D [v] : Nat)]) ∧ Below w.heap.size w w') := by
  have HC := Lib.hid (fun w h ho => rGiven_any n a cap L hL b c D hD w h ho)
  have HC2 := Lib.hid (fun w => vertex_any n a L.length cap v w)
  have HAK : Hid (setK n L D [v] = if chkGD n L D ≠ 0 then chkGD n L D else if isV n v = true then 0 else 2) := Lib.hid (by
    by_cases h : chkGD n L D ≠ 0
    · rw [if_pos h]; unfold setK; rw [if_pos h]
    · rw [if_neg h, setK_g (by omega), subE_one])
  have HV1 : Hid (setK n L D [v] ≠ 0 → legV n L D [v] = false) := Lib.hid fun h => by unfold legV; rw [if_neg h]
  have HV2 : Hid (setK n L D [v] = 0 → legV n L D [v] = legB L D [v]) := Lib.hid fun h => by unfold legV; rw [if_pos h]
  have HLG : Hid (setK n L D [v] = 0 → ∀ u, EsAt u a L → IsAt u b D → Calls Try.prog 62 #[gv n a L.length cap, .slice b D.length c, .int .i64 v] u (fun e w' => e = .returned (.bool (legB L D [v])) ∧ Below u.heap.size u w')) := Lib.hid fun hz u h1 h2 => by
    obtain ⟨h4, hr⟩ := setK_zero hz
    have hr0 : 0 ≤ v ∧ v < n := hr 0 (by simp)
    obtain ⟨hR, hd, hl⟩ := chkGD_zero h4
    obtain rfl : n = (D.length : Int) := hl.symm
    obtain ⟨x, rfl⟩ : ∃ x : Nat, v = x := ⟨v.toNat, by omega⟩
    exact rMay_any D.length a cap L hL hR b c D rfl x (by omega) u h1 h2
  unfold GivesN gv at *
  generalize legV n L D [v] = V at *
  generalize legB L D [v] = R at *
  generalize setK n L D [v] = ak at *
  generalize chkGD n L D = k at *
  generalize isV n v = vv at *
  obtain ⟨W, hW⟩ : ∃ W, W = w.alloc (Obj.cells #[.int .i64 n, .slice a L.length cap] 24) := ⟨_, rfl⟩
  have hB0 : Below w.heap.size w W := by rw [hW]; exact (Below.refl _ w).alloc (Nat.le_refl _) _
  have hG : Blk W w.heap.size 24 #[.int .i64 n, .slice a L.length cap] := by rw [hW]; exact Blk.new _ _ _
  have hWs : W.heap.size = w.heap.size + 1 := by rw [hW]; simp
  have HW := Lib.hid hW
  have HWS := Lib.hid hWs
  have HB0 := Lib.hid hB0
  have HE1 := Lib.hid (h.keep hB0)
  have HF : Hid (∀ u, Below W.heap.size W u → u.cell? ⟨w.heap.size, 0, none⟩ = some (.int .i64 n) ∧ u.cell? ⟨w.heap.size, 1, none⟩ = some (.slice a L.length cap)) := Lib.hid fun u hu => ⟨(hG.below hu hG.lt).cell 0, (hG.below hu hG.lt).cell 1⟩
  obtain ⟨g0, g1⟩ := HF.out W (Below.refl _ _)
  have HHO := Lib.hid (ho.keep hB0)
  clear ho hB0 hG hW hWs h
  go_enter Try.func29, Try.ntmps29
  go_wp2_with fail
  rw [← HW.out]
  refine (HC.out _ HE1.out HHO.out).mono ?_
  rintro e w1 ⟨rfl, hb⟩
  have HB1 := Lib.hid hb
  clear g0 g1
  obtain ⟨g0, g1⟩ := HF.out w1 hb
  clear hb
  by_cases hk : k ≠ 0
  · have q0 : (((k : Nat) : Int) != 0) = true := by rw [bne_iff_ne]; omega
    have ha : ak = k := by rw [HAK.out, if_pos hk]
    have HR := Lib.hid (HV1.out (by omega))
    have HA := Lib.hid ha
    clear hk ha
    go_wp2
    go_ret2
    exact ⟨by rw [HR.out, HA.out]; rfl, HB0.out.trans (HB1.out.mono HB0.out.size)⟩
  obtain rfl : k = 0 := by omega
  have ha : ak = if vv = true then 0 else 2 := by rw [HAK.out, if_neg hk]
  clear hk HC HAK
  go_wp2_with fail
  refine (HC2.out _).mono ?_
  rintro e w2 ⟨rfl, hb⟩
  have HB2 := Lib.hid (HB1.out.trans (hb.mono HB1.out.size))
  clear g0 g1 hb
  obtain ⟨g0, g1⟩ := HF.out w2 HB2.out
  cases vv with
  | false =>
    rw [if_neg (by decide)] at ha
    subst ha
    have HR := Lib.hid (HV1.out (by decide))
    go_wp2
    go_ret2
    exact ⟨by rw [HR.out]; rfl, HB0.out.trans (HB2.out.mono HB0.out.size)⟩
  | true =>
    rw [if_pos rfl] at ha
    subst ha
    have HR := Lib.hid (HV2.out (by first | exact rfl | trivial))
    have HL1 := Lib.hid (HLG.out (by first | exact rfl | trivial) w2 (HE1.out.keep HB2.out) (HHO.out.keep HB2.out))
    clear HLG HV1 HV2
    go_wp2_with fail
    refine HL1.out.mono ?_
    rintro e w3 ⟨rfl, hb⟩
    have HB3 := Lib.hid (HB2.out.trans (hb.mono HB2.out.size))
    clear hb
    go_wp2
    go_ret2
    exact ⟨by rw [HR.out]; rfl, HB0.out.trans (HB3.out.mono HB0.out.size)⟩
theorem lack_isV (n v : Int) : decide (v < 0 ∨ n ≤ v) = !isV n v := by
  unfold isV
  by_cases h1 : 0 ≤ v
  · by_cases h2 : v < n
    · rw [decide_eq_false (by omega), decide_eq_true h1, decide_eq_true h2]; rfl
    · rw [decide_eq_true (by omega), decide_eq_true h1, decide_eq_false h2]; rfl
  · rw [decide_eq_true (by omega), decide_eq_false h1]; rfl
set_option maxHeartbeats 12800000 in
set_option maxRecDepth 100000 in
theorem rMoves_any (n : Int) (a : Option Addr) (l cap : Nat) (sa : Option Addr) (sc : Nat) (A : List Int) (hA : A.length ≤ 100000) (w : World) (hs : IsAt w sa A) :
    Calls Try.prog 68 #[gv n a l cap, .slice sa A.length sc] w (fun e w' => e = .returned (.int .i64 (movK n A : Nat)) ∧ Below w.heap.size w w') := by
  have HV := Lib.hid (fun v w => vertex_any n a l cap v w)
  have HK1 : Hid (4096 < A.length → movK n A = 5) := Lib.hid fun h => by unfold movK; rw [if_pos h]
  have HNO : Hid (¬ 4096 < A.length → ∀ i, i < A.length → isV n (iAt A i) = false → movK n A = 2) := Lib.hid fun h i hi hb => by
    unfold movK; rw [if_neg h, if_pos]
    unfold lackB
    rw [List.any_eq_true]
    exact ⟨iAt A i, by rw [← iAt_get A i hi]; exact List.getElem_mem hi, by rw [lack_isV, hb]; rfl⟩
  have HYES : Hid (¬ 4096 < A.length → (∀ j, j < A.length → isV n (iAt A j) = true) → movK n A = 0) := Lib.hid fun h hz => by
    unfold movK; rw [if_neg h, if_neg]
    unfold lackB
    rw [Bool.not_eq_true, List.any_eq_false]
    intro z hz'
    obtain ⟨j, hj, rfl⟩ := List.getElem_of_mem hz'
    rw [iAt_get A j hj, lack_isV, hz j hj]; decide
  generalize movK n A = K at *
  unfold gv at *
  obtain ⟨W, hW⟩ : ∃ W, W = w.alloc (Obj.cells #[.int .i64 n, .slice a l cap] 24) := ⟨_, rfl⟩
  have hB0 : Below w.heap.size w W := by rw [hW]; exact (Below.refl _ w).alloc (Nat.le_refl _) _
  have hG : Blk W w.heap.size 24 #[.int .i64 n, .slice a l cap] := by rw [hW]; exact Blk.new _ _ _
  have HW := Lib.hid hW
  have HB0 := Lib.hid hB0
  have HF : Hid (∀ u, Below W.heap.size W u → u.cell? ⟨w.heap.size, 0, none⟩ = some (.int .i64 n) ∧ u.cell? ⟨w.heap.size, 1, none⟩ = some (.slice a l cap)) := Lib.hid fun u hu => ⟨(hG.below hu hG.lt).cell 0, (hG.below hu hG.lt).cell 1⟩
  have HHS := Lib.hid (hs.keep hB0)
  clear hB0 hG hW hs
  go_enter Try.func68, Try.ntmps68
  by_cases hm : 4096 < A.length
  · have i9 : (A.length : Int) > 4096 := by omega
    have HR := Lib.hid (HK1.out hm)
    clear hm
    go_wp2
    go_ret
    exact ⟨by rw [HR.out]; rfl, by first | exact HB0.out | (rw [← HW.out]; exact HB0.out)⟩
  have i9 : ¬ (A.length : Int) > 4096 := by omega
  have HN1 := Lib.hid (HNO.out hm)
  have HY1 := Lib.hid (HYES.out hm)
  clear hm HK1 HNO HYES
  go_wp2
  rw [← HW.out]
  go_loopw [5] (fun x wr => ∃ i : Nat, i ≤ A.length ∧ x = .int .i64 i ∧ Hid (∀ j, j < i → isV n (iAt A j) = true) ∧ Below W.heap.size W wr) (fun x _ => A.length - (intOf x).toNat)
  case atStart => exact ⟨0, by omega, rfl, Lib.hid fun j hj => by omega, Below.refl _ _⟩
  case round =>
    obtain ⟨i, hi, rfl, hz, hb⟩ := hrel
    have HBr := Lib.hid hb
    obtain ⟨g0, g1⟩ := HF.out wr hb
    by_cases hlt : i < A.length
    · have i1 : (i : Int) < (A.length : Int) := by omega
      have i2 : (0 : Int) ≤ (i : Int) := by omega
      have HLT := Lib.hid hlt
      have HNI := Lib.hid (HN1.out i hlt)
      have HZN : Hid (isV n (iAt A i) = true → Hid (∀ j, j < i + 1 → isV n (iAt A j) = true)) := Lib.hid fun h0 => Lib.hid fun j hj => by
        by_cases e : j = i
        · subst e; exact h0
        · exact hz.out j (by omega)
      obtain ⟨b1, o1, hb1, q1, x1⟩ := (HHS.out.keep hb).one i hlt
      subst hb1
      have HVV := Lib.hid (HV.out (iAt A i))
      have hgw : w.heap.size < wr.heap.size := Nat.lt_of_lt_of_le (by rw [HW.out, World.size_alloc]; omega) HBr.out.size
      generalize isV n (iAt A i) = vv at *
      generalize iAt A i = v at *
      have HF9 : Hid (∀ u, Below wr.heap.size wr u → u.cell? ⟨w.heap.size, 0, none⟩ = some (.int .i64 n) ∧ u.cell? ⟨w.heap.size, 1, none⟩ = some (.slice a l cap) ∧ u.cell? ⟨b1, o1 + i, none⟩ = some (.int .i64 v)) := Lib.hid fun u hu => ⟨(hu.cell (p := ⟨w.heap.size, 0, none⟩) hgw).trans g0, (hu.cell (p := ⟨w.heap.size, 1, none⟩) hgw).trans g1, (hu.cell (p := ⟨b1, o1 + i, none⟩) q1).trans x1⟩
      clear hlt hb x1 q1 hgw hz
      go_wp2
      clear g0 g1
      have hj0 : Below wr.heap.size wr wr.drew := (Below.refl _ _).drew
      refine wp_region_late (S := fun u => Below wr.heap.size wr u) (X := []) (by kernel_rfl) ?_
      refine wpAnyL_takeD (i := 0) 15 (.agg #[.int .i64 n, .slice a l cap]) rfl rfl (by kernel_rfl) (by kernel_rfl) (by kernel_rfl) (by kernel_rfl) (by kernel_rfl) (fun _ _ _ h => h) hj0 (Or.inl ⟨by rfl, fun u hu => ?_⟩) ?_
      · obtain ⟨t0, t1, t2⟩ := HF9.out u hu
        go_simp
      try simp only [Act.put, List.setIfInBounds_toArray, List.set_cons_zero, List.set_cons_succ]
      refine wpAnyL_pureD (i := 1) 16 (.slice (some ⟨b1, o1, none⟩) A.length sc) rfl rfl (by kernel_rfl) (by kernel_rfl) (by kernel_rfl) (fun _ _ _ h => h) (Or.inl ⟨by rfl, fun u _ => ?_⟩) ?_
      · go_simp
      try simp only [Act.put, List.setIfInBounds_toArray, List.set_cons_zero, List.set_cons_succ]
      refine wpAnyL_pureD (i := 2) 17 (.int .i64 (i : Int)) rfl rfl (by kernel_rfl) (by kernel_rfl) (by kernel_rfl) (fun _ _ _ h => h) (Or.inl ⟨by rfl, fun u _ => ?_⟩) ?_
      · go_simp
      try simp only [Act.put, List.setIfInBounds_toArray, List.set_cons_zero, List.set_cons_succ]
      refine wpAnyL_pureD (i := 3) 18 (.pointer (some ⟨b1, o1 + i, none⟩)) rfl rfl (by kernel_rfl) (by kernel_rfl) (by kernel_rfl) (fun _ _ _ h => h) (Or.inl ⟨by rfl, fun u _ => ?_⟩) ?_
      · go_simp
      try simp only [Act.put, List.setIfInBounds_toArray, List.set_cons_zero, List.set_cons_succ]
      refine wpAnyL_takeD (i := 4) 19 (.int .i64 v) rfl rfl (by kernel_rfl) (by kernel_rfl) (by kernel_rfl) (by kernel_rfl) (by kernel_rfl) (fun _ _ _ h => h) hj0 (Or.inl ⟨by rfl, fun u hu => ?_⟩) ?_
      · obtain ⟨t0, t1, t2⟩ := HF9.out u hu
        go_simp
      try simp only [Act.put, List.setIfInBounds_toArray, List.set_cons_zero, List.set_cons_succ]
      refine wpAnyL_one (i := 5) (by kernel_rfl) rfl (fun K hK => ?_)
      go_simp
      go_at_call 59
      refine (HVV.out _).mono ?_
      rintro e y1 ⟨rfl, hb1⟩
      have hj1 := hj0.trans (hb1.mono hj0.size)
      show K _ _
      refine hK.out _ _ (fun _ _ => hj1) ?_
      clear hK K
      try simp only [Act.put, List.setIfInBounds_toArray, List.set_cons_zero, List.set_cons_succ]
      refine wpAnyL_pureD (i := 6) 21 (.bool (!vv)) rfl rfl (by kernel_rfl) (by kernel_rfl) (by kernel_rfl) (fun _ _ _ h => h) (Or.inl ⟨by rfl, fun u _ => ?_⟩) ?_
      · go_simp
      try simp only [Act.put, List.setIfInBounds_toArray, List.set_cons_zero, List.set_cons_succ]
      refine wpAnyL_done (by kernel_rfl) ?_ _
      try simp only [Act.put, List.setIfInBounds_toArray, List.set_cons_zero, List.set_cons_succ]
      have HBN := Lib.hid (HBr.out.trans (hj1.mono HBr.out.size))
      clear hj0 hj1 hb1
      cases vv with
      | false =>
        have HR := Lib.hid (HNI.out rfl)
        go_wp2
        go_ret
        exact ⟨by rw [HR.out]; rfl, HB0.out.trans (HBN.out.mono HB0.out.size)⟩
      | true =>
        have HR := Lib.hid (HZN.out rfl)
        go_wp2
        go_roundw
        case rel => exact ⟨i + 1, by have := HLT.out; omega, by go_num, HR.out, HBN.out⟩
        case measure => have := HLT.out; simp [intOf]; omega
    · obtain rfl : i = A.length := by omega
      have i1 : ¬ (A.length : Int) < (A.length : Int) := by omega
      have HR := Lib.hid (HY1.out hz.out)
      clear hb hz
      go_wp2
      go_ret
      exact ⟨by rw [HR.out]; rfl, HB0.out.trans (HBr.out.mono HB0.out.size)⟩
end Go.Proofs.Ytgejkgeojjgclaa
