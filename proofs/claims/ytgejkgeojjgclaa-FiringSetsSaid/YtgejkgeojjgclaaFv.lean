/- May, Out, MaySet, Legal, LegalSet of the reference. -/
import Derived.Test.YtgejkgeojjgclaaFu
namespace Go.Proofs.Ytgejkgeojjgclaa
open Go.RowKit Go.Proofs.Gr Go.Proofs.Cp
attribute [local go_sem] Oper.semAt_some

set_option maxHeartbeats 12800000 in
set_option maxRecDepth 100000 in
theorem rMay_any (N : Nat) (a : Option Addr) (cap : Nat) (L : List E) (hL : L.length ≤ 100000) (hR : Right N L) (b : Option Addr) (c : Nat) (D : List Int) (hDN : D.length = N) (v : Nat) (hv : v < N) (w : World) (h : EsAt w a L) (ho : IsAt w b D) :
    Calls Try.prog 62 #[gv N a L.length cap, .slice b N c, .int .i64 (v : Int)] w (fun e w' => e = .returned (.bool (legB L D [(v : Int)])) ∧ Below w.heap.size w w') := by
  have HV := Lib.hid (fun w h => rvalence_any N a cap L hL hR (v : Int) w h)
  have HLB : Hid (legB L D [(v : Int)] = (decide (0 < valZ v L N) && decide (valZ v L N ≤ iAt D v))) := Lib.hid (legB_one hR hDN (by omega))
  unfold GivesN gv at *
  generalize legB L D [(v : Int)] = R at *
  generalize valZ v L N = K at *
  obtain ⟨W, hW⟩ : ∃ W, W = w.alloc (Obj.cells #[.int .i64 (N : Int), .slice a L.length cap] 24) := ⟨_, rfl⟩
  have hB0 : Below w.heap.size w W := by rw [hW]; exact (Below.refl _ w).alloc (Nat.le_refl _) _
  have hG : Blk W w.heap.size 24 #[.int .i64 (N : Int), .slice a L.length cap] := by rw [hW]; exact Blk.new _ _ _
  have HW := Lib.hid hW
  have HB0 := Lib.hid hB0
  have HE1 := Lib.hid (h.keep hB0)
  have HF : Hid (∀ u, Below W.heap.size W u → u.cell? ⟨w.heap.size, 0, none⟩ = some (.int .i64 (N : Int)) ∧ u.cell? ⟨w.heap.size, 1, none⟩ = some (.slice a L.length cap)) := Lib.hid fun u hu => ⟨(hG.below hu hG.lt).cell 0, (hG.below hu hG.lt).cell 1⟩
  obtain ⟨g0, g1⟩ := HF.out W (Below.refl _ _)
  obtain ⟨b1, o1, hb1, q1, x1⟩ := (ho.keep hB0).one v (by omega)
  subst hb1
  have HX : Hid (∀ u, Below W.heap.size W u → u.cell? ⟨b1, o1 + v, none⟩ = some (.int .i64 (iAt D v))) := Lib.hid fun u hu => (hu.cell (p := ⟨b1, o1 + v, none⟩) q1).trans x1
  generalize iAt D v = x at *
  have j1 : (v : Int) < (N : Int) := by omega
  have j2 : (0 : Int) ≤ (v : Int) := by omega
  rw [hW] at g0 g1
  clear hB0 hG hW h ho x1 q1 hDN
  go_enter Try.func62, Try.ntmps62
  go_wp2_with fail
  rw [← HW.out]
  refine (HV.out _ HE1.out).mono ?_
  rintro e w1 ⟨rfl, hb⟩
  have HB1 := Lib.hid hb
  have x1 := HX.out w1 hb
  clear g0 g1 hb
  by_cases k1 : 0 < K
  · have k2 : K > 0 := k1
    by_cases k3 : K ≤ x
    · have k4 : x ≥ K := k3
      have HR : Hid (R = true) := Lib.hid (by rw [HLB.out, decide_eq_true k1, decide_eq_true k3]; rfl)
      go_wp2
      go_ret
      exact ⟨by rw [HR.out]; first | rfl | (show Ending.returned (.bool (decide (K ≤ x))) = _; rw [decide_eq_false (by omega)]), HB0.out.trans (HB1.out.mono HB0.out.size)⟩
    · have k4 : ¬ x ≥ K := k3
      have HR : Hid (R = false) := Lib.hid (by rw [HLB.out, decide_eq_true k1, decide_eq_false k3]; rfl)
      go_wp2
      go_ret
      exact ⟨by rw [HR.out]; first | rfl | (show Ending.returned (.bool (decide (K ≤ x))) = _; rw [decide_eq_false (by omega)]), HB0.out.trans (HB1.out.mono HB0.out.size)⟩
  · have k2 : ¬ K > 0 := k1
    have HR : Hid (R = false) := Lib.hid (by rw [HLB.out, decide_eq_false k1]; rfl)
    go_wp2
    go_ret
    exact ⟨by rw [HR.out]; first | rfl | (show Ending.returned (.bool (decide (K ≤ x))) = _; rw [decide_eq_false (by omega)]), HB0.out.trans (HB1.out.mono HB0.out.size)⟩
set_option maxHeartbeats 12800000 in
set_option maxRecDepth 100000 in
theorem rOut_any (N : Nat) (a : Option Addr) (cap : Nat) (L : List E) (hL : L.length ≤ 100000) (hR : Right N L) (sa : Option Addr) (sc : Nat) (A : List Int) (hA : A.length ≤ 100000) (v : Int) (w : World) (h : EsAt w a L) (hs : IsAt w sa A) :
    Calls Try.prog 89 #[gv N a L.length cap, .slice sa A.length sc, .int .i64 v] w (GivesN w (outZ A v L N)) := by
  have HBT := Lib.hid (fun u w h => rbetween_any (N : Nat) a cap L hL hR.srt v u w h)
  have HH := Lib.hid (fun u w h => holds_any sa sc A hA u w h)
  have hN12 := hR.hi
  have HOS : Hid (∀ u : Nat, outZ A v L (u + 1) = outZ A v L u + (if A.contains (u : Int) = true then 0 else betw v u L)) := Lib.hid fun u => rfl
  have HO0 : Hid (outZ A v L 0 = 0) := Lib.hid rfl
  have HOB : Hid (∀ u : Nat, 0 ≤ outZ A v L u ∧ outZ A v L u ≤ 50 * u) := Lib.hid fun u => ⟨outZ_nn hR A v u, outZ_le hR A v u⟩
  have HBB := Lib.hid (fun u => betw_le hR v u)
  unfold GivesN gv at *
  generalize outZ A v L = Z at *
  obtain ⟨W, hW⟩ : ∃ W, W = w.alloc (Obj.cells #[.int .i64 (N : Int), .slice a L.length cap] 24) := ⟨_, rfl⟩
  have hB0 : Below w.heap.size w W := by rw [hW]; exact (Below.refl _ w).alloc (Nat.le_refl _) _
  have hG : Blk W w.heap.size 24 #[.int .i64 (N : Int), .slice a L.length cap] := by rw [hW]; exact Blk.new _ _ _
  have HW := Lib.hid hW
  have HB0 := Lib.hid hB0
  have HE1 := Lib.hid (h.keep hB0)
  have HF : Hid (∀ u, Below W.heap.size W u → u.cell? ⟨w.heap.size, 0, none⟩ = some (.int .i64 (N : Int)) ∧ u.cell? ⟨w.heap.size, 1, none⟩ = some (.slice a L.length cap)) := Lib.hid fun u hu => ⟨(hG.below hu hG.lt).cell 0, (hG.below hu hG.lt).cell 1⟩
  obtain ⟨g0, g1⟩ := HF.out W (Below.refl _ _)
  have HHS := Lib.hid (hs.keep hB0)
  rw [hW] at g0 g1
  clear hB0 hG hW h hs hR
  go_enter Try.func89, Try.ntmps89
  go_wp2
  rw [← HW.out]
  go_loopw [7, 8] (fun s x wr => ∃ u : Nat, u ≤ N ∧ x = .int .i64 u ∧ s = .int .i64 (Z u) ∧ Below W.heap.size W wr) (fun _ x _ => N - (intOf x).toNat)
  case atStart => exact ⟨0, by omega, rfl, by rw [HO0.out], Below.refl _ _⟩
  case round =>
    obtain ⟨u, hu, rfl, rfl, hb⟩ := hrel
    have HBr := Lib.hid hb
    clear g0 g1
    obtain ⟨g0, g1⟩ := HF.out wr hb
    by_cases hlt : u < N
    · have i1 : (u : Int) < (N : Int) := by omega
      have HLT := Lib.hid hlt
      have HCH := Lib.hid (HH.out (u : Int) wr (HHS.out.keep hb))
      have hst := HOS.out u
      have hzb := HOB.out u
      have hbb := HBB.out u
      cases hc : A.contains (u : Int) with
      | true =>
        rw [if_pos hc, Int.add_zero] at hst
        rw [hc] at HCH
        have HST := Lib.hid hst
        generalize Z u = S at *
        clear hst hzb hbb hlt hb hc
        go_wp2_with fail
        refine HCH.out.mono ?_
        rintro e w1 ⟨rfl, rfl⟩
        go_wp2
        go_roundw
        case rel => exact ⟨u + 1, by have := HLT.out; omega, by go_num, by rw [HST.out], HBr.out⟩
        case measure => have := HLT.out; simp [intOf]; omega
      | false =>
        rw [if_neg (by rw [hc]; decide)] at hst
        rw [hc] at HCH
        have HBC := Lib.hid (HBT.out u wr (HE1.out.keep hb))
        generalize betw v (u : Int) L = B at *
        have HST := Lib.hid hst
        generalize Z u = S at *
        have c1 : IntKind.i64.wrap (S + B) = S + B := IntWalk.i64_in _ (by omega)
        clear hst hzb hbb hlt hb hc
        go_wp2_with fail
        refine HCH.out.mono ?_
        rintro e w1 ⟨rfl, rfl⟩
        go_wp2_with fail
        refine HBC.out.mono ?_
        rintro e w2 ⟨rfl, hb2⟩
        have HB2 := Lib.hid (HBr.out.trans (hb2.mono HBr.out.size))
        clear hb2 g0 g1
        go_wp2
        go_roundw
        case rel => exact ⟨u + 1, by have := HLT.out; omega, by go_num, by rw [HST.out], HB2.out⟩
        case measure => have := HLT.out; simp [intOf]; omega
    · obtain rfl : u = N := by omega
      clear hb
      go_wp2
      go_ret
      exact ⟨rfl, HB0.out.trans (HBr.out.mono HB0.out.size)⟩
set_option maxHeartbeats 12800000 in
set_option maxRecDepth 100000 in
theorem rMaySet_any (N : Nat) (a : Option Addr) (cap : Nat) (L : List E) (hL : L.length ≤ 100000) (hR : Right N L) (b : Option Addr) (c : Nat) (D : List Int) (hDN : D.length = N) (sa : Option Addr) (sc : Nat) (A : List Int) (hA : A.length ≤ 100000) (hr : ∀ i, i < A.length → 0 ≤ iAt A i ∧ iAt A i < N) (w : World) (h : EsAt w a L) (ho : IsAt w b D) (hs : IsAt w sa A) :
    Calls Try.prog 65 #[gv N a L.length cap, .slice b N c, .slice sa A.length sc] w (fun e w' => e = .returned (.bool (legB L D A)) ∧ Below w.heap.size w w') := by
  have HOU := Lib.hid (fun v w h hs => rOut_any N a cap L hL hR sa sc A hA v w h hs)
  have hN12 := hR.hi
  have HMS : Hid (legB L D A = mayS N L D A) := Lib.hid (legB_mayS hR hDN hr)
  have HNO : Hid (∀ i, i < A.length → iAt D (iAt A i).toNat < outZ A (iAt A i) L N → legB L D A = false) := Lib.hid fun i hi hlt => by
    rw [HMS.out]
    unfold mayS
    rw [Bool.and_eq_false_iff]
    refine Or.inl ?_
    rw [List.all_eq_false]
    exact ⟨iAt A i, by rw [← iAt_get A i hi]; exact List.getElem_mem hi, by simp; exact hlt⟩
  have HYES : Hid ((∀ j, j < A.length → outZ A (iAt A j) L N ≤ iAt D (iAt A j).toNat) → legB L D A = decide (0 < sA (fun v => outZ A v L N) A A.length)) := Lib.hid fun hz => by
    rw [HMS.out]
    unfold mayS
    rw [show A.all (fun v => decide (outZ A v L N ≤ iAt D v.toNat)) = true from by
      rw [List.all_eq_true]
      intro v hv
      obtain ⟨j, hj, rfl⟩ := List.getElem_of_mem hv
      rw [iAt_get A j hj]
      exact decide_eq_true (hz j hj), Bool.true_and]
  have HSS : Hid (∀ i, sA (fun v => outZ A v L N) A (i + 1) = sA (fun v => outZ A v L N) A i + outZ A (iAt A i) L N) := Lib.hid fun i => rfl
  have HS0 : Hid (sA (fun v => outZ A v L N) A 0 = 0) := Lib.hid rfl
  have HSB : Hid (∀ i, 0 ≤ sA (fun v => outZ A v L N) A i ∧ sA (fun v => outZ A v L N) A i ≤ 600 * i) := Lib.hid fun i => ⟨sA_nn _ A (fun v => outZ_nn hR A v N) i, sA_le hR A N i (by omega)⟩
  have HZB : Hid (∀ v, 0 ≤ outZ A v L N ∧ outZ A v L N ≤ 50 * N) := Lib.hid fun v => ⟨outZ_nn hR A v N, outZ_le hR A v N⟩
  unfold GivesN gv at *
  generalize sA (fun v => outZ A v L N) A = Z at *
  generalize legB L D A = R at *
  obtain ⟨W, hW⟩ : ∃ W, W = w.alloc (Obj.cells #[.int .i64 (N : Int), .slice a L.length cap] 24) := ⟨_, rfl⟩
  have hB0 : Below w.heap.size w W := by rw [hW]; exact (Below.refl _ w).alloc (Nat.le_refl _) _
  have hG : Blk W w.heap.size 24 #[.int .i64 (N : Int), .slice a L.length cap] := by rw [hW]; exact Blk.new _ _ _
  have HW := Lib.hid hW
  have HB0 := Lib.hid hB0
  have HE1 := Lib.hid (h.keep hB0)
  have HF : Hid (∀ u, Below W.heap.size W u → u.cell? ⟨w.heap.size, 0, none⟩ = some (.int .i64 (N : Int)) ∧ u.cell? ⟨w.heap.size, 1, none⟩ = some (.slice a L.length cap)) := Lib.hid fun u hu => ⟨(hG.below hu hG.lt).cell 0, (hG.below hu hG.lt).cell 1⟩
  obtain ⟨g0, g1⟩ := HF.out W (Below.refl _ _)
  have HHO := Lib.hid (ho.keep hB0)
  have HHS := Lib.hid (hs.keep hB0)
  have HRG := Lib.hid hr
  rw [hW] at g0 g1
  clear hB0 hG hW h hs ho hR hr HMS
  go_enter Try.func65, Try.ntmps65
  go_wp2
  rw [← HW.out]
  go_loopw [7, 8] (fun s x wr => ∃ i : Nat, i ≤ A.length ∧ x = .int .i64 i ∧ s = .int .i64 (Z i) ∧ Hid (∀ j, j < i → outZ A (iAt A j) L N ≤ iAt D (iAt A j).toNat) ∧ Below W.heap.size W wr) (fun _ x _ => A.length - (intOf x).toNat)
  case atStart => exact ⟨0, by omega, rfl, by rw [HS0.out], Lib.hid fun j hj => by omega, Below.refl _ _⟩
  case round =>
    obtain ⟨i, hi, rfl, rfl, hz, hb⟩ := hrel
    have HBr := Lib.hid hb
    clear g0 g1
    obtain ⟨g0, g1⟩ := HF.out wr hb
    by_cases hlt : i < A.length
    · have i1 : (i : Int) < (A.length : Int) := by omega
      have i2 : (0 : Int) ≤ (i : Int) := by omega
      have HLT := Lib.hid hlt
      have hrg := HRG.out i hlt
      have hst := HSS.out i
      have hsb := HSB.out i
      have hzb := HZB.out (iAt A i)
      have HNI := Lib.hid (HNO.out i hlt)
      have HZN : Hid (outZ A (iAt A i) L N ≤ iAt D (iAt A i).toNat → Hid (∀ j, j < i + 1 → outZ A (iAt A j) L N ≤ iAt D (iAt A j).toNat)) := Lib.hid fun h0 => Lib.hid fun j hj => by
        by_cases e : j = i
        · subst e; exact h0
        · exact hz.out j (by omega)
      obtain ⟨b1, o1, hb1, q1, x1⟩ := (HHS.out.keep hb).one i hlt
      subst hb1
      obtain ⟨v, hv⟩ : ∃ v : Nat, iAt A i = v := ⟨(iAt A i).toNat, by omega⟩
      rw [hv] at x1 hst hrg hzb HNI HZN
      rw [Int.toNat_natCast] at HNI HZN
      obtain ⟨b2, o2, hb2, q2, x2⟩ := (HHO.out.keep hb).one v (by omega)
      subst hb2
      have HOV := Lib.hid (HOU.out (v : Int))
      generalize iAt D v = x at *
      generalize outZ A (v : Int) L N = K at *
      have HST := Lib.hid hst
      generalize Z i = S at *
      have c1 : IntKind.i64.wrap (S + K) = S + K := IntWalk.i64_in _ (by omega)
      have j1 : (v : Int) < (N : Int) := by omega
      have j2 : (0 : Int) ≤ (v : Int) := by omega
      have hgw : w.heap.size < wr.heap.size := Nat.lt_of_lt_of_le (by rw [HW.out, World.size_alloc]; omega) HBr.out.size
      have HF9 : Hid (∀ u, Below wr.heap.size wr u → u.cell? ⟨w.heap.size, 0, none⟩ = some (.int .i64 (N : Int)) ∧ u.cell? ⟨w.heap.size, 1, none⟩ = some (.slice a L.length cap) ∧ u.cell? ⟨b1, o1 + i, none⟩ = some (.int .i64 (v : Int))) := Lib.hid fun u hu => ⟨(hu.cell (p := ⟨w.heap.size, 0, none⟩) hgw).trans g0, (hu.cell (p := ⟨w.heap.size, 1, none⟩) hgw).trans g1, (hu.cell (p := ⟨b1, o1 + i, none⟩) q1).trans x1⟩
      have HX9 : Hid (∀ u, Below wr.heap.size wr u → u.cell? ⟨b1, o1 + i, none⟩ = some (.int .i64 (v : Int)) ∧ u.cell? ⟨b2, o2 + v, none⟩ = some (.int .i64 x)) := Lib.hid fun u hu => ⟨(hu.cell (p := ⟨b1, o1 + i, none⟩) q1).trans x1, (hu.cell (p := ⟨b2, o2 + v, none⟩) q2).trans x2⟩
      clear hst hsb hzb hlt hb hv hrg x1 x2 q1 q2 hgw hz
      go_wp2
      clear g0 g1
      have hj0 : Below wr.heap.size wr wr.drew := (Below.refl _ _).drew
      refine wp_region_late (S := fun u => Below wr.heap.size wr u) (X := []) (by kernel_rfl) ?_
      refine wpAnyL_takeD (i := 0) 16 (.agg #[.int .i64 (N : Int), .slice a L.length cap]) rfl rfl (by kernel_rfl) (by kernel_rfl) (by kernel_rfl) (by kernel_rfl) (by kernel_rfl) (fun _ _ _ h => h) hj0 (Or.inl ⟨by rfl, fun u hu => ?_⟩) ?_
      · obtain ⟨t0, t1, t2⟩ := HF9.out u hu
        go_simp
      try simp only [Act.put, List.setIfInBounds_toArray, List.set_cons_zero, List.set_cons_succ]
      refine wpAnyL_pureD (i := 1) 17 (.slice (some ⟨b1, o1, none⟩) A.length sc) rfl rfl (by kernel_rfl) (by kernel_rfl) (by kernel_rfl) (fun _ _ _ h => h) (Or.inl ⟨by rfl, fun u _ => ?_⟩) ?_
      · go_simp
      try simp only [Act.put, List.setIfInBounds_toArray, List.set_cons_zero, List.set_cons_succ]
      refine wpAnyL_pureD (i := 2) 18 (.slice (some ⟨b1, o1, none⟩) A.length sc) rfl rfl (by kernel_rfl) (by kernel_rfl) (by kernel_rfl) (fun _ _ _ h => h) (Or.inl ⟨by rfl, fun u _ => ?_⟩) ?_
      · go_simp
      try simp only [Act.put, List.setIfInBounds_toArray, List.set_cons_zero, List.set_cons_succ]
      refine wpAnyL_pureD (i := 3) 19 (.int .i64 (i : Int)) rfl rfl (by kernel_rfl) (by kernel_rfl) (by kernel_rfl) (fun _ _ _ h => h) (Or.inl ⟨by rfl, fun u _ => ?_⟩) ?_
      · go_simp
      try simp only [Act.put, List.setIfInBounds_toArray, List.set_cons_zero, List.set_cons_succ]
      refine wpAnyL_pureD (i := 4) 20 (.pointer (some ⟨b1, o1 + i, none⟩)) rfl rfl (by kernel_rfl) (by kernel_rfl) (by kernel_rfl) (fun _ _ _ h => h) (Or.inl ⟨by rfl, fun u _ => ?_⟩) ?_
      · go_simp
      try simp only [Act.put, List.setIfInBounds_toArray, List.set_cons_zero, List.set_cons_succ]
      refine wpAnyL_takeD (i := 5) 21 (.int .i64 (v : Int)) rfl rfl (by kernel_rfl) (by kernel_rfl) (by kernel_rfl) (by kernel_rfl) (by kernel_rfl) (fun _ _ _ h => h) hj0 (Or.inl ⟨by rfl, fun u hu => ?_⟩) ?_
      · obtain ⟨t0, t1, t2⟩ := HF9.out u hu
        go_simp
      try simp only [Act.put, List.setIfInBounds_toArray, List.set_cons_zero, List.set_cons_succ]
      refine wpAnyL_one (i := 6) (by kernel_rfl) rfl (fun K hK => ?_)
      go_simp
      go_at_call 89
      refine (HOV.out _ (HE1.out.keep (HBr.out.trans (hj0.mono HBr.out.size))) (HHS.out.keep (HBr.out.trans (hj0.mono HBr.out.size)))).mono ?_
      rintro e y1 ⟨rfl, hb1⟩
      have hj1 := hj0.trans (hb1.mono hj0.size)
      show K _ _
      refine hK.out _ _ (fun _ _ => hj1) ?_
      clear hK K
      try simp only [Act.put, List.setIfInBounds_toArray, List.set_cons_zero, List.set_cons_succ]
      refine wpAnyL_pureD (i := 7) 9 (.int .i64 K) rfl rfl (by kernel_rfl) (by kernel_rfl) (by kernel_rfl) (fun _ _ _ h => h) (Or.inl ⟨by rfl, fun u _ => ?_⟩) ?_
      · go_simp
      try simp only [Act.put, List.setIfInBounds_toArray, List.set_cons_zero, List.set_cons_succ]
      refine wpAnyL_done (by kernel_rfl) ?_ _
      try simp only [Act.put, List.setIfInBounds_toArray, List.set_cons_zero, List.set_cons_succ]
      obtain ⟨x1, x2⟩ := HX9.out y1 hj1
      have HBN := Lib.hid (HBr.out.trans (hj1.mono HBr.out.size))
      clear hj0 hj1 hb1
      by_cases k1 : x < K
      · have HR := Lib.hid (HNI.out k1)
        go_wp2
        go_ret
        exact ⟨by rw [HR.out]; first | rfl | (show Ending.returned (.bool (decide (K ≤ x))) = _; rw [decide_eq_false (by omega)]), HB0.out.trans (HBN.out.mono HB0.out.size)⟩
      · have HZ2 := Lib.hid (HZN.out (by omega))
        go_wp2
        go_roundw
        case rel => exact ⟨i + 1, by have := HLT.out; omega, by go_num, by rw [HST.out], HZ2.out, HBN.out⟩
        case measure => have := HLT.out; simp [intOf]; omega
    · obtain rfl : i = A.length := by omega
      have i1 : ¬ (A.length : Int) < (A.length : Int) := by omega
      have hR := HYES.out hz.out
      generalize Z A.length = S at *
      clear hb hz
      by_cases k1 : 0 < S
      · have k2 : S > 0 := k1
        have HR : Hid (R = true) := Lib.hid (by rw [hR, decide_eq_true k1])
        clear hR
        go_wp2
        go_ret
        exact ⟨by rw [HR.out]; first | rfl | (show Ending.returned (.bool (decide (K ≤ x))) = _; rw [decide_eq_false (by omega)]), HB0.out.trans (HBr.out.mono HB0.out.size)⟩
      · have k2 : ¬ S > 0 := k1
        have HR : Hid (R = false) := Lib.hid (by rw [hR, decide_eq_false k1])
        clear hR
        go_wp2
        go_ret
        exact ⟨by rw [HR.out]; first | rfl | (show Ending.returned (.bool (decide (K ≤ x))) = _; rw [decide_eq_false (by omega)]), HB0.out.trans (HBr.out.mono HB0.out.size)⟩
end Go.Proofs.Ytgejkgeojjgclaa
