/- The law of sums: reversed twice, indegrees and the degree. -/
import Derived.Test.YtlnaahkheankoaaZYa
import Derived.Test.YtlnaahkheankoaaZAh
import Derived.Test.YtlnaahkheankoaaZAi
namespace Go.Proofs.Ytlnaahkheankoaa
open Go.RowKit Go.Shelf Go.Proofs.Gr
attribute [local go_sem] Oper.semAt_some

set_option maxHeartbeats 12800000 in
set_option maxRecDepth 100000 in
theorem adds_dark (n : Int) (a : Option Addr) (cap : Nat) (L : List E) (b : Option Addr) (c : Nat) (O : List Bool)  (HRT : Hid (∀ w, EsAt w a L → BsAt w b O → Calls Try.prog 43 #[.agg #[.int .i64 n, .slice a L.length cap], .slice b O.length c] w (fun e w' => e = .returned (.bool false) ∧ Below w.heap.size w w'))) (HA : Awake14) (w : World) (h : EsAt w a L) (ho : BsAt w b O) :
    Calls Try.prog 8 #[gv n a L.length cap, .slice b O.length c] w (GivesB w true) := by
  unfold GivesB gv
  obtain ⟨W, hW⟩ : ∃ W, W = w.alloc (Obj.cells #[.int .i64 n, .slice a L.length cap] 24) := ⟨_, rfl⟩
  have hB0 : Below w.heap.size w W := by rw [hW]; exact (Below.refl _ w).alloc (Nat.le_refl _) _
  have hG : Blk W w.heap.size 24 #[.int .i64 n, .slice a L.length cap] := by rw [hW]; exact Blk.new _ _ _
  have HW := Lib.hid hW
  have HB0 := Lib.hid hB0
  have hEz : EsAt W a L := h.keep hB0
  have hOz : BsAt W b O := ho.keep hB0
  have HF : Hid (∀ x, Below W.heap.size W x → x.cell? ⟨w.heap.size, 0, none⟩ = some (.int .i64 n) ∧ x.cell? ⟨w.heap.size, 1, none⟩ = some (.slice a L.length cap) ∧ EsAt x a L ∧ BsAt x b O) := Lib.hid fun x hx => ⟨(hG.below hx hG.lt).cell 0, (hG.below hx hG.lt).cell 1, hEz.keep hx, hOz.keep hx⟩
  have hk0 : Below W.heap.size W W := Below.refl _ _
  obtain ⟨g0, g1, -⟩ := HF.out W hk0
  clear hB0 hG hW hEz h hOz ho
  go_enter Try.func8, Try.ntmps8
  go_wp2_with fail
  rw [← HW.out]
  refine (HRT.out _ (HF.out W hk0).2.2.1 (HF.out W hk0).2.2.2).mono ?_
  rintro e x1 ⟨rfl, hb1⟩
  have hk1 : Below W.heap.size W x1 := hk0.trans (hb1.mono hk0.size)
  clear hb1 hk0 g0 g1
  obtain ⟨g0, g1, -⟩ := HF.out x1 hk1
  go_wp2_with fail
  refine (HA _).mono ?_
  rintro e x2 ⟨rfl, hb2⟩
  have hk2 : Below W.heap.size W x2 := hk1.trans (hb2.mono hk1.size)
  clear hb2 hk1 g0 g1
  obtain ⟨g0, g1, -⟩ := HF.out x2 hk2
  have HEND := Lib.hid (HB0.out.trans (hk2.mono HB0.out.size))
  clear hk2 g0 g1
  go_wp2
  go_ret
  exact ⟨rfl, HEND.out⟩
set_option maxHeartbeats 12800000 in
set_option maxRecDepth 100000 in
theorem adds_of (n : Int) (a : Option Addr) (cap : Nat) (L : List E) (b : Option Addr) (c : Nat) (O : List Bool) (N : Nat) (U D D2 D3 : List Int) (O2 : List Bool) (HRT : Hid (∀ w, EsAt w a L → BsAt w b O → Calls Try.prog 43 #[.agg #[.int .i64 n, .slice a L.length cap], .slice b O.length c] w (fun e w' => e = .returned (.bool true) ∧ Below w.heap.size w w'))) (HA : Awake14) (HR1 : Hid (∀ s d w, EsAt w a L → BsAt w b O → IsAt w s U → Calls Try.prog 39 #[.agg #[.int .i64 n, .slice a L.length cap], .slice b O.length c, .slice s U.length d] w (fun e w' => ∃ x1 y1, e = .returned (.tuple #[.slice x1 O2.length y1, .int .i64 0]) ∧ BsAt w' x1 O2 ∧ Below w.heap.size w w'))) (HR2 : Hid (∀ b1 d1 s d w, EsAt w a L → BsAt w b1 O2 → IsAt w s U → Calls Try.prog 39 #[.agg #[.int .i64 n, .slice a L.length cap], .slice b1 O2.length d1, .slice s U.length d] w (fun e w' => ∃ x1 y1, e = .returned (.tuple #[.slice x1 O.length y1, .int .i64 0]) ∧ BsAt w' x1 O ∧ Below w.heap.size w w'))) (HI1 : Hid (∀ w, EsAt w a L → BsAt w b O → Calls Try.prog 14 #[.agg #[.int .i64 n, .slice a L.length cap], .slice b O.length c] w (fun e w' => ∃ x1 y1, e = .returned (.tuple #[.slice x1 D.length y1, .int .i64 0]) ∧ IsAt w' x1 D ∧ Below w.heap.size w w'))) (HI2 : Hid (∀ b1 d1 w, EsAt w a L → BsAt w b1 O2 → Calls Try.prog 14 #[.agg #[.int .i64 n, .slice a L.length cap], .slice b1 O2.length d1] w (fun e w' => ∃ x1 y1, e = .returned (.tuple #[.slice x1 D2.length y1, .int .i64 0]) ∧ IsAt w' x1 D2 ∧ Below w.heap.size w w'))) (HDV : Hid (∀ w, EsAt w a L → BsAt w b O → Calls Try.prog 16 #[.agg #[.int .i64 n, .slice a L.length cap], .slice b O.length c] w (fun e w' => ∃ x1 y1, e = .returned (.tuple #[.slice x1 D3.length y1, .int .i64 0]) ∧ IsAt w' x1 D3 ∧ Below w.heap.size w w'))) (HDG : Hid (∀ (v : Nat) w, v < N → EsAt w a L → Calls Try.prog 45 #[.agg #[.int .i64 n, .slice a L.length cap], .int .i64 (v : Int)] w (fun e w' => e = .returned (.int .i64 (iAt D v + iAt D2 v)) ∧ Below w.heap.size w w'))) (HU : Hid (U = upto O.length)) (hm : O.length ≤ 1000) (hnN : Hid (n = (N : Int))) (hN : N ≤ 12) (h1 : Hid (D.length = N)) (h2 : Hid (D2.length = N)) (h3 : Hid (D3.length = N)) (HS3 : Hid (∀ v, v < N → iAt D3 v = iAt D v - 1)) (HBD : Hid (∀ v, v < N → 0 ≤ iAt D v ∧ iAt D v ≤ 1000 ∧ 0 ≤ iAt D2 v ∧ iAt D2 v ≤ 1000)) (HSM : Hid (sumN (fun v => iAt D v) N = O.length)) (w : World) (h : EsAt w a L) (ho : BsAt w b O) :
    Calls Try.prog 8 #[gv n a L.length cap, .slice b O.length c] w (GivesB w true) := by
  unfold GivesB gv
  obtain ⟨W, hW⟩ : ∃ W, W = w.alloc (Obj.cells #[.int .i64 n, .slice a L.length cap] 24) := ⟨_, rfl⟩
  have hB0 : Below w.heap.size w W := by rw [hW]; exact (Below.refl _ w).alloc (Nat.le_refl _) _
  have hG : Blk W w.heap.size 24 #[.int .i64 n, .slice a L.length cap] := by rw [hW]; exact Blk.new _ _ _
  have HW := Lib.hid hW
  have HB0 := Lib.hid hB0
  have hEz : EsAt W a L := h.keep hB0
  have hOz : BsAt W b O := ho.keep hB0
  have HF : Hid (∀ x, Below W.heap.size W x → x.cell? ⟨w.heap.size, 0, none⟩ = some (.int .i64 n) ∧ x.cell? ⟨w.heap.size, 1, none⟩ = some (.slice a L.length cap) ∧ EsAt x a L ∧ BsAt x b O) := Lib.hid fun x hx => ⟨(hG.below hx hG.lt).cell 0, (hG.below hx hG.lt).cell 1, hEz.keep hx, hOz.keep hx⟩
  have hk0 : Below W.heap.size W W := Below.refl _ _
  obtain ⟨g0, g1, -⟩ := HF.out W hk0
  clear hB0 hG hW hEz h hOz ho
  obtain ⟨i0, hi0, hz0, hz1, hz2⟩ := info_parts infoI
  go_enter Try.func8, Try.ntmps8
  go_wp2_with fail
  rw [← HW.out]
  refine (HRT.out _ (HF.out W hk0).2.2.1 (HF.out W hk0).2.2.2).mono ?_
  rintro e x1 ⟨rfl, hb1⟩
  have hk1 : Below W.heap.size W x1 := hk0.trans (hb1.mono hk0.size)
  clear hb1 hk0 g0 g1
  obtain ⟨g0, g1, -⟩ := HF.out x1 hk1
  go_wp2_with fail
  have HKX := Lib.hid hk1
  obtain ⟨X, hX⟩ : ∃ X, X = x1 := ⟨_, rfl⟩
  rw [← hX] at HKX ⊢
  clear hk1 g0 g1 hX
  go_loopw [5, 26] (fun s y wr => ∃ k : Nat, k ≤ O.length ∧ y = .int .i64 k ∧ wr.ownsRow X.heap.size 3 1 s (upto k).length (flat encI (upto k)) ∧ Below X.heap.size X wr) (fun _ y _ => O.length - (intOf y).toNat)
  case atStart => exact ⟨0, by omega, rfl, World.ownsRow_nil _ _ _ _, Below.refl _ _⟩
  case round =>
    obtain ⟨k, hk, rfl, hown, hb⟩ := hrel
    by_cases hlt : k < O.length
    · have i1 : (k : Int) < (O.length : Int) := by omega
      have i2 : (0 : Int) ≤ (k : Int) := by omega
      have HOW := Lib.hid hown
      have HBL := Lib.hid hb
      have hkl : (upto k).length ≤ 1000 := by rw [upto_len]; omega
      have hsz := hb.size
      have HUS := Lib.hid (upto_succ k)
      generalize upto k = Uk at *
      clear hown hb
      go_wp2_with (at_builtin; refine wpList_append_own _ rfl _ _ 28 rfl X.heap.size 3 i0 (.int .i64 0) 1 8 Try.underlying28 hi0 hz0 hz1 hz2 rfl (by decide) _ _ _ rfl (HOW.out.alloc _) ⟨wr.heap.size, 0, none⟩ 1 1 [.int .i64 (k : Int)] rfl rfl (lit_row _ _ _) (by simp [Value.oneCell']) (by unfold maxLen; omega) (by omega) (by rw [World.size_alloc]; omega) ?_; intro v1 w3 hown1 hgrow1 hnil; clear hnil; have HO3 : Hid (w3.ownsRow X.heap.size 3 1 v1 (upto (k + 1)).length (flat encI (upto (k + 1)))) := Lib.hid (by rw [HUS.out, List.length_append, flatI_snoc]; exact hown1); have HB3 : Hid (Below X.heap.size X w3) := Lib.hid (below_push (w := X) HBL.out (fun k hk => (HOW.out.lt k hk).1) hgrow1); clear hown1 hgrow1)
      go_roundw
      case rel => exact ⟨k + 1, by omega, by go_num, HO3.out, HB3.out⟩
      case measure => simp [intOf]; omega
    · obtain rfl : k = O.length := by omega
      have i1 : ¬ (O.length : Int) < (O.length : Int) := by omega
      rw [← HU.out] at hown
      obtain ⟨sa, sc, rfl, hU⟩ := RowAt.of_own encI_len hown
      have hkZ : Below W.heap.size W wr := HKX.out.trans (hb.mono HKX.out.size)
      clear hown hb
      have hk2 := hkZ
      obtain ⟨g0, g1, -⟩ := HF.out wr hk2
      go_wp2_with fail
      refine (HR1.out sa sc _ (HF.out wr hk2).2.2.1 (HF.out wr hk2).2.2.2 hU).mono ?_
      rintro e x3 ⟨b1, d1, rfl, hB_3, hb3⟩
      have hk3 : Below W.heap.size W x3 := hk2.trans (hb3.mono hk2.size)
      have hA_3 := hU.keep hb3
      clear hb3 hk2 g0 g1 hU
      obtain ⟨g0, g1, -⟩ := HF.out x3 hk3
      go_wp2_with fail
      refine (HR2.out b1 d1 sa sc _ (HF.out x3 hk3).2.2.1 hB_3 hA_3).mono ?_
      rintro e x4 ⟨b2, d2, rfl, hC_4, hb4⟩
      have hk4 : Below W.heap.size W x4 := hk3.trans (hb4.mono hk3.size)
      have hA_4 := hA_3.keep hb4
      have hB_4 := hB_3.keep hb4
      clear hb4 hk3 g0 g1 hA_3 hB_3
      obtain ⟨g0, g1, -⟩ := HF.out x4 hk4
      go_wp2_with fail
      refine (HI1.out _ (HF.out x4 hk4).2.2.1 (HF.out x4 hk4).2.2.2).mono ?_
      rintro e x5 ⟨b3, d3, rfl, hD_5, hb5⟩
      have hk5 : Below W.heap.size W x5 := hk4.trans (hb5.mono hk4.size)
      have hA_5 := hA_4.keep hb5
      have hB_5 := hB_4.keep hb5
      have hC_5 := hC_4.keep hb5
      clear hb5 hk4 g0 g1 hA_4 hB_4 hC_4
      obtain ⟨g0, g1, -⟩ := HF.out x5 hk5
      go_wp2_with fail
      refine (HI2.out b1 d1 _ (HF.out x5 hk5).2.2.1 hB_5).mono ?_
      rintro e x6 ⟨b4, d4, rfl, hF_6, hb6⟩
      have hk6 : Below W.heap.size W x6 := hk5.trans (hb6.mono hk5.size)
      have hA_6 := hA_5.keep hb6
      have hB_6 := hB_5.keep hb6
      have hC_6 := hC_5.keep hb6
      have hD_6 := hD_5.keep hb6
      clear hb6 hk5 g0 g1 hA_5 hB_5 hC_5 hD_5
      obtain ⟨g0, g1, -⟩ := HF.out x6 hk6
      go_wp2_with fail
      refine (HDV.out _ (HF.out x6 hk6).2.2.1 (HF.out x6 hk6).2.2.2).mono ?_
      rintro e x7 ⟨b5, d5, rfl, hG_7, hb7⟩
      have hk7 : Below W.heap.size W x7 := hk6.trans (hb7.mono hk6.size)
      have hA_7 := hA_6.keep hb7
      have hB_7 := hB_6.keep hb7
      have hC_7 := hC_6.keep hb7
      have hD_7 := hD_6.keep hb7
      have hF_7 := hF_6.keep hb7
      clear hb7 hk6 g0 g1 hA_6 hB_6 hC_6 hD_6 hF_6
      obtain ⟨g0, g1, -⟩ := HF.out x7 hk7
      go_wp2_with fail
      have qa : ((D.length : Int) != n) = false := by rw [hnN.out, h1.out]; simp
      have qb : ((D2.length : Int) != n) = false := by rw [hnN.out, h2.out]; simp
      have qc : ((D3.length : Int) != n) = false := by rw [hnN.out, h3.out]; simp
      refine (pequalB_true b2 b d2 c O (by omega) _ hC_7 (HF.out x7 hk7).2.2.2).mono ?_
      rintro e x8 ⟨rfl, hb8⟩
      have hk8 : Below W.heap.size W x8 := hk7.trans (hb8.mono hk7.size)
      have hA_8 := hA_7.keep hb8
      have hB_8 := hB_7.keep hb8
      have hC_8 := hC_7.keep hb8
      have hD_8 := hD_7.keep hb8
      have hF_8 := hF_7.keep hb8
      have hG_8 := hG_7.keep hb8
      clear hb8 hk7 g0 g1 hA_7 hB_7 hC_7 hD_7 hF_7 hG_7
      obtain ⟨g0, g1, -⟩ := HF.out x8 hk8
      go_wp2_with fail
      have HKY := Lib.hid hk8
      have HDa := Lib.hid hD_8
      have HFa := Lib.hid hF_8
      have HGa := Lib.hid hG_8
      have HBN : Hid (∀ v, v ≤ N → 0 ≤ sumN (fun v => iAt D v) v ∧ sumN (fun v => iAt D v) v ≤ 1000 * (v : Int)) := Lib.hid (fun v => by
        induction v with
        | zero => intro _; exact ⟨Int.le_refl _, Int.le_refl _⟩
        | succ v ih =>
          intro hv
          have h9 := ih (by omega)
          have h8 := HBD.out v (by omega)
          rw [sumN]
          omega)
      have HSS : Hid (∀ v, sumN (fun v => iAt D v) (v + 1) = sumN (fun v => iAt D v) v + iAt D v) := Lib.hid (fun _ => rfl)
      have HS0 : Hid (sumN (fun v => iAt D v) 0 = 0) := Lib.hid rfl
      generalize sumN (fun v => iAt D v) = SU at *
      clear hk8 g0 g1 hA_8 hB_8 hC_8 hD_8 hF_8 hG_8 qa qb qc
      go_loopw [17, 105] (fun s y wr => ∃ v : Nat, v ≤ N ∧ s = .int .i64 (SU v) ∧ y = .int .i64 v ∧ Below x8.heap.size x8 wr) (fun _ y _ => N - (intOf y).toNat)
      case atStart => exact ⟨0, by omega, by rw [HS0.out], rfl, Below.refl _ _⟩
      case round =>
        obtain ⟨v, hv, rfl, rfl, hb⟩ := hrel
        have HBv := Lib.hid (HKY.out.trans (hb.mono HKY.out.size))
        by_cases hlt : v < N
        · have i1 : (v : Int) < n := by rw [hnN.out]; omega
          have i2 : (0 : Int) ≤ (v : Int) := by omega
          have c1 : (v : Int) < (D.length : Int) := by rw [h1.out]; omega
          have c2 : (v : Int) < (D2.length : Int) := by rw [h2.out]; omega
          have c3 : (v : Int) < (D3.length : Int) := by rw [h3.out]; omega
          obtain ⟨p1, o1, e1, q1, y1⟩ := (HDa.out.keep hb).one v (by rw [h1.out]; exact hlt)
          obtain ⟨p2, o2, e2, q2, y2⟩ := (HFa.out.keep hb).one v (by rw [h2.out]; exact hlt)
          obtain ⟨p3, o3, e3, q3, y3⟩ := (HGa.out.keep hb).one v (by rw [h3.out]; exact hlt)
          subst e1 e2 e3
          rw [HS3.out v hlt] at y3
          obtain ⟨d0, d1', d2', d3'⟩ := HBD.out v hlt
          obtain ⟨s0, s1⟩ := HBN.out v (by omega)
          have s2 : SU v ≤ 12000 := by omega
          have HDv := Lib.hid (fun w h => HDG.out v w hlt h)
          have HSv := Lib.hid (HSS.out v)
          obtain ⟨u0, u1, -⟩ := HF.out wr HBv.out
          have HXY : Hid (∀ u, Below wr.heap.size wr u → u.cell? ⟨p1, o1 + v, none⟩ = some (.int .i64 (iAt D v)) ∧ u.cell? ⟨p2, o2 + v, none⟩ = some (.int .i64 (iAt D2 v)) ∧ u.cell? ⟨p3, o3 + v, none⟩ = some (.int .i64 (iAt D v - 1)) ∧ u.cell? ⟨w.heap.size, 0, none⟩ = some (.int .i64 n) ∧ u.cell? ⟨w.heap.size, 1, none⟩ = some (.slice a L.length cap)) := Lib.hid fun u hu => by
            obtain ⟨u0, u1, -⟩ := HF.out u (HBv.out.trans (hu.mono HBv.out.size))
            exact ⟨(hu.cell (p := ⟨p1, o1 + v, none⟩) q1).trans y1, (hu.cell (p := ⟨p2, o2 + v, none⟩) q2).trans y2, (hu.cell (p := ⟨p3, o3 + v, none⟩) q3).trans y3, u0, u1⟩
          have HEv : Hid (EsAt wr a L) := Lib.hid ((HF.out wr HBv.out).2.2.1)
          have HBw := Lib.hid hb
          generalize iAt D v = dv at *
          generalize iAt D2 v = ev at *
          have HW1 : Hid (IntKind.i64.wrap (dv + ev) = dv + ev) := Lib.hid (by rw [IntKind.wrap_i64]; omega)
          have HW2 : Hid (IntKind.i64.wrap (dv - 1) = dv - 1) := Lib.hid (by rw [IntKind.wrap_i64]; omega)
          have qd : ((dv + ev) != (dv + ev)) = false := by simp
          have qe : ((dv - 1) != (dv - 1)) = false := by simp
          generalize hsv : SU v = sv at *
          clear hb y2 y3 u0 u1
          go_wp2
          have hj0 : Below wr.heap.size wr wr.drew := (Below.refl _ _).drew
          refine wp_region_late (S := fun u => Below wr.heap.size wr u) (X := []) (by kernel_rfl) ?_
          refine wpAnyL_pureD (i := 0) 114 (.slice (some ⟨p1, o1, none⟩) D.length d3) rfl rfl (by kernel_rfl) (by kernel_rfl) (by kernel_rfl) (fun _ _ _ h => h) (Or.inl ⟨by rfl, fun u _ => ?_⟩) ?_
          · go_simp
          try simp only [Act.put, List.setIfInBounds_toArray, List.set_cons_zero, List.set_cons_succ]
          refine wpAnyL_pureD (i := 1) 115 (.int .i64 v) rfl rfl (by kernel_rfl) (by kernel_rfl) (by kernel_rfl) (fun _ _ _ h => h) (Or.inl ⟨by rfl, fun u _ => ?_⟩) ?_
          · go_simp
          try simp only [Act.put, List.setIfInBounds_toArray, List.set_cons_zero, List.set_cons_succ]
          refine wpAnyL_pureD (i := 2) 116 (.pointer (some ⟨p1, o1 + v, none⟩)) rfl rfl (by kernel_rfl) (by kernel_rfl) (by kernel_rfl) (fun _ _ _ h => h) (Or.inl ⟨by rfl, fun u _ => ?_⟩) ?_
          · go_simp
          try simp only [Act.put, List.setIfInBounds_toArray, List.set_cons_zero, List.set_cons_succ]
          refine wpAnyL_takeD (i := 3) 117 (.int .i64 dv) rfl rfl (by kernel_rfl) (by kernel_rfl) (by kernel_rfl) (by kernel_rfl) (by kernel_rfl) (fun _ _ _ h => h) hj0 (Or.inl ⟨by rfl, fun u hu => ?_⟩) ?_
          · obtain ⟨t0, t1, t2, t3, t4⟩ := HXY.out u hu
            go_simp
          try simp only [Act.put, List.setIfInBounds_toArray, List.set_cons_zero, List.set_cons_succ]
          refine wpAnyL_pureD (i := 4) 118 (.slice (some ⟨p2, o2, none⟩) D2.length d4) rfl rfl (by kernel_rfl) (by kernel_rfl) (by kernel_rfl) (fun _ _ _ h => h) (Or.inl ⟨by rfl, fun u _ => ?_⟩) ?_
          · go_simp
          try simp only [Act.put, List.setIfInBounds_toArray, List.set_cons_zero, List.set_cons_succ]
          refine wpAnyL_pureD (i := 5) 119 (.int .i64 v) rfl rfl (by kernel_rfl) (by kernel_rfl) (by kernel_rfl) (fun _ _ _ h => h) (Or.inl ⟨by rfl, fun u _ => ?_⟩) ?_
          · go_simp
          try simp only [Act.put, List.setIfInBounds_toArray, List.set_cons_zero, List.set_cons_succ]
          refine wpAnyL_pureD (i := 6) 120 (.pointer (some ⟨p2, o2 + v, none⟩)) rfl rfl (by kernel_rfl) (by kernel_rfl) (by kernel_rfl) (fun _ _ _ h => h) (Or.inl ⟨by rfl, fun u _ => ?_⟩) ?_
          · go_simp
          try simp only [Act.put, List.setIfInBounds_toArray, List.set_cons_zero, List.set_cons_succ]
          refine wpAnyL_takeD (i := 7) 121 (.int .i64 ev) rfl rfl (by kernel_rfl) (by kernel_rfl) (by kernel_rfl) (by kernel_rfl) (by kernel_rfl) (fun _ _ _ h => h) hj0 (Or.inl ⟨by rfl, fun u hu => ?_⟩) ?_
          · obtain ⟨t0, t1, t2, t3, t4⟩ := HXY.out u hu
            go_simp
          try simp only [Act.put, List.setIfInBounds_toArray, List.set_cons_zero, List.set_cons_succ]
          refine wpAnyL_pureD (i := 8) 122 (.int .i64 (dv + ev)) rfl rfl (by kernel_rfl) (by kernel_rfl) (by kernel_rfl) (fun _ _ _ h => h) (Or.inl ⟨by rfl, fun u _ => ?_⟩) ?_
          · go_simp
            exact HW1.out
          try simp only [Act.put, List.setIfInBounds_toArray, List.set_cons_zero, List.set_cons_succ]
          refine wpAnyL_takeD (i := 9) 123 (.agg #[.int .i64 n, .slice a L.length cap]) rfl rfl (by kernel_rfl) (by kernel_rfl) (by kernel_rfl) (by kernel_rfl) (by kernel_rfl) (fun _ _ _ h => h) hj0 (Or.inl ⟨by rfl, fun u hu => ?_⟩) ?_
          · obtain ⟨t0, t1, t2, t3, t4⟩ := HXY.out u hu
            go_simp
          try simp only [Act.put, List.setIfInBounds_toArray, List.set_cons_zero, List.set_cons_succ]
          refine wpAnyL_pureD (i := 10) 124 (.int .i64 v) rfl rfl (by kernel_rfl) (by kernel_rfl) (by kernel_rfl) (fun _ _ _ h => h) (Or.inl ⟨by rfl, fun u _ => ?_⟩) ?_
          · go_simp
          try simp only [Act.put, List.setIfInBounds_toArray, List.set_cons_zero, List.set_cons_succ]
          refine wpAnyL_one (i := 11) (by kernel_rfl) rfl (fun K hK => ?_)
          go_simp
          go_at_call 45
          refine (HDv.out _ (HEv.out.keep hj0)).mono ?_
          rintro e9 z9 ⟨rfl, hb⟩
          have hj1 : Below wr.heap.size wr z9 := hj0.trans (hb.mono hj0.size)
          show K _ _
          refine hK.out _ _ (fun _ _ => hj1) ?_
          clear hK K
          try simp only [Act.put, List.setIfInBounds_toArray, List.set_cons_zero, List.set_cons_succ]
          refine wpAnyL_pureD (i := 12) 126 (.bool false) rfl rfl (by kernel_rfl) (by kernel_rfl) (by kernel_rfl) (fun _ _ _ h => h) (Or.inl ⟨by rfl, fun u _ => ?_⟩) ?_
          · go_simp
          try simp only [Act.put, List.setIfInBounds_toArray, List.set_cons_zero, List.set_cons_succ]
          refine wpAnyL_pureD (i := 13) 127 (.bool false) rfl rfl (by kernel_rfl) (by kernel_rfl) (by kernel_rfl) (fun _ _ _ h => h) (Or.inl ⟨by rfl, fun u _ => ?_⟩) ?_
          · go_simp
          try simp only [Act.put, List.setIfInBounds_toArray, List.set_cons_zero, List.set_cons_succ]
          refine wpAnyL_pureD (i := 14) 128 (.slice (some ⟨p3, o3, none⟩) D3.length d5) rfl rfl (by kernel_rfl) (by kernel_rfl) (by kernel_rfl) (fun _ _ _ h => h) (Or.inl ⟨by rfl, fun u _ => ?_⟩) ?_
          · go_simp
          try simp only [Act.put, List.setIfInBounds_toArray, List.set_cons_zero, List.set_cons_succ]
          refine wpAnyL_pureD (i := 15) 129 (.int .i64 v) rfl rfl (by kernel_rfl) (by kernel_rfl) (by kernel_rfl) (fun _ _ _ h => h) (Or.inl ⟨by rfl, fun u _ => ?_⟩) ?_
          · go_simp
          try simp only [Act.put, List.setIfInBounds_toArray, List.set_cons_zero, List.set_cons_succ]
          refine wpAnyL_pureD (i := 16) 130 (.pointer (some ⟨p3, o3 + v, none⟩)) rfl rfl (by kernel_rfl) (by kernel_rfl) (by kernel_rfl) (fun _ _ _ h => h) (Or.inl ⟨by rfl, fun u _ => ?_⟩) ?_
          · go_simp
          try simp only [Act.put, List.setIfInBounds_toArray, List.set_cons_zero, List.set_cons_succ]
          refine wpAnyL_takeD (i := 17) 131 (.int .i64 (dv - 1)) rfl rfl (by kernel_rfl) (by kernel_rfl) (by kernel_rfl) (by kernel_rfl) (by kernel_rfl) (fun _ _ _ h => h) hj1 (Or.inl ⟨by rfl, fun u hu => ?_⟩) ?_
          · obtain ⟨t0, t1, t2, t3, t4⟩ := HXY.out u hu
            go_simp
          try simp only [Act.put, List.setIfInBounds_toArray, List.set_cons_zero, List.set_cons_succ]
          refine wpAnyL_pureD (i := 18) 132 (.slice (some ⟨p1, o1, none⟩) D.length d3) rfl rfl (by kernel_rfl) (by kernel_rfl) (by kernel_rfl) (fun _ _ _ h => h) (Or.inl ⟨by rfl, fun u _ => ?_⟩) ?_
          · go_simp
          try simp only [Act.put, List.setIfInBounds_toArray, List.set_cons_zero, List.set_cons_succ]
          refine wpAnyL_pureD (i := 19) 133 (.int .i64 v) rfl rfl (by kernel_rfl) (by kernel_rfl) (by kernel_rfl) (fun _ _ _ h => h) (Or.inl ⟨by rfl, fun u _ => ?_⟩) ?_
          · go_simp
          try simp only [Act.put, List.setIfInBounds_toArray, List.set_cons_zero, List.set_cons_succ]
          refine wpAnyL_pureD (i := 20) 134 (.pointer (some ⟨p1, o1 + v, none⟩)) rfl rfl (by kernel_rfl) (by kernel_rfl) (by kernel_rfl) (fun _ _ _ h => h) (Or.inl ⟨by rfl, fun u _ => ?_⟩) ?_
          · go_simp
          try simp only [Act.put, List.setIfInBounds_toArray, List.set_cons_zero, List.set_cons_succ]
          refine wpAnyL_takeD (i := 21) 135 (.int .i64 dv) rfl rfl (by kernel_rfl) (by kernel_rfl) (by kernel_rfl) (by kernel_rfl) (by kernel_rfl) (fun _ _ _ h => h) hj1 (Or.inl ⟨by rfl, fun u hu => ?_⟩) ?_
          · obtain ⟨t0, t1, t2, t3, t4⟩ := HXY.out u hu
            go_simp
          try simp only [Act.put, List.setIfInBounds_toArray, List.set_cons_zero, List.set_cons_succ]
          refine wpAnyL_pureD (i := 22) 136 (.int .i64 (dv - 1)) rfl rfl (by kernel_rfl) (by kernel_rfl) (by kernel_rfl) (fun _ _ _ h => h) (Or.inl ⟨by rfl, fun u _ => ?_⟩) ?_
          · go_simp
            exact HW2.out
          try simp only [Act.put, List.setIfInBounds_toArray, List.set_cons_zero, List.set_cons_succ]
          refine wpAnyL_pureD (i := 23) 137 (.bool false) rfl rfl (by kernel_rfl) (by kernel_rfl) (by kernel_rfl) (fun _ _ _ h => h) (Or.inl ⟨by rfl, fun u _ => ?_⟩) ?_
          · go_simp
          try simp only [Act.put, List.setIfInBounds_toArray, List.set_cons_zero, List.set_cons_succ]
          refine wpAnyL_pureD (i := 24) 138 (.bool false) rfl rfl (by kernel_rfl) (by kernel_rfl) (by kernel_rfl) (fun _ _ _ h => h) (Or.inl ⟨by rfl, fun u _ => ?_⟩) ?_
          · go_simp
          try simp only [Act.put, List.setIfInBounds_toArray, List.set_cons_zero, List.set_cons_succ]
          refine wpAnyL_done (by kernel_rfl) ?_ _
          try simp only [Act.put, List.setIfInBounds_toArray, List.set_cons_zero, List.set_cons_succ]
          have HBX := Lib.hid (HBw.out.trans (hj1.mono HBw.out.size))
          clear hj0 hj1 hb
          go_wp2
          go_roundw
          case rel => exact ⟨v + 1, by omega, by rw [HSv.out], by go_num, HBX.out⟩
          case measure => simp [intOf]; omega
        · obtain rfl : v = N := by omega
          have i1 : ¬ (v : Int) < n := by rw [hnN.out]; omega
          have qs : (SU v == (O.length : Int)) = true := by rw [HSM.out]; simp
          generalize SU v = sv at *
          clear hb
          go_wp2_with fail
          refine (HA _).mono ?_
          rintro e9 z9 ⟨rfl, hb⟩
          have HEND := Lib.hid (HB0.out.trans ((HBv.out.trans (hb.mono HBv.out.size)).mono HB0.out.size))
          clear hb
          go_wp2
          go_ret
          exact ⟨rfl, HEND.out⟩
theorem chk_same {n : Int} {L : List E} {O O2 : List Bool} (hl : O2.length = O.length) : chkO n L O2 = chkO n L O := by unfold chkO; rw [hl]
theorem in_bd {N : Nat} {L : List E} {O : List Bool} (v : Nat) (hv : v < N) (hm : (endsG L).length ≤ 9) : 0 ≤ iAt (inO N L O) v ∧ iAt (inO N L O) v ≤ 1000 := by
  unfold inO
  rw [Int.toNat_natCast, inL_at _ _ _ _ hv]
  have := hdN_le (arcs (endsG L) O) (v : Int) (arcs (endsG L) O).length
  rw [arcs_len] at this ⊢
  omega
theorem less_at {D : List Int} {v : Nat} (h : v < D.length) : iAt (lessL D) v = iAt D v - 1 := by
  unfold lessL iAt
  rw [List.getD_eq_getElem?_getD, List.getD_eq_getElem?_getD, List.getElem?_map, List.getElem?_eq_getElem h]; rfl
theorem adds_any (n : Int) (a : Option Addr) (cap : Nat) (L : List E) (b : Option Addr) (c : Nat) (O : List Bool) (w : World) (h : EsAt w a L) (ho : BsAt w b O) :
    Calls Try.prog 8 #[gv n a L.length cap, .slice b O.length c] w (GivesB w true) := by
  have HRT := fun w h ho => right_any n a cap L b c O w h ho
  cases hr : rightO n L O with
  | false => exact adds_dark n a cap L b c O (Lib.hid fun w h ho => by have := HRT w h ho; rw [hr] at this; exact this) awake14_any w h ho
  | true =>
    have hr2 := hr
    unfold rightO at hr2
    rw [Bool.and_eq_true, decide_eq_true_eq] at hr2
    obtain ⟨hf, hk⟩ := hr2
    have hl := few_len hf
    have h0 := (chkO_zero hk).1
    have h9 := few_ends hf h0
    have hol := chkO_len hk
    have hR := right_of h0
    obtain ⟨N, rfl, -, hN⟩ := nat_of_right h0
    have hk2 : chkO (N : Int) L (O.map (!·)) = 0 := by rw [chk_same (O := O) (by simp)]; exact hk
    have r1 := rev_err (O := O) hk rfl
    have r2 : revE (N : Int) L (O.map (!·)) (upto O.length) = 0 := rev_err hk (by simp)
    have v1 := rev_all O
    have v2 := rev_twice O
    refine adds_of N a cap L b c O N (upto O.length) (inO N L O) (inO N L (O.map (!·))) (lessL (inO N L O)) (O.map (!·)) (Lib.hid fun w h ho => by have := HRT w h ho; rw [hr] at this; exact this) awake14_any
      (Lib.hid fun s d w h ho hs => ?_) (Lib.hid fun b1 d1 s d w h ho hs => ?_) (Lib.hid fun w h ho => ?_) (Lib.hid fun b1 d1 w h ho => ?_) (Lib.hid fun w h ho => ?_) (Lib.hid fun v w hv h => ?_)
      (Lib.hid rfl) (by omega) (Lib.hid rfl) hN (Lib.hid (by rw [inO_len, Int.toNat_natCast])) (Lib.hid (by rw [inO_len, Int.toNat_natCast])) (Lib.hid (by rw [lessL_len, inO_len, Int.toNat_natCast]))
      (Lib.hid fun v hv => less_at (by rw [inO_len, Int.toNat_natCast]; exact hv)) (Lib.hid fun v hv => ⟨(in_bd v hv h9).1, (in_bd v hv h9).2, (in_bd v hv h9).1, (in_bd v hv h9).2⟩) (Lib.hid (by have := sum_in hk; rwa [Int.toNat_natCast] at this)) w h ho
    · have := preverse_ori N a cap L (by omega) b c O (by omega) s d (upto O.length) (by rw [upto_len]; omega) w h ho hs
      rw [okL_pos _ r1, r1, v1] at this
      exact this
    · have := preverse_ori N a cap L (by omega) b1 d1 (O.map (!·)) (by rw [List.length_map]; omega) s d (upto O.length) (by rw [upto_len]; omega) w h ho hs
      rw [okL_pos _ r2, r2, v2] at this
      exact this
    · have := (pindegrees_any N a cap L (by omega) b c O (by omega) w h ho).mono fun _ _ h => h.weak
      rw [okL_pos _ hk, hk] at this
      exact this
    · have := (pindegrees_any N a cap L (by omega) b1 d1 (O.map (!·)) (by rw [List.length_map]; omega) w h ho).mono fun _ _ h => h.weak
      rw [okL_pos _ hk2, hk2] at this
      exact this
    · have := pdivisor_any N a cap L (by omega) b c O (by omega) w h ho
      rw [okL_pos _ hk, hk] at this
      exact this
    · have := rdegree_any N a cap L (by omega) hR (v : Int) w h
      rw [← in_out hk v hv] at this
      exact this
end Go.Proofs.Ytlnaahkheankoaa
