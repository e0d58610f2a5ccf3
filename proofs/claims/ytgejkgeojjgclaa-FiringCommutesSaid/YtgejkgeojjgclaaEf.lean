/- The law Commutes. -/
import Derived.Test.YtgejkgeojjgclaaEe2
namespace Go.Proofs.Ytgejkgeojjgclaa
open Go.RowKit Go.Proofs.Gr Go.Proofs.Cp
attribute [local go_sem] Oper.semAt_some

set_option maxHeartbeats 12800000 in
set_option maxRecDepth 100000 in
theorem commutes_any (n : Int) (a : Option Addr) (cap : Nat) (L : List E) (b : Option Addr) (c : Nat) (D : List Int) (sa : Option Addr) (sc : Nat) (A : List Int) (w : World) (h : EsAt w a L) (ho : IsAt w b D) (hs : IsAt w sa A) :
    Calls Try.prog 10 #[gv n a L.length cap, .slice b D.length c, .slice sa A.length sc] w (fun e w' => e = .returned (.bool true) ∧ Below w.heap.size w w') := by
  have HAW := Lib.hid (fun w => awake_any w)
  by_cases hS1 : smlD n L D = false
  · have HS1 : Hid (∀ u, EsAt u a L → IsAt u b D → Calls Try.prog 42 #[gv n a L.length cap, .slice b D.length c] u (fun e w' => e = .returned (.bool false) ∧ Below u.heap.size u w')) := Lib.hid fun u h1 h2 => by
      have := small18_any n a cap L b c D u h1 h2
      rwa [hS1] at this
    unfold gv at *
    clear hS1
    obtain ⟨W, hW⟩ : ∃ W, W = w.alloc (Obj.cells #[.int .i64 n, .slice a L.length cap] 24) := ⟨_, rfl⟩
    have hB0 : Below w.heap.size w W := by rw [hW]; exact (Below.refl _ w).alloc (Nat.le_refl _) _
    have hG : Blk W w.heap.size 24 #[.int .i64 n, .slice a L.length cap] := by rw [hW]; exact Blk.new _ _ _
    have HW := Lib.hid hW
    have HSW : Hid (W.heap.size = w.heap.size + 1) := Lib.hid (by rw [hW]; simp)
    have HB0 := Lib.hid hB0
    have HF : Hid (∀ u, Below W.heap.size W u → u.cell? ⟨w.heap.size, 0, none⟩ = some (.int .i64 n) ∧ u.cell? ⟨w.heap.size, 1, none⟩ = some (.slice a L.length cap)) := Lib.hid fun u hu => ⟨(hG.below hu hG.lt).cell 0, (hG.below hu hG.lt).cell 1⟩
    have HB : Hid (Below W.heap.size W W) := Lib.hid (Below.refl _ _)
    have PEE := Lib.hid (h.keep hB0)
    have PD := Lib.hid (ho.keep hB0)
    have PS := Lib.hid (hs.keep hB0)
    clear hW hB0 hG h ho hs
    go_enter Try.func10, Try.ntmps10
    go_wp2_with fail
    rw [← HW.out]
    refine (HS1.out W PEE.out PD.out).mono ?_
    rintro e w0 ⟨rfl, hb⟩
    replace PEE := Lib.hid (PEE.out.keep hb)
    replace PD := Lib.hid (PD.out.keep hb)
    replace PS := Lib.hid (PS.out.keep hb)
    replace HB := Lib.hid (HB.out.trans (hb.mono HB.out.size))
    clear hb
    obtain ⟨g0, g1⟩ := HF.out w0 HB.out
    go_wp2_with fail
    refine (HAW.out w0).mono ?_
    rintro e w1 ⟨rfl, hb⟩
    replace PEE := Lib.hid (PEE.out.keep hb)
    replace PD := Lib.hid (PD.out.keep hb)
    replace PS := Lib.hid (PS.out.keep hb)
    replace HB := Lib.hid (HB.out.trans (hb.mono HB.out.size))
    clear hb
    clear g0 g1
    obtain ⟨g0, g1⟩ := HF.out w1 HB.out
    go_wp2
    go_ret
    exact ⟨rfl, HB0.out.trans (HB.out.mono HB0.out.size)⟩
  have hS1 : smlD n L D = true := by cases hh : smlD n L D with | true => rfl | false => exact absurd hh hS1
  have HS1 : Hid (∀ u, EsAt u a L → IsAt u b D → Calls Try.prog 42 #[gv n a L.length cap, .slice b D.length c] u (fun e w' => e = .returned (.bool true) ∧ Below u.heap.size u w')) := Lib.hid fun u h1 h2 => by
    have := small18_any n a cap L b c D u h1 h2
    rwa [hS1] at this
  by_cases hg : 60 < A.length
  · have i9 : (A.length : Int) > 60 := by omega
    unfold gv at *
    clear hS1 hg
    obtain ⟨W, hW⟩ : ∃ W, W = w.alloc (Obj.cells #[.int .i64 n, .slice a L.length cap] 24) := ⟨_, rfl⟩
    have hB0 : Below w.heap.size w W := by rw [hW]; exact (Below.refl _ w).alloc (Nat.le_refl _) _
    have hG : Blk W w.heap.size 24 #[.int .i64 n, .slice a L.length cap] := by rw [hW]; exact Blk.new _ _ _
    have HW := Lib.hid hW
    have HSW : Hid (W.heap.size = w.heap.size + 1) := Lib.hid (by rw [hW]; simp)
    have HB0 := Lib.hid hB0
    have HF : Hid (∀ u, Below W.heap.size W u → u.cell? ⟨w.heap.size, 0, none⟩ = some (.int .i64 n) ∧ u.cell? ⟨w.heap.size, 1, none⟩ = some (.slice a L.length cap)) := Lib.hid fun u hu => ⟨(hG.below hu hG.lt).cell 0, (hG.below hu hG.lt).cell 1⟩
    have HB : Hid (Below W.heap.size W W) := Lib.hid (Below.refl _ _)
    have PEE := Lib.hid (h.keep hB0)
    have PD := Lib.hid (ho.keep hB0)
    have PS := Lib.hid (hs.keep hB0)
    clear hW hB0 hG h ho hs
    go_enter Try.func10, Try.ntmps10
    go_wp2_with fail
    rw [← HW.out]
    refine (HS1.out W PEE.out PD.out).mono ?_
    rintro e w0 ⟨rfl, hb⟩
    replace PEE := Lib.hid (PEE.out.keep hb)
    replace PD := Lib.hid (PD.out.keep hb)
    replace PS := Lib.hid (PS.out.keep hb)
    replace HB := Lib.hid (HB.out.trans (hb.mono HB.out.size))
    clear hb
    obtain ⟨g0, g1⟩ := HF.out w0 HB.out
    go_wp2_with fail
    refine (HAW.out w0).mono ?_
    rintro e w1 ⟨rfl, hb⟩
    replace PEE := Lib.hid (PEE.out.keep hb)
    replace PD := Lib.hid (PD.out.keep hb)
    replace PS := Lib.hid (PS.out.keep hb)
    replace HB := Lib.hid (HB.out.trans (hb.mono HB.out.size))
    clear hb
    clear g0 g1
    obtain ⟨g0, g1⟩ := HF.out w1 HB.out
    go_wp2
    go_ret
    exact ⟨rfl, HB0.out.trans (HB.out.mono HB0.out.size)⟩
  have hg : A.length ≤ 60 := by omega
  have i9 : ¬ (A.length : Int) > 60 := by omega
  have q1 := sml_out hS1
  have hn1 := q1.right.lo
  have hn2 := q1.right.hi
  obtain ⟨N, rfl⟩ : ∃ N : Nat, n = N := ⟨n.toNat, by omega⟩
  have hR := q1.right
  have hl := q1.few
  have bD := smD_bq q1 rfl
  have HPA : Hid (∀ p q B, B.length ≤ 60 → ∀ u, EsAt u a L → IsAt u b D → IsAt u p B → Calls Try.prog 33 #[gv N a L.length cap, .slice b D.length c, .slice p B.length q] u (fun e w' => ∃ p q, e = .returned (.tuple #[.slice p (plaR N L D B).1.length q, .int .i64 ((plaR N L D B).2.1 : Nat), .int .i64 ((plaR N L D B).2.2 : Nat)]) ∧ IsAt w' p (plaR N L D B).1 ∧ Below u.heap.size u w')) := Lib.hid fun p q B hB u h1 h2 h3 => pPlay_any N a cap L (by omega) b c D (by have := bD.len; omega) p q B (by omega) u h1 h2 h3
  by_cases hk : (plaR N L D A).2.2 ≠ 0
  · obtain ⟨X, i, k, hRR⟩ : ∃ X i k, plaR N L D A = (X, i, k) := ⟨_, _, _, rfl⟩
    rw [hRR] at hk
    have hk2 : k ≠ 0 := hk
    have q0 : (((k : Nat) : Int) != 0) = true := by rw [bne_iff_ne]; omega
    have HPL : Hid (∀ u, EsAt u a L → IsAt u b D → IsAt u sa A → Calls Try.prog 33 #[gv N a L.length cap, .slice b D.length c, .slice sa A.length sc] u (fun e w' => ∃ p q, e = .returned (.tuple #[.slice p X.length q, .int .i64 (i : Nat), .int .i64 (k : Nat)]) ∧ IsAt w' p X ∧ Below u.heap.size u w')) := Lib.hid fun u h1 h2 h3 => by
      have := HPA.out sa sc A hg u h1 h2 h3
      rw [hRR] at this
      exact this
    unfold gv at *
    clear q1 hn1 hn2 hR hl bD hS1 hg hk hk2 hRR HPA
    obtain ⟨W, hW⟩ : ∃ W, W = w.alloc (Obj.cells #[.int .i64 (N : Int), .slice a L.length cap] 24) := ⟨_, rfl⟩
    have hB0 : Below w.heap.size w W := by rw [hW]; exact (Below.refl _ w).alloc (Nat.le_refl _) _
    have hG : Blk W w.heap.size 24 #[.int .i64 (N : Int), .slice a L.length cap] := by rw [hW]; exact Blk.new _ _ _
    have HW := Lib.hid hW
    have HSW : Hid (W.heap.size = w.heap.size + 1) := Lib.hid (by rw [hW]; simp)
    have HB0 := Lib.hid hB0
    have HF : Hid (∀ u, Below W.heap.size W u → u.cell? ⟨w.heap.size, 0, none⟩ = some (.int .i64 (N : Int)) ∧ u.cell? ⟨w.heap.size, 1, none⟩ = some (.slice a L.length cap)) := Lib.hid fun u hu => ⟨(hG.below hu hG.lt).cell 0, (hG.below hu hG.lt).cell 1⟩
    have HB : Hid (Below W.heap.size W W) := Lib.hid (Below.refl _ _)
    have PEE := Lib.hid (h.keep hB0)
    have PD := Lib.hid (ho.keep hB0)
    have PS := Lib.hid (hs.keep hB0)
    clear hW hB0 hG h ho hs
    go_enter Try.func10, Try.ntmps10
    go_wp2_with fail
    rw [← HW.out]
    refine (HS1.out W PEE.out PD.out).mono ?_
    rintro e w0 ⟨rfl, hb⟩
    replace PEE := Lib.hid (PEE.out.keep hb)
    replace PD := Lib.hid (PD.out.keep hb)
    replace PS := Lib.hid (PS.out.keep hb)
    replace HB := Lib.hid (HB.out.trans (hb.mono HB.out.size))
    clear hb
    obtain ⟨g0, g1⟩ := HF.out w0 HB.out
    go_wp2_with fail
    refine (HPL.out w0 PEE.out PD.out PS.out).mono ?_
    rintro e w1 ⟨p1, q1, rfl, hpX, hb⟩
    replace PEE := Lib.hid (PEE.out.keep hb)
    replace PD := Lib.hid (PD.out.keep hb)
    replace PS := Lib.hid (PS.out.keep hb)
    replace HB := Lib.hid (HB.out.trans (hb.mono HB.out.size))
    clear hb
    have PX := Lib.hid hpX
    clear hpX
    clear g0 g1
    obtain ⟨g0, g1⟩ := HF.out w1 HB.out
    go_wp2_with fail
    refine (HAW.out w1).mono ?_
    rintro e w2 ⟨rfl, hb⟩
    replace PEE := Lib.hid (PEE.out.keep hb)
    replace PD := Lib.hid (PD.out.keep hb)
    replace PS := Lib.hid (PS.out.keep hb)
    replace PX := Lib.hid (PX.out.keep hb)
    replace HB := Lib.hid (HB.out.trans (hb.mono HB.out.size))
    clear hb
    clear g0 g1
    obtain ⟨g0, g1⟩ := HF.out w2 HB.out
    go_wp2
    go_ret
    exact ⟨rfl, HB0.out.trans (HB.out.mono HB0.out.size)⟩
  have hk0 : (plaR N L D A).2.2 = 0 := by omega
  have hm := pla_err hR bD hk0
  have hpl : plaR N L D A = (cD N L D A, A.length, 0) := by
    rcases pla_num hR hl bD hg hm with h1 | h1
    · omega
    · exact h1
  obtain ⟨hc1, hc2⟩ := cou_num hR hm
  have bC : Bq 60 N (cntL N A) := ⟨cntL_len _ _, fun v hv => by have := (cntL_bq N A).bd v hv; omega⟩
  have hcl : (cD N L D A).length = N := by unfold cD; rw [chD_len, bD.len]
  have HPL : Hid (∀ u, EsAt u a L → IsAt u b D → IsAt u sa A → Calls Try.prog 33 #[gv N a L.length cap, .slice b D.length c, .slice sa A.length sc] u (fun e w' => ∃ p q, e = .returned (.tuple #[.slice p (cD N L D A).length q, .int .i64 (A.length : Nat), .int .i64 0]) ∧ IsAt w' p (cD N L D A) ∧ Below u.heap.size u w')) := Lib.hid fun u h1 h2 h3 => by
    have := HPA.out sa sc A hg u h1 h2 h3
    rw [hpl] at this
    exact this
  have HCO : Hid (∀ u, EsAt u a L → IsAt u sa A → Calls Try.prog 35 #[gv N a L.length cap, .slice sa A.length sc] u (GivesIE u (cntL N A) 0)) := Lib.hid fun u h1 h2 => by
    have := pCount_any N a cap L (by omega) sa sc A (by omega) u h1 h2
    rwa [hc1, hc2] at this
  have HAP : Hid (∀ p q u, EsAt u a L → IsAt u b D → IsAt u p (cntL N A) → Calls Try.prog 20 #[gv N a L.length cap, .slice b D.length c, .slice p (cntL N A).length q] u (GivesIE u (cD N L D A) 0)) := Lib.hid fun p q u h1 h2 h3 => by
    have := pApply_any N a cap L (by omega) b c D (by have := bD.len; omega) p q (cntL N A) (by have := bC.len; omega) u h1 h2 h3
    obtain ⟨e1, e2⟩ := apply_num bD bC (by omega) (by omega) hR hl
    rw [e1, e2] at this
    exact this
  have HCL := Lib.hid (fun u h => cloneI_any sa sc A (by omega) u h)
  have HRV := Lib.hid (fun g q u h => revI_any g q A (by omega) u h)
  have HRN : Hid (A.length = 0 → ∀ p q u, Calls Try.prog 45 #[.slice p A.length q] u (fun e w' => e = .returned (.tuple #[]) ∧ u = w')) := Lib.hid fun h0 p q u => by rw [h0]; exact revI_nil p q u
  have HRE : Hid (A.length = 0 → A.reverse = []) := Lib.hid fun h0 => by rw [List.length_eq_zero_iff.1 h0]; rfl
  have LX : Hid ((cD N L D A).length ≤ 1000) := Lib.hid (by rw [hcl]; omega)
  have HL1 : Hid (1 ≤ D.length ∧ 1 ≤ (cD N L D A).length) := Lib.hid (by have := bD.len; omega)
  have HSM := Lib.hid same_true
  have hback := pla_num (A := A.reverse) hR hl bD (by rw [List.length_reverse]; exact hg) (by rw [movK_rev]; exact hm)
  rw [cD_rev, List.length_reverse] at hback
  obtain ⟨X9, i9x, k9, hRR⟩ : ∃ X i k, plaR N L D A.reverse = (X, i, k) := ⟨_, _, _, rfl⟩
  have HPB : Hid (∀ p q u, EsAt u a L → IsAt u b D → IsAt u p A.reverse → Calls Try.prog 33 #[gv N a L.length cap, .slice b D.length c, .slice p A.length q] u (fun e w' => ∃ p q, e = .returned (.tuple #[.slice p X9.length q, .int .i64 (i9x : Nat), .int .i64 (k9 : Nat)]) ∧ IsAt w' p X9 ∧ Below u.heap.size u w')) := Lib.hid fun p q u h1 h2 h3 => by
    have := HPA.out p q A.reverse (by rw [List.length_reverse]; exact hg) u h1 h2 h3
    rw [hRR, List.length_reverse] at this
    exact this
  have HK9 : Hid (k9 = 18 ∨ (k9 = 0 ∧ cD N L D A = X9)) := Lib.hid (by
    rw [hRR] at hback
    rcases hback with h1 | h1
    · left; exact h1
    · right
      injection h1 with h2 h3
      injection h3 with h4 h5
      exact ⟨h5, h2.symm⟩)
  unfold GivesIE gv at *
  clear q1 hn1 hn2 hR hl bD hS1 hg hk hk0 hm hpl hc1 hc2 bC hcl HPA hback hRR
  generalize cD N L D A = X at *
  generalize cntL N A = CN at *
  obtain ⟨W, hW⟩ : ∃ W, W = w.alloc (Obj.cells #[.int .i64 (N : Int), .slice a L.length cap] 24) := ⟨_, rfl⟩
  have hB0 : Below w.heap.size w W := by rw [hW]; exact (Below.refl _ w).alloc (Nat.le_refl _) _
  have hG : Blk W w.heap.size 24 #[.int .i64 (N : Int), .slice a L.length cap] := by rw [hW]; exact Blk.new _ _ _
  have HW := Lib.hid hW
  have HSW : Hid (W.heap.size = w.heap.size + 1) := Lib.hid (by rw [hW]; simp)
  have HB0 := Lib.hid hB0
  have HF : Hid (∀ u, Below W.heap.size W u → u.cell? ⟨w.heap.size, 0, none⟩ = some (.int .i64 (N : Int)) ∧ u.cell? ⟨w.heap.size, 1, none⟩ = some (.slice a L.length cap)) := Lib.hid fun u hu => ⟨(hG.below hu hG.lt).cell 0, (hG.below hu hG.lt).cell 1⟩
  have HB : Hid (Below W.heap.size W W) := Lib.hid (Below.refl _ _)
  have PEE := Lib.hid (h.keep hB0)
  have PD := Lib.hid (ho.keep hB0)
  have PS := Lib.hid (hs.keep hB0)
  clear hW hB0 hG h ho hs
  go_enter Try.func10, Try.ntmps10
  go_wp2_with fail
  rw [← HW.out]
  refine (HS1.out W PEE.out PD.out).mono ?_
  rintro e w0 ⟨rfl, hb⟩
  replace PEE := Lib.hid (PEE.out.keep hb)
  replace PD := Lib.hid (PD.out.keep hb)
  replace PS := Lib.hid (PS.out.keep hb)
  replace HB := Lib.hid (HB.out.trans (hb.mono HB.out.size))
  clear hb
  obtain ⟨g0, g1⟩ := HF.out w0 HB.out
  go_wp2_with fail
  refine (HPL.out w0 PEE.out PD.out PS.out).mono ?_
  rintro e w1 ⟨p1, q1, rfl, hpX, hb⟩
  replace PEE := Lib.hid (PEE.out.keep hb)
  replace PD := Lib.hid (PD.out.keep hb)
  replace PS := Lib.hid (PS.out.keep hb)
  replace HB := Lib.hid (HB.out.trans (hb.mono HB.out.size))
  clear hb
  have PX := Lib.hid hpX
  clear hpX
  clear g0 g1
  obtain ⟨g0, g1⟩ := HF.out w1 HB.out
  go_wp2_with fail
  refine (HCO.out w1 PEE.out PS.out).mono ?_
  rintro e w2 ⟨p2, q2, rfl, hpC, hb⟩
  replace PEE := Lib.hid (PEE.out.keep hb)
  replace PD := Lib.hid (PD.out.keep hb)
  replace PS := Lib.hid (PS.out.keep hb)
  replace PX := Lib.hid (PX.out.keep hb)
  replace HB := Lib.hid (HB.out.trans (hb.mono HB.out.size))
  clear hb
  have PC := Lib.hid hpC
  clear hpC
  clear g0 g1
  obtain ⟨g0, g1⟩ := HF.out w2 HB.out
  go_wp2_with fail
  refine (HAP.out _ _ w2 PEE.out PD.out PC.out).mono ?_
  rintro e w3 ⟨p3, q3, rfl, hpY, hb⟩
  clear PC
  replace PEE := Lib.hid (PEE.out.keep hb)
  replace PD := Lib.hid (PD.out.keep hb)
  replace PS := Lib.hid (PS.out.keep hb)
  replace PX := Lib.hid (PX.out.keep hb)
  replace HB := Lib.hid (HB.out.trans (hb.mono HB.out.size))
  clear hb
  have PY := Lib.hid hpY
  clear hpY
  clear g0 g1
  obtain ⟨g0, g1⟩ := HF.out w3 HB.out
  go_wp2_with fail
  refine (HSM.out w3 _ _ _ _ X LX.out PX.out PY.out).mono ?_
  rintro e w4 ⟨rfl, hb⟩
  clear PY
  replace PEE := Lib.hid (PEE.out.keep hb)
  replace PD := Lib.hid (PD.out.keep hb)
  replace PS := Lib.hid (PS.out.keep hb)
  replace PX := Lib.hid (PX.out.keep hb)
  replace HB := Lib.hid (HB.out.trans (hb.mono HB.out.size))
  clear hb
  clear g0 g1
  obtain ⟨g0, g1⟩ := HF.out w4 HB.out
  have HCUR : Hid (w4.heap.size = w4.heap.size) := Lib.hid rfl
  have HLE := Lib.hid (fun p (e : a = some p) (h0 : 0 < L.length) => (show p.block < w4.heap.size from by obtain ⟨b7, o7, e7, hlt7, _⟩ := PEE.out 0 h0; rw [e] at e7; injection e7 with e7; rw [e7]; exact hlt7))
  have HLD := Lib.hid (fun p (e : b = some p) => (show p.block < w4.heap.size from by have hh := PD.out; rw [e] at hh; exact IsAt.low hh HL1.out.1))
  have HLX := Lib.hid (fun p (e : p1 = some p) => (show p.block < w4.heap.size from by have hh := PX.out; rw [e] at hh; exact IsAt.low hh HL1.out.2))
  have HCB := Lib.hid HB.out.size
  go_wp2_with fail
  refine (HCL.out w4 PS.out).mono ?_
  rintro e w5 ⟨p7, q7, rfl, hpB, hcl, hb⟩
  clear PS
  replace PEE := Lib.hid (PEE.out.keep hb)
  replace PD := Lib.hid (PD.out.keep hb)
  replace PX := Lib.hid (PX.out.keep hb)
  replace HB := Lib.hid (HB.out.trans (hb.mono HB.out.size))
  clear hb
  have PB := Lib.hid hpB
  clear hpB
  clear g0 g1
  obtain ⟨g0, g1⟩ := HF.out w5 HB.out
  by_cases hA0 : A.length = 0
  · have PR : Hid (IsAt w5 p7 A.reverse) := Lib.hid (by rw [HRE.out hA0]; exact RowAt.nil _ _ _ _)
    clear PB hcl
    have HRN0 := Lib.hid (HRN.out hA0)
    clear hA0
    go_wp2_with fail
    refine (HRN0.out p7 q7 w5).mono ?_
    rintro e w9 ⟨rfl, rfl⟩
    rcases HK9.out with hk | hk
    · have HPB1 : Hid (∀ p q u, EsAt u a L → IsAt u b D → IsAt u p A.reverse → Calls Try.prog 33 #[.agg #[.int .i64 (N : Int), .slice a L.length cap], .slice b D.length c, .slice p A.length q] u (fun e w' => ∃ p q, e = .returned (.tuple #[.slice p X9.length q, .int .i64 (i9x : Nat), .int .i64 18]) ∧ IsAt w' p X9 ∧ Below u.heap.size u w')) := Lib.hid (by subst hk; exact HPB.out)
      clear hk HK9 HPB
      go_wp2_with fail
      refine (HPB1.out _ _ w5 PEE.out PD.out PR.out).mono ?_
      rintro e w6 ⟨p8, q8, rfl, hpZ, hb⟩
      clear PR
      clear PD
      clear PEE
      replace PX := Lib.hid (PX.out.keep hb)
      replace HB := Lib.hid (HB.out.trans (hb.mono HB.out.size))
      clear hb
      have PZ := Lib.hid hpZ
      clear hpZ
      clear g0 g1
      obtain ⟨g0, g1⟩ := HF.out w6 HB.out
      go_wp2_with fail
      refine (HAW.out w6).mono ?_
      rintro e w7 ⟨rfl, hb⟩
      replace PX := Lib.hid (PX.out.keep hb)
      replace PZ := Lib.hid (PZ.out.keep hb)
      replace HB := Lib.hid (HB.out.trans (hb.mono HB.out.size))
      clear hb
      clear g0 g1
      obtain ⟨g0, g1⟩ := HF.out w7 HB.out
      go_wp2
      go_ret
      exact ⟨rfl, HB0.out.trans (HB.out.mono HB0.out.size)⟩
    · obtain ⟨hk1, hk2⟩ := hk
      have HPB1 : Hid (∀ p q u, EsAt u a L → IsAt u b D → IsAt u p A.reverse → Calls Try.prog 33 #[.agg #[.int .i64 (N : Int), .slice a L.length cap], .slice b D.length c, .slice p A.length q] u (fun e w' => ∃ p q, e = .returned (.tuple #[.slice p X9.length q, .int .i64 (i9x : Nat), .int .i64 0]) ∧ IsAt w' p X9 ∧ Below u.heap.size u w')) := Lib.hid (by subst hk1; exact HPB.out)
      clear HK9 HPB
      clear hk1
      subst hk2
      go_wp2_with fail
      refine (HPB1.out _ _ w5 PEE.out PD.out PR.out).mono ?_
      rintro e w6 ⟨p8, q8, rfl, hpZ, hb⟩
      clear PR
      clear PD
      clear PEE
      replace PX := Lib.hid (PX.out.keep hb)
      replace HB := Lib.hid (HB.out.trans (hb.mono HB.out.size))
      clear hb
      have PZ := Lib.hid hpZ
      clear hpZ
      clear g0 g1
      obtain ⟨g0, g1⟩ := HF.out w6 HB.out
      go_wp2_with fail
      refine (HSM.out w6 _ _ _ _ X LX.out PZ.out PX.out).mono ?_
      rintro e w7 ⟨rfl, hb⟩
      clear PZ
      clear PX
      replace HB := Lib.hid (HB.out.trans (hb.mono HB.out.size))
      clear hb
      clear g0 g1
      obtain ⟨g0, g1⟩ := HF.out w7 HB.out
      go_wp2_with fail
      refine (HAW.out w7).mono ?_
      rintro e w8 ⟨rfl, hb⟩
      replace HB := Lib.hid (HB.out.trans (hb.mono HB.out.size))
      clear hb
      clear g0 g1
      obtain ⟨g0, g1⟩ := HF.out w8 HB.out
      go_wp2
      go_ret
      exact ⟨rfl, HB0.out.trans (HB.out.mono HB0.out.size)⟩
  · obtain ⟨g, rfl, hgg, hpb⟩ := hcl (by omega)
    have HGG := Lib.hid hgg
    have HPB2 := Lib.hid hpb
    clear hgg hpb hA0 hcl
    go_wp2_with fail
    refine (HRV.out g q7 w5 HPB2.out).mono ?_
    rintro e wv ⟨rfl, hpr, hgr⟩
    have PR := Lib.hid hpr.row
    have hne : ∀ x, x < w4.heap.size → some x ≠ some g := fun x hx e => by injection e with e; have := HGG.out; omega
    replace PEE := Lib.hid (EsAt.grown PEE.out hgr (fun p e h0 => hne _ (HLE.out p e h0)))
    replace PD := Lib.hid (IsAt.grown PD.out hgr (fun p e => hne _ (HLD.out p e)))
    replace PX := Lib.hid (IsAt.grown PX.out hgr (fun p e => hne _ (HLX.out p e)))
    replace HB := Lib.hid (below_grown HB.out hgr (Nat.le_trans HCB.out HGG.out) (Nat.le_refl _))
    clear hpr hgr hne PB
    clear g0 g1
    obtain ⟨g0, g1⟩ := HF.out wv HB.out
    rcases HK9.out with hk | hk
    · have HPB1 : Hid (∀ p q u, EsAt u a L → IsAt u b D → IsAt u p A.reverse → Calls Try.prog 33 #[.agg #[.int .i64 (N : Int), .slice a L.length cap], .slice b D.length c, .slice p A.length q] u (fun e w' => ∃ p q, e = .returned (.tuple #[.slice p X9.length q, .int .i64 (i9x : Nat), .int .i64 18]) ∧ IsAt w' p X9 ∧ Below u.heap.size u w')) := Lib.hid (by subst hk; exact HPB.out)
      clear hk HK9 HPB
      go_wp2_with fail
      refine (HPB1.out _ _ wv PEE.out PD.out PR.out).mono ?_
      rintro e w6 ⟨p8, q8, rfl, hpZ, hb⟩
      clear PR
      clear PD
      clear PEE
      replace PX := Lib.hid (PX.out.keep hb)
      replace HB := Lib.hid (HB.out.trans (hb.mono HB.out.size))
      clear hb
      have PZ := Lib.hid hpZ
      clear hpZ
      clear g0 g1
      obtain ⟨g0, g1⟩ := HF.out w6 HB.out
      go_wp2_with fail
      refine (HAW.out w6).mono ?_
      rintro e w7 ⟨rfl, hb⟩
      replace PX := Lib.hid (PX.out.keep hb)
      replace PZ := Lib.hid (PZ.out.keep hb)
      replace HB := Lib.hid (HB.out.trans (hb.mono HB.out.size))
      clear hb
      clear g0 g1
      obtain ⟨g0, g1⟩ := HF.out w7 HB.out
      go_wp2
      go_ret
      exact ⟨rfl, HB0.out.trans (HB.out.mono HB0.out.size)⟩
    · obtain ⟨hk1, hk2⟩ := hk
      have HPB1 : Hid (∀ p q u, EsAt u a L → IsAt u b D → IsAt u p A.reverse → Calls Try.prog 33 #[.agg #[.int .i64 (N : Int), .slice a L.length cap], .slice b D.length c, .slice p A.length q] u (fun e w' => ∃ p q, e = .returned (.tuple #[.slice p X9.length q, .int .i64 (i9x : Nat), .int .i64 0]) ∧ IsAt w' p X9 ∧ Below u.heap.size u w')) := Lib.hid (by subst hk1; exact HPB.out)
      clear HK9 HPB
      clear hk1
      subst hk2
      go_wp2_with fail
      refine (HPB1.out _ _ wv PEE.out PD.out PR.out).mono ?_
      rintro e w6 ⟨p8, q8, rfl, hpZ, hb⟩
      clear PR
      clear PD
      clear PEE
      replace PX := Lib.hid (PX.out.keep hb)
      replace HB := Lib.hid (HB.out.trans (hb.mono HB.out.size))
      clear hb
      have PZ := Lib.hid hpZ
      clear hpZ
      clear g0 g1
      obtain ⟨g0, g1⟩ := HF.out w6 HB.out
      go_wp2_with fail
      refine (HSM.out w6 _ _ _ _ X LX.out PZ.out PX.out).mono ?_
      rintro e w7 ⟨rfl, hb⟩
      clear PZ
      clear PX
      replace HB := Lib.hid (HB.out.trans (hb.mono HB.out.size))
      clear hb
      clear g0 g1
      obtain ⟨g0, g1⟩ := HF.out w7 HB.out
      go_wp2_with fail
      refine (HAW.out w7).mono ?_
      rintro e w8 ⟨rfl, hb⟩
      replace HB := Lib.hid (HB.out.trans (hb.mono HB.out.size))
      clear hb
      clear g0 g1
      obtain ⟨g0, g1⟩ := HF.out w8 HB.out
      go_wp2
      go_ret
      exact ⟨rfl, HB0.out.trans (HB.out.mono HB0.out.size)⟩
end Go.Proofs.Ytgejkgeojjgclaa
