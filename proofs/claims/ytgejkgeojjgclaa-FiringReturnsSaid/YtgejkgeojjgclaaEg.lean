/- The law Returns. -/
import Derived.Test.YtgejkgeojjgclaaEa
import Derived.Test.YtgejkgeojjgclaaSt
namespace Go.Proofs.Ytgejkgeojjgclaa
open Go.RowKit Go.Proofs.Gr Go.Proofs.Cp
attribute [local go_sem] Oper.semAt_some

set_option maxHeartbeats 12800000 in
set_option maxRecDepth 100000 in
theorem indexI_any (a : Option Addr) (c : Nat) (A : List Int) (hA : A.length ≤ 1000) (v : Int) (w : World) (h : IsAt w a A) :
    Calls Try.prog 76 #[.slice a A.length c, .int .i64 v] w (fun e w' => (∃ r : Int, e = .returned (.int .i64 r) ∧ A.contains v = decide (0 ≤ r)) ∧ Below w.heap.size w w') := by
  have HE := Lib.hid h
  have HT : Hid (∀ i, i < A.length → v = iAt A i → A.contains v = true) := Lib.hid fun i hi e => by rw [List.contains_iff_mem, e, ← iAt_get A i hi]; exact List.getElem_mem hi
  have HF : Hid ((∀ j, j < A.length → ¬ v = iAt A j) → A.contains v = false) := Lib.hid fun hz => by
    cases hc : A.contains v with
    | false => rfl
    | true =>
      rw [List.contains_iff_mem] at hc
      obtain ⟨j, hj, e⟩ := List.getElem_of_mem hc
      exact absurd (by rw [← iAt_get A j hj]; exact e.symm) (hz j hj)
  generalize A.contains v = R at *
  clear h
  go_enter Try.func76, Try.ntmps76
  go_wp2
  go_loopw [8] (fun x wr => ∃ i : Nat, i ≤ A.length ∧ x = .int .i64 i ∧ Hid (∀ j, j < i → ¬ v = iAt A j) ∧ Below w.heap.size w wr) (fun x _ => A.length - (intOf x).toNat)
  case atStart => exact ⟨0, by omega, rfl, Lib.hid fun j hj => by omega, Below.refl _ _⟩
  case round =>
    obtain ⟨i, hi, rfl, hz, hb⟩ := hrel
    have HB := Lib.hid hb
    by_cases hlt : i < A.length
    · have i1 : (i : Int) < (A.length : Int) := by omega
      have i2 : (0 : Int) ≤ (i : Int) := by omega
      have HLT := Lib.hid hlt
      obtain ⟨b1, o1, hb1, q1, x1⟩ := (HE.out.keep hb).one i hlt
      subst hb1
      have HTI := Lib.hid (HT.out i hlt)
      have HZN : Hid (¬ v = iAt A i → Hid (∀ j, j < i + 1 → ¬ v = iAt A j)) := Lib.hid fun h0 => Lib.hid fun j hj => by
        by_cases e : j = i
        · subst e; exact h0
        · exact hz.out j (by omega)
      generalize iAt A i = z at *
      clear hz hb hlt q1
      by_cases e : v = z
      · have d1 : (v == z) = true := by rw [beq_iff_eq]; exact e
        have HR := Lib.hid (HTI.out e)
        clear e
        go_wp2
        go_ret
        exact ⟨⟨i, rfl, by rw [HR.out, decide_eq_true (by omega)]⟩, HB.out⟩
      · have d1 : (v == z) = false := by rw [beq_eq_false_iff_ne]; exact e
        have HR := Lib.hid (HZN.out e)
        clear e
        go_wp2
        go_roundw
        case rel => exact ⟨i + 1, by have := HLT.out; omega, by go_num, HR.out, HB.out⟩
        case measure => have := HLT.out; simp [intOf]; omega
    · obtain rfl : i = A.length := by omega
      have i1 : ¬ (A.length : Int) < (A.length : Int) := by omega
      have HR := Lib.hid (HF.out hz.out)
      clear hb hz
      go_wp2
      go_ret
      exact ⟨⟨-1, rfl, by rw [HR.out]; rfl⟩, HB.out⟩
set_option maxHeartbeats 12800000 in
set_option maxRecDepth 100000 in
theorem containsI_any (a : Option Addr) (c : Nat) (A : List Int) (hA : A.length ≤ 1000) (v : Int) (w : World) (h : IsAt w a A) :
    Calls Try.prog 47 #[.slice a A.length c, .int .i64 v] w (fun e w' => e = .returned (.bool (A.contains v)) ∧ Below w.heap.size w w') := by
  have HI := Lib.hid (indexI_any a c A hA v w h)
  generalize A.contains v = R at *
  clear h
  go_enter Try.func47, Try.ntmps47
  go_wp2_with fail
  refine HI.out.mono ?_
  rintro e w1 ⟨⟨r, rfl, hr⟩, hb⟩
  have HB := Lib.hid hb
  have HR := Lib.hid hr
  clear hb hr
  go_wp2
  go_ret
  exact ⟨by rw [HR.out]; rfl, HB.out⟩
set_option maxHeartbeats 12800000 in
set_option maxRecDepth 100000 in
theorem returns_any (n : Int) (a : Option Addr) (cap : Nat) (L : List E) (b : Option Addr) (c : Nat) (D : List Int) (sa : Option Addr) (sc : Nat) (A : List Int) (w : World) (h : EsAt w a L) (ho : IsAt w b D) (hs : IsAt w sa A) :
    Calls Try.prog 11 #[gv n a L.length cap, .slice b D.length c, .slice sa A.length sc] w (fun e w' => e = .returned (.bool true) ∧ Below w.heap.size w w') := by
  have HAW := Lib.hid (fun w => awake_any w)
  by_cases hS1 : smlD n L D = false
  · have HS1 : Hid (∀ u, EsAt u a L → IsAt u b D → Calls Try.prog 42 #[gv n a L.length cap, .slice b D.length c] u (fun e w' => e = .returned (.bool false) ∧ Below u.heap.size u w')) := Lib.hid fun u h1 h2 => by
      have := small18_any n a cap L b c D u h1 h2
      rwa [hS1] at this
    unfold gv at *
    clear hS1
    obtain ⟨W, hW⟩ : ∃ W, W = w.alloc (Obj.cells #[.int .i64 n, .slice a L.length cap] 24) := ⟨_, rfl⟩
    have hB0 : Below w.heap.size w W := by rw [hW]; exact (Below.refl _ w).alloc (Nat.le_refl _) _
    have hG : Blk W w.heap.size 24 #[.int .i64 n, .slice a L.length cap] := by rw [hW]; exact Blk.new _ _ _
    have HW := Lib.hid hW
    have HSW : Hid (W.heap.size = w.heap.size + 1) := Lib.hid (by rw [hW]; simp)
    have HB0 := Lib.hid hB0
    have HF : Hid (∀ u, Below W.heap.size W u → u.cell? ⟨w.heap.size, 0, none⟩ = some (.int .i64 n) ∧ u.cell? ⟨w.heap.size, 1, none⟩ = some (.slice a L.length cap)) := Lib.hid fun u hu => ⟨(hG.below hu hG.lt).cell 0, (hG.below hu hG.lt).cell 1⟩
    have HB : Hid (Below W.heap.size W W) := Lib.hid (Below.refl _ _)
    have PEE := Lib.hid (h.keep hB0)
    have PD := Lib.hid (ho.keep hB0)
    have PS := Lib.hid (hs.keep hB0)
    clear hW hB0 hG h ho hs
    go_enter Try.func11, Try.ntmps11
    go_wp2_with fail
    rw [← HW.out]
    refine (HS1.out W PEE.out PD.out).mono ?_
    rintro e w0 ⟨rfl, hb⟩
    replace PEE := Lib.hid (PEE.out.keep hb)
    replace PD := Lib.hid (PD.out.keep hb)
    replace PS := Lib.hid (PS.out.keep hb)
    replace HB := Lib.hid (HB.out.trans (hb.mono HB.out.size))
    clear hb
    obtain ⟨g0, g1⟩ := HF.out w0 HB.out
    go_wp2_with fail
    refine (HAW.out w0).mono ?_
    rintro e w1 ⟨rfl, hb⟩
    replace PEE := Lib.hid (PEE.out.keep hb)
    replace PD := Lib.hid (PD.out.keep hb)
    replace PS := Lib.hid (PS.out.keep hb)
    replace HB := Lib.hid (HB.out.trans (hb.mono HB.out.size))
    clear hb
    clear g0 g1
    obtain ⟨g0, g1⟩ := HF.out w1 HB.out
    go_wp2
    go_ret
    exact ⟨rfl, HB0.out.trans (HB.out.mono HB0.out.size)⟩
  have hS1 : smlD n L D = true := by cases hh : smlD n L D with | true => rfl | false => exact absurd hh hS1
  have HS1 : Hid (∀ u, EsAt u a L → IsAt u b D → Calls Try.prog 42 #[gv n a L.length cap, .slice b D.length c] u (fun e w' => e = .returned (.bool true) ∧ Below u.heap.size u w')) := Lib.hid fun u h1 h2 => by
    have := small18_any n a cap L b c D u h1 h2
    rwa [hS1] at this
  by_cases hg : 20 < A.length
  · have i9 : (A.length : Int) > 20 := by omega
    unfold gv at *
    clear hS1 hg
    obtain ⟨W, hW⟩ : ∃ W, W = w.alloc (Obj.cells #[.int .i64 n, .slice a L.length cap] 24) := ⟨_, rfl⟩
    have hB0 : Below w.heap.size w W := by rw [hW]; exact (Below.refl _ w).alloc (Nat.le_refl _) _
    have hG : Blk W w.heap.size 24 #[.int .i64 n, .slice a L.length cap] := by rw [hW]; exact Blk.new _ _ _
    have HW := Lib.hid hW
    have HSW : Hid (W.heap.size = w.heap.size + 1) := Lib.hid (by rw [hW]; simp)
    have HB0 := Lib.hid hB0
    have HF : Hid (∀ u, Below W.heap.size W u → u.cell? ⟨w.heap.size, 0, none⟩ = some (.int .i64 n) ∧ u.cell? ⟨w.heap.size, 1, none⟩ = some (.slice a L.length cap)) := Lib.hid fun u hu => ⟨(hG.below hu hG.lt).cell 0, (hG.below hu hG.lt).cell 1⟩
    have HB : Hid (Below W.heap.size W W) := Lib.hid (Below.refl _ _)
    have PEE := Lib.hid (h.keep hB0)
    have PD := Lib.hid (ho.keep hB0)
    have PS := Lib.hid (hs.keep hB0)
    clear hW hB0 hG h ho hs
    go_enter Try.func11, Try.ntmps11
    go_wp2_with fail
    rw [← HW.out]
    refine (HS1.out W PEE.out PD.out).mono ?_
    rintro e w0 ⟨rfl, hb⟩
    replace PEE := Lib.hid (PEE.out.keep hb)
    replace PD := Lib.hid (PD.out.keep hb)
    replace PS := Lib.hid (PS.out.keep hb)
    replace HB := Lib.hid (HB.out.trans (hb.mono HB.out.size))
    clear hb
    obtain ⟨g0, g1⟩ := HF.out w0 HB.out
    go_wp2_with fail
    refine (HAW.out w0).mono ?_
    rintro e w1 ⟨rfl, hb⟩
    replace PEE := Lib.hid (PEE.out.keep hb)
    replace PD := Lib.hid (PD.out.keep hb)
    replace PS := Lib.hid (PS.out.keep hb)
    replace HB := Lib.hid (HB.out.trans (hb.mono HB.out.size))
    clear hb
    clear g0 g1
    obtain ⟨g0, g1⟩ := HF.out w1 HB.out
    go_wp2
    go_ret
    exact ⟨rfl, HB0.out.trans (HB.out.mono HB0.out.size)⟩
  have hg : A.length ≤ 20 := by omega
  have i9 : ¬ (A.length : Int) > 20 := by omega
  have HSU := Lib.hid (fun u h hs => rsubset_any n a cap L sa sc A (by omega) u h hs)
  by_cases hk : subE n A ≠ 0
  · have q0 : (((subE n A : Nat) : Int) != 0) = true := by rw [bne_iff_ne]; omega
    unfold GivesN gv at *
    clear hS1 hg hk
    generalize subE n A = k at *
    obtain ⟨W, hW⟩ : ∃ W, W = w.alloc (Obj.cells #[.int .i64 n, .slice a L.length cap] 24) := ⟨_, rfl⟩
    have hB0 : Below w.heap.size w W := by rw [hW]; exact (Below.refl _ w).alloc (Nat.le_refl _) _
    have hG : Blk W w.heap.size 24 #[.int .i64 n, .slice a L.length cap] := by rw [hW]; exact Blk.new _ _ _
    have HW := Lib.hid hW
    have HSW : Hid (W.heap.size = w.heap.size + 1) := Lib.hid (by rw [hW]; simp)
    have HB0 := Lib.hid hB0
    have HF : Hid (∀ u, Below W.heap.size W u → u.cell? ⟨w.heap.size, 0, none⟩ = some (.int .i64 n) ∧ u.cell? ⟨w.heap.size, 1, none⟩ = some (.slice a L.length cap)) := Lib.hid fun u hu => ⟨(hG.below hu hG.lt).cell 0, (hG.below hu hG.lt).cell 1⟩
    have HB : Hid (Below W.heap.size W W) := Lib.hid (Below.refl _ _)
    have PEE := Lib.hid (h.keep hB0)
    have PD := Lib.hid (ho.keep hB0)
    have PS := Lib.hid (hs.keep hB0)
    clear hW hB0 hG h ho hs
    go_enter Try.func11, Try.ntmps11
    go_wp2_with fail
    rw [← HW.out]
    refine (HS1.out W PEE.out PD.out).mono ?_
    rintro e w0 ⟨rfl, hb⟩
    replace PEE := Lib.hid (PEE.out.keep hb)
    replace PD := Lib.hid (PD.out.keep hb)
    replace PS := Lib.hid (PS.out.keep hb)
    replace HB := Lib.hid (HB.out.trans (hb.mono HB.out.size))
    clear hb
    obtain ⟨g0, g1⟩ := HF.out w0 HB.out
    go_wp2_with fail
    refine (HSU.out w0 PEE.out PS.out).mono ?_
    rintro e w1 ⟨rfl, hb⟩
    replace PEE := Lib.hid (PEE.out.keep hb)
    replace PD := Lib.hid (PD.out.keep hb)
    replace PS := Lib.hid (PS.out.keep hb)
    replace HB := Lib.hid (HB.out.trans (hb.mono HB.out.size))
    clear hb
    clear g0 g1
    obtain ⟨g0, g1⟩ := HF.out w1 HB.out
    go_wp2_with fail
    refine (HAW.out w1).mono ?_
    rintro e w2 ⟨rfl, hb⟩
    replace PEE := Lib.hid (PEE.out.keep hb)
    replace PD := Lib.hid (PD.out.keep hb)
    replace PS := Lib.hid (PS.out.keep hb)
    replace HB := Lib.hid (HB.out.trans (hb.mono HB.out.size))
    clear hb
    clear g0 g1
    obtain ⟨g0, g1⟩ := HF.out w2 HB.out
    go_wp2
    go_ret
    exact ⟨rfl, HB0.out.trans (HB.out.mono HB0.out.size)⟩
  have hA : subE n A = 0 := by omega
  rw [hA] at HSU
  have q1 := sml_out hS1
  have hn1 := q1.right.lo
  have hn2 := q1.right.hi
  obtain ⟨N, rfl⟩ : ∃ N : Nat, n = N := ⟨n.toNat, by omega⟩
  have hR := q1.right
  have hl := q1.few
  have bD := smD_bq q1 rfl
  have hr := sub_rng hA
  have HF1 : Hid (∀ i, i < A.length → ∀ u, EsAt u a L → IsAt u b D → Calls Try.prog 22 #[gv N a L.length cap, .slice b D.length c, .int .i64 (iAt A i)] u (GivesIE u (chD D (setS N 1 [iAt A i]) L) 0)) := Lib.hid fun i hi u h1 h2 => by
    have := pFire_any N a cap L (by omega) b c D (by have := bD.len; omega) (iAt A i) u h1 h2
    obtain ⟨e1, e2, -⟩ := fire_num (t := 1) (by omega) bD (by omega) hR hl (sub_one (hr i hi))
    rwa [e1, e2] at this
  have HF2 : Hid (∀ i, i < A.length → ∀ p q u, EsAt u a L → IsAt u p (chD D (setS N 1 [iAt A i]) L) → Calls Try.prog 24 #[gv N a L.length cap, .slice p (chD D (setS N 1 [iAt A i]) L).length q, .int .i64 (iAt A i)] u (GivesIE u D 0)) := Lib.hid fun i hi p q u h1 h2 => by
    have bF := bD.ch (setS_bq 1 (by omega) [iAt A i]) (by omega) hR hl
    have := pBorrow_any N a cap L (by omega) p q (chD D (setS N 1 [iAt A i]) L) (by have := bF.len; omega) (iAt A i) u h1 h2
    obtain ⟨e1, e2, -⟩ := fire_num (t := -1) (by omega) bF (by omega) hR hl (sub_one (hr i hi))
    rwa [e1, e2, one_back bD.len hR (hr i hi)] at this
  have bS := bD.ch (setS_bq 1 (by omega) A) (by omega) hR hl
  have HF3 : Hid (∀ u, EsAt u a L → IsAt u b D → IsAt u sa A → Calls Try.prog 26 #[gv N a L.length cap, .slice b D.length c, .slice sa A.length sc] u (fun e w' => ∃ p q, e = .returned (.tuple #[.slice p N q, .int .i64 0]) ∧ IsAt w' p (chD D (setS N 1 A) L) ∧ Below u.heap.size u w')) := Lib.hid fun u h1 h2 h3 => by
    have := pFireSet_any N a cap L (by omega) b c D (by have := bD.len; omega) sa sc A (by omega) u h1 h2 h3
    obtain ⟨e1, e2, -⟩ := fire_num (t := 1) (by omega) bD (by omega) hR hl hA
    rw [e1, e2] at this
    unfold GivesIE at this
    rw [bS.len] at this
    exact this
  have HF4 : Hid (∀ p q p2 q2 u, EsAt u a L → IsAt u p (chD D (setS N 1 A) L) → IsAt u p2 (otT A N) → Calls Try.prog 26 #[gv N a L.length cap, .slice p N q, .slice p2 (otT A N).length q2] u (GivesIE u D 0)) := Lib.hid fun p q p2 q2 u h1 h2 h3 => by
    have := pFireSet_any N a cap L (by omega) p q (chD D (setS N 1 A) L) (by have := bS.len; omega) p2 q2 (otT A N) (by have := otT_len A N; omega) u h1 h2 h3
    obtain ⟨e1, e2, -⟩ := fire_num (t := 1) (by omega) bS (by omega) hR hl (otT_sub A N)
    rw [e1, e2, set_back bD.len hR hA, bS.len] at this
    exact this
  have HF5 : Hid (∀ u, EsAt u a L → IsAt u b D → IsAt u sa A → Calls Try.prog 30 #[gv N a L.length cap, .slice b D.length c, .slice sa A.length sc] u (fun e w' => e = .returned (.tuple #[.bool (legB L D A), .int .i64 0]) ∧ Below u.heap.size u w')) := Lib.hid fun u h1 h2 h3 => by
    have := pLegalSet_any N a cap L (by omega) b c D (by have := bD.len; omega) sa sc A (by omega) u h1 h2 h3
    obtain ⟨-, -, e3⟩ := fire_num (t := 1) (by omega) bD (by omega) hR hl hA
    have e4 : legV N L D A = legB L D A := by unfold legV; rw [if_pos e3]
    rw [e3, e4] at this
    exact this
  have HLEG : Hid (legB L D A = true → ∀ i, i < A.length → 0 ≤ iAt (chD D (setS N 1 A) L) (iAt A i).toNat) := Lib.hid fun h i hi => leg_left bD.len hR hA h i hi
  have HSL : Hid ((chD D (setS N 1 A) L).length = N) := Lib.hid bS.len
  have HRG := Lib.hid hr
  have LD : Hid (D.length ≤ 1000) := Lib.hid (by have := bD.len; omega)
  have HSM := Lib.hid same_true
  have HCT := Lib.hid (fun v u h => containsI_any sa sc A (by omega) v u h)
  have HO0 : Hid (otT A 0 = []) := Lib.hid rfl
  have HOS : Hid (∀ k : Nat, otT A (k + 1) = otT A k ++ (if A.contains (k : Int) = true then [] else [(k : Int)])) := Lib.hid fun _ => rfl
  have HOL := Lib.hid (fun k => otT_len A k)
  have HNN : Hid (N ≤ 12) := Lib.hid (by omega)
  have hg0 := hg
  obtain ⟨j0, hj0, hy0, hy1, hy2⟩ := info_parts infoI
  clear q1 hn1 hn2 hR hl bD hr bS hS1 hk hA
  unfold GivesIE GivesN gv at *
  generalize chD D (setS N 1 A) L = SD at *
  generalize legB L D A = lb at *
  generalize hfd : (fun i => chD D (setS N 1 [iAt A i]) L) = FD at *
  have HFD : Hid (∀ i, chD D (setS N 1 [iAt A i]) L = FD i) := Lib.hid fun i => by rw [← hfd]
  simp only [HFD.out] at HF1 HF2
  clear hfd HFD
  generalize otT A = OT at *
  clear hg
  obtain ⟨W, hW⟩ : ∃ W, W = w.alloc (Obj.cells #[.int .i64 (N : Int), .slice a L.length cap] 24) := ⟨_, rfl⟩
  have hB0 : Below w.heap.size w W := by rw [hW]; exact (Below.refl _ w).alloc (Nat.le_refl _) _
  have hG : Blk W w.heap.size 24 #[.int .i64 (N : Int), .slice a L.length cap] := by rw [hW]; exact Blk.new _ _ _
  have HW := Lib.hid hW
  have HSW : Hid (W.heap.size = w.heap.size + 1) := Lib.hid (by rw [hW]; simp)
  have HB0 := Lib.hid hB0
  have HF : Hid (∀ u, Below W.heap.size W u → u.cell? ⟨w.heap.size, 0, none⟩ = some (.int .i64 (N : Int)) ∧ u.cell? ⟨w.heap.size, 1, none⟩ = some (.slice a L.length cap)) := Lib.hid fun u hu => ⟨(hG.below hu hG.lt).cell 0, (hG.below hu hG.lt).cell 1⟩
  have HB : Hid (Below W.heap.size W W) := Lib.hid (Below.refl _ _)
  have PEE := Lib.hid (h.keep hB0)
  have PD := Lib.hid (ho.keep hB0)
  have PS := Lib.hid (hs.keep hB0)
  clear hW hB0 hG h ho hs
  go_enter Try.func11, Try.ntmps11
  go_wp2_with fail
  rw [← HW.out]
  refine (HS1.out W PEE.out PD.out).mono ?_
  rintro e w0 ⟨rfl, hb⟩
  replace PEE := Lib.hid (PEE.out.keep hb)
  replace PD := Lib.hid (PD.out.keep hb)
  replace PS := Lib.hid (PS.out.keep hb)
  replace HB := Lib.hid (HB.out.trans (hb.mono HB.out.size))
  clear hb
  obtain ⟨g0, g1⟩ := HF.out w0 HB.out
  go_wp2_with fail
  refine (HSU.out w0 PEE.out PS.out).mono ?_
  rintro e w1 ⟨rfl, hb⟩
  replace PEE := Lib.hid (PEE.out.keep hb)
  replace PD := Lib.hid (PD.out.keep hb)
  replace PS := Lib.hid (PS.out.keep hb)
  replace HB := Lib.hid (HB.out.trans (hb.mono HB.out.size))
  clear hb
  clear g0 g1
  obtain ⟨g0, g1⟩ := HF.out w1 HB.out
  go_wp2
  clear g0 g1
  go_loopw [41] (fun x wr => ∃ i : Nat, i ≤ A.length ∧ x = .int .i64 i ∧ Below w1.heap.size w1 wr) (fun x _ => A.length - (intOf x).toNat)
  case atStart => exact ⟨0, by omega, rfl, Below.refl _ _⟩
  case round =>
    obtain ⟨i, hi, rfl, hb⟩ := hrel
    have HBI := Lib.hid hb
    have HBW := Lib.hid (HB.out.trans (hb.mono HB.out.size))
    obtain ⟨g0, g1⟩ := HF.out wr HBW.out
    by_cases hlt : i < A.length
    · have i1 : (i : Int) < (A.length : Int) := by omega
      have i2 : (0 : Int) ≤ (i : Int) := by omega
      have HLT := Lib.hid hlt
      obtain ⟨b1, o1, hb1, q1, x1⟩ := (PS.out.keep hb).one i hlt
      subst hb1
      have HA1 := Lib.hid (HF1.out i hlt)
      have HA2 := Lib.hid (HF2.out i hlt)
      generalize FD i = Y at *
      generalize iAt A i = v at *
      have PEI := Lib.hid (PEE.out.keep hb)
      have PDI := Lib.hid (PD.out.keep hb)
      clear hb hlt q1
      go_wp2_with fail
      refine (HA1.out wr PEI.out PDI.out).mono ?_
      rintro e y1 ⟨p1, q1, rfl, hr1, hb1⟩
      have HR1 := Lib.hid hr1
      have HC1 := Lib.hid hb1
      clear hr1 hb1 g0 g1 x1
      obtain ⟨g0, g1⟩ := HF.out y1 (HBW.out.trans (HC1.out.mono HBW.out.size))
      go_wp2_with fail
      refine (HA2.out p1 q1 y1 (PEI.out.keep HC1.out) HR1.out).mono ?_
      rintro e y2 ⟨p2, q2, rfl, hr2, hb2⟩
      have HR2 := Lib.hid hr2
      have HC2 := Lib.hid (HC1.out.trans (hb2.mono HC1.out.size))
      clear hr2 hb2 g0 g1
      go_wp2_with fail
      refine (HSM.out y2 _ _ _ _ D LD.out HR2.out (PDI.out.keep HC2.out)).mono ?_
      rintro e y3 ⟨rfl, hb3⟩
      have HC3 := Lib.hid (HC2.out.trans (hb3.mono HC2.out.size))
      clear hb3
      go_wp2
      go_roundw
      case rel => exact ⟨i + 1, by have := HLT.out; omega, by go_num, HBI.out.trans (HC3.out.mono HBI.out.size)⟩
      case measure => have := HLT.out; simp [intOf]; omega
    · obtain rfl : i = A.length := by omega
      have i1 : ¬ (A.length : Int) < (A.length : Int) := by omega
      replace PEE := Lib.hid (PEE.out.keep hb)
      replace PD := Lib.hid (PD.out.keep hb)
      replace PS := Lib.hid (PS.out.keep hb)
      replace HB := Lib.hid (HB.out.trans (hb.mono HB.out.size))
      obtain ⟨V1, hV1⟩ : ∃ V, V = wr := ⟨_, rfl⟩
      rw [← hV1]
      rw [← hV1] at PEE PD PS HB
      have HG : Hid (V1.cell? ⟨w.heap.size, 0, none⟩ = some (.int .i64 (N : Int)) ∧ V1.cell? ⟨w.heap.size, 1, none⟩ = some (.slice a L.length cap)) := Lib.hid (HF.out V1 HB.out)
      clear hb HBI HBW g0 g1 hV1
      obtain ⟨g0, g1⟩ := HG.out
      go_wp2
      clear g0 g1
      go_loopw [13, 72] (fun s x wr => ∃ k : Nat, k ≤ N ∧ x = .int .i64 k ∧ wr.ownsRow V1.heap.size 3 1 s (OT k).length (flat encI (OT k)) ∧ Below V1.heap.size V1 wr) (fun _ x _ => N - (intOf x).toNat)
      case atStart => exact ⟨0, by omega, rfl, by rw [HO0.out]; exact World.ownsRow_nil _ _ _ _, Below.refl _ _⟩
      case round =>
        obtain ⟨k, hk, rfl, hown, hb⟩ := hrel
        have HOW := Lib.hid hown
        have HBR := Lib.hid hb
        have HBS := Lib.hid hb.size
        by_cases hlt : k < N
        · have i3 : (k : Int) < (N : Int) := by omega
          have i4 : (0 : Int) ≤ (k : Int) := by omega
          have hnn := HNN.out
          have HLT := Lib.hid hlt
          have hos := HOS.out k
          have hol := HOL.out k
          have HCK := Lib.hid (HCT.out (k : Int) wr (PS.out.keep hb))
          generalize OT k = PP at *
          cases hc : A.contains (k : Int) with
          | true =>
            rw [hc] at HCK
            rw [if_pos hc, List.append_nil] at hos
            have HSn := Lib.hid hos
            clear hos hown hb hc
            go_wp2_with fail
            refine HCK.out.mono ?_
            rintro e y1 ⟨rfl, hb1⟩
            have HC1 := Lib.hid (HBR.out.trans (hb1.mono HBR.out.size))
            have HO1 := Lib.hid (own_keep HOW.out hb1)
            clear hb1
            go_wp2
            go_roundw
            case rel => exact ⟨k + 1, by have := HLT.out; omega, by go_num, by rw [HSn.out]; exact HO1.out, HC1.out⟩
            case measure => have := HLT.out; simp [intOf]; omega
          | false =>
            rw [hc] at HCK
            rw [if_neg (by rw [hc]; decide)] at hos
            have HSn := Lib.hid hos
            clear hos hown hb hc
            go_wp2_with fail
            refine HCK.out.mono ?_
            rintro e y1 ⟨rfl, hb1⟩
            have HC1 := Lib.hid (HBR.out.trans (hb1.mono HBR.out.size))
            have HO1 := Lib.hid (own_keep HOW.out hb1)
            have HZS := Lib.hid HC1.out.size
            clear hb1
            go_wp2_with (at_builtin; refine wpList_append_own _ rfl _ _ 25 rfl V1.heap.size 3 j0 (.int .i64 0) 1 8 Try.underlying25 hj0 hy0 hy1 hy2 rfl (by decide) _ _ _ rfl (HO1.out.alloc _) ⟨y1.heap.size, 0, none⟩ 1 1 [.int .i64 (k : Int)] rfl rfl (lit_row _ _ _) (by simp [Value.oneCell']) (by unfold maxLen; omega) (by omega) (by rw [World.size_alloc]; have := HZS.out; omega) ?_; intro v1 w5 hown1 hgrow1 hnil; clear hnil; have HO3 : Hid (w5.ownsRow V1.heap.size 3 1 v1 (PP ++ [(k : Int)]).length (flat encI (PP ++ [(k : Int)]))) := Lib.hid (by rw [List.length_append, flatI_snoc]; exact hown1); have HB5 : Hid (Below V1.heap.size V1 w5) := Lib.hid (below_push (w := V1) HC1.out (fun k hk => (HO1.out.lt k hk).1) hgrow1); clear hown1 hgrow1)
            go_roundw
            case rel => exact ⟨k + 1, by have := HLT.out; omega, by go_num, by rw [HSn.out]; exact HO3.out, HB5.out⟩
            case measure => have := HLT.out; simp [intOf]; omega
        · obtain rfl : k = N := by omega
          have i3 : ¬ (k : Int) < (k : Int) := by omega
          obtain ⟨po, co, hvo, hro⟩ := RowAt.of_own encI_len hown
          have PO := Lib.hid hro
          subst hvo
          replace PEE := Lib.hid (PEE.out.keep hb)
          replace PD := Lib.hid (PD.out.keep hb)
          replace PS := Lib.hid (PS.out.keep hb)
          replace HB := Lib.hid (HB.out.trans (hb.mono HB.out.size))
          have HSD2 := Lib.hid HSL.out
          clear hb hown hro
          obtain ⟨g0, g1⟩ := HF.out wr HB.out
          go_wp2_with fail
          refine (HF3.out wr PEE.out PD.out PS.out).mono ?_
          rintro e w50 ⟨p3, q3, rfl, hpA, hb⟩
          replace PEE := Lib.hid (PEE.out.keep hb)
          replace PD := Lib.hid (PD.out.keep hb)
          replace PS := Lib.hid (PS.out.keep hb)
          replace PO := Lib.hid (PO.out.keep hb)
          replace HB := Lib.hid (HB.out.trans (hb.mono HB.out.size))
          clear hb
          have PA := Lib.hid hpA
          clear hpA
          clear g0 g1
          obtain ⟨g0, g1⟩ := HF.out w50 HB.out
          go_wp2_with fail
          refine (HF4.out _ _ _ _ w50 PEE.out PA.out PO.out).mono ?_
          rintro e w51 ⟨p4, q4, rfl, hpB, hb⟩
          clear PO
          replace PEE := Lib.hid (PEE.out.keep hb)
          replace PD := Lib.hid (PD.out.keep hb)
          replace PS := Lib.hid (PS.out.keep hb)
          replace PA := Lib.hid (PA.out.keep hb)
          replace HB := Lib.hid (HB.out.trans (hb.mono HB.out.size))
          clear hb
          have PB := Lib.hid hpB
          clear hpB
          clear g0 g1
          obtain ⟨g0, g1⟩ := HF.out w51 HB.out
          go_wp2_with fail
          refine (HF5.out w51 PEE.out PD.out PS.out).mono ?_
          rintro e w52 ⟨rfl, hb⟩
          replace PEE := Lib.hid (PEE.out.keep hb)
          replace PD := Lib.hid (PD.out.keep hb)
          replace PS := Lib.hid (PS.out.keep hb)
          replace PA := Lib.hid (PA.out.keep hb)
          replace PB := Lib.hid (PB.out.keep hb)
          replace HB := Lib.hid (HB.out.trans (hb.mono HB.out.size))
          clear hb
          clear g0 g1
          obtain ⟨g0, g1⟩ := HF.out w52 HB.out
          go_wp2_with fail
          refine (HSM.out w52 _ _ _ _ D LD.out PB.out PD.out).mono ?_
          rintro e w53 ⟨rfl, hb⟩
          clear PB
          clear PEE
          clear PD
          replace PS := Lib.hid (PS.out.keep hb)
          replace PA := Lib.hid (PA.out.keep hb)
          replace HB := Lib.hid (HB.out.trans (hb.mono HB.out.size))
          clear hb
          clear g0 g1
          obtain ⟨g0, g1⟩ := HF.out w53 HB.out
          go_wp2
          clear g0 g1
          go_loopw [126] (fun x wr => ∃ i : Nat, i ≤ A.length ∧ x = .int .i64 i ∧ Below w53.heap.size w53 wr) (fun x _ => A.length - (intOf x).toNat)
          case atStart => exact ⟨0, by omega, rfl, Below.refl _ _⟩
          case round =>
            obtain ⟨i, hi, rfl, hb⟩ := hrel
            have HBI := Lib.hid hb
            by_cases hlt : i < A.length
            · have i1 : (i : Int) < (A.length : Int) := by omega
              have i2 : (0 : Int) ≤ (i : Int) := by omega
              have HLT := Lib.hid hlt
              have hrg := HRG.out i hlt
              obtain ⟨b1, o1, hb1, q1, x1⟩ := (PS.out.keep hb).one i hlt
              subst hb1
              have hleg : lb = true → 0 ≤ iAt SD (iAt A i).toNat := fun h => HLEG.out h i hlt
              obtain ⟨x, hx⟩ : ∃ x : Nat, iAt A i = x := ⟨(iAt A i).toNat, by omega⟩
              rw [hx] at x1 hrg hleg
              rw [Int.toNat_natCast] at hleg
              obtain ⟨b2, o2, hb2, q2, x2⟩ := (PA.out.keep hb).one x (by rw [HSL.out]; omega)
              subst hb2
              have HLG := Lib.hid hleg
              generalize iAt SD x = y at *
              have k1 : (x : Int) < (k : Int) := hrg.2
              have k2 : (0 : Int) ≤ (x : Int) := by omega
              clear hb hlt q1 q2 hrg hx hleg
              cases lb with
              | false =>
                go_wp2
                go_roundw
                case rel => exact ⟨i + 1, by have := HLT.out; omega, by go_num, HBI.out⟩
                case measure => have := HLT.out; simp [intOf]; omega
              | true =>
                have hy : 0 ≤ y := HLG.out rfl
                have d9 : decide (y < 0) = false := decide_eq_false (by omega)
                clear hy
                go_wp2
                go_roundw
                case rel => exact ⟨i + 1, by have := HLT.out; omega, by go_num, HBI.out⟩
                case measure => have := HLT.out; simp [intOf]; omega
            · obtain rfl : i = A.length := by omega
              have i1 : ¬ (A.length : Int) < (A.length : Int) := by omega
              replace HB := Lib.hid (HB.out.trans (hb.mono HB.out.size))
              clear hb
              go_wp2_with fail
              refine (HAW.out wr).mono ?_
              rintro e wz ⟨rfl, hbz⟩
              have HBZ := Lib.hid (HB.out.trans (hbz.mono HB.out.size))
              clear hbz
              go_wp2
              go_ret
              exact ⟨rfl, HB0.out.trans (HBZ.out.mono HB0.out.size)⟩
end Go.Proofs.Ytgejkgeojjgclaa
