/- The law of ranks. -/
import Derived.Test.YtlnaahkheankoaaZBe
import Derived.Test.YtlnaahkheankoaaQ14
import Derived.Test.YtlnaahkheankoaaQ13
namespace Go.Proofs.Ytlnaahkheankoaa
open Go.RowKit Go.Shelf Go.Proofs.Gr
attribute [local go_sem] Oper.semAt_some

/-- A graph with a loop. -/
def loopB2 (L : List E) : Bool := L.any fun e => decide (e.a = e.b)
set_option maxHeartbeats 12800000 in
set_option maxRecDepth 100000 in
theorem loopC_any (x y m : Int) (w : World) :
    Calls Try.prog 48 #[.agg #[.int .i64 x, .int .i64 y, .int .i64 m]] w (fun e w' => e = .returned (.bool (decide (x = y))) ∧ Below w.heap.size w w') := by
  obtain ⟨V, hV⟩ : ∃ V, V = w.alloc (Obj.cells #[.int .i64 x, .int .i64 y, .int .i64 m] 79) := ⟨_, rfl⟩
  have hb : Below w.heap.size w V := by rw [hV]; exact (Below.refl _ _).alloc (Nat.le_refl _) _
  have HB := Lib.hid hb
  have HV := Lib.hid hV
  clear hb hV
  by_cases e : x = y
  · have d1 : (x == y) = true := by rw [beq_iff_eq]; exact e
    have d2 := Lib.hid (decide_eq_true e)
    clear e
    go_enter Try.func48, Try.ntmps48
    go_wp2
    rw [← HV.out]
    go_ret
    exact ⟨by rw [d2.out]; rfl, HB.out⟩
  · have d1 : (x == y) = false := by rw [beq_eq_false_iff_ne]; exact e
    have d2 := Lib.hid (decide_eq_false e)
    clear e
    go_enter Try.func48, Try.ntmps48
    go_wp2
    rw [← HV.out]
    go_ret
    exact ⟨by rw [d2.out]; rfl, HB.out⟩
set_option maxHeartbeats 12800000 in
set_option maxRecDepth 100000 in
theorem idxLoop_any (a : Option Addr) (c : Nat) (L : List E) (hL : L.length ≤ 100000) (w : World) (h : EsAt w a L) :
    Calls Try.prog 90 #[.slice a L.length c, (.func (.func 48) #[] #[])] w (fun e w' => (∃ r : Int, e = .returned (.int .i64 r) ∧ loopB2 L = decide (0 ≤ r)) ∧ Below w.heap.size w w') := by
  have HE := Lib.hid h
  have HL := Lib.hid (fun x y m u => loopC_any x y m u)
  have HT : Hid (∀ i, i < L.length → (decide ((eAt L i).a = (eAt L i).b)) = true → loopB2 L = true) := Lib.hid fun i hi hb => by
    unfold loopB2; rw [List.any_eq_true]; exact ⟨_, List.getElem_mem hi, by rw [eAt_get L i hi]; exact hb⟩
  have HF : Hid ((∀ j, j < L.length → (decide ((eAt L j).a = (eAt L j).b)) = false) → loopB2 L = false) := Lib.hid fun hz => by
    unfold loopB2
    rw [List.any_eq_false]
    intro z hz'
    obtain ⟨j, hj, rfl⟩ := List.getElem_of_mem hz'
    rw [eAt_get L j hj, hz j hj]; decide
  generalize loopB2 L = R at *
  clear h
  go_enter Try.func90, Try.ntmps90
  go_wp2
  go_loopw [8] (fun x wr => ∃ i : Nat, i ≤ L.length ∧ x = .int .i64 i ∧ Hid (∀ j, j < i → (decide ((eAt L j).a = (eAt L j).b)) = false) ∧ Below w.heap.size w wr) (fun x _ => L.length - (intOf x).toNat)
  case atStart => exact ⟨0, by omega, rfl, Lib.hid fun j hj => by omega, Below.refl _ _⟩
  case round =>
    obtain ⟨i, hi, rfl, hz, hb⟩ := hrel
    have HB := Lib.hid hb
    by_cases hlt : i < L.length
    · have i1 : (i : Int) < (L.length : Int) := by omega
      have i2 : (0 : Int) ≤ (i : Int) := by omega
      obtain ⟨b1, o1, hb1, q1, x1, x2, x3⟩ := RowAt.three (HE.out.keep hb) i hlt
      subst hb1
      have HTI := Lib.hid (HT.out i hlt)
      have HZN : Hid ((decide ((eAt L i).a = (eAt L i).b)) = false → Hid (∀ j, j < i + 1 → (decide ((eAt L j).a = (eAt L j).b)) = false)) := Lib.hid fun h0 => Lib.hid fun j hj => by
        by_cases e : j = i
        · subst e; exact h0
        · exact hz.out j (by omega)
      have HLT := Lib.hid hlt
      generalize eAt L i = ee at *
      obtain ⟨x, y, m⟩ := ee
      simp only at x1 x2 x3 HTI HZN
      have HLI := Lib.hid (HL.out x y m)
      generalize (decide (x = y)) = d at *
      clear hz hb hlt
      go_wp2_with fail
      refine (HLI.out wr).mono ?_
      rintro e w1 ⟨rfl, hb1⟩
      have HB1 := Lib.hid (HB.out.trans (hb1.mono HB.out.size))
      clear hb1 x1 x2 x3
      cases d with
      | true =>
        have HR := Lib.hid (HTI.out rfl)
        go_wp2
        go_ret
        exact ⟨⟨(i : Int), rfl, by rw [HR.out, decide_eq_true (by omega)]⟩, HB1.out⟩
      | false =>
        have HR := Lib.hid (HZN.out rfl)
        go_wp2
        go_roundw
        case rel => exact ⟨i + 1, by have := HLT.out; omega, by go_num, HR.out, HB1.out⟩
        case measure => have := HLT.out; simp [intOf]; omega
    · obtain rfl : i = L.length := by omega
      have i1 : ¬ (L.length : Int) < (L.length : Int) := by omega
      have HR := Lib.hid (HF.out hz.out)
      clear hz hb
      go_wp2
      go_ret
      exact ⟨⟨-1, rfl, by rw [HR.out]; rfl⟩, HB.out⟩
set_option maxHeartbeats 12800000 in
set_option maxRecDepth 100000 in
theorem contLoop_any (a : Option Addr) (c : Nat) (L : List E) (hL : L.length ≤ 100000) (w : World) (h : EsAt w a L) :
    Calls Try.prog 47 #[.slice a L.length c, (.func (.func 48) #[] #[])] w (fun e w' => e = .returned (.bool (loopB2 L)) ∧ Below w.heap.size w w') := by
  have HI := Lib.hid (idxLoop_any a c L hL w h)
  generalize loopB2 L = R at *
  clear h
  go_enter Try.func47, Try.ntmps47
  go_wp2_with fail
  refine HI.out.mono ?_
  rintro e w1 ⟨⟨r, rfl, hr⟩, hb⟩
  have HB := Lib.hid hb
  have HR := Lib.hid hr
  clear hb hr
  go_wp2
  go_ret
  exact ⟨by rw [HR.out]; rfl, HB.out⟩
set_option maxHeartbeats 12800000 in
set_option maxRecDepth 100000 in
theorem rrenaming_long (n : Int) (b : Option Addr) (c : Nat) (l : Nat) (hl : (l : Int) ≠ n) (w : World) :
    Calls Try.prog 46 #[.int .i64 n, .slice b l c] w (fun e w' => e = .returned (.int .i64 8) ∧ Below w.heap.size w w') := by
  have d1 : ((l : Int) != n) = true := by rw [bne_iff_ne]; exact hl
  clear hl
  go_enter Try.func46, Try.ntmps46
  go_wp2
  go_ret
  exact ⟨rfl, Below.refl _ _⟩
set_option maxHeartbeats 12800000 in
set_option maxRecDepth 100000 in
theorem ranks_any (n : Int) (a : Option Addr) (cap : Nat) (L : List E) (b : Option Addr) (c : Nat) (O : List Bool) (sa : Option Addr) (sc : Nat) (S : List Int) (hsc : S.length ≤ sc) (w : World) (h : EsAt w a L) (ho : BsAt w b O) (hs : IsAt w sa S) :
    Calls Try.prog 9 #[gv n a L.length cap, .slice b O.length c, .slice sa S.length sc] w (fun e w' => e = .returned (.bool true) ∧ Below w.heap.size w w') := by
  have HAW := Lib.hid (fun w => awake14 w)
  by_cases hf : rightO n L O = false
  · have HRT : Hid (∀ u, EsAt u a L → BsAt u b O → Calls Try.prog 43 #[gv n a L.length cap, .slice b O.length c] u (fun e w' => e = .returned (.bool false) ∧ Below u.heap.size u w')) := Lib.hid fun u h1 h2 => by
      have := right_any n a cap L b c O u h1 h2
      unfold GivesB at this
      rwa [hf] at this
    unfold gv at *
    clear hf
    obtain ⟨W, hW⟩ : ∃ W, W = w.alloc (Obj.cells #[.int .i64 n, .slice a L.length cap] 24) := ⟨_, rfl⟩
    have hB0 : Below w.heap.size w W := by rw [hW]; exact (Below.refl _ w).alloc (Nat.le_refl _) _
    have hG : Blk W w.heap.size 24 #[.int .i64 n, .slice a L.length cap] := by rw [hW]; exact Blk.new _ _ _
    have HW := Lib.hid hW
    have HSW : Hid (W.heap.size = w.heap.size + 1) := Lib.hid (by rw [hW]; simp)
    have HB0 := Lib.hid hB0
    have HF : Hid (∀ u, Below W.heap.size W u → u.cell? ⟨w.heap.size, 0, none⟩ = some (.int .i64 n) ∧ u.cell? ⟨w.heap.size, 1, none⟩ = some (.slice a L.length cap)) := Lib.hid fun u hu => ⟨(hG.below hu hG.lt).cell 0, (hG.below hu hG.lt).cell 1⟩
    have HB : Hid (Below W.heap.size W W) := Lib.hid (Below.refl _ _)
    have PEE := Lib.hid (h.keep hB0)
    have PO := Lib.hid (ho.keep hB0)
    have PS := Lib.hid (hs.keep hB0)
    clear hW hB0 hG h ho hs
    go_enter Try.func9, Try.ntmps9
    go_wp2_with fail
    rw [← HW.out]
    refine (HRT.out W PEE.out PO.out).mono ?_
    rintro e w0 ⟨rfl, hb⟩
    replace PEE := Lib.hid (PEE.out.keep hb)
    replace PO := Lib.hid (PO.out.keep hb)
    replace PS := Lib.hid (PS.out.keep hb)
    replace HB := Lib.hid (HB.out.trans (hb.mono HB.out.size))
    clear hb
    obtain ⟨g0, g1⟩ := HF.out w0 HB.out
    go_wp2_with fail
    refine (HAW.out w0).mono ?_
    rintro e w1 ⟨rfl, hb⟩
    replace PEE := Lib.hid (PEE.out.keep hb)
    replace PO := Lib.hid (PO.out.keep hb)
    replace PS := Lib.hid (PS.out.keep hb)
    replace HB := Lib.hid (HB.out.trans (hb.mono HB.out.size))
    clear hb
    clear g0 g1
    obtain ⟨g0, g1⟩ := HF.out w1 HB.out
    go_wp2
    go_ret
    exact ⟨rfl, HB0.out.trans (HB.out.mono HB0.out.size)⟩
  have hf : rightO n L O = true := by cases hh : rightO n L O with | true => rfl | false => exact absurd hh hf
  have HRT : Hid (∀ u, EsAt u a L → BsAt u b O → Calls Try.prog 43 #[gv n a L.length cap, .slice b O.length c] u (fun e w' => e = .returned (.bool true) ∧ Below u.heap.size u w')) := Lib.hid fun u h1 h2 => by
    have := right_any n a cap L b c O u h1 h2
    unfold GivesB at this
    rwa [hf] at this
  have hfw : fewG n L = true ∧ chkO n L O = 0 := by
    unfold rightO at hf
    rwa [Bool.and_eq_true, decide_eq_true_iff] at hf
  have hl40 := few_len hfw.1
  have hR := right_of (chkO_zero hfw.2).1
  have hol := chkO_len hfw.2
  have hel := ends_all hR
  clear hf
  by_cases hlen : (S.length : Int) ≠ n
  · have HRN := Lib.hid (fun u => rrenaming_long n sa sc S.length hlen u)
    unfold gv at *
    clear hfw hl40 hR hol hel hlen
    obtain ⟨W, hW⟩ : ∃ W, W = w.alloc (Obj.cells #[.int .i64 n, .slice a L.length cap] 24) := ⟨_, rfl⟩
    have hB0 : Below w.heap.size w W := by rw [hW]; exact (Below.refl _ w).alloc (Nat.le_refl _) _
    have hG : Blk W w.heap.size 24 #[.int .i64 n, .slice a L.length cap] := by rw [hW]; exact Blk.new _ _ _
    have HW := Lib.hid hW
    have HSW : Hid (W.heap.size = w.heap.size + 1) := Lib.hid (by rw [hW]; simp)
    have HB0 := Lib.hid hB0
    have HF : Hid (∀ u, Below W.heap.size W u → u.cell? ⟨w.heap.size, 0, none⟩ = some (.int .i64 n) ∧ u.cell? ⟨w.heap.size, 1, none⟩ = some (.slice a L.length cap)) := Lib.hid fun u hu => ⟨(hG.below hu hG.lt).cell 0, (hG.below hu hG.lt).cell 1⟩
    have HB : Hid (Below W.heap.size W W) := Lib.hid (Below.refl _ _)
    have PEE := Lib.hid (h.keep hB0)
    have PO := Lib.hid (ho.keep hB0)
    have PS := Lib.hid (hs.keep hB0)
    clear hW hB0 hG h ho hs
    go_enter Try.func9, Try.ntmps9
    go_wp2_with fail
    rw [← HW.out]
    refine (HRT.out W PEE.out PO.out).mono ?_
    rintro e w0 ⟨rfl, hb⟩
    replace PEE := Lib.hid (PEE.out.keep hb)
    replace PO := Lib.hid (PO.out.keep hb)
    replace PS := Lib.hid (PS.out.keep hb)
    replace HB := Lib.hid (HB.out.trans (hb.mono HB.out.size))
    clear hb
    obtain ⟨g0, g1⟩ := HF.out w0 HB.out
    go_wp2_with fail
    refine (HRN.out w0).mono ?_
    rintro e w1 ⟨rfl, hb⟩
    replace PEE := Lib.hid (PEE.out.keep hb)
    replace PO := Lib.hid (PO.out.keep hb)
    replace PS := Lib.hid (PS.out.keep hb)
    replace HB := Lib.hid (HB.out.trans (hb.mono HB.out.size))
    clear hb
    clear g0 g1
    obtain ⟨g0, g1⟩ := HF.out w1 HB.out
    go_wp2_with fail
    refine (HAW.out w1).mono ?_
    rintro e w2 ⟨rfl, hb⟩
    replace PEE := Lib.hid (PEE.out.keep hb)
    replace PO := Lib.hid (PO.out.keep hb)
    replace PS := Lib.hid (PS.out.keep hb)
    replace HB := Lib.hid (HB.out.trans (hb.mono HB.out.size))
    clear hb
    clear g0 g1
    obtain ⟨g0, g1⟩ := HF.out w2 HB.out
    go_wp2
    go_ret
    exact ⟨rfl, HB0.out.trans (HB.out.mono HB0.out.size)⟩
  have hn1 := hR.lo
  have hn2 := hR.hi
  have HRN := Lib.hid (fun u hv => rrenaming_any n sa sc S (by omega) hsc u hv)
  by_cases hk : renE n S ≠ 0
  · have q0 : (((renE n S : Nat) : Int) != 0) = true := by rw [bne_iff_ne]; omega
    unfold GivesN gv at *
    clear hfw hl40 hR hol hel hlen hk hn1 hn2
    generalize renE n S = k at *
    obtain ⟨W, hW⟩ : ∃ W, W = w.alloc (Obj.cells #[.int .i64 n, .slice a L.length cap] 24) := ⟨_, rfl⟩
    have hB0 : Below w.heap.size w W := by rw [hW]; exact (Below.refl _ w).alloc (Nat.le_refl _) _
    have hG : Blk W w.heap.size 24 #[.int .i64 n, .slice a L.length cap] := by rw [hW]; exact Blk.new _ _ _
    have HW := Lib.hid hW
    have HSW : Hid (W.heap.size = w.heap.size + 1) := Lib.hid (by rw [hW]; simp)
    have HB0 := Lib.hid hB0
    have HF : Hid (∀ u, Below W.heap.size W u → u.cell? ⟨w.heap.size, 0, none⟩ = some (.int .i64 n) ∧ u.cell? ⟨w.heap.size, 1, none⟩ = some (.slice a L.length cap)) := Lib.hid fun u hu => ⟨(hG.below hu hG.lt).cell 0, (hG.below hu hG.lt).cell 1⟩
    have HB : Hid (Below W.heap.size W W) := Lib.hid (Below.refl _ _)
    have PEE := Lib.hid (h.keep hB0)
    have PO := Lib.hid (ho.keep hB0)
    have PS := Lib.hid (hs.keep hB0)
    clear hW hB0 hG h ho hs
    go_enter Try.func9, Try.ntmps9
    go_wp2_with fail
    rw [← HW.out]
    refine (HRT.out W PEE.out PO.out).mono ?_
    rintro e w0 ⟨rfl, hb⟩
    replace PEE := Lib.hid (PEE.out.keep hb)
    replace PO := Lib.hid (PO.out.keep hb)
    replace PS := Lib.hid (PS.out.keep hb)
    replace HB := Lib.hid (HB.out.trans (hb.mono HB.out.size))
    clear hb
    obtain ⟨g0, g1⟩ := HF.out w0 HB.out
    go_wp2_with fail
    refine (HRN.out w0 PS.out).mono ?_
    rintro e w1 ⟨rfl, hb⟩
    replace PEE := Lib.hid (PEE.out.keep hb)
    replace PO := Lib.hid (PO.out.keep hb)
    replace PS := Lib.hid (PS.out.keep hb)
    replace HB := Lib.hid (HB.out.trans (hb.mono HB.out.size))
    clear hb
    clear g0 g1
    obtain ⟨g0, g1⟩ := HF.out w1 HB.out
    go_wp2_with fail
    refine (HAW.out w1).mono ?_
    rintro e w2 ⟨rfl, hb⟩
    replace PEE := Lib.hid (PEE.out.keep hb)
    replace PO := Lib.hid (PO.out.keep hb)
    replace PS := Lib.hid (PS.out.keep hb)
    replace HB := Lib.hid (HB.out.trans (hb.mono HB.out.size))
    clear hb
    clear g0 g1
    obtain ⟨g0, g1⟩ := HF.out w2 HB.out
    go_wp2
    go_ret
    exact ⟨rfl, HB0.out.trans (HB.out.mono HB0.out.size)⟩
  have hk0 : renE n S = 0 := by omega
  rw [hk0] at HRN
  have HLO := Lib.hid (fun u h => contLoop_any a cap L (by omega) u h)
  have hoe : ordE n L S = 0 := by unfold ordE; rw [if_neg (by rw [(chkO_zero hfw.2).1]; decide)]; exact hk0
  have hlr : (ordR n L S).length = O.length := by unfold ordR; rw [ordL_len]; exact hol
  have hcr : chkO n L (ordR n L S) = 0 := by
    have h1 := hfw.2
    unfold chkO at h1 ⊢
    rw [hlr]; exact h1
  have hacy : acyB n L (ordR n L S) = !loopB2 L := by
    cases hb : loopB2 L with
    | true =>
      unfold loopB2 at hb
      rw [List.any_eq_true] at hb
      obtain ⟨e, he, h1⟩ := hb
      exact loop_not hR _ e he (of_decide_eq_true h1)
    | false =>
      unfold loopB2 at hb
      rw [List.any_eq_false] at hb
      exact ord_acy (chkO_zero hfw.2).1 hk0 (fun e he h1 => hb e he (decide_eq_true h1))
  have HOR : Hid (∀ u, EsAt u a L → IsAt u sa S → Calls Try.prog 34 #[gv n a L.length cap, .slice sa S.length sc] u (fun e w' => ∃ p q, e = .returned (.tuple #[.slice p (ordR n L S).length q, .int .i64 0]) ∧ BsAt w' p (ordR n L S) ∧ Below u.heap.size u w')) := Lib.hid fun u h1 h2 => by
    have := porder_ori n a cap L (by omega) sa sc S (by omega) u h1 h2
    rw [hoe, okL_pos _ rfl] at this
    exact this
  have HA1 : Hid (∀ p q u, EsAt u a L → BsAt u p (ordR n L S) → Calls Try.prog 32 #[gv n a L.length cap, .slice p (ordR n L S).length q] u (fun e w' => ∃ p l q, e = .returned (.tuple #[.bool (!loopB2 L), .slice p l q, .int .i64 0]) ∧ Below u.heap.size u w')) := Lib.hid fun p q u h1 h2 => by
    have := pAcyclic_any n a cap L (by omega) p q (ordR n L S) (by rw [hlr]; omega) u h1 h2
    rw [hcr, okB_pos _ rfl, okL_pos _ rfl, hacy] at this
    exact this.mono fun e x ⟨p, q, h3, h4, h5⟩ => ⟨p, _, q, h3, h5⟩
  generalize ordR n L S = R1 at *
  cases hac : acyB n L O with
  | false =>
    have HA2 : Hid (∀ u, EsAt u a L → BsAt u b O → Calls Try.prog 32 #[gv n a L.length cap, .slice b O.length c] u (fun e w' => ∃ p q, e = .returned (.tuple #[.bool false, .slice p 0 q, .int .i64 0]) ∧ Below u.heap.size u w')) := Lib.hid fun u h1 h2 => by
      have := pAcyclic_any n a cap L (by omega) b c O (by omega) u h1 h2
      rw [hfw.2, okB_pos _ rfl, okL_pos _ rfl, hac, acy_none hfw.2 hac] at this
      exact this.mono fun e x ⟨p, q, h3, h4, h5⟩ => ⟨p, q, h3, h5⟩
    clear hfw hl40 hR hol hel hlen hk hk0 hn1 hn2 hoe hlr hcr hacy hac
    unfold GivesN gv at *
    cases hlb : loopB2 L with
    | true =>
      rw [hlb] at HLO HA1
      rw [Bool.not_true] at HA1
      clear hlb
      obtain ⟨W, hW⟩ : ∃ W, W = w.alloc (Obj.cells #[.int .i64 n, .slice a L.length cap] 24) := ⟨_, rfl⟩
      have hB0 : Below w.heap.size w W := by rw [hW]; exact (Below.refl _ w).alloc (Nat.le_refl _) _
      have hG : Blk W w.heap.size 24 #[.int .i64 n, .slice a L.length cap] := by rw [hW]; exact Blk.new _ _ _
      have HW := Lib.hid hW
      have HSW : Hid (W.heap.size = w.heap.size + 1) := Lib.hid (by rw [hW]; simp)
      have HB0 := Lib.hid hB0
      have HF : Hid (∀ u, Below W.heap.size W u → u.cell? ⟨w.heap.size, 0, none⟩ = some (.int .i64 n) ∧ u.cell? ⟨w.heap.size, 1, none⟩ = some (.slice a L.length cap)) := Lib.hid fun u hu => ⟨(hG.below hu hG.lt).cell 0, (hG.below hu hG.lt).cell 1⟩
      have HB : Hid (Below W.heap.size W W) := Lib.hid (Below.refl _ _)
      have PEE := Lib.hid (h.keep hB0)
      have PO := Lib.hid (ho.keep hB0)
      have PS := Lib.hid (hs.keep hB0)
      clear hW hB0 hG h ho hs
      go_enter Try.func9, Try.ntmps9
      go_wp2_with fail
      rw [← HW.out]
      refine (HRT.out W PEE.out PO.out).mono ?_
      rintro e w0 ⟨rfl, hb⟩
      replace PEE := Lib.hid (PEE.out.keep hb)
      replace PO := Lib.hid (PO.out.keep hb)
      replace PS := Lib.hid (PS.out.keep hb)
      replace HB := Lib.hid (HB.out.trans (hb.mono HB.out.size))
      clear hb
      obtain ⟨g0, g1⟩ := HF.out w0 HB.out
      go_wp2_with fail
      refine (HRN.out w0 PS.out).mono ?_
      rintro e w1 ⟨rfl, hb⟩
      replace PEE := Lib.hid (PEE.out.keep hb)
      replace PO := Lib.hid (PO.out.keep hb)
      replace PS := Lib.hid (PS.out.keep hb)
      replace HB := Lib.hid (HB.out.trans (hb.mono HB.out.size))
      clear hb
      clear g0 g1
      obtain ⟨g0, g1⟩ := HF.out w1 HB.out
      go_wp2_with fail
      refine (HLO.out w1 PEE.out).mono ?_
      rintro e w2 ⟨rfl, hb⟩
      replace PEE := Lib.hid (PEE.out.keep hb)
      replace PO := Lib.hid (PO.out.keep hb)
      replace PS := Lib.hid (PS.out.keep hb)
      replace HB := Lib.hid (HB.out.trans (hb.mono HB.out.size))
      clear hb
      clear g0 g1
      obtain ⟨g0, g1⟩ := HF.out w2 HB.out
      go_wp2_with fail
      refine (HOR.out w2 PEE.out PS.out).mono ?_
      rintro e w3 ⟨p1, q1, rfl, hpR, hb⟩
      clear PS
      replace PEE := Lib.hid (PEE.out.keep hb)
      replace PO := Lib.hid (PO.out.keep hb)
      replace HB := Lib.hid (HB.out.trans (hb.mono HB.out.size))
      clear hb
      have PR := Lib.hid hpR
      clear hpR
      clear g0 g1
      obtain ⟨g0, g1⟩ := HF.out w3 HB.out
      go_wp2_with fail
      refine (HA1.out _ _ w3 PEE.out PR.out).mono ?_
      rintro e w4 ⟨p2, l2, q2, rfl, hb⟩
      clear PR
      replace PEE := Lib.hid (PEE.out.keep hb)
      replace PO := Lib.hid (PO.out.keep hb)
      replace HB := Lib.hid (HB.out.trans (hb.mono HB.out.size))
      clear hb
      clear g0 g1
      obtain ⟨g0, g1⟩ := HF.out w4 HB.out
      go_wp2_with fail
      refine (HA2.out w4 PEE.out PO.out).mono ?_
      rintro e w5 ⟨p3, q3, rfl, hb⟩
      replace PEE := Lib.hid (PEE.out.keep hb)
      replace PO := Lib.hid (PO.out.keep hb)
      replace HB := Lib.hid (HB.out.trans (hb.mono HB.out.size))
      clear hb
      clear g0 g1
      obtain ⟨g0, g1⟩ := HF.out w5 HB.out
      go_wp2_with fail
      refine (HAW.out w5).mono ?_
      rintro e w6 ⟨rfl, hb⟩
      replace PEE := Lib.hid (PEE.out.keep hb)
      replace PO := Lib.hid (PO.out.keep hb)
      replace HB := Lib.hid (HB.out.trans (hb.mono HB.out.size))
      clear hb
      clear g0 g1
      obtain ⟨g0, g1⟩ := HF.out w6 HB.out
      go_wp2
      go_ret
      exact ⟨rfl, HB0.out.trans (HB.out.mono HB0.out.size)⟩
    | false =>
      rw [hlb] at HLO HA1
      rw [Bool.not_false] at HA1
      clear hlb
      obtain ⟨W, hW⟩ : ∃ W, W = w.alloc (Obj.cells #[.int .i64 n, .slice a L.length cap] 24) := ⟨_, rfl⟩
      have hB0 : Below w.heap.size w W := by rw [hW]; exact (Below.refl _ w).alloc (Nat.le_refl _) _
      have hG : Blk W w.heap.size 24 #[.int .i64 n, .slice a L.length cap] := by rw [hW]; exact Blk.new _ _ _
      have HW := Lib.hid hW
      have HSW : Hid (W.heap.size = w.heap.size + 1) := Lib.hid (by rw [hW]; simp)
      have HB0 := Lib.hid hB0
      have HF : Hid (∀ u, Below W.heap.size W u → u.cell? ⟨w.heap.size, 0, none⟩ = some (.int .i64 n) ∧ u.cell? ⟨w.heap.size, 1, none⟩ = some (.slice a L.length cap)) := Lib.hid fun u hu => ⟨(hG.below hu hG.lt).cell 0, (hG.below hu hG.lt).cell 1⟩
      have HB : Hid (Below W.heap.size W W) := Lib.hid (Below.refl _ _)
      have PEE := Lib.hid (h.keep hB0)
      have PO := Lib.hid (ho.keep hB0)
      have PS := Lib.hid (hs.keep hB0)
      clear hW hB0 hG h ho hs
      go_enter Try.func9, Try.ntmps9
      go_wp2_with fail
      rw [← HW.out]
      refine (HRT.out W PEE.out PO.out).mono ?_
      rintro e w0 ⟨rfl, hb⟩
      replace PEE := Lib.hid (PEE.out.keep hb)
      replace PO := Lib.hid (PO.out.keep hb)
      replace PS := Lib.hid (PS.out.keep hb)
      replace HB := Lib.hid (HB.out.trans (hb.mono HB.out.size))
      clear hb
      obtain ⟨g0, g1⟩ := HF.out w0 HB.out
      go_wp2_with fail
      refine (HRN.out w0 PS.out).mono ?_
      rintro e w1 ⟨rfl, hb⟩
      replace PEE := Lib.hid (PEE.out.keep hb)
      replace PO := Lib.hid (PO.out.keep hb)
      replace PS := Lib.hid (PS.out.keep hb)
      replace HB := Lib.hid (HB.out.trans (hb.mono HB.out.size))
      clear hb
      clear g0 g1
      obtain ⟨g0, g1⟩ := HF.out w1 HB.out
      go_wp2_with fail
      refine (HLO.out w1 PEE.out).mono ?_
      rintro e w2 ⟨rfl, hb⟩
      replace PEE := Lib.hid (PEE.out.keep hb)
      replace PO := Lib.hid (PO.out.keep hb)
      replace PS := Lib.hid (PS.out.keep hb)
      replace HB := Lib.hid (HB.out.trans (hb.mono HB.out.size))
      clear hb
      clear g0 g1
      obtain ⟨g0, g1⟩ := HF.out w2 HB.out
      go_wp2_with fail
      refine (HOR.out w2 PEE.out PS.out).mono ?_
      rintro e w3 ⟨p1, q1, rfl, hpR, hb⟩
      clear PS
      replace PEE := Lib.hid (PEE.out.keep hb)
      replace PO := Lib.hid (PO.out.keep hb)
      replace HB := Lib.hid (HB.out.trans (hb.mono HB.out.size))
      clear hb
      have PR := Lib.hid hpR
      clear hpR
      clear g0 g1
      obtain ⟨g0, g1⟩ := HF.out w3 HB.out
      go_wp2_with fail
      refine (HA1.out _ _ w3 PEE.out PR.out).mono ?_
      rintro e w4 ⟨p2, l2, q2, rfl, hb⟩
      clear PR
      replace PEE := Lib.hid (PEE.out.keep hb)
      replace PO := Lib.hid (PO.out.keep hb)
      replace HB := Lib.hid (HB.out.trans (hb.mono HB.out.size))
      clear hb
      clear g0 g1
      obtain ⟨g0, g1⟩ := HF.out w4 HB.out
      go_wp2_with fail
      refine (HA2.out w4 PEE.out PO.out).mono ?_
      rintro e w5 ⟨p3, q3, rfl, hb⟩
      replace PEE := Lib.hid (PEE.out.keep hb)
      replace PO := Lib.hid (PO.out.keep hb)
      replace HB := Lib.hid (HB.out.trans (hb.mono HB.out.size))
      clear hb
      clear g0 g1
      obtain ⟨g0, g1⟩ := HF.out w5 HB.out
      go_wp2_with fail
      refine (HAW.out w5).mono ?_
      rintro e w6 ⟨rfl, hb⟩
      replace PEE := Lib.hid (PEE.out.keep hb)
      replace PO := Lib.hid (PO.out.keep hb)
      replace HB := Lib.hid (HB.out.trans (hb.mono HB.out.size))
      clear hb
      clear g0 g1
      obtain ⟨g0, g1⟩ := HF.out w6 HB.out
      go_wp2
      go_ret
      exact ⟨rfl, HB0.out.trans (HB.out.mono HB0.out.size)⟩
  | true =>
    obtain ⟨hre, hor, hll⟩ := acy_ord hfw.2 hac
    obtain ⟨hs1, hs2⟩ := acy_src hfw.2 hac
    have HA2 : Hid (∀ u, EsAt u a L → BsAt u b O → Calls Try.prog 32 #[gv n a L.length cap, .slice b O.length c] u (fun e w' => ∃ p q, e = .returned (.tuple #[.bool true, .slice p (acyL n L O).length q, .int .i64 0]) ∧ IsAt w' p (acyL n L O) ∧ Below u.heap.size u w')) := Lib.hid fun u h1 h2 => by
      have := pAcyclic_any n a cap L (by omega) b c O (by omega) u h1 h2
      rw [hfw.2, okB_pos _ rfl, okL_pos _ rfl, hac] at this
      exact this
    have HO2 : Hid (∀ p q u, EsAt u a L → IsAt u p (acyL n L O) → Calls Try.prog 34 #[gv n a L.length cap, .slice p (acyL n L O).length q] u (fun e w' => ∃ p q, e = .returned (.tuple #[.slice p O.length q, .int .i64 0]) ∧ BsAt w' p O ∧ Below u.heap.size u w')) := Lib.hid fun p q u h1 h2 => by
      have := porder_ori n a cap L (by omega) p q (acyL n L O) (by omega) u h1 h2
      have he : ordE n L (acyL n L O) = 0 := by unfold ordE; rw [if_neg (by rw [(chkO_zero hfw.2).1]; decide)]; exact hre
      rw [he, okL_pos _ rfl, hor] at this
      exact this
    have HSR : Hid (∀ u, EsAt u a L → BsAt u b O → Calls Try.prog 18 #[gv n a L.length cap, .slice b O.length c] u (fun e w' => ∃ p q, e = .returned (.tuple #[.slice p (srcO n L O).length q, .int .i64 0]) ∧ IsAt w' p (srcO n L O) ∧ Below u.heap.size u w')) := Lib.hid fun u h1 h2 => by
      have := pSources_any n a cap L (by omega) b c O (by omega) u h1 h2
      rw [hfw.2, okL_pos _ rfl] at this
      exact this
    have HEQ : Hid (∀ u p q, BsAt u p O → BsAt u b O → Calls Try.prog 44 #[.slice p O.length q, .slice b O.length c] u (fun e w' => e = .returned (.bool true) ∧ Below u.heap.size u w')) := Lib.hid fun u p q h1 h2 => pequalB_true p b q c O (by omega) u h1 h2
    have HL0 : Hid (0 < (acyL n L O).length) := Lib.hid (by omega)
    have HS0 := Lib.hid hs1
    have HFS := Lib.hid hs2
    clear hfw hl40 hR hol hel hlen hk hk0 hn1 hn2 hoe hlr hcr hacy hac hre hor hll hs1 hs2
    unfold GivesN gv at *
    generalize acyL n L O = A1 at *
    generalize srcO n L O = S1 at *
    cases hlb : loopB2 L with
    | true =>
      rw [hlb] at HLO HA1
      rw [Bool.not_true] at HA1
      clear hlb
      obtain ⟨W, hW⟩ : ∃ W, W = w.alloc (Obj.cells #[.int .i64 n, .slice a L.length cap] 24) := ⟨_, rfl⟩
      have hB0 : Below w.heap.size w W := by rw [hW]; exact (Below.refl _ w).alloc (Nat.le_refl _) _
      have hG : Blk W w.heap.size 24 #[.int .i64 n, .slice a L.length cap] := by rw [hW]; exact Blk.new _ _ _
      have HW := Lib.hid hW
      have HSW : Hid (W.heap.size = w.heap.size + 1) := Lib.hid (by rw [hW]; simp)
      have HB0 := Lib.hid hB0
      have HF : Hid (∀ u, Below W.heap.size W u → u.cell? ⟨w.heap.size, 0, none⟩ = some (.int .i64 n) ∧ u.cell? ⟨w.heap.size, 1, none⟩ = some (.slice a L.length cap)) := Lib.hid fun u hu => ⟨(hG.below hu hG.lt).cell 0, (hG.below hu hG.lt).cell 1⟩
      have HB : Hid (Below W.heap.size W W) := Lib.hid (Below.refl _ _)
      have PEE := Lib.hid (h.keep hB0)
      have PO := Lib.hid (ho.keep hB0)
      have PS := Lib.hid (hs.keep hB0)
      clear hW hB0 hG h ho hs
      go_enter Try.func9, Try.ntmps9
      go_wp2_with fail
      rw [← HW.out]
      refine (HRT.out W PEE.out PO.out).mono ?_
      rintro e w0 ⟨rfl, hb⟩
      replace PEE := Lib.hid (PEE.out.keep hb)
      replace PO := Lib.hid (PO.out.keep hb)
      replace PS := Lib.hid (PS.out.keep hb)
      replace HB := Lib.hid (HB.out.trans (hb.mono HB.out.size))
      clear hb
      obtain ⟨g0, g1⟩ := HF.out w0 HB.out
      go_wp2_with fail
      refine (HRN.out w0 PS.out).mono ?_
      rintro e w1 ⟨rfl, hb⟩
      replace PEE := Lib.hid (PEE.out.keep hb)
      replace PO := Lib.hid (PO.out.keep hb)
      replace PS := Lib.hid (PS.out.keep hb)
      replace HB := Lib.hid (HB.out.trans (hb.mono HB.out.size))
      clear hb
      clear g0 g1
      obtain ⟨g0, g1⟩ := HF.out w1 HB.out
      go_wp2_with fail
      refine (HLO.out w1 PEE.out).mono ?_
      rintro e w2 ⟨rfl, hb⟩
      replace PEE := Lib.hid (PEE.out.keep hb)
      replace PO := Lib.hid (PO.out.keep hb)
      replace PS := Lib.hid (PS.out.keep hb)
      replace HB := Lib.hid (HB.out.trans (hb.mono HB.out.size))
      clear hb
      clear g0 g1
      obtain ⟨g0, g1⟩ := HF.out w2 HB.out
      go_wp2_with fail
      refine (HOR.out w2 PEE.out PS.out).mono ?_
      rintro e w3 ⟨p1, q1, rfl, hpR, hb⟩
      clear PS
      replace PEE := Lib.hid (PEE.out.keep hb)
      replace PO := Lib.hid (PO.out.keep hb)
      replace HB := Lib.hid (HB.out.trans (hb.mono HB.out.size))
      clear hb
      have PR := Lib.hid hpR
      clear hpR
      clear g0 g1
      obtain ⟨g0, g1⟩ := HF.out w3 HB.out
      go_wp2_with fail
      refine (HA1.out _ _ w3 PEE.out PR.out).mono ?_
      rintro e w4 ⟨p2, l2, q2, rfl, hb⟩
      clear PR
      replace PEE := Lib.hid (PEE.out.keep hb)
      replace PO := Lib.hid (PO.out.keep hb)
      replace HB := Lib.hid (HB.out.trans (hb.mono HB.out.size))
      clear hb
      clear g0 g1
      obtain ⟨g0, g1⟩ := HF.out w4 HB.out
      go_wp2_with fail
      refine (HA2.out w4 PEE.out PO.out).mono ?_
      rintro e w5 ⟨p3, q3, rfl, hpA, hb⟩
      replace PEE := Lib.hid (PEE.out.keep hb)
      replace PO := Lib.hid (PO.out.keep hb)
      replace HB := Lib.hid (HB.out.trans (hb.mono HB.out.size))
      clear hb
      have PA := Lib.hid hpA
      clear hpA
      clear g0 g1
      obtain ⟨g0, g1⟩ := HF.out w5 HB.out
      go_wp2_with fail
      refine (HO2.out _ _ w5 PEE.out PA.out).mono ?_
      rintro e w6 ⟨p4, q4, rfl, hpX, hb⟩
      replace PEE := Lib.hid (PEE.out.keep hb)
      replace PO := Lib.hid (PO.out.keep hb)
      replace PA := Lib.hid (PA.out.keep hb)
      replace HB := Lib.hid (HB.out.trans (hb.mono HB.out.size))
      clear hb
      have PX := Lib.hid hpX
      clear hpX
      clear g0 g1
      obtain ⟨g0, g1⟩ := HF.out w6 HB.out
      go_wp2_with fail
      refine (HSR.out w6 PEE.out PO.out).mono ?_
      rintro e w7 ⟨p5, q5, rfl, hpZ, hb⟩
      replace PEE := Lib.hid (PEE.out.keep hb)
      replace PO := Lib.hid (PO.out.keep hb)
      replace PA := Lib.hid (PA.out.keep hb)
      replace PX := Lib.hid (PX.out.keep hb)
      replace HB := Lib.hid (HB.out.trans (hb.mono HB.out.size))
      clear hb
      have PZ := Lib.hid hpZ
      clear hpZ
      clear g0 g1
      obtain ⟨g0, g1⟩ := HF.out w7 HB.out
      obtain ⟨b5, o5, e5, r5, y5⟩ := PZ.out.one 0 HS0.out
      subst e5
      rw [Nat.add_zero] at y5
      obtain ⟨b3, o3, e3, r3, y3⟩ := PA.out.one 0 HL0.out
      subst e3
      rw [Nat.add_zero] at y3
      have HF9 : Hid (∀ u, Below w7.heap.size w7 u → u.cell? ⟨b5, o5, none⟩ = some (.int .i64 (iAt S1 0)) ∧ u.cell? ⟨b3, o3, none⟩ = some (.int .i64 (iAt S1 0))) := Lib.hid fun u hu => ⟨(hu.cell (p := ⟨b5, o5, none⟩) r5).trans y5, by rw [HFS.out]; exact (hu.cell (p := ⟨b3, o3, none⟩) r3).trans y3⟩
      have hs0 := HS0.out
      have hl0 := HL0.out
      generalize iAt S1 0 = z at *
      generalize hls : S1.length = ls at *
      generalize hll : A1.length = ll at *
      have i5 : (0 : Int) < (ls : Int) := by omega
      have i6 : (0 : Int) < (ll : Int) := by omega
      have i7 : ls ≠ 0 := by omega
      have i8 : ll ≠ 0 := by omega
      clear y5 y3 r5 r3 hls hll hs0 hl0
      go_wp2
      clear g0 g1
      have hj0 : Below w7.heap.size w7 w7.drew := (Below.refl _ _).drew
      refine wp_region_late (S := fun u => Below w7.heap.size w7 u) (X := []) (by kernel_rfl) ?_
      refine wpAnyL_pureD (i := 0) 90 (.int .i64 0) rfl rfl (by kernel_rfl) (by kernel_rfl) (by kernel_rfl) (fun _ _ _ h => h) (Or.inl ⟨by rfl, fun u _ => ?_⟩) ?_
      · go_simp
      try simp only [Act.put, List.setIfInBounds_toArray, List.set_cons_zero, List.set_cons_succ]
      refine wpAnyL_pureD (i := 1) 91 (.bool true) rfl rfl (by kernel_rfl) (by kernel_rfl) (by kernel_rfl) (fun _ _ _ h => h) (Or.inl ⟨by rfl, fun u _ => ?_⟩) ?_
      · go_simp
      try simp only [Act.put, List.setIfInBounds_toArray, List.set_cons_zero, List.set_cons_succ]
      refine wpAnyL_pureD (i := 2) 92 (.bool true) rfl rfl (by kernel_rfl) (by kernel_rfl) (by kernel_rfl) (fun _ _ _ h => h) (Or.inl ⟨by rfl, fun u _ => ?_⟩) ?_
      · go_simp
      try simp only [Act.put, List.setIfInBounds_toArray, List.set_cons_zero, List.set_cons_succ]
      refine wpAnyL_pureD (i := 3) 93 (.int .i64 0) rfl rfl (by kernel_rfl) (by kernel_rfl) (by kernel_rfl) (fun _ _ _ h => h) (Or.inl ⟨by rfl, fun u _ => ?_⟩) ?_
      · go_simp
      try simp only [Act.put, List.setIfInBounds_toArray, List.set_cons_zero, List.set_cons_succ]
      refine wpAnyL_pureD (i := 4) 94 (.bool true) rfl rfl (by kernel_rfl) (by kernel_rfl) (by kernel_rfl) (fun _ _ _ h => h) (Or.inl ⟨by rfl, fun u _ => ?_⟩) ?_
      · go_simp
      try simp only [Act.put, List.setIfInBounds_toArray, List.set_cons_zero, List.set_cons_succ]
      refine wpAnyL_pureD (i := 5) 95 (.bool true) rfl rfl (by kernel_rfl) (by kernel_rfl) (by kernel_rfl) (fun _ _ _ h => h) (Or.inl ⟨by rfl, fun u _ => ?_⟩) ?_
      · go_simp
      try simp only [Act.put, List.setIfInBounds_toArray, List.set_cons_zero, List.set_cons_succ]
      refine wpAnyL_pureD (i := 6) 96 (.bool true) rfl rfl (by kernel_rfl) (by kernel_rfl) (by kernel_rfl) (fun _ _ _ h => h) (Or.inl ⟨by rfl, fun u _ => ?_⟩) ?_
      · go_simp
      try simp only [Act.put, List.setIfInBounds_toArray, List.set_cons_zero, List.set_cons_succ]
      refine wpAnyL_pureD (i := 7) 97 (.slice p4 O.length q4) rfl rfl (by kernel_rfl) (by kernel_rfl) (by kernel_rfl) (fun _ _ _ h => h) (Or.inl ⟨by rfl, fun u _ => ?_⟩) ?_
      · go_simp
      try simp only [Act.put, List.setIfInBounds_toArray, List.set_cons_zero, List.set_cons_succ]
      refine wpAnyL_pureD (i := 8) 98 (.slice b O.length c) rfl rfl (by kernel_rfl) (by kernel_rfl) (by kernel_rfl) (fun _ _ _ h => h) (Or.inl ⟨by rfl, fun u _ => ?_⟩) ?_
      · go_simp
      try simp only [Act.put, List.setIfInBounds_toArray, List.set_cons_zero, List.set_cons_succ]
      refine wpAnyL_one (i := 9) (by kernel_rfl) rfl (fun K hK => ?_)
      go_simp
      go_at_call 44
      refine (HEQ.out _ _ _ (PX.out.keep hj0) (PO.out.keep hj0)).mono ?_
      rintro e y1 ⟨rfl, hb1⟩
      have hj1 := hj0.trans (hb1.mono hj0.size)
      clear hb1
      show K _ _
      refine hK.out _ _ (fun _ _ => hj1) ?_
      clear hK K
      try simp only [Act.put, List.setIfInBounds_toArray, List.set_cons_zero, List.set_cons_succ]
      refine wpAnyL_pureD (i := 10) 100 (.bool true) rfl rfl (by kernel_rfl) (by kernel_rfl) (by kernel_rfl) (fun _ _ _ h => h) (Or.inl ⟨by rfl, fun u _ => ?_⟩) ?_
      · go_simp
      try simp only [Act.put, List.setIfInBounds_toArray, List.set_cons_zero, List.set_cons_succ]
      refine wpAnyL_pureD (i := 11) 101 (.bool true) rfl rfl (by kernel_rfl) (by kernel_rfl) (by kernel_rfl) (fun _ _ _ h => h) (Or.inl ⟨by rfl, fun u _ => ?_⟩) ?_
      · go_simp
      try simp only [Act.put, List.setIfInBounds_toArray, List.set_cons_zero, List.set_cons_succ]
      refine wpAnyL_pureD (i := 12) 102 (.slice (some ⟨b5, o5, none⟩) ls q5) rfl rfl (by kernel_rfl) (by kernel_rfl) (by kernel_rfl) (fun _ _ _ h => h) (Or.inl ⟨by rfl, fun u _ => ?_⟩) ?_
      · go_simp
      try simp only [Act.put, List.setIfInBounds_toArray, List.set_cons_zero, List.set_cons_succ]
      refine wpAnyL_pureD (i := 13) 103 (.int .i64 (ls : Int)) rfl rfl (by kernel_rfl) (by kernel_rfl) (by kernel_rfl) (fun _ _ _ h => h) (Or.inl ⟨by rfl, fun u _ => ?_⟩) ?_
      · go_simp
      try simp only [Act.put, List.setIfInBounds_toArray, List.set_cons_zero, List.set_cons_succ]
      refine wpAnyL_pureD (i := 14) 104 (.bool true) rfl rfl (by kernel_rfl) (by kernel_rfl) (by kernel_rfl) (fun _ _ _ h => h) (Or.inl ⟨by rfl, fun u _ => ?_⟩) ?_
      · go_simp
        try omega
      try simp only [Act.put, List.setIfInBounds_toArray, List.set_cons_zero, List.set_cons_succ]
      refine wpAnyL_pureD (i := 15) 105 (.bool true) rfl rfl (by kernel_rfl) (by kernel_rfl) (by kernel_rfl) (fun _ _ _ h => h) (Or.inl ⟨by rfl, fun u _ => ?_⟩) ?_
      · go_simp
      try simp only [Act.put, List.setIfInBounds_toArray, List.set_cons_zero, List.set_cons_succ]
      refine wpAnyL_pureD (i := 16) 106 (.bool true) rfl rfl (by kernel_rfl) (by kernel_rfl) (by kernel_rfl) (fun _ _ _ h => h) (Or.inl ⟨by rfl, fun u _ => ?_⟩) ?_
      · go_simp
      try simp only [Act.put, List.setIfInBounds_toArray, List.set_cons_zero, List.set_cons_succ]
      refine wpAnyL_pureD (i := 17) 107 (.slice (some ⟨b5, o5, none⟩) ls q5) rfl rfl (by kernel_rfl) (by kernel_rfl) (by kernel_rfl) (fun _ _ _ h => h) (Or.inl ⟨by rfl, fun u _ => ?_⟩) ?_
      · go_simp
      try simp only [Act.put, List.setIfInBounds_toArray, List.set_cons_zero, List.set_cons_succ]
      refine wpAnyL_pureD (i := 18) 108 (.pointer (some ⟨b5, o5, none⟩)) rfl rfl (by kernel_rfl) (by kernel_rfl) (by kernel_rfl) (fun _ _ _ h => h) (Or.inl ⟨by rfl, fun u _ => ?_⟩) ?_
      · go_simp
      try simp only [Act.put, List.setIfInBounds_toArray, List.set_cons_zero, List.set_cons_succ]
      refine wpAnyL_takeD (i := 19) 109 (.int .i64 z) rfl rfl (by kernel_rfl) (by kernel_rfl) (by kernel_rfl) (by kernel_rfl) (by kernel_rfl) (fun _ _ _ h => h) hj1 (Or.inl ⟨by rfl, fun u hu => ?_⟩) ?_
      · obtain ⟨t0, t1⟩ := HF9.out u hu
        go_simp
      try simp only [Act.put, List.setIfInBounds_toArray, List.set_cons_zero, List.set_cons_succ]
      refine wpAnyL_pureD (i := 20) 110 (.slice (some ⟨b3, o3, none⟩) ll q3) rfl rfl (by kernel_rfl) (by kernel_rfl) (by kernel_rfl) (fun _ _ _ h => h) (Or.inl ⟨by rfl, fun u _ => ?_⟩) ?_
      · go_simp
      try simp only [Act.put, List.setIfInBounds_toArray, List.set_cons_zero, List.set_cons_succ]
      refine wpAnyL_pureD (i := 21) 111 (.pointer (some ⟨b3, o3, none⟩)) rfl rfl (by kernel_rfl) (by kernel_rfl) (by kernel_rfl) (fun _ _ _ h => h) (Or.inl ⟨by rfl, fun u _ => ?_⟩) ?_
      · go_simp
      try simp only [Act.put, List.setIfInBounds_toArray, List.set_cons_zero, List.set_cons_succ]
      refine wpAnyL_takeD (i := 22) 112 (.int .i64 z) rfl rfl (by kernel_rfl) (by kernel_rfl) (by kernel_rfl) (by kernel_rfl) (by kernel_rfl) (fun _ _ _ h => h) hj1 (Or.inl ⟨by rfl, fun u hu => ?_⟩) ?_
      · obtain ⟨t0, t1⟩ := HF9.out u hu
        go_simp
      try simp only [Act.put, List.setIfInBounds_toArray, List.set_cons_zero, List.set_cons_succ]
      refine wpAnyL_pureD (i := 23) 113 (.bool true) rfl rfl (by kernel_rfl) (by kernel_rfl) (by kernel_rfl) (fun _ _ _ h => h) (Or.inl ⟨by rfl, fun u _ => ?_⟩) ?_
      · go_simp
      try simp only [Act.put, List.setIfInBounds_toArray, List.set_cons_zero, List.set_cons_succ]
      refine wpAnyL_pureD (i := 24) 114 (.bool true) rfl rfl (by kernel_rfl) (by kernel_rfl) (by kernel_rfl) (fun _ _ _ h => h) (Or.inl ⟨by rfl, fun u _ => ?_⟩) ?_
      · go_simp
      try simp only [Act.put, List.setIfInBounds_toArray, List.set_cons_zero, List.set_cons_succ]
      refine wpAnyL_pureD (i := 25) 115 (.bool true) rfl rfl (by kernel_rfl) (by kernel_rfl) (by kernel_rfl) (fun _ _ _ h => h) (Or.inl ⟨by rfl, fun u _ => ?_⟩) ?_
      · go_simp
      try simp only [Act.put, List.setIfInBounds_toArray, List.set_cons_zero, List.set_cons_succ]
      refine wpAnyL_one (i := 26) (by kernel_rfl) rfl (fun K hK => ?_)
      go_simp
      go_at_call 13
      refine (HAW.out _).mono ?_
      rintro e y2 ⟨rfl, hb2⟩
      have hj2 := hj1.trans (hb2.mono hj1.size)
      clear hb2
      show K _ _
      refine hK.out _ _ (fun _ _ => hj2) ?_
      clear hK K
      try simp only [Act.put, List.setIfInBounds_toArray, List.set_cons_zero, List.set_cons_succ]
      refine wpAnyL_pureD (i := 27) 117 (.bool true) rfl rfl (by kernel_rfl) (by kernel_rfl) (by kernel_rfl) (fun _ _ _ h => h) (Or.inl ⟨by rfl, fun u _ => ?_⟩) ?_
      · go_simp
      try simp only [Act.put, List.setIfInBounds_toArray, List.set_cons_zero, List.set_cons_succ]
      refine wpAnyL_pureD (i := 28) 6 (.bool true) rfl rfl (by kernel_rfl) (by kernel_rfl) (by kernel_rfl) (fun _ _ _ h => h) (Or.inl ⟨by rfl, fun u _ => ?_⟩) ?_
      · go_simp
      try simp only [Act.put, List.setIfInBounds_toArray, List.set_cons_zero, List.set_cons_succ]
      refine wpAnyL_done (by kernel_rfl) ?_ _
      try simp only [Act.put, List.setIfInBounds_toArray, List.set_cons_zero, List.set_cons_succ]
      have HBE := Lib.hid (HB0.out.trans ((HB.out.trans (hj2.mono HB.out.size)).mono HB0.out.size))
      clear hj0 hj1 hj2
      go_wp2
      go_ret
      exact ⟨rfl, HBE.out⟩
    | false =>
      rw [hlb] at HLO HA1
      rw [Bool.not_false] at HA1
      clear hlb
      obtain ⟨W, hW⟩ : ∃ W, W = w.alloc (Obj.cells #[.int .i64 n, .slice a L.length cap] 24) := ⟨_, rfl⟩
      have hB0 : Below w.heap.size w W := by rw [hW]; exact (Below.refl _ w).alloc (Nat.le_refl _) _
      have hG : Blk W w.heap.size 24 #[.int .i64 n, .slice a L.length cap] := by rw [hW]; exact Blk.new _ _ _
      have HW := Lib.hid hW
      have HSW : Hid (W.heap.size = w.heap.size + 1) := Lib.hid (by rw [hW]; simp)
      have HB0 := Lib.hid hB0
      have HF : Hid (∀ u, Below W.heap.size W u → u.cell? ⟨w.heap.size, 0, none⟩ = some (.int .i64 n) ∧ u.cell? ⟨w.heap.size, 1, none⟩ = some (.slice a L.length cap)) := Lib.hid fun u hu => ⟨(hG.below hu hG.lt).cell 0, (hG.below hu hG.lt).cell 1⟩
      have HB : Hid (Below W.heap.size W W) := Lib.hid (Below.refl _ _)
      have PEE := Lib.hid (h.keep hB0)
      have PO := Lib.hid (ho.keep hB0)
      have PS := Lib.hid (hs.keep hB0)
      clear hW hB0 hG h ho hs
      go_enter Try.func9, Try.ntmps9
      go_wp2_with fail
      rw [← HW.out]
      refine (HRT.out W PEE.out PO.out).mono ?_
      rintro e w0 ⟨rfl, hb⟩
      replace PEE := Lib.hid (PEE.out.keep hb)
      replace PO := Lib.hid (PO.out.keep hb)
      replace PS := Lib.hid (PS.out.keep hb)
      replace HB := Lib.hid (HB.out.trans (hb.mono HB.out.size))
      clear hb
      obtain ⟨g0, g1⟩ := HF.out w0 HB.out
      go_wp2_with fail
      refine (HRN.out w0 PS.out).mono ?_
      rintro e w1 ⟨rfl, hb⟩
      replace PEE := Lib.hid (PEE.out.keep hb)
      replace PO := Lib.hid (PO.out.keep hb)
      replace PS := Lib.hid (PS.out.keep hb)
      replace HB := Lib.hid (HB.out.trans (hb.mono HB.out.size))
      clear hb
      clear g0 g1
      obtain ⟨g0, g1⟩ := HF.out w1 HB.out
      go_wp2_with fail
      refine (HLO.out w1 PEE.out).mono ?_
      rintro e w2 ⟨rfl, hb⟩
      replace PEE := Lib.hid (PEE.out.keep hb)
      replace PO := Lib.hid (PO.out.keep hb)
      replace PS := Lib.hid (PS.out.keep hb)
      replace HB := Lib.hid (HB.out.trans (hb.mono HB.out.size))
      clear hb
      clear g0 g1
      obtain ⟨g0, g1⟩ := HF.out w2 HB.out
      go_wp2_with fail
      refine (HOR.out w2 PEE.out PS.out).mono ?_
      rintro e w3 ⟨p1, q1, rfl, hpR, hb⟩
      clear PS
      replace PEE := Lib.hid (PEE.out.keep hb)
      replace PO := Lib.hid (PO.out.keep hb)
      replace HB := Lib.hid (HB.out.trans (hb.mono HB.out.size))
      clear hb
      have PR := Lib.hid hpR
      clear hpR
      clear g0 g1
      obtain ⟨g0, g1⟩ := HF.out w3 HB.out
      go_wp2_with fail
      refine (HA1.out _ _ w3 PEE.out PR.out).mono ?_
      rintro e w4 ⟨p2, l2, q2, rfl, hb⟩
      clear PR
      replace PEE := Lib.hid (PEE.out.keep hb)
      replace PO := Lib.hid (PO.out.keep hb)
      replace HB := Lib.hid (HB.out.trans (hb.mono HB.out.size))
      clear hb
      clear g0 g1
      obtain ⟨g0, g1⟩ := HF.out w4 HB.out
      go_wp2_with fail
      refine (HA2.out w4 PEE.out PO.out).mono ?_
      rintro e w5 ⟨p3, q3, rfl, hpA, hb⟩
      replace PEE := Lib.hid (PEE.out.keep hb)
      replace PO := Lib.hid (PO.out.keep hb)
      replace HB := Lib.hid (HB.out.trans (hb.mono HB.out.size))
      clear hb
      have PA := Lib.hid hpA
      clear hpA
      clear g0 g1
      obtain ⟨g0, g1⟩ := HF.out w5 HB.out
      go_wp2_with fail
      refine (HO2.out _ _ w5 PEE.out PA.out).mono ?_
      rintro e w6 ⟨p4, q4, rfl, hpX, hb⟩
      replace PEE := Lib.hid (PEE.out.keep hb)
      replace PO := Lib.hid (PO.out.keep hb)
      replace PA := Lib.hid (PA.out.keep hb)
      replace HB := Lib.hid (HB.out.trans (hb.mono HB.out.size))
      clear hb
      have PX := Lib.hid hpX
      clear hpX
      clear g0 g1
      obtain ⟨g0, g1⟩ := HF.out w6 HB.out
      go_wp2_with fail
      refine (HSR.out w6 PEE.out PO.out).mono ?_
      rintro e w7 ⟨p5, q5, rfl, hpZ, hb⟩
      replace PEE := Lib.hid (PEE.out.keep hb)
      replace PO := Lib.hid (PO.out.keep hb)
      replace PA := Lib.hid (PA.out.keep hb)
      replace PX := Lib.hid (PX.out.keep hb)
      replace HB := Lib.hid (HB.out.trans (hb.mono HB.out.size))
      clear hb
      have PZ := Lib.hid hpZ
      clear hpZ
      clear g0 g1
      obtain ⟨g0, g1⟩ := HF.out w7 HB.out
      obtain ⟨b5, o5, e5, r5, y5⟩ := PZ.out.one 0 HS0.out
      subst e5
      rw [Nat.add_zero] at y5
      obtain ⟨b3, o3, e3, r3, y3⟩ := PA.out.one 0 HL0.out
      subst e3
      rw [Nat.add_zero] at y3
      have HF9 : Hid (∀ u, Below w7.heap.size w7 u → u.cell? ⟨b5, o5, none⟩ = some (.int .i64 (iAt S1 0)) ∧ u.cell? ⟨b3, o3, none⟩ = some (.int .i64 (iAt S1 0))) := Lib.hid fun u hu => ⟨(hu.cell (p := ⟨b5, o5, none⟩) r5).trans y5, by rw [HFS.out]; exact (hu.cell (p := ⟨b3, o3, none⟩) r3).trans y3⟩
      have hs0 := HS0.out
      have hl0 := HL0.out
      generalize iAt S1 0 = z at *
      generalize hls : S1.length = ls at *
      generalize hll : A1.length = ll at *
      have i5 : (0 : Int) < (ls : Int) := by omega
      have i6 : (0 : Int) < (ll : Int) := by omega
      have i7 : ls ≠ 0 := by omega
      have i8 : ll ≠ 0 := by omega
      clear y5 y3 r5 r3 hls hll hs0 hl0
      go_wp2
      clear g0 g1
      have hj0 : Below w7.heap.size w7 w7.drew := (Below.refl _ _).drew
      refine wp_region_late (S := fun u => Below w7.heap.size w7 u) (X := []) (by kernel_rfl) ?_
      refine wpAnyL_pureD (i := 0) 90 (.int .i64 0) rfl rfl (by kernel_rfl) (by kernel_rfl) (by kernel_rfl) (fun _ _ _ h => h) (Or.inl ⟨by rfl, fun u _ => ?_⟩) ?_
      · go_simp
      try simp only [Act.put, List.setIfInBounds_toArray, List.set_cons_zero, List.set_cons_succ]
      refine wpAnyL_pureD (i := 1) 91 (.bool true) rfl rfl (by kernel_rfl) (by kernel_rfl) (by kernel_rfl) (fun _ _ _ h => h) (Or.inl ⟨by rfl, fun u _ => ?_⟩) ?_
      · go_simp
      try simp only [Act.put, List.setIfInBounds_toArray, List.set_cons_zero, List.set_cons_succ]
      refine wpAnyL_pureD (i := 2) 92 (.bool true) rfl rfl (by kernel_rfl) (by kernel_rfl) (by kernel_rfl) (fun _ _ _ h => h) (Or.inl ⟨by rfl, fun u _ => ?_⟩) ?_
      · go_simp
      try simp only [Act.put, List.setIfInBounds_toArray, List.set_cons_zero, List.set_cons_succ]
      refine wpAnyL_pureD (i := 3) 93 (.int .i64 0) rfl rfl (by kernel_rfl) (by kernel_rfl) (by kernel_rfl) (fun _ _ _ h => h) (Or.inl ⟨by rfl, fun u _ => ?_⟩) ?_
      · go_simp
      try simp only [Act.put, List.setIfInBounds_toArray, List.set_cons_zero, List.set_cons_succ]
      refine wpAnyL_pureD (i := 4) 94 (.bool true) rfl rfl (by kernel_rfl) (by kernel_rfl) (by kernel_rfl) (fun _ _ _ h => h) (Or.inl ⟨by rfl, fun u _ => ?_⟩) ?_
      · go_simp
      try simp only [Act.put, List.setIfInBounds_toArray, List.set_cons_zero, List.set_cons_succ]
      refine wpAnyL_pureD (i := 5) 95 (.bool true) rfl rfl (by kernel_rfl) (by kernel_rfl) (by kernel_rfl) (fun _ _ _ h => h) (Or.inl ⟨by rfl, fun u _ => ?_⟩) ?_
      · go_simp
      try simp only [Act.put, List.setIfInBounds_toArray, List.set_cons_zero, List.set_cons_succ]
      refine wpAnyL_pureD (i := 6) 96 (.bool true) rfl rfl (by kernel_rfl) (by kernel_rfl) (by kernel_rfl) (fun _ _ _ h => h) (Or.inl ⟨by rfl, fun u _ => ?_⟩) ?_
      · go_simp
      try simp only [Act.put, List.setIfInBounds_toArray, List.set_cons_zero, List.set_cons_succ]
      refine wpAnyL_pureD (i := 7) 97 (.slice p4 O.length q4) rfl rfl (by kernel_rfl) (by kernel_rfl) (by kernel_rfl) (fun _ _ _ h => h) (Or.inl ⟨by rfl, fun u _ => ?_⟩) ?_
      · go_simp
      try simp only [Act.put, List.setIfInBounds_toArray, List.set_cons_zero, List.set_cons_succ]
      refine wpAnyL_pureD (i := 8) 98 (.slice b O.length c) rfl rfl (by kernel_rfl) (by kernel_rfl) (by kernel_rfl) (fun _ _ _ h => h) (Or.inl ⟨by rfl, fun u _ => ?_⟩) ?_
      · go_simp
      try simp only [Act.put, List.setIfInBounds_toArray, List.set_cons_zero, List.set_cons_succ]
      refine wpAnyL_one (i := 9) (by kernel_rfl) rfl (fun K hK => ?_)
      go_simp
      go_at_call 44
      refine (HEQ.out _ _ _ (PX.out.keep hj0) (PO.out.keep hj0)).mono ?_
      rintro e y1 ⟨rfl, hb1⟩
      have hj1 := hj0.trans (hb1.mono hj0.size)
      clear hb1
      show K _ _
      refine hK.out _ _ (fun _ _ => hj1) ?_
      clear hK K
      try simp only [Act.put, List.setIfInBounds_toArray, List.set_cons_zero, List.set_cons_succ]
      refine wpAnyL_pureD (i := 10) 100 (.bool true) rfl rfl (by kernel_rfl) (by kernel_rfl) (by kernel_rfl) (fun _ _ _ h => h) (Or.inl ⟨by rfl, fun u _ => ?_⟩) ?_
      · go_simp
      try simp only [Act.put, List.setIfInBounds_toArray, List.set_cons_zero, List.set_cons_succ]
      refine wpAnyL_pureD (i := 11) 101 (.bool true) rfl rfl (by kernel_rfl) (by kernel_rfl) (by kernel_rfl) (fun _ _ _ h => h) (Or.inl ⟨by rfl, fun u _ => ?_⟩) ?_
      · go_simp
      try simp only [Act.put, List.setIfInBounds_toArray, List.set_cons_zero, List.set_cons_succ]
      refine wpAnyL_pureD (i := 12) 102 (.slice (some ⟨b5, o5, none⟩) ls q5) rfl rfl (by kernel_rfl) (by kernel_rfl) (by kernel_rfl) (fun _ _ _ h => h) (Or.inl ⟨by rfl, fun u _ => ?_⟩) ?_
      · go_simp
      try simp only [Act.put, List.setIfInBounds_toArray, List.set_cons_zero, List.set_cons_succ]
      refine wpAnyL_pureD (i := 13) 103 (.int .i64 (ls : Int)) rfl rfl (by kernel_rfl) (by kernel_rfl) (by kernel_rfl) (fun _ _ _ h => h) (Or.inl ⟨by rfl, fun u _ => ?_⟩) ?_
      · go_simp
      try simp only [Act.put, List.setIfInBounds_toArray, List.set_cons_zero, List.set_cons_succ]
      refine wpAnyL_pureD (i := 14) 104 (.bool true) rfl rfl (by kernel_rfl) (by kernel_rfl) (by kernel_rfl) (fun _ _ _ h => h) (Or.inl ⟨by rfl, fun u _ => ?_⟩) ?_
      · go_simp
        try omega
      try simp only [Act.put, List.setIfInBounds_toArray, List.set_cons_zero, List.set_cons_succ]
      refine wpAnyL_pureD (i := 15) 105 (.bool true) rfl rfl (by kernel_rfl) (by kernel_rfl) (by kernel_rfl) (fun _ _ _ h => h) (Or.inl ⟨by rfl, fun u _ => ?_⟩) ?_
      · go_simp
      try simp only [Act.put, List.setIfInBounds_toArray, List.set_cons_zero, List.set_cons_succ]
      refine wpAnyL_pureD (i := 16) 106 (.bool true) rfl rfl (by kernel_rfl) (by kernel_rfl) (by kernel_rfl) (fun _ _ _ h => h) (Or.inl ⟨by rfl, fun u _ => ?_⟩) ?_
      · go_simp
      try simp only [Act.put, List.setIfInBounds_toArray, List.set_cons_zero, List.set_cons_succ]
      refine wpAnyL_pureD (i := 17) 107 (.slice (some ⟨b5, o5, none⟩) ls q5) rfl rfl (by kernel_rfl) (by kernel_rfl) (by kernel_rfl) (fun _ _ _ h => h) (Or.inl ⟨by rfl, fun u _ => ?_⟩) ?_
      · go_simp
      try simp only [Act.put, List.setIfInBounds_toArray, List.set_cons_zero, List.set_cons_succ]
      refine wpAnyL_pureD (i := 18) 108 (.pointer (some ⟨b5, o5, none⟩)) rfl rfl (by kernel_rfl) (by kernel_rfl) (by kernel_rfl) (fun _ _ _ h => h) (Or.inl ⟨by rfl, fun u _ => ?_⟩) ?_
      · go_simp
      try simp only [Act.put, List.setIfInBounds_toArray, List.set_cons_zero, List.set_cons_succ]
      refine wpAnyL_takeD (i := 19) 109 (.int .i64 z) rfl rfl (by kernel_rfl) (by kernel_rfl) (by kernel_rfl) (by kernel_rfl) (by kernel_rfl) (fun _ _ _ h => h) hj1 (Or.inl ⟨by rfl, fun u hu => ?_⟩) ?_
      · obtain ⟨t0, t1⟩ := HF9.out u hu
        go_simp
      try simp only [Act.put, List.setIfInBounds_toArray, List.set_cons_zero, List.set_cons_succ]
      refine wpAnyL_pureD (i := 20) 110 (.slice (some ⟨b3, o3, none⟩) ll q3) rfl rfl (by kernel_rfl) (by kernel_rfl) (by kernel_rfl) (fun _ _ _ h => h) (Or.inl ⟨by rfl, fun u _ => ?_⟩) ?_
      · go_simp
      try simp only [Act.put, List.setIfInBounds_toArray, List.set_cons_zero, List.set_cons_succ]
      refine wpAnyL_pureD (i := 21) 111 (.pointer (some ⟨b3, o3, none⟩)) rfl rfl (by kernel_rfl) (by kernel_rfl) (by kernel_rfl) (fun _ _ _ h => h) (Or.inl ⟨by rfl, fun u _ => ?_⟩) ?_
      · go_simp
      try simp only [Act.put, List.setIfInBounds_toArray, List.set_cons_zero, List.set_cons_succ]
      refine wpAnyL_takeD (i := 22) 112 (.int .i64 z) rfl rfl (by kernel_rfl) (by kernel_rfl) (by kernel_rfl) (by kernel_rfl) (by kernel_rfl) (fun _ _ _ h => h) hj1 (Or.inl ⟨by rfl, fun u hu => ?_⟩) ?_
      · obtain ⟨t0, t1⟩ := HF9.out u hu
        go_simp
      try simp only [Act.put, List.setIfInBounds_toArray, List.set_cons_zero, List.set_cons_succ]
      refine wpAnyL_pureD (i := 23) 113 (.bool true) rfl rfl (by kernel_rfl) (by kernel_rfl) (by kernel_rfl) (fun _ _ _ h => h) (Or.inl ⟨by rfl, fun u _ => ?_⟩) ?_
      · go_simp
      try simp only [Act.put, List.setIfInBounds_toArray, List.set_cons_zero, List.set_cons_succ]
      refine wpAnyL_pureD (i := 24) 114 (.bool true) rfl rfl (by kernel_rfl) (by kernel_rfl) (by kernel_rfl) (fun _ _ _ h => h) (Or.inl ⟨by rfl, fun u _ => ?_⟩) ?_
      · go_simp
      try simp only [Act.put, List.setIfInBounds_toArray, List.set_cons_zero, List.set_cons_succ]
      refine wpAnyL_pureD (i := 25) 115 (.bool true) rfl rfl (by kernel_rfl) (by kernel_rfl) (by kernel_rfl) (fun _ _ _ h => h) (Or.inl ⟨by rfl, fun u _ => ?_⟩) ?_
      · go_simp
      try simp only [Act.put, List.setIfInBounds_toArray, List.set_cons_zero, List.set_cons_succ]
      refine wpAnyL_one (i := 26) (by kernel_rfl) rfl (fun K hK => ?_)
      go_simp
      go_at_call 13
      refine (HAW.out _).mono ?_
      rintro e y2 ⟨rfl, hb2⟩
      have hj2 := hj1.trans (hb2.mono hj1.size)
      clear hb2
      show K _ _
      refine hK.out _ _ (fun _ _ => hj2) ?_
      clear hK K
      try simp only [Act.put, List.setIfInBounds_toArray, List.set_cons_zero, List.set_cons_succ]
      refine wpAnyL_pureD (i := 27) 117 (.bool true) rfl rfl (by kernel_rfl) (by kernel_rfl) (by kernel_rfl) (fun _ _ _ h => h) (Or.inl ⟨by rfl, fun u _ => ?_⟩) ?_
      · go_simp
      try simp only [Act.put, List.setIfInBounds_toArray, List.set_cons_zero, List.set_cons_succ]
      refine wpAnyL_pureD (i := 28) 6 (.bool true) rfl rfl (by kernel_rfl) (by kernel_rfl) (by kernel_rfl) (fun _ _ _ h => h) (Or.inl ⟨by rfl, fun u _ => ?_⟩) ?_
      · go_simp
      try simp only [Act.put, List.setIfInBounds_toArray, List.set_cons_zero, List.set_cons_succ]
      refine wpAnyL_done (by kernel_rfl) ?_ _
      try simp only [Act.put, List.setIfInBounds_toArray, List.set_cons_zero, List.set_cons_succ]
      have HBE := Lib.hid (HB0.out.trans ((HB.out.trans (hj2.mono HB.out.size)).mono HB0.out.size))
      clear hj0 hj1 hj2
      go_wp2
      go_ret
      exact ⟨rfl, HBE.out⟩
end Go.Proofs.Ytlnaahkheankoaa
