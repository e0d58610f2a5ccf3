/- The reference: spanning trees, enumerated. -/
import Derived.Test.YtgfbihdnjidodaaZPk
namespace Go.Proofs.Ytgfbihdnjidodaa
open Go.RowKit Go.Shelf Go.Proofs.Gr
attribute [local go_sem] Oper.semAt_some

set_option maxHeartbeats 12800000 in
set_option maxRecDepth 100000 in
theorem rconnected_no (n : Nat) (hn : n ≤ 100) (a : Option Addr) (cap : Nat) (L : List E) (hL : L.length ≤ 100000) (hR : Right n L) (h1 : partsR L n ≠ 1) (w : World) (h : EsAt w a L) : Calls Try.prog 21 #[gv n a L.length cap] w (fun e x => e = .returned (.bool false) ∧ Below w.heap.size w x) := by
  have HPA := Lib.hid (fun w h => rparts_any n hn a cap L hL hR.srt w h)
  have t0 : (((partsR L n : Nat) : Int) == 1) = false := by rw [beq_eq_false_iff_ne]; omega
  generalize ((partsR L n : Nat) : Int) = q at *
  unfold GivesN gv at *
  obtain ⟨W, hW⟩ : ∃ W, W = w.alloc (Obj.cells #[.int .i64 n, .slice a L.length cap] 31) := ⟨_, rfl⟩
  have HB0 : Hid (Below w.heap.size w W) := Lib.hid (by rw [hW]; exact (Below.refl _ w).alloc (Nat.le_refl _) _)
  have hG : Blk W w.heap.size 31 #[.int .i64 n, .slice a L.length cap] := by rw [hW]; exact Blk.new _ _ _
  have HC := Lib.hid (HPA.out W (h.keep HB0.out))
  have HW := Lib.hid hW
  have g0 : W.cell? ⟨w.heap.size, 0, none⟩ = some (.int .i64 (n : Nat)) := hG.cell 0
  have g1 : W.cell? ⟨w.heap.size, 1, none⟩ = some (.slice a L.length cap) := hG.cell 1
  clear hG hW h hR h1
  go_enter Try.func21, Try.ntmps21
  go_wp2_with fail
  rw [← HW.out]
  go_wp2_with fail
  refine HC.out.mono ?_
  rintro e x1 ⟨rfl, hb1⟩
  have HB1 := Lib.hid (HB0.out.trans (hb1.mono HB0.out.size))
  clear hb1 g0 g1
  go_wp2
  go_ret
  exact ⟨rfl, HB1.out⟩
theorem rconnected_any (n : Nat) (hn : n ≤ 100) (a : Option Addr) (cap : Nat) (L : List E) (hL : L.length ≤ 100000) (hR : Right n L) (w : World) (h : EsAt w a L) : Calls Try.prog 21 #[gv n a L.length cap] w (fun e x => e = .returned (.bool (decide (compsU n L = 1))) ∧ Below w.heap.size w x) := by
  have hc := comps_parts hR
  by_cases h1 : partsR L n = 1
  · rw [decide_eq_true (by rw [hc, h1]; rfl)]
    exact rconnected_one n hn a cap L hL hR h1 w h
  · rw [decide_eq_false (by rw [hc]; omega)]
    exact rconnected_no n hn a cap L hL hR h1 w h
set_option maxHeartbeats 12800000 in
set_option maxRecDepth 100000 in
theorem renum_walk (N : Nat) (hN : 1 ≤ N ∧ N ≤ 12) (a : Option Addr) (cap : Nat) (L : List E) (s T : Nat) (hT : T ≤ 1048576) (HSZ : Hid (∀ w, EsAt w a L → Calls Try.prog 17 #[.agg #[.int .i64 (N : Nat), .slice a L.length cap]] w (fun e x => e = .returned (.int .i64 (s : Nat)) ∧ Below w.heap.size w x))) (HPW : Hid (∀ w, Calls Try.prog 33 #[.int .i64 2, .int .i64 (s : Nat)] w (fun e x => e = .returned (.int .i64 (T : Nat)) ∧ Below w.heap.size w x))) (SB : Nat → List Int) (HSB : Hid (∀ u w, u ≤ 1048576 → Calls Try.prog 34 #[.int .i64 (s : Nat), .int .i64 (u : Nat)] w (GivesO w (SB u)))) (WJ : Nat → List E) (HWI : Hid (∀ u b c w, (SB u).length + 1 = N → EsAt w a L → IsAt w b (SB u) → Calls Try.prog 35 #[.agg #[.int .i64 (N : Nat), .slice a L.length cap], .slice b (SB u).length c] w (fun e x => ∃ a2 c2, e = .returned (.agg #[.int .i64 (N : Nat), .slice a2 (WJ u).length c2]) ∧ EsAt x a2 (WJ u) ∧ Below w.heap.size w x))) (CN : Nat → Bool) (HCO : Hid (∀ u a c w, (SB u).length + 1 = N → EsAt w a (WJ u) → Calls Try.prog 21 #[.agg #[.int .i64 (N : Nat), .slice a (WJ u).length c]] w (fun e x => e = .returned (.bool (CN u)) ∧ Below w.heap.size w x))) (EN : Nat → Nat) (HE0 : Hid (EN 0 = 0)) (HES : Hid (∀ u, EN (u + 1) = EN u + if (SB u).length + 1 = N ∧ CN u = true then 1 else 0)) (HEB : Hid (∀ u, EN u ≤ u)) (w : World) (h : EsAt w a L) :
    Calls Try.prog 19 #[.agg #[.int .i64 (N : Nat), .slice a L.length cap]] w (fun e x => e = .returned (.int .i64 (EN T : Nat)) ∧ Below w.heap.size w x) := by
  obtain ⟨q, hq⟩ : ∃ q, q = (N : Int) - 1 := ⟨_, rfl⟩
  have e1 : IntKind.i64.wrap ((N : Int) - 1) = q := by rw [hq]; exact IntWalk.i64_in _ (by omega)
  have HQ := Lib.hid hq
  unfold GivesO at HSB
  obtain ⟨W, hW⟩ : ∃ W, W = w.alloc (Obj.cells #[.int .i64 (N : Nat), .slice a L.length cap] 31) := ⟨_, rfl⟩
  have HB0 : Hid (Below w.heap.size w W) := Lib.hid (by rw [hW]; exact (Below.refl _ w).alloc (Nat.le_refl _) _)
  have HX : Hid (BoxAt W w.heap.size (N : Nat) a L.length cap) := Lib.hid (by rw [hW]; exact Blk.new _ _ _)
  have HE := Lib.hid (h.keep HB0.out)
  have HW := Lib.hid hW
  have g0 : W.cell? ⟨w.heap.size, 0, none⟩ = some (.int .i64 (N : Nat)) := HX.out.cell 0
  have g1 : W.cell? ⟨w.heap.size, 1, none⟩ = some (.slice a L.length cap) := HX.out.cell 1
  clear hW h hq
  go_enter Try.func19, Try.ntmps19
  go_wp2_with fail
  rw [← HW.out]
  go_wp2_with fail
  refine (HSZ.out _ HE.out).mono ?_
  rintro e x1 ⟨rfl, hb1⟩
  have HB1 := Lib.hid hb1
  clear hb1 g0 g1
  go_wp2
  go_loopw [4, 5, 6] (fun c x v wr => ∃ u : Nat, u ≤ T ∧ x = .int .i64 u ∧ c = .int .i64 (EN u : Nat) ∧ Below W.heap.size W wr) (fun _ x _ _ => T - (intOf x).toNat)
  case atStart => exact ⟨0, by omega, rfl, by rw [HE0.out]; rfl, HB1.out⟩
  case round =>
    obtain ⟨u, hu, rfl, rfl, hb⟩ := hrel
    have HBW := Lib.hid hb
    clear hb
    go_wp2_with fail
    refine (HPW.out _).mono ?_
    rintro e x2 ⟨rfl, hb2⟩
    have HB2 := Lib.hid (HBW.out.trans (hb2.mono HBW.out.size))
    clear hb2
    by_cases hlt : u < T
    · have u1 : (u : Int) < (T : Int) := by omega
      have heb := HEB.out u
      have hes := HES.out u
      go_wp2_with fail
      refine (HSB.out u _ (by omega)).mono ?_
      rintro e x3 ⟨v3, rfl, hown, hb3⟩
      obtain ⟨sa, sc, hsv, hms⟩ := RowAt.of_own (k := 1) encI_len hown
      subst hsv
      have HB3 := Lib.hid (HB2.out.trans (hb3.mono HB2.out.size))
      have hX := HX.out.keep HB3.out
      have g0 : x3.cell? ⟨w.heap.size, 0, none⟩ = some (.int .i64 (N : Nat)) := hX.cell 0
      have g1 : x3.cell? ⟨w.heap.size, 1, none⟩ = some (.slice a L.length cap) := hX.cell 1
      by_cases hlen : (SB u).length + 1 = N
      · have t0 : ((((SB u).length : Nat) : Int) == q) = true := by rw [beq_iff_eq, HQ.out]; omega
        have HWC := Lib.hid (HWI.out u sa sc x3 hlen (HE.out.keep HB3.out) hms)
        have HCC := Lib.hid (fun a c w h => HCO.out u a c w hlen h)
        generalize hcn : CN u = cn at *
        have HES0 := Lib.hid hes
        have HLEN := Lib.hid hlen
        generalize SB u = SU at *
        generalize WJ u = WU at *
        clear hown hms hb3 hX hes hlen
        go_wp2_with fail
        refine HWC.out.mono ?_
        rintro e x4 ⟨a4, c4, rfl, he4, hb4⟩
        have HB4 := Lib.hid (HB3.out.trans (hb4.mono HB3.out.size))
        have HC4 := Lib.hid (HCC.out a4 c4 x4 he4)
        clear he4 hb4 g0 g1
        go_wp2_with fail
        refine HC4.out.mono ?_
        rintro e x5 ⟨rfl, hb5⟩
        have HB5 := Lib.hid (HB4.out.trans (hb5.mono HB4.out.size))
        clear hb5
        rcases Bool.eq_false_or_eq_true cn with hc | hc
        · have HES1 : Hid (EN (u + 1) = EN u + 1) := Lib.hid (by rw [HES0.out, if_pos ⟨HLEN.out, hc⟩])
          subst hc
          clear hcn
          go_wp2
          go_roundw
          case rel => exact ⟨u + 1, by omega, by go_num, by rw [HES1.out]; go_num, HB5.out⟩
          case measure => simp [intOf]; omega
        · have HES1 : Hid (EN (u + 1) = EN u) := Lib.hid (by rw [HES0.out, if_neg (by rintro ⟨p1, p2⟩; rw [hc] at p2; cases p2), Nat.add_zero])
          subst hc
          clear hcn
          go_wp2
          go_roundw
          case rel => exact ⟨u + 1, by omega, by go_num, by rw [HES1.out], HB5.out⟩
          case measure => simp [intOf]; omega
      · have t0 : ((((SB u).length : Nat) : Int) == q) = false := by rw [beq_eq_false_iff_ne, HQ.out]; omega
        have HES1 : Hid (EN (u + 1) = EN u) := Lib.hid (by rw [hes, if_neg (by rintro ⟨p1, p2⟩; exact hlen p1), Nat.add_zero])
        generalize SB u = SU at *
        clear hown hms hb3 hX hes hlen
        go_wp2
        go_roundw
        case rel => exact ⟨u + 1, by omega, by go_num, by rw [HES1.out], HB3.out⟩
        case measure => simp [intOf]; omega
    · obtain rfl : u = T := by omega
      have u1 : ¬ (u : Int) < (u : Int) := by omega
      have HF := Lib.hid (HB0.out.trans (HB2.out.mono HB0.out.size))
      go_wp2
      go_ret
      exact ⟨rfl, HF.out⟩
end Go.Proofs.Ytgfbihdnjidodaa
