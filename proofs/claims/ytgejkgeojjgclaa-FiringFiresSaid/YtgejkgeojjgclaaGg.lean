/- Check of the program. -/
import Derived.Test.YtgejkgeojjgclaaGf
namespace Go.Proofs.Ytgejkgeojjgclaa
open Go.RowKit Go.Proofs.Gr

theorem rngE_eq (n : Int) (x : E) : rngE n x = (isV n x.a && isV n x.b && decide (1 ≤ x.m) && decide (x.m ≤ 50)) := rfl
/-- Hands back a number; what lay below is as it was. -/
def GivesN (w : World) (z : Int) (e : Ending) (w' : World) : Prop := e = .returned (.int .i64 z) ∧ Below w.heap.size w w'

set_option maxHeartbeats 12800000 in
set_option maxRecDepth 100000 in
theorem check_any (n : Int) (a : Option Addr) (cap : Nat) (L : List E) (hL : L.length ≤ 4611686018427387904) (w : World) (h : EsAt w a L) :
    Calls Try.prog 69 #[gv n a L.length cap] w (GivesN w (chkG n L : Nat)) := by
  have HV := Lib.hid (fun v w => isVertex_any n a L.length cap v w)
  have HCM := Lib.hid (fun x y w => compare_below x y w)
  unfold GivesN gv at *
  unfold ev at HCM
  by_cases hn : n < 1 ∨ 12 < n
  · have HR : Hid (chkG n L = 2) := Lib.hid (by unfold chkG; rw [if_pos hn])
    have HB := Lib.hid ((Below.refl _ w).alloc (Nat.le_refl _) (Obj.cells #[.int .i64 n, .slice a L.length cap] 24))
    have hc := (Blk.new w 24 #[.int .i64 n, .slice a L.length cap]).cell 0
    by_cases h1 : n < 1
    · have d1 : decide (n < 1) = true := decide_eq_true h1
      clear h
      go_enter Try.func69, Try.ntmps69
      go_wp2
      go_ret
      exact ⟨by rw [HR.out]; rfl, HB.out⟩
    · have d1 : decide (n < 1) = false := decide_eq_false h1
      have d2 : decide (12 < n) = true := decide_eq_true (by omega)
      clear h
      go_enter Try.func69, Try.ntmps69
      go_wp2
      go_ret
      exact ⟨by rw [HR.out]; rfl, HB.out⟩
  have HR : Hid (chkG n L = firstE (errAt n L) L.length) := Lib.hid (by unfold chkG; rw [if_neg hn])
  have d1 : decide (n < 1) = false := decide_eq_false (by omega)
  have d2 : decide (12 < n) = false := decide_eq_false (by omega)
  clear hn
  obtain ⟨W, hW⟩ : ∃ W, W = w.alloc (Obj.cells #[.int .i64 n, .slice a L.length cap] 24) := ⟨_, rfl⟩
  have hB0 : Below w.heap.size w W := by rw [hW]; exact (Below.refl _ w).alloc (Nat.le_refl _) _
  have hG : Blk W w.heap.size 24 #[.int .i64 n, .slice a L.length cap] := by rw [hW]; exact Blk.new _ _ _
  have HW := Lib.hid hW
  have HB0 := Lib.hid hB0
  have HG := Lib.hid hG
  have HE := Lib.hid (h.keep hB0)
  have g0 : W.cell? ⟨w.heap.size, 0, none⟩ = some (.int .i64 n) := hG.cell 0
  have g1 : W.cell? ⟨w.heap.size, 1, none⟩ = some (.slice a L.length cap) := hG.cell 1
  generalize chkG n L = R at *
  clear h hB0 hG hW
  go_enter Try.func69, Try.ntmps69
  go_wp2
  rw [← HW.out]
  go_wp2
  go_loopw [16] (fun v wr => ∃ i : Nat, i ≤ L.length ∧ v = .int .i64 i ∧ (∀ j, j < i → errAt n L j = 0) ∧ Below W.heap.size W wr) (fun v _ => L.length - (intOf v).toNat)
  case atStart => exact ⟨0, by omega, rfl, fun j hj => by omega, Below.refl _ _⟩
  case round =>
    obtain ⟨i, hi, rfl, hz, hb⟩ := hrel
    by_cases hlt : i < L.length
    · obtain ⟨T, hTe⟩ : ∃ T, T = eAt L i := ⟨_, rfl⟩
      have HT := Lib.hid hTe
      obtain ⟨b1, o1, rfl, q1, x1, x2, x3⟩ := (HE.out.keep hb).three i hlt
      rw [← hTe] at x1 x2 x3
      have HEr : Hid (errAt n L i = if rngE n T = false then 2 else if T.b < T.a then 9 else if 0 < i ∧ ltE (eAt L (i - 1)) T = false then 9 else 0) := Lib.hid (by rw [hTe]; rfl)
      have HZ := Lib.hid hz
      have HFI : Hid (errAt n L i ≠ 0 → R = errAt n L i) := Lib.hid (fun hne => by rw [HR.out]; exact firstE_at HZ.out hne hlt)
      have HNX : Hid (errAt n L i = 0 → ∀ j, j < i + 1 → errAt n L j = 0) := Lib.hid (fun h0 j hj => by
        by_cases e : j = i
        · subst e; exact h0
        · exact HZ.out j (by omega))
      generalize errAt n L i = er at *
      obtain ⟨ta, tb, tm⟩ := T
      simp only at x1 x2 x3
      have HRg := Lib.hid (rngE_eq n ⟨ta, tb, tm⟩)
      simp only at HRg
      have g0' : wr.cell? ⟨w.heap.size, 0, none⟩ = some (.int .i64 n) := (HG.out.below hb HG.out.lt).cell 0
      have g1' : wr.cell? ⟨w.heap.size, 1, none⟩ = some (.slice (some ⟨b1, o1, none⟩) L.length cap) := (HG.out.below hb HG.out.lt).cell 1
      have HGr := Lib.hid (HG.out.below hb HG.out.lt)
      have HBr := Lib.hid hb
      obtain ⟨V, hV⟩ : ∃ V, V = wr.alloc (Obj.cells #[.int .i64 ta, .int .i64 tb, .int .i64 tm] 103) := ⟨_, rfl⟩
      have HVe := Lib.hid hV
      have HBV : Hid (Below W.heap.size W V) := Lib.hid (by rw [hV]; exact hb.alloc hb.size _)
      have HGV : Hid (Blk V w.heap.size 24 #[.int .i64 n, .slice (some ⟨b1, o1, none⟩) L.length cap]) := Lib.hid (by rw [hV]; exact HGr.out.alloc _)
      have HQV : Hid (Blk V wr.heap.size 103 #[.int .i64 ta, .int .i64 tb, .int .i64 tm]) := Lib.hid (by rw [hV]; exact Blk.new _ _ _)
      have HFAC : Hid (∀ x, Below V.heap.size V x → (x.cell? ⟨w.heap.size, 0, none⟩ = some (.int .i64 n) ∧ x.cell? ⟨w.heap.size, 1, none⟩ = some (.slice (some ⟨b1, o1, none⟩) L.length cap) ∧ x.cell? ⟨wr.heap.size, 0, none⟩ = some (.int .i64 ta) ∧ x.cell? ⟨wr.heap.size, 1, none⟩ = some (.int .i64 tb) ∧ x.cell? ⟨wr.heap.size, 2, none⟩ = some (.int .i64 tm))) :=
        fun x hx => ⟨(HGV.out.below hx HGV.out.lt).cell 0, (HGV.out.below hx HGV.out.lt).cell 1, (HQV.out.below hx HQV.out.lt).cell 0, (HQV.out.below hx HQV.out.lt).cell 1, (HQV.out.below hx HQV.out.lt).cell 2⟩
      have g2' : (wr.alloc (Obj.cells #[.int .i64 ta, .int .i64 tb, .int .i64 tm] 103)).cell? ⟨w.heap.size, 0, none⟩ = some (.int .i64 n) := by rw [← hV]; exact (HFAC.out _ (Below.refl _ V)).1
      have g3' : (wr.alloc (Obj.cells #[.int .i64 ta, .int .i64 tb, .int .i64 tm] 103)).cell? ⟨w.heap.size, 1, none⟩ = some (.slice (some ⟨b1, o1, none⟩) L.length cap) := by rw [← hV]; exact (HFAC.out _ (Below.refl _ V)).2.1
      clear hb hTe hz hV
      have HVA := Lib.hid (fun w => HV.out ta w)
      have HVB := Lib.hid (fun w => HV.out tb w)
      have HVE : Hid (isV n ta = isV n ta) := Lib.hid rfl
      generalize hva : isV n ta = va at *
      generalize hvb : isV n tb = vb at *
      cases va
      · have HEr' : er = 2 := by rw [HEr.out, HRg.out]; rfl
        go_wp2_with fail
        rw [← HVe.out]
        refine (HVA.out _).mono ?_
        rintro e w1 ⟨rfl, hb1⟩
        have hk1 : Below V.heap.size V w1 := hb1
        obtain ⟨f10, f11, f12, f13, f14⟩ := HFAC.out _ hk1
        clear hb1
        go_wp2
        go_ret
        exact ⟨by rw [HFI.out (by rw [HEr']; omega), HEr']; rfl, HB0.out.trans ((HBV.out.trans (hk1.mono HBV.out.size)).mono HB0.out.size)⟩
      · cases vb
        · have HEr' : er = 2 := by rw [HEr.out, HRg.out]; rfl
          go_wp2_with fail
          rw [← HVe.out]
          refine (HVA.out _).mono ?_
          rintro e w1 ⟨rfl, hb1⟩
          have hk1 : Below V.heap.size V w1 := hb1
          obtain ⟨f10, f11, f12, f13, f14⟩ := HFAC.out _ hk1
          clear hb1
          go_wp2_with fail
          refine (HVB.out _).mono ?_
          rintro e w2 ⟨rfl, hb2⟩
          have hk2 : Below V.heap.size V w2 := hk1.trans (hb2.mono hk1.size)
          obtain ⟨f20, f21, f22, f23, f24⟩ := HFAC.out _ hk2
          clear hb2
          go_wp2
          go_ret
          exact ⟨by rw [HFI.out (by rw [HEr']; omega), HEr']; rfl, HB0.out.trans ((HBV.out.trans (hk2.mono HBV.out.size)).mono HB0.out.size)⟩
        · by_cases hm1 : tm < 1
          · have HEr' : er = 2 := by rw [HEr.out, HRg.out, decide_eq_false (by omega : ¬ 1 ≤ tm)]; rfl
            have c1 : decide (tm < 1) = true := decide_eq_true hm1
            go_wp2_with fail
            rw [← HVe.out]
            refine (HVA.out _).mono ?_
            rintro e w1 ⟨rfl, hb1⟩
            have hk1 : Below V.heap.size V w1 := hb1
            obtain ⟨f10, f11, f12, f13, f14⟩ := HFAC.out _ hk1
            clear hb1
            go_wp2_with fail
            refine (HVB.out _).mono ?_
            rintro e w2 ⟨rfl, hb2⟩
            have hk2 : Below V.heap.size V w2 := hk1.trans (hb2.mono hk1.size)
            obtain ⟨f20, f21, f22, f23, f24⟩ := HFAC.out _ hk2
            clear hb2
            go_wp2
            go_ret
            exact ⟨by rw [HFI.out (by rw [HEr']; omega), HEr']; rfl, HB0.out.trans ((HBV.out.trans (hk2.mono HBV.out.size)).mono HB0.out.size)⟩
          · by_cases hm2 : 50 < tm
            · have HEr' : er = 2 := by rw [HEr.out, HRg.out, decide_eq_false (by omega : ¬ tm ≤ 50)]; simp
              have c1 : decide (tm < 1) = false := decide_eq_false hm1
              have c2 : decide (50 < tm) = true := decide_eq_true hm2
              go_wp2_with fail
              rw [← HVe.out]
              refine (HVA.out _).mono ?_
              rintro e w1 ⟨rfl, hb1⟩
              have hk1 : Below V.heap.size V w1 := hb1
              obtain ⟨f10, f11, f12, f13, f14⟩ := HFAC.out _ hk1
              clear hb1
              go_wp2_with fail
              refine (HVB.out _).mono ?_
              rintro e w2 ⟨rfl, hb2⟩
              have hk2 : Below V.heap.size V w2 := hk1.trans (hb2.mono hk1.size)
              obtain ⟨f20, f21, f22, f23, f24⟩ := HFAC.out _ hk2
              clear hb2
              go_wp2
              go_ret
              exact ⟨by rw [HFI.out (by rw [HEr']; omega), HEr']; rfl, HB0.out.trans ((HBV.out.trans (hk2.mono HBV.out.size)).mono HB0.out.size)⟩
            · have c1 : decide (tm < 1) = false := decide_eq_false hm1
              have c2 : decide (50 < tm) = false := decide_eq_false hm2
              have HRt : Hid (rngE n ⟨ta, tb, tm⟩ = true) := Lib.hid (by rw [HRg.out, decide_eq_true (by omega : 1 ≤ tm), decide_eq_true (by omega : tm ≤ 50)]; rfl)
              by_cases hab : tb < ta
              · have HEr' : er = 9 := by rw [HEr.out, HRt.out, if_neg (by simp), if_pos hab]
                have c3 : decide (tb < ta) = true := decide_eq_true hab
                go_wp2_with fail
                rw [← HVe.out]
                refine (HVA.out _).mono ?_
                rintro e w1 ⟨rfl, hb1⟩
                have hk1 : Below V.heap.size V w1 := hb1
                obtain ⟨f10, f11, f12, f13, f14⟩ := HFAC.out _ hk1
                clear hb1
                go_wp2_with fail
                refine (HVB.out _).mono ?_
                rintro e w2 ⟨rfl, hb2⟩
                have hk2 : Below V.heap.size V w2 := hk1.trans (hb2.mono hk1.size)
                obtain ⟨f20, f21, f22, f23, f24⟩ := HFAC.out _ hk2
                clear hb2
                go_wp2
                go_quiet (fail)
                have hkX : Below V.heap.size V (w2.drewN nq) := below_drewN hk2 _
                go_wp2
                go_ret
                exact ⟨by rw [HFI.out (by rw [HEr']; omega), HEr']; rfl, HB0.out.trans ((HBV.out.trans (hkX.mono HBV.out.size)).mono HB0.out.size)⟩
              · have c3 : decide (tb < ta) = false := decide_eq_false hab
                rcases Nat.eq_zero_or_pos i with hi0 | hi0
                · subst hi0
                  have HEr' : er = 0 := by rw [HEr.out, HRt.out, if_neg (by simp), if_neg hab, if_neg (by omega)]
                  simp only [Nat.zero_mul, Nat.add_zero] at x1 x2 x3
                  go_wp2_with fail
                  rw [← HVe.out]
                  refine (HVA.out _).mono ?_
                  rintro e w1 ⟨rfl, hb1⟩
                  have hk1 : Below V.heap.size V w1 := hb1
                  obtain ⟨f10, f11, f12, f13, f14⟩ := HFAC.out _ hk1
                  clear hb1
                  go_wp2_with fail
                  refine (HVB.out _).mono ?_
                  rintro e w2 ⟨rfl, hb2⟩
                  have hk2 : Below V.heap.size V w2 := hk1.trans (hb2.mono hk1.size)
                  obtain ⟨f20, f21, f22, f23, f24⟩ := HFAC.out _ hk2
                  clear hb2
                  go_wp2
                  go_quiet (fail)
                  have hkX : Below V.heap.size V (w2.drewN nq) := below_drewN hk2 _
                  go_wp2
                  go_roundw
                  case rel => exact ⟨0 + 1, by omega, by go_num, HNX.out HEr', HBV.out.trans (hkX.mono HBV.out.size)⟩
                  case measure => simp [intOf]; omega
                · obtain ⟨m, rfl⟩ : ∃ m, i = m + 1 := ⟨i - 1, by omega⟩
                  obtain ⟨S, hSe⟩ : ∃ S, S = eAt L m := ⟨_, rfl⟩
                  have HSe := Lib.hid hSe
                  obtain ⟨b2, o2, ha2, q2, y1, y2, y3⟩ := (HE.out.keep HBr.out).three m (by omega)
                  rw [← hSe] at y1 y2 y3
                  simp only [Option.some.injEq, Addr.mk.injEq, and_true] at ha2
                  obtain ⟨rfl, rfl⟩ := ha2
                  have HY : Hid (∀ x, Below wr.heap.size wr x → (x.cell? ⟨b1, o1 + m * 3, none⟩ = some (.int .i64 S.a) ∧ x.cell? ⟨b1, o1 + m * 3 + 1, none⟩ = some (.int .i64 S.b) ∧ x.cell? ⟨b1, o1 + m * 3 + 2, none⟩ = some (.int .i64 S.m))) :=
                    fun x hx => ⟨(hx.cell (p := ⟨b1, o1 + m * 3, none⟩) q1).trans y1, (hx.cell (p := ⟨b1, o1 + m * 3 + 1, none⟩) q1).trans y2, (hx.cell (p := ⟨b1, o1 + m * 3 + 2, none⟩) q1).trans y3⟩
                  have HVw : Hid (Below wr.heap.size wr V) := Lib.hid (by rw [HVe.out]; exact (Below.refl _ wr).alloc (Nat.le_refl _) _)
                  have HLT : Hid (cmpE S ⟨ta, tb, tm⟩ < 0 ↔ ltE S ⟨ta, tb, tm⟩ = true) := Lib.hid (cmpE_lt _ _)
                  have HEr2 : Hid (er = if ltE S ⟨ta, tb, tm⟩ = false then 9 else 0) := Lib.hid (by
                    rw [HEr.out, HRt.out, if_neg (by simp), if_neg hab, show m + 1 - 1 = m from rfl, ← HSe.out]
                    by_cases hq : ltE S ⟨ta, tb, tm⟩ = false
                    · rw [if_pos ⟨by omega, hq⟩, if_pos hq]
                    · rw [if_neg (fun hh => hq hh.2), if_neg hq])
                  have HCC := Lib.hid (fun w => HCM.out S ⟨ta, tb, tm⟩ w)
                  simp only at HCC
                  generalize cmpE S ⟨ta, tb, tm⟩ = cc at *
                  obtain ⟨sa, sb, sm⟩ := S
                  simp only at y1 y2 y3 HY HCC
                  have z1 : IntKind.i64.wrap (((m : Nat) : Int) + 1 - 1) = (m : Int) := by
                    rw [show ((m : Nat) : Int) + 1 - 1 = m by omega]; exact IntWalk.i64_in _ (by omega)
                  have z6 : IntKind.i64.wrap (m : Int) = (m : Int) := IntWalk.i64_in _ (by omega)
                  have z2 : (0 : Int) ≤ (m : Int) := by omega
                  have z3 : (m : Int) < ((L.length : Nat) : Int) := by omega
                  have z4 : (0 : Int) < ((m + 1 : Nat) : Int) := by omega
                  have z5 : (0 : Int) < (m : Int) + 1 := by omega
                  clear hSe y1 y2 y3
                  by_cases hcc : 0 ≤ cc
                  · have HEr' : er = 9 := by
                      rw [HEr2.out, if_pos]
                      by_cases hq : ltE ⟨sa, sb, sm⟩ ⟨ta, tb, tm⟩ = true
                      · have := HLT.out.2 hq; omega
                      · simpa using hq
                    go_wp2_with fail
                    rw [← HVe.out]
                    refine (HVA.out _).mono ?_
                    rintro e w1 ⟨rfl, hb1⟩
                    have hk1 : Below V.heap.size V w1 := hb1
                    obtain ⟨f10, f11, f12, f13, f14⟩ := HFAC.out _ hk1
                    clear hb1
                    go_wp2_with fail
                    refine (HVB.out _).mono ?_
                    rintro e w2 ⟨rfl, hb2⟩
                    have hk2 : Below V.heap.size V w2 := hk1.trans (hb2.mono hk1.size)
                    obtain ⟨f20, f21, f22, f23, f24⟩ := HFAC.out _ hk2
                    clear hb2
                    have d9 : decide (0 ≤ cc) = true := decide_eq_true hcc
                    go_wp2
                    have HS2 : Hid (∀ x, Below w2.heap.size w2 x → (Below w2.heap.size w2 x ∧ x.cell? ⟨w.heap.size, 1, none⟩ = some (.slice (some ⟨b1, o1, none⟩) L.length cap) ∧ x.cell? ⟨wr.heap.size, 0, none⟩ = some (.int .i64 ta) ∧ x.cell? ⟨wr.heap.size, 1, none⟩ = some (.int .i64 tb) ∧ x.cell? ⟨wr.heap.size, 2, none⟩ = some (.int .i64 tm) ∧ x.cell? ⟨b1, o1 + m * 3, none⟩ = some (.int .i64 sa) ∧ x.cell? ⟨b1, o1 + m * 3 + 1, none⟩ = some (.int .i64 sb) ∧ x.cell? ⟨b1, o1 + m * 3 + 2, none⟩ = some (.int .i64 sm))) := fun x hx => by
                      have hVx : Below V.heap.size V x := hk2.trans (hx.mono hk2.size)
                      obtain ⟨-, u1, u2, u3, u4⟩ := HFAC.out x hVx
                      obtain ⟨v1, v2, v3⟩ := HY.out x (HVw.out.trans (hVx.mono HVw.out.size))
                      exact ⟨hx, u1, u2, u3, u4, v1, v2, v3⟩
                    have HK2 := Lib.hid hk2
                    clear hk2
                    have hk2 : Below w2.heap.size w2 w2.drew := (Below.refl _ _).drew
                    obtain ⟨_, r1, r2, r3, r4, r5, r6, r7⟩ := HS2.out _ hk2
                    go_region_held3 (fun x => Below w2.heap.size w2 x ∧ x.cell? ⟨w.heap.size, 1, none⟩ = some (.slice (some ⟨b1, o1, none⟩) L.length cap) ∧ x.cell? ⟨wr.heap.size, 0, none⟩ = some (.int .i64 ta) ∧ x.cell? ⟨wr.heap.size, 1, none⟩ = some (.int .i64 tb) ∧ x.cell? ⟨wr.heap.size, 2, none⟩ = some (.int .i64 tm) ∧ x.cell? ⟨b1, o1 + m * 3, none⟩ = some (.int .i64 sa) ∧ x.cell? ⟨b1, o1 + m * 3 + 1, none⟩ = some (.int .i64 sb) ∧ x.cell? ⟨b1, o1 + m * 3 + 2, none⟩ = some (.int .i64 sm))
                      (first | exact HS2.out _ (by assumption) | exact HS2.out _ (Below.drew (by assumption)))
                      (first | (go_at_call 92; refine (HCC.out _).mono ?_; rintro e wz ⟨rfl, hbz⟩; have hk3 := hk2.trans (hbz.mono hk2.size); clear hbz hk2; have hk2 := hk3; clear hk3))
                    rename_i hHeldz
                    clear hHeldz
                    go_wp2
                    go_ret
                    exact ⟨by rw [HFI.out (by rw [HEr']; omega), HEr']; rfl, HB0.out.trans ((HBV.out.trans ((HK2.out.trans (hk2.mono HK2.out.size)).mono HBV.out.size)).mono HB0.out.size)⟩
                  · have HEr' : er = 0 := by
                      rw [HEr2.out, if_neg]
                      have := HLT.out.1 (by omega)
                      rw [this]; simp
                    go_wp2_with fail
                    rw [← HVe.out]
                    refine (HVA.out _).mono ?_
                    rintro e w1 ⟨rfl, hb1⟩
                    have hk1 : Below V.heap.size V w1 := hb1
                    obtain ⟨f10, f11, f12, f13, f14⟩ := HFAC.out _ hk1
                    clear hb1
                    go_wp2_with fail
                    refine (HVB.out _).mono ?_
                    rintro e w2 ⟨rfl, hb2⟩
                    have hk2 : Below V.heap.size V w2 := hk1.trans (hb2.mono hk1.size)
                    obtain ⟨f20, f21, f22, f23, f24⟩ := HFAC.out _ hk2
                    clear hb2
                    have d9 : decide (0 ≤ cc) = false := decide_eq_false (by omega)
                    go_wp2
                    have HS2 : Hid (∀ x, Below w2.heap.size w2 x → (Below w2.heap.size w2 x ∧ x.cell? ⟨w.heap.size, 1, none⟩ = some (.slice (some ⟨b1, o1, none⟩) L.length cap) ∧ x.cell? ⟨wr.heap.size, 0, none⟩ = some (.int .i64 ta) ∧ x.cell? ⟨wr.heap.size, 1, none⟩ = some (.int .i64 tb) ∧ x.cell? ⟨wr.heap.size, 2, none⟩ = some (.int .i64 tm) ∧ x.cell? ⟨b1, o1 + m * 3, none⟩ = some (.int .i64 sa) ∧ x.cell? ⟨b1, o1 + m * 3 + 1, none⟩ = some (.int .i64 sb) ∧ x.cell? ⟨b1, o1 + m * 3 + 2, none⟩ = some (.int .i64 sm))) := fun x hx => by
                      have hVx : Below V.heap.size V x := hk2.trans (hx.mono hk2.size)
                      obtain ⟨-, u1, u2, u3, u4⟩ := HFAC.out x hVx
                      obtain ⟨v1, v2, v3⟩ := HY.out x (HVw.out.trans (hVx.mono HVw.out.size))
                      exact ⟨hx, u1, u2, u3, u4, v1, v2, v3⟩
                    have HK2 := Lib.hid hk2
                    clear hk2
                    have hk2 : Below w2.heap.size w2 w2.drew := (Below.refl _ _).drew
                    obtain ⟨_, r1, r2, r3, r4, r5, r6, r7⟩ := HS2.out _ hk2
                    go_region_held3 (fun x => Below w2.heap.size w2 x ∧ x.cell? ⟨w.heap.size, 1, none⟩ = some (.slice (some ⟨b1, o1, none⟩) L.length cap) ∧ x.cell? ⟨wr.heap.size, 0, none⟩ = some (.int .i64 ta) ∧ x.cell? ⟨wr.heap.size, 1, none⟩ = some (.int .i64 tb) ∧ x.cell? ⟨wr.heap.size, 2, none⟩ = some (.int .i64 tm) ∧ x.cell? ⟨b1, o1 + m * 3, none⟩ = some (.int .i64 sa) ∧ x.cell? ⟨b1, o1 + m * 3 + 1, none⟩ = some (.int .i64 sb) ∧ x.cell? ⟨b1, o1 + m * 3 + 2, none⟩ = some (.int .i64 sm))
                      (first | exact HS2.out _ (by assumption) | exact HS2.out _ (Below.drew (by assumption)))
                      (first | (go_at_call 92; refine (HCC.out _).mono ?_; rintro e wz ⟨rfl, hbz⟩; have hk3 := hk2.trans (hbz.mono hk2.size); clear hbz hk2; have hk2 := hk3; clear hk3))
                    rename_i hHeldz
                    clear hHeldz
                    go_wp2
                    go_roundw
                    case rel => exact ⟨m + 1 + 1, by omega, by go_num, HNX.out HEr', HBV.out.trans ((HK2.out.trans (hk2.mono HK2.out.size)).mono HBV.out.size)⟩
                    case measure => simp [intOf]; omega
    · obtain rfl : i = L.length := by omega
      have HF : Hid (R = 0) := Lib.hid (by rw [HR.out]; exact firstE_zero hz)
      have HBr := Lib.hid hb
      clear hb hz
      go_wp2
      go_ret
      exact ⟨by rw [HF.out]; rfl, HB0.out.trans (HBr.out.mono HB0.out.size)⟩
end Go.Proofs.Ytgejkgeojjgclaa
