/- edge and Check of the reference. -/
import Derived.Test.YtgejkgeojjgclaaGg
namespace Go.Proofs.Ytgejkgeojjgclaa
open Go.RowKit Go.Proofs.Gr

set_option maxHeartbeats 12800000 in
set_option maxRecDepth 100000 in
theorem redge_any (n : Int) (a : Option Addr) (cap : Nat) (L : List E) (hL : L.length ≤ 4611686018427387904) (i : Nat) (hi : i < L.length) (w : World) (h : EsAt w a L) :
    Calls Try.prog 83 #[gv n a L.length cap, .int .i64 (i : Nat)] w (GivesN w (errAt n L i : Nat)) := by
  have HV := Lib.hid (fun v w => vertex_any n a L.length cap v w)
  unfold GivesN gv at *
  obtain ⟨W, hW⟩ : ∃ W, W = w.alloc (Obj.cells #[.int .i64 n, .slice a L.length cap] 24) := ⟨_, rfl⟩
  have hB0 : Below w.heap.size w W := by rw [hW]; exact (Below.refl _ w).alloc (Nat.le_refl _) _
  have hG : Blk W w.heap.size 24 #[.int .i64 n, .slice a L.length cap] := by rw [hW]; exact Blk.new _ _ _
  have HE := Lib.hid (h.keep hB0)
  obtain ⟨T, hTe⟩ : ∃ T, T = eAt L i := ⟨_, rfl⟩
  obtain ⟨b1, o1, rfl, q1, x1, x2, x3⟩ := HE.out.three i hi
  rw [← hTe] at x1 x2 x3
  have HEr : Hid (errAt n L i = if rngE n T = false then 2 else if T.b < T.a then 9 else if 0 < i ∧ ltE (eAt L (i - 1)) T = false then 9 else 0) := Lib.hid (by rw [hTe]; rfl)
  generalize errAt n L i = er at *
  obtain ⟨ta, tb, tm⟩ := T
  simp only at x1 x2 x3
  have HRg := Lib.hid (rngE_eq n ⟨ta, tb, tm⟩)
  simp only at HRg
  have HW := Lib.hid hW
  have HB0 := Lib.hid hB0
  have HG := Lib.hid hG
  have g0 : W.cell? ⟨w.heap.size, 0, none⟩ = some (.int .i64 n) := hG.cell 0
  have g1 : W.cell? ⟨w.heap.size, 1, none⟩ = some (.slice (some ⟨b1, o1, none⟩) L.length cap) := hG.cell 1
  obtain ⟨V, hV⟩ : ∃ V, V = W.alloc (Obj.cells #[.int .i64 ta, .int .i64 tb, .int .i64 tm] 103) := ⟨_, rfl⟩
  have HVe := Lib.hid hV
  have hBV : Below w.heap.size w V := by rw [hV]; exact hB0.alloc hB0.size _
  have HBV := Lib.hid hBV
  have HVw : Hid (Below W.heap.size W V) := Lib.hid (by rw [hV]; exact (Below.refl _ W).alloc (Nat.le_refl _) _)
  have HGV : Hid (Blk V w.heap.size 24 #[.int .i64 n, .slice (some ⟨b1, o1, none⟩) L.length cap]) := Lib.hid (by rw [hV]; exact hG.alloc _)
  have HQV : Hid (Blk V W.heap.size 103 #[.int .i64 ta, .int .i64 tb, .int .i64 tm]) := Lib.hid (by rw [hV]; exact Blk.new _ _ _)
  have HFAC : Hid (∀ x, Below V.heap.size V x → (x.cell? ⟨w.heap.size, 0, none⟩ = some (.int .i64 n) ∧ x.cell? ⟨w.heap.size, 1, none⟩ = some (.slice (some ⟨b1, o1, none⟩) L.length cap) ∧ x.cell? ⟨W.heap.size, 0, none⟩ = some (.int .i64 ta) ∧ x.cell? ⟨W.heap.size, 1, none⟩ = some (.int .i64 tb) ∧ x.cell? ⟨W.heap.size, 2, none⟩ = some (.int .i64 tm))) :=
    fun x hx => ⟨(HGV.out.below hx HGV.out.lt).cell 0, (HGV.out.below hx HGV.out.lt).cell 1, (HQV.out.below hx HQV.out.lt).cell 0, (HQV.out.below hx HQV.out.lt).cell 1, (HQV.out.below hx HQV.out.lt).cell 2⟩
  have g2' : (W.alloc (Obj.cells #[.int .i64 ta, .int .i64 tb, .int .i64 tm] 103)).cell? ⟨w.heap.size, 0, none⟩ = some (.int .i64 n) := by rw [← hV]; exact (HFAC.out _ (Below.refl _ V)).1
  have g3' : (W.alloc (Obj.cells #[.int .i64 ta, .int .i64 tb, .int .i64 tm] 103)).cell? ⟨w.heap.size, 1, none⟩ = some (.slice (some ⟨b1, o1, none⟩) L.length cap) := by rw [← hV]; exact (HFAC.out _ (Below.refl _ V)).2.1
  have hWs : W.heap.size = w.heap.size + 1 := by rw [hW]; simp
  rw [hWs] at HFAC
  have x1' : (w.alloc (Obj.cells #[.int .i64 n, .slice (some ⟨b1, o1, none⟩) L.length cap] 24)).cell? ⟨b1, o1 + i * 3, none⟩ = some (.int .i64 ta) := by rw [← hW]; exact x1
  have x2' : (w.alloc (Obj.cells #[.int .i64 n, .slice (some ⟨b1, o1, none⟩) L.length cap] 24)).cell? ⟨b1, o1 + i * 3 + 1, none⟩ = some (.int .i64 tb) := by rw [← hW]; exact x2
  have x3' : (w.alloc (Obj.cells #[.int .i64 n, .slice (some ⟨b1, o1, none⟩) L.length cap] 24)).cell? ⟨b1, o1 + i * 3 + 2, none⟩ = some (.int .i64 tm) := by rw [← hW]; exact x3
  rw [hW] at g2' g3'
  have i0 : (0 : Int) ≤ (i : Int) := by omega
  have i1 : (i : Int) < ((L.length : Nat) : Int) := by omega
  clear h hTe hB0 hG hW hV hBV
  have HVA := Lib.hid (fun w => HV.out ta w)
  have HVB := Lib.hid (fun w => HV.out tb w)
  generalize hva : isV n ta = va at *
  generalize hvb : isV n tb = vb at *
  go_enter Try.func83, Try.ntmps83
  cases va
  · have HEr' : er = 2 := by rw [HEr.out, HRg.out]; rfl
    go_wp2_with fail
    rw [← HW.out, ← HVe.out]
    refine (HVA.out _).mono ?_
    rintro e w1 ⟨rfl, hb1⟩
    have hk1 : Below V.heap.size V w1 := hb1
    obtain ⟨f10, f11, f12, f13, f14⟩ := HFAC.out _ hk1
    clear hb1
    go_wp2
    go_ret
    exact ⟨by rw [HEr']; rfl, HBV.out.trans (hk1.mono HBV.out.size)⟩
  · cases vb
    · have HEr' : er = 2 := by rw [HEr.out, HRg.out]; rfl
      go_wp2_with fail
      rw [← HW.out, ← HVe.out]
      refine (HVA.out _).mono ?_
      rintro e w1 ⟨rfl, hb1⟩
      have hk1 : Below V.heap.size V w1 := hb1
      obtain ⟨f10, f11, f12, f13, f14⟩ := HFAC.out _ hk1
      clear hb1
      go_wp2_with fail
      refine (HVB.out _).mono ?_
      rintro e w2 ⟨rfl, hb2⟩
      have hk2 : Below V.heap.size V w2 := hk1.trans (hb2.mono hk1.size)
      obtain ⟨f20, f21, f22, f23, f24⟩ := HFAC.out _ hk2
      clear hb2
      go_wp2
      go_ret
      exact ⟨by rw [HEr']; rfl, HBV.out.trans (hk2.mono HBV.out.size)⟩
    · by_cases hm1 : tm < 1
      · have HEr' : er = 2 := by rw [HEr.out, HRg.out, decide_eq_false (by omega : ¬ 1 ≤ tm)]; rfl
        have c1 : decide (tm < 1) = true := decide_eq_true hm1
        go_wp2_with fail
        rw [← HW.out, ← HVe.out]
        refine (HVA.out _).mono ?_
        rintro e w1 ⟨rfl, hb1⟩
        have hk1 : Below V.heap.size V w1 := hb1
        obtain ⟨f10, f11, f12, f13, f14⟩ := HFAC.out _ hk1
        clear hb1
        go_wp2_with fail
        refine (HVB.out _).mono ?_
        rintro e w2 ⟨rfl, hb2⟩
        have hk2 : Below V.heap.size V w2 := hk1.trans (hb2.mono hk1.size)
        obtain ⟨f20, f21, f22, f23, f24⟩ := HFAC.out _ hk2
        clear hb2
        go_wp2
        go_ret
        exact ⟨by rw [HEr']; rfl, HBV.out.trans (hk2.mono HBV.out.size)⟩
      · by_cases hm2 : 50 < tm
        · have HEr' : er = 2 := by rw [HEr.out, HRg.out, decide_eq_false (by omega : ¬ tm ≤ 50)]; simp
          have c1 : decide (tm < 1) = false := decide_eq_false hm1
          have c2 : decide (50 < tm) = true := decide_eq_true hm2
          go_wp2_with fail
          rw [← HW.out, ← HVe.out]
          refine (HVA.out _).mono ?_
          rintro e w1 ⟨rfl, hb1⟩
          have hk1 : Below V.heap.size V w1 := hb1
          obtain ⟨f10, f11, f12, f13, f14⟩ := HFAC.out _ hk1
          clear hb1
          go_wp2_with fail
          refine (HVB.out _).mono ?_
          rintro e w2 ⟨rfl, hb2⟩
          have hk2 : Below V.heap.size V w2 := hk1.trans (hb2.mono hk1.size)
          obtain ⟨f20, f21, f22, f23, f24⟩ := HFAC.out _ hk2
          clear hb2
          go_wp2
          go_ret
          exact ⟨by rw [HEr']; rfl, HBV.out.trans (hk2.mono HBV.out.size)⟩
        · have c1 : decide (tm < 1) = false := decide_eq_false hm1
          have c2 : decide (50 < tm) = false := decide_eq_false hm2
          have HRt : Hid (rngE n ⟨ta, tb, tm⟩ = true) := Lib.hid (by rw [HRg.out, decide_eq_true (by omega : 1 ≤ tm), decide_eq_true (by omega : tm ≤ 50)]; rfl)
          by_cases hab : tb < ta
          · have HEr' : er = 9 := by rw [HEr.out, HRt.out, if_neg (by simp), if_pos hab]
            have c3 : decide (tb < ta) = true := decide_eq_true hab
            go_wp2_with fail
            rw [← HW.out, ← HVe.out]
            refine (HVA.out _).mono ?_
            rintro e w1 ⟨rfl, hb1⟩
            have hk1 : Below V.heap.size V w1 := hb1
            obtain ⟨f10, f11, f12, f13, f14⟩ := HFAC.out _ hk1
            clear hb1
            go_wp2_with fail
            refine (HVB.out _).mono ?_
            rintro e w2 ⟨rfl, hb2⟩
            have hk2 : Below V.heap.size V w2 := hk1.trans (hb2.mono hk1.size)
            obtain ⟨f20, f21, f22, f23, f24⟩ := HFAC.out _ hk2
            clear hb2
            go_wp2
            go_ret
            exact ⟨by rw [HEr']; rfl, HBV.out.trans (hk2.mono HBV.out.size)⟩
          · have c3 : decide (tb < ta) = false := decide_eq_false hab
            rcases Nat.eq_zero_or_pos i with hi0 | hi0
            · subst hi0
              have HEr' : er = 0 := by rw [HEr.out, HRt.out, if_neg (by simp), if_neg hab, if_neg (by omega)]
              simp only [Nat.zero_mul, Nat.add_zero] at x1 x2 x3 x1' x2' x3'
              go_wp2_with fail
              rw [← HW.out, ← HVe.out]
              refine (HVA.out _).mono ?_
              rintro e w1 ⟨rfl, hb1⟩
              have hk1 : Below V.heap.size V w1 := hb1
              obtain ⟨f10, f11, f12, f13, f14⟩ := HFAC.out _ hk1
              clear hb1
              go_wp2_with fail
              refine (HVB.out _).mono ?_
              rintro e w2 ⟨rfl, hb2⟩
              have hk2 : Below V.heap.size V w2 := hk1.trans (hb2.mono hk1.size)
              obtain ⟨f20, f21, f22, f23, f24⟩ := HFAC.out _ hk2
              clear hb2
              go_wp2
              go_ret
              exact ⟨by rw [HEr']; rfl, HBV.out.trans (hk2.mono HBV.out.size)⟩
            · obtain ⟨m, rfl⟩ : ∃ m, i = m + 1 := ⟨i - 1, by omega⟩
              obtain ⟨S, hSe⟩ : ∃ S, S = eAt L m := ⟨_, rfl⟩
              have HSe := Lib.hid hSe
              obtain ⟨b2, o2, ha2, q2, y1, y2, y3⟩ := HE.out.three m (by omega)
              rw [← hSe] at y1 y2 y3
              simp only [Option.some.injEq, Addr.mk.injEq, and_true] at ha2
              obtain ⟨rfl, rfl⟩ := ha2
              have HEr2 : Hid (er = if ltE S ⟨ta, tb, tm⟩ = false then 9 else 0) := Lib.hid (by
                rw [HEr.out, HRt.out, if_neg (by simp), if_neg hab, show m + 1 - 1 = m from rfl, ← HSe.out]
                by_cases hq : ltE S ⟨ta, tb, tm⟩ = false
                · rw [if_pos ⟨by omega, hq⟩, if_pos hq]
                · rw [if_neg (fun hh => hq hh.2), if_neg hq])
              obtain ⟨sa, sb, sm⟩ := S
              simp only at y1 y2 y3
              have HLT : Hid (ltE ⟨sa, sb, sm⟩ ⟨ta, tb, tm⟩ = (decide (sa < ta) || (decide (sa = ta) && decide (sb < tb)))) := Lib.hid rfl
              have z6 : IntKind.i64.wrap (m : Int) = (m : Int) := IntWalk.i64_in _ (by omega)
              have z2 : (0 : Int) ≤ (m : Int) := by omega
              have z3 : (m : Int) < ((L.length : Nat) : Int) := by omega
              have z4 : (0 : Int) < ((m + 1 : Nat) : Int) := by omega
              have z5 : (0 : Int) < (m : Int) + 1 := by omega
              clear hSe
              by_cases s1 : ta < sa
              · have HEr' : er = 9 := by rw [HEr2.out, HLT.out, decide_eq_false (by omega : ¬ sa < ta), decide_eq_false (by omega : ¬ sa = ta)]; rfl
                have c4 : decide (ta < sa) = true := decide_eq_true s1
                go_wp2_with fail
                rw [← HW.out, ← HVe.out]
                refine (HVA.out _).mono ?_
                rintro e w1 ⟨rfl, hb1⟩
                have hk1 : Below V.heap.size V w1 := hb1
                obtain ⟨f10, f11, f12, f13, f14⟩ := HFAC.out _ hk1
                clear hb1
                go_wp2_with fail
                refine (HVB.out _).mono ?_
                rintro e w2 ⟨rfl, hb2⟩
                have hk2 : Below V.heap.size V w2 := hk1.trans (hb2.mono hk1.size)
                obtain ⟨f20, f21, f22, f23, f24⟩ := HFAC.out _ hk2
                clear hb2
                have hl2 : Below W.heap.size W w2 := HVw.out.trans (hk2.mono HVw.out.size)
                have y1' : w2.cell? ⟨b1, o1 + m * 3, none⟩ = some (.int .i64 sa) := (hl2.cell (p := ⟨b1, o1 + m * 3, none⟩) q1).trans y1
                have y2' : w2.cell? ⟨b1, o1 + m * 3 + 1, none⟩ = some (.int .i64 sb) := (hl2.cell (p := ⟨b1, o1 + m * 3 + 1, none⟩) q1).trans y2
                have y3' : w2.cell? ⟨b1, o1 + m * 3 + 2, none⟩ = some (.int .i64 sm) := (hl2.cell (p := ⟨b1, o1 + m * 3 + 2, none⟩) q1).trans y3
                have hk3 : Below V.heap.size V (w2.alloc (Obj.cells #[.int .i64 sa, .int .i64 sb, .int .i64 sm] 103)) := hk2.alloc hk2.size _
                obtain ⟨p0, p1, p2, p3, p4⟩ := HFAC.out _ hk3
                go_wp2
                go_ret
                exact ⟨by rw [HEr']; rfl, HBV.out.trans (hk3.mono HBV.out.size)⟩
              · have c4 : decide (ta < sa) = false := decide_eq_false s1
                by_cases s2 : ta = sa
                · have c5 : (ta == sa) = true := by rw [beq_iff_eq]; exact s2
                  by_cases s3 : tb ≤ sb
                  · have HEr' : er = 9 := by rw [HEr2.out, HLT.out, decide_eq_false (by omega : ¬ sa < ta), decide_eq_false (by omega : ¬ sb < tb)]; simp
                    have c6 : decide (tb ≤ sb) = true := decide_eq_true s3
                    clear s2
                    go_wp2_with fail
                    rw [← HW.out, ← HVe.out]
                    refine (HVA.out _).mono ?_
                    rintro e w1 ⟨rfl, hb1⟩
                    have hk1 : Below V.heap.size V w1 := hb1
                    obtain ⟨f10, f11, f12, f13, f14⟩ := HFAC.out _ hk1
                    clear hb1
                    go_wp2_with fail
                    refine (HVB.out _).mono ?_
                    rintro e w2 ⟨rfl, hb2⟩
                    have hk2 : Below V.heap.size V w2 := hk1.trans (hb2.mono hk1.size)
                    obtain ⟨f20, f21, f22, f23, f24⟩ := HFAC.out _ hk2
                    clear hb2
                    have hl2 : Below W.heap.size W w2 := HVw.out.trans (hk2.mono HVw.out.size)
                    have y1' : w2.cell? ⟨b1, o1 + m * 3, none⟩ = some (.int .i64 sa) := (hl2.cell (p := ⟨b1, o1 + m * 3, none⟩) q1).trans y1
                    have y2' : w2.cell? ⟨b1, o1 + m * 3 + 1, none⟩ = some (.int .i64 sb) := (hl2.cell (p := ⟨b1, o1 + m * 3 + 1, none⟩) q1).trans y2
                    have y3' : w2.cell? ⟨b1, o1 + m * 3 + 2, none⟩ = some (.int .i64 sm) := (hl2.cell (p := ⟨b1, o1 + m * 3 + 2, none⟩) q1).trans y3
                    have hk3 : Below V.heap.size V (w2.alloc (Obj.cells #[.int .i64 sa, .int .i64 sb, .int .i64 sm] 103)) := hk2.alloc hk2.size _
                    obtain ⟨p0, p1, p2, p3, p4⟩ := HFAC.out _ hk3
                    go_wp2
                    go_ret
                    exact ⟨by rw [HEr']; rfl, HBV.out.trans (hk3.mono HBV.out.size)⟩
                  · have HEr' : er = 0 := by rw [HEr2.out, HLT.out, decide_eq_true (by omega : sa = ta), decide_eq_true (by omega : sb < tb)]; simp
                    have c6 : decide (tb ≤ sb) = false := decide_eq_false s3
                    clear s2
                    go_wp2_with fail
                    rw [← HW.out, ← HVe.out]
                    refine (HVA.out _).mono ?_
                    rintro e w1 ⟨rfl, hb1⟩
                    have hk1 : Below V.heap.size V w1 := hb1
                    obtain ⟨f10, f11, f12, f13, f14⟩ := HFAC.out _ hk1
                    clear hb1
                    go_wp2_with fail
                    refine (HVB.out _).mono ?_
                    rintro e w2 ⟨rfl, hb2⟩
                    have hk2 : Below V.heap.size V w2 := hk1.trans (hb2.mono hk1.size)
                    obtain ⟨f20, f21, f22, f23, f24⟩ := HFAC.out _ hk2
                    clear hb2
                    have hl2 : Below W.heap.size W w2 := HVw.out.trans (hk2.mono HVw.out.size)
                    have y1' : w2.cell? ⟨b1, o1 + m * 3, none⟩ = some (.int .i64 sa) := (hl2.cell (p := ⟨b1, o1 + m * 3, none⟩) q1).trans y1
                    have y2' : w2.cell? ⟨b1, o1 + m * 3 + 1, none⟩ = some (.int .i64 sb) := (hl2.cell (p := ⟨b1, o1 + m * 3 + 1, none⟩) q1).trans y2
                    have y3' : w2.cell? ⟨b1, o1 + m * 3 + 2, none⟩ = some (.int .i64 sm) := (hl2.cell (p := ⟨b1, o1 + m * 3 + 2, none⟩) q1).trans y3
                    have hk3 : Below V.heap.size V (w2.alloc (Obj.cells #[.int .i64 sa, .int .i64 sb, .int .i64 sm] 103)) := hk2.alloc hk2.size _
                    obtain ⟨p0, p1, p2, p3, p4⟩ := HFAC.out _ hk3
                    go_wp2
                    go_ret
                    exact ⟨by rw [HEr']; rfl, HBV.out.trans (hk3.mono HBV.out.size)⟩
                · have c5 : (ta == sa) = false := by rw [beq_eq_false_iff_ne]; exact s2
                  have HEr' : er = 0 := by rw [HEr2.out, HLT.out, decide_eq_true (by omega : sa < ta)]; simp
                  go_wp2_with fail
                  rw [← HW.out, ← HVe.out]
                  refine (HVA.out _).mono ?_
                  rintro e w1 ⟨rfl, hb1⟩
                  have hk1 : Below V.heap.size V w1 := hb1
                  obtain ⟨f10, f11, f12, f13, f14⟩ := HFAC.out _ hk1
                  clear hb1
                  go_wp2_with fail
                  refine (HVB.out _).mono ?_
                  rintro e w2 ⟨rfl, hb2⟩
                  have hk2 : Below V.heap.size V w2 := hk1.trans (hb2.mono hk1.size)
                  obtain ⟨f20, f21, f22, f23, f24⟩ := HFAC.out _ hk2
                  clear hb2
                  have hl2 : Below W.heap.size W w2 := HVw.out.trans (hk2.mono HVw.out.size)
                  have y1' : w2.cell? ⟨b1, o1 + m * 3, none⟩ = some (.int .i64 sa) := (hl2.cell (p := ⟨b1, o1 + m * 3, none⟩) q1).trans y1
                  have y2' : w2.cell? ⟨b1, o1 + m * 3 + 1, none⟩ = some (.int .i64 sb) := (hl2.cell (p := ⟨b1, o1 + m * 3 + 1, none⟩) q1).trans y2
                  have y3' : w2.cell? ⟨b1, o1 + m * 3 + 2, none⟩ = some (.int .i64 sm) := (hl2.cell (p := ⟨b1, o1 + m * 3 + 2, none⟩) q1).trans y3
                  have hk3 : Below V.heap.size V (w2.alloc (Obj.cells #[.int .i64 sa, .int .i64 sb, .int .i64 sm] 103)) := hk2.alloc hk2.size _
                  obtain ⟨p0, p1, p2, p3, p4⟩ := HFAC.out _ hk3
                  go_wp2
                  go_ret
                  exact ⟨by rw [HEr']; rfl, HBV.out.trans (hk3.mono HBV.out.size)⟩

set_option maxHeartbeats 12800000 in
set_option maxRecDepth 100000 in
theorem rcheck_any (n : Int) (a : Option Addr) (cap : Nat) (L : List E) (hL : L.length ≤ 4611686018427387904) (w : World) (h : EsAt w a L) :
    Calls Try.prog 54 #[gv n a L.length cap] w (GivesN w (chkG n L : Nat)) := by
  have HX := Lib.hid (fun i hi w h => redge_any n a cap L hL i hi w h)
  unfold GivesN gv at *
  by_cases hn : n < 1 ∨ 12 < n
  · have HR : Hid (chkG n L = 2) := Lib.hid (by unfold chkG; rw [if_pos hn])
    have HB := Lib.hid ((Below.refl _ w).alloc (Nat.le_refl _) (Obj.cells #[.int .i64 n, .slice a L.length cap] 24))
    by_cases h1 : n < 1
    · have d1 : decide (n < 1) = true := decide_eq_true h1
      clear h
      go_enter Try.func54, Try.ntmps54
      go_wp2
      go_ret
      exact ⟨by rw [HR.out]; rfl, HB.out⟩
    · have d1 : decide (n < 1) = false := decide_eq_false h1
      have d2 : decide (12 < n) = true := decide_eq_true (by omega)
      clear h
      go_enter Try.func54, Try.ntmps54
      go_wp2
      go_ret
      exact ⟨by rw [HR.out]; rfl, HB.out⟩
  have HR : Hid (chkG n L = firstE (errAt n L) L.length) := Lib.hid (by unfold chkG; rw [if_neg hn])
  have d1 : decide (n < 1) = false := decide_eq_false (by omega)
  have d2 : decide (12 < n) = false := decide_eq_false (by omega)
  clear hn
  obtain ⟨W, hW⟩ : ∃ W, W = w.alloc (Obj.cells #[.int .i64 n, .slice a L.length cap] 24) := ⟨_, rfl⟩
  have hB0 : Below w.heap.size w W := by rw [hW]; exact (Below.refl _ w).alloc (Nat.le_refl _) _
  have hG : Blk W w.heap.size 24 #[.int .i64 n, .slice a L.length cap] := by rw [hW]; exact Blk.new _ _ _
  have HW := Lib.hid hW
  have HB0 := Lib.hid hB0
  have HG := Lib.hid hG
  have HE := Lib.hid (h.keep hB0)
  have g0 : W.cell? ⟨w.heap.size, 0, none⟩ = some (.int .i64 n) := hG.cell 0
  have g1 : W.cell? ⟨w.heap.size, 1, none⟩ = some (.slice a L.length cap) := hG.cell 1
  generalize chkG n L = R at *
  clear h hB0 hG hW
  go_enter Try.func54, Try.ntmps54
  go_wp2
  rw [← HW.out]
  go_wp2
  go_loopw [3] (fun v wr => ∃ i : Nat, i ≤ L.length ∧ v = .int .i64 i ∧ (∀ j, j < i → errAt n L j = 0) ∧ Below W.heap.size W wr) (fun v _ => L.length - (intOf v).toNat)
  case atStart => exact ⟨0, by omega, rfl, fun j hj => by omega, Below.refl _ _⟩
  case round =>
    obtain ⟨i, hi, rfl, hz, hb⟩ := hrel
    have g0' : wr.cell? ⟨w.heap.size, 0, none⟩ = some (.int .i64 n) := (HG.out.below hb HG.out.lt).cell 0
    have g1' : wr.cell? ⟨w.heap.size, 1, none⟩ = some (.slice a L.length cap) := (HG.out.below hb HG.out.lt).cell 1
    have HBr := Lib.hid hb
    have HEw := Lib.hid (HE.out.keep hb)
    by_cases hlt : i < L.length
    · have HC := Lib.hid (HX.out i hlt wr HEw.out)
      have HFI : Hid (errAt n L i ≠ 0 → R = errAt n L i) := Lib.hid (fun hne => by rw [HR.out]; exact firstE_at hz hne hlt)
      have HNX : Hid (errAt n L i = 0 → ∀ j, j < i + 1 → errAt n L j = 0) := Lib.hid (fun h0 j hj => by
        by_cases e : j = i
        · subst e; exact h0
        · exact hz j (by omega))
      generalize errAt n L i = er at *
      have i1 : (i : Int) < ((L.length : Nat) : Int) := by omega
      clear hb hz
      by_cases h0 : er = 0
      · subst h0
        go_wp2_with fail
        refine HC.out.mono ?_
        rintro e w1 ⟨rfl, hb1⟩
        have hk1 : Below W.heap.size W w1 := HBr.out.trans (hb1.mono HBr.out.size)
        clear hb1
        go_wp2
        go_roundw
        case rel => exact ⟨i + 1, by omega, by go_num, (by first | exact HNX.out rfl | exact HNX.out trivial), hk1⟩
        case measure => simp [intOf]; omega
      · have q0 : (((er : Nat) : Int) != 0) = true := by rw [bne_iff_ne]; omega
        have q1 : ¬ er = 0 := h0
        go_wp2_with fail
        refine HC.out.mono ?_
        rintro e w1 ⟨rfl, hb1⟩
        have hk1 : Below W.heap.size W w1 := HBr.out.trans (hb1.mono HBr.out.size)
        clear hb1
        go_wp2
        go_ret
        exact ⟨by rw [HFI.out h0]; rfl, HB0.out.trans (hk1.mono HB0.out.size)⟩
    · obtain rfl : i = L.length := by omega
      have HF : Hid (R = 0) := Lib.hid (by rw [HR.out]; exact firstE_zero hz)
      clear hb hz
      go_wp2
      go_ret
      exact ⟨by rw [HF.out]; rfl, HB0.out.trans (HBr.out.mono HB0.out.size)⟩
end Go.Proofs.Ytgejkgeojjgclaa
