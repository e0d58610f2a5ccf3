/- Walks of fractions: the reference's check, the laws' right fractions. And: Walks of the laws of fractions: the running test of errors. -/
import Derived.Test.YtolkiimlchfmlaaGreatDoorQ27
import Derived.Test.YtolkiimlchfmlaaGreatDoorQ29
namespace Go.Proofs.YtolkiimlchfmlaaGreatDoor
open Go.RowKit Go.Proofs.Num

set_option maxHeartbeats 1600000 in
set_option maxRecDepth 100000 in
/-- The reference's check of a fraction. -/
theorem rfcheck_any (s r : ByteArray) (hs : s.size ≤ 9223372036854775807) (hr : r.size ≤ 9223372036854775807) (w : World) :
    Calls Tryz.prog 19 #[FrV s r] w fun e w' => e = .returned (.int .i64 ((fchk s.data.toList r.data.toList : Nat) : Int)) ∧ Below w.heap.size w w' := by
  have H1 := Lib.hid (fun w => rcheck_any s w hs)
  have H2 := Lib.hid (fun w => rcheck_any r w hr)
  unfold FrV
  obtain ⟨W, hW, hA, hBl, hsz⟩ := box1T 24 w (.string s) (.string r)
  have HW := Lib.hid hW
  have HA := Lib.hid hA
  have HBL := Lib.hid hBl
  obtain ⟨cc, hcc⟩ : ∃ cc, cc = fchk s.data.toList r.data.toList := ⟨_, rfl⟩
  rw [← hcc]
  have HCC := Lib.hid hcc
  unfold fchk chk2 at HCC
  by_cases h1 : chk s.data.toList = 0
  · by_cases h2 : chk r.data.toList = 0
    · rw [h1] at H1 HCC
      rw [h2] at H2 HCC
      obtain ⟨x, d, hx1, hx2, hd1, hd2, hx⟩ := canon s h1
      obtain ⟨y, d', hy1, hy2, hd1', hd2', hy⟩ := canon r h2
      obtain rfl : d' = d := by omega
      have HO := Lib.hid (fun w => rorderT y 0 hy (show Few d' 0 from Nat.pow_pos (by omega)) hd1 (by omega) w)
      have HG := Lib.hid (fun w => rcommon_any x y hx hy hd1 (by omega) w)
      rw [T_naught] at HO
      unfold OutR at HG
      rw [← hx1, ← hy1] at HG
      rw [← hy1] at HO
      have heq := T_one_eq ((Nat.gcd x.natAbs y.natAbs : Nat) : Int)
      rw [← hx2, ← hy2] at HCC
      generalize T ((Nat.gcd x.natAbs y.natAbs : Nat) : Int) = G at *
      clear h1 h2 hx1 hy1 hx2 hy2 hx hy hd1 hd2 hd1' hd2' hA hBl hsz hcc
      have x0 := HA.out.c0; have x1 := HA.out.c1
      rw [HW.out] at x0 x1
      clear hW
      by_cases h3 : y ≤ 0
      · have hs2 : ∃ q, q = cmpZ y 0 ∧ q ≤ 0 := ⟨_, rfl, by unfold cmpZ; split <;> (try split) <;> omega⟩
        obtain ⟨q, hq, hq0⟩ := hs2
        rw [← hq] at HO
        have HC : Hid (cc = 3) := by have := HCC.out; unfold Hid; simp only [ne_eq, not_true_eq_false, if_false] at this; rw [if_pos h3] at this; exact this
        clear hq h3 heq HCC HG
        have hd : decide (q ≤ 0) = true := decide_eq_true hq0
        go_enter Tryz.func19, Tryz.ntmps19
        go_wp2_with fail
        refine (H1.out _).mono ?_
        rintro e w1 ⟨rfl, rfl⟩
        go_wp2_with fail
        refine (H2.out _).mono ?_
        rintro e w1 ⟨rfl, rfl⟩
        go_wp2_with fail
        refine (HO.out _).mono ?_
        rintro e w1 ⟨rfl, hb1⟩
        rw [← HW.out] at hb1
        go_wp2
        go_ret
        exact ⟨by rw [HC.out]; rfl, HBL.out.trans (hb1.mono HBL.out.size)⟩
      · have hs2 : ∃ q, q = cmpZ y 0 ∧ ¬ q ≤ 0 := ⟨_, rfl, by unfold cmpZ; rw [if_neg (by omega), if_pos (by omega)]; omega⟩
        obtain ⟨q, hq, hq0⟩ := hs2
        rw [← hq] at HO
        have HC2 : Hid (cc = if Nat.gcd x.natAbs y.natAbs ≠ 1 then 3 else 0) := by have := HCC.out; unfold Hid; simp only [ne_eq, not_true_eq_false, if_false] at this; rw [if_neg h3] at this; exact this
        clear hq h3 HCC
        have hd : decide (q ≤ 0) = false := decide_eq_false hq0
        by_cases h4 : Nat.gcd x.natAbs y.natAbs = 1
        · have HC := Lib.hid (HC2.out.trans (if_neg (by simpa using h4)))
          rw [decide_eq_true (by omega)] at heq
          clear h4 HC2
          go_enter Tryz.func19, Tryz.ntmps19
          go_wp2_with fail
          refine (H1.out _).mono ?_
          rintro e w1 ⟨rfl, rfl⟩
          go_wp2_with fail
          refine (H2.out _).mono ?_
          rintro e w1 ⟨rfl, rfl⟩
          go_wp2_with fail
          refine (HO.out _).mono ?_
          rintro e w1 ⟨rfl, hb1⟩
          rw [← HW.out] at hb1
          have hA1 := HA.out.keep hb1
          have hB1 : Below w.heap.size w w1 := HBL.out.trans (hb1.mono HBL.out.size)
          clear x0 x1
          have x0 := hA1.c0; have x1 := hA1.c1
          clear hA1
          go_wp2_with fail
          refine (HG.out _).mono ?_
          rintro e w2 ⟨rfl, hb2⟩
          go_wp2
          go_ret
          exact ⟨by rw [HC.out]; rfl, hB1.trans (hb2.mono hB1.size)⟩
        · have HC := Lib.hid (HC2.out.trans (if_pos h4))
          rw [decide_eq_false (by omega)] at heq
          clear h4 HC2
          go_enter Tryz.func19, Tryz.ntmps19
          go_wp2_with fail
          refine (H1.out _).mono ?_
          rintro e w1 ⟨rfl, rfl⟩
          go_wp2_with fail
          refine (H2.out _).mono ?_
          rintro e w1 ⟨rfl, rfl⟩
          go_wp2_with fail
          refine (HO.out _).mono ?_
          rintro e w1 ⟨rfl, hb1⟩
          rw [← HW.out] at hb1
          have hA1 := HA.out.keep hb1
          have hB1 : Below w.heap.size w w1 := HBL.out.trans (hb1.mono HBL.out.size)
          clear x0 x1
          have x0 := hA1.c0; have x1 := hA1.c1
          clear hA1
          go_wp2_with fail
          refine (HG.out _).mono ?_
          rintro e w2 ⟨rfl, hb2⟩
          go_wp2
          go_ret
          exact ⟨by rw [HC.out]; rfl, hB1.trans (hb2.mono hB1.size)⟩
    · rw [h1] at H1 HCC
      have HC : Hid (cc = chk r.data.toList) := by have := HCC.out; unfold Hid; simp only [ne_eq, not_true_eq_false, if_false] at this; rw [if_pos h2] at this; exact this
      have x0 := hA.c0; have x1 := hA.c1
      rw [hW] at x0 x1
      generalize chk r.data.toList = k at *
      have hx : ¬ ((k : Nat) : Int) = 0 := by omega
      have hx1 : ((k : Int) == 0) = false := beq_eq_false_iff_ne.2 hx
      clear hA hBl hsz hW h1 h2 hcc HCC
      go_enter Tryz.func19, Tryz.ntmps19
      go_wp2_with fail
      refine (H1.out _).mono ?_
      rintro e w1 ⟨rfl, rfl⟩
      go_wp2_with fail
      refine (H2.out _).mono ?_
      rintro e w1 ⟨rfl, rfl⟩
      go_wp2
      go_ret
      exact ⟨by rw [HC.out]; rfl, below1 _ _⟩
  · have HC : Hid (cc = chk s.data.toList) := by have := HCC.out; unfold Hid; rw [if_pos h1, if_pos h1] at this; exact this
    have x0 := hA.c0; have x1 := hA.c1
    rw [hW] at x0 x1
    generalize chk s.data.toList = k at *
    have hx : ¬ ((k : Nat) : Int) = 0 := by omega
    have hx1 : ((k : Int) == 0) = false := beq_eq_false_iff_ne.2 hx
    clear hA hBl hsz hW h1 hcc HCC
    go_enter Tryz.func19, Tryz.ntmps19
    go_wp2_with fail
    refine (H1.out _).mono ?_
    rintro e w1 ⟨rfl, rfl⟩
    go_wp2
    go_ret
    exact ⟨by rw [HC.out]; rfl, below1 _ _⟩

/-- A right fraction: two short texts, right together. -/
def rightB (s r : ByteArray) : Bool := decide (s.size ≤ 40) && decide (r.size ≤ 40) && (fchk s.data.toList r.data.toList == 0)

set_option maxHeartbeats 1600000 in
set_option maxRecDepth 100000 in
theorem right_any (s r : ByteArray) (hs : s.size ≤ 9223372036854775807) (hr : r.size ≤ 9223372036854775807) (w : World) :
    Calls Tryz.prog 40 #[FrV s r] w fun e w' => e = .returned (.bool (rightB s r)) ∧ Below w.heap.size w w' := by
  have H1 := Lib.hid (fun w => rfcheck_any s r hs hr w)
  unfold FrV at *
  obtain ⟨W, hW, hA, hBl, hsz⟩ := box1T 24 w (.string s) (.string r)
  have HW := Lib.hid hW
  have HBL := Lib.hid hBl
  obtain ⟨B, hB⟩ : ∃ B, B = rightB s r := ⟨_, rfl⟩
  rw [← hB]
  have HB := Lib.hid hB
  unfold rightB at HB
  have x0 := hA.c0; have x1 := hA.c1
  rw [hW] at x0 x1
  clear hA hBl hsz hW hB
  by_cases h1 : s.size ≤ 40
  · have d1 : decide ((s.size : Int) ≤ 40) = true := decide_eq_true (by omega)
    by_cases h2 : r.size ≤ 40
    · have d2 : decide ((r.size : Int) ≤ 40) = true := decide_eq_true (by omega)
      rw [decide_eq_true h1, decide_eq_true h2] at HB
      clear h1 h2 hs hr
      generalize fchk s.data.toList r.data.toList = k at *
      by_cases hk : k = 0
      · have hk1 : ((k : Int) == 0) = true := by subst hk; rfl
        have HC : Hid (B = true) := by have := HB.out; subst hk; exact this
        clear HB hk
        go_enter Tryz.func40, Tryz.ntmps40
        go_wp2_with fail
        refine (H1.out _).mono ?_
        rintro e w1 ⟨rfl, hb1⟩
        rw [← HW.out] at hb1
        go_wp2
        go_ret
        exact ⟨by rw [HC.out]; rfl, HBL.out.trans (hb1.mono HBL.out.size)⟩
      · have hk1 : ((k : Int) == 0) = false := beq_eq_false_iff_ne.2 (by omega)
        have HC : Hid (B = false) := by have := HB.out; unfold Hid; rw [this]; simpa using hk
        clear HB hk
        go_enter Tryz.func40, Tryz.ntmps40
        go_wp2_with fail
        refine (H1.out _).mono ?_
        rintro e w1 ⟨rfl, hb1⟩
        rw [← HW.out] at hb1
        go_wp2
        go_ret
        exact ⟨by rw [HC.out]; rfl, HBL.out.trans (hb1.mono HBL.out.size)⟩
    · have d2 : decide ((r.size : Int) ≤ 40) = false := decide_eq_false (by omega)
      rw [decide_eq_true h1, decide_eq_false h2] at HB
      have HC : Hid (B = false) := HB.out
      clear h1 h2 hs hr HB H1
      go_enter Tryz.func40, Tryz.ntmps40
      go_wp2
      go_ret
      exact ⟨by rw [HC.out]; rfl, below1 _ _⟩
  · have d1 : decide ((s.size : Int) ≤ 40) = false := decide_eq_false (by omega)
    rw [decide_eq_false h1] at HB
    have HC : Hid (B = false) := HB.out
    clear h1 hs hr HB H1
    go_enter Tryz.func40, Tryz.ntmps40
    go_wp2
    go_ret
    exact ⟨by rw [HC.out]; rfl, below1 _ _⟩
end Go.Proofs.YtolkiimlchfmlaaGreatDoor

namespace Go.Proofs.YtolkiimlchfmlaaGreatDoor
open Go.RowKit Go.Proofs.Num

/-- A block of one cell. -/
def One (T : TypeId) (w : World) (b : Nat) (x : Value) : Prop := w.heap[b]? = some (.cells #[x] T (0, 0))
theorem One.lt {T : TypeId} {w : World} {b : Nat} {x : Value} (h : One T w b x) : b < w.heap.size := (Array.getElem?_eq_some_iff.1 h).1
theorem One.c0 {T : TypeId} {w : World} {b : Nat} {x : Value} (h : One T w b x) : w.cell? ⟨b, 0, none⟩ = some x := by
  rw [cell_of_row w b 0 _ T (0, 0) h]; rfl
theorem One.f0 {T : TypeId} {w : World} {b : Nat} {x : Value} (h : One T w b x) (j : Nat) : w.frozen? ⟨b, j, none⟩ = false := frozen_of_row w b j _ T h
theorem One.keep {T : TypeId} {w w' : World} {b : Nat} {x : Value} (h : One T w b x) (hb : Below w.heap.size w w') : One T w' b x := (hb.block b h.lt).trans h
theorem One.new (T : TypeId) (w : World) (x : Value) : One T (w.alloc (.cells #[x] T)) w.heap.size x := heap_alloc_new w _
theorem One.same {T : TypeId} {w : World} {b : Nat} {x : Value} (h : One T w b x) : w.setCell ⟨b, 0, none⟩ x = w := by
  have hh : (w.setCell ⟨b, 0, none⟩ x).heap = w.heap := by
    apply Array.ext_getElem?
    intro k
    by_cases e : k = b
    · subst e; rw [heap_setCell_same w k 0 _ T x h, h]; rfl
    · exact heap_setCell_other _ _ k x e
  have he : w.setCell ⟨b, 0, none⟩ x = { w with heap := (w.setCell ⟨b, 0, none⟩ x).heap } := rfl
  rw [he, hh]

set_option maxHeartbeats 1600000 in
set_option maxRecDepth 100000 in
theorem sums_of (b : Nat) (s r : ByteArray) (w : World) (h : One 63 w b (.bool true)) :
    Calls Tryz.prog 42 #[.pointer (some ⟨b, 0, none⟩), FrV s r, .int .i64 0] w (FrOut w s r) := by
  unfold FrOut FrV
  obtain ⟨W, hW, hA, hR, hBl, hsz⟩ := box2T 24 w (.string s) (.string r) (.string ⟨#[]⟩) (.string ⟨#[]⟩)
  have h2 := h.keep hBl
  have HS0 := Lib.hid h.same
  have hlt := h.lt
  have z0 := h2.c0; have z1 := h2.f0 0
  have x0 := hA.c0; have x1 := hA.c1
  have y0 := hR.c0; have y1 := hR.c1; have y2 := hR.f0 0; have y3 := hR.f0 1
  rw [hW] at z0 z1 x0 x1 y0 y1 y2 y3
  clear h h2 hA hR hBl hsz hW
  go_enter Tryz.func42, Tryz.ntmps42
  go_wp2
  rw [HS0.out]
  obtain ⟨W2, hW2, -, hR2, hB2, -⟩ := box2T 24 w (.string s) (.string r) (.string s) (.string r)
  have u0 := hR2.c0; have u1 := hR2.c1
  rw [← hW2]
  refine bodyPost_ret (v := .agg #[.string s, .string r]) (by simp [results, Tryz.results42, go_sem, u0, u1]) rfl ⟨rfl, hB2⟩
end Go.Proofs.YtolkiimlchfmlaaGreatDoor
