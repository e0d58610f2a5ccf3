/- Leaves: vertices, and the comparison of edges. And: The comparison of edges. And: Check of the program. And: edge and Check of the reference. And: Sizes, the edges around a vertex, checks of vertices. And: Degrees, valences, what joins two vertices. And: Valence, Degree, Neighbours of the reference; Neighbours of the program. And: Ends, Size, Holds, SameEnds, Same of the reference. And: Subset of both; Cut of the reference. -/
import Derived.Test.YtlnaahkheankoaaQ02
import Derived.Test.YtlnaahkheankoaaQ03
import Derived.Deep.RegionHeld3
import Derived.Deep.QuietTactic
import Derived.BigQuiet
import Derived.Laws.NewBlocks
import Derived.Laws.Build
import Derived.ChangeKeysEq
namespace Go.Proofs.Ytlnaahkheankoaa
open Go.RowKit Go.Proofs.Gr

theorem below_drewN {B : Nat} {a w : World} (h : Below B a w) (n : Nat) : Below B a (w.drewN n) := ⟨h.os, h.tape, h.output, h.size, h.block⟩
set_option maxHeartbeats 3200000 in
set_option maxRecDepth 100000 in
theorem isVertex_any (n : Int) (a : Option Addr) (l cap : Nat) (v : Int) (w : World) :
    Calls Try.prog 103 #[gv n a l cap, .int .i64 v] w (fun e w' => e = .returned (.bool (isV n v)) ∧ Below w.heap.size w w') := by
  have hE : Hid (isV n v = (decide (0 ≤ v) && decide (v < n))) := Lib.hid rfl
  have HB := Lib.hid ((Below.refl _ w).alloc (Nat.le_refl _) (Obj.cells #[.int .i64 n, .slice a l cap] 24))
  have hc := (Blk.new w 24 #[.int .i64 n, .slice a l cap]).cell 0
  generalize isV n v = E at *
  unfold gv
  by_cases h1 : 0 ≤ v
  · have d1 : decide (0 ≤ v) = true := decide_eq_true h1
    by_cases h2 : v < n
    · have d2 : decide (v < n) = true := decide_eq_true h2
      have hE' : Hid (E = true) := Lib.hid (by rw [hE.out, d1, d2]; rfl)
      clear hE
      go_enter Try.func103, Try.ntmps103
      go_wp2
      go_ret
      exact ⟨by rw [hE'.out]; rfl, HB.out⟩
    · have d2 : decide (v < n) = false := decide_eq_false h2
      have hE' : Hid (E = false) := Lib.hid (by rw [hE.out, d1, d2]; rfl)
      clear hE
      go_enter Try.func103, Try.ntmps103
      go_wp2
      go_ret
      exact ⟨by rw [hE'.out]; rfl, HB.out⟩
  · have d1 : decide (0 ≤ v) = false := decide_eq_false h1
    have hE' : Hid (E = false) := Lib.hid (by rw [hE.out, d1]; rfl)
    clear hE
    go_enter Try.func103, Try.ntmps103
    go_wp2
    go_ret
    exact ⟨by rw [hE'.out]; rfl, HB.out⟩
set_option maxHeartbeats 3200000 in
set_option maxRecDepth 100000 in
theorem vertex_any (n : Int) (a : Option Addr) (l cap : Nat) (v : Int) (w : World) :
    Calls Try.prog 72 #[gv n a l cap, .int .i64 v] w (fun e w' => e = .returned (.bool (isV n v)) ∧ Below w.heap.size w w') := by
  have hE : Hid (isV n v = (decide (0 ≤ v) && decide (v < n))) := Lib.hid rfl
  have HB := Lib.hid ((Below.refl _ w).alloc (Nat.le_refl _) (Obj.cells #[.int .i64 n, .slice a l cap] 24))
  have hc := (Blk.new w 24 #[.int .i64 n, .slice a l cap]).cell 0
  generalize isV n v = E at *
  unfold gv
  by_cases h1 : 0 ≤ v
  · have d1 : decide (0 ≤ v) = true := decide_eq_true h1
    by_cases h2 : v < n
    · have d2 : decide (v < n) = true := decide_eq_true h2
      have hE' : Hid (E = true) := Lib.hid (by rw [hE.out, d1, d2]; rfl)
      clear hE
      go_enter Try.func72, Try.ntmps72
      go_wp2
      go_ret
      exact ⟨by rw [hE'.out]; rfl, HB.out⟩
    · have d2 : decide (v < n) = false := decide_eq_false h2
      have hE' : Hid (E = false) := Lib.hid (by rw [hE.out, d1, d2]; rfl)
      clear hE
      go_enter Try.func72, Try.ntmps72
      go_wp2
      go_ret
      exact ⟨by rw [hE'.out]; rfl, HB.out⟩
  · have d1 : decide (0 ≤ v) = false := decide_eq_false h1
    have hE' : Hid (E = false) := Lib.hid (by rw [hE.out, d1]; rfl)
    clear hE
    go_enter Try.func72, Try.ntmps72
    go_wp2
    go_ret
    exact ⟨by rw [hE'.out]; rfl, HB.out⟩
theorem isNaN_any (v : Int) (w : World) : Calls Try.prog 117 #[.int .i64 v] w (fun e w' => e = .returned (.bool false) ∧ w = w') := by
  go_enter Try.func117, Try.ntmps117
  go_wp2
  go_ret
  exact ⟨by simp, rfl⟩
/-- The sign of a comparison. -/
def cmpZ (x y : Int) : Int := if x < y then -1 else if y < x then 1 else 0
set_option maxHeartbeats 3200000 in
set_option maxRecDepth 100000 in
theorem cmpI_any (x y : Int) (w : World) : Calls Try.prog 116 #[.int .i64 x, .int .i64 y] w (fun e w' => e = .returned (.int .i64 (cmpZ x y)) ∧ w = w') := by
  have HN := Lib.hid (fun v w => isNaN_any v w)
  have hE : Hid (cmpZ x y = if x < y then -1 else if y < x then 1 else 0) := Lib.hid rfl
  generalize cmpZ x y = E at *
  by_cases h1 : x < y
  · have hE' : Hid (E = -1) := Lib.hid (by rw [hE.out, if_pos h1])
    clear hE
    go_enter Try.func116, Try.ntmps116
    go_wp2_with (go_at_call 117; refine (HN.out _ _).mono ?_; rintro e wz ⟨rfl, rfl⟩)
    go_ret
    exact ⟨by rw [hE'.out]; rfl, rfl⟩
  · by_cases h2 : y < x
    · have hE' : Hid (E = 1) := Lib.hid (by rw [hE.out, if_neg h1, if_pos h2])
      clear hE
      go_enter Try.func116, Try.ntmps116
      go_wp2_with (go_at_call 117; refine (HN.out _ _).mono ?_; rintro e wz ⟨rfl, rfl⟩)
      go_ret
      exact ⟨by rw [hE'.out]; rfl, rfl⟩
    · have hE' : Hid (E = 0) := Lib.hid (by rw [hE.out, if_neg h1, if_neg h2])
      clear hE
      go_enter Try.func116, Try.ntmps116
      go_wp2_with (go_at_call 117; refine (HN.out _ _).mono ?_; rintro e wz ⟨rfl, rfl⟩)
      go_ret
      exact ⟨by rw [hE'.out]; rfl, rfl⟩
/-- The first of two numbers that is not 0. -/
def orZ (x y : Int) : Int := if x ≠ 0 then x else y
set_option maxHeartbeats 3200000 in
set_option maxRecDepth 100000 in
theorem or_any (x y : Int) (b c : Nat) (w : World) (h0 : w.cell? ⟨b, 0, none⟩ = some (.int .i64 x)) (h1 : w.cell? ⟨b, 1, none⟩ = some (.int .i64 y)) :
    Calls Try.prog 115 #[.slice (some ⟨b, 0, none⟩) 2 c] w (fun e w' => e = .returned (.int .i64 (orZ x y)) ∧ w = w') := by
  have hE : Hid (orZ x y = if x ≠ 0 then x else y) := Lib.hid rfl
  generalize orZ x y = E at *
  by_cases hx : x = 0
  · subst hx
    by_cases hy : y = 0
    · subst hy
      have hE' : Hid (E = 0) := Lib.hid (by rw [hE.out]; rfl)
      clear hE
      go_enter Try.func115, Try.ntmps115
      go_wp2
      refine wp_loop_rounds 3 ?_
      rw [rounds_succ]
      go_wp2
      rw [rounds_succ]
      go_wp2
      rw [rounds_succ]
      go_wp2
      go_ret
      exact ⟨by rw [hE'.out]; rfl, rfl⟩
    · have hE' : Hid (E = y) := Lib.hid (by rw [hE.out]; rfl)
      clear hE
      go_enter Try.func115, Try.ntmps115
      go_wp2
      refine wp_loop_rounds 3 ?_
      rw [rounds_succ]
      go_wp2
      rw [rounds_succ]
      go_wp2
      go_ret
      exact ⟨by rw [hE'.out]; rfl, rfl⟩
  · have hE' : Hid (E = x) := Lib.hid (by rw [hE.out, if_pos hx])
    clear hE
    go_enter Try.func115, Try.ntmps115
    go_wp2
    refine wp_loop_rounds 3 ?_
    rw [rounds_succ]
    go_wp2
    go_ret
    exact ⟨by rw [hE'.out]; rfl, rfl⟩
end Go.Proofs.Ytlnaahkheankoaa

namespace Go.Proofs.Ytlnaahkheankoaa
open Go.RowKit Go.Proofs.Gr

/-- An edge's value. -/
def ev (x : E) : Value := .agg #[.int .i64 x.a, .int .i64 x.b, .int .i64 x.m]
/-- The sign of the comparison of two edges. -/
def cmpE (x y : E) : Int := orZ (cmpZ x.a y.a) (cmpZ x.b y.b)
theorem cmpE_lt (x y : E) : cmpE x y < 0 ↔ ltE x y = true := by
  unfold cmpE orZ cmpZ
  simp only [ltE, Bool.or_eq_true, Bool.and_eq_true, decide_eq_true_eq]
  by_cases h1 : x.a < y.a
  · rw [if_pos h1, if_pos (by omega)]; omega
  · rw [if_neg h1]
    by_cases h2 : y.a < x.a
    · rw [if_pos h2, if_pos (by omega)]; omega
    · rw [if_neg h2, if_neg (by omega)]
      by_cases h3 : x.b < y.b
      · rw [if_pos h3]; omega
      · rw [if_neg h3]
        by_cases h4 : y.b < x.b
        · rw [if_pos h4]; omega
        · rw [if_neg h4]; omega
set_option maxHeartbeats 6400000 in
set_option maxRecDepth 100000 in
theorem compare_any (x y : E) (w : World) :
    Calls Try.prog 109 #[ev x, ev y] w (fun e w' => e = .returned (.int .i64 (cmpE x y)) ∧ ∃ o1 o2 o3, w' = (((w.alloc o1).alloc o2).alloc o3).drew) := by
  have HC := Lib.hid (fun x y w => cmpI_any x y w)
  have HO := Lib.hid (fun x y b c w h0 h1 => or_any x y b c w h0 h1)
  unfold ev
  obtain ⟨xa, xb, xm⟩ := x
  obtain ⟨ya, yb, ym⟩ := y
  have hE : Hid (cmpE ⟨xa, xb, xm⟩ ⟨ya, yb, ym⟩ = orZ (cmpZ xa ya) (cmpZ xb yb)) := Lib.hid rfl
  generalize cmpE ⟨xa, xb, xm⟩ ⟨ya, yb, ym⟩ = E0 at *
  generalize hc1 : cmpZ xa ya = c1 at *
  generalize hc2 : cmpZ xb yb = c2 at *
  have HC1 : Hid (∀ w, Calls Try.prog 116 #[.int .i64 xa, .int .i64 ya] w (fun e w' => e = .returned (.int .i64 c1) ∧ w = w')) := Lib.hid fun w => by rw [← hc1]; exact HC.out xa ya w
  have HC2 : Hid (∀ w, Calls Try.prog 116 #[.int .i64 xb, .int .i64 yb] w (fun e w' => e = .returned (.int .i64 c2) ∧ w = w')) := Lib.hid fun w => by rw [← hc2]; exact HC.out xb yb w
  clear HC hc1 hc2
  simp only
  obtain ⟨W, hW⟩ : ∃ W, W = (w.alloc (Obj.cells #[.int .i64 xa, .int .i64 xb, .int .i64 xm] 79)).alloc (Obj.cells #[.int .i64 ya, .int .i64 yb, .int .i64 ym] 79) := ⟨_, rfl⟩
  have hs : W.heap.size = w.heap.size + 1 + 1 := by rw [hW]; simp
  have hb1 : Blk W w.heap.size 79 #[.int .i64 xa, .int .i64 xb, .int .i64 xm] := by rw [hW]; exact (Blk.new _ _ _).alloc _
  have hb2 : Blk W (w.heap.size + 1) 79 #[.int .i64 ya, .int .i64 yb, .int .i64 ym] := by
    rw [hW]
    have := Blk.new (w.alloc (Obj.cells #[.int .i64 xa, .int .i64 xb, .int .i64 xm] 79)) 79 #[.int .i64 ya, .int .i64 yb, .int .i64 ym]
    rwa [World.size_alloc] at this
  have HW := Lib.hid hW
  have HB1 := Lib.hid hb1
  have HB2 := Lib.hid hb2
  have HSZ := Lib.hid hs
  have HS : Hid (∀ x, Below W.heap.size W x → (x.cell? ⟨w.heap.size, 0, none⟩ = some (.int .i64 xa) ∧ x.cell? ⟨w.heap.size, 1, none⟩ = some (.int .i64 xb) ∧ x.cell? ⟨w.heap.size + 1, 0, none⟩ = some (.int .i64 ya) ∧ x.cell? ⟨w.heap.size + 1, 1, none⟩ = some (.int .i64 yb))) := fun x hx => ⟨(HB1.out.below hx HB1.out.lt).cell 0, (HB1.out.below hx HB1.out.lt).cell 1, (HB2.out.below hx HB2.out.lt).cell 0, (HB2.out.below hx HB2.out.lt).cell 1⟩
  clear hs hb1 hb2 hW
  go_enter Try.func109, Try.ntmps109
  go_wp2
  rw [← HW.out]
  have hk2 : Below W.heap.size W W.drew := (Below.refl _ _).drew
  obtain ⟨f0, f1, f2, f3⟩ := HS.out _ hk2
  go_region_held3 (fun x => x.cell? ⟨w.heap.size, 0, none⟩ = some (.int .i64 xa) ∧ x.cell? ⟨w.heap.size, 1, none⟩ = some (.int .i64 xb) ∧ x.cell? ⟨w.heap.size + 1, 0, none⟩ = some (.int .i64 ya) ∧ x.cell? ⟨w.heap.size + 1, 1, none⟩ = some (.int .i64 yb))
    (first | exact HS.out _ (by assumption) | exact HS.out _ (Below.drew (by assumption)) | (refine HS.out _ ?_; exact Below.alloc hk2 hk2.size _))
    (first | (go_at_call 116; (first | (with_reducible refine (HC1.out _).mono ?_) | (with_reducible refine (HC2.out _).mono ?_)); rintro e wz ⟨rfl, rfl⟩) | (go_at_call 115; refine (HO.out c1 c2 W.heap.size 2 _ ((Blk.new W.drew 3 #[.int .i64 c1, .int .i64 c2]).cell 0) ((Blk.new W.drew 3 #[.int .i64 c1, .int .i64 c2]).cell 1)).mono ?_; rintro e wz ⟨rfl, rfl⟩))
  go_wp2
  go_ret
  exact ⟨by rw [hE.out]; rfl, _, _, _, by rw [HW.out]⟩
theorem compare_below (x y : E) (w : World) : Calls Try.prog 109 #[ev x, ev y] w (fun e w' => e = .returned (.int .i64 (cmpE x y)) ∧ Below w.heap.size w w') := by
  refine (compare_any x y w).mono ?_
  rintro e w' ⟨rfl, o1, o2, o3, rfl⟩
  exact ⟨rfl, ((((Below.refl _ w).alloc (Nat.le_refl _) o1).alloc (by simp) o2).alloc (by simp; omega) o3).drew⟩
end Go.Proofs.Ytlnaahkheankoaa

namespace Go.Proofs.Ytlnaahkheankoaa
open Go.RowKit Go.Proofs.Gr

theorem rngE_eq (n : Int) (x : E) : rngE n x = (isV n x.a && isV n x.b && decide (1 ≤ x.m) && decide (x.m ≤ 50)) := rfl
/-- Hands back a number; what lay below is as it was. -/
def GivesN (w : World) (z : Int) (e : Ending) (w' : World) : Prop := e = .returned (.int .i64 z) ∧ Below w.heap.size w w'

set_option maxHeartbeats 12800000 in
set_option maxRecDepth 100000 in
theorem check_any (n : Int) (a : Option Addr) (cap : Nat) (L : List E) (hL : L.length ≤ 4611686018427387904) (w : World) (h : EsAt w a L) :
    Calls Try.prog 93 #[gv n a L.length cap] w (GivesN w (chkG n L : Nat)) := by
  have HV := Lib.hid (fun v w => isVertex_any n a L.length cap v w)
  have HCM := Lib.hid (fun x y w => compare_below x y w)
  unfold GivesN gv at *
  unfold ev at HCM
  by_cases hn : n < 1 ∨ 12 < n
  · have HR : Hid (chkG n L = 2) := Lib.hid (by unfold chkG; rw [if_pos hn])
    have HB := Lib.hid ((Below.refl _ w).alloc (Nat.le_refl _) (Obj.cells #[.int .i64 n, .slice a L.length cap] 24))
    have hc := (Blk.new w 24 #[.int .i64 n, .slice a L.length cap]).cell 0
    by_cases h1 : n < 1
    · have d1 : decide (n < 1) = true := decide_eq_true h1
      clear h
      go_enter Try.func93, Try.ntmps93
      go_wp2
      go_ret
      exact ⟨by rw [HR.out]; rfl, HB.out⟩
    · have d1 : decide (n < 1) = false := decide_eq_false h1
      have d2 : decide (12 < n) = true := decide_eq_true (by omega)
      clear h
      go_enter Try.func93, Try.ntmps93
      go_wp2
      go_ret
      exact ⟨by rw [HR.out]; rfl, HB.out⟩
  have HR : Hid (chkG n L = firstE (errAt n L) L.length) := Lib.hid (by unfold chkG; rw [if_neg hn])
  have d1 : decide (n < 1) = false := decide_eq_false (by omega)
  have d2 : decide (12 < n) = false := decide_eq_false (by omega)
  clear hn
  obtain ⟨W, hW⟩ : ∃ W, W = w.alloc (Obj.cells #[.int .i64 n, .slice a L.length cap] 24) := ⟨_, rfl⟩
  have hB0 : Below w.heap.size w W := by rw [hW]; exact (Below.refl _ w).alloc (Nat.le_refl _) _
  have hG : Blk W w.heap.size 24 #[.int .i64 n, .slice a L.length cap] := by rw [hW]; exact Blk.new _ _ _
  have HW := Lib.hid hW
  have HB0 := Lib.hid hB0
  have HG := Lib.hid hG
  have HE := Lib.hid (h.keep hB0)
  have g0 : W.cell? ⟨w.heap.size, 0, none⟩ = some (.int .i64 n) := hG.cell 0
  have g1 : W.cell? ⟨w.heap.size, 1, none⟩ = some (.slice a L.length cap) := hG.cell 1
  generalize chkG n L = R at *
  clear h hB0 hG hW
  go_enter Try.func93, Try.ntmps93
  go_wp2
  rw [← HW.out]
  go_wp2
  go_loopw [16] (fun v wr => ∃ i : Nat, i ≤ L.length ∧ v = .int .i64 i ∧ (∀ j, j < i → errAt n L j = 0) ∧ Below W.heap.size W wr) (fun v _ => L.length - (intOf v).toNat)
  case atStart => exact ⟨0, by omega, rfl, fun j hj => by omega, Below.refl _ _⟩
  case round =>
    obtain ⟨i, hi, rfl, hz, hb⟩ := hrel
    by_cases hlt : i < L.length
    · obtain ⟨T, hTe⟩ : ∃ T, T = eAt L i := ⟨_, rfl⟩
      have HT := Lib.hid hTe
      obtain ⟨b1, o1, rfl, q1, x1, x2, x3⟩ := (HE.out.keep hb).three i hlt
      rw [← hTe] at x1 x2 x3
      have HEr : Hid (errAt n L i = if rngE n T = false then 2 else if T.b < T.a then 9 else if 0 < i ∧ ltE (eAt L (i - 1)) T = false then 9 else 0) := Lib.hid (by rw [hTe]; rfl)
      have HZ := Lib.hid hz
      have HFI : Hid (errAt n L i ≠ 0 → R = errAt n L i) := Lib.hid (fun hne => by rw [HR.out]; exact firstE_at HZ.out hne hlt)
      have HNX : Hid (errAt n L i = 0 → ∀ j, j < i + 1 → errAt n L j = 0) := Lib.hid (fun h0 j hj => by
        by_cases e : j = i
        · subst e; exact h0
        · exact HZ.out j (by omega))
      generalize errAt n L i = er at *
      obtain ⟨ta, tb, tm⟩ := T
      simp only at x1 x2 x3
      have HRg := Lib.hid (rngE_eq n ⟨ta, tb, tm⟩)
      simp only at HRg
      have g0' : wr.cell? ⟨w.heap.size, 0, none⟩ = some (.int .i64 n) := (HG.out.below hb HG.out.lt).cell 0
      have g1' : wr.cell? ⟨w.heap.size, 1, none⟩ = some (.slice (some ⟨b1, o1, none⟩) L.length cap) := (HG.out.below hb HG.out.lt).cell 1
      have HGr := Lib.hid (HG.out.below hb HG.out.lt)
      have HBr := Lib.hid hb
      obtain ⟨V, hV⟩ : ∃ V, V = wr.alloc (Obj.cells #[.int .i64 ta, .int .i64 tb, .int .i64 tm] 79) := ⟨_, rfl⟩
      have HVe := Lib.hid hV
      have HBV : Hid (Below W.heap.size W V) := Lib.hid (by rw [hV]; exact hb.alloc hb.size _)
      have HGV : Hid (Blk V w.heap.size 24 #[.int .i64 n, .slice (some ⟨b1, o1, none⟩) L.length cap]) := Lib.hid (by rw [hV]; exact HGr.out.alloc _)
      have HQV : Hid (Blk V wr.heap.size 79 #[.int .i64 ta, .int .i64 tb, .int .i64 tm]) := Lib.hid (by rw [hV]; exact Blk.new _ _ _)
      have HFAC : Hid (∀ x, Below V.heap.size V x → (x.cell? ⟨w.heap.size, 0, none⟩ = some (.int .i64 n) ∧ x.cell? ⟨w.heap.size, 1, none⟩ = some (.slice (some ⟨b1, o1, none⟩) L.length cap) ∧ x.cell? ⟨wr.heap.size, 0, none⟩ = some (.int .i64 ta) ∧ x.cell? ⟨wr.heap.size, 1, none⟩ = some (.int .i64 tb) ∧ x.cell? ⟨wr.heap.size, 2, none⟩ = some (.int .i64 tm))) :=
        fun x hx => ⟨(HGV.out.below hx HGV.out.lt).cell 0, (HGV.out.below hx HGV.out.lt).cell 1, (HQV.out.below hx HQV.out.lt).cell 0, (HQV.out.below hx HQV.out.lt).cell 1, (HQV.out.below hx HQV.out.lt).cell 2⟩
      have g2' : (wr.alloc (Obj.cells #[.int .i64 ta, .int .i64 tb, .int .i64 tm] 79)).cell? ⟨w.heap.size, 0, none⟩ = some (.int .i64 n) := by rw [← hV]; exact (HFAC.out _ (Below.refl _ V)).1
      have g3' : (wr.alloc (Obj.cells #[.int .i64 ta, .int .i64 tb, .int .i64 tm] 79)).cell? ⟨w.heap.size, 1, none⟩ = some (.slice (some ⟨b1, o1, none⟩) L.length cap) := by rw [← hV]; exact (HFAC.out _ (Below.refl _ V)).2.1
      clear hb hTe hz hV
      have HVA := Lib.hid (fun w => HV.out ta w)
      have HVB := Lib.hid (fun w => HV.out tb w)
      have HVE : Hid (isV n ta = isV n ta) := Lib.hid rfl
      generalize hva : isV n ta = va at *
      generalize hvb : isV n tb = vb at *
      cases va
      · have HEr' : er = 2 := by rw [HEr.out, HRg.out]; rfl
        go_wp2_with fail
        rw [← HVe.out]
        refine (HVA.out _).mono ?_
        rintro e w1 ⟨rfl, hb1⟩
        have hk1 : Below V.heap.size V w1 := hb1
        obtain ⟨f10, f11, f12, f13, f14⟩ := HFAC.out _ hk1
        clear hb1
        go_wp2
        go_ret
        exact ⟨by rw [HFI.out (by rw [HEr']; omega), HEr']; rfl, HB0.out.trans ((HBV.out.trans (hk1.mono HBV.out.size)).mono HB0.out.size)⟩
      · cases vb
        · have HEr' : er = 2 := by rw [HEr.out, HRg.out]; rfl
          go_wp2_with fail
          rw [← HVe.out]
          refine (HVA.out _).mono ?_
          rintro e w1 ⟨rfl, hb1⟩
          have hk1 : Below V.heap.size V w1 := hb1
          obtain ⟨f10, f11, f12, f13, f14⟩ := HFAC.out _ hk1
          clear hb1
          go_wp2_with fail
          refine (HVB.out _).mono ?_
          rintro e w2 ⟨rfl, hb2⟩
          have hk2 : Below V.heap.size V w2 := hk1.trans (hb2.mono hk1.size)
          obtain ⟨f20, f21, f22, f23, f24⟩ := HFAC.out _ hk2
          clear hb2
          go_wp2
          go_ret
          exact ⟨by rw [HFI.out (by rw [HEr']; omega), HEr']; rfl, HB0.out.trans ((HBV.out.trans (hk2.mono HBV.out.size)).mono HB0.out.size)⟩
        · by_cases hm1 : tm < 1
          · have HEr' : er = 2 := by rw [HEr.out, HRg.out, decide_eq_false (by omega : ¬ 1 ≤ tm)]; rfl
            have c1 : decide (tm < 1) = true := decide_eq_true hm1
            go_wp2_with fail
            rw [← HVe.out]
            refine (HVA.out _).mono ?_
            rintro e w1 ⟨rfl, hb1⟩
            have hk1 : Below V.heap.size V w1 := hb1
            obtain ⟨f10, f11, f12, f13, f14⟩ := HFAC.out _ hk1
            clear hb1
            go_wp2_with fail
            refine (HVB.out _).mono ?_
            rintro e w2 ⟨rfl, hb2⟩
            have hk2 : Below V.heap.size V w2 := hk1.trans (hb2.mono hk1.size)
            obtain ⟨f20, f21, f22, f23, f24⟩ := HFAC.out _ hk2
            clear hb2
            go_wp2
            go_ret
            exact ⟨by rw [HFI.out (by rw [HEr']; omega), HEr']; rfl, HB0.out.trans ((HBV.out.trans (hk2.mono HBV.out.size)).mono HB0.out.size)⟩
          · by_cases hm2 : 50 < tm
            · have HEr' : er = 2 := by rw [HEr.out, HRg.out, decide_eq_false (by omega : ¬ tm ≤ 50)]; simp
              have c1 : decide (tm < 1) = false := decide_eq_false hm1
              have c2 : decide (50 < tm) = true := decide_eq_true hm2
              go_wp2_with fail
              rw [← HVe.out]
              refine (HVA.out _).mono ?_
              rintro e w1 ⟨rfl, hb1⟩
              have hk1 : Below V.heap.size V w1 := hb1
              obtain ⟨f10, f11, f12, f13, f14⟩ := HFAC.out _ hk1
              clear hb1
              go_wp2_with fail
              refine (HVB.out _).mono ?_
              rintro e w2 ⟨rfl, hb2⟩
              have hk2 : Below V.heap.size V w2 := hk1.trans (hb2.mono hk1.size)
              obtain ⟨f20, f21, f22, f23, f24⟩ := HFAC.out _ hk2
              clear hb2
              go_wp2
              go_ret
              exact ⟨by rw [HFI.out (by rw [HEr']; omega), HEr']; rfl, HB0.out.trans ((HBV.out.trans (hk2.mono HBV.out.size)).mono HB0.out.size)⟩
            · have c1 : decide (tm < 1) = false := decide_eq_false hm1
              have c2 : decide (50 < tm) = false := decide_eq_false hm2
              have HRt : Hid (rngE n ⟨ta, tb, tm⟩ = true) := Lib.hid (by rw [HRg.out, decide_eq_true (by omega : 1 ≤ tm), decide_eq_true (by omega : tm ≤ 50)]; rfl)
              by_cases hab : tb < ta
              · have HEr' : er = 9 := by rw [HEr.out, HRt.out, if_neg (by simp), if_pos hab]
                have c3 : decide (tb < ta) = true := decide_eq_true hab
                go_wp2_with fail
                rw [← HVe.out]
                refine (HVA.out _).mono ?_
                rintro e w1 ⟨rfl, hb1⟩
                have hk1 : Below V.heap.size V w1 := hb1
                obtain ⟨f10, f11, f12, f13, f14⟩ := HFAC.out _ hk1
                clear hb1
                go_wp2_with fail
                refine (HVB.out _).mono ?_
                rintro e w2 ⟨rfl, hb2⟩
                have hk2 : Below V.heap.size V w2 := hk1.trans (hb2.mono hk1.size)
                obtain ⟨f20, f21, f22, f23, f24⟩ := HFAC.out _ hk2
                clear hb2
                go_wp2
                go_quiet (fail)
                have hkX : Below V.heap.size V (w2.drewN nq) := below_drewN hk2 _
                go_wp2
                go_ret
                exact ⟨by rw [HFI.out (by rw [HEr']; omega), HEr']; rfl, HB0.out.trans ((HBV.out.trans (hkX.mono HBV.out.size)).mono HB0.out.size)⟩
              · have c3 : decide (tb < ta) = false := decide_eq_false hab
                rcases Nat.eq_zero_or_pos i with hi0 | hi0
                · subst hi0
                  have HEr' : er = 0 := by rw [HEr.out, HRt.out, if_neg (by simp), if_neg hab, if_neg (by omega)]
                  simp only [Nat.zero_mul, Nat.add_zero] at x1 x2 x3
                  go_wp2_with fail
                  rw [← HVe.out]
                  refine (HVA.out _).mono ?_
                  rintro e w1 ⟨rfl, hb1⟩
                  have hk1 : Below V.heap.size V w1 := hb1
                  obtain ⟨f10, f11, f12, f13, f14⟩ := HFAC.out _ hk1
                  clear hb1
                  go_wp2_with fail
                  refine (HVB.out _).mono ?_
                  rintro e w2 ⟨rfl, hb2⟩
                  have hk2 : Below V.heap.size V w2 := hk1.trans (hb2.mono hk1.size)
                  obtain ⟨f20, f21, f22, f23, f24⟩ := HFAC.out _ hk2
                  clear hb2
                  go_wp2
                  go_quiet (fail)
                  have hkX : Below V.heap.size V (w2.drewN nq) := below_drewN hk2 _
                  go_wp2
                  go_roundw
                  case rel => exact ⟨0 + 1, by omega, by go_num, HNX.out HEr', HBV.out.trans (hkX.mono HBV.out.size)⟩
                  case measure => simp [intOf]; omega
                · obtain ⟨m, rfl⟩ : ∃ m, i = m + 1 := ⟨i - 1, by omega⟩
                  obtain ⟨S, hSe⟩ : ∃ S, S = eAt L m := ⟨_, rfl⟩
                  have HSe := Lib.hid hSe
                  obtain ⟨b2, o2, ha2, q2, y1, y2, y3⟩ := (HE.out.keep HBr.out).three m (by omega)
                  rw [← hSe] at y1 y2 y3
                  simp only [Option.some.injEq, Addr.mk.injEq, and_true] at ha2
                  obtain ⟨rfl, rfl⟩ := ha2
                  have HY : Hid (∀ x, Below wr.heap.size wr x → (x.cell? ⟨b1, o1 + m * 3, none⟩ = some (.int .i64 S.a) ∧ x.cell? ⟨b1, o1 + m * 3 + 1, none⟩ = some (.int .i64 S.b) ∧ x.cell? ⟨b1, o1 + m * 3 + 2, none⟩ = some (.int .i64 S.m))) :=
                    fun x hx => ⟨(hx.cell (p := ⟨b1, o1 + m * 3, none⟩) q1).trans y1, (hx.cell (p := ⟨b1, o1 + m * 3 + 1, none⟩) q1).trans y2, (hx.cell (p := ⟨b1, o1 + m * 3 + 2, none⟩) q1).trans y3⟩
                  have HVw : Hid (Below wr.heap.size wr V) := Lib.hid (by rw [HVe.out]; exact (Below.refl _ wr).alloc (Nat.le_refl _) _)
                  have HLT : Hid (cmpE S ⟨ta, tb, tm⟩ < 0 ↔ ltE S ⟨ta, tb, tm⟩ = true) := Lib.hid (cmpE_lt _ _)
                  have HEr2 : Hid (er = if ltE S ⟨ta, tb, tm⟩ = false then 9 else 0) := Lib.hid (by
                    rw [HEr.out, HRt.out, if_neg (by simp), if_neg hab, show m + 1 - 1 = m from rfl, ← HSe.out]
                    by_cases hq : ltE S ⟨ta, tb, tm⟩ = false
                    · rw [if_pos ⟨by omega, hq⟩, if_pos hq]
                    · rw [if_neg (fun hh => hq hh.2), if_neg hq])
                  have HCC := Lib.hid (fun w => HCM.out S ⟨ta, tb, tm⟩ w)
                  simp only at HCC
                  generalize cmpE S ⟨ta, tb, tm⟩ = cc at *
                  obtain ⟨sa, sb, sm⟩ := S
                  simp only at y1 y2 y3 HY HCC
                  have z1 : IntKind.i64.wrap (((m : Nat) : Int) + 1 - 1) = (m : Int) := by
                    rw [show ((m : Nat) : Int) + 1 - 1 = m by omega]; exact IntWalk.i64_in _ (by omega)
                  have z6 : IntKind.i64.wrap (m : Int) = (m : Int) := IntWalk.i64_in _ (by omega)
                  have z2 : (0 : Int) ≤ (m : Int) := by omega
                  have z3 : (m : Int) < ((L.length : Nat) : Int) := by omega
                  have z4 : (0 : Int) < ((m + 1 : Nat) : Int) := by omega
                  have z5 : (0 : Int) < (m : Int) + 1 := by omega
                  clear hSe y1 y2 y3
                  by_cases hcc : 0 ≤ cc
                  · have HEr' : er = 9 := by
                      rw [HEr2.out, if_pos]
                      by_cases hq : ltE ⟨sa, sb, sm⟩ ⟨ta, tb, tm⟩ = true
                      · have := HLT.out.2 hq; omega
                      · simpa using hq
                    go_wp2_with fail
                    rw [← HVe.out]
                    refine (HVA.out _).mono ?_
                    rintro e w1 ⟨rfl, hb1⟩
                    have hk1 : Below V.heap.size V w1 := hb1
                    obtain ⟨f10, f11, f12, f13, f14⟩ := HFAC.out _ hk1
                    clear hb1
                    go_wp2_with fail
                    refine (HVB.out _).mono ?_
                    rintro e w2 ⟨rfl, hb2⟩
                    have hk2 : Below V.heap.size V w2 := hk1.trans (hb2.mono hk1.size)
                    obtain ⟨f20, f21, f22, f23, f24⟩ := HFAC.out _ hk2
                    clear hb2
                    have d9 : decide (0 ≤ cc) = true := decide_eq_true hcc
                    go_wp2
                    have HS2 : Hid (∀ x, Below w2.heap.size w2 x → (Below w2.heap.size w2 x ∧ x.cell? ⟨w.heap.size, 1, none⟩ = some (.slice (some ⟨b1, o1, none⟩) L.length cap) ∧ x.cell? ⟨wr.heap.size, 0, none⟩ = some (.int .i64 ta) ∧ x.cell? ⟨wr.heap.size, 1, none⟩ = some (.int .i64 tb) ∧ x.cell? ⟨wr.heap.size, 2, none⟩ = some (.int .i64 tm) ∧ x.cell? ⟨b1, o1 + m * 3, none⟩ = some (.int .i64 sa) ∧ x.cell? ⟨b1, o1 + m * 3 + 1, none⟩ = some (.int .i64 sb) ∧ x.cell? ⟨b1, o1 + m * 3 + 2, none⟩ = some (.int .i64 sm))) := fun x hx => by
                      have hVx : Below V.heap.size V x := hk2.trans (hx.mono hk2.size)
                      obtain ⟨-, u1, u2, u3, u4⟩ := HFAC.out x hVx
                      obtain ⟨v1, v2, v3⟩ := HY.out x (HVw.out.trans (hVx.mono HVw.out.size))
                      exact ⟨hx, u1, u2, u3, u4, v1, v2, v3⟩
                    have HK2 := Lib.hid hk2
                    clear hk2
                    have hk2 : Below w2.heap.size w2 w2.drew := (Below.refl _ _).drew
                    obtain ⟨_, r1, r2, r3, r4, r5, r6, r7⟩ := HS2.out _ hk2
                    go_region_held3 (fun x => Below w2.heap.size w2 x ∧ x.cell? ⟨w.heap.size, 1, none⟩ = some (.slice (some ⟨b1, o1, none⟩) L.length cap) ∧ x.cell? ⟨wr.heap.size, 0, none⟩ = some (.int .i64 ta) ∧ x.cell? ⟨wr.heap.size, 1, none⟩ = some (.int .i64 tb) ∧ x.cell? ⟨wr.heap.size, 2, none⟩ = some (.int .i64 tm) ∧ x.cell? ⟨b1, o1 + m * 3, none⟩ = some (.int .i64 sa) ∧ x.cell? ⟨b1, o1 + m * 3 + 1, none⟩ = some (.int .i64 sb) ∧ x.cell? ⟨b1, o1 + m * 3 + 2, none⟩ = some (.int .i64 sm))
                      (first | exact HS2.out _ (by assumption) | exact HS2.out _ (Below.drew (by assumption)))
                      (first | (go_at_call 109; refine (HCC.out _).mono ?_; rintro e wz ⟨rfl, hbz⟩; have hk3 := hk2.trans (hbz.mono hk2.size); clear hbz hk2; have hk2 := hk3; clear hk3))
                    rename_i hHeldz
                    clear hHeldz
                    go_wp2
                    go_ret
                    exact ⟨by rw [HFI.out (by rw [HEr']; omega), HEr']; rfl, HB0.out.trans ((HBV.out.trans ((HK2.out.trans (hk2.mono HK2.out.size)).mono HBV.out.size)).mono HB0.out.size)⟩
                  · have HEr' : er = 0 := by
                      rw [HEr2.out, if_neg]
                      have := HLT.out.1 (by omega)
                      rw [this]; simp
                    go_wp2_with fail
                    rw [← HVe.out]
                    refine (HVA.out _).mono ?_
                    rintro e w1 ⟨rfl, hb1⟩
                    have hk1 : Below V.heap.size V w1 := hb1
                    obtain ⟨f10, f11, f12, f13, f14⟩ := HFAC.out _ hk1
                    clear hb1
                    go_wp2_with fail
                    refine (HVB.out _).mono ?_
                    rintro e w2 ⟨rfl, hb2⟩
                    have hk2 : Below V.heap.size V w2 := hk1.trans (hb2.mono hk1.size)
                    obtain ⟨f20, f21, f22, f23, f24⟩ := HFAC.out _ hk2
                    clear hb2
                    have d9 : decide (0 ≤ cc) = false := decide_eq_false (by omega)
                    go_wp2
                    have HS2 : Hid (∀ x, Below w2.heap.size w2 x → (Below w2.heap.size w2 x ∧ x.cell? ⟨w.heap.size, 1, none⟩ = some (.slice (some ⟨b1, o1, none⟩) L.length cap) ∧ x.cell? ⟨wr.heap.size, 0, none⟩ = some (.int .i64 ta) ∧ x.cell? ⟨wr.heap.size, 1, none⟩ = some (.int .i64 tb) ∧ x.cell? ⟨wr.heap.size, 2, none⟩ = some (.int .i64 tm) ∧ x.cell? ⟨b1, o1 + m * 3, none⟩ = some (.int .i64 sa) ∧ x.cell? ⟨b1, o1 + m * 3 + 1, none⟩ = some (.int .i64 sb) ∧ x.cell? ⟨b1, o1 + m * 3 + 2, none⟩ = some (.int .i64 sm))) := fun x hx => by
                      have hVx : Below V.heap.size V x := hk2.trans (hx.mono hk2.size)
                      obtain ⟨-, u1, u2, u3, u4⟩ := HFAC.out x hVx
                      obtain ⟨v1, v2, v3⟩ := HY.out x (HVw.out.trans (hVx.mono HVw.out.size))
                      exact ⟨hx, u1, u2, u3, u4, v1, v2, v3⟩
                    have HK2 := Lib.hid hk2
                    clear hk2
                    have hk2 : Below w2.heap.size w2 w2.drew := (Below.refl _ _).drew
                    obtain ⟨_, r1, r2, r3, r4, r5, r6, r7⟩ := HS2.out _ hk2
                    go_region_held3 (fun x => Below w2.heap.size w2 x ∧ x.cell? ⟨w.heap.size, 1, none⟩ = some (.slice (some ⟨b1, o1, none⟩) L.length cap) ∧ x.cell? ⟨wr.heap.size, 0, none⟩ = some (.int .i64 ta) ∧ x.cell? ⟨wr.heap.size, 1, none⟩ = some (.int .i64 tb) ∧ x.cell? ⟨wr.heap.size, 2, none⟩ = some (.int .i64 tm) ∧ x.cell? ⟨b1, o1 + m * 3, none⟩ = some (.int .i64 sa) ∧ x.cell? ⟨b1, o1 + m * 3 + 1, none⟩ = some (.int .i64 sb) ∧ x.cell? ⟨b1, o1 + m * 3 + 2, none⟩ = some (.int .i64 sm))
                      (first | exact HS2.out _ (by assumption) | exact HS2.out _ (Below.drew (by assumption)))
                      (first | (go_at_call 109; refine (HCC.out _).mono ?_; rintro e wz ⟨rfl, hbz⟩; have hk3 := hk2.trans (hbz.mono hk2.size); clear hbz hk2; have hk2 := hk3; clear hk3))
                    rename_i hHeldz
                    clear hHeldz
                    go_wp2
                    go_roundw
                    case rel => exact ⟨m + 1 + 1, by omega, by go_num, HNX.out HEr', HBV.out.trans ((HK2.out.trans (hk2.mono HK2.out.size)).mono HBV.out.size)⟩
                    case measure => simp [intOf]; omega
    · obtain rfl : i = L.length := by omega
      have HF : Hid (R = 0) := Lib.hid (by rw [HR.out]; exact firstE_zero hz)
      have HBr := Lib.hid hb
      clear hb hz
      go_wp2
      go_ret
      exact ⟨by rw [HF.out]; rfl, HB0.out.trans (HBr.out.mono HB0.out.size)⟩
end Go.Proofs.Ytlnaahkheankoaa

namespace Go.Proofs.Ytlnaahkheankoaa
open Go.RowKit Go.Proofs.Gr

set_option maxHeartbeats 12800000 in
set_option maxRecDepth 100000 in
theorem redge_any (n : Int) (a : Option Addr) (cap : Nat) (L : List E) (hL : L.length ≤ 4611686018427387904) (i : Nat) (hi : i < L.length) (w : World) (h : EsAt w a L) :
    Calls Try.prog 64 #[gv n a L.length cap, .int .i64 (i : Nat)] w (GivesN w (errAt n L i : Nat)) := by
  have HV := Lib.hid (fun v w => vertex_any n a L.length cap v w)
  unfold GivesN gv at *
  obtain ⟨W, hW⟩ : ∃ W, W = w.alloc (Obj.cells #[.int .i64 n, .slice a L.length cap] 24) := ⟨_, rfl⟩
  have hB0 : Below w.heap.size w W := by rw [hW]; exact (Below.refl _ w).alloc (Nat.le_refl _) _
  have hG : Blk W w.heap.size 24 #[.int .i64 n, .slice a L.length cap] := by rw [hW]; exact Blk.new _ _ _
  have HE := Lib.hid (h.keep hB0)
  obtain ⟨T, hTe⟩ : ∃ T, T = eAt L i := ⟨_, rfl⟩
  obtain ⟨b1, o1, rfl, q1, x1, x2, x3⟩ := HE.out.three i hi
  rw [← hTe] at x1 x2 x3
  have HEr : Hid (errAt n L i = if rngE n T = false then 2 else if T.b < T.a then 9 else if 0 < i ∧ ltE (eAt L (i - 1)) T = false then 9 else 0) := Lib.hid (by rw [hTe]; rfl)
  generalize errAt n L i = er at *
  obtain ⟨ta, tb, tm⟩ := T
  simp only at x1 x2 x3
  have HRg := Lib.hid (rngE_eq n ⟨ta, tb, tm⟩)
  simp only at HRg
  have HW := Lib.hid hW
  have HB0 := Lib.hid hB0
  have HG := Lib.hid hG
  have g0 : W.cell? ⟨w.heap.size, 0, none⟩ = some (.int .i64 n) := hG.cell 0
  have g1 : W.cell? ⟨w.heap.size, 1, none⟩ = some (.slice (some ⟨b1, o1, none⟩) L.length cap) := hG.cell 1
  obtain ⟨V, hV⟩ : ∃ V, V = W.alloc (Obj.cells #[.int .i64 ta, .int .i64 tb, .int .i64 tm] 79) := ⟨_, rfl⟩
  have HVe := Lib.hid hV
  have hBV : Below w.heap.size w V := by rw [hV]; exact hB0.alloc hB0.size _
  have HBV := Lib.hid hBV
  have HVw : Hid (Below W.heap.size W V) := Lib.hid (by rw [hV]; exact (Below.refl _ W).alloc (Nat.le_refl _) _)
  have HGV : Hid (Blk V w.heap.size 24 #[.int .i64 n, .slice (some ⟨b1, o1, none⟩) L.length cap]) := Lib.hid (by rw [hV]; exact hG.alloc _)
  have HQV : Hid (Blk V W.heap.size 79 #[.int .i64 ta, .int .i64 tb, .int .i64 tm]) := Lib.hid (by rw [hV]; exact Blk.new _ _ _)
  have HFAC : Hid (∀ x, Below V.heap.size V x → (x.cell? ⟨w.heap.size, 0, none⟩ = some (.int .i64 n) ∧ x.cell? ⟨w.heap.size, 1, none⟩ = some (.slice (some ⟨b1, o1, none⟩) L.length cap) ∧ x.cell? ⟨W.heap.size, 0, none⟩ = some (.int .i64 ta) ∧ x.cell? ⟨W.heap.size, 1, none⟩ = some (.int .i64 tb) ∧ x.cell? ⟨W.heap.size, 2, none⟩ = some (.int .i64 tm))) :=
    fun x hx => ⟨(HGV.out.below hx HGV.out.lt).cell 0, (HGV.out.below hx HGV.out.lt).cell 1, (HQV.out.below hx HQV.out.lt).cell 0, (HQV.out.below hx HQV.out.lt).cell 1, (HQV.out.below hx HQV.out.lt).cell 2⟩
  have g2' : (W.alloc (Obj.cells #[.int .i64 ta, .int .i64 tb, .int .i64 tm] 79)).cell? ⟨w.heap.size, 0, none⟩ = some (.int .i64 n) := by rw [← hV]; exact (HFAC.out _ (Below.refl _ V)).1
  have g3' : (W.alloc (Obj.cells #[.int .i64 ta, .int .i64 tb, .int .i64 tm] 79)).cell? ⟨w.heap.size, 1, none⟩ = some (.slice (some ⟨b1, o1, none⟩) L.length cap) := by rw [← hV]; exact (HFAC.out _ (Below.refl _ V)).2.1
  have hWs : W.heap.size = w.heap.size + 1 := by rw [hW]; simp
  rw [hWs] at HFAC
  have x1' : (w.alloc (Obj.cells #[.int .i64 n, .slice (some ⟨b1, o1, none⟩) L.length cap] 24)).cell? ⟨b1, o1 + i * 3, none⟩ = some (.int .i64 ta) := by rw [← hW]; exact x1
  have x2' : (w.alloc (Obj.cells #[.int .i64 n, .slice (some ⟨b1, o1, none⟩) L.length cap] 24)).cell? ⟨b1, o1 + i * 3 + 1, none⟩ = some (.int .i64 tb) := by rw [← hW]; exact x2
  have x3' : (w.alloc (Obj.cells #[.int .i64 n, .slice (some ⟨b1, o1, none⟩) L.length cap] 24)).cell? ⟨b1, o1 + i * 3 + 2, none⟩ = some (.int .i64 tm) := by rw [← hW]; exact x3
  rw [hW] at g2' g3'
  have i0 : (0 : Int) ≤ (i : Int) := by omega
  have i1 : (i : Int) < ((L.length : Nat) : Int) := by omega
  clear h hTe hB0 hG hW hV hBV
  have HVA := Lib.hid (fun w => HV.out ta w)
  have HVB := Lib.hid (fun w => HV.out tb w)
  generalize hva : isV n ta = va at *
  generalize hvb : isV n tb = vb at *
  go_enter Try.func64, Try.ntmps64
  cases va
  · have HEr' : er = 2 := by rw [HEr.out, HRg.out]; rfl
    go_wp2_with fail
    rw [← HW.out, ← HVe.out]
    refine (HVA.out _).mono ?_
    rintro e w1 ⟨rfl, hb1⟩
    have hk1 : Below V.heap.size V w1 := hb1
    obtain ⟨f10, f11, f12, f13, f14⟩ := HFAC.out _ hk1
    clear hb1
    go_wp2
    go_ret
    exact ⟨by rw [HEr']; rfl, HBV.out.trans (hk1.mono HBV.out.size)⟩
  · cases vb
    · have HEr' : er = 2 := by rw [HEr.out, HRg.out]; rfl
      go_wp2_with fail
      rw [← HW.out, ← HVe.out]
      refine (HVA.out _).mono ?_
      rintro e w1 ⟨rfl, hb1⟩
      have hk1 : Below V.heap.size V w1 := hb1
      obtain ⟨f10, f11, f12, f13, f14⟩ := HFAC.out _ hk1
      clear hb1
      go_wp2_with fail
      refine (HVB.out _).mono ?_
      rintro e w2 ⟨rfl, hb2⟩
      have hk2 : Below V.heap.size V w2 := hk1.trans (hb2.mono hk1.size)
      obtain ⟨f20, f21, f22, f23, f24⟩ := HFAC.out _ hk2
      clear hb2
      go_wp2
      go_ret
      exact ⟨by rw [HEr']; rfl, HBV.out.trans (hk2.mono HBV.out.size)⟩
    · by_cases hm1 : tm < 1
      · have HEr' : er = 2 := by rw [HEr.out, HRg.out, decide_eq_false (by omega : ¬ 1 ≤ tm)]; rfl
        have c1 : decide (tm < 1) = true := decide_eq_true hm1
        go_wp2_with fail
        rw [← HW.out, ← HVe.out]
        refine (HVA.out _).mono ?_
        rintro e w1 ⟨rfl, hb1⟩
        have hk1 : Below V.heap.size V w1 := hb1
        obtain ⟨f10, f11, f12, f13, f14⟩ := HFAC.out _ hk1
        clear hb1
        go_wp2_with fail
        refine (HVB.out _).mono ?_
        rintro e w2 ⟨rfl, hb2⟩
        have hk2 : Below V.heap.size V w2 := hk1.trans (hb2.mono hk1.size)
        obtain ⟨f20, f21, f22, f23, f24⟩ := HFAC.out _ hk2
        clear hb2
        go_wp2
        go_ret
        exact ⟨by rw [HEr']; rfl, HBV.out.trans (hk2.mono HBV.out.size)⟩
      · by_cases hm2 : 50 < tm
        · have HEr' : er = 2 := by rw [HEr.out, HRg.out, decide_eq_false (by omega : ¬ tm ≤ 50)]; simp
          have c1 : decide (tm < 1) = false := decide_eq_false hm1
          have c2 : decide (50 < tm) = true := decide_eq_true hm2
          go_wp2_with fail
          rw [← HW.out, ← HVe.out]
          refine (HVA.out _).mono ?_
          rintro e w1 ⟨rfl, hb1⟩
          have hk1 : Below V.heap.size V w1 := hb1
          obtain ⟨f10, f11, f12, f13, f14⟩ := HFAC.out _ hk1
          clear hb1
          go_wp2_with fail
          refine (HVB.out _).mono ?_
          rintro e w2 ⟨rfl, hb2⟩
          have hk2 : Below V.heap.size V w2 := hk1.trans (hb2.mono hk1.size)
          obtain ⟨f20, f21, f22, f23, f24⟩ := HFAC.out _ hk2
          clear hb2
          go_wp2
          go_ret
          exact ⟨by rw [HEr']; rfl, HBV.out.trans (hk2.mono HBV.out.size)⟩
        · have c1 : decide (tm < 1) = false := decide_eq_false hm1
          have c2 : decide (50 < tm) = false := decide_eq_false hm2
          have HRt : Hid (rngE n ⟨ta, tb, tm⟩ = true) := Lib.hid (by rw [HRg.out, decide_eq_true (by omega : 1 ≤ tm), decide_eq_true (by omega : tm ≤ 50)]; rfl)
          by_cases hab : tb < ta
          · have HEr' : er = 9 := by rw [HEr.out, HRt.out, if_neg (by simp), if_pos hab]
            have c3 : decide (tb < ta) = true := decide_eq_true hab
            go_wp2_with fail
            rw [← HW.out, ← HVe.out]
            refine (HVA.out _).mono ?_
            rintro e w1 ⟨rfl, hb1⟩
            have hk1 : Below V.heap.size V w1 := hb1
            obtain ⟨f10, f11, f12, f13, f14⟩ := HFAC.out _ hk1
            clear hb1
            go_wp2_with fail
            refine (HVB.out _).mono ?_
            rintro e w2 ⟨rfl, hb2⟩
            have hk2 : Below V.heap.size V w2 := hk1.trans (hb2.mono hk1.size)
            obtain ⟨f20, f21, f22, f23, f24⟩ := HFAC.out _ hk2
            clear hb2
            go_wp2
            go_ret
            exact ⟨by rw [HEr']; rfl, HBV.out.trans (hk2.mono HBV.out.size)⟩
          · have c3 : decide (tb < ta) = false := decide_eq_false hab
            rcases Nat.eq_zero_or_pos i with hi0 | hi0
            · subst hi0
              have HEr' : er = 0 := by rw [HEr.out, HRt.out, if_neg (by simp), if_neg hab, if_neg (by omega)]
              simp only [Nat.zero_mul, Nat.add_zero] at x1 x2 x3 x1' x2' x3'
              go_wp2_with fail
              rw [← HW.out, ← HVe.out]
              refine (HVA.out _).mono ?_
              rintro e w1 ⟨rfl, hb1⟩
              have hk1 : Below V.heap.size V w1 := hb1
              obtain ⟨f10, f11, f12, f13, f14⟩ := HFAC.out _ hk1
              clear hb1
              go_wp2_with fail
              refine (HVB.out _).mono ?_
              rintro e w2 ⟨rfl, hb2⟩
              have hk2 : Below V.heap.size V w2 := hk1.trans (hb2.mono hk1.size)
              obtain ⟨f20, f21, f22, f23, f24⟩ := HFAC.out _ hk2
              clear hb2
              go_wp2
              go_ret
              exact ⟨by rw [HEr']; rfl, HBV.out.trans (hk2.mono HBV.out.size)⟩
            · obtain ⟨m, rfl⟩ : ∃ m, i = m + 1 := ⟨i - 1, by omega⟩
              obtain ⟨S, hSe⟩ : ∃ S, S = eAt L m := ⟨_, rfl⟩
              have HSe := Lib.hid hSe
              obtain ⟨b2, o2, ha2, q2, y1, y2, y3⟩ := HE.out.three m (by omega)
              rw [← hSe] at y1 y2 y3
              simp only [Option.some.injEq, Addr.mk.injEq, and_true] at ha2
              obtain ⟨rfl, rfl⟩ := ha2
              have HEr2 : Hid (er = if ltE S ⟨ta, tb, tm⟩ = false then 9 else 0) := Lib.hid (by
                rw [HEr.out, HRt.out, if_neg (by simp), if_neg hab, show m + 1 - 1 = m from rfl, ← HSe.out]
                by_cases hq : ltE S ⟨ta, tb, tm⟩ = false
                · rw [if_pos ⟨by omega, hq⟩, if_pos hq]
                · rw [if_neg (fun hh => hq hh.2), if_neg hq])
              obtain ⟨sa, sb, sm⟩ := S
              simp only at y1 y2 y3
              have HLT : Hid (ltE ⟨sa, sb, sm⟩ ⟨ta, tb, tm⟩ = (decide (sa < ta) || (decide (sa = ta) && decide (sb < tb)))) := Lib.hid rfl
              have z6 : IntKind.i64.wrap (m : Int) = (m : Int) := IntWalk.i64_in _ (by omega)
              have z2 : (0 : Int) ≤ (m : Int) := by omega
              have z3 : (m : Int) < ((L.length : Nat) : Int) := by omega
              have z4 : (0 : Int) < ((m + 1 : Nat) : Int) := by omega
              have z5 : (0 : Int) < (m : Int) + 1 := by omega
              clear hSe
              by_cases s1 : ta < sa
              · have HEr' : er = 9 := by rw [HEr2.out, HLT.out, decide_eq_false (by omega : ¬ sa < ta), decide_eq_false (by omega : ¬ sa = ta)]; rfl
                have c4 : decide (ta < sa) = true := decide_eq_true s1
                go_wp2_with fail
                rw [← HW.out, ← HVe.out]
                refine (HVA.out _).mono ?_
                rintro e w1 ⟨rfl, hb1⟩
                have hk1 : Below V.heap.size V w1 := hb1
                obtain ⟨f10, f11, f12, f13, f14⟩ := HFAC.out _ hk1
                clear hb1
                go_wp2_with fail
                refine (HVB.out _).mono ?_
                rintro e w2 ⟨rfl, hb2⟩
                have hk2 : Below V.heap.size V w2 := hk1.trans (hb2.mono hk1.size)
                obtain ⟨f20, f21, f22, f23, f24⟩ := HFAC.out _ hk2
                clear hb2
                have hl2 : Below W.heap.size W w2 := HVw.out.trans (hk2.mono HVw.out.size)
                have y1' : w2.cell? ⟨b1, o1 + m * 3, none⟩ = some (.int .i64 sa) := (hl2.cell (p := ⟨b1, o1 + m * 3, none⟩) q1).trans y1
                have y2' : w2.cell? ⟨b1, o1 + m * 3 + 1, none⟩ = some (.int .i64 sb) := (hl2.cell (p := ⟨b1, o1 + m * 3 + 1, none⟩) q1).trans y2
                have y3' : w2.cell? ⟨b1, o1 + m * 3 + 2, none⟩ = some (.int .i64 sm) := (hl2.cell (p := ⟨b1, o1 + m * 3 + 2, none⟩) q1).trans y3
                have hk3 : Below V.heap.size V (w2.alloc (Obj.cells #[.int .i64 sa, .int .i64 sb, .int .i64 sm] 79)) := hk2.alloc hk2.size _
                obtain ⟨p0, p1, p2, p3, p4⟩ := HFAC.out _ hk3
                go_wp2
                go_ret
                exact ⟨by rw [HEr']; rfl, HBV.out.trans (hk3.mono HBV.out.size)⟩
              · have c4 : decide (ta < sa) = false := decide_eq_false s1
                by_cases s2 : ta = sa
                · have c5 : (ta == sa) = true := by rw [beq_iff_eq]; exact s2
                  by_cases s3 : tb ≤ sb
                  · have HEr' : er = 9 := by rw [HEr2.out, HLT.out, decide_eq_false (by omega : ¬ sa < ta), decide_eq_false (by omega : ¬ sb < tb)]; simp
                    have c6 : decide (tb ≤ sb) = true := decide_eq_true s3
                    clear s2
                    go_wp2_with fail
                    rw [← HW.out, ← HVe.out]
                    refine (HVA.out _).mono ?_
                    rintro e w1 ⟨rfl, hb1⟩
                    have hk1 : Below V.heap.size V w1 := hb1
                    obtain ⟨f10, f11, f12, f13, f14⟩ := HFAC.out _ hk1
                    clear hb1
                    go_wp2_with fail
                    refine (HVB.out _).mono ?_
                    rintro e w2 ⟨rfl, hb2⟩
                    have hk2 : Below V.heap.size V w2 := hk1.trans (hb2.mono hk1.size)
                    obtain ⟨f20, f21, f22, f23, f24⟩ := HFAC.out _ hk2
                    clear hb2
                    have hl2 : Below W.heap.size W w2 := HVw.out.trans (hk2.mono HVw.out.size)
                    have y1' : w2.cell? ⟨b1, o1 + m * 3, none⟩ = some (.int .i64 sa) := (hl2.cell (p := ⟨b1, o1 + m * 3, none⟩) q1).trans y1
                    have y2' : w2.cell? ⟨b1, o1 + m * 3 + 1, none⟩ = some (.int .i64 sb) := (hl2.cell (p := ⟨b1, o1 + m * 3 + 1, none⟩) q1).trans y2
                    have y3' : w2.cell? ⟨b1, o1 + m * 3 + 2, none⟩ = some (.int .i64 sm) := (hl2.cell (p := ⟨b1, o1 + m * 3 + 2, none⟩) q1).trans y3
                    have hk3 : Below V.heap.size V (w2.alloc (Obj.cells #[.int .i64 sa, .int .i64 sb, .int .i64 sm] 79)) := hk2.alloc hk2.size _
                    obtain ⟨p0, p1, p2, p3, p4⟩ := HFAC.out _ hk3
                    go_wp2
                    go_ret
                    exact ⟨by rw [HEr']; rfl, HBV.out.trans (hk3.mono HBV.out.size)⟩
                  · have HEr' : er = 0 := by rw [HEr2.out, HLT.out, decide_eq_true (by omega : sa = ta), decide_eq_true (by omega : sb < tb)]; simp
                    have c6 : decide (tb ≤ sb) = false := decide_eq_false s3
                    clear s2
                    go_wp2_with fail
                    rw [← HW.out, ← HVe.out]
                    refine (HVA.out _).mono ?_
                    rintro e w1 ⟨rfl, hb1⟩
                    have hk1 : Below V.heap.size V w1 := hb1
                    obtain ⟨f10, f11, f12, f13, f14⟩ := HFAC.out _ hk1
                    clear hb1
                    go_wp2_with fail
                    refine (HVB.out _).mono ?_
                    rintro e w2 ⟨rfl, hb2⟩
                    have hk2 : Below V.heap.size V w2 := hk1.trans (hb2.mono hk1.size)
                    obtain ⟨f20, f21, f22, f23, f24⟩ := HFAC.out _ hk2
                    clear hb2
                    have hl2 : Below W.heap.size W w2 := HVw.out.trans (hk2.mono HVw.out.size)
                    have y1' : w2.cell? ⟨b1, o1 + m * 3, none⟩ = some (.int .i64 sa) := (hl2.cell (p := ⟨b1, o1 + m * 3, none⟩) q1).trans y1
                    have y2' : w2.cell? ⟨b1, o1 + m * 3 + 1, none⟩ = some (.int .i64 sb) := (hl2.cell (p := ⟨b1, o1 + m * 3 + 1, none⟩) q1).trans y2
                    have y3' : w2.cell? ⟨b1, o1 + m * 3 + 2, none⟩ = some (.int .i64 sm) := (hl2.cell (p := ⟨b1, o1 + m * 3 + 2, none⟩) q1).trans y3
                    have hk3 : Below V.heap.size V (w2.alloc (Obj.cells #[.int .i64 sa, .int .i64 sb, .int .i64 sm] 79)) := hk2.alloc hk2.size _
                    obtain ⟨p0, p1, p2, p3, p4⟩ := HFAC.out _ hk3
                    go_wp2
                    go_ret
                    exact ⟨by rw [HEr']; rfl, HBV.out.trans (hk3.mono HBV.out.size)⟩
                · have c5 : (ta == sa) = false := by rw [beq_eq_false_iff_ne]; exact s2
                  have HEr' : er = 0 := by rw [HEr2.out, HLT.out, decide_eq_true (by omega : sa < ta)]; simp
                  go_wp2_with fail
                  rw [← HW.out, ← HVe.out]
                  refine (HVA.out _).mono ?_
                  rintro e w1 ⟨rfl, hb1⟩
                  have hk1 : Below V.heap.size V w1 := hb1
                  obtain ⟨f10, f11, f12, f13, f14⟩ := HFAC.out _ hk1
                  clear hb1
                  go_wp2_with fail
                  refine (HVB.out _).mono ?_
                  rintro e w2 ⟨rfl, hb2⟩
                  have hk2 : Below V.heap.size V w2 := hk1.trans (hb2.mono hk1.size)
                  obtain ⟨f20, f21, f22, f23, f24⟩ := HFAC.out _ hk2
                  clear hb2
                  have hl2 : Below W.heap.size W w2 := HVw.out.trans (hk2.mono HVw.out.size)
                  have y1' : w2.cell? ⟨b1, o1 + m * 3, none⟩ = some (.int .i64 sa) := (hl2.cell (p := ⟨b1, o1 + m * 3, none⟩) q1).trans y1
                  have y2' : w2.cell? ⟨b1, o1 + m * 3 + 1, none⟩ = some (.int .i64 sb) := (hl2.cell (p := ⟨b1, o1 + m * 3 + 1, none⟩) q1).trans y2
                  have y3' : w2.cell? ⟨b1, o1 + m * 3 + 2, none⟩ = some (.int .i64 sm) := (hl2.cell (p := ⟨b1, o1 + m * 3 + 2, none⟩) q1).trans y3
                  have hk3 : Below V.heap.size V (w2.alloc (Obj.cells #[.int .i64 sa, .int .i64 sb, .int .i64 sm] 79)) := hk2.alloc hk2.size _
                  obtain ⟨p0, p1, p2, p3, p4⟩ := HFAC.out _ hk3
                  go_wp2
                  go_ret
                  exact ⟨by rw [HEr']; rfl, HBV.out.trans (hk3.mono HBV.out.size)⟩

set_option maxHeartbeats 12800000 in
set_option maxRecDepth 100000 in
theorem rcheck_any (n : Int) (a : Option Addr) (cap : Nat) (L : List E) (hL : L.length ≤ 4611686018427387904) (w : World) (h : EsAt w a L) :
    Calls Try.prog 25 #[gv n a L.length cap] w (GivesN w (chkG n L : Nat)) := by
  have HX := Lib.hid (fun i hi w h => redge_any n a cap L hL i hi w h)
  unfold GivesN gv at *
  by_cases hn : n < 1 ∨ 12 < n
  · have HR : Hid (chkG n L = 2) := Lib.hid (by unfold chkG; rw [if_pos hn])
    have HB := Lib.hid ((Below.refl _ w).alloc (Nat.le_refl _) (Obj.cells #[.int .i64 n, .slice a L.length cap] 24))
    by_cases h1 : n < 1
    · have d1 : decide (n < 1) = true := decide_eq_true h1
      clear h
      go_enter Try.func25, Try.ntmps25
      go_wp2
      go_ret
      exact ⟨by rw [HR.out]; rfl, HB.out⟩
    · have d1 : decide (n < 1) = false := decide_eq_false h1
      have d2 : decide (12 < n) = true := decide_eq_true (by omega)
      clear h
      go_enter Try.func25, Try.ntmps25
      go_wp2
      go_ret
      exact ⟨by rw [HR.out]; rfl, HB.out⟩
  have HR : Hid (chkG n L = firstE (errAt n L) L.length) := Lib.hid (by unfold chkG; rw [if_neg hn])
  have d1 : decide (n < 1) = false := decide_eq_false (by omega)
  have d2 : decide (12 < n) = false := decide_eq_false (by omega)
  clear hn
  obtain ⟨W, hW⟩ : ∃ W, W = w.alloc (Obj.cells #[.int .i64 n, .slice a L.length cap] 24) := ⟨_, rfl⟩
  have hB0 : Below w.heap.size w W := by rw [hW]; exact (Below.refl _ w).alloc (Nat.le_refl _) _
  have hG : Blk W w.heap.size 24 #[.int .i64 n, .slice a L.length cap] := by rw [hW]; exact Blk.new _ _ _
  have HW := Lib.hid hW
  have HB0 := Lib.hid hB0
  have HG := Lib.hid hG
  have HE := Lib.hid (h.keep hB0)
  have g0 : W.cell? ⟨w.heap.size, 0, none⟩ = some (.int .i64 n) := hG.cell 0
  have g1 : W.cell? ⟨w.heap.size, 1, none⟩ = some (.slice a L.length cap) := hG.cell 1
  generalize chkG n L = R at *
  clear h hB0 hG hW
  go_enter Try.func25, Try.ntmps25
  go_wp2
  rw [← HW.out]
  go_wp2
  go_loopw [3] (fun v wr => ∃ i : Nat, i ≤ L.length ∧ v = .int .i64 i ∧ (∀ j, j < i → errAt n L j = 0) ∧ Below W.heap.size W wr) (fun v _ => L.length - (intOf v).toNat)
  case atStart => exact ⟨0, by omega, rfl, fun j hj => by omega, Below.refl _ _⟩
  case round =>
    obtain ⟨i, hi, rfl, hz, hb⟩ := hrel
    have g0' : wr.cell? ⟨w.heap.size, 0, none⟩ = some (.int .i64 n) := (HG.out.below hb HG.out.lt).cell 0
    have g1' : wr.cell? ⟨w.heap.size, 1, none⟩ = some (.slice a L.length cap) := (HG.out.below hb HG.out.lt).cell 1
    have HBr := Lib.hid hb
    have HEw := Lib.hid (HE.out.keep hb)
    by_cases hlt : i < L.length
    · have HC := Lib.hid (HX.out i hlt wr HEw.out)
      have HFI : Hid (errAt n L i ≠ 0 → R = errAt n L i) := Lib.hid (fun hne => by rw [HR.out]; exact firstE_at hz hne hlt)
      have HNX : Hid (errAt n L i = 0 → ∀ j, j < i + 1 → errAt n L j = 0) := Lib.hid (fun h0 j hj => by
        by_cases e : j = i
        · subst e; exact h0
        · exact hz j (by omega))
      generalize errAt n L i = er at *
      have i1 : (i : Int) < ((L.length : Nat) : Int) := by omega
      clear hb hz
      by_cases h0 : er = 0
      · subst h0
        go_wp2_with fail
        refine HC.out.mono ?_
        rintro e w1 ⟨rfl, hb1⟩
        have hk1 : Below W.heap.size W w1 := HBr.out.trans (hb1.mono HBr.out.size)
        clear hb1
        go_wp2
        go_roundw
        case rel => exact ⟨i + 1, by omega, by go_num, (by first | exact HNX.out rfl | exact HNX.out trivial), hk1⟩
        case measure => simp [intOf]; omega
      · have q0 : (((er : Nat) : Int) != 0) = true := by rw [bne_iff_ne]; omega
        have q1 : ¬ er = 0 := h0
        go_wp2_with fail
        refine HC.out.mono ?_
        rintro e w1 ⟨rfl, hb1⟩
        have hk1 : Below W.heap.size W w1 := HBr.out.trans (hb1.mono HBr.out.size)
        clear hb1
        go_wp2
        go_ret
        exact ⟨by rw [HFI.out h0]; rfl, HB0.out.trans (hk1.mono HB0.out.size)⟩
    · obtain rfl : i = L.length := by omega
      have HF : Hid (R = 0) := Lib.hid (by rw [HR.out]; exact firstE_zero hz)
      clear hb hz
      go_wp2
      go_ret
      exact ⟨by rw [HF.out]; rfl, HB0.out.trans (HBr.out.mono HB0.out.size)⟩
end Go.Proofs.Ytlnaahkheankoaa

namespace Go.Proofs.Ytlnaahkheankoaa
open Go.RowKit Go.Proofs.Gr

theorem sum_bound {f : E → Int} {L : List E} (h : ∀ e ∈ L, 0 ≤ f e ∧ f e ≤ 50) (i : Nat) : 0 ≤ sumL f (L.take i) ∧ sumL f (L.take i) ≤ 50 * i := by
  induction L generalizing i with
  | nil => simp [sumL]; omega
  | cons e r ih =>
    cases i with
    | zero => simp [sumL]
    | succ i =>
      rw [List.take_succ_cons, sumL]
      have h1 := h e List.mem_cons_self
      have h2 := ih (fun x hx => h x (List.mem_cons_of_mem _ hx)) i
      omega
theorem take_all {f : E → Int} (L : List E) : sumL f (L.take L.length) = sumL f L := by rw [List.take_length]
/-- Hands back a number and an error's number. -/
def GivesNE (w : World) (z : Int) (k : Nat) (e : Ending) (w' : World) : Prop := e = .returned (.tuple #[.int .i64 z, .int .i64 (k : Nat)]) ∧ Below w.heap.size w w'

set_option maxHeartbeats 12800000 in
set_option maxRecDepth 100000 in
theorem psize_any (n : Int) (a : Option Addr) (cap : Nat) (L : List E) (hL : L.length ≤ 100000) (hr : ∀ e ∈ L, 0 ≤ e.m ∧ e.m ≤ 50) (w : World) (h : EsAt w a L) :
    Calls Try.prog 94 #[gv n a L.length cap] w (GivesN w (sizeG L)) := by
  unfold GivesN gv
  have HSB := Lib.hid (fun i => sum_bound (f := fun e => e.m) hr i)
  have HST := Lib.hid (fun i h => sumL_take (fun e => e.m) L i h)
  have hR : Hid (sizeG L = sumL (fun e => e.m) (L.take L.length)) := Lib.hid (take_all L).symm
  generalize sizeG L = R at *
  obtain ⟨W, hW⟩ : ∃ W, W = w.alloc (Obj.cells #[.int .i64 n, .slice a L.length cap] 24) := ⟨_, rfl⟩
  have hB0 : Below w.heap.size w W := by rw [hW]; exact (Below.refl _ w).alloc (Nat.le_refl _) _
  have hG : Blk W w.heap.size 24 #[.int .i64 n, .slice a L.length cap] := by rw [hW]; exact Blk.new _ _ _
  have hWs : W.heap.size = w.heap.size + 1 := by rw [hW]; simp
  have HWS := Lib.hid hWs
  have HW := Lib.hid hW
  have HB0 := Lib.hid hB0
  have HG := Lib.hid hG
  have HE := Lib.hid (h.keep hB0)
  have g0 : W.cell? ⟨w.heap.size, 0, none⟩ = some (.int .i64 n) := hG.cell 0
  have g1 : W.cell? ⟨w.heap.size, 1, none⟩ = some (.slice a L.length cap) := hG.cell 1
  clear hB0 hG hW hWs
  clear h hr
  go_enter Try.func94, Try.ntmps94
  go_wp2
  rw [← HW.out]
  go_loopw [3, 9] (fun u v wr => ∃ i : Nat, i ≤ L.length ∧ v = .int .i64 i ∧ u = .int .i64 (sumL (fun e => e.m) (L.take i)) ∧ Below W.heap.size W wr) (fun _ v _ => L.length - (intOf v).toNat)
  case atStart => exact ⟨0, by omega, rfl, by simp [sumL], Below.refl _ _⟩
  case round =>
    obtain ⟨i, hi, rfl, rfl, hb⟩ := hrel
    have hsb := HSB.out i
    by_cases hlt : i < L.length
    · have hst := HST.out i hlt
      have hsb2 := HSB.out (i + 1)
      rw [hst] at hsb2
      obtain ⟨T, hTe⟩ : ∃ T, T = eAt L i := ⟨_, rfl⟩
      have HT := Lib.hid hTe
      have g0' : wr.cell? ⟨w.heap.size, 0, none⟩ = some (.int .i64 n) := (HG.out.below hb HG.out.lt).cell 0
      have g1' : wr.cell? ⟨w.heap.size, 1, none⟩ = some (.slice a L.length cap) := (HG.out.below hb HG.out.lt).cell 1
      obtain ⟨b1, o1, ha, q1, x1, x2, x3⟩ := (HE.out.keep hb).three i hlt
      subst ha
      rw [← hTe] at x1 x2 x3
      obtain ⟨ta, tb, tm⟩ := T
      simp only at x1 x2 x3
      have i1 : (i : Int) < ((L.length : Nat) : Int) := by omega
      have HBr := Lib.hid hb
      have HBV : Hid (Below W.heap.size W (wr.alloc (Obj.cells #[.int .i64 ta, .int .i64 tb, .int .i64 tm] 79))) := Lib.hid (hb.alloc hb.size _)
      have g2' : (wr.alloc (Obj.cells #[.int .i64 ta, .int .i64 tb, .int .i64 tm] 79)).cell? ⟨w.heap.size, 0, none⟩ = some (.int .i64 n) := (HG.out.below HBV.out HG.out.lt).cell 0
      have g3' : (wr.alloc (Obj.cells #[.int .i64 ta, .int .i64 tb, .int .i64 tm] 79)).cell? ⟨w.heap.size, 1, none⟩ = some (.slice (some ⟨b1, o1, none⟩) L.length cap) := (HG.out.below HBV.out HG.out.lt).cell 1
      clear hb hTe
      have htm : (eAt L i).m = tm := by rw [← HT.out]
      rw [htm] at hst hsb2
      generalize sumL (fun e => e.m) (L.take i) = S at *
      have HS2 := Lib.hid hst
      have c1 : IntKind.i64.wrap (S + tm) = S + tm := IntWalk.i64_in _ (by omega)
      clear hst hsb hsb2 htm
      go_wp2
      go_roundw
      case rel => exact ⟨i + 1, by omega, by go_num, by rw [HS2.out], HBV.out⟩
      case measure => simp [intOf]; omega
    · obtain rfl : i = L.length := by omega
      have HBr := Lib.hid hb
      rw [← hR.out]
      clear hb hsb
      go_wp2
      go_ret
      exact ⟨rfl, HB0.out.trans (HBr.out.mono HB0.out.size)⟩
set_option maxHeartbeats 12800000 in
set_option maxRecDepth 100000 in
theorem pSize_any (n : Int) (a : Option Addr) (cap : Nat) (L : List E) (hL : L.length ≤ 100000) (w : World) (h : EsAt w a L) :
    Calls Try.prog 63 #[gv n a L.length cap] w (GivesNE w (if chkG n L = 0 then sizeG L else 0) (chkG n L)) := by
  have HC := Lib.hid (fun w h => check_any n a cap L (by omega) w h)
  have HSZ : Hid (chkG n L = 0 → ∀ w, EsAt w a L → Calls Try.prog 94 #[gv n a L.length cap] w (GivesN w (sizeG L))) :=
    Lib.hid (fun h0 w h => psize_any n a cap L hL (fun e he => by have := (right_of h0).rng e he; omega) w h)
  unfold GivesNE
  unfold GivesN gv at *
  obtain ⟨W, hW⟩ : ∃ W, W = w.alloc (Obj.cells #[.int .i64 n, .slice a L.length cap] 24) := ⟨_, rfl⟩
  have hB0 : Below w.heap.size w W := by rw [hW]; exact (Below.refl _ w).alloc (Nat.le_refl _) _
  have hG : Blk W w.heap.size 24 #[.int .i64 n, .slice a L.length cap] := by rw [hW]; exact Blk.new _ _ _
  have hWs : W.heap.size = w.heap.size + 1 := by rw [hW]; simp
  have HWS := Lib.hid hWs
  have HW := Lib.hid hW
  have HB0 := Lib.hid hB0
  have HG := Lib.hid hG
  have HE := Lib.hid (h.keep hB0)
  have g0 : W.cell? ⟨w.heap.size, 0, none⟩ = some (.int .i64 n) := hG.cell 0
  have g1 : W.cell? ⟨w.heap.size, 1, none⟩ = some (.slice a L.length cap) := hG.cell 1
  clear hB0 hG hW hWs
  generalize sizeG L = S at *
  generalize chkG n L = k at *
  clear h
  by_cases hk : k = 0
  · subst hk
    have HSZ2 := Lib.hid (HSZ.out rfl)
    go_enter Try.func63, Try.ntmps63
    go_wp2_with fail
    rw [← HW.out]
    refine (HC.out _ HE.out).mono ?_
    rintro e w1 ⟨rfl, hb⟩
    have HE1 := Lib.hid (HE.out.keep hb)
    have HB1 := Lib.hid (HB0.out.trans (hb.mono HB0.out.size))
    have g0' : w1.cell? ⟨w.heap.size, 0, none⟩ = some (.int .i64 n) := (HG.out.below hb HG.out.lt).cell 0
    have g1' : w1.cell? ⟨w.heap.size, 1, none⟩ = some (.slice a L.length cap) := (HG.out.below hb HG.out.lt).cell 1
    clear hb
    go_wp2_with fail
    refine (HSZ2.out _ HE1.out).mono ?_
    rintro e w2 ⟨rfl, hb2⟩
    have HB2 := Lib.hid (HB1.out.trans (hb2.mono HB1.out.size))
    clear hb2
    go_wp2
    go_ret2
    exact ⟨rfl, HB2.out⟩
  · have q0 : (((k : Nat) : Int) != 0) = true := by rw [bne_iff_ne]; omega
    go_enter Try.func63, Try.ntmps63
    go_wp2_with fail
    rw [← HW.out]
    refine (HC.out _ HE.out).mono ?_
    rintro e w1 ⟨rfl, hb⟩
    have HB1 := Lib.hid (HB0.out.trans (hb.mono HB0.out.size))
    clear hb
    go_wp2
    go_ret2
    exact ⟨rfl, HB1.out⟩
/-- The error of a graph and some vertices. -/
def chkV (n : Int) (L : List E) (Vs : List Int) : Nat := if chkG n L ≠ 0 then chkG n L else if Vs.all (isV n) then 0 else 2
theorem all_split (n : Int) (Vs : List Int) (i : Nat) (hi : i < Vs.length) (hz : isV n (iAt Vs i) = false) : Vs.all (isV n) = false := by
  rw [List.all_eq_false]
  exact ⟨Vs[i], List.getElem_mem hi, by rw [iAt_get Vs i hi, hz]; simp⟩
theorem all_full (n : Int) (Vs : List Int) (h : ∀ j, j < Vs.length → isV n (iAt Vs j) = true) : Vs.all (isV n) = true := by
  rw [List.all_eq_true]
  intro x hx
  obtain ⟨i, hi, rfl⟩ := List.mem_iff_getElem.1 hx
  rw [iAt_get Vs i hi]; exact h i hi
end Go.Proofs.Ytlnaahkheankoaa

namespace Go.Proofs.Ytlnaahkheankoaa
open Go.RowKit Go.Proofs.Gr

theorem lit_ints (w : World) (Vs : List Int) (t : TypeId) : IsAt (w.alloc (.cells (Vs.map (fun z => Value.int .i64 z)).toArray t)) (some ⟨w.heap.size, 0, none⟩) Vs := by
  intro j hj
  refine ⟨w.heap.size, 0, rfl, by simp, fun i hi => ?_⟩
  obtain rfl : i = 0 := by omega
  rw [cell_of_row _ _ _ _ t (0, 0) (heap_alloc_new w _)]
  simp [encI, hj]
theorem mm {n : Int} {L : List E} (h : chkG n L = 0) : ∀ e ∈ L, 0 ≤ e.m ∧ e.m ≤ 50 := fun e he => by have := (right_of h).rng e he; omega
set_option maxHeartbeats 12800000 in
set_option maxRecDepth 100000 in
theorem rbetween_any (n : Int) (a : Option Addr) (cap : Nat) (L : List E) (hL : L.length ≤ 100000) (hs : L.Pairwise (fun x y => ltE x y = true)) (u v : Int) (w : World) (h : EsAt w a L) :
    Calls Try.prog 89 #[gv n a L.length cap, .int .i64 u, .int .i64 v] w (GivesN w (betw u v L)) := by
  unfold GivesN gv
  obtain ⟨p, hp⟩ : ∃ p, (if v < u then v else u) = p := ⟨_, rfl⟩
  obtain ⟨q, hq⟩ : ∃ q, (if u < v then v else u) = q := ⟨_, rfl⟩
  have hbq : betw u v L = bet p q L := by
    unfold betw; rw [← hp, ← hq]; congr 1 <;> split <;> omega
  rw [hbq]
  have HFI0 : Hid (∀ i, i < L.length → ((eAt L i).a = p ∧ (eAt L i).b = q) → bet p q L = (eAt L i).m) := Lib.hid fun i hi h => bet_first hs i hi h
  have HZE : Hid ((∀ j, j < L.length → ¬ ((eAt L j).a = p ∧ (eAt L j).b = q)) → bet p q L = 0) := Lib.hid fun h => bet_zero_at h
  generalize bet p q L = R at *
  clear hbq
  obtain ⟨W, hW⟩ : ∃ W, W = w.alloc (Obj.cells #[.int .i64 n, .slice a L.length cap] 24) := ⟨_, rfl⟩
  have hB0 : Below w.heap.size w W := by rw [hW]; exact (Below.refl _ w).alloc (Nat.le_refl _) _
  have hG : Blk W w.heap.size 24 #[.int .i64 n, .slice a L.length cap] := by rw [hW]; exact Blk.new _ _ _
  have hWs : W.heap.size = w.heap.size + 1 := by rw [hW]; simp
  have HWS := Lib.hid hWs
  have HW := Lib.hid hW
  have HB0 := Lib.hid hB0
  have HG := Lib.hid hG
  have HE := Lib.hid (h.keep hB0)
  have g0 : W.cell? ⟨w.heap.size, 0, none⟩ = some (.int .i64 n) := hG.cell 0
  have g1 : W.cell? ⟨w.heap.size, 1, none⟩ = some (.slice a L.length cap) := hG.cell 1
  clear hB0 hG hW hWs
  clear h hs
  go_enter Try.func89, Try.ntmps89
  go_wp2
  rw [← HW.out]
  go_loopw [7] (fun x wr => ∃ i : Nat, i ≤ L.length ∧ x = .int .i64 i ∧ (∀ j, j < i → ¬ ((eAt L j).a = p ∧ (eAt L j).b = q)) ∧ Below W.heap.size W wr) (fun x _ => L.length - (intOf x).toNat)
  case atStart => exact ⟨0, by omega, rfl, fun j hj => by omega, Below.refl _ _⟩
  case round =>
    obtain ⟨i, hi, rfl, hz, hb⟩ := hrel
    by_cases hlt : i < L.length
    · have HZ := Lib.hid hz
      have HFI := Lib.hid (HFI0.out i hlt)
      obtain ⟨T, hTe⟩ : ∃ T, T = eAt L i := ⟨_, rfl⟩
      have HT := Lib.hid hTe
      have g0' : wr.cell? ⟨w.heap.size, 0, none⟩ = some (.int .i64 n) := (HG.out.below hb HG.out.lt).cell 0
      have g1' : wr.cell? ⟨w.heap.size, 1, none⟩ = some (.slice a L.length cap) := (HG.out.below hb HG.out.lt).cell 1
      obtain ⟨b1, o1, ha, q1, x1, x2, x3⟩ := (HE.out.keep hb).three i hlt
      subst ha
      rw [← hTe] at x1 x2 x3
      obtain ⟨ta, tb, tm⟩ := T
      simp only at x1 x2 x3
      have i1 : (i : Int) < ((L.length : Nat) : Int) := by omega
      have HBr := Lib.hid hb
      have HBV : Hid (Below W.heap.size W (wr.alloc (Obj.cells #[.int .i64 ta, .int .i64 tb, .int .i64 tm] 79))) := Lib.hid (hb.alloc hb.size _)
      have g2' : (wr.alloc (Obj.cells #[.int .i64 ta, .int .i64 tb, .int .i64 tm] 79)).cell? ⟨w.heap.size, 0, none⟩ = some (.int .i64 n) := (HG.out.below HBV.out HG.out.lt).cell 0
      have g3' : (wr.alloc (Obj.cells #[.int .i64 ta, .int .i64 tb, .int .i64 tm] 79)).cell? ⟨w.heap.size, 1, none⟩ = some (.slice (some ⟨b1, o1, none⟩) L.length cap) := (HG.out.below HBV.out HG.out.lt).cell 1
      clear hb hTe
      rw [← HT.out] at HFI
      have HNX : Hid (¬ (ta = p ∧ tb = q) → ∀ j, j < i + 1 → ¬ ((eAt L j).a = p ∧ (eAt L j).b = q)) := Lib.hid (fun hf j hj => by
        by_cases e : j = i
        · subst e; rw [← HT.out]; exact hf
        · exact HZ.out j (by omega))
      clear hz
      by_cases k1 : ta = p
      · have d1 : (ta == p) = true := by rw [beq_iff_eq]; exact k1
        by_cases k2 : tb = q
        · have d2 : (tb == q) = true := by rw [beq_iff_eq]; exact k2
          have HF := Lib.hid (HFI.out ⟨k1, k2⟩)
          clear k1 k2
          go_wp2
          go_ret
          exact ⟨by rw [HF.out]; rfl, HB0.out.trans (HBV.out.mono HB0.out.size)⟩
        · have d2 : (tb == q) = false := by rw [beq_eq_false_iff_ne]; exact k2
          have HN := Lib.hid (HNX.out (fun h => k2 h.2))
          clear k1 k2
          go_wp2
          go_roundw
          case rel => exact ⟨i + 1, by omega, by go_num, HN.out, HBV.out⟩
          case measure => simp [intOf]; omega
      · have d1 : (ta == p) = false := by rw [beq_eq_false_iff_ne]; exact k1
        have HN := Lib.hid (HNX.out (fun h => k1 h.1))
        clear k1
        go_wp2
        go_roundw
        case rel => exact ⟨i + 1, by omega, by go_num, HN.out, HBV.out⟩
        case measure => simp [intOf]; omega
    · obtain rfl : i = L.length := by omega
      have HF := Lib.hid (HZE.out hz)
      have HBr := Lib.hid hb
      have g0' : wr.cell? ⟨w.heap.size, 0, none⟩ = some (.int .i64 n) := (HG.out.below hb HG.out.lt).cell 0
      have g1' : wr.cell? ⟨w.heap.size, 1, none⟩ = some (.slice a L.length cap) := (HG.out.below hb HG.out.lt).cell 1
      clear hb hz
      go_wp2
      go_ret
      exact ⟨by rw [HF.out]; rfl, HB0.out.trans (HBr.out.mono HB0.out.size)⟩
end Go.Proofs.Ytlnaahkheankoaa

namespace Go.Proofs.Ytlnaahkheankoaa
open Go.RowKit Go.Proofs.Gr

theorem infoI : (Try.prog.info? 3).map (fun i => (i.zero, i.size, i.bytes)) = some (some (.int .i64 0), 1, 8) := by kernel_rfl
theorem encI_len (z : Int) : (encI z).length = 1 := rfl
theorem bet_le {n : Int} {L : List E} (h : Right n L) (p q : Int) : 0 ≤ bet p q L ∧ bet p q L ≤ 50 := by
  refine ⟨bet_nonneg h.rng p q, ?_⟩
  by_cases hx : ∃ i, i < L.length ∧ (eAt L i).a = p ∧ (eAt L i).b = q
  · obtain ⟨i, hi, hk⟩ := hx
    rw [bet_first h.srt i hi hk]
    have := h.rng (eAt L i) (by rw [← eAt_get L i hi]; exact List.getElem_mem hi)
    omega
  · rw [bet_zero_at (fun i hi hk => hx ⟨i, hi, hk⟩)]; omega
theorem betw_le {n : Int} {L : List E} (h : Right n L) (u v : Int) : 0 ≤ betw u v L ∧ betw u v L ≤ 50 := bet_le h _ _
theorem valZ_le {n : Int} {L : List E} (h : Right n L) (v : Int) (k : Nat) : 0 ≤ valZ v L k ∧ valZ v L k ≤ 50 * k := by
  induction k with
  | zero => exact ⟨Int.le_refl _, Int.le_refl _⟩
  | succ k ih =>
    have h1 := betw_le h k v
    have h2 : valZ v L (k + 1) = valZ v L k + (if (k : Int) = v then 0 else betw k v L) := rfl
    rw [h2]; split <;> omega

set_option maxHeartbeats 12800000 in
set_option maxRecDepth 100000 in
theorem rvalence_any (N : Nat) (a : Option Addr) (cap : Nat) (L : List E) (hL : L.length ≤ 100000) (hR : Right N L) (v : Int) (w : World) (h : EsAt w a L) :
    Calls Try.prog 88 #[gv (N : Nat) a L.length cap, .int .i64 v] w (GivesN w (valZ v L N)) := by
  have hN : N ≤ 12 := by have := hR.hi; omega
  have HBT := Lib.hid (fun u w h => rbetween_any (N : Nat) a cap L hL hR.srt u v w h)
  have HLE := Lib.hid (fun k => valZ_le hR v k)
  have HST : Hid (∀ k : Nat, valZ v L (k + 1) = valZ v L k + (if (k : Int) = v then 0 else betw k v L)) := Lib.hid fun k => rfl
  unfold GivesN gv at *
  obtain ⟨W, hW⟩ : ∃ W, W = w.alloc (Obj.cells #[.int .i64 (N : Nat), .slice a L.length cap] 24) := ⟨_, rfl⟩
  have hB0 : Below w.heap.size w W := by rw [hW]; exact (Below.refl _ w).alloc (Nat.le_refl _) _
  have hG : Blk W w.heap.size 24 #[.int .i64 (N : Nat), .slice a L.length cap] := by rw [hW]; exact Blk.new _ _ _
  have hWs : W.heap.size = w.heap.size + 1 := by rw [hW]; simp
  have HWS := Lib.hid hWs
  have HW := Lib.hid hW
  have HB0 := Lib.hid hB0
  have HG := Lib.hid hG
  have HE := Lib.hid (h.keep hB0)
  have g0 : W.cell? ⟨w.heap.size, 0, none⟩ = some (.int .i64 (N : Nat)) := hG.cell 0
  have g1 : W.cell? ⟨w.heap.size, 1, none⟩ = some (.slice a L.length cap) := hG.cell 1
  clear hB0 hG hW hWs
  clear h hR
  go_enter Try.func88, Try.ntmps88
  go_wp2
  rw [← HW.out]
  go_loopw [5, 6] (fun s x wr => ∃ u : Nat, u ≤ N ∧ x = .int .i64 u ∧ s = .int .i64 (valZ v L u) ∧ Below W.heap.size W wr) (fun _ x _ => N - (intOf x).toNat)
  case atStart => exact ⟨0, by omega, rfl, rfl, Below.refl _ _⟩
  case round =>
    obtain ⟨u, hu, rfl, rfl, hb⟩ := hrel
    have g0' : wr.cell? ⟨w.heap.size, 0, none⟩ = some (.int .i64 (N : Nat)) := (HG.out.below hb HG.out.lt).cell 0
    have g1' : wr.cell? ⟨w.heap.size, 1, none⟩ = some (.slice a L.length cap) := (HG.out.below hb HG.out.lt).cell 1
    have HBr := Lib.hid hb
    by_cases hlt : u < N
    · have HC := Lib.hid (HBT.out u wr (HE.out.keep hb))
      have hst := HST.out u
      have hle := HLE.out u
      have hle2 := HLE.out (u + 1)
      rw [hst] at hle2
      generalize valZ v L u = S at *
      generalize betw (u : Nat) v L = B at *
      have i1 : (u : Int) < ((N : Nat) : Int) := by omega
      by_cases k1 : (u : Int) = v
      · have d1 : ((u : Int) != v) = false := by rw [k1]; simp
        rw [if_pos k1, Int.add_zero] at hst
        have HS2 := Lib.hid hst
        clear hst hle hle2 hb k1
        go_wp2
        go_roundw
        case rel => exact ⟨u + 1, by omega, by go_num, by rw [HS2.out], HBr.out⟩
        case measure => simp [intOf]; omega
      · have d1 : ((u : Int) != v) = true := by rw [bne_iff_ne]; exact k1
        rw [if_neg k1] at hst hle2
        have HS2 := Lib.hid hst
        have c1 : IntKind.i64.wrap (S + B) = S + B := IntWalk.i64_in _ (by omega)
        clear hst hle hle2 hb k1
        go_wp2_with fail
        refine HC.out.mono ?_
        rintro e w1 ⟨rfl, hb1⟩
        have HB1 := Lib.hid (HBr.out.trans (hb1.mono HBr.out.size))
        clear hb1
        go_wp2
        go_roundw
        case rel => exact ⟨u + 1, by omega, by go_num, by rw [HS2.out], HB1.out⟩
        case measure => simp [intOf]; omega
    · obtain rfl : u = N := by omega
      clear hb
      go_wp2
      go_ret
      exact ⟨rfl, HB0.out.trans (HBr.out.mono HB0.out.size)⟩
set_option maxHeartbeats 12800000 in
set_option maxRecDepth 100000 in
theorem rdegree_any (N : Nat) (a : Option Addr) (cap : Nat) (L : List E) (hL : L.length ≤ 100000) (hR : Right N L) (v : Int) (w : World) (h : EsAt w a L) :
    Calls Try.prog 45 #[gv (N : Nat) a L.length cap, .int .i64 v] w (GivesN w (valZ v L N + 2 * betw v v L)) := by
  have hN : N ≤ 12 := by have := hR.hi; omega
  have HBT := Lib.hid (fun w h => rbetween_any (N : Nat) a cap L hL hR.srt v v w h)
  have HVL := Lib.hid (fun w h => rvalence_any N a cap L hL hR v w h)
  have hb1 := betw_le hR v v
  have hb2 := valZ_le hR v N
  unfold GivesN gv at *
  obtain ⟨W, hW⟩ : ∃ W, W = w.alloc (Obj.cells #[.int .i64 (N : Nat), .slice a L.length cap] 24) := ⟨_, rfl⟩
  have hB0 : Below w.heap.size w W := by rw [hW]; exact (Below.refl _ w).alloc (Nat.le_refl _) _
  have hG : Blk W w.heap.size 24 #[.int .i64 (N : Nat), .slice a L.length cap] := by rw [hW]; exact Blk.new _ _ _
  have hWs : W.heap.size = w.heap.size + 1 := by rw [hW]; simp
  have HWS := Lib.hid hWs
  have HW := Lib.hid hW
  have HB0 := Lib.hid hB0
  have HG := Lib.hid hG
  have HE := Lib.hid (h.keep hB0)
  have g0 : W.cell? ⟨w.heap.size, 0, none⟩ = some (.int .i64 (N : Nat)) := hG.cell 0
  have g1 : W.cell? ⟨w.heap.size, 1, none⟩ = some (.slice a L.length cap) := hG.cell 1
  clear hB0 hG hW hWs
  generalize valZ v L N = S at *
  generalize betw v v L = B at *
  have c1 : IntKind.i64.wrap (2 * B) = 2 * B := IntWalk.i64_in _ (by omega)
  have c2 : IntKind.i64.wrap (S + 2 * B) = S + 2 * B := IntWalk.i64_in _ (by omega)
  have HS : Hid (∀ x, Below W.heap.size W x → (Below W.heap.size W x ∧ x.cell? ⟨w.heap.size, 0, none⟩ = some (.int .i64 (N : Nat)) ∧ x.cell? ⟨w.heap.size, 1, none⟩ = some (.slice a L.length cap))) := fun x hx => ⟨hx, (HG.out.below hx HG.out.lt).cell 0, (HG.out.below hx HG.out.lt).cell 1⟩
  clear h hR hb1 hb2
  go_enter Try.func45, Try.ntmps45
  go_wp2
  rw [← HW.out]
  have hk2 : Below W.heap.size W W.drew := (Below.refl _ _).drew
  obtain ⟨_, f0, f1⟩ := HS.out _ hk2
  go_region_held3 (fun x => Below W.heap.size W x ∧ x.cell? ⟨w.heap.size, 0, none⟩ = some (.int .i64 (N : Nat)) ∧ x.cell? ⟨w.heap.size, 1, none⟩ = some (.slice a L.length cap))
    (first | exact HS.out _ (by assumption) | exact HS.out _ (Below.drew (by assumption)))
    (first | (go_at_call 88; refine (HVL.out _ (HE.out.keep hk2)).mono ?_; rintro e wz ⟨rfl, hbz⟩; have hk3 := hk2.trans (hbz.mono hk2.size); clear hbz hk2; have hk2 := hk3; clear hk3) | (go_at_call 89; refine (HBT.out _ (HE.out.keep hk2)).mono ?_; rintro e wz ⟨rfl, hbz⟩; have hk3 := hk2.trans (hbz.mono hk2.size); clear hbz hk2; have hk2 := hk3; clear hk3))
  rename_i hHeldz
  clear hHeldz
  go_wp2
  go_ret
  exact ⟨rfl, HB0.out.trans (hk2.mono HB0.out.size)⟩
/-- Hands back ints. -/
def GivesI (w : World) (l : List Int) (e : Ending) (w' : World) : Prop := ∃ a c, e = .returned (.slice a l.length c) ∧ IsAt w' a l ∧ Below w.heap.size w w'
/-- Hands back ints and an error's number. -/
def GivesIE (w : World) (l : List Int) (k : Nat) (e : Ending) (w' : World) : Prop := ∃ a c, e = .returned (.tuple #[.slice a l.length c, .int .i64 (k : Nat)]) ∧ IsAt w' a l ∧ Below w.heap.size w w'
theorem flatI_snoc (l : List Int) (z : Int) : flat encI (l ++ [z]) = flat encI l ++ [.int .i64 z] := by rw [flat_append, flat_one]; rfl
theorem flatI_len (l : List Int) : (flat encI l).length = l.length := by rw [flat_len (k := 1) encI_len]; omega
theorem nbR_le (v : Int) (L : List E) (n : Nat) : (nbR v L n).length ≤ n := by
  induction n with
  | zero => simp [nbR]
  | succ n ih => rw [nbR, List.length_append]; split <;> simp <;> omega
theorem nbP_le (v : Int) (L : List E) : (nbP v L).length ≤ L.length := List.length_filterMap_le _ _

end Go.Proofs.Ytlnaahkheankoaa

namespace Go.Proofs.Ytlnaahkheankoaa
open Go.RowKit Go.Proofs.Gr

theorem infoP : (Try.prog.info? 85).map (fun i => (i.zero, i.size, i.bytes)) = some (some (.agg #[.int .i64 0, .int .i64 0]), 2, 16) := by kernel_rfl
theorem encP_len (z : Int × Int) : (encP z).length = 2 := rfl
/-- Hands back pairs. -/
def GivesP (w : World) (l : List (Int × Int)) (e : Ending) (w' : World) : Prop := ∃ a c, e = .returned (.slice a l.length c) ∧ PsAt w' a l ∧ Below w.heap.size w w'
theorem eq_pair (x y x' y' : Int) (w : World) : (Op.equalIn 10000 85 (.agg #[.int .i64 x, .int .i64 y]) (.agg #[.int .i64 x', .int .i64 y'])).run Try.prog w = .ok ((x == x') && (y == y')) w := by
  obtain ⟨i0, hi0, -, -, -⟩ := info_parts infoI
  rw [run_equalIn_array w 9999 _ _ Try.underlying85 hi0, show Try.prog.cellsOf 3 = 1 by kernel_rfl]
  have h1 := fun (a b : Int) w => run_equalIn_int (P := Try.prog) w 9998 3 .i64 .i64 a b Try.underlying3
  have hr : List.range 2 = [0, 1] := rfl
  rw [hr]
  cases hq : (x == x') <;> cases hp : (y == y') <;> simp [Op.eqItems, go_sem, h1, hq, hp]
theorem neq_pair (x y : Int) (w : World) : (binOp .neq 85 (.agg #[.int .i64 x, .int .i64 y]) (.agg #[.int .i64 x, .int .i64 y])).run Try.prog w = .ok (.bool false) w := by
  rw [run_neq_struct, eq_pair]; simp
theorem flatP_snoc (l : List (Int × Int)) (x y : Int) : flat encP (l ++ [(x, y)]) = flat encP l ++ [.int .i64 x, .int .i64 y] := by rw [flat_append, flat_one]; rfl
theorem ends_le {n : Int} {L : List E} (h : Right n L) (i : Nat) : (endsG (L.take i)).length ≤ 50 * L.length := by
  have h1 := endsG_len (L := L.take i) (n := n) (fun e he => h.rng e (List.mem_of_mem_take he))
  have h2 := size_bound (L := L.take i) (n := n) (fun e he => h.rng e (List.mem_of_mem_take he))
  have h3 : (L.take i).length ≤ L.length := by rw [List.length_take]; omega
  omega

set_option maxHeartbeats 12800000 in
set_option maxRecDepth 100000 in
theorem rends_any (n : Int) (a : Option Addr) (cap : Nat) (L : List E) (hL : L.length ≤ 100000) (hR : Right n L) (w : World) (h : EsAt w a L) :
    Calls Try.prog 51 #[gv n a L.length cap] w (GivesP w (endsG L)) := by
  obtain ⟨i0, hi0, hz0, hz1, hz2⟩ := info_parts infoP
  have HST := Lib.hid (fun i h => endsG_take L i h)
  have HALL : Hid (endsG L = endsG (L.take L.length)) := Lib.hid (by rw [List.take_length])
  have HLE := Lib.hid (fun i => ends_le hR i)
  have HRN := Lib.hid hR.rng
  unfold GivesP
  unfold gv at *
  rw [HALL.out]
  obtain ⟨W, hW⟩ : ∃ W, W = w.alloc (Obj.cells #[.int .i64 n, .slice a L.length cap] 24) := ⟨_, rfl⟩
  have hB0 : Below w.heap.size w W := by rw [hW]; exact (Below.refl _ w).alloc (Nat.le_refl _) _
  have hG : Blk W w.heap.size 24 #[.int .i64 n, .slice a L.length cap] := by rw [hW]; exact Blk.new _ _ _
  have hWs : W.heap.size = w.heap.size + 1 := by rw [hW]; simp
  have HWS := Lib.hid hWs
  have HW := Lib.hid hW
  have HB0 := Lib.hid hB0
  have HG := Lib.hid hG
  have HE := Lib.hid (h.keep hB0)
  have g0 : W.cell? ⟨w.heap.size, 0, none⟩ = some (.int .i64 n) := hG.cell 0
  have g1 : W.cell? ⟨w.heap.size, 1, none⟩ = some (.slice a L.length cap) := hG.cell 1
  clear hB0 hG hW hWs
  clear h hR
  go_enter Try.func51, Try.ntmps51
  go_wp2
  rw [← HW.out]
  go_loopw [3, 4] (fun s x wr => ∃ i : Nat, i ≤ L.length ∧ x = .int .i64 i ∧ wr.ownsRow W.heap.size 85 2 s (endsG (L.take i)).length (flat encP (endsG (L.take i))) ∧ Below W.heap.size W wr) (fun _ x _ => L.length - (intOf x).toNat)
  case atStart => exact ⟨0, by omega, rfl, World.ownsRow_nil _ _ _ _, Below.refl _ _⟩
  case round =>
    obtain ⟨i, hi, rfl, hown, hb⟩ := hrel
    have g0' : wr.cell? ⟨w.heap.size, 0, none⟩ = some (.int .i64 n) := (HG.out.below hb HG.out.lt).cell 0
    have g1' : wr.cell? ⟨w.heap.size, 1, none⟩ = some (.slice a L.length cap) := (HG.out.below hb HG.out.lt).cell 1
    have HBr := Lib.hid hb
    by_cases hlt : i < L.length
    · have hst := HST.out i hlt
      have hle := HLE.out (i + 1)
      have hrn := HRN.out (eAt L i) (by rw [← eAt_get L i hlt]; exact List.getElem_mem hlt)
      obtain ⟨b1, o1, ha, q1, x1, x2, x3⟩ := HE.out.three i hlt
      subst ha
      generalize eAt L i = T at *
      obtain ⟨ta, tb, tm⟩ := T
      simp only at x1 x2 x3 hst hrn
      obtain ⟨M, hM⟩ : ∃ M : Nat, tm = M := ⟨tm.toNat, by omega⟩
      subst hM
      rw [Int.toNat_natCast] at hst
      have hm50 : M ≤ 50 := by omega
      have hlen : (endsG (L.take i)).length + M ≤ 50 * L.length := by
        have := congrArg List.length hst
        rw [List.length_append, List.length_replicate] at this
        omega
      generalize endsG (L.take i) = P at *
      have HST2 := Lib.hid hst
      have HLEN := Lib.hid hlen
      have i1 : (i : Int) < ((L.length : Nat) : Int) := by omega
      have HS : Hid (∀ x, Below W.heap.size W x → (Below W.heap.size W x ∧ x.cell? ⟨w.heap.size, 1, none⟩ = some (.slice (some ⟨b1, o1, none⟩) L.length cap) ∧ x.cell? ⟨b1, o1 + i * 3, none⟩ = some (.int .i64 ta) ∧ x.cell? ⟨b1, o1 + i * 3 + 1, none⟩ = some (.int .i64 tb) ∧ x.cell? ⟨b1, o1 + i * 3 + 2, none⟩ = some (.int .i64 (M : Nat)))) :=
        fun x hx => ⟨hx, (HG.out.below hx HG.out.lt).cell 1, (hx.cell (p := ⟨b1, o1 + i * 3, none⟩) q1).trans x1, (hx.cell (p := ⟨b1, o1 + i * 3 + 1, none⟩) q1).trans x2, (hx.cell (p := ⟨b1, o1 + i * 3 + 2, none⟩) q1).trans x3⟩
      have HOW := Lib.hid hown
      clear hst hle hrn hb hown x1 x2 x3 hlen
      go_wp2
      go_loopw [3, 5] (fun s x wr => ∃ k : Nat, k ≤ M ∧ x = .int .i64 k ∧ wr.ownsRow W.heap.size 85 2 s (P ++ List.replicate k (ta, tb)).length (flat encP (P ++ List.replicate k (ta, tb))) ∧ Below W.heap.size W wr) (fun _ x _ => M - (intOf x).toNat)
      case atStart => exact ⟨0, by omega, rfl, by simpa using HOW.out, HBr.out⟩
      case round =>
        obtain ⟨k, hk, rfl, hown, hB⟩ := hrel
        obtain ⟨_, y0, y1, y2, y3⟩ := HS.out _ hB
        have HOW2 := Lib.hid hown
        have hlk : (P ++ List.replicate k (ta, tb)).length ≤ 50 * L.length := by
          have := HLEN.out
          rw [List.length_append, List.length_replicate]; omega
        have HRS : Hid (∀ k, P ++ List.replicate (k + 1) (ta, tb) = (P ++ List.replicate k (ta, tb)) ++ [(ta, tb)]) := Lib.hid fun k => by rw [List.replicate_succ', List.append_assoc]
        by_cases hkm : k < M
        · have k1 : (k : Int) < ((M : Nat) : Int) := by omega
          have HN := HRS.out k
          generalize P ++ List.replicate k (ta, tb) = Q at *
          have HQN := Lib.hid HN
          clear hown HN
          go_wp2
          have hk2 : Below wr.heap.size wr wr.drew := (Below.refl _ _).drew
          obtain ⟨_, f0, f1, f2, f3⟩ := HS.out _ (hB.trans (hk2.mono hB.size))
          go_region_held3 (fun x => Below W.heap.size W x ∧ x.cell? ⟨w.heap.size, 1, none⟩ = some (.slice (some ⟨b1, o1, none⟩) L.length cap) ∧ x.cell? ⟨b1, o1 + i * 3, none⟩ = some (.int .i64 ta) ∧ x.cell? ⟨b1, o1 + i * 3 + 1, none⟩ = some (.int .i64 tb) ∧ x.cell? ⟨b1, o1 + i * 3 + 2, none⟩ = some (.int .i64 (M : Nat)))
            (first | exact HS.out _ (by assumption) | exact HS.out _ (hB.trans (Below.mono (by assumption) hB.size)) | exact HS.out _ (hB.trans ((hk2.alloc hk2.size _).mono hB.size)))
            (first | (rw [if_pos (by rfl)]; refine wp_append_own _ _ _ 83 rfl W.heap.size 85 i0 (.agg #[.int .i64 0, .int .i64 0]) 2 16 Try.underlying83 hi0 hz0 hz1 hz2 rfl (by decide) _ _ _ rfl ((own_keep HOW2.out hk2).alloc _) ⟨_, 0, none⟩ 1 1 [.int .i64 ta, .int .i64 tb] rfl rfl (lit_row _ _ _) (by simp [Value.oneCell']) (by unfold maxLen; omega) (by omega) (by show W.heap.size ≤ (wr.alloc _).heap.size; rw [World.size_alloc]; have := hk2.size; have := hB.size; omega) ?_; intro v1 w3 hown1 hgrow1 _; have hk4 : Below W.heap.size W w3 := below_push (w := W) (hB.trans (hk2.mono hB.size)) (fun k hk => ((own_keep HOW2.out hk2).lt k hk).1) hgrow1))
          rename_i hHeldz
          clear hHeldz
          have HOW3 : Hid (w3.ownsRow W.heap.size 85 2 v1 (Q ++ [(ta, tb)]).length (flat encP (Q ++ [(ta, tb)]))) := by
            rw [List.length_append, flatP_snoc]
            exact hown1
          have HB4 := Lib.hid hk4
          clear hown1 hgrow1 hk4 hk2 f0 f1 f2 f3 y0 y1 y2 y3 hB
          go_wp2
          go_roundw
          case rel => exact ⟨k + 1, by omega, by go_num, by rw [HQN.out]; exact HOW3.out, HB4.out⟩
          case measure => simp [intOf]; omega
        · obtain rfl : k = M := by omega
          have HB5 := Lib.hid hB
          rw [← HST2.out] at HOW2
          clear hown hB
          go_wp2
          go_roundw
          case rel => exact ⟨i + 1, by omega, by go_num, HOW2.out, HB5.out⟩
          case measure => simp [intOf]; omega
    · obtain rfl : i = L.length := by omega
      obtain ⟨a', c', e1, e2⟩ := RowAt.of_own encP_len hown
      have E1 := Lib.hid e1
      have E2 := Lib.hid e2
      clear hb hown e1 e2
      go_wp2
      go_ret
      exact ⟨a', c', by rw [← E1.out]; rfl, E2.out, HB0.out.trans (HBr.out.mono HB0.out.size)⟩
set_option maxHeartbeats 12800000 in
set_option maxRecDepth 100000 in
theorem rsize_any (n : Int) (a : Option Addr) (cap : Nat) (L : List E) (hL : L.length ≤ 100000) (hR : Right n L) (w : World) (h : EsAt w a L) :
    Calls Try.prog 26 #[gv n a L.length cap] w (GivesN w (sizeG L)) := by
  have HC := Lib.hid (fun w h => rends_any n a cap L hL hR w h)
  have hln := endsG_len hR.rng
  unfold GivesN
  unfold GivesP gv at *
  obtain ⟨W, hW⟩ : ∃ W, W = w.alloc (Obj.cells #[.int .i64 n, .slice a L.length cap] 24) := ⟨_, rfl⟩
  have hB0 : Below w.heap.size w W := by rw [hW]; exact (Below.refl _ w).alloc (Nat.le_refl _) _
  have hG : Blk W w.heap.size 24 #[.int .i64 n, .slice a L.length cap] := by rw [hW]; exact Blk.new _ _ _
  have hWs : W.heap.size = w.heap.size + 1 := by rw [hW]; simp
  have HWS := Lib.hid hWs
  have HW := Lib.hid hW
  have HB0 := Lib.hid hB0
  have HG := Lib.hid hG
  have HE := Lib.hid (h.keep hB0)
  have g0 : W.cell? ⟨w.heap.size, 0, none⟩ = some (.int .i64 n) := hG.cell 0
  have g1 : W.cell? ⟨w.heap.size, 1, none⟩ = some (.slice a L.length cap) := hG.cell 1
  clear hB0 hG hW hWs
  generalize endsG L = P at *
  generalize sizeG L = S at *
  subst hln
  clear h hR
  go_enter Try.func26, Try.ntmps26
  go_wp2_with fail
  rw [← HW.out]
  refine (HC.out _ HE.out).mono ?_
  rintro e w1 ⟨a', c', rfl, ht, hb⟩
  have HB1 := Lib.hid (HB0.out.trans (hb.mono HB0.out.size))
  clear ht hb
  go_wp2
  go_ret
  exact ⟨rfl, HB1.out⟩
set_option maxHeartbeats 12800000 in
set_option maxRecDepth 100000 in
theorem holds_any (a : Option Addr) (cap : Nat) (L : List Int) (hL : L.length ≤ 100000) (v : Int) (w : World) (h : IsAt w a L) :
    Calls Try.prog 80 #[.slice a L.length cap, .int .i64 v] w (fun e w' => e = .returned (.bool (L.contains v)) ∧ w = w') := by
  have H := Lib.hid h
  have hE : Hid ((∃ j, j < L.length ∧ iAt L j = v) → L.contains v = true) := Lib.hid (by
    rintro ⟨j, hj, hk⟩
    rw [List.contains_iff_mem, ← hk, ← iAt_get L j hj]; exact List.getElem_mem hj)
  have hF : Hid ((∀ j, j < L.length → iAt L j ≠ v) → L.contains v = false) := Lib.hid (by
    intro hn
    rw [← Bool.not_eq_true, List.contains_iff_mem]
    intro hm
    obtain ⟨j, hj, hk⟩ := List.mem_iff_getElem.1 hm
    exact hn j hj (by rw [← iAt_get L j hj]; exact hk))
  generalize L.contains v = R at *
  clear h
  go_enter Try.func80, Try.ntmps80
  go_wp2
  go_loopw [5] (fun x wr => ∃ i : Nat, i ≤ L.length ∧ x = .int .i64 i ∧ (∀ j, j < i → iAt L j ≠ v) ∧ w = wr) (fun x _ => L.length - (intOf x).toNat)
  case atStart => exact ⟨0, by omega, rfl, fun j hj => by omega, rfl⟩
  case round =>
    obtain ⟨i, hi, rfl, hz, rfl⟩ := hrel
    by_cases hlt : i < L.length
    · obtain ⟨b1, o1, ha, q1, x1⟩ := H.out.one i hlt
      subst ha
      have i1 : (i : Int) < ((L.length : Nat) : Int) := by omega
      by_cases k1 : iAt L i = v
      · have HR := Lib.hid (hE.out ⟨i, hlt, k1⟩)
        rw [k1] at x1
        clear hz k1
        go_wp2
        go_ret
        exact ⟨by rw [HR.out]; rfl, rfl⟩
      · have HZ : Hid (∀ j, j < i + 1 → iAt L j ≠ v) := Lib.hid (fun j hj => by
          by_cases e : j = i
          · subst e; exact k1
          · exact hz j (by omega))
        have d1 : (iAt L i == v) = false := by rw [beq_eq_false_iff_ne]; exact k1
        generalize iAt L i = z at *
        clear hz k1
        go_wp2
        go_roundw
        case rel => exact ⟨i + 1, by omega, by go_num, HZ.out, (by first | rfl | trivial)⟩
        case measure => simp [intOf]; omega
    · obtain rfl : i = L.length := by omega
      have HR := Lib.hid (hF.out hz)
      clear hz
      go_wp2
      go_ret
      exact ⟨by rw [HR.out]; rfl, rfl⟩
set_option maxHeartbeats 12800000 in
set_option maxRecDepth 100000 in
theorem equalI_true (a b : Option Addr) (c1 c2 : Nat) (L : List Int) (hl : L.length ≤ 100000) (w : World) (h1 : IsAt w a L) (h2 : IsAt w b L) :
    Calls Try.prog 53 #[.slice a L.length c1, .slice b L.length c2] w (fun e w' => e = .returned (.bool true) ∧ Below w.heap.size w w') := by
  have H1 := Lib.hid h1
  have H2 := Lib.hid h2
  clear h1 h2
  go_enter Try.func53, Try.ntmps53
  go_wp2
  go_loopw [13] (fun v wr => ∃ j : Nat, j ≤ L.length ∧ v = .int .i64 j ∧ Below w.heap.size w wr) (fun v _ => L.length - (intOf v).toNat)
  case atStart => exact ⟨0, by omega, rfl, Below.refl _ _⟩
  case round =>
    obtain ⟨j, hj, rfl, hb⟩ := hrel
    have Hb := Lib.hid hb
    clear hb
    by_cases hlt : j < L.length
    · obtain ⟨b1, o1, rfl, q1, x1⟩ := (H1.out.keep Hb.out).one j hlt
      obtain ⟨b2, o2, rfl, q2, y1⟩ := (H2.out.keep Hb.out).one j hlt
      generalize iAt L j = T at *
      have g1 : (0 : Int) ≤ (j : Int) := by omega
      have g2 : (j : Int) < ((L.length : Nat) : Int) := by omega
      go_wp2
      go_quiet (fail)
      go_wp2
      go_roundw
      case rel => exact ⟨j + 1, by omega, by go_num, below_drewN Hb.out _⟩
      case measure => simp [intOf]; omega
    · obtain rfl : j = L.length := by omega
      go_wp2
      go_ret
      exact ⟨rfl, Hb.out⟩
end Go.Proofs.Ytlnaahkheankoaa

namespace Go.Proofs.Ytlnaahkheankoaa
open Go.RowKit Go.Proofs.Gr

/-- The error of the number i of a set. -/
def sErr (n : Int) (S : List Int) (i : Nat) : Nat := if isV n (iAt S i) = false then 2 else if 0 < i ∧ iAt S i ≤ iAt S (i - 1) then 9 else 0
def subE (n : Int) (S : List Int) : Nat := firstE (sErr n S) S.length
/-- The error of a graph and a set. -/
def chkS (n : Int) (L : List E) (S : List Int) : Nat := if chkG n L ≠ 0 then chkG n L else subE n S

set_option maxHeartbeats 12800000 in
set_option maxRecDepth 100000 in
theorem psubset_any (n : Int) (a : Option Addr) (cap : Nat) (L : List E) (hL : L.length ≤ 100000) (b : Option Addr) (c : Nat) (S : List Int) (hS : S.length ≤ 100000) (w : World) (h : EsAt w a L) (hv : IsAt w b S) :
    Calls Try.prog 77 #[gv n a L.length cap, .slice b S.length c] w (GivesN w (chkS n L S : Nat)) := by
  have HC := Lib.hid (fun w h => check_any n a cap L (by omega) w h)
  have HIV := Lib.hid (fun v w => isVertex_any n a L.length cap v w)
  have hE : Hid (chkS n L S = if chkG n L ≠ 0 then chkG n L else firstE (sErr n S) S.length) := Lib.hid rfl
  unfold GivesN gv at *
  generalize chkS n L S = R at *
  obtain ⟨W, hW⟩ : ∃ W, W = w.alloc (Obj.cells #[.int .i64 n, .slice a L.length cap] 24) := ⟨_, rfl⟩
  have hB0 : Below w.heap.size w W := by rw [hW]; exact (Below.refl _ w).alloc (Nat.le_refl _) _
  have hG : Blk W w.heap.size 24 #[.int .i64 n, .slice a L.length cap] := by rw [hW]; exact Blk.new _ _ _
  have hWs : W.heap.size = w.heap.size + 1 := by rw [hW]; simp
  have HWS := Lib.hid hWs
  have HW := Lib.hid hW
  have HB0 := Lib.hid hB0
  have HG := Lib.hid hG
  have HE := Lib.hid (h.keep hB0)
  have g0 : W.cell? ⟨w.heap.size, 0, none⟩ = some (.int .i64 n) := hG.cell 0
  have g1 : W.cell? ⟨w.heap.size, 1, none⟩ = some (.slice a L.length cap) := hG.cell 1
  clear hB0 hG hW hWs
  have HVs := Lib.hid (hv.keep HB0.out)
  generalize chkG n L = k at *
  clear h hv
  by_cases hk : k ≠ 0
  · have hE2 : Hid (R = k) := Lib.hid (by rw [hE.out, if_pos hk])
    have q0 : (((k : Nat) : Int) != 0) = true := by rw [bne_iff_ne]; omega
    clear hE
    go_enter Try.func77, Try.ntmps77
    go_wp2_with fail
    rw [← HW.out]
    refine (HC.out _ HE.out).mono ?_
    rintro e w1 ⟨rfl, hb⟩
    have HB1 := Lib.hid hb
    clear hb
    go_wp2
    go_ret
    exact ⟨by rw [hE2.out]; rfl, HB0.out.trans (HB1.out.mono HB0.out.size)⟩
  obtain rfl : k = 0 := by omega
  have HR : Hid (R = firstE (sErr n S) S.length) := Lib.hid (by rw [hE.out, if_neg (by simp)])
  clear hE hk
  go_enter Try.func77, Try.ntmps77
  go_wp2_with fail
  rw [← HW.out]
  refine (HC.out _ HE.out).mono ?_
  rintro e w1 ⟨rfl, hb⟩
  have HB1 := Lib.hid hb
  have g0' : w1.cell? ⟨w.heap.size, 0, none⟩ = some (.int .i64 n) := (HG.out.below hb HG.out.lt).cell 0
  have g1' : w1.cell? ⟨w.heap.size, 1, none⟩ = some (.slice a L.length cap) := (HG.out.below hb HG.out.lt).cell 1
  clear hb
  generalize L.length = l0 at *
  go_wp2
  go_loopw [15] (fun v wr => ∃ i : Nat, i ≤ S.length ∧ v = .int .i64 i ∧ (∀ j, j < i → sErr n S j = 0) ∧ Below W.heap.size W wr) (fun v _ => S.length - (intOf v).toNat)
  case atStart => exact ⟨0, by omega, rfl, fun j hj => by omega, HB1.out⟩
  case round =>
    obtain ⟨i, hi, rfl, hz, hb⟩ := hrel
    have HBr := Lib.hid hb
    have HZ := Lib.hid hz
    have g0' : wr.cell? ⟨w.heap.size, 0, none⟩ = some (.int .i64 n) := (HG.out.below hb HG.out.lt).cell 0
    have g1' : wr.cell? ⟨w.heap.size, 1, none⟩ = some (.slice a l0 cap) := (HG.out.below hb HG.out.lt).cell 1
    by_cases hlt : i < S.length
    · obtain ⟨b1, o1, hbb, q1, x1⟩ := (HVs.out.keep hb).one i hlt
      subst hbb
      have HV1 := Lib.hid (HIV.out (iAt S i) wr)
      have i1 : (i : Int) < ((S.length : Nat) : Int) := by omega
      have HEr : Hid (sErr n S i = if isV n (iAt S i) = false then 2 else if 0 < i ∧ iAt S i ≤ iAt S (i - 1) then 9 else 0) := Lib.hid rfl
      have HFI : Hid (sErr n S i ≠ 0 → R = sErr n S i) := Lib.hid (fun hne => by rw [HR.out]; exact firstE_at HZ.out hne hlt)
      have HNX : Hid (sErr n S i = 0 → ∀ j, j < i + 1 → sErr n S j = 0) := Lib.hid (fun h0 j hj => by
        by_cases e : j = i
        · subst e; exact h0
        · exact HZ.out j (by omega))
      have HPREV : Hid (∀ m, i = m + 1 → ∀ x, Below W.heap.size W x → x.cell? ⟨b1, o1 + m, none⟩ = some (.int .i64 (iAt S m))) := Lib.hid (fun m hm x hx => by
        obtain ⟨b2, o2, h2, q2, y1⟩ := (HVs.out.keep hx).one m (by omega)
        simp only [Option.some.injEq, Addr.mk.injEq, and_true] at h2
        obtain ⟨rfl, rfl⟩ := h2
        exact y1)
      have HX1 : Hid (∀ x, Below W.heap.size W x → x.cell? ⟨b1, o1 + i, none⟩ = some (.int .i64 (iAt S i))) := Lib.hid (fun x hx => by
        obtain ⟨b2, o2, h2, q2, y1⟩ := (HVs.out.keep hx).one i hlt
        simp only [Option.some.injEq, Addr.mk.injEq, and_true] at h2
        obtain ⟨rfl, rfl⟩ := h2
        exact y1)
      generalize sErr n S i = er at *
      generalize hzz : iAt S i = z at *
      generalize isV n z = q at *
      clear hb hz hzz
      cases q
      · have HEr' : er = 2 := by rw [HEr.out]; rfl
        go_wp2_with fail
        refine HV1.out.mono ?_
        rintro e w2 ⟨rfl, hb2⟩
        have HB2 := Lib.hid (HBr.out.trans (hb2.mono HBr.out.size))
        clear hb2
        go_wp2
        go_ret
        exact ⟨by rw [HFI.out (by rw [HEr']; omega), HEr']; rfl, HB0.out.trans (HB2.out.mono HB0.out.size)⟩
      · rcases Nat.eq_zero_or_pos i with hi0 | hi0
        · subst hi0
          have HEr' : er = 0 := by rw [HEr.out, if_neg (by simp), if_neg (by omega)]
          simp only [Nat.add_zero] at x1
          go_wp2_with fail
          refine HV1.out.mono ?_
          rintro e w2 ⟨rfl, hb2⟩
          have HB2 := Lib.hid (HBr.out.trans (hb2.mono HBr.out.size))
          clear hb2
          go_wp2
          go_roundw
          case rel => exact ⟨0 + 1, by omega, by go_num, HNX.out HEr', HB2.out⟩
          case measure => simp [intOf]; omega
        · obtain ⟨m, rfl⟩ : ∃ m, i = m + 1 := ⟨i - 1, by omega⟩
          have HP := Lib.hid (fun x hx => HPREV.out m rfl x hx)
          rw [show m + 1 - 1 = m from rfl] at HEr
          generalize iAt S m = y at *
          have z6 : IntKind.i64.wrap (m : Int) = (m : Int) := IntWalk.i64_in _ (by omega)
          have z2 : (0 : Int) ≤ (m : Int) := by omega
          have z3 : (m : Int) < ((S.length : Nat) : Int) := by omega
          have z4 : (0 : Int) < ((m + 1 : Nat) : Int) := by omega
          have z5 : (0 : Int) < (m : Int) + 1 := by omega
          by_cases hzy : z ≤ y
          · have HEr' : er = 9 := by rw [HEr.out, if_neg (by simp), if_pos ⟨by omega, hzy⟩]
            have c1 : decide (z ≤ y) = true := decide_eq_true hzy
            go_wp2_with fail
            refine HV1.out.mono ?_
            rintro e w2 ⟨rfl, hb2⟩
            have hk2 := HBr.out.trans (hb2.mono HBr.out.size)
            have y1 := HP.out _ hk2
            have x1' := HX1.out _ hk2
            have HB2 := Lib.hid hk2
            clear hb2 hk2
            go_wp2
            go_ret
            exact ⟨by rw [HFI.out (by rw [HEr']; omega), HEr']; rfl, HB0.out.trans (HB2.out.mono HB0.out.size)⟩
          · have HEr' : er = 0 := by rw [HEr.out, if_neg (by simp), if_neg (fun h => hzy h.2)]
            have c1 : decide (z ≤ y) = false := decide_eq_false hzy
            go_wp2_with fail
            refine HV1.out.mono ?_
            rintro e w2 ⟨rfl, hb2⟩
            have hk2 := HBr.out.trans (hb2.mono HBr.out.size)
            have y1 := HP.out _ hk2
            have x1' := HX1.out _ hk2
            have HB2 := Lib.hid hk2
            clear hb2 hk2
            go_wp2
            go_roundw
            case rel => exact ⟨m + 1 + 1, by omega, by go_num, HNX.out HEr', HB2.out⟩
            case measure => simp [intOf]; omega
    · obtain rfl : i = S.length := by omega
      have HF : Hid (R = 0) := Lib.hid (by rw [HR.out]; exact firstE_zero hz)
      clear hb hz
      go_wp2
      go_ret
      exact ⟨by rw [HF.out]; rfl, HB0.out.trans (HBr.out.mono HB0.out.size)⟩
set_option maxHeartbeats 12800000 in
set_option maxRecDepth 100000 in
theorem rsubset_any (n : Int) (a : Option Addr) (cap : Nat) (L : List E) (b : Option Addr) (c : Nat) (S : List Int) (hS : S.length ≤ 100000) (w : World) (h : EsAt w a L) (hv : IsAt w b S) :
    Calls Try.prog 49 #[gv n a L.length cap, .slice b S.length c] w (GivesN w (subE n S : Nat)) := by
  have HIV := Lib.hid (fun v w => vertex_any n a L.length cap v w)
  have HR : Hid (subE n S = firstE (sErr n S) S.length) := Lib.hid rfl
  unfold GivesN gv at *
  generalize subE n S = R at *
  obtain ⟨W, hW⟩ : ∃ W, W = w.alloc (Obj.cells #[.int .i64 n, .slice a L.length cap] 24) := ⟨_, rfl⟩
  have hB0 : Below w.heap.size w W := by rw [hW]; exact (Below.refl _ w).alloc (Nat.le_refl _) _
  have hG : Blk W w.heap.size 24 #[.int .i64 n, .slice a L.length cap] := by rw [hW]; exact Blk.new _ _ _
  have hWs : W.heap.size = w.heap.size + 1 := by rw [hW]; simp
  have HWS := Lib.hid hWs
  have HW := Lib.hid hW
  have HB0 := Lib.hid hB0
  have HG := Lib.hid hG
  have HE := Lib.hid (h.keep hB0)
  have g0 : W.cell? ⟨w.heap.size, 0, none⟩ = some (.int .i64 n) := hG.cell 0
  have g1 : W.cell? ⟨w.heap.size, 1, none⟩ = some (.slice a L.length cap) := hG.cell 1
  clear hB0 hG hW hWs
  have HVs := Lib.hid (hv.keep HB0.out)
  clear h hv HE
  go_enter Try.func49, Try.ntmps49
  go_wp2
  rw [← HW.out]
  generalize L.length = l0 at *
  go_loopw [5] (fun v wr => ∃ i : Nat, i ≤ S.length ∧ v = .int .i64 i ∧ (∀ j, j < i → sErr n S j = 0) ∧ Below W.heap.size W wr) (fun v _ => S.length - (intOf v).toNat)
  case atStart => exact ⟨0, by omega, rfl, fun j hj => by omega, Below.refl _ _⟩
  case round =>
    obtain ⟨i, hi, rfl, hz, hb⟩ := hrel
    have HBr := Lib.hid hb
    have HZ := Lib.hid hz
    have g0' : wr.cell? ⟨w.heap.size, 0, none⟩ = some (.int .i64 n) := (HG.out.below hb HG.out.lt).cell 0
    have g1' : wr.cell? ⟨w.heap.size, 1, none⟩ = some (.slice a l0 cap) := (HG.out.below hb HG.out.lt).cell 1
    by_cases hlt : i < S.length
    · obtain ⟨b1, o1, hbb, q1, x1⟩ := (HVs.out.keep hb).one i hlt
      subst hbb
      have i1 : (i : Int) < ((S.length : Nat) : Int) := by omega
      have HEr : Hid (sErr n S i = if isV n (iAt S i) = false then 2 else if 0 < i ∧ iAt S i ≤ iAt S (i - 1) then 9 else 0) := Lib.hid rfl
      have HFI : Hid (sErr n S i ≠ 0 → R = sErr n S i) := Lib.hid (fun hne => by rw [HR.out]; exact firstE_at HZ.out hne hlt)
      have HNX : Hid (sErr n S i = 0 → ∀ j, j < i + 1 → sErr n S j = 0) := Lib.hid (fun h0 j hj => by
        by_cases e : j = i
        · subst e; exact h0
        · exact HZ.out j (by omega))
      have HPREV : Hid (∀ m, i = m + 1 → ∀ x, Below W.heap.size W x → x.cell? ⟨b1, o1 + m, none⟩ = some (.int .i64 (iAt S m))) := Lib.hid (fun m hm x hx => by
        obtain ⟨b2, o2, h2, q2, y1⟩ := (HVs.out.keep hx).one m (by omega)
        simp only [Option.some.injEq, Addr.mk.injEq, and_true] at h2
        obtain ⟨rfl, rfl⟩ := h2
        exact y1)
      have HX1 : Hid (∀ x, Below W.heap.size W x → x.cell? ⟨b1, o1 + i, none⟩ = some (.int .i64 (iAt S i))) := Lib.hid (fun x hx => by
        obtain ⟨b2, o2, h2, q2, y1⟩ := (HVs.out.keep hx).one i hlt
        simp only [Option.some.injEq, Addr.mk.injEq, and_true] at h2
        obtain ⟨rfl, rfl⟩ := h2
        exact y1)
      generalize sErr n S i = er at *
      generalize hzz : iAt S i = z at *
      clear hb hz hzz
      have HV2 := Lib.hid (fun w => HIV.out z w)
      have HS : Hid (∀ x, Below wr.heap.size wr x → (Below wr.heap.size wr x ∧ x.cell? ⟨w.heap.size, 0, none⟩ = some (.int .i64 n) ∧ x.cell? ⟨w.heap.size, 1, none⟩ = some (.slice a l0 cap) ∧ x.cell? ⟨b1, o1 + i, none⟩ = some (.int .i64 z))) := fun x hx => by
        have hWx := HBr.out.trans (hx.mono HBr.out.size)
        exact ⟨hx, (HG.out.below hWx HG.out.lt).cell 0, (HG.out.below hWx HG.out.lt).cell 1, HX1.out x hWx⟩
      generalize hqq : isV n z = q at *
      cases q
      · have HEr' : er = 2 := by rw [HEr.out]; rfl
        go_wp2
        have hk1 : Below wr.heap.size wr wr.drew := (Below.refl _ _).drew
        obtain ⟨_, f0, f1, f2⟩ := HS.out _ hk1
        have hk2 := hk1
        clear hk1
        go_region_held3 (fun x => Below wr.heap.size wr x ∧ x.cell? ⟨w.heap.size, 0, none⟩ = some (.int .i64 n) ∧ x.cell? ⟨w.heap.size, 1, none⟩ = some (.slice a l0 cap) ∧ x.cell? ⟨b1, o1 + i, none⟩ = some (.int .i64 z))
          (first | exact HS.out _ (by assumption) | exact HS.out _ (Below.drew (by assumption)))
          (first | (go_at_call 72; refine (HV2.out _).mono ?_; rintro e w2 ⟨rfl, hbz⟩; have hk3 := hk2.trans (hbz.mono hk2.size); clear hbz hk2; have hk2 := hk3; clear hk3))
        rename_i hHeldz
        clear hHeldz
        have hk4 := HBr.out.trans (hk2.mono HBr.out.size)
        have HB2 := Lib.hid hk4
        clear hk2 hk4
        go_wp2
        go_ret
        exact ⟨by rw [HFI.out (by rw [HEr']; omega), HEr']; rfl, HB0.out.trans (HB2.out.mono HB0.out.size)⟩
      · rcases Nat.eq_zero_or_pos i with hi0 | hi0
        · subst hi0
          have HEr' : er = 0 := by rw [HEr.out, if_neg (by simp), if_neg (by omega)]
          simp only [Nat.add_zero] at x1 HS
          go_wp2
          have hk1 : Below wr.heap.size wr wr.drew := (Below.refl _ _).drew
          obtain ⟨_, f0, f1, f2⟩ := HS.out _ hk1
          have hk2 := hk1
          clear hk1
          go_region_held3 (fun x => Below wr.heap.size wr x ∧ x.cell? ⟨w.heap.size, 0, none⟩ = some (.int .i64 n) ∧ x.cell? ⟨w.heap.size, 1, none⟩ = some (.slice a l0 cap) ∧ x.cell? ⟨b1, o1, none⟩ = some (.int .i64 z))
            (first | exact HS.out _ (by assumption) | exact HS.out _ (Below.drew (by assumption)))
            (first | (go_at_call 72; refine (HV2.out _).mono ?_; rintro e w2 ⟨rfl, hbz⟩; have hk3 := hk2.trans (hbz.mono hk2.size); clear hbz hk2; have hk2 := hk3; clear hk3))
          rename_i hHeldz
          clear hHeldz
          have hk4 := HBr.out.trans (hk2.mono HBr.out.size)
          have HB2 := Lib.hid hk4
          have hz4 : decide ((0 : Int) < 0) = false := by decide
          clear hk2 hk4
          go_wp2
          go_quiet (fail)
          go_wp2
          go_roundw
          case rel => exact ⟨0 + 1, by omega, by go_num, HNX.out HEr', below_drewN HB2.out _⟩
          case measure => simp [intOf]; omega
        · obtain ⟨m, rfl⟩ : ∃ m, i = m + 1 := ⟨i - 1, by omega⟩
          have HP := Lib.hid (fun x hx => HPREV.out m rfl x hx)
          rw [show m + 1 - 1 = m from rfl] at HEr
          generalize iAt S m = y at *
          have z6 : IntKind.i64.wrap (m : Int) = (m : Int) := IntWalk.i64_in _ (by omega)
          have z2 : (0 : Int) ≤ (m : Int) := by omega
          have z3 : (m : Int) < ((S.length : Nat) : Int) := by omega
          have z4 : (0 : Int) < ((m + 1 : Nat) : Int) := by omega
          have z5 : (0 : Int) < (m : Int) + 1 := by omega
          have z7 : (0 : Int) ≤ (m : Int) + 1 := by omega
          have z8 : (m : Int) + 1 < ((S.length : Nat) : Int) := by omega
          by_cases hzy : z ≤ y
          · have HEr' : er = 9 := by rw [HEr.out, if_neg (by simp), if_pos ⟨by omega, hzy⟩]
            have c1 : decide (z ≤ y) = true := decide_eq_true hzy
            go_wp2
            have hk1 : Below wr.heap.size wr wr.drew := (Below.refl _ _).drew
            obtain ⟨_, f0, f1, f2⟩ := HS.out _ hk1
            have hk2 := hk1
            clear hk1
            go_region_held3 (fun x => Below wr.heap.size wr x ∧ x.cell? ⟨w.heap.size, 0, none⟩ = some (.int .i64 n) ∧ x.cell? ⟨w.heap.size, 1, none⟩ = some (.slice a l0 cap) ∧ x.cell? ⟨b1, o1 + (m + 1), none⟩ = some (.int .i64 z))
              (first | exact HS.out _ (by assumption) | exact HS.out _ (Below.drew (by assumption)))
              (first | (go_at_call 72; refine (HV2.out _).mono ?_; rintro e w2 ⟨rfl, hbz⟩; have hk3 := hk2.trans (hbz.mono hk2.size); clear hbz hk2; have hk2 := hk3; clear hk3))
            rename_i hHeldz
            clear hHeldz
            have hk4 := HBr.out.trans (hk2.mono HBr.out.size)
            have HB2 := Lib.hid hk4
            have y1 := HP.out _ hk4
            have x1' := HX1.out _ hk4
            clear hk2 hk4
            go_wp2
            go_quiet (fail)
            go_wp2
            go_ret
            exact ⟨by rw [HFI.out (by rw [HEr']; omega), HEr']; rfl, HB0.out.trans ((below_drewN HB2.out _).mono HB0.out.size)⟩
          · have HEr' : er = 0 := by rw [HEr.out, if_neg (by simp), if_neg (fun h => hzy h.2)]
            have c1 : decide (z ≤ y) = false := decide_eq_false hzy
            go_wp2
            have hk1 : Below wr.heap.size wr wr.drew := (Below.refl _ _).drew
            obtain ⟨_, f0, f1, f2⟩ := HS.out _ hk1
            have hk2 := hk1
            clear hk1
            go_region_held3 (fun x => Below wr.heap.size wr x ∧ x.cell? ⟨w.heap.size, 0, none⟩ = some (.int .i64 n) ∧ x.cell? ⟨w.heap.size, 1, none⟩ = some (.slice a l0 cap) ∧ x.cell? ⟨b1, o1 + (m + 1), none⟩ = some (.int .i64 z))
              (first | exact HS.out _ (by assumption) | exact HS.out _ (Below.drew (by assumption)))
              (first | (go_at_call 72; refine (HV2.out _).mono ?_; rintro e w2 ⟨rfl, hbz⟩; have hk3 := hk2.trans (hbz.mono hk2.size); clear hbz hk2; have hk2 := hk3; clear hk3))
            rename_i hHeldz
            clear hHeldz
            have hk4 := HBr.out.trans (hk2.mono HBr.out.size)
            have HB2 := Lib.hid hk4
            have y1 := HP.out _ hk4
            have x1' := HX1.out _ hk4
            clear hk2 hk4
            go_wp2
            go_quiet (fail)
            go_wp2
            go_roundw
            case rel => exact ⟨m + 1 + 1, by omega, by go_num, HNX.out HEr', below_drewN HB2.out _⟩
            case measure => simp [intOf]; omega
    · obtain rfl : i = S.length := by omega
      have HF : Hid (R = 0) := Lib.hid (by rw [HR.out]; exact firstE_zero hz)
      clear hb hz
      go_wp2
      go_ret
      exact ⟨by rw [HF.out]; rfl, HB0.out.trans (HBr.out.mono HB0.out.size)⟩
end Go.Proofs.Ytlnaahkheankoaa
