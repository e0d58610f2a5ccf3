/- The comparison of edges. -/
import Derived.Test.YtgejkgeojjgclaaGe
namespace Go.Proofs.Ytgejkgeojjgclaa
open Go.RowKit Go.Proofs.Gr

/-- An edge's value. -/
def ev (x : E) : Value := .agg #[.int .i64 x.a, .int .i64 x.b, .int .i64 x.m]
/-- The sign of the comparison of two edges. -/
def cmpE (x y : E) : Int := orZ (cmpZ x.a y.a) (cmpZ x.b y.b)
theorem cmpE_lt (x y : E) : cmpE x y < 0 ↔ ltE x y = true := by
  unfold cmpE orZ cmpZ
  simp only [ltE, Bool.or_eq_true, Bool.and_eq_true, decide_eq_true_eq]
  by_cases h1 : x.a < y.a
  · rw [if_pos h1, if_pos (by omega)]; omega
  · rw [if_neg h1]
    by_cases h2 : y.a < x.a
    · rw [if_pos h2, if_pos (by omega)]; omega
    · rw [if_neg h2, if_neg (by omega)]
      by_cases h3 : x.b < y.b
      · rw [if_pos h3]; omega
      · rw [if_neg h3]
        by_cases h4 : y.b < x.b
        · rw [if_pos h4]; omega
        · rw [if_neg h4]; omega
set_option maxHeartbeats 6400000 in
set_option maxRecDepth 100000 in
theorem compare_any (x y : E) (w : World) :
    Calls Try.prog 92 #[ev x, ev y] w (fun e w' => e = .returned (.int .i64 (cmpE x y)) ∧ ∃ o1 o2 o3, w' = (((w.alloc o1).alloc o2).alloc o3).drew) := by
  have HC := Lib.hid (fun x y w => cmpI_any x y w)
  have HO := Lib.hid (fun x y b c w h0 h1 => or_any x y b c w h0 h1)
  unfold ev
  obtain ⟨xa, xb, xm⟩ := x
  obtain ⟨ya, yb, ym⟩ := y
  have hE : Hid (cmpE ⟨xa, xb, xm⟩ ⟨ya, yb, ym⟩ = orZ (cmpZ xa ya) (cmpZ xb yb)) := Lib.hid rfl
  generalize cmpE ⟨xa, xb, xm⟩ ⟨ya, yb, ym⟩ = E0 at *
  generalize hc1 : cmpZ xa ya = c1 at *
  generalize hc2 : cmpZ xb yb = c2 at *
  have HC1 : Hid (∀ w, Calls Try.prog 100 #[.int .i64 xa, .int .i64 ya] w (fun e w' => e = .returned (.int .i64 c1) ∧ w = w')) := Lib.hid fun w => by rw [← hc1]; exact HC.out xa ya w
  have HC2 : Hid (∀ w, Calls Try.prog 100 #[.int .i64 xb, .int .i64 yb] w (fun e w' => e = .returned (.int .i64 c2) ∧ w = w')) := Lib.hid fun w => by rw [← hc2]; exact HC.out xb yb w
  clear HC hc1 hc2
  simp only
  obtain ⟨W, hW⟩ : ∃ W, W = (w.alloc (Obj.cells #[.int .i64 xa, .int .i64 xb, .int .i64 xm] 103)).alloc (Obj.cells #[.int .i64 ya, .int .i64 yb, .int .i64 ym] 103) := ⟨_, rfl⟩
  have hs : W.heap.size = w.heap.size + 1 + 1 := by rw [hW]; simp
  have hb1 : Blk W w.heap.size 103 #[.int .i64 xa, .int .i64 xb, .int .i64 xm] := by rw [hW]; exact (Blk.new _ _ _).alloc _
  have hb2 : Blk W (w.heap.size + 1) 103 #[.int .i64 ya, .int .i64 yb, .int .i64 ym] := by
    rw [hW]
    have := Blk.new (w.alloc (Obj.cells #[.int .i64 xa, .int .i64 xb, .int .i64 xm] 103)) 103 #[.int .i64 ya, .int .i64 yb, .int .i64 ym]
    rwa [World.size_alloc] at this
  have HW := Lib.hid hW
  have HB1 := Lib.hid hb1
  have HB2 := Lib.hid hb2
  have HSZ := Lib.hid hs
  have HS : Hid (∀ x, Below W.heap.size W x → (x.cell? ⟨w.heap.size, 0, none⟩ = some (.int .i64 xa) ∧ x.cell? ⟨w.heap.size, 1, none⟩ = some (.int .i64 xb) ∧ x.cell? ⟨w.heap.size + 1, 0, none⟩ = some (.int .i64 ya) ∧ x.cell? ⟨w.heap.size + 1, 1, none⟩ = some (.int .i64 yb))) := fun x hx => ⟨(HB1.out.below hx HB1.out.lt).cell 0, (HB1.out.below hx HB1.out.lt).cell 1, (HB2.out.below hx HB2.out.lt).cell 0, (HB2.out.below hx HB2.out.lt).cell 1⟩
  clear hs hb1 hb2 hW
  go_enter Try.func92, Try.ntmps92
  go_wp2
  rw [← HW.out]
  have hk2 : Below W.heap.size W W.drew := (Below.refl _ _).drew
  obtain ⟨f0, f1, f2, f3⟩ := HS.out _ hk2
  go_region_held3 (fun x => x.cell? ⟨w.heap.size, 0, none⟩ = some (.int .i64 xa) ∧ x.cell? ⟨w.heap.size, 1, none⟩ = some (.int .i64 xb) ∧ x.cell? ⟨w.heap.size + 1, 0, none⟩ = some (.int .i64 ya) ∧ x.cell? ⟨w.heap.size + 1, 1, none⟩ = some (.int .i64 yb))
    (first | exact HS.out _ (by assumption) | exact HS.out _ (Below.drew (by assumption)) | (refine HS.out _ ?_; exact Below.alloc hk2 hk2.size _))
    (first | (go_at_call 100; (first | (with_reducible refine (HC1.out _).mono ?_) | (with_reducible refine (HC2.out _).mono ?_)); rintro e wz ⟨rfl, rfl⟩) | (go_at_call 99; refine (HO.out c1 c2 W.heap.size 2 _ ((Blk.new W.drew 3 #[.int .i64 c1, .int .i64 c2]).cell 0) ((Blk.new W.drew 3 #[.int .i64 c1, .int .i64 c2]).cell 1)).mono ?_; rintro e wz ⟨rfl, rfl⟩))
  go_wp2
  go_ret
  exact ⟨by rw [hE.out]; rfl, _, _, _, by rw [HW.out]⟩
theorem compare_below (x y : E) (w : World) : Calls Try.prog 92 #[ev x, ev y] w (fun e w' => e = .returned (.int .i64 (cmpE x y)) ∧ Below w.heap.size w w') := by
  refine (compare_any x y w).mono ?_
  rintro e w' ⟨rfl, o1, o2, o3, rfl⟩
  exact ⟨rfl, ((((Below.refl _ w).alloc (Nat.le_refl _) o1).alloc (by simp) o2).alloc (by simp; omega) o3).drew⟩
end Go.Proofs.Ytgejkgeojjgclaa
