/- Walks of the laws of fractions: the reference's lists of products. -/
import Derived.Test.YtolkiimlchfmlaaGreatDoorGb
namespace Go.Proofs.YtolkiimlchfmlaaGreatDoor
open Go.RowKit Go.Proofs.Num

set_option maxHeartbeats 3200000 in
set_option maxRecDepth 100000 in
theorem rlong1 (p c : Nat) (X : ByteArray) (HX : Hid (∀ w, Calls Tryz.prog 55 #[.string X] w fun e w' => e = .returned (.int .i64 0) ∧ w = w')) (w : World) (h0 : w.cell? ⟨p, 0, none⟩ = some (.string X)) :
    Calls Tryz.prog 68 #[.slice (some ⟨p, 0, none⟩) 1 c] w fun e w' => e = .returned (.bool false) ∧ w = w' := by
  go_enter Tryz.func68, Tryz.ntmps68
  go_wp2
  refine wp_loop_rounds 2 ?_
  rw [rounds_succ]
  go_wp2_with fail
  refine (HX.out _).mono ?_
  rintro en w1 ⟨rfl, rfl⟩
  go_wp2
  rw [rounds_succ]
  go_wp2
  go_ret
  exact ⟨rfl, rfl⟩

set_option maxHeartbeats 3200000 in
set_option maxRecDepth 100000 in
theorem rlong2 (p c : Nat) (X Y : ByteArray) (HX : Hid (∀ w, Calls Tryz.prog 55 #[.string X] w fun e w' => e = .returned (.int .i64 0) ∧ w = w')) (HY : Hid (∀ w, Calls Tryz.prog 55 #[.string Y] w fun e w' => e = .returned (.int .i64 0) ∧ w = w')) (w : World) (h0 : w.cell? ⟨p, 0, none⟩ = some (.string X)) (h1 : w.cell? ⟨p, 1, none⟩ = some (.string Y)) :
    Calls Tryz.prog 68 #[.slice (some ⟨p, 0, none⟩) 2 c] w fun e w' => e = .returned (.bool false) ∧ w = w' := by
  go_enter Tryz.func68, Tryz.ntmps68
  go_wp2
  refine wp_loop_rounds 3 ?_
  rw [rounds_succ]
  go_wp2_with fail
  refine (HX.out _).mono ?_
  rintro en w1 ⟨rfl, rfl⟩
  go_wp2
  rw [rounds_succ]
  go_wp2_with fail
  refine (HY.out _).mono ?_
  rintro en w1 ⟨rfl, rfl⟩
  go_wp2
  rw [rounds_succ]
  go_wp2
  go_ret
  exact ⟨rfl, rfl⟩

set_option maxHeartbeats 3200000 in
set_option maxRecDepth 100000 in
theorem rlong3 (p c : Nat) (X Y Z : ByteArray) (HX : Hid (∀ w, Calls Tryz.prog 55 #[.string X] w fun e w' => e = .returned (.int .i64 0) ∧ w = w')) (HY : Hid (∀ w, Calls Tryz.prog 55 #[.string Y] w fun e w' => e = .returned (.int .i64 0) ∧ w = w')) (HZ : Hid (∀ w, Calls Tryz.prog 55 #[.string Z] w fun e w' => e = .returned (.int .i64 0) ∧ w = w')) (w : World) (h0 : w.cell? ⟨p, 0, none⟩ = some (.string X)) (h1 : w.cell? ⟨p, 1, none⟩ = some (.string Y)) (h2 : w.cell? ⟨p, 2, none⟩ = some (.string Z)) :
    Calls Tryz.prog 68 #[.slice (some ⟨p, 0, none⟩) 3 c] w fun e w' => e = .returned (.bool false) ∧ w = w' := by
  go_enter Tryz.func68, Tryz.ntmps68
  go_wp2
  refine wp_loop_rounds 4 ?_
  rw [rounds_succ]
  go_wp2_with fail
  refine (HX.out _).mono ?_
  rintro en w1 ⟨rfl, rfl⟩
  go_wp2
  rw [rounds_succ]
  go_wp2_with fail
  refine (HY.out _).mono ?_
  rintro en w1 ⟨rfl, rfl⟩
  go_wp2
  rw [rounds_succ]
  go_wp2_with fail
  refine (HZ.out _).mono ?_
  rintro en w1 ⟨rfl, rfl⟩
  go_wp2
  rw [rounds_succ]
  go_wp2
  go_ret
  exact ⟨rfl, rfl⟩

/-- A slice of three texts, made behind w. -/
def Row3 (w : World) (X Y Z : ByteArray) (e : Ending) (w' : World) : Prop :=
  ∃ p, e = .returned (.slice (some ⟨p, 0, none⟩) 3 3) ∧ w.heap.size ≤ p ∧ w'.heap[p]? = some (.cells #[.string X, .string Y, .string Z] 22 (0, 0)) ∧ Below w.heap.size w w'

set_option maxHeartbeats 3200000 in
set_option maxRecDepth 100000 in
theorem rfcrossed (s r s' r' X Y Z : ByteArray) (HT1 : Hid (∀ w, Calls Tryz.prog 78 #[.string s, .string r'] w (OutR w X))) (HT2 : Hid (∀ w, Calls Tryz.prog 78 #[.string s', .string r] w (OutR w Y))) (HT3 : Hid (∀ w, Calls Tryz.prog 78 #[.string r, .string r'] w (OutR w Z))) (w : World) :
    Calls Tryz.prog 67 #[FrV s r, FrV s' r'] w (Row3 w X Y Z) := by
  unfold OutR at *
  unfold FrV Row3 at *
  obtain ⟨W, hW, hA, hB, hBl, hsz⟩ := box2T 24 w (.string s) (.string r) (.string s') (.string r')
  have hK : Below W.heap.size W W := Below.refl _ _
  have HS : Hid (∀ x, Below W.heap.size W x → (Below W.heap.size W x ∧ x.cell? ⟨w.heap.size, 0, none⟩ = some (.string s) ∧ x.cell? ⟨w.heap.size, 1, none⟩ = some (.string r) ∧ x.cell? ⟨w.heap.size + 1, 0, none⟩ = some (.string s') ∧ x.cell? ⟨w.heap.size + 1, 1, none⟩ = some (.string r'))) := fun x hx => ⟨hx, (hA.keep hx).c0, (hA.keep hx).c1, (hB.keep hx).c0, (hB.keep hx).c1⟩
  have HW := Lib.hid hW
  have HZ := Lib.hid hsz
  have HBL := Lib.hid hBl
  obtain ⟨_, x0, x1, x2, x3⟩ := HS.out _ hK
  rw [hW] at x0 x1 x2 x3
  clear hA hB hW hsz hBl
  go_enter Tryz.func67, Tryz.ntmps67
  go_wp2
  rw [← HW.out]
  clear x0 x1 x2 x3
  have hk2 := hK.drew
  clear hK
  obtain ⟨_, d0, d1, d2, d3⟩ := HS.out _ hk2
  go_region_held3 (fun x => Below W.heap.size W x ∧ x.cell? ⟨w.heap.size, 0, none⟩ = some (.string s) ∧ x.cell? ⟨w.heap.size, 1, none⟩ = some (.string r) ∧ x.cell? ⟨w.heap.size + 1, 0, none⟩ = some (.string s') ∧ x.cell? ⟨w.heap.size + 1, 1, none⟩ = some (.string r'))
    (first | exact HS.out _ (by assumption) | exact HS.out _ (Below.drew (by assumption)) | (refine HS.out _ ?_; exact Below.alloc hk2 hk2.size _))
    (first | (go_at_call 78; (first | (with_reducible refine (HT1.out _).mono ?_) | (with_reducible refine (HT2.out _).mono ?_) | (with_reducible refine (HT3.out _).mono ?_)); rintro e wz ⟨rfl, hbz⟩; have hk3 := hk2.trans (hbz.mono hk2.size); clear hbz hk2; have hk2 := hk3; clear hk3; obtain ⟨_, g0, g1, g2, g3⟩ := HS.out _ hk2))
  go_wp2
  go_ret
  have hfin := HBL.out.trans (hk2.mono HBL.out.size)
  exact ⟨_, rfl, hfin.size, heap_alloc_new _ _, hfin.alloc hfin.size _⟩

end Go.Proofs.YtolkiimlchfmlaaGreatDoor
