/- The reference's sorts of brackets: sort, Opens, Closes. -/
import Derived.Test.YtffcahhnaomegaaMe
namespace Go.Proofs.Ytffcahhnaomegaa
open Go.RowKit Go.Proofs.Lx

def sortF (t : Tk) (x y z : UInt8) : Nat := if t.kind = 2 then (if t.text = [x] then 1 else if t.text = [y] then 2 else if t.text = [z] then 3 else 0) else 0

set_option maxHeartbeats 3200000 in
set_option maxRecDepth 100000 in
theorem sort_any (T : Tk) (x y z : UInt8) (hxy : x ≠ y) (hxz : x ≠ z) (hyz : y ≠ z) (w : World) :
    Calls Try.prog 41 #[.agg #[.int .i64 T.kind, .string (bt T.text), .int .i64 T.pos], .string ⟨#[x]⟩, .string ⟨#[y]⟩, .string ⟨#[z]⟩] w (fun e w' => e = .returned (.int .i64 (sortF T x y z : Nat)) ∧ Below w.heap.size w w') := by
  obtain ⟨kind, X, pos⟩ := T
  simp only
  have h1 : ((bt X).toList == (⟨#[x]⟩ : ByteArray).toList) = decide (X = [x]) := by rw [show (⟨#[x]⟩ : ByteArray).toList = [x] from ByteArray.toList_eq _]; exact str_is X [x]
  have h2 : ((bt X).toList == (⟨#[y]⟩ : ByteArray).toList) = decide (X = [y]) := by rw [show (⟨#[y]⟩ : ByteArray).toList = [y] from ByteArray.toList_eq _]; exact str_is X [y]
  have h3 : ((bt X).toList == (⟨#[z]⟩ : ByteArray).toList) = decide (X = [z]) := by rw [show (⟨#[z]⟩ : ByteArray).toList = [z] from ByteArray.toList_eq _]; exact str_is X [z]
  by_cases h0 : kind = 2
  · subst h0
    by_cases c1 : X = [x]
    · have HO : Hid (sortF ⟨2, X, pos⟩ x y z = 1) := Lib.hid (by simp [sortF, c1])
      rw [HO.out]
      rw [decide_eq_true c1] at h1
      clear c1 h2 h3 hxy hxz hyz
      generalize bt X = s at *
      generalize (⟨#[x]⟩ : ByteArray) = t1 at *
      generalize (⟨#[y]⟩ : ByteArray) = t2 at *
      generalize (⟨#[z]⟩ : ByteArray) = t3 at *
      go_enter Try.func41, Try.ntmps41
      go_wp2
      go_ret
      exact ⟨rfl, (Below.refl _ _).alloc (Nat.le_refl _) _⟩
    rw [decide_eq_false c1] at h1
    by_cases c2 : X = [y]
    · have HO : Hid (sortF ⟨2, X, pos⟩ x y z = 2) := Lib.hid (by simp [sortF, c2, Ne.symm hxy])
      rw [HO.out]
      rw [decide_eq_true c2] at h2
      clear c1 c2 h3 hxy hxz hyz
      generalize bt X = s at *
      generalize (⟨#[x]⟩ : ByteArray) = t1 at *
      generalize (⟨#[y]⟩ : ByteArray) = t2 at *
      generalize (⟨#[z]⟩ : ByteArray) = t3 at *
      go_enter Try.func41, Try.ntmps41
      go_wp2
      go_ret
      exact ⟨rfl, (Below.refl _ _).alloc (Nat.le_refl _) _⟩
    rw [decide_eq_false c2] at h2
    by_cases c3 : X = [z]
    · have HO : Hid (sortF ⟨2, X, pos⟩ x y z = 3) := Lib.hid (by simp [sortF, c3, Ne.symm hxz, Ne.symm hyz])
      rw [HO.out]
      rw [decide_eq_true c3] at h3
      clear c1 c2 c3 hxy hxz hyz
      generalize bt X = s at *
      generalize (⟨#[x]⟩ : ByteArray) = t1 at *
      generalize (⟨#[y]⟩ : ByteArray) = t2 at *
      generalize (⟨#[z]⟩ : ByteArray) = t3 at *
      go_enter Try.func41, Try.ntmps41
      go_wp2
      go_ret
      exact ⟨rfl, (Below.refl _ _).alloc (Nat.le_refl _) _⟩
    rw [decide_eq_false c3] at h3
    have HO : Hid (sortF ⟨2, X, pos⟩ x y z = 0) := Lib.hid (by simp [sortF, c1, c2, c3])
    rw [HO.out]
    clear c1 c2 c3 hxy hxz hyz
    generalize bt X = s at *
    generalize (⟨#[x]⟩ : ByteArray) = t1 at *
    generalize (⟨#[y]⟩ : ByteArray) = t2 at *
    generalize (⟨#[z]⟩ : ByteArray) = t3 at *
    go_enter Try.func41, Try.ntmps41
    go_wp2
    go_ret
    exact ⟨rfl, (Below.refl _ _).alloc (Nat.le_refl _) _⟩
  · have HO : Hid (sortF ⟨kind, X, pos⟩ x y z = 0) := Lib.hid (by simp [sortF, h0])
    rw [HO.out]
    have q0 : (kind != 2) = true := by rw [bne_iff_ne]; exact h0
    clear h0 h1 h2 h3 hxy hxz hyz
    generalize bt X = s at *
    generalize (⟨#[x]⟩ : ByteArray) = t1 at *
    generalize (⟨#[y]⟩ : ByteArray) = t2 at *
    generalize (⟨#[z]⟩ : ByteArray) = t3 at *
    go_enter Try.func41, Try.ntmps41
    go_wp2
    go_ret
    exact ⟨rfl, (Below.refl _ _).alloc (Nat.le_refl _) _⟩

set_option maxHeartbeats 3200000 in
set_option maxRecDepth 100000 in
theorem opens_any (T : Tk) (w : World) :
    Calls Try.prog 24 #[.agg #[.int .i64 T.kind, .string (bt T.text), .int .i64 T.pos]] w (fun e w' => e = .returned (.int .i64 (opI T : Nat)) ∧ Below w.heap.size w w') := by
  have HS : Hid (∀ w, Calls Try.prog 41 #[.agg #[.int .i64 T.kind, .string (bt T.text), .int .i64 T.pos], .string ⟨#[40]⟩, .string ⟨#[91]⟩, .string ⟨#[123]⟩] w (fun e w' => e = .returned (.int .i64 (opI T : Nat)) ∧ Below w.heap.size w w')) := Lib.hid (fun w => sort_any T 40 91 123 (by decide) (by decide) (by decide) w)
  generalize bt T.text = s at *
  generalize opI T = o at *
  generalize T.kind = k at *
  generalize T.pos = p at *
  go_enter Try.func24, Try.ntmps24
  go_wp2_with fail
  refine (HS.out _).mono ?_
  rintro e w1 ⟨rfl, hb⟩
  go_wp2
  go_ret
  exact ⟨rfl, ((Below.refl _ _).alloc (Nat.le_refl _) _).trans (hb.mono (by rw [World.size_alloc]; omega))⟩
set_option maxHeartbeats 3200000 in
set_option maxRecDepth 100000 in
theorem closes_any (T : Tk) (w : World) :
    Calls Try.prog 25 #[.agg #[.int .i64 T.kind, .string (bt T.text), .int .i64 T.pos]] w (fun e w' => e = .returned (.int .i64 (clI T : Nat)) ∧ Below w.heap.size w w') := by
  have HS : Hid (∀ w, Calls Try.prog 41 #[.agg #[.int .i64 T.kind, .string (bt T.text), .int .i64 T.pos], .string ⟨#[41]⟩, .string ⟨#[93]⟩, .string ⟨#[125]⟩] w (fun e w' => e = .returned (.int .i64 (clI T : Nat)) ∧ Below w.heap.size w w')) := Lib.hid (fun w => sort_any T 41 93 125 (by decide) (by decide) (by decide) w)
  generalize bt T.text = s at *
  generalize clI T = o at *
  generalize T.kind = k at *
  generalize T.pos = p at *
  go_enter Try.func25, Try.ntmps25
  go_wp2_with fail
  refine (HS.out _).mono ?_
  rintro e w1 ⟨rfl, hb⟩
  go_wp2
  go_ret
  exact ⟨rfl, ((Below.refl _ _).alloc (Nat.le_refl _) _).trans (hb.mono (by rw [World.size_alloc]; omega))⟩
end Go.Proofs.Ytffcahhnaomegaa
