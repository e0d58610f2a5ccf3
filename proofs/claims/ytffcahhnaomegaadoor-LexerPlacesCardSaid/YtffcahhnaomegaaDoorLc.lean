/- Walks of the lexer's readers of words and numbers. -/
import Derived.Test.YtffcahhnaomegaaDoorLb
namespace Go.Proofs.YtffcahhnaomegaaDoor
open Go.RowKit Go.Proofs.Lx

theorem runTo_le' (p : UInt8 → Bool) (s : ByteArray) (k : Nat) (hk : k ≤ s.size) : runTo p (bl s) k ≤ s.size := by
  have := runTo_le p (bl s) k (by simpa using hk)
  simpa using this

set_option maxHeartbeats 3200000 in
set_option maxRecDepth 100000 in
theorem readWord_long (s : ByteArray) (k : Nat) (hk : k ≤ s.size) (hs : s.size ≤ 4611686018427387904) (hl : 24 < runTo isLet (bl s) k - k) (w : World) :
    Calls Tryd.prog 28 #[.string s, .int .i64 (k : Nat)] w (fun e w' => e = .returned (.tuple #[.int .i64 0, .int .i64 19]) ∧ w = w') := by
  have H := Lib.hid (fun w => runEnd_let s k hk hs w)
  have h1 := runTo_le' isLet s k hk
  have h2 := runTo_ge isLet (bl s) k
  generalize runTo isLet (bl s) k = m at *
  have h3 : decide (24 < (m : Int) - (k : Int)) = true := decide_eq_true (by omega)
  go_enter Tryd.func28, Tryd.ntmps28
  go_wp2_with fail
  refine (H.out _).mono ?_
  rintro e w1 ⟨rfl, rfl⟩
  go_wp2
  go_ret2
  exact ⟨rfl, rfl⟩
set_option maxHeartbeats 3200000 in
set_option maxRecDepth 100000 in
theorem readWord_ok (s : ByteArray) (k : Nat) (hk : k ≤ s.size) (hs : s.size ≤ 4611686018427387904) (hl : runTo isLet (bl s) k - k ≤ 24) (w : World) :
    Calls Tryd.prog 28 #[.string s, .int .i64 (k : Nat)] w (fun e w' => e = .returned (.tuple #[.int .i64 (runTo isLet (bl s) k : Nat), .int .i64 0]) ∧ w = w') := by
  have H := Lib.hid (fun w => runEnd_let s k hk hs w)
  have h1 := runTo_le' isLet s k hk
  have h2 := runTo_ge isLet (bl s) k
  generalize runTo isLet (bl s) k = m at *
  have h3 : decide (24 < (m : Int) - (k : Int)) = false := decide_eq_false (by omega)
  go_enter Tryd.func28, Tryd.ntmps28
  go_wp2_with fail
  refine (H.out _).mono ?_
  rintro e w1 ⟨rfl, rfl⟩
  go_wp2
  go_ret2
  exact ⟨rfl, rfl⟩

set_option maxHeartbeats 3200000 in
set_option maxRecDepth 100000 in
theorem readNumber_long (s : ByteArray) (k : Nat) (hk : k < s.size) (hs : s.size ≤ 4611686018427387904) (hl : 1024 < runTo isDig (bl s) k - k) (w : World) :
    Calls Tryd.prog 29 #[.string s, .int .i64 (k : Nat)] w (fun e w' => e = .returned (.tuple #[.int .i64 0, .int .i64 11]) ∧ w = w') := by
  have H := Lib.hid (fun w => runEnd_dig s k (by omega) hs w)
  have h1 := runTo_le' isDig s k (by omega)
  have h2 := runTo_ge isDig (bl s) k
  generalize runTo isDig (bl s) k = m at *
  have h3 : decide (1024 < (m : Int) - (k : Int)) = true := decide_eq_true (by omega)
  go_enter Tryd.func29, Tryd.ntmps29
  go_wp2_with fail
  refine (H.out _).mono ?_
  rintro e w1 ⟨rfl, rfl⟩
  go_wp2
  go_ret2
  exact ⟨rfl, rfl⟩
set_option maxHeartbeats 3200000 in
set_option maxRecDepth 100000 in
theorem readNumber_form (s : ByteArray) (k : Nat) (hk : k < s.size) (hs : s.size ≤ 4611686018427387904) (hl : runTo isDig (bl s) k - k ≤ 1024) (h0 : s[k] = 48) (hl2 : 1 < runTo isDig (bl s) k - k) (w : World) :
    Calls Tryd.prog 29 #[.string s, .int .i64 (k : Nat)] w (fun e w' => e = .returned (.tuple #[.int .i64 0, .int .i64 3]) ∧ w = w') := by
  have H := Lib.hid (fun w => runEnd_dig s k (by omega) hs w)
  have h1 := runTo_le' isDig s k (by omega)
  have h2 := runTo_ge isDig (bl s) k
  generalize runTo isDig (bl s) k = m at *
  have h3 : decide (1024 < (m : Int) - (k : Int)) = false := decide_eq_false (by omega)
  have h4 : decide (1 < (m : Int) - (k : Int)) = true := decide_eq_true (by omega)
  have h5 : (((s[k]).toNat : Int) == 48) = true := by rw [h0]; rfl
  clear h0 hl hl2
  go_enter Tryd.func29, Tryd.ntmps29
  go_wp2_with fail
  refine (H.out _).mono ?_
  rintro e w1 ⟨rfl, rfl⟩
  go_wp2
  go_ret2
  exact ⟨rfl, rfl⟩
set_option maxHeartbeats 3200000 in
set_option maxRecDepth 100000 in
theorem readNumber_ok (s : ByteArray) (k : Nat) (hk : k < s.size) (hs : s.size ≤ 4611686018427387904) (hl : runTo isDig (bl s) k - k ≤ 1024) (h0 : s[k] ≠ 48 ∨ runTo isDig (bl s) k - k ≤ 1) (w : World) :
    Calls Tryd.prog 29 #[.string s, .int .i64 (k : Nat)] w (fun e w' => e = .returned (.tuple #[.int .i64 (runTo isDig (bl s) k : Nat), .int .i64 0]) ∧ w = w') := by
  have H := Lib.hid (fun w => runEnd_dig s k (by omega) hs w)
  have h1 := runTo_le' isDig s k (by omega)
  have h2 := runTo_ge isDig (bl s) k
  generalize runTo isDig (bl s) k = m at *
  have h3 : decide (1024 < (m : Int) - (k : Int)) = false := decide_eq_false (by omega)
  by_cases h4 : s[k] = 48
  · have h5 : (((s[k]).toNat : Int) == 48) = true := by rw [h4]; rfl
    have h6 : decide (1 < (m : Int) - (k : Int)) = false := decide_eq_false (by rcases h0 with h0 | h0; exact absurd h4 h0; omega)
    clear h0 hl h4
    go_enter Tryd.func29, Tryd.ntmps29
    go_wp2_with fail
    refine (H.out _).mono ?_
    rintro e w1 ⟨rfl, rfl⟩
    go_wp2
    go_ret2
    exact ⟨rfl, rfl⟩
  · have h5 : (((s[k]).toNat : Int) == 48) = false := by
      rw [beq_eq_false_iff_ne]
      intro h
      exact h4 (UInt8.toNat_inj.1 (by show s[k].toNat = 48; omega))
    clear h0 hl h4
    go_enter Tryd.func29, Tryd.ntmps29
    go_wp2_with fail
    refine (H.out _).mono ?_
    rintro e w1 ⟨rfl, rfl⟩
    go_wp2
    go_ret2
    exact ⟨rfl, rfl⟩
end Go.Proofs.YtffcahhnaomegaaDoor
