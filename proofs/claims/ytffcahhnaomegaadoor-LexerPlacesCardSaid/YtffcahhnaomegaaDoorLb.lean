/- Walks of the lexer's leaves: runs of letters and digits, the readers of one token. -/
import Derived.Test.YtffcahhnaomegaaDoorProg
import Derived.Test.YtffcahhnaomegaaDoorLa
import Derived.WalkKit
import Derived.Lib.Hide
import Derived.IntWalk
import Derived.Below
import Derived.Deep.QuietTactic
import Derived.BigQuiet
namespace Go.Proofs.YtffcahhnaomegaaDoor
open Go.RowKit Go.Proofs.Lx

theorem let_yes (c : UInt8) (h : isLet c = true) (w : World) : Calls Tryd.prog 45 #[.int .u8 c.toNat] w (fun e w' => e = .returned (.bool true) ∧ w = w') := by
  simp only [isLet, Bool.and_eq_true, decide_eq_true_eq] at h
  have h1 : (97 : Int) ≤ (c.toNat : Int) := by omega
  have h2 : (c.toNat : Int) ≤ 122 := by omega
  clear h
  go_enter Tryd.func45, Tryd.ntmps45
  go_wp2
  go_ret
  exact ⟨rfl, rfl⟩
theorem let_no (c : UInt8) (h : isLet c = false) (w : World) : Calls Tryd.prog 45 #[.int .u8 c.toNat] w (fun e w' => e = .returned (.bool false) ∧ w = w') := by
  have h0 : (c.toNat : Int) < 97 ∨ 97 ≤ (c.toNat : Int) ∧ 122 < (c.toNat : Int) := by
    simp only [isLet, Bool.and_eq_false_iff, decide_eq_false_iff_not] at h
    omega
  clear h
  rcases h0 with h1 | ⟨h1, h2⟩
  · go_enter Tryd.func45, Tryd.ntmps45
    go_wp2
    go_ret
    exact ⟨rfl, rfl⟩
  · have h3 : decide ((c.toNat : Int) ≤ 122) = false := decide_eq_false (by omega)
    clear h2
    go_enter Tryd.func45, Tryd.ntmps45
    go_wp2
    go_ret
    exact ⟨rfl, rfl⟩
theorem dig_yes (c : UInt8) (h : isDig c = true) (w : World) : Calls Tryd.prog 46 #[.int .u8 c.toNat] w (fun e w' => e = .returned (.bool true) ∧ w = w') := by
  simp only [isDig, Bool.and_eq_true, decide_eq_true_eq] at h
  have h1 : (48 : Int) ≤ (c.toNat : Int) := by omega
  have h2 : (c.toNat : Int) ≤ 57 := by omega
  clear h
  go_enter Tryd.func46, Tryd.ntmps46
  go_wp2
  go_ret
  exact ⟨rfl, rfl⟩
theorem dig_no (c : UInt8) (h : isDig c = false) (w : World) : Calls Tryd.prog 46 #[.int .u8 c.toNat] w (fun e w' => e = .returned (.bool false) ∧ w = w') := by
  have h0 : (c.toNat : Int) < 48 ∨ 48 ≤ (c.toNat : Int) ∧ 57 < (c.toNat : Int) := by
    simp only [isDig, Bool.and_eq_false_iff, decide_eq_false_iff_not] at h
    omega
  clear h
  rcases h0 with h1 | ⟨h1, h2⟩
  · go_enter Tryd.func46, Tryd.ntmps46
    go_wp2
    go_ret
    exact ⟨rfl, rfl⟩
  · have h3 : decide ((c.toNat : Int) ≤ 57) = false := decide_eq_false (by omega)
    clear h2
    go_enter Tryd.func46, Tryd.ntmps46
    go_wp2
    go_ret
    exact ⟨rfl, rfl⟩

/-- The list of a text. -/
abbrev bl (s : ByteArray) : List UInt8 := s.data.toList

set_option maxHeartbeats 3200000 in
set_option maxRecDepth 100000 in
theorem runEnd_let (s : ByteArray) (k : Nat) (hk : k ≤ s.size) (hs : s.size ≤ 4611686018427387904) (w : World) :
    Calls Tryd.prog 44 #[.string s, .int .i64 (k : Nat), (.func (.func 45) #[] #[])] w (fun e w' => e = .returned (.int .i64 (runTo isLet (bl s) k : Nat)) ∧ w = w') := by
  go_enter Tryd.func44, Tryd.ntmps44
  go_wp2
  go_loop [1] (fun v => ∃ j : Nat, j ≤ s.size ∧ v = .int .i64 j ∧ Hid (runTo isLet (bl s) j = runTo isLet (bl s) k)) (fun v => s.size - (intOf v).toNat)
  case atStart => exact ⟨k, hk, rfl, Lib.hid rfl⟩
  case round =>
    obtain ⟨j, hj, rfl, HE⟩ := hrel
    by_cases hlt : j < s.size
    · have hl : j < (bl s).length := by simpa using hlt
      rcases hc : isLet s[j] with _ | _
      · have HC := Lib.hid (fun w => let_no s[j] hc w)
        have HN := Lib.hid (runTo_no (p := isLet) hl hc)
        clear hc
        go_wp2_with fail
        refine (HC.out _).mono ?_
        rintro e w1 ⟨rfl, rfl⟩
        go_wp2
        go_ret
        exact ⟨by show Ending.returned (.int .i64 ((j : Nat) : Int)) = _; rw [← HE.out, HN.out], rfl⟩
      · have HC := Lib.hid (fun w => let_yes s[j] hc w)
        have HN := Lib.hid (runTo_yes (p := isLet) hl hc)
        clear hc
        go_wp2_with fail
        refine (HC.out _).mono ?_
        rintro e w1 ⟨rfl, rfl⟩
        go_wp2
        go_round
        case rel => exact ⟨j + 1, by omega, by go_num, Lib.hid (by rw [← HE.out, HN.out])⟩
        case measure => simp [intOf]; omega
    · have HN := Lib.hid (runTo_end (p := isLet) (l := bl s) (k := j) (by simp; omega))
      go_wp2
      go_ret
      exact ⟨by show Ending.returned (.int .i64 ((j : Nat) : Int)) = _; rw [← HE.out, HN.out], rfl⟩

set_option maxHeartbeats 3200000 in
set_option maxRecDepth 100000 in
theorem runEnd_dig (s : ByteArray) (k : Nat) (hk : k ≤ s.size) (hs : s.size ≤ 4611686018427387904) (w : World) :
    Calls Tryd.prog 44 #[.string s, .int .i64 (k : Nat), (.func (.func 46) #[] #[])] w (fun e w' => e = .returned (.int .i64 (runTo isDig (bl s) k : Nat)) ∧ w = w') := by
  go_enter Tryd.func44, Tryd.ntmps44
  go_wp2
  go_loop [1] (fun v => ∃ j : Nat, j ≤ s.size ∧ v = .int .i64 j ∧ Hid (runTo isDig (bl s) j = runTo isDig (bl s) k)) (fun v => s.size - (intOf v).toNat)
  case atStart => exact ⟨k, hk, rfl, Lib.hid rfl⟩
  case round =>
    obtain ⟨j, hj, rfl, HE⟩ := hrel
    by_cases hlt : j < s.size
    · have hl : j < (bl s).length := by simpa using hlt
      rcases hc : isDig s[j] with _ | _
      · have HC := Lib.hid (fun w => dig_no s[j] hc w)
        have HN := Lib.hid (runTo_no (p := isDig) hl hc)
        clear hc
        go_wp2_with fail
        refine (HC.out _).mono ?_
        rintro e w1 ⟨rfl, rfl⟩
        go_wp2
        go_ret
        exact ⟨by show Ending.returned (.int .i64 ((j : Nat) : Int)) = _; rw [← HE.out, HN.out], rfl⟩
      · have HC := Lib.hid (fun w => dig_yes s[j] hc w)
        have HN := Lib.hid (runTo_yes (p := isDig) hl hc)
        clear hc
        go_wp2_with fail
        refine (HC.out _).mono ?_
        rintro e w1 ⟨rfl, rfl⟩
        go_wp2
        go_round
        case rel => exact ⟨j + 1, by omega, by go_num, Lib.hid (by rw [← HE.out, HN.out])⟩
        case measure => simp [intOf]; omega
    · have HN := Lib.hid (runTo_end (p := isDig) (l := bl s) (k := j) (by simp; omega))
      go_wp2
      go_ret
      exact ⟨by show Ending.returned (.int .i64 ((j : Nat) : Int)) = _; rw [← HE.out, HN.out], rfl⟩

theorem readNothing_any (s : ByteArray) (k : Int) (w : World) : Calls Tryd.prog 27 #[.string s, .int .i64 k] w (fun e w' => e = .returned (.tuple #[.int .i64 0, .int .i64 4]) ∧ w = w') := by
  go_enter Tryd.func27, Tryd.ntmps27
  go_wp2
  go_ret2
  exact ⟨rfl, rfl⟩
theorem readOne_any (s : ByteArray) (k : Nat) (hk : k ≤ 4611686018427387904) (w : World) : Calls Tryd.prog 30 #[.string s, .int .i64 (k : Nat)] w (fun e w' => e = .returned (.tuple #[.int .i64 ((k + 1 : Nat) : Int), .int .i64 0]) ∧ w = w') := by
  go_enter Tryd.func30, Tryd.ntmps30
  go_wp2
  go_ret2
  exact ⟨rfl, rfl⟩
end Go.Proofs.YtffcahhnaomegaaDoor
