/- Walks of the reference: words, numbers, runs. -/
import Derived.Test.YtffcahhnaomegaaLg
namespace Go.Proofs.Ytffcahhnaomegaa
open Go.RowKit Go.Proofs.Lx
/-- The error of a word. -/
def wordE (l : List UInt8) : Nat := if allB isLet l then (if 24 < l.length then 19 else 0) else 3
/-- The error of the digits of a number. -/
def numE (l : List UInt8) : Nat := if allB isDig l then (if 1024 < l.length then 11 else if 1 < l.length ∧ l[0]? = some 48 then 3 else 0) else 3

set_option maxHeartbeats 3200000 in
set_option maxRecDepth 100000 in
theorem rword_any (s : ByteArray) (hs : s.size ≤ 4611686018427387904) (w : World) :
    Calls Try.prog 51 #[.string s] w (fun e w' => e = .returned (.int .i64 (wordE (bl s) : Nat)) ∧ w = w') := by
  have H := Lib.hid (fun w => letters_any s hs w)
  have hE : Hid (wordE (bl s) = if allB isLet (bl s) then (if 24 < s.size then 19 else 0) else 3) := Lib.hid (by unfold wordE; simp)
  generalize wordE (bl s) = E at *
  rcases hq : allB isLet (bl s) with _ | _
  · rw [hq] at H hE
    have hE' : Hid (E = 3) := Lib.hid (by rw [hE.out]; rfl)
    clear hE hq
    go_enter Try.func51, Try.ntmps51
    go_wp2_with fail
    refine (H.out _).mono ?_
    rintro e w1 ⟨rfl, rfl⟩
    go_wp2
    go_ret
    exact ⟨by rw [hE'.out]; rfl, rfl⟩
  · rw [hq] at H hE
    by_cases h24 : 24 < s.size
    · have hE' : Hid (E = 19) := Lib.hid (by rw [hE.out, if_pos rfl, if_pos h24])
      have hd : decide (24 < (s.size : Int)) = true := decide_eq_true (by omega)
      clear hE hq h24
      go_enter Try.func51, Try.ntmps51
      go_wp2_with fail
      refine (H.out _).mono ?_
      rintro e w1 ⟨rfl, rfl⟩
      go_wp2
      go_ret
      exact ⟨by rw [hE'.out]; rfl, rfl⟩
    · have hE' : Hid (E = 0) := Lib.hid (by rw [hE.out, if_pos rfl, if_neg h24])
      have hd : decide (24 < (s.size : Int)) = false := decide_eq_false (by omega)
      clear hE hq h24
      go_enter Try.func51, Try.ntmps51
      go_wp2_with fail
      refine (H.out _).mono ?_
      rintro e w1 ⟨rfl, rfl⟩
      go_wp2
      go_ret
      exact ⟨by rw [hE'.out]; rfl, rfl⟩

theorem head_48 (s : ByteArray) (h : 0 < s.size) : ((bl s)[0]? = some 48) ↔ ((s[0].toNat : Int) == 48) = true := by
  have hl : 0 < (bl s).length := by simpa using h
  rw [List.getElem?_eq_getElem hl, Option.some_inj, beq_iff_eq]
  constructor
  · intro e
    have : s[0] = 48 := e
    rw [this]; rfl
  · intro e
    exact UInt8.toNat_inj.1 (by show s[0].toNat = 48; omega)

set_option maxHeartbeats 3200000 in
set_option maxRecDepth 100000 in
theorem rnum_any (s : ByteArray) (hs : s.size ≤ 4611686018427387904) (w : World) :
    Calls Try.prog 53 #[.string s] w (fun e w' => e = .returned (.int .i64 (numE (bl s) : Nat)) ∧ w = w') := by
  have H := Lib.hid (fun w => digits_any s hs w)
  have hE : Hid (numE (bl s) = if allB isDig (bl s) then (if 1024 < s.size then 11 else if 1 < s.size ∧ (bl s)[0]? = some 48 then 3 else 0) else 3) := Lib.hid (by unfold numE; simp)
  generalize numE (bl s) = E at *
  rcases hq : allB isDig (bl s) with _ | _
  · rw [hq] at H hE
    have hE' : Hid (E = 3) := Lib.hid (by rw [hE.out]; rfl)
    clear hE hq
    go_enter Try.func53, Try.ntmps53
    go_wp2_with fail
    refine (H.out _).mono ?_
    rintro e w1 ⟨rfl, rfl⟩
    go_wp2
    go_ret
    exact ⟨by rw [hE'.out]; rfl, rfl⟩
  · rw [hq] at H hE
    by_cases h24 : 1024 < s.size
    · have hE' : Hid (E = 11) := Lib.hid (by rw [hE.out, if_pos rfl, if_pos h24])
      have hd : decide (1024 < (s.size : Int)) = true := decide_eq_true (by omega)
      clear hE hq h24
      go_enter Try.func53, Try.ntmps53
      go_wp2_with fail
      refine (H.out _).mono ?_
      rintro e w1 ⟨rfl, rfl⟩
      go_wp2
      go_ret
      exact ⟨by rw [hE'.out]; rfl, rfl⟩
    · have hd : decide (1024 < (s.size : Int)) = false := decide_eq_false (by omega)
      by_cases h1 : 1 < s.size
      · have hd1 : decide (1 < (s.size : Int)) = true := decide_eq_true (by omega)
        have hs0 : 0 < s.size := by omega
        have h8 := head_48 s hs0
        rcases hz : ((s[0].toNat : Int) == 48) with _ | _
        · have hE' : Hid (E = 0) := Lib.hid (by rw [hE.out, if_pos rfl, if_neg h24, if_neg (fun h => by rw [h8, hz] at h; cases h.2)])
          clear hE hq h24 h8
          go_enter Try.func53, Try.ntmps53
          go_wp2_with fail
          refine (H.out _).mono ?_
          rintro e w1 ⟨rfl, rfl⟩
          go_wp2
          go_ret
          exact ⟨by rw [hE'.out]; rfl, rfl⟩
        · have hE' : Hid (E = 3) := Lib.hid (by rw [hE.out, if_pos rfl, if_neg h24, if_pos ⟨h1, h8.2 hz⟩])
          clear hE hq h24 h8
          go_enter Try.func53, Try.ntmps53
          go_wp2_with fail
          refine (H.out _).mono ?_
          rintro e w1 ⟨rfl, rfl⟩
          go_wp2
          go_ret
          exact ⟨by rw [hE'.out]; rfl, rfl⟩
      · have hd1 : decide (1 < (s.size : Int)) = false := decide_eq_false (by omega)
        have hE' : Hid (E = 0) := Lib.hid (by rw [hE.out, if_pos rfl, if_neg h24, if_neg (fun h => h1 h.1)])
        clear hE hq h24 h1
        go_enter Try.func53, Try.ntmps53
        go_wp2_with fail
        refine (H.out _).mono ?_
        rintro e w1 ⟨rfl, rfl⟩
        go_wp2
        go_ret
        exact ⟨by rw [hE'.out]; rfl, rfl⟩

set_option maxHeartbeats 3200000 in
set_option maxRecDepth 100000 in
theorem run_let (s : ByteArray) (h0 : 0 < s.size) (hs : s.size ≤ 4611686018427387904) (hp : isLet s[0] = true) (w : World) :
    Calls Try.prog 49 #[.string s] w (fun e w' => e = .returned (.string (s.extract 0 (runTo isLet (bl s) 0))) ∧ w = w') := by
  have HA := Lib.hid (fun w => rlet_yes s[0] hp w)
  have HB := Lib.hid (fun w => rdig_no s[0] (let_nodig _ hp) w)
  clear hp
  go_enter Try.func49, Try.ntmps49
  go_wp2
  go_loop [3] (fun v => ∃ j : Nat, j ≤ s.size ∧ v = .int .i64 j ∧ Hid (runTo isLet (bl s) j = runTo isLet (bl s) 0)) (fun v => s.size - (intOf v).toNat)
  case atStart => exact ⟨0, by omega, rfl, Lib.hid rfl⟩
  case round =>
    obtain ⟨j, hj, rfl, HE⟩ := hrel
    by_cases hlt : j < s.size
    · have hl : j < (bl s).length := by simpa using hlt
      rcases hc : isLet s[j] with _ | _
      · have HC := Lib.hid (fun w => rlet_no s[j] hc w)
        have HN := Lib.hid (runTo_no (p := isLet) hl hc)
        clear hc
        go_wp2_with fail
        refine (HA.out _).mono ?_
        rintro e w1 ⟨rfl, rfl⟩
        go_wp2_with fail
        refine (HC.out _).mono ?_
        rintro e w1 ⟨rfl, rfl⟩
        go_wp2_with fail
        refine (HB.out _).mono ?_
        rintro e w1 ⟨rfl, rfl⟩
        go_wp2
        go_ret
        exact ⟨by rw [← HE.out, HN.out]; rfl, rfl⟩
      · have HC := Lib.hid (fun w => rlet_yes s[j] hc w)
        have HN := Lib.hid (runTo_yes (p := isLet) hl hc)
        clear hc
        go_wp2_with fail
        refine (HA.out _).mono ?_
        rintro e w1 ⟨rfl, rfl⟩
        go_wp2_with fail
        refine (HC.out _).mono ?_
        rintro e w1 ⟨rfl, rfl⟩
        go_wp2
        go_round
        case rel => exact ⟨j + 1, by omega, by go_num, Lib.hid (by rw [← HE.out, HN.out])⟩
        case measure => simp [intOf]; omega
    · have HN := Lib.hid (runTo_end (p := isLet) (l := bl s) (k := j) (by simp; omega))
      go_wp2
      go_ret
      exact ⟨by rw [← HE.out, HN.out]; rfl, rfl⟩

set_option maxHeartbeats 3200000 in
set_option maxRecDepth 100000 in
theorem run_dig (s : ByteArray) (h0 : 0 < s.size) (hs : s.size ≤ 4611686018427387904) (hp : isDig s[0] = true) (w : World) :
    Calls Try.prog 49 #[.string s] w (fun e w' => e = .returned (.string (s.extract 0 (runTo isDig (bl s) 0))) ∧ w = w') := by
  have HA := Lib.hid (fun w => rlet_no s[0] (dig_not _ hp).2.2 w)
  have HB := Lib.hid (fun w => rdig_yes s[0] hp w)
  clear hp
  go_enter Try.func49, Try.ntmps49
  go_wp2
  go_loop [3] (fun v => ∃ j : Nat, j ≤ s.size ∧ v = .int .i64 j ∧ Hid (runTo isDig (bl s) j = runTo isDig (bl s) 0)) (fun v => s.size - (intOf v).toNat)
  case atStart => exact ⟨0, by omega, rfl, Lib.hid rfl⟩
  case round =>
    obtain ⟨j, hj, rfl, HE⟩ := hrel
    by_cases hlt : j < s.size
    · have hl : j < (bl s).length := by simpa using hlt
      rcases hc : isDig s[j] with _ | _
      · have HC := Lib.hid (fun w => rdig_no s[j] hc w)
        have HN := Lib.hid (runTo_no (p := isDig) hl hc)
        clear hc
        go_wp2_with fail
        refine (HA.out _).mono ?_
        rintro e w1 ⟨rfl, rfl⟩
        go_wp2_with fail
        refine (HB.out _).mono ?_
        rintro e w1 ⟨rfl, rfl⟩
        go_wp2_with fail
        refine (HC.out _).mono ?_
        rintro e w1 ⟨rfl, rfl⟩
        go_wp2
        go_ret
        exact ⟨by rw [← HE.out, HN.out]; rfl, rfl⟩
      · have HC := Lib.hid (fun w => rdig_yes s[j] hc w)
        have HN := Lib.hid (runTo_yes (p := isDig) hl hc)
        clear hc
        go_wp2_with fail
        refine (HA.out _).mono ?_
        rintro e w1 ⟨rfl, rfl⟩
        go_wp2_with fail
        refine (HB.out _).mono ?_
        rintro e w1 ⟨rfl, rfl⟩
        go_wp2_with fail
        refine (HC.out _).mono ?_
        rintro e w1 ⟨rfl, rfl⟩
        go_wp2
        go_round
        case rel => exact ⟨j + 1, by omega, by go_num, Lib.hid (by rw [← HE.out, HN.out])⟩
        case measure => simp [intOf]; omega
    · have HN := Lib.hid (runTo_end (p := isDig) (l := bl s) (k := j) (by simp; omega))
      go_wp2
      go_ret
      exact ⟨by rw [← HE.out, HN.out]; rfl, rfl⟩

set_option maxHeartbeats 3200000 in
set_option maxRecDepth 100000 in
theorem run_none (s : ByteArray) (h0 : 0 < s.size) (h1 : isLet s[0] = false) (h2 : isDig s[0] = false) (w : World) :
    Calls Try.prog 49 #[.string s] w (fun e w' => e = .returned (.string ByteArray.empty) ∧ w = w') := by
  have HA := Lib.hid (fun w => rlet_no s[0] h1 w)
  have HB := Lib.hid (fun w => rdig_no s[0] h2 w)
  clear h1 h2
  go_enter Try.func49, Try.ntmps49
  go_wp2
  refine wp_loop_rounds 1 ?_
  rw [rounds_succ]
  go_wp2_with fail
  refine (HA.out _).mono ?_
  rintro e w1 ⟨rfl, rfl⟩
  go_wp2_with fail
  refine (HB.out _).mono ?_
  rintro e w1 ⟨rfl, rfl⟩
  go_wp2
  go_ret
  exact ⟨rfl, rfl⟩
end Go.Proofs.Ytffcahhnaomegaa
