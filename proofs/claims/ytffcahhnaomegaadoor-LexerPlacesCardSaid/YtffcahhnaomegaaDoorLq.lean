/- The program's check of a token; what may run into each other. -/
import Derived.Test.YtffcahhnaomegaaDoorLo
namespace Go.Proofs.YtffcahhnaomegaaDoor
open Go.RowKit Go.Proofs.Lx

theorem tlen (X : List UInt8) : (bt X).size = X.length := by show X.toArray.size = X.length; simp
theorem num_form (X : List UInt8) : (numB X && decide (X.length ≤ 1024)) = decide (numE X = 0) := by
  unfold numB numE
  rcases h : allB isDig X with _ | _
  · simp
  · have h0 : 0 < X.length := by
      unfold allB at h
      rw [Bool.and_eq_true, decide_eq_true_eq] at h
      exact h.2
    by_cases h1 : 1024 < X.length
    · have : ¬ X.length ≤ 1024 := by omega
      simp [h1, this]
    · have h2 : X.length ≤ 1024 := by omega
      simp only [if_true, if_neg h1, h2, decide_true, Bool.and_true, Bool.true_and]
      by_cases h3 : X[0]? = some 48
      · by_cases h4 : 1 < X.length
        · have : X ≠ [48] := fun e => by rw [e] at h4; simp at h4
          simp [h3, h4, this]
        · have : X = [48] := by
            obtain ⟨c, rfl⟩ := List.length_eq_one_iff.1 (show X.length = 1 by omega)
            simpa using h3
          simp [this]
      · simp [h3]

set_option maxHeartbeats 3200000 in
set_option maxRecDepth 100000 in
theorem check_word (X : List UInt8) (pos : Int) (last : Bool) (hX : X.length ≤ 4611686018427387904) (w : World) :
    Calls Tryd.prog 21 #[.agg #[.int .i64 0, .string (bt X), .int .i64 pos], .bool last] w (fun e w' => e = .returned (.int .i64 (if wordE X = 0 then 0 else 3)) ∧ Below w.heap.size w w') := by
  have H := Lib.hid (fun w => pword_any (bt X) (by rw [tlen]; exact hX) w)
  rw [show bl (bt X) = X from rfl] at H
  by_cases h : wordE X = 0
  · rw [h] at H
    rw [if_pos h]
    clear h
    go_enter Tryd.func21, Tryd.ntmps21
    go_wp2_with fail
    refine (H.out _).mono ?_
    rintro e w1 ⟨rfl, rfl⟩
    go_wp2
    go_ret
    exact ⟨rfl, (Below.refl _ _).alloc (Nat.le_refl _) _⟩
  · rw [if_neg h]
    have hd : (((wordE X : Nat) : Int) == 0) = false := by rw [beq_eq_false_iff_ne]; omega
    generalize wordE X = E at *
    clear h
    go_enter Tryd.func21, Tryd.ntmps21
    go_wp2_with fail
    refine (H.out _).mono ?_
    rintro e w1 ⟨rfl, rfl⟩
    go_wp2
    go_ret
    exact ⟨rfl, (Below.refl _ _).alloc (Nat.le_refl _) _⟩

set_option maxHeartbeats 3200000 in
set_option maxRecDepth 100000 in
theorem check_num (X : List UInt8) (pos : Int) (last : Bool) (hX : X.length ≤ 4611686018427387904) (w : World) :
    Calls Tryd.prog 21 #[.agg #[.int .i64 1, .string (bt X), .int .i64 pos], .bool last] w (fun e w' => e = .returned (.int .i64 (if numE X = 0 then 0 else 3)) ∧ Below w.heap.size w w') := by
  have H := Lib.hid (fun w => isNumber_any (bt X) (by rw [tlen]; exact hX) w)
  rw [show bl (bt X) = X from rfl] at H
  have hn := num_form X
  have hL : Hid ((bt X).size = X.length) := Lib.hid (tlen X)
  generalize bt X = s at *
  by_cases h : numE X = 0
  · rw [decide_eq_true h, Bool.and_eq_true, decide_eq_true_eq] at hn
    rw [hn.1] at H
    rw [if_pos h]
    have hd : decide ((s.size : Int) ≤ 1024) = true := decide_eq_true (by have := hL.out; omega)
    clear h hn
    go_enter Tryd.func21, Tryd.ntmps21
    go_wp2_with fail
    refine (H.out _).mono ?_
    rintro e w1 ⟨rfl, rfl⟩
    go_wp2
    go_ret
    exact ⟨rfl, (Below.refl _ _).alloc (Nat.le_refl _) _⟩
  · rw [decide_eq_false h] at hn
    rw [if_neg h]
    clear h
    generalize numB X = q at *
    cases q
    · clear hn
      go_enter Tryd.func21, Tryd.ntmps21
      go_wp2_with fail
      refine (H.out _).mono ?_
      rintro e w1 ⟨rfl, rfl⟩
      go_wp2
      go_ret
      exact ⟨rfl, (Below.refl _ _).alloc (Nat.le_refl _) _⟩
    · have hd : decide ((s.size : Int) ≤ 1024) = false := decide_eq_false (by have := hL.out; simp at hn; omega)
      clear hn
      go_enter Tryd.func21, Tryd.ntmps21
      go_wp2_with fail
      refine (H.out _).mono ?_
      rintro e w1 ⟨rfl, rfl⟩
      go_wp2
      go_ret
      exact ⟨rfl, (Below.refl _ _).alloc (Nat.le_refl _) _⟩

set_option maxHeartbeats 3200000 in
set_option maxRecDepth 100000 in
theorem check_sign (X : List UInt8) (pos : Int) (last : Bool) (hX : X.length ≤ 4611686018427387904) (w : World) :
    Calls Tryd.prog 21 #[.agg #[.int .i64 2, .string (bt X), .int .i64 pos], .bool last] w (fun e w' => e = .returned (.int .i64 (if X.length = 1 ∧ isSig (X.headD 0) = true then (0 : Int) else 3)) ∧ Below w.heap.size w w') := by
  have H := Lib.hid (fun w => isSign_any (bt X) (by rw [tlen]; exact hX) w)
  rw [show bl (bt X) = X from rfl] at H
  generalize bt X = s at *
  have hs : Hid ((if X.length = 1 ∧ isSig (X.headD 0) = true then (0 : Int) else 3) = if signB X = true then 0 else 3) := by
    refine Lib.hid ?_
    unfold signB
    simp only [Bool.and_eq_true, decide_eq_true_eq]
  generalize signB X = q at *
  rw [hs.out]
  cases q
  all_goals
    go_enter Tryd.func21, Tryd.ntmps21
    go_wp2_with fail
    refine (H.out _).mono ?_
    rintro e w1 ⟨rfl, rfl⟩
    go_wp2
    go_ret
    exact ⟨rfl, (Below.refl _ _).alloc (Nat.le_refl _) _⟩

set_option maxHeartbeats 3200000 in
set_option maxRecDepth 100000 in
theorem check_end (X : List UInt8) (pos : Int) (last : Bool)  (w : World) :
    Calls Tryd.prog 21 #[.agg #[.int .i64 3, .string (bt X), .int .i64 pos], .bool last] w (fun e w' => e = .returned (.int .i64 (if last = true then (if X = [] then (0 : Int) else 3) else 9)) ∧ Below w.heap.size w w') := by
  have hs : Hid (((bt X).toList == []) = decide (X = [])) := by
    refine Lib.hid ?_
    rw [ByteArray.toList_eq]
    by_cases h : X = []
    · subst h; rfl
    · rw [decide_eq_false h]; simpa using h
  by_cases hX : X = []
  · subst hX
    cases last
    all_goals
      go_enter Tryd.func21, Tryd.ntmps21
      go_wp2
      go_ret
      exact ⟨rfl, (Below.refl _ _).alloc (Nat.le_refl _) _⟩
  · have h0 : ¬ (bt X).toList = [] := by rw [ByteArray.toList_eq]; exact hX
    have h1 : (bt X).toList.isEmpty = false := by
      rw [ByteArray.toList_eq]
      cases X with
      | nil => exact absurd rfl hX
      | cons c r => rfl
    rw [if_neg hX]
    clear hs
    generalize bt X = s at *
    clear hX
    cases last
    all_goals
      go_enter Tryd.func21, Tryd.ntmps21
      go_wp2
      go_ret
      exact ⟨rfl, (Below.refl _ _).alloc (Nat.le_refl _) _⟩

set_option maxHeartbeats 3200000 in
set_option maxRecDepth 100000 in
theorem check_other (kind : Int) (h0 : kind ≠ 0) (h1 : kind ≠ 1) (h2 : kind ≠ 2) (h3 : kind ≠ 3) (s : ByteArray) (pos : Int) (last : Bool) (w : World) :
    Calls Tryd.prog 21 #[.agg #[.int .i64 kind, .string s, .int .i64 pos], .bool last] w (fun e w' => e = .returned (.int .i64 1) ∧ Below w.heap.size w w') := by
  have q0 : (kind == 0) = false := beq_eq_false_iff_ne.2 h0
  have q1 : (kind == 1) = false := beq_eq_false_iff_ne.2 h1
  have q2 : (kind == 2) = false := beq_eq_false_iff_ne.2 h2
  have q3 : (kind == 3) = false := beq_eq_false_iff_ne.2 h3
  clear h0 h1 h2 h3
  go_enter Tryd.func21, Tryd.ntmps21
  go_wp2
  go_ret
  exact ⟨rfl, (Below.refl _ _).alloc (Nat.le_refl _) _⟩

/-- check of a token. -/
theorem check_any (T : Tk) (last : Bool) (hT : T.text.length ≤ 4611686018427387904) (w : World) :
    Calls Tryd.prog 21 #[.agg #[.int .i64 T.kind, .string (bt T.text), .int .i64 T.pos], .bool last] w (fun e w' => e = .returned (.int .i64 (formE T last : Nat)) ∧ Below w.heap.size w w') := by
  obtain ⟨kind, X, pos⟩ := T
  unfold formE
  simp only
  by_cases h0 : kind = 0
  · subst h0
    refine (check_word X pos last hT w).mono fun e w' ⟨he, hb⟩ => ⟨?_, hb⟩
    rw [he, if_pos rfl]; split <;> rfl
  rw [if_neg h0]
  by_cases h1 : kind = 1
  · subst h1
    refine (check_num X pos last hT w).mono fun e w' ⟨he, hb⟩ => ⟨?_, hb⟩
    rw [he, if_pos rfl]; split <;> rfl
  rw [if_neg h1]
  by_cases h2 : kind = 2
  · subst h2
    refine (check_sign X pos last hT w).mono fun e w' ⟨he, hb⟩ => ⟨?_, hb⟩
    rw [he, if_pos rfl]; split <;> rfl
  rw [if_neg h2]
  by_cases h3 : kind = 3
  · subst h3
    refine (check_end X pos last w).mono fun e w' ⟨he, hb⟩ => ⟨?_, hb⟩
    rw [he, if_pos rfl]; cases last <;> (simp only [if_true, Bool.false_eq_true, if_false]; first | rfl | (split <;> rfl))
  rw [if_neg h3]
  exact check_other kind h0 h1 h2 h3 (bt X) pos last w
set_option maxHeartbeats 3200000 in
set_option maxRecDepth 100000 in
theorem plain_any (T : Tk) (w : World) :
    Calls Tryd.prog 38 #[.agg #[.int .i64 T.kind, .string (bt T.text), .int .i64 T.pos]] w (fun e w' => e = .returned (.bool (plainB T)) ∧ Below w.heap.size w w') := by
  obtain ⟨kind, X, pos⟩ := T
  simp only
  generalize bt X = s
  have hp : Hid (plainB ⟨kind, X, pos⟩ = ((kind == 0) || (kind == 1))) := Lib.hid (by simp [plainB, Bool.beq_eq_decide_eq])
  rw [hp.out]
  clear hp
  by_cases h0 : kind = 0
  · subst h0
    go_enter Tryd.func38, Tryd.ntmps38
    go_wp2
    go_ret
    exact ⟨rfl, (Below.refl _ _).alloc (Nat.le_refl _) _⟩
  · have q0 : (kind == 0) = false := beq_eq_false_iff_ne.2 h0
    rw [q0, Bool.false_or]
    clear h0
    generalize hq : (kind == 1) = q
    cases q
    all_goals
      go_enter Tryd.func38, Tryd.ntmps38
      go_wp2
      go_ret
      exact ⟨rfl, (Below.refl _ _).alloc (Nat.le_refl _) _⟩
end Go.Proofs.YtffcahhnaomegaaDoor
