/- The reference's tests of tokens, and which lists of tokens are few. -/
import Derived.Test.YtffcahhnaomegaaLq
namespace Go.Proofs.Ytffcahhnaomegaa
open Go.RowKit Go.Proofs.Lx

set_option maxHeartbeats 6400000 in
set_option maxRecDepth 100000 in
theorem rform_word (X : List UInt8) (pos i n : Int) (hX : X.length ≤ 4611686018427387904) (w : World) :
    Calls Try.prog 31 #[.agg #[.int .i64 0, .string (bt X), .int .i64 pos], .int .i64 i, .int .i64 n] w (fun e w' => e = .returned (.int .i64 (if wordE X = 0 then 0 else 3)) ∧ Below w.heap.size w w') := by
  have H := Lib.hid (fun w => rword_any (bt X) (by rw [tlen]; exact hX) w)
  rw [show bl (bt X) = X from rfl] at H
  by_cases h : wordE X = 0
  · rw [h] at H
    rw [if_pos h]
    clear h
    go_enter Try.func31, Try.ntmps31
    go_wp2_with fail
    refine (H.out _).mono ?_
    rintro e w1 ⟨rfl, rfl⟩
    go_wp2
    go_ret
    exact ⟨rfl, (Below.refl _ _).alloc (Nat.le_refl _) _⟩
  · rw [if_neg h]
    have hd : (((wordE X : Nat) : Int) != 0) = true := by rw [bne_iff_ne]; omega
    generalize wordE X = E at *
    clear h
    go_enter Try.func31, Try.ntmps31
    go_wp2_with fail
    refine (H.out _).mono ?_
    rintro e w1 ⟨rfl, rfl⟩
    go_wp2
    go_ret
    exact ⟨rfl, (Below.refl _ _).alloc (Nat.le_refl _) _⟩

set_option maxHeartbeats 6400000 in
set_option maxRecDepth 100000 in
theorem rform_num (X : List UInt8) (pos i n : Int) (hX : X.length ≤ 4611686018427387904) (w : World) :
    Calls Try.prog 31 #[.agg #[.int .i64 1, .string (bt X), .int .i64 pos], .int .i64 i, .int .i64 n] w (fun e w' => e = .returned (.int .i64 (if numE X = 0 then 0 else 3)) ∧ Below w.heap.size w w') := by
  have H := Lib.hid (fun w => rnum_any (bt X) (by rw [tlen]; exact hX) w)
  rw [show bl (bt X) = X from rfl] at H
  by_cases h : numE X = 0
  · rw [h] at H
    rw [if_pos h]
    clear h
    go_enter Try.func31, Try.ntmps31
    go_wp2_with fail
    refine (H.out _).mono ?_
    rintro e w1 ⟨rfl, rfl⟩
    go_wp2
    go_ret
    exact ⟨rfl, (Below.refl _ _).alloc (Nat.le_refl _) _⟩
  · rw [if_neg h]
    have hd : (((numE X : Nat) : Int) != 0) = true := by rw [bne_iff_ne]; omega
    generalize numE X = E at *
    clear h
    go_enter Try.func31, Try.ntmps31
    go_wp2_with fail
    refine (H.out _).mono ?_
    rintro e w1 ⟨rfl, rfl⟩
    go_wp2
    go_ret
    exact ⟨rfl, (Below.refl _ _).alloc (Nat.le_refl _) _⟩

set_option maxHeartbeats 6400000 in
set_option maxRecDepth 100000 in
theorem rform_sign (X : List UInt8) (pos i n : Int)  (w : World) :
    Calls Try.prog 31 #[.agg #[.int .i64 2, .string (bt X), .int .i64 pos], .int .i64 i, .int .i64 n] w (fun e w' => e = .returned (.int .i64 (if X.length = 1 ∧ isSig (X.headD 0) = true then (0 : Int) else 3)) ∧ Below w.heap.size w w') := by
  by_cases h1 : X.length = 1
  · obtain ⟨c, rfl⟩ := List.length_eq_one_iff.1 h1
    have H := Lib.hid (fun w => sign_any c w)
    have hs : Hid ((if [c].length = 1 ∧ isSig ([c].headD 0) = true then (0 : Int) else 3) = if isSig c = true then 0 else 3) := Lib.hid (by simp)
    rw [hs.out]
    generalize isSig c = q at *
    clear h1
    cases q
    all_goals
      go_enter Try.func31, Try.ntmps31
      go_wp2_with fail
      refine (H.out _).mono ?_
      rintro e w1 ⟨rfl, rfl⟩
      go_wp2
      go_ret
      exact ⟨rfl, (Below.refl _ _).alloc (Nat.le_refl _) _⟩
  · rw [if_neg (fun h => h1 h.1)]
    have hd : (((bt X).size : Int) != 1) = true := by rw [bne_iff_ne, tlen]; omega
    generalize bt X = s at *
    clear h1
    go_enter Try.func31, Try.ntmps31
    go_wp2
    go_ret
    exact ⟨rfl, (Below.refl _ _).alloc (Nat.le_refl _) _⟩

set_option maxHeartbeats 6400000 in
set_option maxRecDepth 100000 in
theorem rform_end (X : List UInt8) (pos i n : Int) (q : Bool) (hq : (i == n - 1) = q) (hn0 : 0 ≤ n) (hn1 : n ≤ 4611686018427387904) (w : World) :
    Calls Try.prog 31 #[.agg #[.int .i64 3, .string (bt X), .int .i64 pos], .int .i64 i, .int .i64 n] w (fun e w' => e = .returned (.int .i64 (if q = true then (if X = [] then (0 : Int) else 3) else 9)) ∧ Below w.heap.size w w') := by
  have hq2 : (i != n - 1) = !q := by rw [bne, hq]
  clear hq
  by_cases hX : X = []
  · subst hX
    cases q
    all_goals
      simp only [Bool.not_false, Bool.not_true] at hq2
      go_enter Try.func31, Try.ntmps31
      go_wp2
      go_ret
      exact ⟨rfl, (Below.refl _ _).alloc (Nat.le_refl _) _⟩
  · have h0 : ¬ (bt X).toList = [] := by rw [ByteArray.toList_eq]; exact hX
    have h1 : (bt X).toList.isEmpty = false := by
      rw [ByteArray.toList_eq]
      cases X with
      | nil => exact absurd rfl hX
      | cons c r => rfl
    rw [if_neg hX]
    generalize bt X = s at *
    clear hX
    cases q
    all_goals
      simp only [Bool.not_false, Bool.not_true] at hq2
      go_enter Try.func31, Try.ntmps31
      go_wp2
      go_ret
      exact ⟨rfl, (Below.refl _ _).alloc (Nat.le_refl _) _⟩

set_option maxHeartbeats 6400000 in
set_option maxRecDepth 100000 in
theorem rform_other (kind : Int) (h0 : kind ≠ 0) (h1 : kind ≠ 1) (h2 : kind ≠ 2) (h3 : kind ≠ 3) (s : ByteArray) (pos i n : Int) (w : World) :
    Calls Try.prog 31 #[.agg #[.int .i64 kind, .string s, .int .i64 pos], .int .i64 i, .int .i64 n] w (fun e w' => e = .returned (.int .i64 1) ∧ Below w.heap.size w w') := by
  have q0 : (kind == 0) = false := beq_eq_false_iff_ne.2 h0
  have q1 : (kind == 1) = false := beq_eq_false_iff_ne.2 h1
  have q2 : (kind == 2) = false := beq_eq_false_iff_ne.2 h2
  have q3 : (kind == 3) = false := beq_eq_false_iff_ne.2 h3
  clear h0 h1 h2 h3
  go_enter Try.func31, Try.ntmps31
  go_wp2
  go_ret
  exact ⟨rfl, (Below.refl _ _).alloc (Nat.le_refl _) _⟩

/-- form of a token. -/
theorem rform_any (T : Tk) (i n : Int) (q : Bool) (hq : (i == n - 1) = q) (hn0 : 0 ≤ n) (hn1 : n ≤ 4611686018427387904) (hT : T.text.length ≤ 4611686018427387904) (w : World) :
    Calls Try.prog 31 #[.agg #[.int .i64 T.kind, .string (bt T.text), .int .i64 T.pos], .int .i64 i, .int .i64 n] w (fun e w' => e = .returned (.int .i64 (formE T q : Nat)) ∧ Below w.heap.size w w') := by
  obtain ⟨kind, X, pos⟩ := T
  unfold formE
  simp only
  by_cases h0 : kind = 0
  · subst h0
    refine (rform_word X pos i n hT w).mono fun e w' ⟨he, hb⟩ => ⟨?_, hb⟩
    rw [he, if_pos rfl]; split <;> rfl
  rw [if_neg h0]
  by_cases h1 : kind = 1
  · subst h1
    refine (rform_num X pos i n hT w).mono fun e w' ⟨he, hb⟩ => ⟨?_, hb⟩
    rw [he, if_pos rfl]; split <;> rfl
  rw [if_neg h1]
  by_cases h2 : kind = 2
  · subst h2
    refine (rform_sign X pos i n w).mono fun e w' ⟨he, hb⟩ => ⟨?_, hb⟩
    rw [he, if_pos rfl]; split <;> rfl
  rw [if_neg h2]
  by_cases h3 : kind = 3
  · subst h3
    refine (rform_end X pos i n q hq hn0 hn1 w).mono fun e w' ⟨he, hb⟩ => ⟨?_, hb⟩
    rw [he, if_pos rfl]; cases q <;> (simp only [if_true, Bool.false_eq_true, if_false]; first | rfl | (split <;> rfl))
  rw [if_neg h3]
  exact rform_other kind h0 h1 h2 h3 (bt X) pos i n w
set_option maxHeartbeats 6400000 in
set_option maxRecDepth 100000 in
theorem rplain_any (T : Tk) (w : World) :
    Calls Try.prog 59 #[.agg #[.int .i64 T.kind, .string (bt T.text), .int .i64 T.pos]] w (fun e w' => e = .returned (.bool (plainB T)) ∧ Below w.heap.size w w') := by
  obtain ⟨kind, X, pos⟩ := T
  simp only
  generalize bt X = s
  have hp : Hid (plainB ⟨kind, X, pos⟩ = ((kind == 0) || (kind == 1))) := Lib.hid (by simp [plainB, Bool.beq_eq_decide_eq])
  rw [hp.out]
  clear hp
  by_cases h0 : kind = 0
  · subst h0
    go_enter Try.func59, Try.ntmps59
    go_wp2
    go_ret
    exact ⟨rfl, (Below.refl _ _).alloc (Nat.le_refl _) _⟩
  · have q0 : (kind == 0) = false := beq_eq_false_iff_ne.2 h0
    rw [q0, Bool.false_or]
    clear h0
    generalize hq : (kind == 1) = q
    cases q
    all_goals
      go_enter Try.func59, Try.ntmps59
      go_wp2
      go_ret
      exact ⟨rfl, (Below.refl _ _).alloc (Nat.le_refl _) _⟩

/-- A token is short, or too long. -/
def okT (t : Tk) : Bool := decide (t.text.length ≤ 30) || (decide (1024 < t.text.length) && decide (t.text.length ≤ 2048))
/-- Tokens are few and short, or too many. -/
def fewB (L : List Tk) : Bool := if 200 < L.length then decide (4097 < L.length ∧ L.length < 8192) else L.all okT
set_option maxHeartbeats 6400000 in
set_option maxRecDepth 100000 in
theorem rfew_long (a : Option Addr) (cap n : Nat) (h : 200 < n) (w : World) :
    Calls Try.prog 13 #[.slice a n cap] w (fun e w' => e = .returned (.bool (decide (4097 < n ∧ n < 8192))) ∧ w = w') := by
  have d0 : decide (200 < (n : Int)) = true := decide_eq_true (by omega)
  by_cases h1 : 4097 < n
  · have d1 : decide (4097 < (n : Int)) = true := decide_eq_true (by omega)
    by_cases h2 : n < 8192
    · have d2 : decide ((n : Int) < 8192) = true := decide_eq_true (by omega)
      rw [decide_eq_true ⟨h1, h2⟩]
      clear h h1 h2
      go_enter Try.func13, Try.ntmps13
      go_wp2
      go_ret
      exact ⟨rfl, rfl⟩
    · have d2 : decide ((n : Int) < 8192) = false := decide_eq_false (by omega)
      rw [decide_eq_false (fun h => h2 h.2)]
      clear h h1 h2
      go_enter Try.func13, Try.ntmps13
      go_wp2
      go_ret
      exact ⟨rfl, rfl⟩
  · have d1 : decide (4097 < (n : Int)) = false := decide_eq_false (by omega)
    rw [decide_eq_false (fun h => h1 h.1)]
    clear h h1
    go_enter Try.func13, Try.ntmps13
    go_wp2
    go_ret
    exact ⟨rfl, rfl⟩
theorem all_take (L : List Tk) (p : Tk → Bool) (i : Nat) (h : i < L.length) : (L.take (i + 1)).all p = ((L.take i).all p && p (tAt L i)) := by
  rw [List.take_succ_eq_append_getElem h, List.all_append, tAt_get]; simp
set_option maxHeartbeats 6400000 in
set_option maxRecDepth 100000 in
theorem rfew_short (a : Option Addr) (cap : Nat) (L : List Tk) (hL : L.length ≤ 200) (w : World) (h : TkAt w a L) :
    Calls Try.prog 13 #[.slice a L.length cap] w (fun e w' => e = .returned (.bool (L.all okT)) ∧ w = w') := by
  have H := Lib.hid h
  have d0 : decide (200 < (L.length : Int)) = false := decide_eq_false (by omega)
  clear h
  go_enter Try.func13, Try.ntmps13
  go_wp2
  go_loop [3] (fun v => ∃ i : Nat, i ≤ L.length ∧ v = .int .i64 i ∧ Hid ((L.take i).all okT = true)) (fun v => L.length - (intOf v).toNat)
  case atStart => exact ⟨0, by omega, rfl, Lib.hid rfl⟩
  case round =>
    obtain ⟨i, hi, rfl, HE⟩ := hrel
    by_cases hlt : i < L.length
    · obtain ⟨T, hTe⟩ : ∃ T, T = tAt L i := ⟨_, rfl⟩
      obtain ⟨b1, o1, rfl, q1, x1, x2, x3⟩ := H.out.three i hlt T (by rw [hTe, tAt_get])
      have hq : Hid (okT T = !((decide (30 < (bt T.text).size) && decide ((bt T.text).size ≤ 1024)) || decide (2048 < (bt T.text).size))) := by
        refine Lib.hid ?_
        rw [tlen]
        unfold okT
        generalize T.text.length = n
        rw [Bool.eq_iff_iff]
        simp only [Bool.or_eq_true, Bool.and_eq_true, decide_eq_true_eq, Bool.not_eq_true', Bool.or_eq_false_iff, Bool.and_eq_false_iff, decide_eq_false_iff_not]
        omega
      have HA := Lib.hid (all_take L okT i hlt)
      rw [← hTe] at HA
      have HT := Lib.hid hTe
      clear hTe
      generalize bt T.text = s at *
      by_cases c : (30 < s.size ∧ s.size ≤ 1024) ∨ 2048 < s.size
      · have hk : okT T = false := by
          rw [hq.out]
          simp only [Bool.not_eq_false', Bool.or_eq_true, Bool.and_eq_true, decide_eq_true_eq]
          exact c
        have HF : Hid (L.all okT = false) := by
          refine Lib.hid ?_
          rw [List.all_eq_false]
          refine ⟨L[i], List.getElem_mem hlt, ?_⟩
          rw [tAt_get L i hlt, ← HT.out, hk]; simp
        have e1 : decide (30 < (s.size : Int)) = true := decide_eq_true (by omega)
        clear hk hq HA HE
        rcases c with c | c
        · have e2 : decide ((s.size : Int) ≤ 1024) = true := decide_eq_true (by omega)
          clear c
          go_wp2
          go_ret
          exact ⟨by rw [HF.out]; rfl, rfl⟩
        · have e2 : decide ((s.size : Int) ≤ 1024) = false := decide_eq_false (by omega)
          have e3 : decide (2048 < (s.size : Int)) = true := decide_eq_true (by omega)
          clear c
          go_wp2
          go_ret
          exact ⟨by rw [HF.out]; rfl, rfl⟩
      · have hk : okT T = true := by
          rw [hq.out]
          simp only [Bool.not_eq_true', Bool.or_eq_false_iff, Bool.and_eq_false_iff, decide_eq_false_iff_not]
          omega
        have HF : Hid ((L.take (i + 1)).all okT = true) := Lib.hid (by rw [HA.out, HE.out, hk]; rfl)
        have e3 : decide (2048 < (s.size : Int)) = false := decide_eq_false (by omega)
        clear hk hq HA HE
        by_cases c1 : 30 < s.size
        · have e1 : decide (30 < (s.size : Int)) = true := decide_eq_true (by omega)
          have e2 : decide ((s.size : Int) ≤ 1024) = false := decide_eq_false (by omega)
          clear c c1
          go_wp2
          go_round
          case rel => exact ⟨i + 1, by omega, by go_num, HF⟩
          case measure => simp [intOf]; omega
        · have e1 : decide (30 < (s.size : Int)) = false := decide_eq_false (by omega)
          clear c c1
          go_wp2
          go_round
          case rel => exact ⟨i + 1, by omega, by go_num, HF⟩
          case measure => simp [intOf]; omega
    · obtain rfl : i = L.length := by omega
      have HF : Hid (L.all okT = true) := Lib.hid (by have := HE.out; rwa [List.take_length] at this)
      clear HE
      go_wp2
      go_ret
      exact ⟨by rw [HF.out]; rfl, rfl⟩
/-- Few of tokens. -/
theorem rfew_any (a : Option Addr) (cap : Nat) (L : List Tk) (w : World) (h : TkAt w a L) :
    Calls Try.prog 13 #[.slice a L.length cap] w (fun e w' => e = .returned (.bool (fewB L)) ∧ w = w') := by
  unfold fewB
  by_cases h1 : 200 < L.length
  · rw [if_pos h1]; exact rfew_long a cap L.length h1 w
  · rw [if_neg h1]; exact rfew_short a cap L (by omega) w h
end Go.Proofs.Ytffcahhnaomegaa
