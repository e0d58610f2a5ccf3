/- Brackets: which token opens, which closes; what Close comes to. -/
import Derived.Test.YtffcahhnaomegaaDoorLp
import Derived.Test.YtffcahhnaomegaaDoorShelf
namespace Go.Proofs.YtffcahhnaomegaaDoor
open Go.RowKit Go.Proofs.Lx

/-- The byte that closes what a token opens, or 0. -/
def opn (t : Tk) : UInt8 := if t.kind = 2 then (if t.text = [40] then 41 else if t.text = [91] then 93 else if t.text = [123] then 125 else 0) else 0
/-- The closing bracket that a token is, or 0. -/
def clo (t : Tk) : UInt8 := if t.kind = 2 then (if t.text = [41] then 41 else if t.text = [93] then 93 else if t.text = [125] then 125 else 0) else 0
def closeF : List Tk → Nat → List UInt8 → Nat × Nat
  | [], _, _ => (0, 3)
  | t :: r, i, st =>
    if opn t ≠ 0 then closeF r (i + 1) (st ++ [opn t])
    else if clo t = 0 then closeF r (i + 1) st
    else if st.getLast? ≠ some (clo t) then (0, 3)
    else if st.length = 1 then (i, 0)
    else closeF r (i + 1) st.dropLast
/-- What Close comes to. -/
def closeR (L : List Tk) (at_ : Int) : Nat × Nat :=
  if at_ < 0 ∨ (L.length : Int) ≤ at_ then (0, 2)
  else if opn (tAt L at_.toNat) = 0 then (0, 4)
  else closeF (L.drop at_.toNat) at_.toNat []

section
variable (L : List Tk) (i : Nat) (st : List UInt8)
theorem close_end (h : L.length ≤ i) : closeF (L.drop i) i st = (0, 3) := by rw [List.drop_eq_nil_of_le h]; rfl
theorem close_cons (h : i < L.length) : L.drop i = tAt L i :: L.drop (i + 1) := by rw [List.drop_eq_getElem_cons h, tAt_get]
theorem close_open (h : i < L.length) (ho : opn (tAt L i) ≠ 0) : closeF (L.drop i) i st = closeF (L.drop (i + 1)) (i + 1) (st ++ [opn (tAt L i)]) := by
  rw [close_cons L i h, closeF, if_pos ho]
theorem close_skip (h : i < L.length) (ho : opn (tAt L i) = 0) (hc : clo (tAt L i) = 0) : closeF (L.drop i) i st = closeF (L.drop (i + 1)) (i + 1) st := by
  rw [close_cons L i h, closeF, if_neg (by rw [ho]; simp), if_pos hc]
theorem close_wrong (h : i < L.length) (ho : opn (tAt L i) = 0) (hc : clo (tAt L i) ≠ 0) (hs : st.getLast? ≠ some (clo (tAt L i))) : closeF (L.drop i) i st = (0, 3) := by
  rw [close_cons L i h, closeF, if_neg (by rw [ho]; simp), if_neg hc, if_pos hs]
theorem close_done (h : i < L.length) (ho : opn (tAt L i) = 0) (hc : clo (tAt L i) ≠ 0) (hs : st.getLast? = some (clo (tAt L i))) (h1 : st.length = 1) : closeF (L.drop i) i st = (i, 0) := by
  rw [close_cons L i h, closeF, if_neg (by rw [ho]; simp), if_neg hc, if_neg (by rw [hs]; simp), if_pos h1]
theorem close_pop (h : i < L.length) (ho : opn (tAt L i) = 0) (hc : clo (tAt L i) ≠ 0) (hs : st.getLast? = some (clo (tAt L i))) (h1 : st.length ≠ 1) : closeF (L.drop i) i st = closeF (L.drop (i + 1)) (i + 1) st.dropLast := by
  rw [close_cons L i h, closeF, if_neg (by rw [ho]; simp), if_neg hc, if_neg (by rw [hs]; simp), if_neg h1]
end
theorem clo_text (t : Tk) (h : clo t ≠ 0) : t.text = [clo t] := by
  unfold clo at h ⊢
  by_cases h0 : t.kind = 2
  · rw [if_pos h0] at h ⊢
    by_cases h1 : t.text = [41]
    · rw [if_pos h1]; exact h1
    rw [if_neg h1] at h ⊢
    by_cases h2 : t.text = [93]
    · rw [if_pos h2]; exact h2
    rw [if_neg h2] at h ⊢
    by_cases h3 : t.text = [125]
    · rw [if_pos h3]; exact h3
    rw [if_neg h3] at h
    exact absurd rfl h
  · rw [if_neg h0] at h; exact absurd rfl h
/-- A text against a constant. -/
theorem str_is (X Y : List UInt8) : ((bt X).toList == Y) = decide (X = Y) := by
  rw [ByteArray.toList_eq]
  show (X == Y) = _
  by_cases h : X = Y
  · subst h; simp
  · rw [decide_eq_false h]; simpa using h
/-- The text that closes what a token opens. -/
def oS (t : Tk) : List UInt8 := if opn t = 0 then [] else [opn t]

set_option maxHeartbeats 3200000 in
set_option maxRecDepth 100000 in
theorem closing_any (T : Tk) (w : World) :
    Calls Tryd.prog 23 #[.agg #[.int .i64 T.kind, .string (bt T.text), .int .i64 T.pos]] w (fun e w' => e = .returned (.string (bt (oS T))) ∧ Below w.heap.size w w') := by
  obtain ⟨kind, X, pos⟩ := T
  simp only
  have h1 := str_is X [40]
  have h2 := str_is X [91]
  have h3 := str_is X [123]
  by_cases h0 : kind = 2
  · subst h0
    by_cases c1 : X = [40]
    · subst c1
      go_enter Tryd.func23, Tryd.ntmps23
      go_wp2
      go_ret
      exact ⟨rfl, (Below.refl _ _).alloc (Nat.le_refl _) _⟩
    rw [decide_eq_false c1] at h1
    by_cases c2 : X = [91]
    · subst c2
      go_enter Tryd.func23, Tryd.ntmps23
      go_wp2
      go_ret
      exact ⟨rfl, (Below.refl _ _).alloc (Nat.le_refl _) _⟩
    rw [decide_eq_false c2] at h2
    by_cases c3 : X = [123]
    · subst c3
      go_enter Tryd.func23, Tryd.ntmps23
      go_wp2
      go_ret
      exact ⟨rfl, (Below.refl _ _).alloc (Nat.le_refl _) _⟩
    rw [decide_eq_false c3] at h3
    have HO : Hid (oS ⟨2, X, pos⟩ = []) := Lib.hid (by simp [oS, opn, c1, c2, c3])
    rw [HO.out]
    clear c1 c2 c3
    generalize bt X = s at *
    go_enter Tryd.func23, Tryd.ntmps23
    go_wp2
    go_ret
    exact ⟨rfl, (Below.refl _ _).alloc (Nat.le_refl _) _⟩
  · have HO : Hid (oS ⟨kind, X, pos⟩ = []) := Lib.hid (by simp [oS, opn, h0])
    rw [HO.out]
    have q0 : (kind != 2) = true := by rw [bne_iff_ne]; exact h0
    clear h0 h1 h2 h3
    generalize bt X = s at *
    go_enter Tryd.func23, Tryd.ntmps23
    go_wp2
    go_ret
    exact ⟨rfl, (Below.refl _ _).alloc (Nat.le_refl _) _⟩

theorem contains_clo (c : UInt8) : decide (0 ≤ Lib.indexByte [41, 93, 125] c) = (decide (c = 41) || decide (c = 93) || decide (c = 125)) := by
  have := all_bytes (fun c => decide (0 ≤ Lib.indexByte [41, 93, 125] c) == (decide (c = 41) || decide (c = 93) || decide (c = 125))) (by decide +kernel) c
  simpa using this

set_option maxHeartbeats 3200000 in
set_option maxRecDepth 100000 in
theorem isClosing_any (T : Tk) (w : World) :
    Calls Tryd.prog 24 #[.agg #[.int .i64 T.kind, .string (bt T.text), .int .i64 T.pos]] w (fun e w' => e = .returned (.bool (decide (clo T ≠ 0))) ∧ Below w.heap.size w w') := by
  obtain ⟨kind, X, pos⟩ := T
  simp only
  by_cases h0 : kind = 2
  · subst h0
    by_cases h1 : X.length = 1
    · obtain ⟨c, rfl⟩ := List.length_eq_one_iff.1 h1
      have HC := Lib.hid (fun w => (Tryd.strings_Contains_one ⟨#[41, 93, 125]⟩ c w))
      have hq : decide (0 ≤ Lib.indexByte (ByteArray.data ⟨#[41, 93, 125]⟩).toList c) = (decide (c = 41) || decide (c = 93) || decide (c = 125)) := contains_clo c
      rw [hq] at HC
      have HE : Hid (decide (clo ⟨2, [c], pos⟩ ≠ 0) = (decide (c = 41) || decide (c = 93) || decide (c = 125))) := by
        refine Lib.hid ?_
        unfold clo
        simp only [if_true, List.cons.injEq, and_true]
        by_cases e1 : c = 41
        · subst e1; rfl
        by_cases e2 : c = 93
        · subst e2; rfl
        by_cases e3 : c = 125
        · subst e3; rfl
        simp [e1, e2, e3]
      rw [HE.out]
      generalize (decide (c = 41) || decide (c = 93) || decide (c = 125)) = q at *
      clear hq h1
      go_enter Tryd.func24, Tryd.ntmps24
      go_wp2_with fail
      refine (HC.out _).mono ?_
      rintro e w1 ⟨rfl, rfl⟩
      go_wp2
      go_ret
      exact ⟨rfl, (Below.refl _ _).alloc (Nat.le_refl _) _⟩
    · have HE : Hid (decide (clo ⟨2, X, pos⟩ ≠ 0) = false) := by
        refine Lib.hid ?_
        rw [decide_eq_false]
        intro h
        have := clo_text _ h
        rw [show X = [clo ⟨2, X, pos⟩] from this] at h1
        simp at h1
      rw [HE.out]
      have hd : (((bt X).size : Int) == 1) = false := by
        rw [beq_eq_false_iff_ne, show (bt X).size = X.length from by show X.toArray.size = _; simp]
        omega
      clear h1
      generalize bt X = s at *
      go_enter Tryd.func24, Tryd.ntmps24
      go_wp2
      go_ret
      exact ⟨rfl, (Below.refl _ _).alloc (Nat.le_refl _) _⟩
  · have HE : Hid (decide (clo ⟨kind, X, pos⟩ ≠ 0) = false) := Lib.hid (by simp [clo, h0])
    rw [HE.out]
    have q0 : (kind == 2) = false := by rw [beq_eq_false_iff_ne]; exact h0
    clear h0
    generalize bt X = s at *
    go_enter Tryd.func24, Tryd.ntmps24
    go_wp2
    go_ret
    exact ⟨rfl, (Below.refl _ _).alloc (Nat.le_refl _) _⟩
end Go.Proofs.YtffcahhnaomegaaDoor
