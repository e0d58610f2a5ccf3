/- What scanning the text of right tokens comes to: the tokens, up to their offsets. -/
import Derived.Test.YtffcahhnaomegaaLr
import Derived.Test.YtffcahhnaomegaaMh
namespace Go.Proofs.Ytffcahhnaomegaa
open Go.RowKit Go.Proofs.Lx

/-- A token that is right by itself, and not the end. -/
def good (t : Tk) : Prop := (t.kind = 0 ∧ allB isLet t.text = true ∧ t.text.length ≤ 24) ∨ (t.kind = 1 ∧ allB isDig t.text = true ∧ t.text.length ≤ 1024 ∧ (t.text.length ≤ 1 ∨ t.text[0]? ≠ some 48)) ∨ (t.kind = 2 ∧ ∃ c, t.text = [c] ∧ isSig c = true)
theorem good_form {t : Tk} {b : Bool} (h : good t) : formE t b = 0 := by
  unfold formE
  rcases h with ⟨h0, h1, h2⟩ | ⟨h0, h1, h2, h3⟩ | ⟨h0, c, h1, h2⟩
  · rw [if_pos h0, if_pos]
    unfold wordE; rw [if_pos h1, if_neg (by omega)]
  · rw [h0, if_neg (by decide), if_pos rfl, if_pos]
    unfold numE
    rw [if_pos h1, if_neg (by omega), if_neg]
    rintro ⟨e1, e2⟩
    rcases h3 with h3 | h3
    · omega
    · exact h3 e2
  · rw [h0, if_neg (by decide), if_neg (by decide), if_pos rfl, h1, if_pos]
    exact ⟨rfl, h2⟩
theorem form_good {t : Tk} (h : formE t false = 0) : good t := by
  unfold formE at h
  by_cases h0 : t.kind = 0
  · rw [if_pos h0] at h
    by_cases h1 : wordE t.text = 0
    · unfold wordE at h1
      by_cases h2 : allB isLet t.text = true
      · rw [if_pos h2] at h1
        by_cases h3 : 24 < t.text.length
        · rw [if_pos h3] at h1; omega
        · exact .inl ⟨h0, h2, by omega⟩
      · rw [if_neg h2] at h1; omega
    · rw [if_neg h1] at h; omega
  rw [if_neg h0] at h
  by_cases h0 : t.kind = 1
  · rw [if_pos h0] at h
    by_cases h1 : numE t.text = 0
    · unfold numE at h1
      by_cases h2 : allB isDig t.text = true
      · rw [if_pos h2] at h1
        by_cases h3 : 1024 < t.text.length
        · rw [if_pos h3] at h1; omega
        · rw [if_neg h3] at h1
          by_cases h4 : 1 < t.text.length ∧ t.text[0]? = some 48
          · rw [if_pos h4] at h1; omega
          · refine .inr (.inl ⟨h0, h2, by omega, ?_⟩)
            by_cases h5 : t.text.length ≤ 1
            · exact .inl h5
            · exact .inr (fun e => h4 ⟨by omega, e⟩)
      · rw [if_neg h2] at h1; omega
    · rw [if_neg h1] at h; omega
  rw [if_neg h0] at h
  by_cases h0 : t.kind = 2
  · rw [if_pos h0] at h
    by_cases h1 : t.text.length = 1 ∧ isSig (t.text.headD 0) = true
    · obtain ⟨c, hc⟩ := List.length_eq_one_iff.1 h1.1
      refine .inr (.inr ⟨h0, c, hc, ?_⟩)
      have := h1.2
      rw [hc] at this
      exact this
    · rw [if_neg h1] at h; omega
  rw [if_neg h0] at h
  by_cases h0 : t.kind = 3
  · rw [if_pos h0] at h; simp at h
  · rw [if_neg h0] at h; omega
theorem good_len {t : Tk} (h : good t) : t.text.length ≤ 1024 := by
  rcases h with ⟨h0, h1, h2⟩ | ⟨h0, h1, h2, h3⟩ | ⟨h0, c, h1, h2⟩
  · omega
  · omega
  · rw [h1]; simp
theorem good_kind {t : Tk} (h : good t) : t.kind ≠ 3 := by
  rcases h with ⟨h0, _⟩ | ⟨h0, _⟩ | ⟨h0, _⟩ <;> rw [h0] <;> decide

/-- Blanks and tokens, as a text. -/
def tx : List (Nat × Tk) → List UInt8
  | [] => []
  | (n, t) :: r => List.replicate n 32 ++ t.text ++ tx r
def okTx : Bool → List (Nat × Tk) → Prop
  | _, [] => True
  | p, (n, t) :: r => good t ∧ (p = true → plainB t = true → 0 < n) ∧ okTx (plainB t) r

theorem head_no {r : List (Nat × Tk)} {m : Nat} {p : Bool} (hp : p = true) (h : okTx p r) (c : UInt8) (hc : (tx r ++ List.replicate m 32).head? = some c) : isLet c = false ∧ isDig c = false := by
  have h32 : isLet 32 = false ∧ isDig 32 = false := by decide
  cases r with
  | nil =>
    cases m with
    | zero => simp [tx] at hc
    | succ m =>
      simp [tx, List.replicate_succ] at hc
      subst hc; exact h32
  | cons x r =>
    obtain ⟨n, t⟩ := x
    obtain ⟨hg, hs, -⟩ := h
    cases n with
    | succ n =>
      simp [tx, List.replicate_succ] at hc
      subst hc; exact h32
    | zero =>
      have hk : plainB t = false := by
        cases hq : plainB t with
        | false => rfl
        | true => exact absurd (hs hp hq) (by omega)
      rcases hg with ⟨h0, _⟩ | ⟨h0, _⟩ | ⟨h0, c', h1, h2⟩
      · simp [plainB, h0] at hk
      · simp [plainB, h0] at hk
      · simp [tx, h1] at hc
        subst hc
        exact (sig_not _ h2).2
theorem runLen_app (p : UInt8 → Bool) (l r : List UInt8) (h : l.all p = true) (hr : ∀ c, r.head? = some c → p c = false) : runLen p (l ++ r) = l.length := by
  unfold runLen
  induction l with
  | nil =>
    cases r with
    | nil => rfl
    | cons c r => rw [List.nil_append, List.takeWhile_cons, if_neg (by rw [hr c rfl]; simp)]
  | cons c l ih =>
    rw [List.all_cons, Bool.and_eq_true] at h
    rw [List.cons_append, List.takeWhile_cons, if_pos h.1, List.length_cons, ih h.2, List.length_cons]
theorem scanF_step (f : Nat) (l : List UInt8) (k : Nat) (acc : List Tk) (h : l ≠ []) (h0 : stepE l = 0) : scanF (f + 1) l k acc = scanF f (l.drop (stepN l)) (k + stepN l) (acc ++ Lx.stepT l k) := by
  rw [scanF, if_neg h, if_neg (by rw [h0]; simp)]
theorem scanF_blank (f : Nat) (l : List UInt8) (k : Nat) (acc : List Tk) : scanF (f + 1) (32 :: l) k acc = scanF f l (k + 1) acc := by
  rw [scanF_step _ _ _ _ (by simp) (by simp [stepE])]
  simp [stepN, Lx.stepT]
theorem scanF_blanks (n f : Nat) (l : List UInt8) (k : Nat) (acc : List Tk) : scanF (f + n) (List.replicate n 32 ++ l) k acc = scanF f l (k + n) acc := by
  induction n generalizing k with
  | zero => rfl
  | succ n ih =>
    rw [List.replicate_succ, List.cons_append, show f + (n + 1) = (f + n) + 1 from rfl, scanF_blank, ih]
    congr 1; omega
theorem scanF_tok (f : Nat) (t : Tk) (r : List UInt8) (k : Nat) (acc : List Tk) (h : good t) (hr : plainB t = true → ∀ c, r.head? = some c → isLet c = false ∧ isDig c = false) :
    scanF (f + 1) (t.text ++ r) k acc = scanF f r (k + t.text.length) (acc ++ [⟨t.kind, t.text, k⟩]) := by
  rcases h with ⟨h0, h1, h2⟩ | ⟨h0, h1, h2, h3⟩ | ⟨h0, c, h1, h2⟩
  · unfold allB at h1
    rw [Bool.and_eq_true, decide_eq_true_eq] at h1
    have hrun := runLen_app isLet t.text r h1.1 (fun c hc => (hr (by simp [plainB, h0]) c hc).1)
    obtain ⟨c, l, hcl⟩ : ∃ c l, t.text = c :: l := by cases he : t.text with | nil => rw [he] at h1; simp at h1 | cons c l => exact ⟨c, l, rfl⟩
    have hlet : isLet c = true := by rw [hcl, List.all_cons, Bool.and_eq_true] at h1; exact h1.1.1
    obtain ⟨e1, e2⟩ := let_not _ hlet
    have hne : t.text ++ r = c :: (l ++ r) := by rw [hcl]; rfl
    have hE : stepE (t.text ++ r) = 0 := by
      rw [hne] at hrun ⊢
      simp only [stepE, if_neg e1, e2, Bool.false_eq_true, if_false, hlet, if_true]
      rw [hrun, if_neg (by omega)]
    have hN : stepN (t.text ++ r) = t.text.length := by
      rw [hne] at hrun ⊢
      simp only [stepN, if_neg e1, e2, Bool.false_eq_true, if_false, hlet, if_true]
      exact hrun
    have hT : Lx.stepT (t.text ++ r) k = [⟨0, t.text, k⟩] := by
      have hq : (t.text ++ r).take (runLen isLet (t.text ++ r)) = t.text := by rw [hrun, List.take_left]
      rw [hne] at hq ⊢
      simp only [Lx.stepT, if_neg e1, e2, Bool.false_eq_true, if_false, hlet, if_true]
      rw [hq]
    rw [scanF_step _ _ _ _ (by rw [hne]; simp) hE, hN, hT, List.drop_left, h0]
  · unfold allB at h1
    rw [Bool.and_eq_true, decide_eq_true_eq] at h1
    have hrun := runLen_app isDig t.text r h1.1 (fun c hc => (hr (by simp [plainB, h0]) c hc).2)
    obtain ⟨c, l, hcl⟩ : ∃ c l, t.text = c :: l := by cases he : t.text with | nil => rw [he] at h1; simp at h1 | cons c l => exact ⟨c, l, rfl⟩
    have hdig : isDig c = true := by rw [hcl, List.all_cons, Bool.and_eq_true] at h1; exact h1.1.1
    obtain ⟨e1, e2, e3⟩ := dig_not _ hdig
    have hne : t.text ++ r = c :: (l ++ r) := by rw [hcl]; rfl
    have hE : stepE (t.text ++ r) = 0 := by
      rw [hne] at hrun ⊢
      simp only [stepE, if_neg e1, e2, e3, Bool.false_eq_true, if_false, hdig, if_true]
      rw [hrun, if_neg (by omega), if_neg]
      rintro ⟨q1, q2⟩
      rcases h3 with h3 | h3
      · omega
      · exact h3 (by rw [hcl, q1]; rfl)
    have hN : stepN (t.text ++ r) = t.text.length := by
      rw [hne] at hrun ⊢
      simp only [stepN, if_neg e1, e2, e3, Bool.false_eq_true, if_false, hdig, if_true]
      exact hrun
    have hT : Lx.stepT (t.text ++ r) k = [⟨1, t.text, k⟩] := by
      have hq : (t.text ++ r).take (runLen isDig (t.text ++ r)) = t.text := by rw [hrun, List.take_left]
      rw [hne] at hq ⊢
      simp only [Lx.stepT, if_neg e1, e2, e3, Bool.false_eq_true, if_false, hdig, if_true]
      rw [hq]
    rw [scanF_step _ _ _ _ (by rw [hne]; simp) hE, hN, hT, List.drop_left, h0]
  · obtain ⟨e1, e2, e3⟩ := sig_not _ h2
    rw [h1, h0]
    rw [scanF_step _ _ _ _ (by simp) (by simp [stepE, e1, h2])]
    simp [stepN, Lx.stepT, e1, h2]
theorem good_pos {t : Tk} (h : good t) : 1 ≤ t.text.length := by
  rcases h with ⟨h0, h1, h2⟩ | ⟨h0, h1, h2, h3⟩ | ⟨h0, c, h1, h2⟩
  · unfold allB at h1; rw [Bool.and_eq_true, decide_eq_true_eq] at h1; omega
  · unfold allB at h1; rw [Bool.and_eq_true, decide_eq_true_eq] at h1; omega
  · rw [h1]; simp
/-- Scanning a text of right tokens: the tokens, up to their offsets. -/
theorem scan_tx (m : Nat) : ∀ (l : List (Nat × Tk)) (p : Bool) (f k : Nat) (acc : List Tk), okTx p l → (tx l).length + m < f → ∃ R k', scanF f (tx l ++ List.replicate m 32) k acc = (acc ++ R ++ [⟨3, [], k'⟩], 0, 0) ∧ R.map bareT = l.map (fun x => bareT x.2) := by
  intro l
  induction l with
  | nil =>
    intro p f k acc _ hf
    simp [tx] at hf
    obtain ⟨g, rfl⟩ : ∃ g, f = (g + 1) + m := ⟨f - m - 1, by omega⟩
    refine ⟨[], k + m, ?_, rfl⟩
    have := scanF_blanks m (g + 1) [] k acc
    rw [List.append_nil] at this
    rw [tx, List.nil_append, this, scanF, if_pos rfl, List.append_nil]; rfl
  | cons x l ih =>
    intro p f k acc h hf
    obtain ⟨n, t⟩ := x
    obtain ⟨hg, hs, ho⟩ := h
    have h1 := good_pos hg
    simp [tx] at hf
    obtain ⟨g, rfl⟩ : ∃ g, f = (g + 1) + n := ⟨f - n - 1, by omega⟩
    obtain ⟨R, k', hR, hm⟩ := ih (plainB t) g (k + n + t.text.length) (acc ++ [⟨t.kind, t.text, (k + n : Nat)⟩]) ho (by omega)
    refine ⟨⟨t.kind, t.text, (k + n : Nat)⟩ :: R, k', ?_, by simp [hm, bareT]⟩
    rw [tx, List.append_assoc, List.append_assoc, scanF_blanks, scanF_tok _ _ _ _ _ hg (fun hp c hc => head_no hp ho c hc), hR]
    simp
end Go.Proofs.Ytffcahhnaomegaa
