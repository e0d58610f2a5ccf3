/- The joined text is a text of right tokens; what Scan returns are right tokens. -/
import Derived.Test.YtffcahhnaomegaaMi
import Derived.Test.YtffcahhnaomegaaMa
namespace Go.Proofs.Ytffcahhnaomegaa
open Go.RowKit Go.Proofs.Lx

/-- Tokens with the blanks that joining puts before them. -/
def pr : Bool → List Tk → List (Nat × Tk)
  | _, [] => []
  | p, t :: r => ((if p = true ∧ plainB t = true then 1 else 0), t) :: pr (plainB t) r
theorem pr_ok (p : Bool) (L : List Tk) (h : ∀ t ∈ L, good t) : okTx p (pr p L) := by
  induction L generalizing p with
  | nil => trivial
  | cons t r ih =>
    exact ⟨h t (by simp), fun h1 h2 => by rw [if_pos ⟨h1, h2⟩]; omega, ih _ (fun u hu => h u (by simp [hu]))⟩
theorem pr_snd (p : Bool) (L : List Tk) (g : Tk → Tk) : (pr p L).map (fun x => g x.2) = L.map g := by
  induction L generalizing p with
  | nil => rfl
  | cons t r ih => simp [pr, ih]
theorem jl_tx (L s : List Tk) : ∀ (r : List Tk) (i : Nat), L.drop i = r ++ s → jl L (i + r.length) = jl L i ++ tx (pr (decide (0 < i) && plainB (tAt L (i - 1))) r) := by
  intro r
  induction r with
  | nil => intro i _; simp [pr, tx]
  | cons t r ih =>
    intro i h
    have hi : i < L.length := by
      rcases Nat.lt_or_ge i L.length with h1 | h1
      · exact h1
      · rw [List.drop_eq_nil_of_le h1] at h; simp at h
    rw [List.drop_eq_getElem_cons hi, tAt_get, List.cons_append] at h
    injection h with h1 h2
    have := ih (i + 1) h2
    rw [List.length_cons, show i + (r.length + 1) = i + 1 + r.length by omega, this, jl]
    have hs : sepL L i = List.replicate (if (decide (0 < i) && plainB (tAt L (i - 1))) = true ∧ plainB t = true then 1 else 0) 32 := by
      unfold sepL
      rw [h1]
      by_cases hc : 0 < i ∧ plainB (tAt L (i - 1)) = true ∧ plainB t = true
      · rw [if_pos hc, if_pos ⟨by simp [hc.1, hc.2.1], hc.2.2⟩]; rfl
      · rw [if_neg hc, if_neg]
        · rfl
        · rintro ⟨e1, e2⟩
          rw [Bool.and_eq_true, decide_eq_true_eq] at e1
          exact hc ⟨e1.1, e1.2, e2⟩
    rw [hs, pr, tx, h1, show (decide (0 < i + 1) && plainB (tAt L (i + 1 - 1))) = plainB t by rw [Nat.add_sub_cancel, h1]; simp]
    simp [List.append_assoc]
theorem tAt_app (R : List Tk) (e : Tk) : tAt (R ++ [e]) R.length = e := by
  rw [← tAt_get _ _ (by simp)]; simp
theorem jl_all (R : List Tk) (e : Tk) (h3 : e.kind = 3) (ht : e.text = []) : jl (R ++ [e]) (R ++ [e]).length = tx (pr false R) := by
  have h1 := jl_tx (R ++ [e]) [e] R 0 rfl
  rw [Nat.zero_add] at h1
  have h2 : sepL (R ++ [e]) R.length = [] := by
    unfold sepL
    rw [if_neg]
    rw [tAt_app]
    rintro ⟨-, -, h⟩
    simp [plainB, h3] at h
  rw [List.length_append, List.length_singleton, jl, h1, tAt_app, ht, h2]
  simp [jl]
theorem tAt_bare (L : List Tk) (j : Nat) : tAt (L.map bareT) j = bareT (tAt L j) := by
  unfold tAt
  rw [List.getD_eq_getElem?_getD, List.getD_eq_getElem?_getD, List.getElem?_map]
  cases L[j]? <;> rfl
theorem jl_bare (L : List Tk) (n : Nat) : jl (L.map bareT) n = jl L n := by
  induction n with
  | zero => rfl
  | succ n ih =>
    rw [jl, jl, ih, tAt_bare]
    have : sepL (L.map bareT) n = sepL L n := by unfold sepL; rw [tAt_bare, tAt_bare]; rfl
    rw [this]; rfl
theorem jl_same {L M : List Tk} (h : L.map bareT = M.map bareT) : jl L L.length = jl M M.length := by
  have hl : L.length = M.length := by have := congrArg List.length h; simpa using this
  rw [← jl_bare L, ← jl_bare M, h, hl]

/-- Tokens as Scan returns them: right ones, and the end. -/
def full (L : List Tk) : Prop := ∃ R e, L = R ++ [e] ∧ (∀ t ∈ R, good t) ∧ e.kind = 3 ∧ e.text = []
theorem full_pos {L : List Tk} (h : full L) : 0 < L.length := by
  obtain ⟨R, e, rfl, -⟩ := h; simp
theorem full_form {L : List Tk} (h : full L) : ∀ j, j < L.length → formAt L j = 0 := by
  obtain ⟨R, e, rfl, hg, h3, ht⟩ := h
  intro j hj
  unfold formAt
  rw [← tAt_get _ _ hj]
  by_cases hq : j < R.length
  · rw [List.getElem_append_left hq]
    exact good_form (hg _ (List.getElem_mem hq))
  · simp at hj
    obtain rfl : j = R.length := by omega
    simp [formE, h3, ht]
theorem full_join {L : List Tk} (h : full L) (hl : L.length ≤ 4097) : joinR L = joinedR L := by
  unfold joinR joinedR
  rw [if_neg (by omega), firstE_zero (full_form h), if_neg (by simp), if_neg]
  obtain ⟨R, e, rfl, hg, h3, ht⟩ := h
  rintro (h | h)
  · simp at h
  · apply h
    rw [List.length_append, List.length_singleton, Nat.add_sub_cancel, tAt_app, h3]
theorem full_text {L : List Tk} (h : full L) (j : Nat) (hj : j < L.length) : (tAt L j).text.length ≤ 1024 := by
  obtain ⟨R, e, rfl, hg, h3, ht⟩ := h
  rw [← tAt_get _ _ hj]
  by_cases hq : j < R.length
  · rw [List.getElem_append_left hq]
    exact good_len (hg _ (List.getElem_mem hq))
  · simp at hj
    obtain rfl : j = R.length := by omega
    simp [ht]
/-- Where Join returns a text, the tokens are right. -/
theorem join_full {L : List Tk} {s : List UInt8} (h : joinR L = (s, 0)) : full L ∧ L.length ≤ 4097 ∧ s = jl L L.length ∧ s.length ≤ 4096 := by
  unfold joinR at h
  by_cases h1 : 4097 < L.length
  · rw [if_pos h1] at h; simp at h
  rw [if_neg h1] at h
  by_cases h2 : firstE (formAt L) L.length ≠ 0
  · rw [if_pos h2] at h; injection h with _ h; exact absurd h h2
  rw [if_neg h2] at h
  by_cases h3 : L = [] ∨ (tAt L (L.length - 1)).kind ≠ 3
  · rw [if_pos h3] at h; simp at h
  rw [if_neg h3] at h
  by_cases h4 : 4096 < (jl L L.length).length
  · rw [if_pos h4] at h; simp at h
  rw [if_neg h4] at h
  injection h with h _
  refine ⟨?_, by omega, h.symm, by rw [← h]; omega⟩
  have hne : L ≠ [] := fun e => h3 (.inl e)
  have hk : (tAt L (L.length - 1)).kind = 3 := Classical.byContradiction fun e => h3 (.inr e)
  have hz := firstE_all (Classical.byContradiction h2)
  have hlen : 0 < L.length := List.length_pos_iff.2 hne
  refine ⟨L.dropLast, L.getLast hne, (List.dropLast_concat_getLast hne).symm, fun t ht => ?_, ?_, ?_⟩
  · obtain ⟨j, hj, rfl⟩ := List.getElem_of_mem ht
    rw [List.length_dropLast] at hj
    have := hz j (by omega)
    unfold formAt at this
    rw [decide_eq_false (by omega)] at this
    rw [List.getElem_dropLast, tAt_get]
    exact form_good this
  · rw [List.getLast_eq_getElem, tAt_get]; exact hk
  · have := hz (L.length - 1) (by omega)
    unfold formAt at this
    rw [decide_eq_true (by omega)] at this
    rw [List.getLast_eq_getElem, tAt_get]
    unfold formE at this
    rw [hk] at this
    simp at this
    exact this

theorem takeWhile_all (p : UInt8 → Bool) (l : List UInt8) : (l.takeWhile p).all p = true := by
  induction l with
  | nil => rfl
  | cons c r ih =>
    rw [List.takeWhile_cons]
    by_cases h : p c = true
    · rw [if_pos h, List.all_cons, h, ih]; rfl
    · rw [if_neg h]; rfl
theorem take_run (p : UInt8 → Bool) (l : List UInt8) : l.take (runLen p l) = l.takeWhile p := by
  unfold runLen
  induction l with
  | nil => rfl
  | cons c r ih =>
    rw [List.takeWhile_cons]
    by_cases h : p c = true
    · rw [if_pos h, List.length_cons, List.take_succ_cons, ih]
    · rw [if_neg h]; rfl
theorem step_good (l : List UInt8) (k : Nat) (h : stepE l = 0) : ∀ t ∈ Lx.stepT l k, good t := by
  intro t ht
  cases l with
  | nil => simp [Lx.stepT] at ht
  | cons c r =>
    simp only [Lx.stepT] at ht
    simp only [stepE] at h
    by_cases h1 : c = 32
    · rw [if_pos h1] at ht; simp at ht
    rw [if_neg h1] at ht h
    by_cases h2 : isSig c = true
    · rw [if_pos h2] at ht
      simp at ht
      subst ht
      exact .inr (.inr ⟨rfl, c, rfl, h2⟩)
    rw [if_neg h2] at ht h
    by_cases h3 : isLet c = true
    · rw [if_pos h3] at ht h
      simp only [List.mem_singleton] at ht
      subst ht
      by_cases h4 : 24 < runLen isLet (c :: r)
      · rw [if_pos h4] at h; omega
      · refine .inl ⟨rfl, ?_, ?_⟩
        · show allB isLet ((c :: r).take (runLen isLet (c :: r))) = true
          rw [take_run]
          unfold allB
          rw [takeWhile_all, Bool.true_and, decide_eq_true_eq]
          exact runLen_pos h3
        · show ((c :: r).take (runLen isLet (c :: r))).length ≤ 24
          rw [List.length_take]; omega
    rw [if_neg h3] at ht h
    by_cases h5 : isDig c = true
    · rw [if_pos h5] at ht h
      simp only [List.mem_singleton] at ht
      subst ht
      by_cases h4 : 1024 < runLen isDig (c :: r)
      · rw [if_pos h4] at h; omega
      rw [if_neg h4] at h
      by_cases h6 : c = 48 ∧ 1 < runLen isDig (c :: r)
      · rw [if_pos h6] at h; omega
      · refine .inr (.inl ⟨rfl, ?_, ?_, ?_⟩)
        · show allB isDig ((c :: r).take (runLen isDig (c :: r))) = true
          rw [take_run]
          unfold allB
          rw [takeWhile_all, Bool.true_and, decide_eq_true_eq]
          exact runLen_pos h5
        · show ((c :: r).take (runLen isDig (c :: r))).length ≤ 1024
          rw [List.length_take]; omega
        · show ((c :: r).take (runLen isDig (c :: r))).length ≤ 1 ∨ ((c :: r).take (runLen isDig (c :: r)))[0]? ≠ some 48
          by_cases h7 : runLen isDig (c :: r) ≤ 1
          · left; rw [List.length_take]; omega
          · right
            rw [List.getElem?_take, if_pos (by omega)]
            simp only [List.getElem?_cons_zero, ne_eq, Option.some.injEq]
            exact fun e => h6 ⟨e, by omega⟩
    · rw [if_neg h5] at ht; simp at ht
theorem scanF_good (f : Nat) (l : List UInt8) (k : Nat) (acc : List Tk) (R : List Tk) (at_ : Nat) (hf : l.length < f) (ha : ∀ t ∈ acc, good t) (h : scanF f l k acc = (R, at_, 0)) : at_ = 0 ∧ full R := by
  induction f generalizing l k acc with
  | zero => omega
  | succ f ih =>
    rw [scanF] at h
    by_cases h0 : l = []
    · rw [if_pos h0] at h
      simp only [Prod.mk.injEq] at h
      exact ⟨h.2.1.symm, acc, _, h.1.symm, ha, rfl, rfl⟩
    rw [if_neg h0] at h
    by_cases h1 : stepE l = 0
    · rw [if_neg (by simp [h1])] at h
      have h2 := stepN_pos h0
      have h3 := stepN_le l
      refine ih _ _ _ (by rw [List.length_drop]; omega) (fun t ht => ?_) h
      rcases List.mem_append.1 ht with ht | ht
      · exact ha t ht
      · exact step_good l k h1 t ht
    · rw [if_pos h1] at h
      simp only [Prod.mk.injEq] at h
      exact absurd h.2.2 h1
theorem scan_full {l : List UInt8} {R : List Tk} {at_ : Nat} (h : scanR l = (R, at_, 0)) : at_ = 0 ∧ full R ∧ l.length ≤ 4096 := by
  unfold scanR at h
  by_cases h1 : 4096 < l.length
  · rw [if_pos h1] at h; simp at h
  · rw [if_neg h1] at h
    obtain ⟨h2, h3⟩ := scanF_good _ _ _ _ _ _ (by omega) (by simp) h
    exact ⟨h2, h3, by omega⟩
/-- Scanning the joined text gives the tokens again, up to their offsets. -/
theorem scan_again {L : List Tk} (h : full L) (hl : (jl L L.length).length ≤ 4096) : ∃ M, scanR (jl L L.length) = (M, 0, 0) ∧ M.map bareT = L.map bareT := by
  obtain ⟨R, e, rfl, hg, h3, ht⟩ := h
  rw [jl_all R e h3 ht] at hl ⊢
  obtain ⟨M, k', h1, h2⟩ := scan_tx 0 (pr false R) false ((tx (pr false R)).length + 1) 0 [] (pr_ok _ _ hg) (by omega)
  unfold scanR
  rw [if_neg (by omega)]
  rw [show tx (pr false R) ++ List.replicate 0 32 = tx (pr false R) by simp] at h1
  refine ⟨_, h1, ?_⟩
  rw [pr_snd] at h2
  obtain ⟨kd, te, po⟩ := e
  simp at h3 ht
  subst h3 ht
  simp [h2, bareT]
end Go.Proofs.Ytffcahhnaomegaa
