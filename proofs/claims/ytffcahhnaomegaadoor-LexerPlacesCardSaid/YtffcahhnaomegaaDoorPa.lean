/- LexerPlaces, plainly: where the tokens of a text lie, and that only blanks lie between them. -/
import Derived.Test.YtffcahhnaomegaaDoorLp
namespace Go.Proofs.YtffcahhnaomegaaDoor
open Go.RowKit Go.Proofs.Lx

/-- Only blanks from one place to another one. -/
def blanks (l : List UInt8) (a b : Nat) : Prop := ∀ j, a ≤ j → j < b → l[j]? = some 32
/-- Where the token before a token ends. -/
def endAt (L : List Tk) : Nat → Nat
  | 0 => 0
  | i + 1 => (tAt L i).pos.toNat + (tAt L i).text.length
/-- A token lies where it says, behind blanks. -/
def liesT (l : List UInt8) (L : List Tk) (i : Nat) : Prop :=
  ∃ p : Nat, (tAt L i).pos = p ∧ endAt L i ≤ p ∧ p + (tAt L i).text.length ≤ l.length ∧ blanks l (endAt L i) p ∧ (l.drop p).take (tAt L i).text.length = (tAt L i).text
theorem tAt_left (L M : List Tk) (i : Nat) (h : i < L.length) : tAt (L ++ M) i = tAt L i := by
  unfold tAt; rw [List.getD_eq_getElem?_getD, List.getD_eq_getElem?_getD, List.getElem?_append_left h]
theorem tAt_last (L : List Tk) (t : Tk) : tAt (L ++ [t]) L.length = t := by
  unfold tAt; rw [List.getD_eq_getElem?_getD]; simp
theorem endAt_left (L M : List Tk) (i : Nat) (h : i ≤ L.length) : endAt (L ++ M) i = endAt L i := by
  cases i with
  | zero => rfl
  | succ i => simp only [endAt]; rw [tAt_left L M i (by omega)]
theorem liesT_left {l : List UInt8} {L : List Tk} (M : List Tk) {i : Nat} (h : i < L.length) (hl : liesT l L i) : liesT l (L ++ M) i := by
  unfold liesT at *
  rw [tAt_left L M i h, endAt_left L M i (by omega)]
  exact hl
/-- The first tokens lie where they say, and only blanks are behind them up to a place. -/
def Pl (l : List UInt8) (L : List Tk) (k : Nat) : Prop := (∀ i, i < L.length → liesT l L i ∧ (tAt L i).kind ≠ 3) ∧ endAt L L.length ≤ k ∧ blanks l (endAt L L.length) k
theorem Pl.blank {l : List UInt8} {L : List Tk} {k : Nat} (h : Pl l L k) (hb : l[k]? = some 32) : Pl l L (k + 1) := by
  refine ⟨h.1, by have := h.2.1; omega, fun j h1 h2 => ?_⟩
  by_cases e : j = k
  · subst e; exact hb
  · exact h.2.2 j h1 (by omega)
theorem Pl.token {l : List UInt8} {L : List Tk} {k n : Nat} {t : Tk} (h : Pl l L k) (hp : t.pos = k) (hk : t.kind ≠ 3) (ht : t.text = (l.drop k).take n) (hn : k + n ≤ l.length) : Pl l (L ++ [t]) (k + n) := by
  have hlen : t.text.length = n := by rw [ht, List.length_take, List.length_drop]; omega
  refine ⟨fun i hi => ?_, ?_, ?_⟩
  · rw [List.length_append, List.length_singleton] at hi
    rcases Nat.lt_or_ge i L.length with h1 | h1
    · exact ⟨liesT_left _ h1 (h.1 i h1).1, by rw [tAt_left _ _ _ h1]; exact (h.1 i h1).2⟩
    · obtain rfl : i = L.length := by omega
      unfold liesT
      rw [tAt_last, endAt_left _ _ _ (Nat.le_refl _)]
      exact ⟨⟨k, hp, h.2.1, by omega, h.2.2, by rw [hlen, ht]⟩, hk⟩
  · rw [List.length_append, List.length_singleton]
    simp only [endAt]
    rw [tAt_last, hp, hlen]; simp
  · rw [List.length_append, List.length_singleton]
    simp only [endAt]
    rw [tAt_last, hp, hlen]
    intro j h1 h2
    simp at h1
    omega
theorem step_cases (m : List UInt8) (k : Nat) (h : m ≠ []) (h0 : stepE m = 0) :
    (m[0]? = some 32 ∧ stepN m = 1 ∧ Lx.stepT m k = []) ∨ (∃ t : Tk, Lx.stepT m k = [t] ∧ t.pos = k ∧ t.kind ≠ 3 ∧ t.text = m.take (stepN m)) := by
  cases m with
  | nil => exact absurd rfl h
  | cons c r =>
    simp only [stepE] at h0
    simp only [stepN, Lx.stepT]
    by_cases h1 : c = 32
    · subst h1; exact .inl ⟨rfl, rfl, rfl⟩
    rw [if_neg h1] at h0 ⊢
    rw [if_neg h1]
    by_cases h2 : isSig c = true
    · rw [if_pos h2, if_pos h2]; exact .inr ⟨_, rfl, rfl, by show (2 : Int) ≠ 3; omega, rfl⟩
    rw [if_neg h2] at h0 ⊢
    rw [if_neg h2]
    by_cases h3 : isLet c = true
    · rw [if_pos h3, if_pos h3]; exact .inr ⟨_, rfl, rfl, by show (0 : Int) ≠ 3; omega, rfl⟩
    rw [if_neg h3] at h0 ⊢
    rw [if_neg h3]
    by_cases h4 : isDig c = true
    · rw [if_pos h4, if_pos h4]; exact .inr ⟨_, rfl, rfl, by show (1 : Int) ≠ 3; omega, rfl⟩
    · rw [if_neg h4] at h0; omega
/-- The result of scanning: all tokens lie where they say; the last one, and no other, is the end. -/
theorem scanF_places (l : List UInt8) : ∀ (f k : Nat) (acc R : List Tk) (at_ : Nat), l.length - k < f → k ≤ l.length → Pl l acc k → scanF f (l.drop k) k acc = (R, at_, 0) → ∃ A, R = A ++ [⟨3, [], l.length⟩] ∧ Pl l A l.length := by
  intro f
  induction f with
  | zero => intro k acc R at_ h; omega
  | succ f ih =>
    intro k acc R at_ hf hk hP h
    rw [scanF] at h
    by_cases h0 : l.drop k = []
    · rw [if_pos h0] at h
      rw [List.drop_eq_nil_iff] at h0
      obtain rfl : k = l.length := by omega
      simp only [Prod.mk.injEq] at h
      exact ⟨acc, h.1.symm, hP⟩
    rw [if_neg h0] at h
    have hk2 : k < l.length := by rw [List.drop_eq_nil_iff] at h0; omega
    by_cases h1 : stepE (l.drop k) = 0
    · rw [if_neg (by simp [h1]), List.drop_drop] at h
      have hN := stepN_le (l.drop k)
      have hN1 := stepN_pos h0
      rw [List.length_drop] at hN
      refine ih (k + stepN (l.drop k)) _ R at_ (by omega) (by omega) ?_ h
      rcases step_cases (l.drop k) k h0 h1 with ⟨h2, h3, h4⟩ | ⟨t, h2, h3, h4, h5⟩
      · rw [h3, h4, List.append_nil]
        refine hP.blank ?_
        rw [List.getElem?_drop] at h2
        simpa using h2
      · rw [h2]
        exact hP.token h3 h4 h5 (by omega)
    · rw [if_pos h1] at h
      simp only [Prod.mk.injEq] at h
      exact absurd h.2.2 h1
theorem scanF_fail (l : List UInt8) : ∀ (f k : Nat) (acc R : List Tk) (at_ e : Nat), l.length - k < f → scanF f (l.drop k) k acc = (R, at_, e) → e ≠ 0 → R = [] ∧ at_ < l.length := by
  intro f
  induction f with
  | zero => intro k acc R at_ e h; omega
  | succ f ih =>
    intro k acc R at_ e hf h he
    rw [scanF] at h
    by_cases h0 : l.drop k = []
    · rw [if_pos h0] at h
      simp only [Prod.mk.injEq] at h
      exact absurd h.2.2.symm he
    rw [if_neg h0] at h
    have hk2 : k < l.length := by rw [List.drop_eq_nil_iff] at h0; omega
    by_cases h1 : stepE (l.drop k) = 0
    · rw [if_neg (by simp [h1]), List.drop_drop] at h
      have hN1 := stepN_pos h0
      exact ih (k + stepN (l.drop k)) _ R at_ e (by omega) h he
    · rw [if_pos h1] at h
      simp only [Prod.mk.injEq] at h
      exact ⟨h.1.symm, by omega⟩
theorem scan_fail {l : List UInt8} {R : List Tk} {at_ e : Nat} (hl : l.length ≤ 1500) (h : scanR l = (R, at_, e)) (he : e ≠ 0) : R = [] ∧ at_ < l.length := by
  unfold scanR at h
  rw [if_neg (by omega)] at h
  exact scanF_fail l (l.length + 1) 0 [] R at_ e (by omega) h he
/-- All tokens of a text lie where they say. -/
theorem scan_places {l : List UInt8} {R : List Tk} {at_ : Nat} (hl : l.length ≤ 1500) (h : scanR l = (R, at_, 0)) : 0 < R.length ∧ endAt R R.length = l.length ∧ ∀ i, i < R.length → liesT l R i ∧ ((tAt R i).kind = 3 ↔ i + 1 = R.length) := by
  unfold scanR at h
  rw [if_neg (by omega)] at h
  obtain ⟨A, rfl, h1, h2, h3⟩ := scanF_places l (l.length + 1) 0 [] R at_ (by omega) (by omega) ⟨fun i hi => by simp at hi, Nat.le_refl _, fun j h1 h2 => by simp at h2⟩ h
  refine ⟨by simp, ?_, fun i hi => ?_⟩
  · rw [List.length_append, List.length_singleton]
    simp only [endAt]
    rw [tAt_last]; simp
  · rw [List.length_append, List.length_singleton] at hi
    rcases Nat.lt_or_ge i A.length with h4 | h4
    · refine ⟨liesT_left _ h4 (h1 i h4).1, ?_⟩
      rw [tAt_left _ _ _ h4, List.length_append, List.length_singleton]
      exact ⟨fun h => absurd h (h1 i h4).2, fun h => by omega⟩
    · obtain rfl : i = A.length := by omega
      unfold liesT
      rw [tAt_last, endAt_left _ _ _ (Nat.le_refl _)]
      refine ⟨⟨l.length, rfl, h2, by simp, h3, by simp⟩, by simp⟩
theorem dropWhile_blanks (l : List UInt8) (h : ∀ j, j < l.length → l[j]? = some 32) : l.dropWhile (· == 32) = [] := by
  induction l with
  | nil => rfl
  | cons c r ih =>
    have h0 := h 0 (by simp)
    simp at h0
    subst h0
    rw [List.dropWhile_cons, if_pos (by rfl)]
    exact ih (fun j hj => by have := h (j + 1) (by simpa using hj); simpa using this)
end Go.Proofs.YtffcahhnaomegaaDoor
