/- Nesting of brackets, plainly; the reference's sorts of brackets. -/
import Derived.Test.YtffcahhnaomegaaLu
namespace Go.Proofs.Ytffcahhnaomegaa
open Go.RowKit Go.Proofs.Lx

theorem opn_clo (t : Tk) (h : opn t ≠ 0) : clo t = 0 := by
  unfold opn at h
  unfold clo
  by_cases h0 : t.kind = 2
  · rw [if_pos h0] at h ⊢
    by_cases h1 : t.text = [40]
    · rw [h1]; decide
    rw [if_neg h1] at h
    by_cases h2 : t.text = [91]
    · rw [h2]; decide
    rw [if_neg h2] at h
    by_cases h3 : t.text = [123]
    · rw [h3]; decide
    rw [if_neg h3] at h
    exact absurd rfl h
  · rw [if_neg h0] at h; exact absurd rfl h

/-- Where a bracket closes: between here and the end, by the bracket that is awaited first. -/
theorem close_where (L : List Tk) (e : Nat) : ∀ (d i : Nat) (c : UInt8) (r : List UInt8), L.length ≤ i + d → closeF (L.drop i) i (c :: r) = (e, 0) → i ≤ e ∧ e < L.length ∧ opn (tAt L e) = 0 ∧ clo (tAt L e) = c
  | 0, i, c, r, hd, h => by
    rw [close_end L i _ (by omega)] at h
    simp at h
  | d + 1, i, c, r, hd, h => by
    by_cases hi : i < L.length
    · by_cases ho : opn (tAt L i) = 0
      · by_cases hc : clo (tAt L i) = 0
        · rw [close_skip L i _ hi ho hc] at h
          obtain ⟨h1, h2⟩ := close_where L e d (i + 1) c r (by omega) h
          exact ⟨by omega, h2⟩
        · by_cases hs : (c :: r).getLast? = some (clo (tAt L i))
          · by_cases h1 : (c :: r).length = 1
            · rw [close_done L i _ hi ho hc hs h1] at h
              have he : i = e := by injection h
              subst he
              have hr : r = [] := by cases r with | nil => rfl | cons x y => simp at h1
              subst hr
              simp at hs
              exact ⟨by omega, hi, ho, hs.symm⟩
            · rw [close_pop L i _ hi ho hc hs h1] at h
              cases r with
              | nil => simp at h1
              | cons x y =>
                rw [show (c :: x :: y).dropLast = c :: (x :: y).dropLast from rfl] at h
                obtain ⟨h1, h2⟩ := close_where L e d (i + 1) c _ (by omega) h
                exact ⟨by omega, h2⟩
          · rw [close_wrong L i _ hi ho hc hs] at h
            simp at h
      · rw [close_open L i _ hi ho] at h
        obtain ⟨h1, h2⟩ := close_where L e d (i + 1) c (r ++ [opn (tAt L i)]) (by omega) h
        exact ⟨by omega, h2⟩
    · rw [close_end L i _ (by omega)] at h
      simp at h

/-- What is opened inside is closed inside. -/
theorem close_split (L : List Tk) (e : Nat) (c : UInt8) : ∀ (d i : Nat) (x : UInt8) (st : List UInt8), L.length ≤ i + d → closeF (L.drop i) i (c :: x :: st) = (e, 0) → ∃ k, closeF (L.drop i) i (x :: st) = (k, 0) ∧ i ≤ k ∧ k < e ∧ closeF (L.drop (k + 1)) (k + 1) [c] = (e, 0)
  | 0, i, x, st, hd, h => by
    rw [close_end L i _ (by omega)] at h
    simp at h
  | d + 1, i, x, st, hd, h => by
    by_cases hi : i < L.length
    · by_cases ho : opn (tAt L i) = 0
      · by_cases hc : clo (tAt L i) = 0
        · rw [close_skip L i _ hi ho hc] at h
          obtain ⟨k, h1, h2, h3⟩ := close_split L e c d (i + 1) x st (by omega) h
          exact ⟨k, by rw [close_skip L i _ hi ho hc]; exact h1, by omega, h3⟩
        · by_cases hs : (c :: x :: st).getLast? = some (clo (tAt L i))
          · rw [close_pop L i _ hi ho hc hs (by simp)] at h
            have hs2 : (x :: st).getLast? = some (clo (tAt L i)) := by rw [← hs]; simp
            cases st with
            | nil =>
              have h0 : closeF (L.drop (i + 1)) (i + 1) [c] = (e, 0) := h
              have h1 := close_where L e d (i + 1) c [] (by omega) h0
              exact ⟨i, close_done L i _ hi ho hc hs2 rfl, Nat.le_refl _, by omega, h0⟩
            | cons y r =>
              rw [show (c :: x :: y :: r).dropLast = c :: x :: (y :: r).dropLast from rfl] at h
              obtain ⟨k, h1, h2, h3⟩ := close_split L e c d (i + 1) x _ (by omega) h
              exact ⟨k, by rw [close_pop L i _ hi ho hc hs2 (by simp)]; exact h1, by omega, h3⟩
          · rw [close_wrong L i _ hi ho hc hs] at h
            simp at h
      · rw [close_open L i _ hi ho] at h
        obtain ⟨k, h1, h2, h3⟩ := close_split L e c d (i + 1) x (st ++ [opn (tAt L i)]) (by omega) h
        exact ⟨k, by rw [close_open L i _ hi ho]; exact h1, by omega, h3⟩
    · rw [close_end L i _ (by omega)] at h
      simp at h

/-- The sort of an opening bracket, from 1 to 3, or 0; of a closing one. -/
def opI (t : Tk) : Nat := if t.kind = 2 then (if t.text = [40] then 1 else if t.text = [91] then 2 else if t.text = [123] then 3 else 0) else 0
def clI (t : Tk) : Nat := if t.kind = 2 then (if t.text = [41] then 1 else if t.text = [93] then 2 else if t.text = [125] then 3 else 0) else 0
def srt (c : UInt8) : Nat := if c = 41 then 1 else if c = 93 then 2 else if c = 125 then 3 else 0
theorem opI_eq (t : Tk) : opI t = srt (opn t) := by
  unfold opI opn
  by_cases h0 : t.kind = 2
  · rw [if_pos h0, if_pos h0]
    by_cases h1 : t.text = [40]
    · rw [if_pos h1, if_pos h1]; rfl
    rw [if_neg h1, if_neg h1]
    by_cases h2 : t.text = [91]
    · rw [if_pos h2, if_pos h2]; rfl
    rw [if_neg h2, if_neg h2]
    by_cases h3 : t.text = [123]
    · rw [if_pos h3, if_pos h3]; rfl
    rw [if_neg h3, if_neg h3]; rfl
  · rw [if_neg h0, if_neg h0]; rfl
theorem clI_eq (t : Tk) : clI t = srt (clo t) := by
  unfold clI clo
  by_cases h0 : t.kind = 2
  · rw [if_pos h0, if_pos h0]
    by_cases h1 : t.text = [41]
    · rw [if_pos h1, if_pos h1]; rfl
    rw [if_neg h1, if_neg h1]
    by_cases h2 : t.text = [93]
    · rw [if_pos h2, if_pos h2]; rfl
    rw [if_neg h2, if_neg h2]
    by_cases h3 : t.text = [125]
    · rw [if_pos h3, if_pos h3]; rfl
    rw [if_neg h3, if_neg h3]; rfl
  · rw [if_neg h0, if_neg h0]; rfl
theorem opn_srt (t : Tk) : opn t = 0 ∨ srt (opn t) ≠ 0 := by
  unfold opn
  by_cases h0 : t.kind = 2
  · rw [if_pos h0]
    by_cases h1 : t.text = [40]
    · rw [if_pos h1]; exact .inr (by decide)
    rw [if_neg h1]
    by_cases h2 : t.text = [91]
    · rw [if_pos h2]; exact .inr (by decide)
    rw [if_neg h2]
    by_cases h3 : t.text = [123]
    · rw [if_pos h3]; exact .inr (by decide)
    rw [if_neg h3]; exact .inl rfl
  · rw [if_neg h0]; exact .inl rfl
end Go.Proofs.Ytffcahhnaomegaa
