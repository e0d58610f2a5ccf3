/- LexerBlanks, plainly: the text with more blanks, its length, its tokens. -/
import Derived.Test.YtffcahhnaomegaaMl
namespace Go.Proofs.Ytffcahhnaomegaa
open Go.RowKit Go.Proofs.Lx

theorem tx_app (a b : List (Nat × Tk)) : tx (a ++ b) = tx a ++ tx b := by
  induction a with
  | nil => rfl
  | cons x a ih => obtain ⟨n, t⟩ := x; simp [tx, ih]
/-- So many blanks and a token, for the first tokens. -/
def bx (c : Nat) (L : List Tk) (i : Nat) : List UInt8 := tx ((L.take i).map (fun t => (c, t)))
theorem bx_zero (c : Nat) (L : List Tk) : bx c L 0 = [] := rfl
theorem bx_succ (c : Nat) (L : List Tk) (i : Nat) (h : i < L.length) : bx c L (i + 1) = bx c L i ++ (List.replicate c 32 ++ (tAt L i).text) := by
  unfold bx
  rw [List.take_succ_eq_append_getElem h, List.map_append, tx_app, tAt_get]
  simp [tx]
/-- The length of the texts of tokens. -/
def tot (L : List Tk) : Nat := (L.map (fun t => t.text.length)).sum
theorem tot_app (a b : List Tk) : tot (a ++ b) = tot a + tot b := by simp [tot]
theorem stepT_tot (l : List UInt8) (k : Nat) : tot (Lx.stepT l k) ≤ stepN l := by
  cases l with
  | nil => simp [Lx.stepT, tot]
  | cons c r =>
    simp only [Lx.stepT, stepN]
    by_cases h1 : c = 32
    · rw [if_pos h1, if_pos h1]; simp [tot]
    rw [if_neg h1, if_neg h1]
    by_cases h2 : isSig c = true
    · rw [if_pos h2, if_pos h2]; simp [tot]
    rw [if_neg h2, if_neg h2]
    by_cases h3 : isLet c = true
    · rw [if_pos h3, if_pos h3]; simp [tot]; omega
    rw [if_neg h3, if_neg h3]
    by_cases h4 : isDig c = true
    · rw [if_pos h4, if_pos h4]; simp [tot]; omega
    · rw [if_neg h4, if_neg h4]; simp [tot]
theorem scanF_tot (f : Nat) (l : List UInt8) (k : Nat) (acc : List Tk) : tot (scanF f l k acc).1 ≤ tot acc + l.length := by
  induction f generalizing l k acc with
  | zero => simp [scanF, tot]
  | succ f ih =>
    rw [scanF]
    by_cases h0 : l = []
    · rw [if_pos h0, tot_app]; simp [tot]
    rw [if_neg h0]
    by_cases h1 : stepE l ≠ 0
    · rw [if_pos h1]; simp [tot]
    rw [if_neg h1]
    refine Nat.le_trans (ih _ _ _) ?_
    have h3 := stepN_le l
    have h4 := stepT_tot l k
    rw [tot_app, List.length_drop]; omega
theorem scanR_tot (l : List UInt8) : tot (scanR l).1 ≤ l.length ∧ (scanR l).1.length ≤ l.length + 1 := by
  unfold scanR
  by_cases h : 4096 < l.length
  · rw [if_pos h]; simp [tot]
  · rw [if_neg h]
    have h1 := scanF_tot (l.length + 1) l 0 []
    have h2 := scanF_len (l.length + 1) l 0 []
    simp [tot] at h1 h2 ⊢
    exact ⟨h1, h2⟩
theorem tx_len (c : Nat) (L : List Tk) : (tx (L.map (fun t => (c, t)))).length = c * L.length + tot L := by
  induction L with
  | nil => rfl
  | cons t r ih =>
    simp only [List.map_cons, tx, List.length_append, List.length_replicate, ih, List.length_cons]
    simp [tot, Nat.mul_succ]; omega
theorem bx_all (c : Nat) (L : List Tk) : bx c L L.length = tx (L.map (fun t => (c, t))) := by unfold bx; rw [List.take_length]
theorem bx_len (c : Nat) (L : List Tk) (i : Nat) (hc : c ≤ 4) (hL : L.length ≤ 401) (ht : tot L ≤ 400) : (bx c L i).length ≤ 2004 := by
  unfold bx
  rw [tx_len]
  have h1 : (L.take i).length ≤ L.length := by rw [List.length_take]; omega
  have h2 : tot (L.take i) ≤ tot L := by
    have := tot_app (L.take i) (L.drop i)
    rw [List.take_append_drop] at this
    omega
  have h3 : c * (L.take i).length ≤ 4 * 401 := Nat.mul_le_mul hc (by omega)
  omega
/-- More blanks change nothing but offsets. -/
theorem blanks_again {L : List Tk} (h : full L) (c : Nat) (hc : 0 < c) (hl : (bx c L L.length).length ≤ 4096) : ∃ M, scanR (bx c L L.length) = (M, 0, 0) ∧ M.map bareT = L.map bareT := by
  rw [bx_all] at hl ⊢
  obtain ⟨R, e, rfl, hg, h3, ht⟩ := h
  have ho : ∀ (R : List Tk) (p : Bool), (∀ t ∈ R, good t) → okTx p (R.map (fun t => (c, t))) := by
    intro R
    induction R with
    | nil => intro p _; trivial
    | cons t r ih => intro p h; exact ⟨h t (by simp), fun _ _ => hc, ih _ (fun u hu => h u (by simp [hu]))⟩
  have hx : tx ((R ++ [e]).map (fun t => (c, t))) = tx (R.map (fun t => (c, t))) ++ List.replicate c 32 := by
    rw [List.map_append, tx_app]; simp [tx, ht]
  rw [hx] at hl ⊢
  obtain ⟨M, k', h1, h2⟩ := scan_tx c (R.map (fun t => (c, t))) false ((tx (R.map (fun t => (c, t))) ++ List.replicate c 32).length + 1) 0 [] (ho R false hg) (by simp)
  unfold scanR
  rw [if_neg (by omega)]
  refine ⟨_, h1, ?_⟩
  obtain ⟨kd, te, po⟩ := e
  simp at h3 ht
  subst h3 ht
  simp [h2, bareT]
end Go.Proofs.Ytffcahhnaomegaa
