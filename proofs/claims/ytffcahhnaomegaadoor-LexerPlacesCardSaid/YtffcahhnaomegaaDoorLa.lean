/- Texts and tokens: what scanning a text comes to. No program is named. -/
import Derived.Below
namespace Go.Proofs.Lx

def isLet (c : UInt8) : Bool := decide (97 ≤ c.toNat) && decide (c.toNat ≤ 122)
def isDig (c : UInt8) : Bool := decide (48 ≤ c.toNat) && decide (c.toNat ≤ 57)
def sigs : List UInt8 := [44, 59, 58, 40, 41, 123, 125, 91, 93, 61, 43, 45, 42, 47, 60, 62, 46]
def isSig (c : UInt8) : Bool := sigs.contains c

/-- A token: its kind, its text, its offset. -/
structure Tk where
  kind : Int
  text : List UInt8
  pos : Int
deriving DecidableEq

/-- The length of the longest beginning whose bytes have a property. -/
def runLen (p : UInt8 → Bool) (l : List UInt8) : Nat := (l.takeWhile p).length

/-- The error of the first token of a text, or 0. -/
def stepE (l : List UInt8) : Nat :=
  match l with
  | [] => 0
  | c :: _ =>
    if c = 32 then 0 else if isSig c then 0
    else if isLet c then (if 24 < runLen isLet l then 19 else 0)
    else if isDig c then (if 1024 < runLen isDig l then 11 else if c = 48 ∧ 1 < runLen isDig l then 3 else 0)
    else 4
/-- The number of bytes of the first token of a text, or of a blank. -/
def stepN (l : List UInt8) : Nat :=
  match l with
  | [] => 0
  | c :: _ => if c = 32 then 1 else if isSig c then 1 else if isLet c then runLen isLet l else if isDig c then runLen isDig l else 1
/-- The first token of a text, if no blank is there. -/
def stepT (l : List UInt8) (k : Nat) : List Tk :=
  match l with
  | [] => []
  | c :: _ => if c = 32 then [] else if isSig c then [⟨2, [c], k⟩] else if isLet c then [⟨0, l.take (runLen isLet l), k⟩] else if isDig c then [⟨1, l.take (runLen isDig l), k⟩] else []

/-- Scanning: the tokens, the offset, the error; beside an error there are no tokens. -/
def scanF : Nat → List UInt8 → Nat → List Tk → List Tk × Nat × Nat
  | 0, _, _, _ => ([], 0, 0)
  | f + 1, l, k, acc =>
    if l = [] then (acc ++ [⟨3, [], k⟩], 0, 0)
    else if stepE l ≠ 0 then ([], k, stepE l)
    else scanF f (l.drop (stepN l)) (k + stepN l) (acc ++ stepT l k)
/-- What Scan comes to. -/
def scanR (l : List UInt8) : List Tk × Nat × Nat := if 4096 < l.length then ([], 0, 19) else scanF (l.length + 1) l 0 []

theorem runLen_le (p : UInt8 → Bool) (l : List UInt8) : runLen p l ≤ l.length := by
  unfold runLen
  induction l with
  | nil => simp
  | cons c r ih => rw [List.takeWhile_cons]; split <;> simp <;> omega
theorem runLen_pos {p : UInt8 → Bool} {c : UInt8} {r : List UInt8} (h : p c = true) : 1 ≤ runLen p (c :: r) := by
  unfold runLen; rw [List.takeWhile_cons, if_pos h]; simp
theorem stepN_pos {l : List UInt8} (h : l ≠ []) : 1 ≤ stepN l := by
  cases l with
  | nil => exact absurd rfl h
  | cons c r =>
    simp only [stepN]
    by_cases h1 : c = 32
    · rw [if_pos h1]; omega
    rw [if_neg h1]
    by_cases h2 : isSig c
    · rw [if_pos h2]; omega
    rw [if_neg h2]
    by_cases h3 : isLet c
    · rw [if_pos h3]; exact runLen_pos h3
    rw [if_neg h3]
    by_cases h4 : isDig c
    · rw [if_pos h4]; exact runLen_pos h4
    rw [if_neg h4]; omega
theorem stepN_le (l : List UInt8) : stepN l ≤ l.length := by
  cases l with
  | nil => simp [stepN]
  | cons c r =>
    simp only [stepN]
    by_cases h1 : c = 32
    · rw [if_pos h1]; simp
    rw [if_neg h1]
    by_cases h2 : isSig c
    · rw [if_pos h2]; simp
    rw [if_neg h2]
    by_cases h3 : isLet c
    · rw [if_pos h3]; exact runLen_le _ _
    rw [if_neg h3]
    by_cases h4 : isDig c
    · rw [if_pos h4]; exact runLen_le _ _
    rw [if_neg h4]; simp

/-- How far a run of bytes reaches from an offset on. -/
def runTo (p : UInt8 → Bool) (l : List UInt8) (k : Nat) : Nat := k + runLen p (l.drop k)
theorem runTo_le (p : UInt8 → Bool) (l : List UInt8) (k : Nat) (h : k ≤ l.length) : runTo p l k ≤ l.length := by
  unfold runTo
  have := runLen_le p (l.drop k)
  rw [List.length_drop] at this
  omega
theorem runTo_ge (p : UInt8 → Bool) (l : List UInt8) (k : Nat) : k ≤ runTo p l k := by unfold runTo; omega
theorem runTo_yes {p : UInt8 → Bool} {l : List UInt8} {k : Nat} (hk : k < l.length) (h : p l[k] = true) : runTo p l k = runTo p l (k + 1) := by
  unfold runTo runLen
  rw [List.drop_eq_getElem_cons hk, List.takeWhile_cons, if_pos h]
  simp; omega
theorem runTo_no {p : UInt8 → Bool} {l : List UInt8} {k : Nat} (hk : k < l.length) (h : p l[k] = false) : runTo p l k = k := by
  unfold runTo runLen
  rw [List.drop_eq_getElem_cons hk, List.takeWhile_cons, if_neg (by simp [h])]
  simp
theorem runTo_gt {p : UInt8 → Bool} {l : List UInt8} {k : Nat} (hk : k < l.length) (h : p l[k] = true) : k < runTo p l k := by
  rw [runTo_yes hk h]; have := runTo_ge p l (k + 1); omega
theorem runTo_end {p : UInt8 → Bool} {l : List UInt8} {k : Nat} (hk : l.length ≤ k) : runTo p l k = k := by
  unfold runTo runLen
  rw [List.drop_eq_nil_of_le hk]; simp

theorem all_bytes (P : UInt8 → Bool) (h : (List.range 256).all (fun n => P (UInt8.ofNat n)) = true) (c : UInt8) : P c = true := by
  rw [List.all_eq_true] at h
  have := h c.toNat (List.mem_range.2 c.toNat_lt)
  rwa [UInt8.ofNat_toNat] at this
theorem let_not (c : UInt8) (h : isLet c = true) : c ≠ 32 ∧ isSig c = false := by
  have := all_bytes (fun c => !isLet c || (!(c == 32) && !isSig c)) (by decide +kernel) c
  simp [h] at this
  exact this
theorem let_nodig (c : UInt8) (h : isLet c = true) : isDig c = false := by
  have := all_bytes (fun c => !isLet c || !isDig c) (by decide +kernel) c
  simp [h] at this
  exact this
theorem dig_not (c : UInt8) (h : isDig c = true) : c ≠ 32 ∧ isSig c = false ∧ isLet c = false := by
  have := all_bytes (fun c => !isDig c || (!(c == 32) && !isSig c && !isLet c)) (by decide +kernel) c
  simp [h] at this
  exact ⟨this.1.1, this.1.2, this.2⟩
theorem sig_not (c : UInt8) (h : isSig c = true) : c ≠ 32 ∧ isLet c = false ∧ isDig c = false := by
  have := all_bytes (fun c => !isSig c || (!(c == 32) && !isLet c && !isDig c)) (by decide +kernel) c
  simp [h] at this
  exact ⟨this.1.1, this.1.2, this.2⟩

section
variable (f : Nat) (l : List UInt8) (k : Nat) (acc : List Tk)
theorem scan_end (hk : l.length ≤ k) : scanF (f + 1) (l.drop k) k acc = (acc ++ [⟨3, [], k⟩], 0, 0) := by
  rw [scanF, if_pos (List.drop_eq_nil_of_le hk)]
theorem drop_ne {l : List UInt8} {k : Nat} (hk : k < l.length) : l.drop k ≠ [] := by
  rw [List.drop_eq_getElem_cons hk]; exact List.cons_ne_nil _ _
theorem scan_err (e : Nat) (he : e ≠ 0) (hk : k < l.length) (h : stepE (l.drop k) = e) : scanF (f + 1) (l.drop k) k acc = ([], k, e) := by
  rw [scanF, if_neg (drop_ne hk), if_pos (by rw [h]; exact he), h]
theorem scan_ok (n : Nat) (T : List Tk) (hk : k < l.length) (h0 : stepE (l.drop k) = 0) (hn : k + stepN (l.drop k) = n) (hT : stepT (l.drop k) k = T) : scanF (f + 1) (l.drop k) k acc = scanF f (l.drop n) n (acc ++ T) := by
  rw [scanF, if_neg (drop_ne hk), if_neg (by rw [h0]; simp), List.drop_drop, hn, hT]
theorem scan_blank (hk : k < l.length) (h : l[k] = 32) : scanF (f + 1) (l.drop k) k acc = scanF f (l.drop (k + 1)) (k + 1) acc := by
  have := scan_ok f l k acc (k + 1) [] hk (by rw [List.drop_eq_getElem_cons hk]; simp [stepE, h]) (by rw [List.drop_eq_getElem_cons hk]; simp [stepN, h]) (by rw [List.drop_eq_getElem_cons hk]; simp [stepT, h])
  rwa [List.append_nil] at this
theorem scan_sig (hk : k < l.length) (h : isSig l[k] = true) : scanF (f + 1) (l.drop k) k acc = scanF f (l.drop (k + 1)) (k + 1) (acc ++ [⟨2, [l[k]], k⟩]) := by
  obtain ⟨h1, h2, h3⟩ := sig_not _ h
  exact scan_ok f l k acc (k + 1) _ hk (by rw [List.drop_eq_getElem_cons hk]; simp [stepE, h, h1]) (by rw [List.drop_eq_getElem_cons hk]; simp [stepN, h, h1]) (by rw [List.drop_eq_getElem_cons hk]; simp [stepT, h, h1])
theorem scan_bad (hk : k < l.length) (h0 : l[k] ≠ 32) (h1 : isSig l[k] = false) (h2 : isLet l[k] = false) (h3 : isDig l[k] = false) : scanF (f + 1) (l.drop k) k acc = ([], k, 4) :=
  scan_err f l k acc 4 (by omega) hk (by rw [List.drop_eq_getElem_cons hk]; simp [stepE, h0, h1, h2, h3])
theorem scan_let_long (hk : k < l.length) (h : isLet l[k] = true) (hl : 24 < runTo isLet l k - k) : scanF (f + 1) (l.drop k) k acc = ([], k, 19) := by
  obtain ⟨h1, h2⟩ := let_not _ h
  unfold runTo at hl
  refine scan_err f l k acc 19 (by omega) hk ?_
  rw [List.drop_eq_getElem_cons hk] at hl ⊢
  simp only [stepE, if_neg h1, h2, Bool.false_eq_true, if_false, h, if_true]
  rw [if_pos (by omega)]
theorem scan_let (hk : k < l.length) (h : isLet l[k] = true) (hl : runTo isLet l k - k ≤ 24) : scanF (f + 1) (l.drop k) k acc = scanF f (l.drop (runTo isLet l k)) (runTo isLet l k) (acc ++ [⟨0, (l.drop k).take (runTo isLet l k - k), k⟩]) := by
  obtain ⟨h1, h2⟩ := let_not _ h
  have hr : runTo isLet l k - k = runLen isLet (l.drop k) := by unfold runTo; omega
  rw [hr] at hl ⊢
  refine scan_ok f l k acc _ _ hk ?_ ?_ ?_
  · rw [List.drop_eq_getElem_cons hk] at hl ⊢
    simp only [stepE, if_neg h1, h2, Bool.false_eq_true, if_false, h, if_true]
    rw [if_neg (by omega)]
  · unfold runTo
    rw [List.drop_eq_getElem_cons hk] at hl ⊢
    simp only [stepN, if_neg h1, h2, Bool.false_eq_true, if_false, h, if_true]
  · rw [List.drop_eq_getElem_cons hk] at hl ⊢
    simp only [stepT, if_neg h1, h2, Bool.false_eq_true, if_false, h, if_true]
theorem scan_dig_long (hk : k < l.length) (h : isDig l[k] = true) (hl : 1024 < runTo isDig l k - k) : scanF (f + 1) (l.drop k) k acc = ([], k, 11) := by
  obtain ⟨h1, h2, h3⟩ := dig_not _ h
  unfold runTo at hl
  refine scan_err f l k acc 11 (by omega) hk ?_
  rw [List.drop_eq_getElem_cons hk] at hl ⊢
  simp only [stepE, if_neg h1, h2, h3, Bool.false_eq_true, if_false, h, if_true]
  rw [if_pos (by omega)]
theorem scan_dig_form (hk : k < l.length) (h : l[k] = 48) (hl : runTo isDig l k - k ≤ 1024) (h2 : 1 < runTo isDig l k - k) : scanF (f + 1) (l.drop k) k acc = ([], k, 3) := by
  have hd : isDig l[k] = true := by rw [h]; decide
  obtain ⟨h1, h3, h4⟩ := dig_not _ hd
  unfold runTo at hl h2
  refine scan_err f l k acc 3 (by omega) hk ?_
  rw [List.drop_eq_getElem_cons hk] at hl h2 ⊢
  simp only [stepE, if_neg h1, h3, h4, Bool.false_eq_true, if_false, hd, if_true]
  rw [if_neg (by omega), if_pos ⟨h, by omega⟩]
theorem scan_dig (hk : k < l.length) (h : isDig l[k] = true) (hl : runTo isDig l k - k ≤ 1024) (h5 : l[k] ≠ 48 ∨ runTo isDig l k - k ≤ 1) : scanF (f + 1) (l.drop k) k acc = scanF f (l.drop (runTo isDig l k)) (runTo isDig l k) (acc ++ [⟨1, (l.drop k).take (runTo isDig l k - k), k⟩]) := by
  obtain ⟨h1, h2, h3⟩ := dig_not _ h
  have hr : runTo isDig l k - k = runLen isDig (l.drop k) := by unfold runTo; omega
  rw [hr] at hl h5 ⊢
  refine scan_ok f l k acc _ _ hk ?_ ?_ ?_
  · rw [List.drop_eq_getElem_cons hk] at hl h5 ⊢
    simp only [stepE, if_neg h1, h2, h3, Bool.false_eq_true, if_false, h, if_true]
    rw [if_neg (by omega), if_neg (fun hh => by rcases h5 with h5 | h5; exact h5 hh.1; omega)]
  · unfold runTo
    rw [List.drop_eq_getElem_cons hk] at hl h5 ⊢
    simp only [stepN, if_neg h1, h2, h3, Bool.false_eq_true, if_false, h, if_true]
  · rw [List.drop_eq_getElem_cons hk] at hl h5 ⊢
    simp only [stepT, if_neg h1, h2, h3, Bool.false_eq_true, if_false, h, if_true]
end
end Go.Proofs.Lx
