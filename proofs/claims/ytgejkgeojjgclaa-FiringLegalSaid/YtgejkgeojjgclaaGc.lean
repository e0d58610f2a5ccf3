/- Right graphs in numbers: edges in strict order; what joins two vertices; valences. No program is named. -/
import Derived.Test.YtgejkgeojjgclaaGa
namespace Go.Proofs.Gr

theorem ltE_trans {x y z : E} (h : ltE x y = true) (k : ltE y z = true) : ltE x z = true := by
  simp only [ltE, Bool.or_eq_true, Bool.and_eq_true, decide_eq_true_eq] at *
  omega
theorem ltE_irrefl {x : E} (h : ltE x x = true) : False := by
  simp only [ltE, Bool.or_eq_true, Bool.and_eq_true, decide_eq_true_eq] at h
  omega
theorem ltE_key {x y : E} (h : ltE x y = true) : ¬ (x.a = y.a ∧ x.b = y.b) := by
  simp only [ltE, Bool.or_eq_true, Bool.and_eq_true, decide_eq_true_eq] at h
  omega
/-- A right graph. -/
structure Right (n : Int) (L : List E) : Prop where
  lo : 1 ≤ n
  hi : n ≤ 12
  rng : ∀ e ∈ L, 0 ≤ e.a ∧ e.a ≤ e.b ∧ e.b < n ∧ 1 ≤ e.m ∧ e.m ≤ 50
  srt : L.Pairwise (fun x y => ltE x y = true)
theorem mem_eAt {L : List E} {e : E} (h : e ∈ L) : ∃ i, i < L.length ∧ e = eAt L i := by
  obtain ⟨i, hi, rfl⟩ := List.mem_iff_getElem.1 h
  exact ⟨i, hi, eAt_get L i hi⟩
theorem right_of {n : Int} {L : List E} (h : chkG n L = 0) : Right n L := by
  have h1 := chkG_n h
  refine ⟨h1.1, h1.2, fun e he => ?_, ?_⟩
  · obtain ⟨i, hi, rfl⟩ := mem_eAt he
    exact chkG_rng h i hi
  · rw [List.pairwise_iff_getElem]
    intro i j hi hj hij
    rw [eAt_get, eAt_get]
    obtain ⟨d, rfl⟩ : ∃ d, j = i + 1 + d := ⟨j - i - 1, by omega⟩
    clear hij
    induction d with
    | zero => exact chkG_lt h i hj
    | succ d ih => exact ltE_trans (ih (by omega)) (chkG_lt h (i + 1 + d) hj)
theorem right_chk {n : Int} {L : List E} (h : Right n L) : chkG n L = 0 := by
  unfold chkG
  rw [if_neg (by have := h.lo; have := h.hi; omega)]
  refine firstE_zero fun j hj => ?_
  have h1 := h.rng (eAt L j) (by rw [← eAt_get L j hj]; exact List.getElem_mem hj)
  unfold errAt
  rw [if_neg (by simp only [rngE, isV, Bool.not_eq_false, Bool.and_eq_true, decide_eq_true_eq]; omega), if_neg (by omega), if_neg]
  rintro ⟨h2, h3⟩
  have h4 := List.pairwise_iff_getElem.1 h.srt (j - 1) j (by omega) hj (by omega)
  rw [eAt_get, eAt_get, h3] at h4
  cases h4

/-- How often two vertices are joined: p at most q. -/
def bet (p q : Int) : List E → Int
  | [] => 0
  | e :: r => (if e.a = p ∧ e.b = q then e.m else 0) + bet p q r
theorem bet_none {p q : Int} {L : List E} (h : ∀ e ∈ L, ¬ (e.a = p ∧ e.b = q)) : bet p q L = 0 := by
  induction L with
  | nil => rfl
  | cons e r ih =>
    rw [bet, if_neg (h e (by simp)), ih (fun x hx => h x (List.mem_cons_of_mem _ hx))]; rfl
theorem bet_split {p q : Int} {L M : List E} : bet p q (L ++ M) = bet p q L + bet p q M := by
  induction L with
  | nil => simp [bet]
  | cons e r ih => rw [List.cons_append, bet, bet, ih]; omega
/-- The first edge between two vertices is the only one. -/
theorem bet_first {L : List E} (hs : L.Pairwise (fun x y => ltE x y = true)) {p q : Int} (i : Nat) (hi : i < L.length) (h : (eAt L i).a = p ∧ (eAt L i).b = q) : bet p q L = (eAt L i).m := by
  obtain ⟨A, B, hAB, hA⟩ : ∃ A B, L = A ++ eAt L i :: B ∧ A.length = i := by
    refine ⟨L.take i, L.drop (i + 1), ?_, by rw [List.length_take]; omega⟩
    rw [← eAt_get L i hi, ← List.drop_eq_getElem_cons hi, List.take_append_drop]
  rw [hAB] at hs
  have h2 := (List.pairwise_append.1 hs).2
  have h3 := List.pairwise_cons.1 h2.1
  generalize eAt L i = e at *
  rw [hAB, bet_split, bet, if_pos h, bet_none, bet_none]
  · omega
  · intro x hx hk
    exact ltE_key (h3.1 x hx) ⟨h.1.trans hk.1.symm, h.2.trans hk.2.symm⟩
  · intro x hx hk
    exact ltE_key (h2.2 x hx e (by simp)) ⟨hk.1.trans h.1.symm, hk.2.trans h.2.symm⟩
theorem bet_zero_at {L : List E} {p q : Int} (h : ∀ i, i < L.length → ¬ ((eAt L i).a = p ∧ (eAt L i).b = q)) : bet p q L = 0 :=
  bet_none fun e he => by obtain ⟨i, hi, rfl⟩ := mem_eAt he; exact h i hi
theorem bet_nonneg {n : Int} {L : List E} (h : ∀ e ∈ L, 0 ≤ e.a ∧ e.a ≤ e.b ∧ e.b < n ∧ 1 ≤ e.m ∧ e.m ≤ 50) (p q : Int) : 0 ≤ bet p q L := by
  induction L with
  | nil => exact Int.le_refl 0
  | cons e r ih =>
    have h1 := ih (fun x hx => h x (by simp [hx]))
    have h2 := h e (by simp)
    rw [bet]; split <;> omega
theorem bet_pos {n : Int} {L : List E} (h : ∀ e ∈ L, 0 ≤ e.a ∧ e.a ≤ e.b ∧ e.b < n ∧ 1 ≤ e.m ∧ e.m ≤ 50) (p q : Int) : 0 < bet p q L ↔ ∃ e ∈ L, e.a = p ∧ e.b = q := by
  induction L with
  | nil => simp [bet]
  | cons e r ih =>
    have h1 := ih (fun x hx => h x (by simp [hx]))
    have h2 := h e (by simp)
    have h3 := bet_nonneg (L := r) (n := n) (fun x hx => h x (List.mem_cons_of_mem _ hx)) p q
    rw [bet]
    by_cases hk : e.a = p ∧ e.b = q
    · rw [if_pos hk]
      exact ⟨fun _ => ⟨e, by simp, hk⟩, fun _ => by omega⟩
    · rw [if_neg hk, Int.zero_add, h1]
      constructor
      · rintro ⟨x, hx, hy⟩; exact ⟨x, by simp [hx], hy⟩
      · rintro ⟨x, hx, hy⟩
        rcases List.mem_cons.1 hx with rfl | hx
        · exact absurd hy hk
        · exact ⟨x, hx, hy⟩
/-- How often two vertices are joined, in either order. -/
def betw (u v : Int) (L : List E) : Int := bet (min u v) (max u v) L

/-- What an edge adds to the loops of a vertex, and to its other half-edges. -/
def loopE (v : Int) (e : E) : Int := if e.a = v ∧ e.b = v then e.m else 0
def othE (v : Int) (e : E) : Int := if e.a = v ∧ e.b = v then 0 else if e.a = v ∨ e.b = v then e.m else 0
def sumL (f : E → Int) : List E → Int
  | [] => 0
  | e :: r => f e + sumL f r
theorem sumL_snoc (f : E → Int) (L : List E) (e : E) : sumL f (L ++ [e]) = sumL f L + f e := by
  induction L with
  | nil => simp [sumL]
  | cons x r ih => rw [List.cons_append, sumL, sumL, ih]; omega
theorem sumL_take (f : E → Int) (L : List E) (i : Nat) (h : i < L.length) : sumL f (L.take (i + 1)) = sumL f (L.take i) + f (eAt L i) := by
  rw [List.take_succ_eq_append_getElem h, sumL_snoc, eAt_get]
theorem bet_loop (v : Int) (L : List E) : bet v v L = sumL (loopE v) L := by
  induction L with
  | nil => rfl
  | cons e r ih => rw [bet, sumL, ih]; rfl
/-- Sums over vertices. -/
def sumZ (f : Int → Int) : Nat → Int
  | 0 => 0
  | n + 1 => sumZ f n + f n
theorem sumZ_add (f g : Int → Int) (n : Nat) : sumZ (fun u => f u + g u) n = sumZ f n + sumZ g n := by
  induction n with
  | zero => rfl
  | succ n ih => rw [sumZ, sumZ, sumZ, ih]; omega
theorem sumZ_zero (f : Int → Int) (n : Nat) (h : ∀ u : Nat, u < n → f u = 0) : sumZ f n = 0 := by
  induction n with
  | zero => rfl
  | succ n ih => rw [sumZ, ih (fun u hu => h u (by omega)), h n (by omega)]; rfl
theorem sumZ_one (f : Int → Int) (n k : Nat) (hk : k < n) (h : ∀ u : Nat, u < n → u ≠ k → f u = 0) : sumZ f n = f k := by
  induction n with
  | zero => omega
  | succ n ih =>
    rw [sumZ]
    by_cases e : k = n
    · subst e; rw [sumZ_zero f k (fun u hu => h u (by omega) (by omega))]; omega
    · rw [ih (by omega) (fun u hu hne => h u (by omega) hne), h n (by omega) (fun e' => e e'.symm)]; omega
/-- The valence: what joins a vertex with all others. -/
def valZ (v : Int) (L : List E) (n : Nat) : Int := sumZ (fun u => if u = v then 0 else betw u v L) n
theorem valZ_oth {n : Nat} (v : Int) (L : List E) (h : ∀ e ∈ L, 0 ≤ e.a ∧ e.a ≤ e.b ∧ e.b < (n : Int) ∧ 1 ≤ e.m ∧ e.m ≤ 50) : valZ v L n = sumL (othE v) L := by
  induction L with
  | nil =>
    refine sumZ_zero _ _ fun u _ => ?_
    show (if _ then _ else _) = _
    split <;> rfl
  | cons e r ih =>
    have h1 := ih (fun x hx => h x (by simp [hx]))
    have h2 := h e (by simp)
    have hone : sumZ (fun u => if u = v then 0 else if e.a = min u v ∧ e.b = max u v then e.m else 0) n = othE v e := by
      unfold othE
      by_cases ha : e.a = v ∧ e.b = v
      · rw [if_pos ha]
        refine sumZ_zero _ _ fun u _ => ?_
        by_cases hu : (u : Int) = v
        · rw [if_pos hu]
        · rw [if_neg hu, if_neg]; omega
      · rw [if_neg ha]
        by_cases hb : e.a = v ∨ e.b = v
        · rw [if_pos hb]
          obtain ⟨k, hk⟩ : ∃ k : Nat, (k : Int) = if e.a = v then e.b else e.a := ⟨(if e.a = v then e.b else e.a).toNat, by split <;> omega⟩
          have hkv : (k : Int) ≠ v := by rw [hk]; split <;> omega
          have hkn : k < n := by
            have : (k : Int) < n := by rw [hk]; split <;> omega
            omega
          rw [sumZ_one _ n k hkn]
          · rw [if_neg hkv, if_pos]
            rw [hk]
            split <;> omega
          · intro u _ hne
            by_cases hu : (u : Int) = v
            · rw [if_pos hu]
            · rw [if_neg hu, if_neg]
              intro hc
              have : (u : Int) ≠ k := fun e' => hne (by omega)
              rw [hk] at this
              split at this <;> omega
        · rw [if_neg hb]
          refine sumZ_zero _ _ fun u _ => ?_
          by_cases hu : (u : Int) = v
          · rw [if_pos hu]
          · rw [if_neg hu, if_neg]; omega
    rw [sumL, ← h1, ← hone]
    unfold valZ
    rw [← sumZ_add]
    congr 1
    funext u
    by_cases hu : u = v
    · rw [if_pos hu, if_pos hu, if_pos hu]; rfl
    · rw [if_neg hu, if_neg hu, if_neg hu]; rfl
end Go.Proofs.Gr
