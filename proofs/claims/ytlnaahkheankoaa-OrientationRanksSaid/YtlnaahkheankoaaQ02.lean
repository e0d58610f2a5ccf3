/- Graphs in numbers: edges, their order, the error of a graph. No program is named. And: Right graphs in numbers: edges in strict order; what joins two vertices; valences. No program is named. And: Neighbours, ends, graphs out of tables in numbers; ascending lists with the same members are equal. No program is named. -/
import Derived.Below
namespace Go.Proofs.Gr

/-- An edge: its ends, how often it is there. -/
structure E where
  a : Int
  b : Int
  m : Int
deriving DecidableEq
def e0 : E := ⟨0, 0, 0⟩
def eAt (L : List E) (j : Nat) : E := L.getD j e0
theorem eAt_get (L : List E) (j : Nat) (h : j < L.length) : L[j] = eAt L j := by
  unfold eAt; rw [List.getD_eq_getElem?_getD, List.getElem?_eq_getElem h]; rfl
/-- A number is a vertex. -/
def isV (n v : Int) : Bool := decide (0 ≤ v) && decide (v < n)
/-- The order of edges. -/
def ltE (x y : E) : Bool := decide (x.a < y.a) || (decide (x.a = y.a) && decide (x.b < y.b))
/-- The range of an edge. -/
def rngE (n : Int) (x : E) : Bool := isV n x.a && isV n x.b && decide (1 ≤ x.m) && decide (x.m ≤ 50)
/-- The error of the edge number i. -/
def errAt (n : Int) (L : List E) (i : Nat) : Nat :=
  if rngE n (eAt L i) = false then 2
  else if (eAt L i).b < (eAt L i).a then 9
  else if 0 < i ∧ ltE (eAt L (i - 1)) (eAt L i) = false then 9
  else 0
/-- The first of some errors. -/
def firstE (f : Nat → Nat) : Nat → Nat
  | 0 => 0
  | n + 1 => if firstE f n ≠ 0 then firstE f n else f n
theorem firstE_zero {f : Nat → Nat} {n : Nat} (h : ∀ j, j < n → f j = 0) : firstE f n = 0 := by
  induction n with
  | zero => rfl
  | succ n ih =>
    have h1 := ih (fun j hj => h j (by omega))
    rw [firstE, h1]
    simpa using h n (by omega)
theorem firstE_at {f : Nat → Nat} {n i : Nat} (h : ∀ j, j < i → f j = 0) (hi : f i ≠ 0) (hn : i < n) : firstE f n = f i := by
  induction n with
  | zero => omega
  | succ n ih =>
    rw [firstE]
    by_cases e : i = n
    · subst e
      rw [firstE_zero h]; simp
    · have h1 := ih (by omega)
      rw [h1, if_pos hi]
theorem firstE_all {f : Nat → Nat} {n : Nat} (h : firstE f n = 0) : ∀ j, j < n → f j = 0 := by
  induction n with
  | zero => intro j hj; omega
  | succ n ih =>
    intro j hj
    rw [firstE] at h
    by_cases e : firstE f n = 0
    · rw [e] at h
      rcases Nat.lt_or_ge j n with h1 | h1
      · exact ih e j h1
      · obtain rfl : j = n := by omega
        simpa using h
    · rw [if_pos e] at h; exact absurd h e
theorem firstE_cases (f : Nat → Nat) (n : Nat) : (firstE f n = 0 ∧ ∀ j, j < n → f j = 0) ∨ (∃ i, i < n ∧ f i ≠ 0 ∧ (∀ j, j < i → f j = 0) ∧ firstE f n = f i) := by
  induction n with
  | zero => exact .inl ⟨rfl, fun j hj => by omega⟩
  | succ n ih =>
    rcases ih with ⟨h1, h2⟩ | ⟨i, h1, h2, h3, h4⟩
    · by_cases h : f n = 0
      · refine .inl ⟨by rw [firstE, h1]; simpa using h, fun j hj => ?_⟩
        rcases Nat.lt_or_ge j n with h5 | h5
        · exact h2 j h5
        · obtain rfl : j = n := by omega
          exact h
      · exact .inr ⟨n, by omega, h, h2, by rw [firstE, h1]; simp⟩
    · exact .inr ⟨i, by omega, h2, h3, by rw [firstE, h4, if_pos h2]⟩
/-- The error of a graph. -/
def chkG (n : Int) (L : List E) : Nat := if n < 1 ∨ 12 < n then 2 else firstE (errAt n L) L.length
theorem chkG_n {n : Int} {L : List E} (h : chkG n L = 0) : 1 ≤ n ∧ n ≤ 12 := by
  unfold chkG at h
  by_cases h1 : n < 1 ∨ 12 < n
  · rw [if_pos h1] at h; omega
  · omega
theorem chkG_at {n : Int} {L : List E} (h : chkG n L = 0) (i : Nat) (hi : i < L.length) : errAt n L i = 0 := by
  have h1 := chkG_n h
  unfold chkG at h
  rw [if_neg (by omega)] at h
  exact firstE_all h i hi
theorem chkG_rng {n : Int} {L : List E} (h : chkG n L = 0) (i : Nat) (hi : i < L.length) : 0 ≤ (eAt L i).a ∧ (eAt L i).a ≤ (eAt L i).b ∧ (eAt L i).b < n ∧ 1 ≤ (eAt L i).m ∧ (eAt L i).m ≤ 50 := by
  have h1 := chkG_at h i hi
  unfold errAt at h1
  by_cases h2 : rngE n (eAt L i) = false
  · rw [if_pos h2] at h1; omega
  · rw [if_neg h2] at h1
    by_cases h3 : (eAt L i).b < (eAt L i).a
    · rw [if_pos h3] at h1; omega
    · simp only [rngE, isV, Bool.not_eq_false, Bool.and_eq_true, decide_eq_true_eq] at h2
      omega
theorem chkG_lt {n : Int} {L : List E} (h : chkG n L = 0) (i : Nat) (hi : i + 1 < L.length) : ltE (eAt L i) (eAt L (i + 1)) = true := by
  have h1 := chkG_at h (i + 1) hi
  unfold errAt at h1
  by_cases h2 : rngE n (eAt L (i + 1)) = false
  · rw [if_pos h2] at h1; omega
  · rw [if_neg h2] at h1
    by_cases h3 : (eAt L (i + 1)).b < (eAt L (i + 1)).a
    · rw [if_pos h3] at h1; omega
    · rw [if_neg h3] at h1
      by_cases h4 : ltE (eAt L i) (eAt L (i + 1)) = true
      · exact h4
      · rw [if_pos ⟨by omega, by simpa using h4⟩] at h1; omega
end Go.Proofs.Gr

namespace Go.Proofs.Gr

theorem ltE_trans {x y z : E} (h : ltE x y = true) (k : ltE y z = true) : ltE x z = true := by
  simp only [ltE, Bool.or_eq_true, Bool.and_eq_true, decide_eq_true_eq] at *
  omega
theorem ltE_irrefl {x : E} (h : ltE x x = true) : False := by
  simp only [ltE, Bool.or_eq_true, Bool.and_eq_true, decide_eq_true_eq] at h
  omega
theorem ltE_key {x y : E} (h : ltE x y = true) : ¬ (x.a = y.a ∧ x.b = y.b) := by
  simp only [ltE, Bool.or_eq_true, Bool.and_eq_true, decide_eq_true_eq] at h
  omega
/-- A right graph. -/
structure Right (n : Int) (L : List E) : Prop where
  lo : 1 ≤ n
  hi : n ≤ 12
  rng : ∀ e ∈ L, 0 ≤ e.a ∧ e.a ≤ e.b ∧ e.b < n ∧ 1 ≤ e.m ∧ e.m ≤ 50
  srt : L.Pairwise (fun x y => ltE x y = true)
theorem mem_eAt {L : List E} {e : E} (h : e ∈ L) : ∃ i, i < L.length ∧ e = eAt L i := by
  obtain ⟨i, hi, rfl⟩ := List.mem_iff_getElem.1 h
  exact ⟨i, hi, eAt_get L i hi⟩
theorem right_of {n : Int} {L : List E} (h : chkG n L = 0) : Right n L := by
  have h1 := chkG_n h
  refine ⟨h1.1, h1.2, fun e he => ?_, ?_⟩
  · obtain ⟨i, hi, rfl⟩ := mem_eAt he
    exact chkG_rng h i hi
  · rw [List.pairwise_iff_getElem]
    intro i j hi hj hij
    rw [eAt_get, eAt_get]
    obtain ⟨d, rfl⟩ : ∃ d, j = i + 1 + d := ⟨j - i - 1, by omega⟩
    clear hij
    induction d with
    | zero => exact chkG_lt h i hj
    | succ d ih => exact ltE_trans (ih (by omega)) (chkG_lt h (i + 1 + d) hj)
theorem right_chk {n : Int} {L : List E} (h : Right n L) : chkG n L = 0 := by
  unfold chkG
  rw [if_neg (by have := h.lo; have := h.hi; omega)]
  refine firstE_zero fun j hj => ?_
  have h1 := h.rng (eAt L j) (by rw [← eAt_get L j hj]; exact List.getElem_mem hj)
  unfold errAt
  rw [if_neg (by simp only [rngE, isV, Bool.not_eq_false, Bool.and_eq_true, decide_eq_true_eq]; omega), if_neg (by omega), if_neg]
  rintro ⟨h2, h3⟩
  have h4 := List.pairwise_iff_getElem.1 h.srt (j - 1) j (by omega) hj (by omega)
  rw [eAt_get, eAt_get, h3] at h4
  cases h4

/-- How often two vertices are joined: p at most q. -/
def bet (p q : Int) : List E → Int
  | [] => 0
  | e :: r => (if e.a = p ∧ e.b = q then e.m else 0) + bet p q r
theorem bet_none {p q : Int} {L : List E} (h : ∀ e ∈ L, ¬ (e.a = p ∧ e.b = q)) : bet p q L = 0 := by
  induction L with
  | nil => rfl
  | cons e r ih =>
    rw [bet, if_neg (h e (by simp)), ih (fun x hx => h x (List.mem_cons_of_mem _ hx))]; rfl
theorem bet_split {p q : Int} {L M : List E} : bet p q (L ++ M) = bet p q L + bet p q M := by
  induction L with
  | nil => simp [bet]
  | cons e r ih => rw [List.cons_append, bet, bet, ih]; omega
/-- The first edge between two vertices is the only one. -/
theorem bet_first {L : List E} (hs : L.Pairwise (fun x y => ltE x y = true)) {p q : Int} (i : Nat) (hi : i < L.length) (h : (eAt L i).a = p ∧ (eAt L i).b = q) : bet p q L = (eAt L i).m := by
  obtain ⟨A, B, hAB, hA⟩ : ∃ A B, L = A ++ eAt L i :: B ∧ A.length = i := by
    refine ⟨L.take i, L.drop (i + 1), ?_, by rw [List.length_take]; omega⟩
    rw [← eAt_get L i hi, ← List.drop_eq_getElem_cons hi, List.take_append_drop]
  rw [hAB] at hs
  have h2 := (List.pairwise_append.1 hs).2
  have h3 := List.pairwise_cons.1 h2.1
  generalize eAt L i = e at *
  rw [hAB, bet_split, bet, if_pos h, bet_none, bet_none]
  · omega
  · intro x hx hk
    exact ltE_key (h3.1 x hx) ⟨h.1.trans hk.1.symm, h.2.trans hk.2.symm⟩
  · intro x hx hk
    exact ltE_key (h2.2 x hx e (by simp)) ⟨hk.1.trans h.1.symm, hk.2.trans h.2.symm⟩
theorem bet_zero_at {L : List E} {p q : Int} (h : ∀ i, i < L.length → ¬ ((eAt L i).a = p ∧ (eAt L i).b = q)) : bet p q L = 0 :=
  bet_none fun e he => by obtain ⟨i, hi, rfl⟩ := mem_eAt he; exact h i hi
theorem bet_nonneg {n : Int} {L : List E} (h : ∀ e ∈ L, 0 ≤ e.a ∧ e.a ≤ e.b ∧ e.b < n ∧ 1 ≤ e.m ∧ e.m ≤ 50) (p q : Int) : 0 ≤ bet p q L := by
  induction L with
  | nil => exact Int.le_refl 0
  | cons e r ih =>
    have h1 := ih (fun x hx => h x (by simp [hx]))
    have h2 := h e (by simp)
    rw [bet]; split <;> omega
theorem bet_pos {n : Int} {L : List E} (h : ∀ e ∈ L, 0 ≤ e.a ∧ e.a ≤ e.b ∧ e.b < n ∧ 1 ≤ e.m ∧ e.m ≤ 50) (p q : Int) : 0 < bet p q L ↔ ∃ e ∈ L, e.a = p ∧ e.b = q := by
  induction L with
  | nil => simp [bet]
  | cons e r ih =>
    have h1 := ih (fun x hx => h x (by simp [hx]))
    have h2 := h e (by simp)
    have h3 := bet_nonneg (L := r) (n := n) (fun x hx => h x (List.mem_cons_of_mem _ hx)) p q
    rw [bet]
    by_cases hk : e.a = p ∧ e.b = q
    · rw [if_pos hk]
      exact ⟨fun _ => ⟨e, by simp, hk⟩, fun _ => by omega⟩
    · rw [if_neg hk, Int.zero_add, h1]
      constructor
      · rintro ⟨x, hx, hy⟩; exact ⟨x, by simp [hx], hy⟩
      · rintro ⟨x, hx, hy⟩
        rcases List.mem_cons.1 hx with rfl | hx
        · exact absurd hy hk
        · exact ⟨x, hx, hy⟩
/-- How often two vertices are joined, in either order. -/
def betw (u v : Int) (L : List E) : Int := bet (min u v) (max u v) L

/-- What an edge adds to the loops of a vertex, and to its other half-edges. -/
def loopE (v : Int) (e : E) : Int := if e.a = v ∧ e.b = v then e.m else 0
def othE (v : Int) (e : E) : Int := if e.a = v ∧ e.b = v then 0 else if e.a = v ∨ e.b = v then e.m else 0
def sumL (f : E → Int) : List E → Int
  | [] => 0
  | e :: r => f e + sumL f r
theorem sumL_snoc (f : E → Int) (L : List E) (e : E) : sumL f (L ++ [e]) = sumL f L + f e := by
  induction L with
  | nil => simp [sumL]
  | cons x r ih => rw [List.cons_append, sumL, sumL, ih]; omega
theorem sumL_take (f : E → Int) (L : List E) (i : Nat) (h : i < L.length) : sumL f (L.take (i + 1)) = sumL f (L.take i) + f (eAt L i) := by
  rw [List.take_succ_eq_append_getElem h, sumL_snoc, eAt_get]
theorem bet_loop (v : Int) (L : List E) : bet v v L = sumL (loopE v) L := by
  induction L with
  | nil => rfl
  | cons e r ih => rw [bet, sumL, ih]; rfl
/-- Sums over vertices. -/
def sumZ (f : Int → Int) : Nat → Int
  | 0 => 0
  | n + 1 => sumZ f n + f n
theorem sumZ_add (f g : Int → Int) (n : Nat) : sumZ (fun u => f u + g u) n = sumZ f n + sumZ g n := by
  induction n with
  | zero => rfl
  | succ n ih => rw [sumZ, sumZ, sumZ, ih]; omega
theorem sumZ_zero (f : Int → Int) (n : Nat) (h : ∀ u : Nat, u < n → f u = 0) : sumZ f n = 0 := by
  induction n with
  | zero => rfl
  | succ n ih => rw [sumZ, ih (fun u hu => h u (by omega)), h n (by omega)]; rfl
theorem sumZ_one (f : Int → Int) (n k : Nat) (hk : k < n) (h : ∀ u : Nat, u < n → u ≠ k → f u = 0) : sumZ f n = f k := by
  induction n with
  | zero => omega
  | succ n ih =>
    rw [sumZ]
    by_cases e : k = n
    · subst e; rw [sumZ_zero f k (fun u hu => h u (by omega) (by omega))]; omega
    · rw [ih (by omega) (fun u hu hne => h u (by omega) hne), h n (by omega) (fun e' => e e'.symm)]; omega
/-- The valence: what joins a vertex with all others. -/
def valZ (v : Int) (L : List E) (n : Nat) : Int := sumZ (fun u => if u = v then 0 else betw u v L) n
theorem valZ_oth {n : Nat} (v : Int) (L : List E) (h : ∀ e ∈ L, 0 ≤ e.a ∧ e.a ≤ e.b ∧ e.b < (n : Int) ∧ 1 ≤ e.m ∧ e.m ≤ 50) : valZ v L n = sumL (othE v) L := by
  induction L with
  | nil =>
    refine sumZ_zero _ _ fun u _ => ?_
    show (if _ then _ else _) = _
    split <;> rfl
  | cons e r ih =>
    have h1 := ih (fun x hx => h x (by simp [hx]))
    have h2 := h e (by simp)
    have hone : sumZ (fun u => if u = v then 0 else if e.a = min u v ∧ e.b = max u v then e.m else 0) n = othE v e := by
      unfold othE
      by_cases ha : e.a = v ∧ e.b = v
      · rw [if_pos ha]
        refine sumZ_zero _ _ fun u _ => ?_
        by_cases hu : (u : Int) = v
        · rw [if_pos hu]
        · rw [if_neg hu, if_neg]; omega
      · rw [if_neg ha]
        by_cases hb : e.a = v ∨ e.b = v
        · rw [if_pos hb]
          obtain ⟨k, hk⟩ : ∃ k : Nat, (k : Int) = if e.a = v then e.b else e.a := ⟨(if e.a = v then e.b else e.a).toNat, by split <;> omega⟩
          have hkv : (k : Int) ≠ v := by rw [hk]; split <;> omega
          have hkn : k < n := by
            have : (k : Int) < n := by rw [hk]; split <;> omega
            omega
          rw [sumZ_one _ n k hkn]
          · rw [if_neg hkv, if_pos]
            rw [hk]
            split <;> omega
          · intro u _ hne
            by_cases hu : (u : Int) = v
            · rw [if_pos hu]
            · rw [if_neg hu, if_neg]
              intro hc
              have : (u : Int) ≠ k := fun e' => hne (by omega)
              rw [hk] at this
              split at this <;> omega
        · rw [if_neg hb]
          refine sumZ_zero _ _ fun u _ => ?_
          by_cases hu : (u : Int) = v
          · rw [if_pos hu]
          · rw [if_neg hu, if_neg]; omega
    rw [sumL, ← h1, ← hone]
    unfold valZ
    rw [← sumZ_add]
    congr 1
    funext u
    by_cases hu : u = v
    · rw [if_pos hu, if_pos hu, if_pos hu]; rfl
    · rw [if_neg hu, if_neg hu, if_neg hu]; rfl
end Go.Proofs.Gr

namespace Go.Proofs.Gr

theorem asc_ext {α : Type} {R : α → α → Prop} (hirr : ∀ x, ¬ R x x) (htr : ∀ x y z, R x y → R y z → R x z) {l m : List α} (h : l.Pairwise R) (k : m.Pairwise R) (hm : ∀ x, x ∈ l ↔ x ∈ m) : l = m := by
  induction l generalizing m with
  | nil =>
    cases m with
    | nil => rfl
    | cons y m => exact absurd ((hm y).2 List.mem_cons_self) List.not_mem_nil
  | cons x l ih =>
    cases m with
    | nil => exact absurd ((hm x).1 List.mem_cons_self) List.not_mem_nil
    | cons y m =>
      obtain ⟨h1, h2⟩ := List.pairwise_cons.1 h
      obtain ⟨k1, k2⟩ := List.pairwise_cons.1 k
      have hxy : x = y := by
        rcases List.mem_cons.1 ((hm x).1 List.mem_cons_self) with e | e
        · exact e
        · rcases List.mem_cons.1 ((hm y).2 List.mem_cons_self) with e' | e'
          · exact e'.symm
          · exact absurd (htr _ _ _ (h1 y e') (k1 x e)) (hirr x)
      subst hxy
      rw [ih h2 k2 fun z => ?_]
      constructor
      · intro hz
        rcases List.mem_cons.1 ((hm z).1 (List.mem_cons_of_mem _ hz)) with e | e
        · subst e; exact absurd (h1 z hz) (hirr z)
        · exact e
      · intro hz
        rcases List.mem_cons.1 ((hm z).2 (List.mem_cons_of_mem _ hz)) with e | e
        · subst e; exact absurd (k1 z hz) (hirr z)
        · exact e
/-- What an edge adds to the neighbours of a vertex. -/
def nbO (v : Int) (e : E) : Option Int := if e.a = e.b then none else if e.a = v then some e.b else if e.b = v then some e.a else none
def nbP (v : Int) (L : List E) : List Int := L.filterMap (nbO v)
theorem nbP_take (v : Int) (L : List E) (i : Nat) (h : i < L.length) : nbP v (L.take (i + 1)) = nbP v (L.take i) ++ (nbO v (eAt L i)).toList := by
  unfold nbP
  rw [List.take_succ_eq_append_getElem h, List.filterMap_append, eAt_get]
  cases hq : nbO v (eAt L i) <;> simp [hq]
def nbR (v : Int) (L : List E) : Nat → List Int
  | 0 => []
  | u + 1 => nbR v L u ++ (if (u : Int) ≠ v ∧ 0 < betw u v L then [(u : Int)] else [])
theorem nbR_mem (v : Int) (L : List E) (n : Nat) (x : Int) : x ∈ nbR v L n ↔ 0 ≤ x ∧ x < n ∧ x ≠ v ∧ 0 < betw x v L := by
  induction n with
  | zero => simp [nbR]; omega
  | succ n ih =>
    rw [nbR, List.mem_append, ih]
    by_cases h : (n : Int) ≠ v ∧ 0 < betw n v L
    · rw [if_pos h, List.mem_singleton]
      constructor
      · rintro (h1 | rfl)
        · exact ⟨h1.1, by omega, h1.2.2⟩
        · exact ⟨by omega, by omega, h⟩
      · rintro ⟨h1, h2, h3⟩
        by_cases e : x = n
        · exact .inr e
        · exact .inl ⟨h1, by omega, h3⟩
    · rw [if_neg h]
      constructor
      · rintro (h1 | h1)
        · exact ⟨h1.1, by omega, h1.2.2⟩
        · simp at h1
      · rintro ⟨h1, h2, h3⟩
        refine .inl ⟨h1, ?_, h3⟩
        by_cases e : x = n
        · subst e; exact absurd h3 h
        · omega
theorem nbR_asc (v : Int) (L : List E) (n : Nat) : (nbR v L n).Pairwise (· < ·) := by
  induction n with
  | zero => exact List.Pairwise.nil
  | succ n ih =>
    rw [nbR, List.pairwise_append]
    refine ⟨ih, by split <;> simp, fun x hx y hy => ?_⟩
    have h1 := (nbR_mem v L n x).1 hx
    split at hy
    · simp at hy; subst hy; omega
    · simp at hy
theorem nb_eq {n : Nat} {L : List E} (h : Right n L) (v : Int) (hv : 0 ≤ v ∧ v < n) : nbP v L = nbR v L n := by
  refine asc_ext (R := fun x y : Int => x < y) (fun x => Int.lt_irrefl x) (fun x y z => Int.lt_trans) ?_ (nbR_asc v L n) fun x => ?_
  · unfold nbP
    rw [List.pairwise_filterMap]
    have h2 := h.rng
    have h3 := h.srt
    clear h
    induction L with
    | nil => exact List.Pairwise.nil
    | cons e r ih =>
      obtain ⟨h4, h5⟩ := List.pairwise_cons.1 h3
      refine List.pairwise_cons.2 ⟨fun y hy p hp q hq => ?_, ih (fun x hx => h2 x (List.mem_cons_of_mem _ hx)) h5⟩
      have h6 := h2 e List.mem_cons_self
      have h7 := h2 y (List.mem_cons_of_mem _ hy)
      have h8 := h4 y hy
      simp only [ltE, Bool.or_eq_true, Bool.and_eq_true, decide_eq_true_eq] at h8
      unfold nbO at hp hq
      split at hp
      · cases hp
      split at hq
      · cases hq
      split at hp
      · injection hp with hp
        split at hq
        · injection hq with hq; omega
        · split at hq
          · injection hq with hq; omega
          · cases hq
      · split at hp
        · injection hp with hp
          split at hq
          · injection hq with hq; omega
          · split at hq
            · injection hq with hq; omega
            · cases hq
        · cases hp
  · rw [nbR_mem]
    unfold nbP betw
    rw [List.mem_filterMap, bet_pos h.rng]
    constructor
    · rintro ⟨e, he, hx⟩
      have h6 := h.rng e he
      unfold nbO at hx
      split at hx
      · cases hx
      split at hx
      · injection hx with hx; exact ⟨by omega, by omega, by omega, e, he, by omega, by omega⟩
      · split at hx
        · injection hx with hx; exact ⟨by omega, by omega, by omega, e, he, by omega, by omega⟩
        · cases hx
    · rintro ⟨h1, h2, h3, e, he, h4, h5⟩
      refine ⟨e, he, ?_⟩
      unfold nbO
      rw [if_neg (by omega)]
      by_cases e1 : e.a = v
      · rw [if_pos e1]; congr 1; omega
      · rw [if_neg e1, if_pos (by omega)]; congr 1; omega
/-- The ends of the single edges. -/
def endsG (L : List E) : List (Int × Int) := L.flatMap fun e => List.replicate e.m.toNat (e.a, e.b)
theorem endsG_take (L : List E) (i : Nat) (h : i < L.length) : endsG (L.take (i + 1)) = endsG (L.take i) ++ List.replicate (eAt L i).m.toNat ((eAt L i).a, (eAt L i).b) := by
  unfold endsG
  rw [List.take_succ_eq_append_getElem h, List.flatMap_append, eAt_get]
  simp
def sizeG (L : List E) : Int := sumL (fun e => e.m) L
theorem endsG_len {n : Int} {L : List E} (h : ∀ e ∈ L, 0 ≤ e.a ∧ e.a ≤ e.b ∧ e.b < n ∧ 1 ≤ e.m ∧ e.m ≤ 50) : ((endsG L).length : Int) = sizeG L := by
  unfold sizeG
  induction L with
  | nil => rfl
  | cons e r ih =>
    have h2 := h e List.mem_cons_self
    have h1 := ih (fun x hx => h x (List.mem_cons_of_mem _ hx))
    rw [sumL, ← h1]
    unfold endsG
    rw [List.flatMap_cons, List.length_append, List.length_replicate]
    omega
theorem size_bound {n : Int} {L : List E} (h : ∀ e ∈ L, 0 ≤ e.a ∧ e.a ≤ e.b ∧ e.b < n ∧ 1 ≤ e.m ∧ e.m ≤ 50) : (L.length : Int) ≤ sizeG L ∧ sizeG L ≤ 50 * L.length := by
  unfold sizeG
  induction L with
  | nil => simp [sumL]
  | cons e r ih =>
    have h2 := h e List.mem_cons_self
    have h1 := ih (fun x hx => h x (List.mem_cons_of_mem _ hx))
    rw [sumL, List.length_cons]
    omega
/-- A row of a table, as edges. -/
def rowJ (t : Nat → Nat → Int) (a : Nat) : Nat → List E
  | 0 => []
  | b + 1 => rowJ t a b ++ (if a ≤ b ∧ 0 < t a b then [⟨a, b, t a b⟩] else [])
/-- The graph in which vertices are joined as often as a table says. -/
def joinT (t : Nat → Nat → Int) (n : Nat) : Nat → List E
  | 0 => []
  | a + 1 => joinT t n a ++ rowJ t a n
theorem rowJ_mem (t : Nat → Nat → Int) (a n : Nat) (e : E) : e ∈ rowJ t a n ↔ ∃ b : Nat, b < n ∧ a ≤ b ∧ 0 < t a b ∧ e = ⟨a, b, t a b⟩ := by
  induction n with
  | zero => simp [rowJ]
  | succ n ih =>
    rw [rowJ, List.mem_append, ih]
    by_cases h : a ≤ n ∧ 0 < t a n
    · rw [if_pos h, List.mem_singleton]
      constructor
      · rintro (⟨b, h1, h2⟩ | h1)
        · exact ⟨b, by omega, h2⟩
        · exact ⟨n, by omega, h.1, h.2, h1⟩
      · rintro ⟨b, h1, h2, h3, h4⟩
        by_cases e' : b = n
        · subst e'; exact .inr h4
        · exact .inl ⟨b, by omega, h2, h3, h4⟩
    · rw [if_neg h]
      constructor
      · rintro (⟨b, h1, h2⟩ | h1)
        · exact ⟨b, by omega, h2⟩
        · simp at h1
      · rintro ⟨b, h1, h2, h3, h4⟩
        by_cases e' : b = n
        · subst e'; exact absurd ⟨h2, h3⟩ h
        · exact .inl ⟨b, by omega, h2, h3, h4⟩
theorem joinT_mem (t : Nat → Nat → Int) (n k : Nat) (e : E) : e ∈ joinT t n k ↔ ∃ a b : Nat, a < k ∧ b < n ∧ a ≤ b ∧ 0 < t a b ∧ e = ⟨a, b, t a b⟩ := by
  induction k with
  | zero => simp [joinT]
  | succ k ih =>
    rw [joinT, List.mem_append, ih, rowJ_mem]
    constructor
    · rintro (⟨a, b, h1, h2⟩ | ⟨b, h1⟩)
      · exact ⟨a, b, by omega, h2⟩
      · exact ⟨k, b, by omega, h1⟩
    · rintro ⟨a, b, h1, h2⟩
      by_cases e' : a = k
      · subst e'; exact .inr ⟨b, h2⟩
      · exact .inl ⟨a, b, by omega, h2⟩
theorem rowJ_asc (t : Nat → Nat → Int) (a n : Nat) : (rowJ t a n).Pairwise (fun x y => ltE x y = true) := by
  induction n with
  | zero => exact List.Pairwise.nil
  | succ n ih =>
    rw [rowJ, List.pairwise_append]
    refine ⟨ih, by split <;> simp, fun x hx y hy => ?_⟩
    obtain ⟨b, h1, h2, h3, rfl⟩ := (rowJ_mem t a n x).1 hx
    split at hy
    · simp at hy; subst hy
      have h6 : ltE ⟨(a : Int), (b : Int), t a b⟩ ⟨(a : Int), (n : Int), t a n⟩ = true := by
        simp [ltE]; omega
      exact h6
    · simp at hy
theorem joinT_asc (t : Nat → Nat → Int) (n k : Nat) : (joinT t n k).Pairwise (fun x y => ltE x y = true) := by
  induction k with
  | zero => exact List.Pairwise.nil
  | succ k ih =>
    rw [joinT, List.pairwise_append]
    refine ⟨ih, rowJ_asc t k n, fun x hx y hy => ?_⟩
    obtain ⟨a, b, h1, h2, h3, h4, rfl⟩ := (joinT_mem t n k x).1 hx
    obtain ⟨c, h5, h6, h7, rfl⟩ := (rowJ_mem t k n y).1 hy
    simp only [ltE, Bool.or_eq_true, Bool.and_eq_true, decide_eq_true_eq]; omega
theorem ltE_ext {l m : List E} (h : l.Pairwise (fun x y => ltE x y = true)) (k : m.Pairwise (fun x y => ltE x y = true)) (hm : ∀ x, x ∈ l ↔ x ∈ m) : l = m :=
  asc_ext (R := fun x y : E => ltE x y = true) (fun _ h => ltE_irrefl h) (fun _ _ _ h k => ltE_trans h k) h k hm
theorem joinT_right (t : Nat → Nat → Int) (n : Nat) (h0 : 1 ≤ n) (h1 : n ≤ 12) (ht : ∀ a b, t a b ≤ 50) : Right n (joinT t n n) := by
  refine ⟨by omega, by omega, fun e he => ?_, joinT_asc t n n⟩
  obtain ⟨a, b, h2, h3, h4, h5, rfl⟩ := (joinT_mem t n n e).1 he
  have := ht a b
  exact ⟨by show (0 : Int) ≤ (a : Int); omega, by show (a : Int) ≤ (b : Int); omega, by show (b : Int) < (n : Int); omega, by show 1 ≤ t a b; omega, this⟩
/-- A right graph is the one of its own table. -/
theorem joinT_bet {n : Nat} {L : List E} (h : Right n L) : joinT (fun a b => bet a b L) n n = L := by
  refine ltE_ext (joinT_asc _ _ _) h.srt fun e => ?_
  rw [joinT_mem]
  constructor
  · rintro ⟨a, b, h1, h2, h3, h4, rfl⟩
    obtain ⟨x, hx, h5, h6⟩ := (bet_pos h.rng a b).1 h4
    obtain ⟨i, hi, rfl⟩ := mem_eAt hx
    have h7 := bet_first h.srt i hi ⟨h5, h6⟩
    have : (⟨a, b, bet a b L⟩ : E) = eAt L i := by
      rw [h7]
      generalize eAt L i = y at *
      obtain ⟨ya, yb, ym⟩ := y
      simp at h5 h6 ⊢
      exact ⟨h5.symm, h6.symm⟩
    rw [this]; exact hx
  · intro he
    obtain ⟨i, hi, rfl⟩ := mem_eAt he
    have h2 := h.rng _ he
    refine ⟨(eAt L i).a.toNat, (eAt L i).b.toNat, by omega, by omega, by omega, ?_, ?_⟩
    · show 0 < bet ((eAt L i).a.toNat : Int) ((eAt L i).b.toNat : Int) L
      rw [bet_first h.srt i hi ⟨by omega, by omega⟩]; omega
    · show eAt L i = ⟨((eAt L i).a.toNat : Int), ((eAt L i).b.toNat : Int), bet ((eAt L i).a.toNat : Int) ((eAt L i).b.toNat : Int) L⟩
      rw [bet_first h.srt i hi ⟨by omega, by omega⟩]
      generalize eAt L i = y at *
      obtain ⟨ya, yb, ym⟩ := y
      simp at h2 ⊢
      omega
end Go.Proofs.Gr
