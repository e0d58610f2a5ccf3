/- Neighbours, ends, graphs out of tables in numbers; ascending lists with the same members are equal. No program is named. -/
import Derived.Test.YtgejkgeojjgclaaGc
namespace Go.Proofs.Gr

theorem asc_ext {α : Type} {R : α → α → Prop} (hirr : ∀ x, ¬ R x x) (htr : ∀ x y z, R x y → R y z → R x z) {l m : List α} (h : l.Pairwise R) (k : m.Pairwise R) (hm : ∀ x, x ∈ l ↔ x ∈ m) : l = m := by
  induction l generalizing m with
  | nil =>
    cases m with
    | nil => rfl
    | cons y m => exact absurd ((hm y).2 List.mem_cons_self) List.not_mem_nil
  | cons x l ih =>
    cases m with
    | nil => exact absurd ((hm x).1 List.mem_cons_self) List.not_mem_nil
    | cons y m =>
      obtain ⟨h1, h2⟩ := List.pairwise_cons.1 h
      obtain ⟨k1, k2⟩ := List.pairwise_cons.1 k
      have hxy : x = y := by
        rcases List.mem_cons.1 ((hm x).1 List.mem_cons_self) with e | e
        · exact e
        · rcases List.mem_cons.1 ((hm y).2 List.mem_cons_self) with e' | e'
          · exact e'.symm
          · exact absurd (htr _ _ _ (h1 y e') (k1 x e)) (hirr x)
      subst hxy
      rw [ih h2 k2 fun z => ?_]
      constructor
      · intro hz
        rcases List.mem_cons.1 ((hm z).1 (List.mem_cons_of_mem _ hz)) with e | e
        · subst e; exact absurd (h1 z hz) (hirr z)
        · exact e
      · intro hz
        rcases List.mem_cons.1 ((hm z).2 (List.mem_cons_of_mem _ hz)) with e | e
        · subst e; exact absurd (k1 z hz) (hirr z)
        · exact e
/-- What an edge adds to the neighbours of a vertex. -/
def nbO (v : Int) (e : E) : Option Int := if e.a = e.b then none else if e.a = v then some e.b else if e.b = v then some e.a else none
def nbP (v : Int) (L : List E) : List Int := L.filterMap (nbO v)
theorem nbP_take (v : Int) (L : List E) (i : Nat) (h : i < L.length) : nbP v (L.take (i + 1)) = nbP v (L.take i) ++ (nbO v (eAt L i)).toList := by
  unfold nbP
  rw [List.take_succ_eq_append_getElem h, List.filterMap_append, eAt_get]
  cases hq : nbO v (eAt L i) <;> simp [hq]
def nbR (v : Int) (L : List E) : Nat → List Int
  | 0 => []
  | u + 1 => nbR v L u ++ (if (u : Int) ≠ v ∧ 0 < betw u v L then [(u : Int)] else [])
theorem nbR_mem (v : Int) (L : List E) (n : Nat) (x : Int) : x ∈ nbR v L n ↔ 0 ≤ x ∧ x < n ∧ x ≠ v ∧ 0 < betw x v L := by
  induction n with
  | zero => simp [nbR]; omega
  | succ n ih =>
    rw [nbR, List.mem_append, ih]
    by_cases h : (n : Int) ≠ v ∧ 0 < betw n v L
    · rw [if_pos h, List.mem_singleton]
      constructor
      · rintro (h1 | rfl)
        · exact ⟨h1.1, by omega, h1.2.2⟩
        · exact ⟨by omega, by omega, h⟩
      · rintro ⟨h1, h2, h3⟩
        by_cases e : x = n
        · exact .inr e
        · exact .inl ⟨h1, by omega, h3⟩
    · rw [if_neg h]
      constructor
      · rintro (h1 | h1)
        · exact ⟨h1.1, by omega, h1.2.2⟩
        · simp at h1
      · rintro ⟨h1, h2, h3⟩
        refine .inl ⟨h1, ?_, h3⟩
        by_cases e : x = n
        · subst e; exact absurd h3 h
        · omega
theorem nbR_asc (v : Int) (L : List E) (n : Nat) : (nbR v L n).Pairwise (· < ·) := by
  induction n with
  | zero => exact List.Pairwise.nil
  | succ n ih =>
    rw [nbR, List.pairwise_append]
    refine ⟨ih, by split <;> simp, fun x hx y hy => ?_⟩
    have h1 := (nbR_mem v L n x).1 hx
    split at hy
    · simp at hy; subst hy; omega
    · simp at hy
theorem nb_eq {n : Nat} {L : List E} (h : Right n L) (v : Int) (hv : 0 ≤ v ∧ v < n) : nbP v L = nbR v L n := by
  refine asc_ext (R := fun x y : Int => x < y) (fun x => Int.lt_irrefl x) (fun x y z => Int.lt_trans) ?_ (nbR_asc v L n) fun x => ?_
  · unfold nbP
    rw [List.pairwise_filterMap]
    have h2 := h.rng
    have h3 := h.srt
    clear h
    induction L with
    | nil => exact List.Pairwise.nil
    | cons e r ih =>
      obtain ⟨h4, h5⟩ := List.pairwise_cons.1 h3
      refine List.pairwise_cons.2 ⟨fun y hy p hp q hq => ?_, ih (fun x hx => h2 x (List.mem_cons_of_mem _ hx)) h5⟩
      have h6 := h2 e List.mem_cons_self
      have h7 := h2 y (List.mem_cons_of_mem _ hy)
      have h8 := h4 y hy
      simp only [ltE, Bool.or_eq_true, Bool.and_eq_true, decide_eq_true_eq] at h8
      unfold nbO at hp hq
      split at hp
      · cases hp
      split at hq
      · cases hq
      split at hp
      · injection hp with hp
        split at hq
        · injection hq with hq; omega
        · split at hq
          · injection hq with hq; omega
          · cases hq
      · split at hp
        · injection hp with hp
          split at hq
          · injection hq with hq; omega
          · split at hq
            · injection hq with hq; omega
            · cases hq
        · cases hp
  · rw [nbR_mem]
    unfold nbP betw
    rw [List.mem_filterMap, bet_pos h.rng]
    constructor
    · rintro ⟨e, he, hx⟩
      have h6 := h.rng e he
      unfold nbO at hx
      split at hx
      · cases hx
      split at hx
      · injection hx with hx; exact ⟨by omega, by omega, by omega, e, he, by omega, by omega⟩
      · split at hx
        · injection hx with hx; exact ⟨by omega, by omega, by omega, e, he, by omega, by omega⟩
        · cases hx
    · rintro ⟨h1, h2, h3, e, he, h4, h5⟩
      refine ⟨e, he, ?_⟩
      unfold nbO
      rw [if_neg (by omega)]
      by_cases e1 : e.a = v
      · rw [if_pos e1]; congr 1; omega
      · rw [if_neg e1, if_pos (by omega)]; congr 1; omega
/-- The ends of the single edges. -/
def endsG (L : List E) : List (Int × Int) := L.flatMap fun e => List.replicate e.m.toNat (e.a, e.b)
theorem endsG_take (L : List E) (i : Nat) (h : i < L.length) : endsG (L.take (i + 1)) = endsG (L.take i) ++ List.replicate (eAt L i).m.toNat ((eAt L i).a, (eAt L i).b) := by
  unfold endsG
  rw [List.take_succ_eq_append_getElem h, List.flatMap_append, eAt_get]
  simp
def sizeG (L : List E) : Int := sumL (fun e => e.m) L
theorem endsG_len {n : Int} {L : List E} (h : ∀ e ∈ L, 0 ≤ e.a ∧ e.a ≤ e.b ∧ e.b < n ∧ 1 ≤ e.m ∧ e.m ≤ 50) : ((endsG L).length : Int) = sizeG L := by
  unfold sizeG
  induction L with
  | nil => rfl
  | cons e r ih =>
    have h2 := h e List.mem_cons_self
    have h1 := ih (fun x hx => h x (List.mem_cons_of_mem _ hx))
    rw [sumL, ← h1]
    unfold endsG
    rw [List.flatMap_cons, List.length_append, List.length_replicate]
    omega
theorem size_bound {n : Int} {L : List E} (h : ∀ e ∈ L, 0 ≤ e.a ∧ e.a ≤ e.b ∧ e.b < n ∧ 1 ≤ e.m ∧ e.m ≤ 50) : (L.length : Int) ≤ sizeG L ∧ sizeG L ≤ 50 * L.length := by
  unfold sizeG
  induction L with
  | nil => simp [sumL]
  | cons e r ih =>
    have h2 := h e List.mem_cons_self
    have h1 := ih (fun x hx => h x (List.mem_cons_of_mem _ hx))
    rw [sumL, List.length_cons]
    omega
/-- A row of a table, as edges. -/
def rowJ (t : Nat → Nat → Int) (a : Nat) : Nat → List E
  | 0 => []
  | b + 1 => rowJ t a b ++ (if a ≤ b ∧ 0 < t a b then [⟨a, b, t a b⟩] else [])
/-- The graph in which vertices are joined as often as a table says. -/
def joinT (t : Nat → Nat → Int) (n : Nat) : Nat → List E
  | 0 => []
  | a + 1 => joinT t n a ++ rowJ t a n
theorem rowJ_mem (t : Nat → Nat → Int) (a n : Nat) (e : E) : e ∈ rowJ t a n ↔ ∃ b : Nat, b < n ∧ a ≤ b ∧ 0 < t a b ∧ e = ⟨a, b, t a b⟩ := by
  induction n with
  | zero => simp [rowJ]
  | succ n ih =>
    rw [rowJ, List.mem_append, ih]
    by_cases h : a ≤ n ∧ 0 < t a n
    · rw [if_pos h, List.mem_singleton]
      constructor
      · rintro (⟨b, h1, h2⟩ | h1)
        · exact ⟨b, by omega, h2⟩
        · exact ⟨n, by omega, h.1, h.2, h1⟩
      · rintro ⟨b, h1, h2, h3, h4⟩
        by_cases e' : b = n
        · subst e'; exact .inr h4
        · exact .inl ⟨b, by omega, h2, h3, h4⟩
    · rw [if_neg h]
      constructor
      · rintro (⟨b, h1, h2⟩ | h1)
        · exact ⟨b, by omega, h2⟩
        · simp at h1
      · rintro ⟨b, h1, h2, h3, h4⟩
        by_cases e' : b = n
        · subst e'; exact absurd ⟨h2, h3⟩ h
        · exact .inl ⟨b, by omega, h2, h3, h4⟩
theorem joinT_mem (t : Nat → Nat → Int) (n k : Nat) (e : E) : e ∈ joinT t n k ↔ ∃ a b : Nat, a < k ∧ b < n ∧ a ≤ b ∧ 0 < t a b ∧ e = ⟨a, b, t a b⟩ := by
  induction k with
  | zero => simp [joinT]
  | succ k ih =>
    rw [joinT, List.mem_append, ih, rowJ_mem]
    constructor
    · rintro (⟨a, b, h1, h2⟩ | ⟨b, h1⟩)
      · exact ⟨a, b, by omega, h2⟩
      · exact ⟨k, b, by omega, h1⟩
    · rintro ⟨a, b, h1, h2⟩
      by_cases e' : a = k
      · subst e'; exact .inr ⟨b, h2⟩
      · exact .inl ⟨a, b, by omega, h2⟩
theorem rowJ_asc (t : Nat → Nat → Int) (a n : Nat) : (rowJ t a n).Pairwise (fun x y => ltE x y = true) := by
  induction n with
  | zero => exact List.Pairwise.nil
  | succ n ih =>
    rw [rowJ, List.pairwise_append]
    refine ⟨ih, by split <;> simp, fun x hx y hy => ?_⟩
    obtain ⟨b, h1, h2, h3, rfl⟩ := (rowJ_mem t a n x).1 hx
    split at hy
    · simp at hy; subst hy
      have h6 : ltE ⟨(a : Int), (b : Int), t a b⟩ ⟨(a : Int), (n : Int), t a n⟩ = true := by
        simp [ltE]; omega
      exact h6
    · simp at hy
theorem joinT_asc (t : Nat → Nat → Int) (n k : Nat) : (joinT t n k).Pairwise (fun x y => ltE x y = true) := by
  induction k with
  | zero => exact List.Pairwise.nil
  | succ k ih =>
    rw [joinT, List.pairwise_append]
    refine ⟨ih, rowJ_asc t k n, fun x hx y hy => ?_⟩
    obtain ⟨a, b, h1, h2, h3, h4, rfl⟩ := (joinT_mem t n k x).1 hx
    obtain ⟨c, h5, h6, h7, rfl⟩ := (rowJ_mem t k n y).1 hy
    simp only [ltE, Bool.or_eq_true, Bool.and_eq_true, decide_eq_true_eq]; omega
theorem ltE_ext {l m : List E} (h : l.Pairwise (fun x y => ltE x y = true)) (k : m.Pairwise (fun x y => ltE x y = true)) (hm : ∀ x, x ∈ l ↔ x ∈ m) : l = m :=
  asc_ext (R := fun x y : E => ltE x y = true) (fun _ h => ltE_irrefl h) (fun _ _ _ h k => ltE_trans h k) h k hm
theorem joinT_right (t : Nat → Nat → Int) (n : Nat) (h0 : 1 ≤ n) (h1 : n ≤ 12) (ht : ∀ a b, t a b ≤ 50) : Right n (joinT t n n) := by
  refine ⟨by omega, by omega, fun e he => ?_, joinT_asc t n n⟩
  obtain ⟨a, b, h2, h3, h4, h5, rfl⟩ := (joinT_mem t n n e).1 he
  have := ht a b
  exact ⟨by show (0 : Int) ≤ (a : Int); omega, by show (a : Int) ≤ (b : Int); omega, by show (b : Int) < (n : Int); omega, by show 1 ≤ t a b; omega, this⟩
/-- A right graph is the one of its own table. -/
theorem joinT_bet {n : Nat} {L : List E} (h : Right n L) : joinT (fun a b => bet a b L) n n = L := by
  refine ltE_ext (joinT_asc _ _ _) h.srt fun e => ?_
  rw [joinT_mem]
  constructor
  · rintro ⟨a, b, h1, h2, h3, h4, rfl⟩
    obtain ⟨x, hx, h5, h6⟩ := (bet_pos h.rng a b).1 h4
    obtain ⟨i, hi, rfl⟩ := mem_eAt hx
    have h7 := bet_first h.srt i hi ⟨h5, h6⟩
    have : (⟨a, b, bet a b L⟩ : E) = eAt L i := by
      rw [h7]
      generalize eAt L i = y at *
      obtain ⟨ya, yb, ym⟩ := y
      simp at h5 h6 ⊢
      exact ⟨h5.symm, h6.symm⟩
    rw [this]; exact hx
  · intro he
    obtain ⟨i, hi, rfl⟩ := mem_eAt he
    have h2 := h.rng _ he
    refine ⟨(eAt L i).a.toNat, (eAt L i).b.toNat, by omega, by omega, by omega, ?_, ?_⟩
    · show 0 < bet ((eAt L i).a.toNat : Int) ((eAt L i).b.toNat : Int) L
      rw [bet_first h.srt i hi ⟨by omega, by omega⟩]; omega
    · show eAt L i = ⟨((eAt L i).a.toNat : Int), ((eAt L i).b.toNat : Int), bet ((eAt L i).a.toNat : Int) ((eAt L i).b.toNat : Int) L⟩
      rw [bet_first h.srt i hi ⟨by omega, by omega⟩]
      generalize eAt L i = y at *
      obtain ⟨ya, yb, ym⟩ := y
      simp at h2 ⊢
      omega
end Go.Proofs.Gr
