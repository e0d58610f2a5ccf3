/- The components by relabelling are the parts by reaching, in numbers. And: The graph made from ends, by the reference. And: Numbers of contraction: lists without an element, new numbers of vertices, the order of single edges. And: The comparison of ends; the new numbers of vertices as a function that is passed on. -/
import Derived.Test.YtndjjafpdiehdaaQ06
import Derived.Test.YtndjjafpdiehdaaQ04
import Derived.Test.YtndjjafpdiehdaaQ01
namespace Go.Proofs.Ytndjjafpdiehdaa
open Go.Proofs.Gr

/-- Joined by a way. -/
inductive Cn (e : Nat → Nat → Bool) (n : Nat) (u : Nat) : Nat → Prop
  | refl : Cn e n u u
  | step {v w : Nat} : Cn e n u v → v < n → w < n → e v w = true → Cn e n u w
theorem Cn.trans {e : Nat → Nat → Bool} {n u v w : Nat} (h : Cn e n u v) (k : Cn e n v w) : Cn e n u w := by
  induction k with
  | refl => exact h
  | step _ h1 h2 h3 ih => exact .step ih h1 h2 h3
theorem Cn.symm {e : Nat → Nat → Bool} (hs : ∀ a b, e a b = e b a) {n u v : Nat} (h : Cn e n u v) : Cn e n v u := by
  induction h with
  | refl => exact .refl
  | step _ h1 h2 h3 ih => exact Cn.trans (.step .refl h2 h1 (by rw [hs]; exact h3)) ih
theorem Cn.lt {e : Nat → Nat → Bool} {n u v : Nat} (h : Cn e n u v) (hu : u < n) : v < n := by
  cases h with
  | refl => exact hu
  | step _ _ h2 _ => exact h2
/-- How many of the first n fulfil p. -/
def cntB (p : Nat → Bool) : Nat → Nat
  | 0 => 0
  | n + 1 => cntB p n + (if p n = true then 1 else 0)
theorem cntB_le (p : Nat → Bool) (n : Nat) : cntB p n ≤ n := by
  induction n with
  | zero => exact Nat.le_refl _
  | succ n ih => rw [cntB]; split <;> omega
theorem cntB_mono (p q : Nat → Bool) (n : Nat) (h : ∀ v, v < n → p v = true → q v = true) : cntB p n ≤ cntB q n := by
  induction n with
  | zero => exact Nat.le_refl _
  | succ n ih =>
    have h1 := ih fun v hv => h v (by omega)
    rw [cntB, cntB]
    by_cases e : p n = true
    · rw [if_pos e, if_pos (h n (by omega) e)]; omega
    · rw [if_neg e]; omega
theorem cntB_lt (p q : Nat → Bool) (n b : Nat) (h : ∀ v, v < n → p v = true → q v = true) (hb : b < n) (h1 : p b = false) (h2 : q b = true) : cntB p n < cntB q n := by
  induction n with
  | zero => omega
  | succ n ih =>
    rw [cntB, cntB]
    by_cases e : b = n
    · subst e
      have := cntB_mono p q b fun v hv => h v (by omega)
      rw [h1, h2]; simp; omega
    · have h3 := ih (fun v hv => h v (by omega)) (by omega)
      by_cases e : p n = true
      · rw [if_pos e, if_pos (h n (by omega) e)]; omega
      · rw [if_neg e]; omega
theorem cntB_congr (p q : Nat → Bool) (n : Nat) (h : ∀ v, v < n → p v = q v) : cntB p n = cntB q n := by
  induction n with
  | zero => rfl
  | succ n ih => rw [cntB, cntB, ih fun v hv => h v (by omega), h n (by omega)]
theorem cntB_but (p q : Nat → Bool) (n j : Nat) (hj : j < n) (hp : p j = true) (h : ∀ v, v < n → q v = (p v && decide (v ≠ j))) : cntB p n = cntB q n + 1 := by
  induction n with
  | zero => omega
  | succ n ih =>
    rw [cntB, cntB, h n (by omega)]
    by_cases e : j = n
    · subst e
      rw [cntB_congr p q j fun v hv => by rw [h v (by omega), decide_eq_true (by omega), Bool.and_true]]
      simp [hp]
    · have e2 : decide (n ≠ j) = true := by rw [decide_eq_true_eq]; omega
      rw [ih (by omega) fun v hv => h v (by omega), e2, Bool.and_true]
      omega
theorem cntB_one (p : Nat → Bool) (n j : Nat) (hj : j < n) (hp : p j = true) : 1 ≤ cntB p n := by
  induction n with
  | zero => omega
  | succ n ih =>
    rw [cntB]
    by_cases e : j = n
    · subst e; rw [if_pos hp]; omega
    · have := ih (by omega); omega
theorem cntB_filter (p : Nat → Bool) (n : Nat) : cntB p n = ((List.range n).filter p).length := by
  induction n with
  | zero => rfl
  | succ n ih =>
    rw [cntB, ih, List.range_succ, List.filter_append, List.length_append]
    by_cases e : p n = true
    · simp [e]
    · simp [e]

/-- Reaching. -/
theorem stepR_mono (e : Nat → Nat → Bool) (t : Nat → Bool) (a b v : Nat) (h : t v = true) : stepR e t a b v = true := by
  unfold stepR; split
  · subst_vars; rw [h]; rfl
  · exact h
theorem inR_mono (e : Nat → Nat → Bool) (a c : Nat) (t : Nat → Bool) (v : Nat) (h : t v = true) : inR e a c t v = true := by
  induction c with
  | zero => exact h
  | succ c ih => exact stepR_mono e _ a c v ih
theorem inR_mono2 (e : Nat → Nat → Bool) (a b c : Nat) (t : Nat → Bool) (v : Nat) (h : inR e a b t v = true) (hb : b ≤ c) : inR e a c t v = true := by
  induction c with
  | zero => obtain rfl : b = 0 := by omega
            exact h
  | succ c ih =>
    by_cases e' : b = c + 1
    · subst e'; exact h
    · exact stepR_mono e _ a c v (ih (by omega))
theorem midR_mono (e : Nat → Nat → Bool) (n c : Nat) (t : Nat → Bool) (v : Nat) (h : t v = true) : midR e n c t v = true := by
  induction c with
  | zero => exact h
  | succ c ih => exact inR_mono e c n _ v ih
theorem midR_mono2 (e : Nat → Nat → Bool) (n b c : Nat) (t : Nat → Bool) (v : Nat) (h : midR e n b t v = true) (hb : b ≤ c) : midR e n c t v = true := by
  induction c with
  | zero => obtain rfl : b = 0 := by omega
            exact h
  | succ c ih =>
    by_cases e' : b = c + 1
    · subst e'; exact h
    · exact inR_mono e c n _ v (ih (by omega))
theorem outR_mono (e : Nat → Nat → Bool) (n r : Nat) (t : Nat → Bool) (v : Nat) (h : t v = true) : outR e n r t v = true := by
  induction r with
  | zero => exact h
  | succ r ih => exact midR_mono e n n _ v ih
theorem midR_next (e : Nat → Nat → Bool) (n : Nat) (t : Nat → Bool) (a b : Nat) (ha : a < n) (hb : b < n) (h : t a = true) (he : e a b = true) : midR e n n t b = true := by
  refine midR_mono2 e n (a + 1) n t b ?_ (by omega)
  rw [midR]
  refine inR_mono2 e a (b + 1) n _ b ?_ (by omega)
  rw [inR]
  unfold stepR
  rw [if_pos rfl, inR_mono e a b _ a (midR_mono e n a t a h), he]; simp
theorem inR_sound (e : Nat → Nat → Bool) (n : Nat) (P : Nat → Prop) (hP : ∀ a b, a < n → b < n → P a → e a b = true → P b) (a : Nat) (ha : a < n) (c : Nat) (hc : c ≤ n) (t : Nat → Bool) (ht : ∀ v, t v = true → P v) : ∀ v, inR e a c t v = true → P v := by
  induction c with
  | zero => exact ht
  | succ c ih =>
    have h1 := ih (by omega)
    intro v hv
    rw [inR] at hv
    unfold stepR at hv
    split at hv
    · subst_vars
      simp only [Bool.or_eq_true, Bool.and_eq_true] at hv
      rcases hv with hv | ⟨h2, h3⟩
      · exact h1 _ hv
      · exact hP a _ ha (by omega) (h1 a h2) h3
    · exact h1 v hv
theorem midR_sound (e : Nat → Nat → Bool) (n : Nat) (P : Nat → Prop) (hP : ∀ a b, a < n → b < n → P a → e a b = true → P b) (c : Nat) (hc : c ≤ n) (t : Nat → Bool) (ht : ∀ v, t v = true → P v) : ∀ v, midR e n c t v = true → P v := by
  induction c with
  | zero => exact ht
  | succ c ih => exact inR_sound e n P hP c (by omega) n (Nat.le_refl _) _ (ih (by omega))
theorem outR_sound (e : Nat → Nat → Bool) (n : Nat) (P : Nat → Prop) (hP : ∀ a b, a < n → b < n → P a → e a b = true → P b) (r : Nat) (t : Nat → Bool) (ht : ∀ v, t v = true → P v) : ∀ v, outR e n r t v = true → P v := by
  induction r with
  | zero => exact ht
  | succ r ih => exact midR_sound e n P hP n (Nat.le_refl _) _ ih
def Closed (e : Nat → Nat → Bool) (n : Nat) (t : Nat → Bool) : Prop := ∀ a b, a < n → b < n → t a = true → e a b = true → t b = true
theorem outR_closed (e : Nat → Nat → Bool) (n : Nat) (t : Nat → Bool) (h : 1 ≤ cntB t n) (r : Nat) : Closed e n (outR e n r t) ∨ r + 1 ≤ cntB (outR e n r t) n := by
  induction r with
  | zero => exact .inr h
  | succ r ih =>
    rw [outR]
    by_cases hc : Closed e n (outR e n r t)
    · left
      have h1 : ∀ v, midR e n n (outR e n r t) v = true → outR e n r t v = true := midR_sound e n (fun v => outR e n r t v = true) (fun a b ha hb h1 h2 => hc a b ha hb h1 h2) n (Nat.le_refl _) _ (fun v hv => hv)
      exact fun a b ha hb h2 h3 => midR_mono e n n _ b (hc a b ha hb (h1 a h2) h3)
    · right
      have h2 := ih.resolve_left hc
      obtain ⟨a, b, ha, hb, h3, h4, h5⟩ : ∃ a b, a < n ∧ b < n ∧ outR e n r t a = true ∧ e a b = true ∧ outR e n r t b = false := by
        refine Classical.byContradiction fun hn => hc fun a b ha hb h3 h4 => ?_
        refine Classical.byContradiction fun h5 => hn ⟨a, b, ha, hb, h3, h4, by simpa using h5⟩
      have := cntB_lt (outR e n r t) (midR e n n (outR e n r t)) n b (fun v _ hv => midR_mono e n n _ v hv) hb h5 (midR_next e n _ a b ha hb h3 h4)
      omega
/-- What a graph joins. -/
def eG (L : List E) (a b : Nat) : Bool := decide (0 < betw (a : Int) (b : Int) L)
theorem eG_symm (L : List E) (a b : Nat) : eG L a b = eG L b a := by unfold eG betw; rw [Int.min_comm, Int.max_comm]
theorem reachR_iff (L : List E) (n v u : Nat) (hv : v < n) : reachR L n v u = true ↔ Cn (eG L) n v u := by
  constructor
  · intro h
    exact outR_sound (eG L) n (fun u => Cn (eG L) n v u) (fun a b ha hb h1 h2 => .step h1 ha hb h2) n (fun x => decide (x = v)) (fun x hx => by rw [of_decide_eq_true hx]; exact .refl) u h
  · intro h
    have hc : Closed (eG L) n (reachR L n v) := by
      rcases outR_closed (eG L) n (fun x => decide (x = v)) (cntB_one _ n v hv (by simp)) n with h1 | h1
      · exact h1
      · have := cntB_le (outR (eG L) n n fun x => decide (x = v)) n
        omega
    induction h with
    | refl => exact outR_mono (eG L) n n _ v (by simp)
    | step _ h1 h2 h3 ih => exact hc _ _ h1 h2 ih h3
/-- The parts of the reference: the least vertices of their parts are counted. -/
theorem psR_spec (L : List E) (n c : Nat) (hc : c ≤ n) : (∀ u, u < n → ((psR L n c).1 u = true ↔ ∃ v, v < c ∧ Cn (eG L) n v u)) ∧ (psR L n c).2 = cntB (fun v => !(psR L n v).1 v) c := by
  induction c with
  | zero => exact ⟨fun u _ => by simp [psR], rfl⟩
  | succ c ih =>
    obtain ⟨h1, h2⟩ := ih (by omega)
    have hcn : c < n := by omega
    rw [psR]
    by_cases hs : (psR L n c).1 c = true
    · rw [if_pos hs]
      refine ⟨fun u hu => ?_, ?_⟩
      · rw [h1 u hu]
        obtain ⟨v0, hv0, hk0⟩ := (h1 c hcn).1 hs
        constructor
        · rintro ⟨v, hv, hk⟩; exact ⟨v, by omega, hk⟩
        · rintro ⟨v, hv, hk⟩
          by_cases e : v = c
          · subst e; exact ⟨v0, hv0, hk0.trans hk⟩
          · exact ⟨v, by omega, hk⟩
      · rw [cntB, hs, h2]; rfl
    · rw [if_neg hs]
      refine ⟨fun u hu => ?_, ?_⟩
      · show orT (psR L n c).1 (reachR L n c) n u = true ↔ _
        unfold orT
        rw [if_pos hu, Bool.or_eq_true, h1 u hu, reachR_iff L n c u hcn]
        constructor
        · rintro (⟨v, hv, hk⟩ | hk)
          · exact ⟨v, by omega, hk⟩
          · exact ⟨c, by omega, hk⟩
        · rintro ⟨v, hv, hk⟩
          by_cases e : v = c
          · subst e; exact .inr hk
          · exact .inl ⟨v, by omega, hk⟩
      · show (psR L n c).2 + 1 = _
        rw [cntB, h2, if_pos (by simpa using hs)]
theorem parts_least (L : List E) (n : Nat) : ∃ p : Nat → Bool, partsR L n = cntB p n ∧ ∀ v, v < n → (p v = true ↔ ∀ u, u < v → ¬ Cn (eG L) n u v) := by
  refine ⟨fun v => !(psR L n v).1 v, (psR_spec L n n (Nat.le_refl _)).2, fun v hv => ?_⟩
  have := (psR_spec L n v (by omega)).1 v hv
  simp only [Bool.not_eq_true', ← Bool.not_eq_true, this]
  constructor
  · intro h u hu hk; exact h ⟨u, hu, hk⟩
  · rintro h ⟨u, hu, hk⟩; exact h u hu hk
/-- The tables of union by relabelling. -/
structure Lab (L0 : List E) (n : Nat) (t : Nat → Int) (c : Int) (L : List E) : Prop where
  eq : ∀ x ∈ L, t x.a.toNat = t x.b.toNat
  con : ∀ u v, u < n → v < n → t u = t v → Cn (eG L0) n u v
  root : ∀ u, u < n → 0 ≤ t u ∧ t u < n ∧ t (t u).toNat = t u
  cnt : c = cntB (fun v => decide (t v = (v : Int))) n
theorem eG_of {n : Nat} {L : List E} (h : Right n L) {x : E} (hx : x ∈ L) : eG L x.a.toNat x.b.toNat = true := by
  have h1 := h.rng x hx
  unfold eG betw
  rw [decide_eq_true_eq, bet_pos h.rng]
  exact ⟨x, hx, by omega, by omega⟩
theorem lab_step {L0 : List E} {n : Nat} (hR : Right n L0) {t : Nat → Int} {c : Int} {L : List E} (h : Lab L0 n t c L) {x : E} (hx : x ∈ L0) (hL : ∀ y ∈ L, y ∈ L0) : Lab L0 n (uStep (t, c) x).1 (uStep (t, c) x).2 (L ++ [x]) := by
  have hr := hR.rng x hx
  have hn := hR.hi
  have he := eG_of hR hx
  unfold uStep
  by_cases hk : t x.a.toNat = t x.b.toNat
  · rw [if_pos hk]
    refine ⟨fun y hy => ?_, h.con, h.root, h.cnt⟩
    rcases List.mem_append.1 hy with hy | hy
    · exact h.eq y hy
    · obtain rfl : y = x := by simpa using hy
      exact hk
  · rw [if_neg hk]
    generalize hA : x.a.toNat = A at *
    generalize hB : x.b.toNat = B at *
    have hAn : A < n := by omega
    have hBn : B < n := by omega
    have hn12 : n ≤ 12 := by omega
    have rA := h.root A hAn
    have rB := h.root B hBn
    have hrel : ∀ v, v < n → relT t (t A) (t B) 12 v = if t v = t B then t A else t v := fun v hv => by
      unfold relT
      by_cases e : t v = t B
      · rw [if_pos ⟨by omega, e⟩, if_pos e]
      · rw [if_neg (fun h' => e h'.2), if_neg e]
    refine ⟨fun y hy => ?_, fun u v hu hv huv => ?_, fun u hu => ?_, ?_⟩
    · show relT t (t A) (t B) 12 y.a.toNat = relT t (t A) (t B) 12 y.b.toNat
      rcases List.mem_append.1 hy with hy | hy
      · have h2 := hR.rng y (hL y hy)
        rw [hrel _ (by omega), hrel _ (by omega), h.eq y hy]
      · obtain rfl : y = x := by simpa using hy
        rw [hA, hB, hrel A hAn, hrel B hBn, if_neg hk, if_pos rfl]
    · have hAB : Cn (eG L0) n A B := .step .refl hAn hBn he
      have hu' := hrel u hu
      have hv' := hrel v hv
      have huv' : relT t (t A) (t B) 12 u = relT t (t A) (t B) 12 v := huv
      rw [hu', hv'] at huv'
      by_cases e1 : t u = t B
      · rw [if_pos e1] at huv'
        by_cases e2 : t v = t B
        · exact h.con u v hu hv (e1.trans e2.symm)
        · rw [if_neg e2] at huv'
          exact ((h.con u B hu hBn e1).trans (hAB.symm (eG_symm L0))).trans (h.con A v hAn hv huv')
      · rw [if_neg e1] at huv'
        by_cases e2 : t v = t B
        · rw [if_pos e2] at huv'
          exact ((h.con u A hu hAn huv').trans hAB).trans (h.con B v hBn hv e2.symm)
        · rw [if_neg e2] at huv'
          exact h.con u v hu hv huv'
    · show 0 ≤ relT t (t A) (t B) 12 u ∧ relT t (t A) (t B) 12 u < n ∧ relT t (t A) (t B) 12 (relT t (t A) (t B) 12 u).toNat = relT t (t A) (t B) 12 u
      have ru := h.root u hu
      rw [hrel u hu]
      by_cases e1 : t u = t B
      · rw [if_pos e1]
        refine ⟨rA.1, rA.2.1, ?_⟩
        rw [hrel _ (by omega), rA.2.2, if_neg hk]
      · rw [if_neg e1]
        refine ⟨ru.1, ru.2.1, ?_⟩
        rw [hrel _ (by omega), ru.2.2, if_neg e1]
    · show c - 1 = (cntB (fun v => decide (relT t (t A) (t B) 12 v = (v : Int))) n : Int)
      have hc := h.cnt
      rw [cntB_but (fun v => decide (t v = (v : Int))) (fun v => decide (relT t (t A) (t B) 12 v = (v : Int))) n (t B).toNat (by omega) (by rw [decide_eq_true_eq, rB.2.2]; omega) ?_] at hc
      · omega
      · intro v hv
        rw [Bool.eq_iff_iff]
        simp only [decide_eq_true_eq, Bool.and_eq_true, ne_eq]
        rw [hrel v hv]
        by_cases e1 : t v = t B
        · rw [if_pos e1]
          constructor
          · intro h2
            have h3 : A < n := hAn
            have : v = (t A).toNat := by omega
            rw [this, rA.2.2] at e1
            exact absurd e1 hk
          · rintro ⟨h2, h3⟩; omega
        · rw [if_neg e1]
          constructor
          · intro h2
            refine ⟨h2, fun h3 => e1 ?_⟩
            rw [h3, rB.2.2]
          · exact fun h2 => h2.1
theorem lab_start (L0 : List E) (n : Nat) (hn : n ≤ 12) : Lab L0 n (idT 12) n [] := by
  have hid : ∀ v, v < n → idT 12 v = v := fun v hv => by unfold idT; rw [if_pos (by omega)]
  refine ⟨fun x hx => by simp at hx, fun u v hu hv huv => ?_, fun u hu => ?_, ?_⟩
  · rw [hid u hu, hid v hv] at huv
    obtain rfl : u = v := by omega
    exact .refl
  · rw [hid u hu]
    refine ⟨by omega, by omega, ?_⟩
    rw [Int.toNat_natCast, hid u hu]
  · have : ∀ m, m ≤ n → cntB (fun v => decide (idT 12 v = (v : Int))) m = m := by
      intro m hm
      induction m with
      | zero => rfl
      | succ m ih => rw [cntB, ih (by omega), if_pos (by rw [decide_eq_true_eq, hid m (by omega)])]
    rw [this n (Nat.le_refl _)]
theorem uni_lab {n : Nat} {L : List E} (hR : Right n L) (M : List E) (hM : ∀ y ∈ M, y ∈ L) : Lab L n (uni n M).1 (uni n M).2 M := by
  have hn : n ≤ 12 := by have := hR.hi; omega
  have : ∀ (K M' : List E), (∀ y ∈ M', y ∈ L) → (∀ y ∈ K, y ∈ L) → ∀ st : (Nat → Int) × Int, Lab L n st.1 st.2 K → Lab L n (M'.foldl uStep st).1 (M'.foldl uStep st).2 (K ++ M') := by
    intro K M'
    induction M' generalizing K with
    | nil => intro _ _ st h; simpa using h
    | cons x r ih =>
      intro h1 h2 st h
      have h3 := lab_step hR (t := st.1) (c := st.2) h (h1 x (by simp)) h2
      have h4 := ih (K ++ [x]) (fun y hy => h1 y (by simp [hy])) (fun y hy => by
        rcases List.mem_append.1 hy with hy | hy
        · exact h2 y hy
        · obtain rfl : y = x := by simpa using hy
          exact h1 y (by simp)) (uStep st x) h3
      simpa using h4
  have h5 := this [] M hM (by simp) (idT 12, (n : Int)) (lab_start L n hn)
  simpa [uni] using h5
theorem len_le {α : Type} [DecidableEq α] : ∀ (l m : List α), l.Pairwise (· ≠ ·) → (∀ x ∈ l, x ∈ m) → l.length ≤ m.length
  | [], m, _, _ => Nat.zero_le _
  | x :: l, m, h, k => by
    obtain ⟨h1, h2⟩ := List.pairwise_cons.1 h
    have hx : x ∈ m := k x (by simp)
    have := len_le l (m.erase x) h2 fun y hy => (List.mem_erase_of_ne (h1 y hy).symm).2 (k y (by simp [hy]))
    rw [List.length_erase_of_mem hx] at this
    have h3 : 0 < m.length := List.length_pos_of_mem hx
    rw [List.length_cons]; omega
/-- The number of components, by relabelling, is the number of parts. -/
theorem comps_parts {n : Nat} {L : List E} (hR : Right n L) : compsU n L = partsR L n := by
  have hL := uni_lab hR L (fun y hy => hy)
  obtain ⟨p, hp, hpl⟩ := parts_least L n
  unfold compsU
  rw [hL.cnt, hp]
  generalize (uni n L).1 = t at hL
  have hconv : ∀ u v, u < n → Cn (eG L) n u v → t u = t v := by
    intro u v hu h
    induction h with
    | refl => rfl
    | @step v w _ h1 h2 h3 ih =>
      rw [ih]
      unfold eG betw at h3
      rw [decide_eq_true_eq, bet_pos hR.rng] at h3
      obtain ⟨x, hx, h4, h5⟩ := h3
      have h6 := hL.eq x hx
      rcases Int.le_total (v : Int) (w : Int) with h7 | h7
      · rw [show x.a.toNat = v by omega, show x.b.toNat = w by omega] at h6; exact h6
      · rw [show x.a.toNat = w by omega, show x.b.toNat = v by omega] at h6; exact h6.symm
  have key : cntB (fun v => decide (t v = (v : Int))) n = cntB p n := by
    rw [cntB_filter, cntB_filter]
    have hmap : ∀ m, m ∈ (List.range n).filter p ↔ m < n ∧ p m = true := fun m => by simp
    have hroot : ∀ m, m ∈ (List.range n).filter (fun v => decide (t v = (v : Int))) ↔ m < n ∧ t m = (m : Int) := fun m => by simp
    refine Nat.le_antisymm ?_ ?_
    · rw [show ((List.range n).filter p).length = (((List.range n).filter p).map (fun m : Nat => (t m).toNat)).length from (List.length_map _).symm]
      refine len_le _ _ ((List.nodup_range (n := n)).filter _) fun r hr => ?_
      obtain ⟨hrn, hrt⟩ := (hroot r).1 hr
      have hex : ∃ m, m < n ∧ Cn (eG L) n m r ∧ ∀ u, u < m → ¬ Cn (eG L) n u r := by
        have : ∀ k, k ≤ r → (∃ m, m < n ∧ Cn (eG L) n m r ∧ ∀ u, u < m → ¬ Cn (eG L) n u r) ∨ ∀ u, u < k → ¬ Cn (eG L) n u r := by
          intro k hk
          induction k with
          | zero => exact .inr fun u hu => by omega
          | succ k ih =>
            rcases ih (by omega) with h1 | h1
            · exact .inl h1
            · by_cases h2 : Cn (eG L) n k r
              · exact .inl ⟨k, by omega, h2, h1⟩
              · refine .inr fun u hu => ?_
                by_cases e : u = k
                · subst e; exact h2
                · exact h1 u (by omega)
        rcases this r (Nat.le_refl _) with h1 | h1
        · exact h1
        · exact ⟨r, hrn, .refl, h1⟩
      obtain ⟨m, hmn, hmr, hml⟩ := hex
      refine List.mem_map.2 ⟨m, (hmap m).2 ⟨hmn, (hpl m hmn).2 fun u hu hk => hml u hu (hk.trans hmr)⟩, ?_⟩
      show (t m).toNat = r
      rw [hconv m r hmn hmr, hrt]; omega
    · rw [show ((List.range n).filter p).length = (((List.range n).filter p).map (fun m : Nat => (t m).toNat)).length from (List.length_map _).symm]
      refine len_le _ _ ?_ fun x hx => ?_
      · rw [List.pairwise_map]
        refine List.Pairwise.imp_of_mem ?_ ((List.pairwise_lt_range (n := n)).filter _)
        intro a b ha hb hab
        obtain ⟨ha1, ha2⟩ := (hmap a).1 ha
        obtain ⟨hb1, hb2⟩ := (hmap b).1 hb
        intro e
        have rA := hL.root a ha1
        have rB := hL.root b hb1
        exact (hpl b hb1).1 hb2 a hab (hL.con a b ha1 hb1 (by omega))
      · obtain ⟨m, hm, rfl⟩ := List.mem_map.1 hx
        obtain ⟨hm1, hm2⟩ := (hmap m).1 hm
        have rm := hL.root m hm1
        exact (hroot _).2 ⟨by omega, by rw [rm.2.2]; omega⟩
  rw [key]
end Go.Proofs.Ytndjjafpdiehdaa

namespace Go.Proofs.Ytndjjafpdiehdaa
open Go.RowKit Go.Shelf Go.Proofs.Gr
attribute [local go_sem] Oper.semAt_some

/-- The lesser and the greater end. -/
def mnP (p : Int × Int) : Int := if p.2 < p.1 then p.2 else p.1
def mxP (p : Int × Int) : Int := if p.1 < p.2 then p.2 else p.1
/-- How often the first pairs join two vertices. -/
def cntT (P : List (Int × Int)) : Nat → Nat → Nat → Int
  | 0 => fun _ _ => 0
  | i + 1 => fun x y => if x = (mnP (pAt P i)).toNat ∧ y = (mxP (pAt P i)).toNat then cntT P i x y + 1 else cntT P i x y
theorem cntT_le (P : List (Int × Int)) (i x y : Nat) : 0 ≤ cntT P i x y ∧ cntT P i x y ≤ i := by
  induction i with
  | zero => simp [cntT]
  | succ i ih =>
    show 0 ≤ (if x = (mnP (pAt P i)).toNat ∧ y = (mxP (pAt P i)).toNat then cntT P i x y + 1 else cntT P i x y) ∧ (if x = (mnP (pAt P i)).toNat ∧ y = (mxP (pAt P i)).toNat then cntT P i x y + 1 else cntT P i x y) ≤ ((i + 1 : Nat) : Int)
    split <;> omega
def pErr (n : Int) (P : List (Int × Int)) (i : Nat) : Nat := if isV n (pAt P i).1 = true ∧ isV n (pAt P i).2 = true then 0 else 2
set_option maxHeartbeats 12800000 in
set_option maxRecDepth 100000 in
theorem rmake_ok (n : Nat) (hn0 : 1 ≤ n) (hn : n ≤ 12) (b : Option Addr) (cp : Nat) (P : List (Int × Int)) (hP : P.length ≤ 4096) (w : World) (hp : PsAt w b P) :
    Calls Try.prog 65 #[.int .i64 n, .slice b P.length cp] w (fun e w' => ∃ k, GivesGE w (if k = 0 then n else 0) (if k = 0 then joinT (cntT P P.length) n n else []) k e w' ∧
      ((k = 2 ∧ ∃ j, j < P.length ∧ pErr n P j ≠ 0) ∨ (k = 5 ∧ (∀ j, j < P.length → pErr n P j = 0) ∧ ∃ x y, x < n ∧ y < n ∧ 50 < cntT P P.length x y) ∨ (k = 0 ∧ (∀ j, j < P.length → pErr n P j = 0) ∧ ∀ x y, x < n → y < n → cntT P P.length x y ≤ 50))) := by
  have HTB := Lib.hid (fun w => rtable_any n (by omega) w)
  have HJO := Lib.hid (fun v base G t hG w h => rjoined_any n (by omega) v base G t hG w h)
  have HCS : Hid (∀ i x y, cntT P (i + 1) x y = if x = (mnP (pAt P i)).toNat ∧ y = (mxP (pAt P i)).toNat then cntT P i x y + 1 else cntT P i x y) := Lib.hid fun i x y => rfl
  have HCL := Lib.hid (fun i x y => cntT_le P i x y)
  have HC0 : Hid (∀ x y, cntT P 0 x y = 0) := Lib.hid fun x y => rfl
  unfold GivesGE
  unfold GivesG gv at *
  obtain ⟨W, hW⟩ : ∃ W, W = w.alloc (Obj.cells #[.int .i64 0, .slice none 0 0] 24) := ⟨_, rfl⟩
  have hB0 : Below w.heap.size w W := by rw [hW]; exact (Below.refl _ w).alloc (Nat.le_refl _) _
  have hR : Blk W w.heap.size 24 #[.int .i64 0, .slice none 0 0] := by rw [hW]; exact Blk.new _ _ _
  have HW := Lib.hid hW
  have HB0 := Lib.hid hB0
  have HR1 := Lib.hid hR
  have HPs := Lib.hid (hp.keep hB0)
  have a1 : decide ((n : Int) < 1) = false := decide_eq_false (by omega)
  have a2 : decide (12 < (n : Int)) = false := decide_eq_false (by omega)
  have a3 : decide (4096 < ((P.length : Nat) : Int)) = false := decide_eq_false (by omega)
  clear hB0 hR hW hp
  go_enter Try.func65, Try.ntmps65
  go_wp2_with fail
  rw [← HW.out]
  refine (HTB.out W).mono ?_
  rintro e w1 ⟨v, G, rfl, hG, hT, hb⟩
  have HT0 : Hid (Tab w1 W.heap.size v n G (cntT P 0)) := Lib.hid (hT.congr hG fun x y _ _ => HC0.out x y)
  have HB1 := Lib.hid hb
  clear hT hb a1 a2 a3
  go_wp2
  go_loopw [7] (fun x wr => ∃ i : Nat, i ≤ P.length ∧ x = .int .i64 i ∧ (∀ j, j < i → pErr n P j = 0) ∧ Tab wr W.heap.size v n G (cntT P i) ∧ Below W.heap.size W wr) (fun x _ => P.length - (intOf x).toNat)
  case atStart => exact ⟨0, by omega, rfl, fun j hj => by omega, HT0.out, HB1.out⟩
  case round =>
    obtain ⟨i, hi, rfl, hz, hT, hb⟩ := hrel
    have HZ := Lib.hid hz
    by_cases hlt : i < P.length
    · obtain ⟨b1, o1, rfl, q1, x1, x2⟩ := (HPs.out.keep hb).two i hlt
      have HEr : Hid (pErr n P i = if isV n (pAt P i).1 = true ∧ isV n (pAt P i).2 = true then 0 else 2) := Lib.hid rfl
      have HC1 := Lib.hid (fun x y => HCS.out i x y)
      have hcl := HCL.out i
      generalize hTp : pAt P i = T at *
      obtain ⟨ta, tb⟩ := T
      simp only at x1 x2
      have i1 : (i : Int) < ((P.length : Nat) : Int) := by omega
      have i0 : (0 : Int) ≤ (i : Int) := by omega
      have HTr := Lib.hid hT
      have HBr := Lib.hid hb
      clear hTp hz hT hb
      by_cases hok : (0 ≤ ta ∧ ta < n) ∧ (0 ≤ tb ∧ tb < n)
      · have HE0 : Hid (pErr n P i = 0) := Lib.hid (by rw [HEr.out, if_pos]; simp [isV]; omega)
        obtain ⟨p, hp⟩ : ∃ p : Nat, (if tb < ta then tb else ta) = (p : Int) := ⟨(if tb < ta then tb else ta).toNat, by split <;> omega⟩
        obtain ⟨q, hq⟩ : ∃ q : Nat, (if ta < tb then tb else ta) = (q : Int) := ⟨(if ta < tb then tb else ta).toNat, by split <;> omega⟩
        have hpn : p < n := by split at hp <;> omega
        have hqn : q < n := by split at hq <;> omega
        have HM : Hid (mnP (ta, tb) = p ∧ mxP (ta, tb) = q) := Lib.hid ⟨hp, hq⟩
        obtain ⟨gb, c, g, hv, q2, q3, q4, y1, y2, y3, hset⟩ := HTr.out.at2 hG p q hpn hqn
        subst hv
        have hcb := hcl p q
        have w1' : IntKind.i64.wrap (cntT P i p q + 1) = cntT P i p q + 1 := IntWalk.i64_in _ (by omega)
        have HN : Hid (Tab (wr.setCell ⟨g, q, none⟩ (.int .i64 (cntT P i p q + 1))) W.heap.size (.slice (some ⟨gb, 0, none⟩) n c) n G (cntT P (i + 1))) := Lib.hid ((hset _).congr hG fun x y _ _ => by
          rw [HC1.out, HM.out.1, HM.out.2, Int.toNat_natCast, Int.toNat_natCast]
          by_cases e : x = p ∧ y = q
          · rw [if_pos e, if_pos e, e.1, e.2]
          · rw [if_neg e, if_neg e])
        have HBN : Hid (Below W.heap.size W (wr.setCell ⟨g, q, none⟩ (.int .i64 (cntT P i p q + 1)))) := Lib.hid (HBr.out.setCell (p := ⟨g, q, none⟩) q4 _)
        generalize cntT P i p q = cv at *
        have a1 : decide (ta < 0) = false := decide_eq_false (by omega)
        have a2 : decide ((n : Int) ≤ ta) = false := decide_eq_false (by omega)
        have a3 : decide (tb < 0) = false := decide_eq_false (by omega)
        have a4 : decide ((n : Int) ≤ tb) = false := decide_eq_false (by omega)
        have p1 : (p : Int) < (n : Int) := by omega
        have p0 : (0 : Int) ≤ (p : Int) := by omega
        have q1' : (q : Int) < (n : Int) := by omega
        have q0' : (0 : Int) ≤ (q : Int) := by omega
        have HNX : Hid (∀ j, j < i + 1 → pErr n P j = 0) := Lib.hid (fun j hj => by
          by_cases e : j = i
          · subst e; exact HE0.out
          · exact HZ.out j (by omega))
        clear hset hcb hcl hok
        go_wp2
        go_quiet (fail)
        go_wp2
        go_roundw
        case rel => exact ⟨i + 1, by omega, by go_num, HNX.out, ⟨HN.out.own, HN.out.row, HN.out.srt⟩, (below_drewN HBr.out _).setCell (p := ⟨g, q, none⟩) q4 _⟩
        case measure => simp [intOf]; omega
      · have HE2 : Hid (pErr n P i ≠ 0) := Lib.hid (by rw [HEr.out, if_neg]; omega; simp [isV]; omega)
        by_cases h1 : ta < 0
        · have a1 : decide (ta < 0) = true := decide_eq_true h1
          have HLT := Lib.hid hlt
          clear hok hcl
          go_wp2
          go_quiet (fail)
          have hbq : Below W.heap.size W (wr.drewN nq) := below_drewN HBr.out nq
          have hRr : Blk (wr.drewN nq) w.heap.size 24 #[.int .i64 0, .slice none 0 0] := HR1.out.below hbq HR1.out.lt
          have r1 : (wr.drewN nq).cell? ⟨w.heap.size, 0, none⟩ = some (.int .i64 0) := hRr.cell 0
          have r3 : (wr.drewN nq).frozen? ⟨w.heap.size, 0, none⟩ = false := hRr.frozen 0
          have r2 : ((wr.drewN nq).setCell ⟨w.heap.size, 0, none⟩ (.int .i64 0)).cell? ⟨w.heap.size, 1, none⟩ = some (.slice none 0 0) := (hRr.set_ 0 (.int .i64 0)).cell 1
          have r4 : ((wr.drewN nq).setCell ⟨w.heap.size, 0, none⟩ (.int .i64 0)).frozen? ⟨w.heap.size, 1, none⟩ = false := (hRr.set_ 0 (.int .i64 0)).frozen 1
          have hRf := (hRr.set_ 0 (.int .i64 0)).set_ 1 (.slice none 0 0)
          have r5 : (((wr.drewN nq).setCell ⟨w.heap.size, 0, none⟩ (.int .i64 0)).setCell ⟨w.heap.size, 1, none⟩ (.slice none 0 0)).cell? ⟨w.heap.size, 0, none⟩ = some (.int .i64 0) := hRf.cell 0
          have r6 : (((wr.drewN nq).setCell ⟨w.heap.size, 0, none⟩ (.int .i64 0)).setCell ⟨w.heap.size, 1, none⟩ (.slice none 0 0)).cell? ⟨w.heap.size, 1, none⟩ = some (.slice none 0 0) := hRf.cell 1
          have HBF : Hid (Below w.heap.size w (((wr.drewN nq).setCell ⟨w.heap.size, 0, none⟩ (.int .i64 0)).setCell ⟨w.heap.size, 1, none⟩ (.slice none 0 0))) := Lib.hid (((HB0.out.trans (hbq.mono HB0.out.size)).setCell (p := ⟨w.heap.size, 0, none⟩) (Nat.le_refl _) _).setCell (p := ⟨w.heap.size, 1, none⟩) (Nat.le_refl _) _)
          clear hRr hRf
          clear hbq
          go_wp2
          refine bodyPost_ret (v := .tuple #[.agg #[.int .i64 0, .slice none 0 0], .int .i64 2]) (by simp [results, Try.results65, go_sem, r5, r6]) rfl ?_
          exact ⟨2, ⟨none, 0, rfl, RowAt.nil _ _ _ _, World.ownsRow_nil _ _ _ _, HBF.out⟩, Or.inl ⟨rfl, i, HLT.out, HE2.out⟩⟩
        · skip
          by_cases h2 : (n : Int) ≤ ta
          · have a1 : decide (ta < 0) = false := decide_eq_false h1
            have a2 : decide ((n : Int) ≤ ta) = true := decide_eq_true h2
            have HLT := Lib.hid hlt
            clear hok hcl
            go_wp2
            go_quiet (fail)
            have hbq : Below W.heap.size W (wr.drewN nq) := below_drewN HBr.out nq
            have hRr : Blk (wr.drewN nq) w.heap.size 24 #[.int .i64 0, .slice none 0 0] := HR1.out.below hbq HR1.out.lt
            have r1 : (wr.drewN nq).cell? ⟨w.heap.size, 0, none⟩ = some (.int .i64 0) := hRr.cell 0
            have r3 : (wr.drewN nq).frozen? ⟨w.heap.size, 0, none⟩ = false := hRr.frozen 0
            have r2 : ((wr.drewN nq).setCell ⟨w.heap.size, 0, none⟩ (.int .i64 0)).cell? ⟨w.heap.size, 1, none⟩ = some (.slice none 0 0) := (hRr.set_ 0 (.int .i64 0)).cell 1
            have r4 : ((wr.drewN nq).setCell ⟨w.heap.size, 0, none⟩ (.int .i64 0)).frozen? ⟨w.heap.size, 1, none⟩ = false := (hRr.set_ 0 (.int .i64 0)).frozen 1
            have hRf := (hRr.set_ 0 (.int .i64 0)).set_ 1 (.slice none 0 0)
            have r5 : (((wr.drewN nq).setCell ⟨w.heap.size, 0, none⟩ (.int .i64 0)).setCell ⟨w.heap.size, 1, none⟩ (.slice none 0 0)).cell? ⟨w.heap.size, 0, none⟩ = some (.int .i64 0) := hRf.cell 0
            have r6 : (((wr.drewN nq).setCell ⟨w.heap.size, 0, none⟩ (.int .i64 0)).setCell ⟨w.heap.size, 1, none⟩ (.slice none 0 0)).cell? ⟨w.heap.size, 1, none⟩ = some (.slice none 0 0) := hRf.cell 1
            have HBF : Hid (Below w.heap.size w (((wr.drewN nq).setCell ⟨w.heap.size, 0, none⟩ (.int .i64 0)).setCell ⟨w.heap.size, 1, none⟩ (.slice none 0 0))) := Lib.hid (((HB0.out.trans (hbq.mono HB0.out.size)).setCell (p := ⟨w.heap.size, 0, none⟩) (Nat.le_refl _) _).setCell (p := ⟨w.heap.size, 1, none⟩) (Nat.le_refl _) _)
            clear hRr hRf
            clear hbq
            go_wp2
            refine bodyPost_ret (v := .tuple #[.agg #[.int .i64 0, .slice none 0 0], .int .i64 2]) (by simp [results, Try.results65, go_sem, r5, r6]) rfl ?_
            exact ⟨2, ⟨none, 0, rfl, RowAt.nil _ _ _ _, World.ownsRow_nil _ _ _ _, HBF.out⟩, Or.inl ⟨rfl, i, HLT.out, HE2.out⟩⟩
          · skip
            by_cases h3 : tb < 0
            · have a1 : decide (ta < 0) = false := decide_eq_false h1
              have a2 : decide ((n : Int) ≤ ta) = false := decide_eq_false h2
              have a3 : decide (tb < 0) = true := decide_eq_true h3
              have HLT := Lib.hid hlt
              clear hok hcl
              go_wp2
              go_quiet (fail)
              have hbq : Below W.heap.size W (wr.drewN nq) := below_drewN HBr.out nq
              have hRr : Blk (wr.drewN nq) w.heap.size 24 #[.int .i64 0, .slice none 0 0] := HR1.out.below hbq HR1.out.lt
              have r1 : (wr.drewN nq).cell? ⟨w.heap.size, 0, none⟩ = some (.int .i64 0) := hRr.cell 0
              have r3 : (wr.drewN nq).frozen? ⟨w.heap.size, 0, none⟩ = false := hRr.frozen 0
              have r2 : ((wr.drewN nq).setCell ⟨w.heap.size, 0, none⟩ (.int .i64 0)).cell? ⟨w.heap.size, 1, none⟩ = some (.slice none 0 0) := (hRr.set_ 0 (.int .i64 0)).cell 1
              have r4 : ((wr.drewN nq).setCell ⟨w.heap.size, 0, none⟩ (.int .i64 0)).frozen? ⟨w.heap.size, 1, none⟩ = false := (hRr.set_ 0 (.int .i64 0)).frozen 1
              have hRf := (hRr.set_ 0 (.int .i64 0)).set_ 1 (.slice none 0 0)
              have r5 : (((wr.drewN nq).setCell ⟨w.heap.size, 0, none⟩ (.int .i64 0)).setCell ⟨w.heap.size, 1, none⟩ (.slice none 0 0)).cell? ⟨w.heap.size, 0, none⟩ = some (.int .i64 0) := hRf.cell 0
              have r6 : (((wr.drewN nq).setCell ⟨w.heap.size, 0, none⟩ (.int .i64 0)).setCell ⟨w.heap.size, 1, none⟩ (.slice none 0 0)).cell? ⟨w.heap.size, 1, none⟩ = some (.slice none 0 0) := hRf.cell 1
              have HBF : Hid (Below w.heap.size w (((wr.drewN nq).setCell ⟨w.heap.size, 0, none⟩ (.int .i64 0)).setCell ⟨w.heap.size, 1, none⟩ (.slice none 0 0))) := Lib.hid (((HB0.out.trans (hbq.mono HB0.out.size)).setCell (p := ⟨w.heap.size, 0, none⟩) (Nat.le_refl _) _).setCell (p := ⟨w.heap.size, 1, none⟩) (Nat.le_refl _) _)
              clear hRr hRf
              clear hbq
              go_wp2
              refine bodyPost_ret (v := .tuple #[.agg #[.int .i64 0, .slice none 0 0], .int .i64 2]) (by simp [results, Try.results65, go_sem, r5, r6]) rfl ?_
              exact ⟨2, ⟨none, 0, rfl, RowAt.nil _ _ _ _, World.ownsRow_nil _ _ _ _, HBF.out⟩, Or.inl ⟨rfl, i, HLT.out, HE2.out⟩⟩
            · skip
              have a1 : decide (ta < 0) = false := decide_eq_false h1
              have a2 : decide ((n : Int) ≤ ta) = false := decide_eq_false h2
              have a3 : decide (tb < 0) = false := decide_eq_false h3
              have a4 : decide ((n : Int) ≤ tb) = true := decide_eq_true (by omega)
              have HLT := Lib.hid hlt
              clear hok hcl
              go_wp2
              go_quiet (fail)
              have hbq : Below W.heap.size W (wr.drewN nq) := below_drewN HBr.out nq
              have hRr : Blk (wr.drewN nq) w.heap.size 24 #[.int .i64 0, .slice none 0 0] := HR1.out.below hbq HR1.out.lt
              have r1 : (wr.drewN nq).cell? ⟨w.heap.size, 0, none⟩ = some (.int .i64 0) := hRr.cell 0
              have r3 : (wr.drewN nq).frozen? ⟨w.heap.size, 0, none⟩ = false := hRr.frozen 0
              have r2 : ((wr.drewN nq).setCell ⟨w.heap.size, 0, none⟩ (.int .i64 0)).cell? ⟨w.heap.size, 1, none⟩ = some (.slice none 0 0) := (hRr.set_ 0 (.int .i64 0)).cell 1
              have r4 : ((wr.drewN nq).setCell ⟨w.heap.size, 0, none⟩ (.int .i64 0)).frozen? ⟨w.heap.size, 1, none⟩ = false := (hRr.set_ 0 (.int .i64 0)).frozen 1
              have hRf := (hRr.set_ 0 (.int .i64 0)).set_ 1 (.slice none 0 0)
              have r5 : (((wr.drewN nq).setCell ⟨w.heap.size, 0, none⟩ (.int .i64 0)).setCell ⟨w.heap.size, 1, none⟩ (.slice none 0 0)).cell? ⟨w.heap.size, 0, none⟩ = some (.int .i64 0) := hRf.cell 0
              have r6 : (((wr.drewN nq).setCell ⟨w.heap.size, 0, none⟩ (.int .i64 0)).setCell ⟨w.heap.size, 1, none⟩ (.slice none 0 0)).cell? ⟨w.heap.size, 1, none⟩ = some (.slice none 0 0) := hRf.cell 1
              have HBF : Hid (Below w.heap.size w (((wr.drewN nq).setCell ⟨w.heap.size, 0, none⟩ (.int .i64 0)).setCell ⟨w.heap.size, 1, none⟩ (.slice none 0 0))) := Lib.hid (((HB0.out.trans (hbq.mono HB0.out.size)).setCell (p := ⟨w.heap.size, 0, none⟩) (Nat.le_refl _) _).setCell (p := ⟨w.heap.size, 1, none⟩) (Nat.le_refl _) _)
              clear hRr hRf
              clear hbq
              go_wp2
              refine bodyPost_ret (v := .tuple #[.agg #[.int .i64 0, .slice none 0 0], .int .i64 2]) (by simp [results, Try.results65, go_sem, r5, r6]) rfl ?_
              exact ⟨2, ⟨none, 0, rfl, RowAt.nil _ _ _ _, World.ownsRow_nil _ _ _ _, HBF.out⟩, Or.inl ⟨rfl, i, HLT.out, HE2.out⟩⟩
    · obtain rfl : i = P.length := by omega
      obtain ⟨t, ht⟩ : ∃ t : Nat → Nat → Int, t = cntT P P.length := ⟨_, rfl⟩
      rw [← ht] at hT
      have HTE := Lib.hid ht
      have HTS := Lib.hid hT
      have HBS := Lib.hid hb
      clear hT hb hz ht
      go_wp2
      go_loopw [10] (fun z wr => ∃ x : Nat, x ≤ n ∧ z = .int .i64 x ∧ (∀ a b, a < x → b < n → t a b ≤ 50) ∧ Tab wr W.heap.size v n G t ∧ Below W.heap.size W wr) (fun z _ => n - (intOf z).toNat)
      case atStart => exact ⟨0, by omega, rfl, fun a b ha => by omega, HTS.out, HBS.out⟩
      case round =>
        obtain ⟨x, hx, rfl, hl, hT, hb⟩ := hrel
        by_cases hlx : x < n
        · have x1 : (x : Int) < (n : Int) := by omega
          have x0 : (0 : Int) ≤ (x : Int) := by omega
          have HLS := Lib.hid hl
          have HTx := Lib.hid hT
          have HBx := Lib.hid hb
          clear hT hb hl
          go_wp2
          go_loopw [11] (fun z wr => ∃ y : Nat, y ≤ n ∧ z = .int .i64 y ∧ (∀ b, b < y → t x b ≤ 50) ∧ Tab wr W.heap.size v n G t ∧ Below W.heap.size W wr) (fun z _ => n - (intOf z).toNat)
          case atStart => exact ⟨0, by omega, rfl, fun b hb => by omega, HTx.out, HBx.out⟩
          case round =>
            obtain ⟨y, hy, rfl, hl, hT, hb⟩ := hrel
            by_cases hly : y < n
            · obtain ⟨gb, c, g, hv, q2, q3, q4, y1, y2, -, -⟩ := hT.at2 hG x y hlx hly
              have HLY := Lib.hid hl
              have HTy := Lib.hid hT
              have HBy := Lib.hid hb
              have j1 : (y : Int) < (n : Int) := by omega
              have j0 : (0 : Int) ≤ (y : Int) := by omega
              subst hv
              by_cases h50 : 50 < t x y
              · have HBIG : Hid (∃ x y, x < n ∧ y < n ∧ 50 < t x y) := Lib.hid ⟨x, y, hlx, hly, h50⟩
                generalize t x y = z at *
                have hRr : Blk wr w.heap.size 24 #[.int .i64 0, .slice none 0 0] := HR1.out.below hb HR1.out.lt
                have r1 : wr.cell? ⟨w.heap.size, 0, none⟩ = some (.int .i64 0) := hRr.cell 0
                have r3 : wr.frozen? ⟨w.heap.size, 0, none⟩ = false := hRr.frozen 0
                have r2 : (wr.setCell ⟨w.heap.size, 0, none⟩ (.int .i64 0)).cell? ⟨w.heap.size, 1, none⟩ = some (.slice none 0 0) := (hRr.set_ 0 (.int .i64 0)).cell 1
                have r4 : (wr.setCell ⟨w.heap.size, 0, none⟩ (.int .i64 0)).frozen? ⟨w.heap.size, 1, none⟩ = false := (hRr.set_ 0 (.int .i64 0)).frozen 1
                have hRf := (hRr.set_ 0 (.int .i64 0)).set_ 1 (.slice none 0 0)
                have r5 : ((wr.setCell ⟨w.heap.size, 0, none⟩ (.int .i64 0)).setCell ⟨w.heap.size, 1, none⟩ (.slice none 0 0)).cell? ⟨w.heap.size, 0, none⟩ = some (.int .i64 0) := hRf.cell 0
                have r6 : ((wr.setCell ⟨w.heap.size, 0, none⟩ (.int .i64 0)).setCell ⟨w.heap.size, 1, none⟩ (.slice none 0 0)).cell? ⟨w.heap.size, 1, none⟩ = some (.slice none 0 0) := hRf.cell 1
                have HBF : Hid (Below w.heap.size w ((wr.setCell ⟨w.heap.size, 0, none⟩ (.int .i64 0)).setCell ⟨w.heap.size, 1, none⟩ (.slice none 0 0))) := Lib.hid (((HB0.out.trans (hb.mono HB0.out.size)).setCell (p := ⟨w.heap.size, 0, none⟩) (Nat.le_refl _) _).setCell (p := ⟨w.heap.size, 1, none⟩) (Nat.le_refl _) _)
                clear hRr hRf
                clear hb hl hT
                go_wp2
                refine bodyPost_ret (v := .tuple #[.agg #[.int .i64 0, .slice none 0 0], .int .i64 5]) (by simp [results, Try.results65, go_sem, r5, r6]) rfl ?_
                exact ⟨5, ⟨none, 0, rfl, RowAt.nil _ _ _ _, World.ownsRow_nil _ _ _ _, HBF.out⟩, Or.inr (Or.inl ⟨rfl, HZ.out, by rw [← HTE.out]; exact HBIG.out⟩)⟩
              · have HLN : Hid (∀ b, b < y + 1 → t x b ≤ 50) := Lib.hid fun b hb => by
                  by_cases e : b = y
                  · subst e; omega
                  · exact HLY.out b (by omega)
                generalize t x y = z at *
                clear hb hl hT
                go_wp2
                go_roundw
                case rel => exact ⟨y + 1, by omega, by go_num, HLN.out, HTy.out, HBy.out⟩
                case measure => simp [intOf]; omega
            · obtain rfl : y = n := by omega
              have HLN : Hid (∀ a b, a < x + 1 → b < y → t a b ≤ 50) := Lib.hid fun a b ha hb => by
                by_cases e : a = x
                · subst e; exact hl b hb
                · exact HLS.out a b (by omega) hb
              have HTy := Lib.hid hT
              have HBy := Lib.hid hb
              clear hb hl hT
              go_wp2
              go_roundw
              case rel => exact ⟨x + 1, by omega, by go_num, HLN.out, HTy.out, HBy.out⟩
              case measure => simp [intOf]; omega
        · obtain rfl : x = n := by omega
          have HLX := Lib.hid hl
          have HTr := Lib.hid hT
          have HBr := Lib.hid hb
          have HRr := Lib.hid (HR1.out.below hb HR1.out.lt)
          clear hT hb hl
          go_wp2_with fail
          refine (HJO.out _ _ _ _ hG _ HTr.out).mono ?_
          rintro e w2 ⟨a2, c2, rfl, -, he2, hb2⟩
          generalize hMM : joinT t x x = M at *
          have hlt := HRr.out.lt
          have e0 := ownsRow_setCell_below (ownsRow_setCell_below he2 (a := ⟨w.heap.size, 0, none⟩) hlt (.int .i64 (x : Nat))) (a := ⟨w.heap.size, 1, none⟩) hlt (.slice a2 M.length c2)
          have E3 := Lib.hid (e0.mono (base' := w.heap.size) (by omega))
          obtain ⟨a', c', e1, e2⟩ := RowAt.of_own encE_len3 e0
          have E1 := Lib.hid e1
          have E2 := Lib.hid e2
          have hbW : Below W.heap.size W w2 := HBr.out.trans (hb2.mono HBr.out.size)
          have hRr : Blk w2 w.heap.size 24 #[.int .i64 0, .slice none 0 0] := HR1.out.below hbW HR1.out.lt
          have r1 : w2.cell? ⟨w.heap.size, 0, none⟩ = some (.int .i64 0) := hRr.cell 0
          have r3 : w2.frozen? ⟨w.heap.size, 0, none⟩ = false := hRr.frozen 0
          have r2 : (w2.setCell ⟨w.heap.size, 0, none⟩ (.int .i64 x)).cell? ⟨w.heap.size, 1, none⟩ = some (.slice none 0 0) := (hRr.set_ 0 (.int .i64 x)).cell 1
          have r4 : (w2.setCell ⟨w.heap.size, 0, none⟩ (.int .i64 x)).frozen? ⟨w.heap.size, 1, none⟩ = false := (hRr.set_ 0 (.int .i64 x)).frozen 1
          have hRf := (hRr.set_ 0 (.int .i64 x)).set_ 1 (.slice a2 M.length c2)
          have r5 : ((w2.setCell ⟨w.heap.size, 0, none⟩ (.int .i64 x)).setCell ⟨w.heap.size, 1, none⟩ (.slice a2 M.length c2)).cell? ⟨w.heap.size, 0, none⟩ = some (.int .i64 x) := hRf.cell 0
          have r6 : ((w2.setCell ⟨w.heap.size, 0, none⟩ (.int .i64 x)).setCell ⟨w.heap.size, 1, none⟩ (.slice a2 M.length c2)).cell? ⟨w.heap.size, 1, none⟩ = some (.slice a2 M.length c2) := hRf.cell 1
          have HBF : Hid (Below w.heap.size w ((w2.setCell ⟨w.heap.size, 0, none⟩ (.int .i64 x)).setCell ⟨w.heap.size, 1, none⟩ (.slice a2 M.length c2))) := Lib.hid (((HB0.out.trans (hbW.mono HB0.out.size)).setCell (p := ⟨w.heap.size, 0, none⟩) (Nat.le_refl _) _).setCell (p := ⟨w.heap.size, 1, none⟩) (Nat.le_refl _) _)
          clear hRr hRf
          clear hb2 he2 e0 e1 e2 hlt hbW
          go_wp2
          refine bodyPost_ret (v := .tuple #[.agg #[.int .i64 (x : Nat), .slice a2 M.length c2], .int .i64 0]) (by simp [results, Try.results65, go_sem, r5, r6]) rfl ?_
          injection E1.out with q1 q2 q3
          have hq := E2.out
          rw [← q1] at hq
          refine ⟨0, ?_, Or.inr (Or.inr ⟨rfl, HZ.out, by rw [← HTE.out]; exact fun a b ha hb => HLX.out a b ha hb⟩)⟩
          rw [if_pos rfl, if_pos rfl, ← HTE.out, hMM]
          exact ⟨a2, c2, rfl, hq, E3.out, HBF.out⟩
set_option maxHeartbeats 12800000 in
set_option maxRecDepth 100000 in
theorem rmake_n0 (n : Int) (hn : n < 1) (b : Option Addr) (cp : Nat) (P : List (Int × Int))  (w : World) :
    Calls Try.prog 65 #[.int .i64 n, .slice b P.length cp] w (GivesGE w 0 [] 2) := by
  unfold GivesGE gv
  obtain ⟨W, hW⟩ : ∃ W, W = w.alloc (Obj.cells #[.int .i64 0, .slice none 0 0] 24) := ⟨_, rfl⟩
  have hB0 : Below w.heap.size w W := by rw [hW]; exact (Below.refl _ w).alloc (Nat.le_refl _) _
  have hR : Blk W w.heap.size 24 #[.int .i64 0, .slice none 0 0] := by rw [hW]; exact Blk.new _ _ _
  have HW := Lib.hid hW
  have HB0 := Lib.hid hB0
  have HR1 := Lib.hid hR
  have hbr := Below.refl W.heap.size W
  have a1 : decide (n < 1) = true := decide_eq_true hn
  have hRr : Blk W w.heap.size 24 #[.int .i64 0, .slice none 0 0] := HR1.out.below hbr HR1.out.lt
  have r1 : W.cell? ⟨w.heap.size, 0, none⟩ = some (.int .i64 0) := hRr.cell 0
  have r3 : W.frozen? ⟨w.heap.size, 0, none⟩ = false := hRr.frozen 0
  have r2 : (W.setCell ⟨w.heap.size, 0, none⟩ (.int .i64 0)).cell? ⟨w.heap.size, 1, none⟩ = some (.slice none 0 0) := (hRr.set_ 0 (.int .i64 0)).cell 1
  have r4 : (W.setCell ⟨w.heap.size, 0, none⟩ (.int .i64 0)).frozen? ⟨w.heap.size, 1, none⟩ = false := (hRr.set_ 0 (.int .i64 0)).frozen 1
  have hRf := (hRr.set_ 0 (.int .i64 0)).set_ 1 (.slice none 0 0)
  have r5 : ((W.setCell ⟨w.heap.size, 0, none⟩ (.int .i64 0)).setCell ⟨w.heap.size, 1, none⟩ (.slice none 0 0)).cell? ⟨w.heap.size, 0, none⟩ = some (.int .i64 0) := hRf.cell 0
  have r6 : ((W.setCell ⟨w.heap.size, 0, none⟩ (.int .i64 0)).setCell ⟨w.heap.size, 1, none⟩ (.slice none 0 0)).cell? ⟨w.heap.size, 1, none⟩ = some (.slice none 0 0) := hRf.cell 1
  have HBF : Hid (Below w.heap.size w ((W.setCell ⟨w.heap.size, 0, none⟩ (.int .i64 0)).setCell ⟨w.heap.size, 1, none⟩ (.slice none 0 0))) := Lib.hid (((HB0.out.trans (hbr.mono HB0.out.size)).setCell (p := ⟨w.heap.size, 0, none⟩) (Nat.le_refl _) _).setCell (p := ⟨w.heap.size, 1, none⟩) (Nat.le_refl _) _)
  clear hRr hRf
  clear hbr hB0 hR
  rw [hW] at r1 r2 r3 r4 r5 r6 HBF
  clear hW
  go_enter Try.func65, Try.ntmps65
  go_wp2
  refine bodyPost_ret (v := .tuple #[.agg #[.int .i64 0, .slice none 0 0], .int .i64 2]) (by simp [results, Try.results65, go_sem]) rfl ?_
  exact ⟨none, 0, rfl, RowAt.nil _ _ _ _, World.ownsRow_nil _ _ _ _, (Below.refl _ w).alloc (Nat.le_refl _) _⟩
set_option maxHeartbeats 12800000 in
set_option maxRecDepth 100000 in
theorem rmake_n1 (n : Int) (hn : 12 < n) (b : Option Addr) (cp : Nat) (P : List (Int × Int))  (w : World) :
    Calls Try.prog 65 #[.int .i64 n, .slice b P.length cp] w (GivesGE w 0 [] 2) := by
  unfold GivesGE gv
  obtain ⟨W, hW⟩ : ∃ W, W = w.alloc (Obj.cells #[.int .i64 0, .slice none 0 0] 24) := ⟨_, rfl⟩
  have hB0 : Below w.heap.size w W := by rw [hW]; exact (Below.refl _ w).alloc (Nat.le_refl _) _
  have hR : Blk W w.heap.size 24 #[.int .i64 0, .slice none 0 0] := by rw [hW]; exact Blk.new _ _ _
  have HW := Lib.hid hW
  have HB0 := Lib.hid hB0
  have HR1 := Lib.hid hR
  have hbr := Below.refl W.heap.size W
  have a1 : decide (n < 1) = false := decide_eq_false (by omega)
  have a2 : decide (12 < n) = true := decide_eq_true hn
  have hRr : Blk W w.heap.size 24 #[.int .i64 0, .slice none 0 0] := HR1.out.below hbr HR1.out.lt
  have r1 : W.cell? ⟨w.heap.size, 0, none⟩ = some (.int .i64 0) := hRr.cell 0
  have r3 : W.frozen? ⟨w.heap.size, 0, none⟩ = false := hRr.frozen 0
  have r2 : (W.setCell ⟨w.heap.size, 0, none⟩ (.int .i64 0)).cell? ⟨w.heap.size, 1, none⟩ = some (.slice none 0 0) := (hRr.set_ 0 (.int .i64 0)).cell 1
  have r4 : (W.setCell ⟨w.heap.size, 0, none⟩ (.int .i64 0)).frozen? ⟨w.heap.size, 1, none⟩ = false := (hRr.set_ 0 (.int .i64 0)).frozen 1
  have hRf := (hRr.set_ 0 (.int .i64 0)).set_ 1 (.slice none 0 0)
  have r5 : ((W.setCell ⟨w.heap.size, 0, none⟩ (.int .i64 0)).setCell ⟨w.heap.size, 1, none⟩ (.slice none 0 0)).cell? ⟨w.heap.size, 0, none⟩ = some (.int .i64 0) := hRf.cell 0
  have r6 : ((W.setCell ⟨w.heap.size, 0, none⟩ (.int .i64 0)).setCell ⟨w.heap.size, 1, none⟩ (.slice none 0 0)).cell? ⟨w.heap.size, 1, none⟩ = some (.slice none 0 0) := hRf.cell 1
  have HBF : Hid (Below w.heap.size w ((W.setCell ⟨w.heap.size, 0, none⟩ (.int .i64 0)).setCell ⟨w.heap.size, 1, none⟩ (.slice none 0 0))) := Lib.hid (((HB0.out.trans (hbr.mono HB0.out.size)).setCell (p := ⟨w.heap.size, 0, none⟩) (Nat.le_refl _) _).setCell (p := ⟨w.heap.size, 1, none⟩) (Nat.le_refl _) _)
  clear hRr hRf
  clear hbr hB0 hR
  rw [hW] at r1 r2 r3 r4 r5 r6 HBF
  clear hW
  go_enter Try.func65, Try.ntmps65
  go_wp2
  refine bodyPost_ret (v := .tuple #[.agg #[.int .i64 0, .slice none 0 0], .int .i64 2]) (by simp [results, Try.results65, go_sem]) rfl ?_
  exact ⟨none, 0, rfl, RowAt.nil _ _ _ _, World.ownsRow_nil _ _ _ _, (Below.refl _ w).alloc (Nat.le_refl _) _⟩
set_option maxHeartbeats 12800000 in
set_option maxRecDepth 100000 in
theorem rmake_many (n : Int) (hn0 : 1 ≤ n) (hn : n ≤ 12) (b : Option Addr) (cp : Nat) (P : List (Int × Int)) (hP : 4096 < P.length) (w : World) :
    Calls Try.prog 65 #[.int .i64 n, .slice b P.length cp] w (GivesGE w 0 [] 5) := by
  unfold GivesGE gv
  obtain ⟨W, hW⟩ : ∃ W, W = w.alloc (Obj.cells #[.int .i64 0, .slice none 0 0] 24) := ⟨_, rfl⟩
  have hB0 : Below w.heap.size w W := by rw [hW]; exact (Below.refl _ w).alloc (Nat.le_refl _) _
  have hR : Blk W w.heap.size 24 #[.int .i64 0, .slice none 0 0] := by rw [hW]; exact Blk.new _ _ _
  have HW := Lib.hid hW
  have HB0 := Lib.hid hB0
  have HR1 := Lib.hid hR
  have hbr := Below.refl W.heap.size W
  have a1 : decide (n < 1) = false := decide_eq_false (by omega)
  have a2 : decide (12 < n) = false := decide_eq_false (by omega)
  have a3 : decide (4096 < ((P.length : Nat) : Int)) = true := decide_eq_true (by omega)
  have hRr : Blk W w.heap.size 24 #[.int .i64 0, .slice none 0 0] := HR1.out.below hbr HR1.out.lt
  have r1 : W.cell? ⟨w.heap.size, 0, none⟩ = some (.int .i64 0) := hRr.cell 0
  have r3 : W.frozen? ⟨w.heap.size, 0, none⟩ = false := hRr.frozen 0
  have r2 : (W.setCell ⟨w.heap.size, 0, none⟩ (.int .i64 0)).cell? ⟨w.heap.size, 1, none⟩ = some (.slice none 0 0) := (hRr.set_ 0 (.int .i64 0)).cell 1
  have r4 : (W.setCell ⟨w.heap.size, 0, none⟩ (.int .i64 0)).frozen? ⟨w.heap.size, 1, none⟩ = false := (hRr.set_ 0 (.int .i64 0)).frozen 1
  have hRf := (hRr.set_ 0 (.int .i64 0)).set_ 1 (.slice none 0 0)
  have r5 : ((W.setCell ⟨w.heap.size, 0, none⟩ (.int .i64 0)).setCell ⟨w.heap.size, 1, none⟩ (.slice none 0 0)).cell? ⟨w.heap.size, 0, none⟩ = some (.int .i64 0) := hRf.cell 0
  have r6 : ((W.setCell ⟨w.heap.size, 0, none⟩ (.int .i64 0)).setCell ⟨w.heap.size, 1, none⟩ (.slice none 0 0)).cell? ⟨w.heap.size, 1, none⟩ = some (.slice none 0 0) := hRf.cell 1
  have HBF : Hid (Below w.heap.size w ((W.setCell ⟨w.heap.size, 0, none⟩ (.int .i64 0)).setCell ⟨w.heap.size, 1, none⟩ (.slice none 0 0))) := Lib.hid (((HB0.out.trans (hbr.mono HB0.out.size)).setCell (p := ⟨w.heap.size, 0, none⟩) (Nat.le_refl _) _).setCell (p := ⟨w.heap.size, 1, none⟩) (Nat.le_refl _) _)
  clear hRr hRf
  clear hbr hB0 hR
  rw [hW] at r1 r2 r3 r4 r5 r6 HBF
  clear hW
  go_enter Try.func65, Try.ntmps65
  go_wp2
  refine bodyPost_ret (v := .tuple #[.agg #[.int .i64 0, .slice none 0 0], .int .i64 5]) (by simp [results, Try.results65, go_sem]) rfl ?_
  exact ⟨none, 0, rfl, RowAt.nil _ _ _ _, World.ownsRow_nil _ _ _ _, (Below.refl _ w).alloc (Nat.le_refl _) _⟩
end Go.Proofs.Ytndjjafpdiehdaa

namespace Go.Proofs.Ytndjjafpdiehdaa
open Go.Proofs.Gr

/-- A list without the element number e. -/
def dropP {α : Type} (l : List α) (e : Nat) : List α := l.take e ++ l.drop (e + 1)
theorem dropP_len {α : Type} (l : List α) (e : Nat) (h : e < l.length) : (dropP l e).length + 1 = l.length := by
  unfold dropP; rw [List.length_append, List.length_take, List.length_drop]; omega
theorem dropP_mem {α : Type} {l : List α} {e : Nat} {x : α} (h : x ∈ dropP l e) : x ∈ l := by
  unfold dropP at h
  rcases List.mem_append.1 h with h | h
  · exact List.mem_of_mem_take h
  · exact List.mem_of_mem_drop h
theorem dropP_perm {α : Type} (l : List α) (e : Nat) (h : e < l.length) : l.Perm (l[e] :: dropP l e) := by
  have h1 : l = l.take e ++ l[e] :: l.drop (e + 1) := by rw [List.getElem_cons_drop, List.take_append_drop]
  conv => lhs; rw [h1]
  exact List.perm_middle
/-- The new number of a vertex when two are merged. -/
def mgF (p : Int × Int) (v : Int) : Int := if v < mxP p ∨ mnP p = mxP p then v else if v = mxP p then mnP p else v - 1
/-- The same, as the reference counts. -/
def mgR (p : Int × Int) (v : Int) : Int := if v = mxP p then mnP p else if mxP p < v then v - 1 else v
theorem mn_mx (p : Int × Int) : mnP p ≤ mxP p ∧ (mnP p = p.1 ∧ mxP p = p.2 ∨ mnP p = p.2 ∧ mxP p = p.1) := by
  unfold mnP mxP; split <;> split <;> omega
theorem mn_mx_eq (p : Int × Int) : mnP p = mxP p ↔ p.1 = p.2 := by
  have := mn_mx p; omega
theorem mgR_ne {p : Int × Int} (h : p.1 ≠ p.2) (v : Int) : mgR p v = mgF p v := by
  have h1 := mn_mx p
  unfold mgR mgF; split <;> split <;> (try split) <;> omega
theorem mgF_eq {p : Int × Int} (h : p.1 = p.2) (v : Int) : mgF p v = v := by
  unfold mgF; rw [if_pos (.inr ((mn_mx_eq p).2 h))]
theorem mgR_big {n v : Int} (h : v < n) : mgR (n, n) v = v := by
  unfold mgR mxP; simp only; split <;> split <;> omega
theorem mgF_rng {n : Int} {p : Int × Int} (h1 : 0 ≤ p.1 ∧ p.1 < n) (h2 : 0 ≤ p.2 ∧ p.2 < n) (v : Int) (hv : 0 ≤ v ∧ v < n) : 0 ≤ mgF p v ∧ mgF p v < mgF p n := by
  have := mn_mx p
  unfold mgF; split <;> split <;> (try split) <;> omega
theorem mgF_n {n : Int} {p : Int × Int} (h1 : 0 ≤ p.1 ∧ p.1 < n) (h2 : 0 ≤ p.2 ∧ p.2 < n) : mgF p n = if p.1 = p.2 then n else n - 1 := by
  have := mn_mx p
  unfold mgF; split <;> split <;> (try split) <;> omega
/-- Ends under new numbers, the lesser one first. -/
def mvF (f : Int → Int) (p : Int × Int) : Int × Int := (mnP (f p.1, f p.2), mxP (f p.1, f p.2))
def mvP (f : Int → Int) (P : List (Int × Int)) : List (Int × Int) := P.map (mvF f)
theorem mvP_len (f : Int → Int) (P : List (Int × Int)) : (mvP f P).length = P.length := by unfold mvP; rw [List.length_map]
theorem mvP_at (f : Int → Int) (P : List (Int × Int)) (j : Nat) (h : j < P.length) : pAt (mvP f P) j = mvF f (pAt P j) := by
  rw [← pAt_get _ j (by rw [mvP_len]; exact h), ← pAt_get P j h]; unfold mvP; rw [List.getElem_map]
theorem mvP_congr {f g : Int → Int} {P : List (Int × Int)} (h : ∀ p ∈ P, f p.1 = g p.1 ∧ f p.2 = g p.2) : mvP f P = mvP g P := by
  unfold mvP mvF
  refine List.map_congr_left fun p hp => ?_
  rw [(h p hp).1, (h p hp).2]
theorem mvP_drop (f : Int → Int) (P : List (Int × Int)) (e : Nat) : mvP f (dropP P e) = dropP (mvP f P) e := by
  unfold mvP dropP; rw [List.map_append, List.map_take, List.map_drop]
/-- The new numbers of the first vertices. -/
def plL (n : Nat) (f : Int → Int) : List Int := (List.range n).map fun v : Nat => f v
theorem plL_len (n : Nat) (f : Int → Int) : (plL n f).length = n := by unfold plL; simp
theorem plL_at (n : Nat) (f : Int → Int) (v : Nat) (h : v < n) : iAt (plL n f) v = f v := by
  rw [← iAt_get _ v (by rw [plL_len]; exact h)]; unfold plL; simp
theorem plL_succ (n : Nat) (f : Int → Int) : plL (n + 1) f = plL n f ++ [f n] := by
  unfold plL; rw [List.range_succ, List.map_append]; rfl
theorem plL_congr (n : Nat) (f g : Int → Int) (h : ∀ v : Nat, v < n → f v = g v) : plL n f = plL n g := by
  unfold plL; exact List.map_congr_left fun v hv => h v (List.mem_range.1 hv)
/-- The order of ends, and how they compare. -/
def ltP (p q : Int × Int) : Bool := decide (p.1 < q.1) || (decide (p.1 = q.1) && decide (p.2 < q.2))
def cmpP (p q : Int × Int) : Int := if p.1 < q.1 then -1 else if q.1 < p.1 then 1 else if p.2 < q.2 then -1 else if q.2 < p.2 then 1 else 0
theorem ltP_iff (p q : Int × Int) : ltP p q = true ↔ p.1 < q.1 ∨ p.1 = q.1 ∧ p.2 < q.2 := by unfold ltP; simp
theorem ltP_false (p q : Int × Int) : ltP p q = false ↔ ¬ (p.1 < q.1 ∨ p.1 = q.1 ∧ p.2 < q.2) := by rw [← ltP_iff]; simp
theorem cmpP_lt (p q : Int × Int) : (cmpP p q < 0) ↔ ltP p q = true := by
  rw [ltP_iff]; unfold cmpP; split <;> (try split) <;> (try split) <;> (try split) <;> omega
theorem ltP_trans {p q r : Int × Int} (h : ltP p q = true) (k : ltP q r = true) : ltP p r = true := by
  rw [ltP_iff] at *; omega
theorem ltP_three (p q : Int × Int) : ltP p q = true ∨ p = q ∨ ltP q p = true := by
  rw [ltP_iff, ltP_iff]
  rcases p with ⟨a, b⟩; rcases q with ⟨c, d⟩
  simp only [Prod.mk.injEq]; omega
theorem ltP_irr (p : Int × Int) : ltP p p = false := by rw [ltP_false]; omega
theorem ltP_asym {p q : Int × Int} (h : ltP p q = true) : ltP q p = false := by rw [ltP_iff] at h; rw [ltP_false]; omega
/-- The order of single edges by ends and then by numbers. -/
def ltI (Q : List (Int × Int)) (i j : Nat) : Bool := ltP (pAt Q i) (pAt Q j) || (decide (pAt Q i = pAt Q j) && decide (i < j))
theorem ltI_iff (Q : List (Int × Int)) (i j : Nat) : ltI Q i j = true ↔ ltP (pAt Q i) (pAt Q j) = true ∨ pAt Q i = pAt Q j ∧ i < j := by unfold ltI; simp
theorem ltI_irr (Q : List (Int × Int)) (i : Nat) : ¬ ltI Q i i = true := by
  rw [ltI_iff, ltP_irr]; simp
theorem ltI_trans {Q : List (Int × Int)} {i j k : Nat} (h : ltI Q i j = true) (h' : ltI Q j k = true) : ltI Q i k = true := by
  rw [ltI_iff] at *
  rcases h with h | ⟨h, h1⟩ <;> rcases h' with h' | ⟨h', h1'⟩
  · exact .inl (ltP_trans h h')
  · rw [← h']; exact .inl h
  · rw [h]; exact .inl h'
  · exact .inr ⟨h.trans h', by omega⟩
theorem ltI_three (Q : List (Int × Int)) (i j : Nat) : ltI Q i j = true ∨ i = j ∨ ltI Q j i = true := by
  rw [ltI_iff, ltI_iff]
  rcases ltP_three (pAt Q i) (pAt Q j) with h | h | h
  · exact .inl (.inl h)
  · rcases Nat.lt_trichotomy i j with h1 | h1 | h1
    · exact .inl (.inr ⟨h, h1⟩)
    · exact .inr (.inl h1)
    · exact .inr (.inr (.inr ⟨h.symm, h1⟩))
  · exact .inr (.inr (.inl h))
/-- How many other single edges come before one. -/
def cntI (Q : List (Int × Int)) (e i : Nat) : Nat → Nat := cntB fun j => decide (j ≠ e) && ltI Q j i
/-- The new numbers: -1 for the one that is left out. -/
def plc (Q : List (Int × Int)) (e : Nat) : List Int := (List.range Q.length).map fun i => if i = e then -1 else (cntI Q e i Q.length : Int)
def lessL (m e : Nat) : List Int := (List.range m).map fun i : Nat => if i = e then -1 else if e < i then (i : Int) - 1 else i
theorem plc_len (Q : List (Int × Int)) (e : Nat) : (plc Q e).length = Q.length := by unfold plc; simp
theorem lessL_len (m e : Nat) : (lessL m e).length = m := by unfold lessL; simp
theorem plc_at (Q : List (Int × Int)) (e i : Nat) (h : i < Q.length) : iAt (plc Q e) i = if i = e then -1 else (cntI Q e i Q.length : Int) := by
  rw [← iAt_get _ i (by rw [plc_len]; exact h)]; unfold plc; simp
theorem lessL_at (m e i : Nat) (h : i < m) : iAt (lessL m e) i = if i = e then -1 else if e < i then (i : Int) - 1 else i := by
  rw [← iAt_get _ i (by rw [lessL_len]; exact h)]; unfold lessL; simp
theorem cntB_low (e i n : Nat) (hi : i ≤ n) : cntB (fun j => decide (j ≠ e) && decide (j < i)) n = if e < i then i - 1 else i := by
  induction n with
  | zero => obtain rfl : i = 0 := by omega
            simp [cntB]
  | succ n ih =>
    rw [cntB]
    rcases Nat.lt_or_ge n i with h | h
    · obtain rfl : i = n + 1 := by omega
      have h1 : ∀ m, m ≤ n → cntB (fun j => decide (j ≠ e) && decide (j < n + 1)) m = if e < m then m - 1 else m := by
        intro m hm
        induction m with
        | zero => simp [cntB]
        | succ m ihm =>
          rw [cntB, ihm (by omega)]
          by_cases h2 : m = e
          · subst h2; simp
          · rw [show (decide (m ≠ e) && decide (m < n + 1)) = true by simp; omega]
            simp only [if_true]
            split <;> split <;> omega
      rw [h1 n (Nat.le_refl _)]
      by_cases h2 : n = e
      · subst h2; simp
      · rw [show (decide (n ≠ e) && decide (n < n + 1)) = true by simp; omega]
        simp only [if_true]
        split <;> split <;> omega
    · rw [ih h, show (decide (n ≠ e) && decide (n < i)) = false by simp; omega]
      simp
/-- In a list in order, what comes before is what has a lesser number. -/
theorem plc_asc {P : List (Int × Int)} (hs : P.Pairwise (fun p q => ltP q p = false)) (e : Nat) : plc P e = lessL P.length e := by
  unfold plc lessL
  refine List.map_congr_left fun i hi => ?_
  have hi := List.mem_range.1 hi
  by_cases h : i = e
  · rw [if_pos h, if_pos h]
  · rw [if_neg h, if_neg h]
    have h1 : cntI P e i P.length = cntB (fun j => decide (j ≠ e) && decide (j < i)) P.length := by
      unfold cntI
      refine cntB_congr _ _ _ fun j hj => ?_
      congr 1
      have hP : ∀ a b, a < b → b < P.length → ltP (pAt P b) (pAt P a) = false := fun a b hab hb => by
        rw [← pAt_get P a (by omega), ← pAt_get P b hb]
        exact List.pairwise_iff_getElem.1 hs a b (by omega) hb hab
      rw [Bool.eq_iff_iff, ltI_iff, decide_eq_true_iff]
      constructor
      · rintro (h2 | h2)
        · rcases Nat.lt_trichotomy j i with h3 | h3 | h3
          · exact h3
          · subst h3; rw [ltP_irr] at h2; cases h2
          · rw [hP i j h3 hj] at h2; cases h2
        · exact h2.2
      · intro h2
        rcases ltP_three (pAt P j) (pAt P i) with h3 | h3 | h3
        · exact .inl h3
        · exact .inr ⟨h3, h2⟩
        · rw [hP j i h2 hi] at h3; cases h3
    rw [h1, cntB_low e i _ (by omega)]
    split <;> omega
theorem ends_asc {n : Int} {L : List E} (hR : Right n L) : (endsG L).Pairwise (fun p q => ltP q p = false) := by
  unfold endsG
  rw [List.pairwise_flatMap]
  constructor
  · intro e he
    rw [List.pairwise_replicate]
    exact .inr (ltP_irr _)
  · refine hR.srt.imp ?_
    intro x y hxy p hp q hq
    rw [List.mem_replicate] at hp hq
    rw [hp.2, hq.2, ltP_false]
    unfold ltE at hxy
    simp at hxy
    simp only
    omega
/-- In an ordered list of all others, each one stands at the place of its count. -/
theorem cntI_at {Q : List (Int × Int)} {e : Nat} {M : List Nat} (hM : M.Pairwise (fun i j => ltI Q i j = true)) (hm : ∀ j, j ∈ M ↔ j < Q.length ∧ j ≠ e) (p : Nat) (hp : p < M.length) : cntI Q e M[p] Q.length = p := by
  unfold cntI
  rw [cntB_filter]
  have hnd : M.Pairwise (· ≠ ·) := hM.imp fun h e => by subst e; exact ltI_irr _ _ h
  have hg := List.pairwise_iff_getElem.1 hM
  have a1 : ((List.range Q.length).filter fun j => decide (j ≠ e) && ltI Q j M[p]).length ≤ (M.take p).length := by
    refine len_le _ _ ((List.nodup_range).filter _) fun j hj => ?_
    obtain ⟨h1, h2⟩ := List.mem_filter.1 hj
    have h1 := List.mem_range.1 h1
    simp only [Bool.and_eq_true, decide_eq_true_eq] at h2
    obtain ⟨t, ht, rfl⟩ := List.mem_iff_getElem.1 ((hm j).2 ⟨h1, h2.1⟩)
    rcases Nat.lt_trichotomy t p with h3 | h3 | h3
    · exact List.mem_iff_getElem.2 ⟨t, by rw [List.length_take]; omega, by rw [List.getElem_take]⟩
    · subst h3; exact absurd h2.2 (ltI_irr _ _)
    · exact absurd (ltI_trans h2.2 (hg p t hp ht h3)) (ltI_irr _ _)
  have a2 : (M.take p).length ≤ ((List.range Q.length).filter fun j => decide (j ≠ e) && ltI Q j M[p]).length := by
    refine len_le _ _ (hnd.sublist (List.take_sublist _ _)) fun j hj => ?_
    obtain ⟨t, ht, rfl⟩ := List.mem_iff_getElem.1 hj
    rw [List.length_take] at ht
    rw [List.getElem_take]
    have h1 := (hm M[t]).1 (List.getElem_mem _)
    refine List.mem_filter.2 ⟨List.mem_range.2 h1.1, ?_⟩
    simp only [Bool.and_eq_true, decide_eq_true_eq]
    exact ⟨h1.2, hg t p (by omega) hp (by omega)⟩
  rw [List.length_take] at a1 a2
  omega
/-- An element on its way down an ordered list. -/
def swS (S : List Nat) (x : Nat) (R : List Nat) (j : Nat) : List Nat := S.take j ++ x :: (S.drop j ++ R)
theorem swS_len (S : List Nat) (x : Nat) (R : List Nat) (j : Nat) (h : j ≤ S.length) : (swS S x R j).length = S.length + 1 + R.length := by
  unfold swS; simp; omega
theorem swS_get (S : List Nat) (x : Nat) (R : List Nat) (j : Nat) (h : j ≤ S.length) (t : Nat) : (swS S x R j)[t]? = if t < j then S[t]? else if t = j then some x else (S ++ R)[t - 1]? := by
  unfold swS
  have hl : (S.take j).length = j := by rw [List.length_take]; omega
  by_cases h1 : t < j
  · rw [if_pos h1, List.getElem?_append_left (by omega), List.getElem?_take, if_pos h1]
  · rw [if_neg h1, List.getElem?_append_right (by omega), hl]
    by_cases h2 : t = j
    · rw [if_pos h2, h2, Nat.sub_self]; rfl
    · rw [if_neg h2, show t - j = (t - 1 - j) + 1 by omega, List.getElem?_cons_succ]
      conv => rhs; rw [← List.take_append_drop j S, List.append_assoc, List.getElem?_append_right (by omega), hl]
theorem swS_set (S : List Nat) (x : Nat) (R : List Nat) (j : Nat) (h : j + 1 ≤ S.length) : ((swS S x R (j + 1)).set (j + 1) (S[j]'(by omega))).set j x = swS S x R j := by
  refine List.ext_getElem? fun t => ?_
  have l1 := swS_len S x R (j + 1) h
  rw [List.getElem?_set, List.getElem?_set, List.length_set, swS_get S x R j (by omega), swS_get S x R (j + 1) h]
  by_cases e1 : j = t
  · subst e1
    rw [if_pos rfl, if_pos (by omega), if_neg (by omega), if_pos rfl]
  · rw [if_neg e1]
    by_cases e2 : j + 1 = t
    · subst e2
      rw [if_pos rfl, if_pos (by omega), if_neg (by omega), if_neg (by omega), Nat.add_sub_cancel, List.getElem?_append_left (by omega), List.getElem?_eq_getElem]
    · rw [if_neg e2]
      by_cases h3 : t < j
      · rw [if_pos (by omega), if_pos h3]
      · rw [if_neg (by omega), if_neg (by omega), if_neg h3, if_neg (by omega)]
theorem swS_at (S : List Nat) (x : Nat) (R : List Nat) (j : Nat) (h : j ≤ S.length) : (swS S x R j)[j]? = some x := by
  rw [swS_get S x R j h, if_neg (by omega), if_pos rfl]
theorem swS_pre (S : List Nat) (x : Nat) (R : List Nat) (j : Nat) (h : j + 1 ≤ S.length) : (swS S x R (j + 1))[j]? = some (S[j]'(by omega)) := by
  rw [swS_get S x R (j + 1) h, if_pos (by omega), List.getElem?_eq_getElem]
theorem swS_all (S : List Nat) (x : Nat) (R : List Nat) : swS S x R S.length = S ++ x :: R := by
  unfold swS; simp
/-- It has found its place. -/
theorem swS_asc {Q : List (Int × Int)} {S : List Nat} {x j : Nat} (hS : S.Pairwise (fun i j => ltI Q i j = true)) (hx : ∀ y ∈ S, y < x) (h1 : ∀ y ∈ S.drop j, ltI Q x y = true) (h2 : ∀ k (hk : k < S.length), j = k + 1 → ltP (pAt Q x) (pAt Q S[k]) = false) (hj : j ≤ S.length) : (S.take j ++ x :: S.drop j).Pairwise (fun i j => ltI Q i j = true) := by
  have h3 : ∀ y ∈ S.take j, ltI Q y x = true := by
    intro y hy
    obtain ⟨t, ht, rfl⟩ := List.mem_iff_getElem.1 hy
    rw [List.length_take] at ht
    rw [List.getElem_take]
    have h4 := h2 (j - 1) (by omega) (by omega)
    have h5 : ltI Q S[j - 1] x = true := by
      rw [ltI_iff]
      rcases ltP_three (pAt Q S[j - 1]) (pAt Q x) with h | h | h
      · exact .inl h
      · exact .inr ⟨h, hx _ (List.getElem_mem _)⟩
      · rw [h4] at h; cases h
    rcases Nat.lt_or_ge t (j - 1) with h6 | h6
    · exact ltI_trans (List.pairwise_iff_getElem.1 hS t (j - 1) (by omega) (by omega) h6) h5
    · have : t = j - 1 := by omega
      subst this; exact h5
  refine List.pairwise_append.2 ⟨hS.sublist (List.take_sublist _ _), List.pairwise_cons.2 ⟨h1, hS.sublist (List.drop_sublist _ _)⟩, fun a ha b hb => ?_⟩
  rcases List.mem_cons.1 hb with rfl | hb
  · exact h3 a ha
  · exact ltI_trans (h3 a ha) (h1 b hb)
end Go.Proofs.Ytndjjafpdiehdaa

namespace Go.Proofs.Ytndjjafpdiehdaa
open Go.RowKit Go.Proofs.Gr

/-- A pair's value. -/
def pw (p : Int × Int) : Value := .agg #[.int .i64 p.1, .int .i64 p.2]
theorem cmpP_or (p q : Int × Int) : cmpP p q = orZ (cmpZ p.1 q.1) (cmpZ p.2 q.2) := by
  unfold cmpP orZ cmpZ
  split
  · rfl
  · split
    · rfl
    · split <;> rfl
set_option maxHeartbeats 6400000 in
set_option maxRecDepth 100000 in
theorem pcompare_any (x y : Int × Int) (w : World) :
    Calls Try.prog 69 #[pw x, pw y] w (fun e w' => e = .returned (.int .i64 (cmpP x y)) ∧ ∃ o1 o2 o3, w' = (((w.alloc o1).alloc o2).alloc o3).drew) := by
  have HC := Lib.hid (fun x y w => cmpI_any x y w)
  have HO := Lib.hid (fun x y b c w h0 h1 => or_any x y b c w h0 h1)
  unfold pw
  obtain ⟨xa, xb⟩ := x
  obtain ⟨ya, yb⟩ := y
  have hE : Hid (cmpP ⟨xa, xb⟩ ⟨ya, yb⟩ = orZ (cmpZ xa ya) (cmpZ xb yb)) := Lib.hid (cmpP_or _ _)
  generalize cmpP ⟨xa, xb⟩ ⟨ya, yb⟩ = E0 at *
  generalize hc1 : cmpZ xa ya = c1 at *
  generalize hc2 : cmpZ xb yb = c2 at *
  have HC1 : Hid (∀ w, Calls Try.prog 94 #[.int .i64 xa, .int .i64 ya] w (fun e w' => e = .returned (.int .i64 c1) ∧ w = w')) := Lib.hid fun w => by rw [← hc1]; exact HC.out xa ya w
  have HC2 : Hid (∀ w, Calls Try.prog 94 #[.int .i64 xb, .int .i64 yb] w (fun e w' => e = .returned (.int .i64 c2) ∧ w = w')) := Lib.hid fun w => by rw [← hc2]; exact HC.out xb yb w
  clear HC hc1 hc2
  simp only
  obtain ⟨W, hW⟩ : ∃ W, W = (w.alloc (Obj.cells #[.int .i64 xa, .int .i64 xb] 25)).alloc (Obj.cells #[.int .i64 ya, .int .i64 yb] 25) := ⟨_, rfl⟩
  have hs : W.heap.size = w.heap.size + 1 + 1 := by rw [hW]; simp
  have hb1 : Blk W w.heap.size 25 #[.int .i64 xa, .int .i64 xb] := by rw [hW]; exact (Blk.new _ _ _).alloc _
  have hb2 : Blk W (w.heap.size + 1) 25 #[.int .i64 ya, .int .i64 yb] := by
    rw [hW]
    have := Blk.new (w.alloc (Obj.cells #[.int .i64 xa, .int .i64 xb] 25)) 25 #[.int .i64 ya, .int .i64 yb]
    rwa [World.size_alloc] at this
  have HW := Lib.hid hW
  have HB1 := Lib.hid hb1
  have HB2 := Lib.hid hb2
  have HSZ := Lib.hid hs
  have HS : Hid (∀ x, Below W.heap.size W x → (x.cell? ⟨w.heap.size, 0, none⟩ = some (.int .i64 xa) ∧ x.cell? ⟨w.heap.size, 1, none⟩ = some (.int .i64 xb) ∧ x.cell? ⟨w.heap.size + 1, 0, none⟩ = some (.int .i64 ya) ∧ x.cell? ⟨w.heap.size + 1, 1, none⟩ = some (.int .i64 yb))) := fun x hx => ⟨(HB1.out.below hx HB1.out.lt).cell 0, (HB1.out.below hx HB1.out.lt).cell 1, (HB2.out.below hx HB2.out.lt).cell 0, (HB2.out.below hx HB2.out.lt).cell 1⟩
  clear hs hb1 hb2 hW
  go_enter Try.func69, Try.ntmps69
  go_wp2
  rw [← HW.out]
  have hk2 : Below W.heap.size W W.drew := (Below.refl _ _).drew
  obtain ⟨f0, f1, f2, f3⟩ := HS.out _ hk2
  go_region_held3 (fun x => x.cell? ⟨w.heap.size, 0, none⟩ = some (.int .i64 xa) ∧ x.cell? ⟨w.heap.size, 1, none⟩ = some (.int .i64 xb) ∧ x.cell? ⟨w.heap.size + 1, 0, none⟩ = some (.int .i64 ya) ∧ x.cell? ⟨w.heap.size + 1, 1, none⟩ = some (.int .i64 yb))
    (first | exact HS.out _ (by assumption) | exact HS.out _ (Below.drew (by assumption)) | (refine HS.out _ ?_; exact Below.alloc hk2 hk2.size _))
    (first | (go_at_call 94; (first | (with_reducible refine (HC1.out _).mono ?_) | (with_reducible refine (HC2.out _).mono ?_)); rintro e wz ⟨rfl, rfl⟩) | (go_at_call 93; refine (HO.out c1 c2 W.heap.size 2 _ ((Blk.new W.drew 3 #[.int .i64 c1, .int .i64 c2]).cell 0) ((Blk.new W.drew 3 #[.int .i64 c1, .int .i64 c2]).cell 1)).mono ?_; rintro e wz ⟨rfl, rfl⟩))
  go_wp2
  go_ret
  exact ⟨by rw [hE.out]; rfl, _, _, _, by rw [HW.out]⟩
theorem pcompare_below (x y : Int × Int) (w : World) : Calls Try.prog 69 #[pw x, pw y] w (fun e w' => e = .returned (.int .i64 (cmpP x y)) ∧ Below w.heap.size w w') := by
  refine (pcompare_any x y w).mono ?_
  rintro e w' ⟨rfl, o1, o2, o3, rfl⟩
  exact ⟨rfl, ((((Below.refl _ w).alloc (Nat.le_refl _) o1).alloc (by simp) o2).alloc (by simp; omega) o3).drew⟩
/-- The function that gives the new numbers when the ends of p are merged. -/
def mgV (ga gb : Nat) : Value := .func (.func 88) #[] #[.pointer (some ⟨gb, 0, none⟩), .pointer (some ⟨ga, 0, none⟩)]
def MgAt (w : World) (ga gb : Nat) (p : Int × Int) : Prop := ga < w.heap.size ∧ gb < w.heap.size ∧ w.cell? ⟨ga, 0, none⟩ = some (.int .i64 (mnP p)) ∧ w.cell? ⟨gb, 0, none⟩ = some (.int .i64 (mxP p))
theorem MgAt.keep {w w' : World} {ga gb : Nat} {p : Int × Int} (h : MgAt w ga gb p) (hb : Below w.heap.size w w') : MgAt w' ga gb p :=
  ⟨Nat.lt_of_lt_of_le h.1 hb.size, Nat.lt_of_lt_of_le h.2.1 hb.size, (hb.cell (p := ⟨ga, 0, none⟩) h.1).trans h.2.2.1, (hb.cell (p := ⟨gb, 0, none⟩) h.2.1).trans h.2.2.2⟩
set_option maxHeartbeats 6400000 in
set_option maxRecDepth 100000 in
theorem mg1_any (ga gb : Nat) (p : Int × Int) (v : Int) (hv : -1000000 ≤ v ∧ v ≤ 1000000) (w : World) (h : MgAt w ga gb p) :
    Calls Try.prog 88 #[.int .i64 v, .pointer (some ⟨gb, 0, none⟩), .pointer (some ⟨ga, 0, none⟩)] w (fun e w' => e = .returned (.int .i64 (mgF p v)) ∧ Below w.heap.size w w') := by
  obtain ⟨-, -, h1, h2⟩ := h
  have HR : Hid (mgF p v = if v < mxP p ∨ mnP p = mxP p then v else if v = mxP p then mnP p else v - 1) := Lib.hid rfl
  generalize mgF p v = R at *
  generalize mnP p = x at *
  generalize mxP p = y at *
  have HB0 := Lib.hid (Below.refl w.heap.size w)
  have HBD := Lib.hid ((Below.refl w.heap.size w).drew)
  obtain ⟨v0, v1⟩ := hv
  by_cases c1 : v < y
  · have d1 : decide (v < y) = true := decide_eq_true c1
    have HRv : Hid (R = v) := Lib.hid (by rw [HR.out, if_pos (.inl c1)])
    go_enter Try.func88, Try.ntmps88
    go_wp2
    go_ret
    exact ⟨by rw [HRv.out]; rfl, by first | exact HB0.out | exact HBD.out⟩
  · have d1 : decide (v < y) = false := decide_eq_false c1
    by_cases c2 : x = y
    · subst c2
      have HRv : Hid (R = v) := Lib.hid (by rw [HR.out, if_pos (.inr rfl)])
      go_enter Try.func88, Try.ntmps88
      go_wp2
      go_ret
      exact ⟨by rw [HRv.out]; rfl, by first | exact HB0.out | exact HBD.out⟩
    · have d2 : (x == y) = false := by simpa using c2
      by_cases c3 : v = y
      · subst c3
        have HRv : Hid (R = x) := Lib.hid (by rw [HR.out, if_neg (by omega), if_pos rfl])
        go_enter Try.func88, Try.ntmps88
        go_wp2
        go_ret
        exact ⟨by rw [HRv.out]; rfl, by first | exact HB0.out | exact HBD.out⟩
      · have d3 : (v == y) = false := by simpa using c3
        have HRv : Hid (R = v - 1) := Lib.hid (by rw [HR.out, if_neg (by omega), if_neg c3])
        go_enter Try.func88, Try.ntmps88
        go_wp2
        go_ret
        exact ⟨by rw [HRv.out]; rfl, by first | exact HB0.out | exact HBD.out⟩
set_option maxHeartbeats 6400000 in
set_option maxRecDepth 100000 in
theorem merging_any (p : Int × Int) (w : World) :
    Calls Try.prog 60 #[pw p] w (fun e w' => ∃ ga gb, e = .returned (mgV ga gb) ∧ MgAt w' ga gb p ∧ w.heap.size ≤ ga ∧ w.heap.size ≤ gb ∧ Below w.heap.size w w') := by
  unfold pw mgV MgAt
  obtain ⟨x, y⟩ := p
  simp only
  have HMN : Hid (mnP (x, y) = if y < x then y else x) := Lib.hid rfl
  have HMX : Hid (mxP (x, y) = if x < y then y else x) := Lib.hid rfl
  generalize mnP (x, y) = mn at *
  generalize mxP (x, y) = mx at *
  obtain ⟨W, hW⟩ : ∃ W, W = w.alloc (Obj.cells #[.int .i64 x, .int .i64 y] 25) := ⟨_, rfl⟩
  have hB0 : Below w.heap.size w W := by rw [hW]; exact (Below.refl _ w).alloc (Nat.le_refl _) _
  have hG : Blk W w.heap.size 25 #[.int .i64 x, .int .i64 y] := by rw [hW]; exact Blk.new _ _ _
  have HW := Lib.hid hW
  have HB0 := Lib.hid hB0
  have HG := Lib.hid hG
  have g0 : W.drew.cell? ⟨w.heap.size, 0, none⟩ = some (.int .i64 x) := hG.cell 0
  have g1 : W.drew.cell? ⟨w.heap.size, 1, none⟩ = some (.int .i64 y) := hG.cell 1
  have HS : Hid (∀ u, Below W.heap.size W u → u.cell? ⟨w.heap.size, 0, none⟩ = some (.int .i64 x) ∧ u.cell? ⟨w.heap.size, 1, none⟩ = some (.int .i64 y)) := Lib.hid fun u hx => ⟨(hG.below hx hG.lt).cell 0, (hG.below hx hG.lt).cell 1⟩
  clear hB0 hG hW g0 g1
  go_enter Try.func60, Try.ntmps60
  go_wp2_with fail
  rw [← HW.out]
  have hj0 : Below W.heap.size W W.drew := (Below.refl _ _).drew
  refine wp_region_late (S := fun u => Below W.heap.size W u) (X := []) (by kernel_rfl) ?_
  refine wpAnyL_pureD (i := 0) 5 (.pointer (some ⟨w.heap.size, 0, none⟩)) rfl rfl (by kernel_rfl) (by kernel_rfl) (by kernel_rfl) (fun _ _ _ h => h) (Or.inl ⟨by rfl, fun u _ => ?_⟩) ?_
  · go_simp
  try simp only [Act.put, List.setIfInBounds_toArray, List.set_cons_zero, List.set_cons_succ]
  refine wpAnyL_takeD (i := 1) 6 (.int .i64 x) rfl rfl (by kernel_rfl) (by kernel_rfl) (by kernel_rfl) (by kernel_rfl) (by kernel_rfl) (fun _ _ _ h => h) hj0 (Or.inl ⟨by rfl, fun u hu => ?_⟩) ?_
  · obtain ⟨t0, t1⟩ := HS.out u hu
    go_simp
  try simp only [Act.put, List.setIfInBounds_toArray, List.set_cons_zero, List.set_cons_succ]
  refine wpAnyL_pureD (i := 2) 7 (.pointer (some ⟨w.heap.size, 1, none⟩)) rfl rfl (by kernel_rfl) (by kernel_rfl) (by kernel_rfl) (fun _ _ _ h => h) (Or.inl ⟨by rfl, fun u _ => ?_⟩) ?_
  · go_simp
  try simp only [Act.put, List.setIfInBounds_toArray, List.set_cons_zero, List.set_cons_succ]
  refine wpAnyL_takeD (i := 3) 8 (.int .i64 y) rfl rfl (by kernel_rfl) (by kernel_rfl) (by kernel_rfl) (by kernel_rfl) (by kernel_rfl) (fun _ _ _ h => h) hj0 (Or.inl ⟨by rfl, fun u hu => ?_⟩) ?_
  · obtain ⟨t0, t1⟩ := HS.out u hu
    go_simp
  try simp only [Act.put, List.setIfInBounds_toArray, List.set_cons_zero, List.set_cons_succ]
  refine wpAnyL_pureD (i := 4) 9 (.int .i64 mn) rfl rfl (by kernel_rfl) (by kernel_rfl) (by kernel_rfl) (fun _ _ _ h => h) (Or.inl ⟨by rfl, fun u _ => ?_⟩) ?_
  · go_simp
    exact HMN.out.symm
  try simp only [Act.put, List.setIfInBounds_toArray, List.set_cons_zero, List.set_cons_succ]
  refine wpAnyL_pureD (i := 5) 10 (.pointer (some ⟨w.heap.size, 0, none⟩)) rfl rfl (by kernel_rfl) (by kernel_rfl) (by kernel_rfl) (fun _ _ _ h => h) (Or.inl ⟨by rfl, fun u _ => ?_⟩) ?_
  · go_simp
  try simp only [Act.put, List.setIfInBounds_toArray, List.set_cons_zero, List.set_cons_succ]
  refine wpAnyL_takeD (i := 6) 11 (.int .i64 x) rfl rfl (by kernel_rfl) (by kernel_rfl) (by kernel_rfl) (by kernel_rfl) (by kernel_rfl) (fun _ _ _ h => h) hj0 (Or.inl ⟨by rfl, fun u hu => ?_⟩) ?_
  · obtain ⟨t0, t1⟩ := HS.out u hu
    go_simp
  try simp only [Act.put, List.setIfInBounds_toArray, List.set_cons_zero, List.set_cons_succ]
  refine wpAnyL_pureD (i := 7) 12 (.pointer (some ⟨w.heap.size, 1, none⟩)) rfl rfl (by kernel_rfl) (by kernel_rfl) (by kernel_rfl) (fun _ _ _ h => h) (Or.inl ⟨by rfl, fun u _ => ?_⟩) ?_
  · go_simp
  try simp only [Act.put, List.setIfInBounds_toArray, List.set_cons_zero, List.set_cons_succ]
  refine wpAnyL_takeD (i := 8) 13 (.int .i64 y) rfl rfl (by kernel_rfl) (by kernel_rfl) (by kernel_rfl) (by kernel_rfl) (by kernel_rfl) (fun _ _ _ h => h) hj0 (Or.inl ⟨by rfl, fun u hu => ?_⟩) ?_
  · obtain ⟨t0, t1⟩ := HS.out u hu
    go_simp
  try simp only [Act.put, List.setIfInBounds_toArray, List.set_cons_zero, List.set_cons_succ]
  refine wpAnyL_pureD (i := 9) 14 (.int .i64 mx) rfl rfl (by kernel_rfl) (by kernel_rfl) (by kernel_rfl) (fun _ _ _ h => h) (Or.inl ⟨by rfl, fun u _ => ?_⟩) ?_
  · go_simp
    exact HMX.out.symm
  try simp only [Act.put, List.setIfInBounds_toArray, List.set_cons_zero, List.set_cons_succ]
  obtain ⟨V0, hV0⟩ : ∃ X, X = W.drew := ⟨_, rfl⟩
  have hbV0 : Below W.heap.size W V0 := by rw [hV0]; exact hj0
  rw [← hV0]
  clear hV0 hj0
  refine wpAnyL_some (rs := [10, 11]) (by kernel_rfl) (by simp) (fun i' hi' => ?_)
  rcases (show i' = 10 ∨ i' = 11 by simpa using hi') with rfl | rfl
  · refine ⟨_, rfl, fun K hK => ?_⟩
    go_simp
    have hbV1 : Below W.heap.size W (V0.alloc (Obj.cells #[Value.int .i64 0] 3)) := hbV0.alloc hbV0.size _
    refine hK.out _ _ (fun _ => hbV1) ?_
    clear hK K
    have haV1 : Blk (V0.alloc (Obj.cells #[Value.int .i64 0] 3)) V0.heap.size 3 #[.int .i64 0] := Blk.new _ _ _
    have gea : W.heap.size ≤ V0.heap.size := hbV0.size
    obtain ⟨V1, hVV1⟩ : ∃ X, X = V0.alloc (Obj.cells #[Value.int .i64 0] 3) := ⟨_, rfl⟩
    obtain ⟨pa, hpa⟩ : ∃ p, p = V0.heap.size := ⟨_, rfl⟩
    rw [← hVV1] at hbV1 haV1  ⊢
    rw [← hpa] at gea haV1  ⊢
    clear hVV1 hpa  hbV0
    try simp only [Act.put, List.setIfInBounds_toArray, List.set_cons_zero, List.set_cons_succ]
    refine wpAnyL_one (i := 11) (by kernel_rfl) rfl (fun K hK => ?_)
    go_simp
    have hbV2 : Below W.heap.size W (V1.alloc (Obj.cells #[Value.int .i64 0] 3)) := hbV1.alloc hbV1.size _
    refine hK.out _ _ (fun _ _ => hbV2) ?_
    clear hK K
    have hqV2 : Blk (V1.alloc (Obj.cells #[Value.int .i64 0] 3)) V1.heap.size 3 #[.int .i64 0] := Blk.new _ _ _
    have geq : W.heap.size ≤ V1.heap.size := hbV1.size
    have haV2 := haV1.alloc (Obj.cells #[Value.int .i64 0] 3)
    have neV2 := Nat.ne_of_lt haV1.lt
    obtain ⟨V2, hVV2⟩ : ∃ X, X = V1.alloc (Obj.cells #[Value.int .i64 0] 3) := ⟨_, rfl⟩
    obtain ⟨pq, hpq⟩ : ∃ p, p = V1.heap.size := ⟨_, rfl⟩
    rw [← hVV2] at hbV2 hqV2 haV2 ⊢
    rw [← hpq] at geq hqV2 neV2 ⊢
    clear hVV2 hpq haV1 hbV1
    try simp only [Act.put, List.setIfInBounds_toArray, List.set_cons_zero, List.set_cons_succ]
    refine wpAnyL_one (i := 12) (by kernel_rfl) rfl (fun K hK => ?_)
    have c0 : V2.cell? ⟨pa, 0, none⟩ = some (.int .i64 0) := haV2.cell 0
    have c1 : V2.frozen? ⟨pa, 0, none⟩ = false := haV2.frozen 0
    go_simp
    have hbV3 : Below W.heap.size W (V2.setCell ⟨pa, 0, none⟩ (.int .i64 mn)) := hbV2.setCell (p := ⟨pa, 0, none⟩) gea _
    refine hK.out _ _ (fun _ _ => hbV3) ?_
    clear hK K c0 c1
    have haV3 : Blk (V2.setCell ⟨pa, 0, none⟩ (.int .i64 mn)) pa 3 #[.int .i64 mn] := haV2.set_ 0 _
    have hqV3 : Blk (V2.setCell ⟨pa, 0, none⟩ (.int .i64 mn)) pq 3 _ := hqV2.far (p := ⟨pa, 0, none⟩) neV2.symm _
    obtain ⟨V3, hVV3⟩ : ∃ X, X = V2.setCell ⟨pa, 0, none⟩ (.int .i64 mn) := ⟨_, rfl⟩
    rw [← hVV3] at hbV3 haV3 hqV3 ⊢
    clear hVV3 hqV2 haV2 hbV2
    try simp only [Act.put, List.setIfInBounds_toArray, List.set_cons_zero, List.set_cons_succ]
    refine wpAnyL_one (i := 13) (by kernel_rfl) rfl (fun K hK => ?_)
    have c0 : V3.cell? ⟨pq, 0, none⟩ = some (.int .i64 0) := hqV3.cell 0
    have c1 : V3.frozen? ⟨pq, 0, none⟩ = false := hqV3.frozen 0
    go_simp
    have hbV4 : Below W.heap.size W (V3.setCell ⟨pq, 0, none⟩ (.int .i64 mx)) := hbV3.setCell (p := ⟨pq, 0, none⟩) geq _
    refine hK.out _ _ (fun _ _ => hbV4) ?_
    clear hK K c0 c1
    have hqV4 : Blk (V3.setCell ⟨pq, 0, none⟩ (.int .i64 mx)) pq 3 #[.int .i64 mx] := hqV3.set_ 0 _
    have haV4 : Blk (V3.setCell ⟨pq, 0, none⟩ (.int .i64 mx)) pa 3 _ := haV3.far (p := ⟨pq, 0, none⟩) neV2 _
    obtain ⟨V4, hVV4⟩ : ∃ X, X = V3.setCell ⟨pq, 0, none⟩ (.int .i64 mx) := ⟨_, rfl⟩
    rw [← hVV4] at hbV4 hqV4 haV4 ⊢
    clear hVV4 haV3 hqV3 hbV3
    try simp only [Act.put, List.setIfInBounds_toArray, List.set_cons_zero, List.set_cons_succ]
    refine wpAnyL_done (by kernel_rfl) ?_ _
    try simp only [Act.put, List.setIfInBounds_toArray, List.set_cons_zero, List.set_cons_succ]
    have HBE := Lib.hid (HB0.out.trans (hbV4.mono HB0.out.size))
    have HMG : Hid (pa < V4.heap.size ∧ pq < V4.heap.size ∧ V4.cell? ⟨pa, 0, none⟩ = some (.int .i64 mn) ∧ V4.cell? ⟨pq, 0, none⟩ = some (.int .i64 mx)) := Lib.hid ⟨haV4.lt, hqV4.lt, haV4.cell 0, hqV4.cell 0⟩
    have HGE : Hid (w.heap.size ≤ pa ∧ w.heap.size ≤ pq) := Lib.hid ⟨Nat.le_trans HB0.out.size gea, Nat.le_trans HB0.out.size geq⟩
    clear hbV4 haV4 hqV4
    go_wp2
    go_ret
    exact ⟨pa, pq, rfl, HMG.out, HGE.out.1, HGE.out.2, HBE.out⟩
  · refine ⟨_, rfl, fun K hK => ?_⟩
    go_simp
    have hbV1 : Below W.heap.size W (V0.alloc (Obj.cells #[Value.int .i64 0] 3)) := hbV0.alloc hbV0.size _
    refine hK.out _ _ (fun _ => hbV1) ?_
    clear hK K
    have hqV1 : Blk (V0.alloc (Obj.cells #[Value.int .i64 0] 3)) V0.heap.size 3 #[.int .i64 0] := Blk.new _ _ _
    have geq : W.heap.size ≤ V0.heap.size := hbV0.size
    obtain ⟨V1, hVV1⟩ : ∃ X, X = V0.alloc (Obj.cells #[Value.int .i64 0] 3) := ⟨_, rfl⟩
    obtain ⟨pq, hpq⟩ : ∃ p, p = V0.heap.size := ⟨_, rfl⟩
    rw [← hVV1] at hbV1 hqV1  ⊢
    rw [← hpq] at geq hqV1  ⊢
    clear hVV1 hpq  hbV0
    try simp only [Act.put, List.setIfInBounds_toArray, List.set_cons_zero, List.set_cons_succ]
    refine wpAnyL_one (i := 10) (by kernel_rfl) rfl (fun K hK => ?_)
    go_simp
    have hbV2 : Below W.heap.size W (V1.alloc (Obj.cells #[Value.int .i64 0] 3)) := hbV1.alloc hbV1.size _
    refine hK.out _ _ (fun _ _ => hbV2) ?_
    clear hK K
    have haV2 : Blk (V1.alloc (Obj.cells #[Value.int .i64 0] 3)) V1.heap.size 3 #[.int .i64 0] := Blk.new _ _ _
    have gea : W.heap.size ≤ V1.heap.size := hbV1.size
    have hqV2 := hqV1.alloc (Obj.cells #[Value.int .i64 0] 3)
    have neV2 := Nat.ne_of_lt hqV1.lt
    obtain ⟨V2, hVV2⟩ : ∃ X, X = V1.alloc (Obj.cells #[Value.int .i64 0] 3) := ⟨_, rfl⟩
    obtain ⟨pa, hpa⟩ : ∃ p, p = V1.heap.size := ⟨_, rfl⟩
    rw [← hVV2] at hbV2 haV2 hqV2 ⊢
    rw [← hpa] at gea haV2 neV2 ⊢
    clear hVV2 hpa hqV1 hbV1
    try simp only [Act.put, List.setIfInBounds_toArray, List.set_cons_zero, List.set_cons_succ]
    refine wpAnyL_one (i := 12) (by kernel_rfl) rfl (fun K hK => ?_)
    have c0 : V2.cell? ⟨pa, 0, none⟩ = some (.int .i64 0) := haV2.cell 0
    have c1 : V2.frozen? ⟨pa, 0, none⟩ = false := haV2.frozen 0
    go_simp
    have hbV3 : Below W.heap.size W (V2.setCell ⟨pa, 0, none⟩ (.int .i64 mn)) := hbV2.setCell (p := ⟨pa, 0, none⟩) gea _
    refine hK.out _ _ (fun _ _ => hbV3) ?_
    clear hK K c0 c1
    have haV3 : Blk (V2.setCell ⟨pa, 0, none⟩ (.int .i64 mn)) pa 3 #[.int .i64 mn] := haV2.set_ 0 _
    have hqV3 : Blk (V2.setCell ⟨pa, 0, none⟩ (.int .i64 mn)) pq 3 _ := hqV2.far (p := ⟨pa, 0, none⟩) neV2 _
    obtain ⟨V3, hVV3⟩ : ∃ X, X = V2.setCell ⟨pa, 0, none⟩ (.int .i64 mn) := ⟨_, rfl⟩
    rw [← hVV3] at hbV3 haV3 hqV3 ⊢
    clear hVV3 hqV2 haV2 hbV2
    try simp only [Act.put, List.setIfInBounds_toArray, List.set_cons_zero, List.set_cons_succ]
    refine wpAnyL_one (i := 13) (by kernel_rfl) rfl (fun K hK => ?_)
    have c0 : V3.cell? ⟨pq, 0, none⟩ = some (.int .i64 0) := hqV3.cell 0
    have c1 : V3.frozen? ⟨pq, 0, none⟩ = false := hqV3.frozen 0
    go_simp
    have hbV4 : Below W.heap.size W (V3.setCell ⟨pq, 0, none⟩ (.int .i64 mx)) := hbV3.setCell (p := ⟨pq, 0, none⟩) geq _
    refine hK.out _ _ (fun _ _ => hbV4) ?_
    clear hK K c0 c1
    have hqV4 : Blk (V3.setCell ⟨pq, 0, none⟩ (.int .i64 mx)) pq 3 #[.int .i64 mx] := hqV3.set_ 0 _
    have haV4 : Blk (V3.setCell ⟨pq, 0, none⟩ (.int .i64 mx)) pa 3 _ := haV3.far (p := ⟨pq, 0, none⟩) neV2.symm _
    obtain ⟨V4, hVV4⟩ : ∃ X, X = V3.setCell ⟨pq, 0, none⟩ (.int .i64 mx) := ⟨_, rfl⟩
    rw [← hVV4] at hbV4 hqV4 haV4 ⊢
    clear hVV4 haV3 hqV3 hbV3
    try simp only [Act.put, List.setIfInBounds_toArray, List.set_cons_zero, List.set_cons_succ]
    refine wpAnyL_done (by kernel_rfl) ?_ _
    try simp only [Act.put, List.setIfInBounds_toArray, List.set_cons_zero, List.set_cons_succ]
    have HBE := Lib.hid (HB0.out.trans (hbV4.mono HB0.out.size))
    have HMG : Hid (pa < V4.heap.size ∧ pq < V4.heap.size ∧ V4.cell? ⟨pa, 0, none⟩ = some (.int .i64 mn) ∧ V4.cell? ⟨pq, 0, none⟩ = some (.int .i64 mx)) := Lib.hid ⟨haV4.lt, hqV4.lt, haV4.cell 0, hqV4.cell 0⟩
    have HGE : Hid (w.heap.size ≤ pa ∧ w.heap.size ≤ pq) := Lib.hid ⟨Nat.le_trans HB0.out.size gea, Nat.le_trans HB0.out.size geq⟩
    clear hbV4 haV4 hqV4
    go_wp2
    go_ret
    exact ⟨pa, pq, rfl, HMG.out, HGE.out.1, HGE.out.2, HBE.out⟩
end Go.Proofs.Ytndjjafpdiehdaa
