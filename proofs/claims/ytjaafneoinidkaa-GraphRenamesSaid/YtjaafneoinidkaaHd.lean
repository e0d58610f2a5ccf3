/- The components by relabelling are the parts by reaching, in numbers. -/
import Derived.Test.YtjaafneoinidkaaHb
namespace Go.Proofs.Ytjaafneoinidkaa
open Go.Proofs.Gr

/-- Joined by a way. -/
inductive Cn (e : Nat → Nat → Bool) (n : Nat) (u : Nat) : Nat → Prop
  | refl : Cn e n u u
  | step {v w : Nat} : Cn e n u v → v < n → w < n → e v w = true → Cn e n u w
theorem Cn.trans {e : Nat → Nat → Bool} {n u v w : Nat} (h : Cn e n u v) (k : Cn e n v w) : Cn e n u w := by
  induction k with
  | refl => exact h
  | step _ h1 h2 h3 ih => exact .step ih h1 h2 h3
theorem Cn.symm {e : Nat → Nat → Bool} (hs : ∀ a b, e a b = e b a) {n u v : Nat} (h : Cn e n u v) : Cn e n v u := by
  induction h with
  | refl => exact .refl
  | step _ h1 h2 h3 ih => exact Cn.trans (.step .refl h2 h1 (by rw [hs]; exact h3)) ih
theorem Cn.lt {e : Nat → Nat → Bool} {n u v : Nat} (h : Cn e n u v) (hu : u < n) : v < n := by
  cases h with
  | refl => exact hu
  | step _ _ h2 _ => exact h2
/-- How many of the first n fulfil p. -/
def cntB (p : Nat → Bool) : Nat → Nat
  | 0 => 0
  | n + 1 => cntB p n + (if p n = true then 1 else 0)
theorem cntB_le (p : Nat → Bool) (n : Nat) : cntB p n ≤ n := by
  induction n with
  | zero => exact Nat.le_refl _
  | succ n ih => rw [cntB]; split <;> omega
theorem cntB_mono (p q : Nat → Bool) (n : Nat) (h : ∀ v, v < n → p v = true → q v = true) : cntB p n ≤ cntB q n := by
  induction n with
  | zero => exact Nat.le_refl _
  | succ n ih =>
    have h1 := ih fun v hv => h v (by omega)
    rw [cntB, cntB]
    by_cases e : p n = true
    · rw [if_pos e, if_pos (h n (by omega) e)]; omega
    · rw [if_neg e]; omega
theorem cntB_lt (p q : Nat → Bool) (n b : Nat) (h : ∀ v, v < n → p v = true → q v = true) (hb : b < n) (h1 : p b = false) (h2 : q b = true) : cntB p n < cntB q n := by
  induction n with
  | zero => omega
  | succ n ih =>
    rw [cntB, cntB]
    by_cases e : b = n
    · subst e
      have := cntB_mono p q b fun v hv => h v (by omega)
      rw [h1, h2]; simp; omega
    · have h3 := ih (fun v hv => h v (by omega)) (by omega)
      by_cases e : p n = true
      · rw [if_pos e, if_pos (h n (by omega) e)]; omega
      · rw [if_neg e]; omega
theorem cntB_congr (p q : Nat → Bool) (n : Nat) (h : ∀ v, v < n → p v = q v) : cntB p n = cntB q n := by
  induction n with
  | zero => rfl
  | succ n ih => rw [cntB, cntB, ih fun v hv => h v (by omega), h n (by omega)]
theorem cntB_but (p q : Nat → Bool) (n j : Nat) (hj : j < n) (hp : p j = true) (h : ∀ v, v < n → q v = (p v && decide (v ≠ j))) : cntB p n = cntB q n + 1 := by
  induction n with
  | zero => omega
  | succ n ih =>
    rw [cntB, cntB, h n (by omega)]
    by_cases e : j = n
    · subst e
      rw [cntB_congr p q j fun v hv => by rw [h v (by omega), decide_eq_true (by omega), Bool.and_true]]
      simp [hp]
    · have e2 : decide (n ≠ j) = true := by rw [decide_eq_true_eq]; omega
      rw [ih (by omega) fun v hv => h v (by omega), e2, Bool.and_true]
      omega
theorem cntB_one (p : Nat → Bool) (n j : Nat) (hj : j < n) (hp : p j = true) : 1 ≤ cntB p n := by
  induction n with
  | zero => omega
  | succ n ih =>
    rw [cntB]
    by_cases e : j = n
    · subst e; rw [if_pos hp]; omega
    · have := ih (by omega); omega
theorem cntB_filter (p : Nat → Bool) (n : Nat) : cntB p n = ((List.range n).filter p).length := by
  induction n with
  | zero => rfl
  | succ n ih =>
    rw [cntB, ih, List.range_succ, List.filter_append, List.length_append]
    by_cases e : p n = true
    · simp [e]
    · simp [e]

/-- Reaching. -/
theorem stepR_mono (e : Nat → Nat → Bool) (t : Nat → Bool) (a b v : Nat) (h : t v = true) : stepR e t a b v = true := by
  unfold stepR; split
  · subst_vars; rw [h]; rfl
  · exact h
theorem inR_mono (e : Nat → Nat → Bool) (a c : Nat) (t : Nat → Bool) (v : Nat) (h : t v = true) : inR e a c t v = true := by
  induction c with
  | zero => exact h
  | succ c ih => exact stepR_mono e _ a c v ih
theorem inR_mono2 (e : Nat → Nat → Bool) (a b c : Nat) (t : Nat → Bool) (v : Nat) (h : inR e a b t v = true) (hb : b ≤ c) : inR e a c t v = true := by
  induction c with
  | zero => obtain rfl : b = 0 := by omega
            exact h
  | succ c ih =>
    by_cases e' : b = c + 1
    · subst e'; exact h
    · exact stepR_mono e _ a c v (ih (by omega))
theorem midR_mono (e : Nat → Nat → Bool) (n c : Nat) (t : Nat → Bool) (v : Nat) (h : t v = true) : midR e n c t v = true := by
  induction c with
  | zero => exact h
  | succ c ih => exact inR_mono e c n _ v ih
theorem midR_mono2 (e : Nat → Nat → Bool) (n b c : Nat) (t : Nat → Bool) (v : Nat) (h : midR e n b t v = true) (hb : b ≤ c) : midR e n c t v = true := by
  induction c with
  | zero => obtain rfl : b = 0 := by omega
            exact h
  | succ c ih =>
    by_cases e' : b = c + 1
    · subst e'; exact h
    · exact inR_mono e c n _ v (ih (by omega))
theorem outR_mono (e : Nat → Nat → Bool) (n r : Nat) (t : Nat → Bool) (v : Nat) (h : t v = true) : outR e n r t v = true := by
  induction r with
  | zero => exact h
  | succ r ih => exact midR_mono e n n _ v ih
theorem midR_next (e : Nat → Nat → Bool) (n : Nat) (t : Nat → Bool) (a b : Nat) (ha : a < n) (hb : b < n) (h : t a = true) (he : e a b = true) : midR e n n t b = true := by
  refine midR_mono2 e n (a + 1) n t b ?_ (by omega)
  rw [midR]
  refine inR_mono2 e a (b + 1) n _ b ?_ (by omega)
  rw [inR]
  unfold stepR
  rw [if_pos rfl, inR_mono e a b _ a (midR_mono e n a t a h), he]; simp
theorem inR_sound (e : Nat → Nat → Bool) (n : Nat) (P : Nat → Prop) (hP : ∀ a b, a < n → b < n → P a → e a b = true → P b) (a : Nat) (ha : a < n) (c : Nat) (hc : c ≤ n) (t : Nat → Bool) (ht : ∀ v, t v = true → P v) : ∀ v, inR e a c t v = true → P v := by
  induction c with
  | zero => exact ht
  | succ c ih =>
    have h1 := ih (by omega)
    intro v hv
    rw [inR] at hv
    unfold stepR at hv
    split at hv
    · subst_vars
      simp only [Bool.or_eq_true, Bool.and_eq_true] at hv
      rcases hv with hv | ⟨h2, h3⟩
      · exact h1 _ hv
      · exact hP a _ ha (by omega) (h1 a h2) h3
    · exact h1 v hv
theorem midR_sound (e : Nat → Nat → Bool) (n : Nat) (P : Nat → Prop) (hP : ∀ a b, a < n → b < n → P a → e a b = true → P b) (c : Nat) (hc : c ≤ n) (t : Nat → Bool) (ht : ∀ v, t v = true → P v) : ∀ v, midR e n c t v = true → P v := by
  induction c with
  | zero => exact ht
  | succ c ih => exact inR_sound e n P hP c (by omega) n (Nat.le_refl _) _ (ih (by omega))
theorem outR_sound (e : Nat → Nat → Bool) (n : Nat) (P : Nat → Prop) (hP : ∀ a b, a < n → b < n → P a → e a b = true → P b) (r : Nat) (t : Nat → Bool) (ht : ∀ v, t v = true → P v) : ∀ v, outR e n r t v = true → P v := by
  induction r with
  | zero => exact ht
  | succ r ih => exact midR_sound e n P hP n (Nat.le_refl _) _ ih
def Closed (e : Nat → Nat → Bool) (n : Nat) (t : Nat → Bool) : Prop := ∀ a b, a < n → b < n → t a = true → e a b = true → t b = true
theorem outR_closed (e : Nat → Nat → Bool) (n : Nat) (t : Nat → Bool) (h : 1 ≤ cntB t n) (r : Nat) : Closed e n (outR e n r t) ∨ r + 1 ≤ cntB (outR e n r t) n := by
  induction r with
  | zero => exact .inr h
  | succ r ih =>
    rw [outR]
    by_cases hc : Closed e n (outR e n r t)
    · left
      have h1 : ∀ v, midR e n n (outR e n r t) v = true → outR e n r t v = true := midR_sound e n (fun v => outR e n r t v = true) (fun a b ha hb h1 h2 => hc a b ha hb h1 h2) n (Nat.le_refl _) _ (fun v hv => hv)
      exact fun a b ha hb h2 h3 => midR_mono e n n _ b (hc a b ha hb (h1 a h2) h3)
    · right
      have h2 := ih.resolve_left hc
      obtain ⟨a, b, ha, hb, h3, h4, h5⟩ : ∃ a b, a < n ∧ b < n ∧ outR e n r t a = true ∧ e a b = true ∧ outR e n r t b = false := by
        refine Classical.byContradiction fun hn => hc fun a b ha hb h3 h4 => ?_
        refine Classical.byContradiction fun h5 => hn ⟨a, b, ha, hb, h3, h4, by simpa using h5⟩
      have := cntB_lt (outR e n r t) (midR e n n (outR e n r t)) n b (fun v _ hv => midR_mono e n n _ v hv) hb h5 (midR_next e n _ a b ha hb h3 h4)
      omega
/-- What a graph joins. -/
def eG (L : List E) (a b : Nat) : Bool := decide (0 < betw (a : Int) (b : Int) L)
theorem eG_symm (L : List E) (a b : Nat) : eG L a b = eG L b a := by unfold eG betw; rw [Int.min_comm, Int.max_comm]
theorem reachR_iff (L : List E) (n v u : Nat) (hv : v < n) : reachR L n v u = true ↔ Cn (eG L) n v u := by
  constructor
  · intro h
    exact outR_sound (eG L) n (fun u => Cn (eG L) n v u) (fun a b ha hb h1 h2 => .step h1 ha hb h2) n (fun x => decide (x = v)) (fun x hx => by rw [of_decide_eq_true hx]; exact .refl) u h
  · intro h
    have hc : Closed (eG L) n (reachR L n v) := by
      rcases outR_closed (eG L) n (fun x => decide (x = v)) (cntB_one _ n v hv (by simp)) n with h1 | h1
      · exact h1
      · have := cntB_le (outR (eG L) n n fun x => decide (x = v)) n
        omega
    induction h with
    | refl => exact outR_mono (eG L) n n _ v (by simp)
    | step _ h1 h2 h3 ih => exact hc _ _ h1 h2 ih h3
/-- The parts of the reference: the least vertices of their parts are counted. -/
theorem psR_spec (L : List E) (n c : Nat) (hc : c ≤ n) : (∀ u, u < n → ((psR L n c).1 u = true ↔ ∃ v, v < c ∧ Cn (eG L) n v u)) ∧ (psR L n c).2 = cntB (fun v => !(psR L n v).1 v) c := by
  induction c with
  | zero => exact ⟨fun u _ => by simp [psR], rfl⟩
  | succ c ih =>
    obtain ⟨h1, h2⟩ := ih (by omega)
    have hcn : c < n := by omega
    rw [psR]
    by_cases hs : (psR L n c).1 c = true
    · rw [if_pos hs]
      refine ⟨fun u hu => ?_, ?_⟩
      · rw [h1 u hu]
        obtain ⟨v0, hv0, hk0⟩ := (h1 c hcn).1 hs
        constructor
        · rintro ⟨v, hv, hk⟩; exact ⟨v, by omega, hk⟩
        · rintro ⟨v, hv, hk⟩
          by_cases e : v = c
          · subst e; exact ⟨v0, hv0, hk0.trans hk⟩
          · exact ⟨v, by omega, hk⟩
      · rw [cntB, hs, h2]; rfl
    · rw [if_neg hs]
      refine ⟨fun u hu => ?_, ?_⟩
      · show orT (psR L n c).1 (reachR L n c) n u = true ↔ _
        unfold orT
        rw [if_pos hu, Bool.or_eq_true, h1 u hu, reachR_iff L n c u hcn]
        constructor
        · rintro (⟨v, hv, hk⟩ | hk)
          · exact ⟨v, by omega, hk⟩
          · exact ⟨c, by omega, hk⟩
        · rintro ⟨v, hv, hk⟩
          by_cases e : v = c
          · subst e; exact .inr hk
          · exact .inl ⟨v, by omega, hk⟩
      · show (psR L n c).2 + 1 = _
        rw [cntB, h2, if_pos (by simpa using hs)]
theorem parts_least (L : List E) (n : Nat) : ∃ p : Nat → Bool, partsR L n = cntB p n ∧ ∀ v, v < n → (p v = true ↔ ∀ u, u < v → ¬ Cn (eG L) n u v) := by
  refine ⟨fun v => !(psR L n v).1 v, (psR_spec L n n (Nat.le_refl _)).2, fun v hv => ?_⟩
  have := (psR_spec L n v (by omega)).1 v hv
  simp only [Bool.not_eq_true', ← Bool.not_eq_true, this]
  constructor
  · intro h u hu hk; exact h ⟨u, hu, hk⟩
  · rintro h ⟨u, hu, hk⟩; exact h u hu hk
/-- The tables of union by relabelling. -/
structure Lab (L0 : List E) (n : Nat) (t : Nat → Int) (c : Int) (L : List E) : Prop where
  eq : ∀ x ∈ L, t x.a.toNat = t x.b.toNat
  con : ∀ u v, u < n → v < n → t u = t v → Cn (eG L0) n u v
  root : ∀ u, u < n → 0 ≤ t u ∧ t u < n ∧ t (t u).toNat = t u
  cnt : c = cntB (fun v => decide (t v = (v : Int))) n
theorem eG_of {n : Nat} {L : List E} (h : Right n L) {x : E} (hx : x ∈ L) : eG L x.a.toNat x.b.toNat = true := by
  have h1 := h.rng x hx
  unfold eG betw
  rw [decide_eq_true_eq, bet_pos h.rng]
  exact ⟨x, hx, by omega, by omega⟩
theorem lab_step {L0 : List E} {n : Nat} (hR : Right n L0) {t : Nat → Int} {c : Int} {L : List E} (h : Lab L0 n t c L) {x : E} (hx : x ∈ L0) (hL : ∀ y ∈ L, y ∈ L0) : Lab L0 n (uStep (t, c) x).1 (uStep (t, c) x).2 (L ++ [x]) := by
  have hr := hR.rng x hx
  have hn := hR.hi
  have he := eG_of hR hx
  unfold uStep
  by_cases hk : t x.a.toNat = t x.b.toNat
  · rw [if_pos hk]
    refine ⟨fun y hy => ?_, h.con, h.root, h.cnt⟩
    rcases List.mem_append.1 hy with hy | hy
    · exact h.eq y hy
    · obtain rfl : y = x := by simpa using hy
      exact hk
  · rw [if_neg hk]
    generalize hA : x.a.toNat = A at *
    generalize hB : x.b.toNat = B at *
    have hAn : A < n := by omega
    have hBn : B < n := by omega
    have hn12 : n ≤ 12 := by omega
    have rA := h.root A hAn
    have rB := h.root B hBn
    have hrel : ∀ v, v < n → relT t (t A) (t B) 12 v = if t v = t B then t A else t v := fun v hv => by
      unfold relT
      by_cases e : t v = t B
      · rw [if_pos ⟨by omega, e⟩, if_pos e]
      · rw [if_neg (fun h' => e h'.2), if_neg e]
    refine ⟨fun y hy => ?_, fun u v hu hv huv => ?_, fun u hu => ?_, ?_⟩
    · show relT t (t A) (t B) 12 y.a.toNat = relT t (t A) (t B) 12 y.b.toNat
      rcases List.mem_append.1 hy with hy | hy
      · have h2 := hR.rng y (hL y hy)
        rw [hrel _ (by omega), hrel _ (by omega), h.eq y hy]
      · obtain rfl : y = x := by simpa using hy
        rw [hA, hB, hrel A hAn, hrel B hBn, if_neg hk, if_pos rfl]
    · have hAB : Cn (eG L0) n A B := .step .refl hAn hBn he
      have hu' := hrel u hu
      have hv' := hrel v hv
      have huv' : relT t (t A) (t B) 12 u = relT t (t A) (t B) 12 v := huv
      rw [hu', hv'] at huv'
      by_cases e1 : t u = t B
      · rw [if_pos e1] at huv'
        by_cases e2 : t v = t B
        · exact h.con u v hu hv (e1.trans e2.symm)
        · rw [if_neg e2] at huv'
          exact ((h.con u B hu hBn e1).trans (hAB.symm (eG_symm L0))).trans (h.con A v hAn hv huv')
      · rw [if_neg e1] at huv'
        by_cases e2 : t v = t B
        · rw [if_pos e2] at huv'
          exact ((h.con u A hu hAn huv').trans hAB).trans (h.con B v hBn hv e2.symm)
        · rw [if_neg e2] at huv'
          exact h.con u v hu hv huv'
    · show 0 ≤ relT t (t A) (t B) 12 u ∧ relT t (t A) (t B) 12 u < n ∧ relT t (t A) (t B) 12 (relT t (t A) (t B) 12 u).toNat = relT t (t A) (t B) 12 u
      have ru := h.root u hu
      rw [hrel u hu]
      by_cases e1 : t u = t B
      · rw [if_pos e1]
        refine ⟨rA.1, rA.2.1, ?_⟩
        rw [hrel _ (by omega), rA.2.2, if_neg hk]
      · rw [if_neg e1]
        refine ⟨ru.1, ru.2.1, ?_⟩
        rw [hrel _ (by omega), ru.2.2, if_neg e1]
    · show c - 1 = (cntB (fun v => decide (relT t (t A) (t B) 12 v = (v : Int))) n : Int)
      have hc := h.cnt
      rw [cntB_but (fun v => decide (t v = (v : Int))) (fun v => decide (relT t (t A) (t B) 12 v = (v : Int))) n (t B).toNat (by omega) (by rw [decide_eq_true_eq, rB.2.2]; omega) ?_] at hc
      · omega
      · intro v hv
        rw [Bool.eq_iff_iff]
        simp only [decide_eq_true_eq, Bool.and_eq_true, ne_eq]
        rw [hrel v hv]
        by_cases e1 : t v = t B
        · rw [if_pos e1]
          constructor
          · intro h2
            have h3 : A < n := hAn
            have : v = (t A).toNat := by omega
            rw [this, rA.2.2] at e1
            exact absurd e1 hk
          · rintro ⟨h2, h3⟩; omega
        · rw [if_neg e1]
          constructor
          · intro h2
            refine ⟨h2, fun h3 => e1 ?_⟩
            rw [h3, rB.2.2]
          · exact fun h2 => h2.1
theorem lab_start (L0 : List E) (n : Nat) (hn : n ≤ 12) : Lab L0 n (idT 12) n [] := by
  have hid : ∀ v, v < n → idT 12 v = v := fun v hv => by unfold idT; rw [if_pos (by omega)]
  refine ⟨fun x hx => by simp at hx, fun u v hu hv huv => ?_, fun u hu => ?_, ?_⟩
  · rw [hid u hu, hid v hv] at huv
    obtain rfl : u = v := by omega
    exact .refl
  · rw [hid u hu]
    refine ⟨by omega, by omega, ?_⟩
    rw [Int.toNat_natCast, hid u hu]
  · have : ∀ m, m ≤ n → cntB (fun v => decide (idT 12 v = (v : Int))) m = m := by
      intro m hm
      induction m with
      | zero => rfl
      | succ m ih => rw [cntB, ih (by omega), if_pos (by rw [decide_eq_true_eq, hid m (by omega)])]
    rw [this n (Nat.le_refl _)]
theorem uni_lab {n : Nat} {L : List E} (hR : Right n L) (M : List E) (hM : ∀ y ∈ M, y ∈ L) : Lab L n (uni n M).1 (uni n M).2 M := by
  have hn : n ≤ 12 := by have := hR.hi; omega
  have : ∀ (K M' : List E), (∀ y ∈ M', y ∈ L) → (∀ y ∈ K, y ∈ L) → ∀ st : (Nat → Int) × Int, Lab L n st.1 st.2 K → Lab L n (M'.foldl uStep st).1 (M'.foldl uStep st).2 (K ++ M') := by
    intro K M'
    induction M' generalizing K with
    | nil => intro _ _ st h; simpa using h
    | cons x r ih =>
      intro h1 h2 st h
      have h3 := lab_step hR (t := st.1) (c := st.2) h (h1 x (by simp)) h2
      have h4 := ih (K ++ [x]) (fun y hy => h1 y (by simp [hy])) (fun y hy => by
        rcases List.mem_append.1 hy with hy | hy
        · exact h2 y hy
        · obtain rfl : y = x := by simpa using hy
          exact h1 y (by simp)) (uStep st x) h3
      simpa using h4
  have h5 := this [] M hM (by simp) (idT 12, (n : Int)) (lab_start L n hn)
  simpa [uni] using h5
theorem len_le {α : Type} [DecidableEq α] : ∀ (l m : List α), l.Pairwise (· ≠ ·) → (∀ x ∈ l, x ∈ m) → l.length ≤ m.length
  | [], m, _, _ => Nat.zero_le _
  | x :: l, m, h, k => by
    obtain ⟨h1, h2⟩ := List.pairwise_cons.1 h
    have hx : x ∈ m := k x (by simp)
    have := len_le l (m.erase x) h2 fun y hy => (List.mem_erase_of_ne (h1 y hy).symm).2 (k y (by simp [hy]))
    rw [List.length_erase_of_mem hx] at this
    have h3 : 0 < m.length := List.length_pos_of_mem hx
    rw [List.length_cons]; omega
/-- The number of components, by relabelling, is the number of parts. -/
theorem comps_parts {n : Nat} {L : List E} (hR : Right n L) : compsU n L = partsR L n := by
  have hL := uni_lab hR L (fun y hy => hy)
  obtain ⟨p, hp, hpl⟩ := parts_least L n
  unfold compsU
  rw [hL.cnt, hp]
  generalize (uni n L).1 = t at hL
  have hconv : ∀ u v, u < n → Cn (eG L) n u v → t u = t v := by
    intro u v hu h
    induction h with
    | refl => rfl
    | @step v w _ h1 h2 h3 ih =>
      rw [ih]
      unfold eG betw at h3
      rw [decide_eq_true_eq, bet_pos hR.rng] at h3
      obtain ⟨x, hx, h4, h5⟩ := h3
      have h6 := hL.eq x hx
      rcases Int.le_total (v : Int) (w : Int) with h7 | h7
      · rw [show x.a.toNat = v by omega, show x.b.toNat = w by omega] at h6; exact h6
      · rw [show x.a.toNat = w by omega, show x.b.toNat = v by omega] at h6; exact h6.symm
  have key : cntB (fun v => decide (t v = (v : Int))) n = cntB p n := by
    rw [cntB_filter, cntB_filter]
    have hmap : ∀ m, m ∈ (List.range n).filter p ↔ m < n ∧ p m = true := fun m => by simp
    have hroot : ∀ m, m ∈ (List.range n).filter (fun v => decide (t v = (v : Int))) ↔ m < n ∧ t m = (m : Int) := fun m => by simp
    refine Nat.le_antisymm ?_ ?_
    · rw [show ((List.range n).filter p).length = (((List.range n).filter p).map (fun m : Nat => (t m).toNat)).length from (List.length_map _).symm]
      refine len_le _ _ ((List.nodup_range (n := n)).filter _) fun r hr => ?_
      obtain ⟨hrn, hrt⟩ := (hroot r).1 hr
      have hex : ∃ m, m < n ∧ Cn (eG L) n m r ∧ ∀ u, u < m → ¬ Cn (eG L) n u r := by
        have : ∀ k, k ≤ r → (∃ m, m < n ∧ Cn (eG L) n m r ∧ ∀ u, u < m → ¬ Cn (eG L) n u r) ∨ ∀ u, u < k → ¬ Cn (eG L) n u r := by
          intro k hk
          induction k with
          | zero => exact .inr fun u hu => by omega
          | succ k ih =>
            rcases ih (by omega) with h1 | h1
            · exact .inl h1
            · by_cases h2 : Cn (eG L) n k r
              · exact .inl ⟨k, by omega, h2, h1⟩
              · refine .inr fun u hu => ?_
                by_cases e : u = k
                · subst e; exact h2
                · exact h1 u (by omega)
        rcases this r (Nat.le_refl _) with h1 | h1
        · exact h1
        · exact ⟨r, hrn, .refl, h1⟩
      obtain ⟨m, hmn, hmr, hml⟩ := hex
      refine List.mem_map.2 ⟨m, (hmap m).2 ⟨hmn, (hpl m hmn).2 fun u hu hk => hml u hu (hk.trans hmr)⟩, ?_⟩
      show (t m).toNat = r
      rw [hconv m r hmn hmr, hrt]; omega
    · rw [show ((List.range n).filter p).length = (((List.range n).filter p).map (fun m : Nat => (t m).toNat)).length from (List.length_map _).symm]
      refine len_le _ _ ?_ fun x hx => ?_
      · rw [List.pairwise_map]
        refine List.Pairwise.imp_of_mem ?_ ((List.pairwise_lt_range (n := n)).filter _)
        intro a b ha hb hab
        obtain ⟨ha1, ha2⟩ := (hmap a).1 ha
        obtain ⟨hb1, hb2⟩ := (hmap b).1 hb
        intro e
        have rA := hL.root a ha1
        have rB := hL.root b hb1
        exact (hpl b hb1).1 hb2 a hab (hL.con a b ha1 hb1 (by omega))
      · obtain ⟨m, hm, rfl⟩ := List.mem_map.1 hx
        obtain ⟨hm1, hm2⟩ := (hmap m).1 hm
        have rm := hL.root m hm1
        exact (hroot _).2 ⟨by omega, by rw [rm.2.2]; omega⟩
  rw [key]
end Go.Proofs.Ytjaafneoinidkaa
