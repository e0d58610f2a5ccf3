/- Firing in numbers: what a script changes, along the edges and vertex by vertex. -/
import Derived.Test.YtgejkgeojjgclaaCo
import Derived.Test.YtgejkgeojjgclaaGl
import Derived.Test.YtgejkgeojjgclaaGm
import Derived.Test.YtgejkgeojjgclaaGh
namespace Go.Proofs.Ytgejkgeojjgclaa
open Go.RowKit Go.Proofs.Gr Go.Proofs.Cp

/-- What an edge brings to a vertex, under a script. -/
def eN (s : Int → Int) (v : Int) (e : E) : Int := if e.a = e.b then 0 else if e.a = v then e.m * (s e.b - s e.a) else if e.b = v then e.m * (s e.a - s e.b) else 0
def movZ (s : Int → Int) (v : Int) (L : List E) (n : Nat) : Int := sumZ (fun u => if v = u then 0 else betw v u L * (s u - s v)) n
theorem movZ_eN {n : Nat} (s : Int → Int) (v : Int) (L : List E) (h : ∀ e ∈ L, 0 ≤ e.a ∧ e.a ≤ e.b ∧ e.b < (n : Int) ∧ 1 ≤ e.m ∧ e.m ≤ 50) : movZ s v L n = sumL (eN s v) L := by
  induction L with
  | nil =>
    refine sumZ_zero _ _ fun u _ => ?_
    show (if _ then _ else _) = _
    by_cases hu : v = (u : Int)
    · rw [if_pos hu]
    · rw [if_neg hu]; show 0 * _ = _; rw [Int.zero_mul]
  | cons e r ih =>
    have h1 := ih (fun x hx => h x (by simp [hx]))
    have h2 := h e (by simp)
    have hone : sumZ (fun u => if v = u then 0 else (if e.a = min v u ∧ e.b = max v u then e.m else 0) * (s u - s v)) n = eN s v e := by
      unfold eN
      by_cases hl : e.a = e.b
      · rw [if_pos hl]
        refine sumZ_zero _ _ fun u _ => ?_
        by_cases hu : v = (u : Int)
        · rw [if_pos hu]
        · rw [if_neg hu, if_neg (by omega), Int.zero_mul]
      · rw [if_neg hl]
        by_cases ha : e.a = v
        · rw [if_pos ha]
          obtain ⟨k, hk⟩ : ∃ k : Nat, (k : Int) = e.b := ⟨e.b.toNat, by omega⟩
          rw [sumZ_one _ n k (by omega)]
          · rw [if_neg (by omega), if_pos (by omega), hk, ha]
          · intro u _ hne
            by_cases hu : v = (u : Int)
            · rw [if_pos hu]
            · rw [if_neg hu, if_neg (by omega), Int.zero_mul]
        · rw [if_neg ha]
          by_cases hb : e.b = v
          · rw [if_pos hb]
            obtain ⟨k, hk⟩ : ∃ k : Nat, (k : Int) = e.a := ⟨e.a.toNat, by omega⟩
            rw [sumZ_one _ n k (by omega)]
            · rw [if_neg (by omega), if_pos (by omega), hk, hb]
            · intro u _ hne
              by_cases hu : v = (u : Int)
              · rw [if_pos hu]
              · rw [if_neg hu, if_neg (by omega), Int.zero_mul]
          · rw [if_neg hb]
            refine sumZ_zero _ _ fun u _ => ?_
            by_cases hu : v = (u : Int)
            · rw [if_pos hu]
            · rw [if_neg hu, if_neg (by omega), Int.zero_mul]
    rw [sumL, ← h1, ← hone]
    unfold movZ
    rw [← sumZ_add]
    congr 1
    funext u
    by_cases hu : v = u
    · rw [if_pos hu, if_pos hu, if_pos hu]; rfl
    · rw [if_neg hu, if_neg hu, if_neg hu, ← Int.add_mul]; rfl
/-- The bounds of a script. -/
def Sb (s : Int → Int) : Prop := ∀ v, -1048576 ≤ s v ∧ s v ≤ 1048576
theorem mul_bd {m x : Int} (hm : 0 ≤ m ∧ m ≤ 50) (hx : -2097152 ≤ x ∧ x ≤ 2097152) : -104857600 ≤ m * x ∧ m * x ≤ 104857600 := by
  have h1 : (m * x).natAbs ≤ 50 * 2097152 := by rw [Int.natAbs_mul]; exact Nat.mul_le_mul (by omega) (by omega)
  omega
theorem eN_bd {n : Int} {s : Int → Int} (hs : Sb s) (v : Int) {e : E} (h : 0 ≤ e.a ∧ e.a ≤ e.b ∧ e.b < n ∧ 1 ≤ e.m ∧ e.m ≤ 50) : -104857600 ≤ eN s v e ∧ eN s v e ≤ 104857600 := by
  unfold eN
  have h1 := hs e.a
  have h2 := hs e.b
  split
  · omega
  · split
    · exact mul_bd (by omega) (by omega)
    · split
      · exact mul_bd (by omega) (by omega)
      · omega
theorem sumL_bd {n : Int} {s : Int → Int} (hs : Sb s) (v : Int) (L : List E) (h : ∀ e ∈ L, 0 ≤ e.a ∧ e.a ≤ e.b ∧ e.b < n ∧ 1 ≤ e.m ∧ e.m ≤ 50) (i : Nat) (hi : i ≤ L.length) : -(104857600 * (i : Int)) ≤ sumL (eN s v) (L.take i) ∧ sumL (eN s v) (L.take i) ≤ 104857600 * (i : Int) := by
  induction i with
  | zero => simp [sumL]
  | succ i ih =>
    rw [sumL_take _ L i (by omega)]
    have h1 := ih (by omega)
    have h2 := eN_bd hs v (h (eAt L i) (by rw [← eAt_get L i (by omega)]; exact List.getElem_mem _))
    omega
/-- The list under way, edge by edge. -/
def stE (s : Int → Int) (Q : List Int) (e : E) : List Int := if e.a = e.b then Q else (Q.set e.a.toNat (iAt Q e.a.toNat + e.m * (s e.b - s e.a))).set e.b.toNat (iAt (Q.set e.a.toNat (iAt Q e.a.toNat + e.m * (s e.b - s e.a))) e.b.toNat + e.m * (s e.a - s e.b))
def chL (s : Int → Int) (D : List Int) (L : List E) : Nat → List Int
  | 0 => D
  | i + 1 => stE s (chL s D L i) (eAt L i)
theorem stE_len (s : Int → Int) (Q : List Int) (e : E) : (stE s Q e).length = Q.length := by
  unfold stE; split <;> simp
theorem chL_len (s : Int → Int) (D : List Int) (L : List E) (i : Nat) : (chL s D L i).length = D.length := by
  induction i with
  | zero => rfl
  | succ i ih => rw [chL, stE_len, ih]
theorem stE_at (s : Int → Int) (Q : List Int) (e : E) (h : 0 ≤ e.a ∧ e.a ≤ e.b ∧ e.b < Q.length) (v : Nat) : iAt (stE s Q e) v = iAt Q v + eN s v e := by
  unfold stE eN
  by_cases hl : e.a = e.b
  · rw [if_pos hl, if_pos hl]; omega
  · rw [if_neg hl, if_neg hl, iAt_set _ _ _ _ (by rw [List.length_set]; omega), iAt_set _ _ _ _ (by omega), iAt_set _ _ _ _ (by omega)]
    by_cases hb : e.b.toNat = v
    · rw [if_pos hb, if_neg (by omega), if_neg (by omega), if_pos (by omega), hb]
    · rw [if_neg hb]
      by_cases ha : e.a.toNat = v
      · rw [if_pos ha, if_pos (by omega), ha]
      · rw [if_neg ha, if_neg (by omega), if_neg (by omega)]; omega
theorem chL_at {n : Int} (s : Int → Int) (D : List Int) (L : List E) (hn : n ≤ D.length) (h : ∀ e ∈ L, 0 ≤ e.a ∧ e.a ≤ e.b ∧ e.b < n ∧ 1 ≤ e.m ∧ e.m ≤ 50) (i : Nat) (hi : i ≤ L.length) (v : Nat) : iAt (chL s D L i) v = iAt D v + sumL (eN s v) (L.take i) := by
  induction i with
  | zero => simp [chL, sumL]
  | succ i ih =>
    have h1 := h (eAt L i) (by rw [← eAt_get L i (by omega)]; exact List.getElem_mem _)
    rw [chL, stE_at s _ _ (by rw [chL_len]; omega), ih (by omega), sumL_take _ L i (by omega)]; omega
/-- A script as a function. -/
def fS (S : List Int) (v : Int) : Int := iAt S v.toNat
/-- What comes of it. -/
def chD (D S : List Int) (L : List E) : List Int := (List.range D.length).map fun v : Nat => iAt D v + sumL (eN (fS S) v) L
theorem chD_len (D S : List Int) (L : List E) : (chD D S L).length = D.length := by simp [chD]
theorem chD_at (D S : List Int) (L : List E) (v : Nat) (h : v < D.length) : iAt (chD D S L) v = iAt D v + sumL (eN (fS S) v) L := by
  unfold chD
  show List.getD _ v 0 = _
  rw [List.getD_eq_getElem?_getD, List.getElem?_map, List.getElem?_range h]; rfl
theorem chL_all {n : Int} (D S : List Int) (L : List E) (hn : n ≤ D.length) (h : ∀ e ∈ L, 0 ≤ e.a ∧ e.a ≤ e.b ∧ e.b < n ∧ 1 ≤ e.m ∧ e.m ≤ 50) : chL (fS S) D L L.length = chD D S L := by
  refine eq_of_at (by rw [chL_len, chD_len]) fun v hv => ?_
  rw [chL_len] at hv
  rw [chL_at _ D L hn h _ (Nat.le_refl _) v, chD_at D S L v hv, List.take_length]
def chK (D S : List Int) (L : List E) : Nat := if (chD D S L).any big = true then 11 else 0
def chV (D S : List Int) (L : List E) : List Int := if (chD D S L).any big = true then [] else chD D S L
theorem fS_sb {S : List Int} (h : ∀ z ∈ S, -1048576 ≤ z ∧ z ≤ 1048576) : Sb (fS S) := fun v => by
  unfold fS
  by_cases hv : v.toNat < S.length
  · exact h _ (by rw [← iAt_get S _ hv]; exact List.getElem_mem _)
  · unfold iAt; rw [List.getD_eq_getElem?_getD, List.getElem?_eq_none (by omega)]; decide
/-- The error of a graph and a divisor or a script. -/
def chkGD (n : Int) (L : List E) (D : List Int) : Nat := if chkG n L ≠ 0 then chkG n L else chkD D n
theorem chkD_zero {D : List Int} {n : Int} (h : chkD D n = 0) : Div D ∧ (D.length : Int) = n := by
  unfold chkD at h
  by_cases h1 : n < 1 ∨ 12 < n
  · rw [if_pos h1] at h; omega
  · rw [if_neg h1] at h
    by_cases h2 : (D.length : Int) ≠ n
    · rw [if_pos h2] at h; omega
    · rw [if_neg h2] at h
      by_cases h3 : D.any big = true
      · rw [if_pos h3] at h; omega
      · exact ⟨⟨by omega, by omega, any_false (by simpa using h3)⟩, by omega⟩
theorem chkGD_zero {n : Int} {L : List E} {D : List Int} (h : chkGD n L D = 0) : Right n L ∧ Div D ∧ (D.length : Int) = n := by
  unfold chkGD at h
  by_cases h1 : chkG n L ≠ 0
  · rw [if_pos h1] at h; exact absurd h h1
  · rw [if_neg h1] at h
    obtain ⟨h2, h3⟩ := chkD_zero h
    exact ⟨right_of (by omega), h2, h3⟩
/-- Worlds that differ in one block, and in new ones. -/
theorem grown_trans {u v w : World} {r : Option Nat} (h : u.grownBy v r) (h' : v.grownBy w r) : u.grownBy w r :=
  ⟨h'.os.trans h.os, h'.tape.trans h.tape, h'.output.trans h.output, Nat.le_trans h.size h'.size, fun k hk hr => (h'.block k (Nat.lt_of_lt_of_le hk h.size) hr).trans (h.block k hk hr)⟩
theorem grown_below {u v : World} (h : Below u.heap.size u v) (r : Option Nat) : u.grownBy v r := ⟨h.os, h.tape, h.output, h.size, fun k hk _ => h.block k hk⟩
theorem IsAt.grown {w w' : World} {a : Option Addr} {L : List Int} (h : IsAt w a L) {row : Option Nat} (hg : w.grownBy w' row) (hr : ∀ p, a = some p → some p.block ≠ row) : IsAt w' a L := by
  intro j hj
  obtain ⟨b, off, rfl, hlt, h1⟩ := h j hj
  refine ⟨b, off, rfl, Nat.lt_of_lt_of_le hlt hg.size, fun i hi => ?_⟩
  rw [← h1 i hi]
  exact World.cell?_of_block (hg.block b hlt (hr _ rfl))
theorem EsAt.grown {w w' : World} {a : Option Addr} {L : List E} (h : EsAt w a L) {row : Option Nat} (hg : w.grownBy w' row) (hr : ∀ p, a = some p → 0 < L.length → some p.block ≠ row) : EsAt w' a L := by
  intro j hj
  obtain ⟨b, off, rfl, hlt, h1⟩ := h j hj
  refine ⟨b, off, rfl, Nat.lt_of_lt_of_le hlt hg.size, fun i hi => ?_⟩
  rw [← h1 i hi]
  exact World.cell?_of_block (hg.block b hlt (hr _ rfl (by omega)))
end Go.Proofs.Ytgejkgeojjgclaa
