/- Legal sets in numbers: what leaves a set, edge by edge and vertex by vertex. -/
import Derived.Test.YtgejkgeojjgclaaFo
namespace Go.Proofs.Ytgejkgeojjgclaa
open Go.RowKit Go.Proofs.Gr Go.Proofs.Cp

/-- What an edge takes from a vertex of a set. -/
def outE (A : List Int) (v : Int) (e : E) : Int := if e.a = e.b then 0 else if e.a = v then (if A.contains e.b = true then 0 else e.m) else if e.b = v then (if A.contains e.a = true then 0 else e.m) else 0
def outZ (A : List Int) (v : Int) (L : List E) (n : Nat) : Int := sumZ (fun u => if A.contains u = true then 0 else betw v u L) n
theorem outZ_outE {n : Nat} (A : List Int) (v : Int) (hv : A.contains v = true) (L : List E) (h : ∀ e ∈ L, 0 ≤ e.a ∧ e.a ≤ e.b ∧ e.b < (n : Int) ∧ 1 ≤ e.m ∧ e.m ≤ 50) : outZ A v L n = sumL (outE A v) L := by
  induction L with
  | nil =>
    refine sumZ_zero _ _ fun u _ => ?_
    show (if _ then _ else _) = _
    by_cases hu : A.contains (u : Int) = true
    · rw [if_pos hu]
    · rw [if_neg hu]; rfl
  | cons e r ih =>
    have h1 := ih (fun x hx => h x (by simp [hx]))
    have h2 := h e (by simp)
    have hne : ∀ u : Int, ¬ A.contains u = true → u ≠ v := fun u hu e => hu (e ▸ hv)
    have hone : sumZ (fun u => if A.contains u = true then 0 else (if e.a = min v u ∧ e.b = max v u then e.m else 0)) n = outE A v e := by
      unfold outE
      by_cases hl : e.a = e.b
      · rw [if_pos hl]
        refine sumZ_zero _ _ fun u _ => ?_
        by_cases hu : A.contains (u : Int) = true
        · rw [if_pos hu]
        · have := hne u hu
          rw [if_neg hu, if_neg (by omega)]
      · rw [if_neg hl]
        by_cases ha : e.a = v
        · rw [if_pos ha]
          obtain ⟨k, hk⟩ : ∃ k : Nat, (k : Int) = e.b := ⟨e.b.toNat, by omega⟩
          rw [sumZ_one _ n k (by omega)]
          · by_cases hc : A.contains e.b = true
            · rw [if_pos hc, hk, if_pos hc]
            · rw [if_neg hc, hk, if_neg hc, if_pos (by omega)]
          · intro u _ hne2
            by_cases hu : A.contains (u : Int) = true
            · rw [if_pos hu]
            · have := hne u hu
              rw [if_neg hu, if_neg (by omega)]
        · rw [if_neg ha]
          by_cases hb : e.b = v
          · rw [if_pos hb]
            obtain ⟨k, hk⟩ : ∃ k : Nat, (k : Int) = e.a := ⟨e.a.toNat, by omega⟩
            rw [sumZ_one _ n k (by omega)]
            · by_cases hc : A.contains e.a = true
              · rw [if_pos hc, hk, if_pos hc]
              · rw [if_neg hc, hk, if_neg hc, if_pos (by omega)]
            · intro u _ hne2
              by_cases hu : A.contains (u : Int) = true
              · rw [if_pos hu]
              · have := hne u hu
                rw [if_neg hu, if_neg (by omega)]
          · rw [if_neg hb]
            refine sumZ_zero _ _ fun u _ => ?_
            by_cases hu : A.contains (u : Int) = true
            · rw [if_pos hu]
            · have := hne u hu
              rw [if_neg hu, if_neg (by omega)]
    rw [sumL, ← h1, ← hone]
    unfold outZ
    rw [← sumZ_add]
    congr 1
    funext u
    by_cases hu : A.contains u = true
    · rw [if_pos hu, if_pos hu, if_pos hu]; rfl
    · rw [if_neg hu, if_neg hu, if_neg hu]; rfl
def crsE (A : List Int) (e : E) : Bool := (A.contains e.a && !A.contains e.b) || (A.contains e.b && !A.contains e.a)
theorem outE_nn (A : List Int) (v : Int) {e : E} (h : 1 ≤ e.m) : 0 ≤ outE A v e := by
  unfold outE
  split
  · omega
  · split
    · split <;> omega
    · split
      · split <;> omega
      · omega
theorem sumL_nn (f : E → Int) (L : List E) (h : ∀ e ∈ L, 0 ≤ f e) : 0 ≤ sumL f L := by
  induction L with
  | nil => exact Int.le_refl _
  | cons e r ih => have h1 := h e (by simp); have h2 := ih (fun x hx => h x (by simp [hx])); rw [sumL]; omega
theorem sumL_pos (f : E → Int) (L : List E) (h : ∀ e ∈ L, 0 ≤ f e) : 0 < sumL f L ↔ ∃ e ∈ L, 0 < f e := by
  induction L with
  | nil => simp [sumL]
  | cons e r ih =>
    have h1 := h e (by simp)
    have h3 := sumL_nn f r (fun x hx => h x (by simp [hx]))
    have h2 := ih (fun x hx => h x (by simp [hx]))
    rw [sumL]
    constructor
    · intro hp
      by_cases h4 : 0 < f e
      · exact ⟨e, by simp, h4⟩
      · obtain ⟨x, hx, hy⟩ := h2.1 (by omega)
        exact ⟨x, by simp [hx], hy⟩
    · rintro ⟨x, hx, hy⟩
      rcases List.mem_cons.1 hx with rfl | hx
      · omega
      · have := h2.2 ⟨x, hx, hy⟩; omega
theorem crsE_pos {A : List Int} {e : E} (h : 1 ≤ e.m) : crsE A e = true ↔ ∃ v, A.contains v = true ∧ 0 < outE A v e := by
  unfold crsE
  constructor
  · intro hc
    rw [Bool.or_eq_true, Bool.and_eq_true, Bool.and_eq_true, Bool.not_eq_true', Bool.not_eq_true'] at hc
    rcases hc with ⟨h1, h2⟩ | ⟨h1, h2⟩
    · refine ⟨e.a, h1, ?_⟩
      unfold outE
      rw [if_neg (fun he => by rw [he, h2] at h1; cases h1), if_pos rfl, if_neg (by rw [h2]; decide)]; omega
    · refine ⟨e.b, h1, ?_⟩
      unfold outE
      rw [if_neg (fun he => by rw [← he, h2] at h1; cases h1), if_neg (fun he => by rw [← he, h2] at h1; cases h1), if_pos rfl, if_neg (by rw [h2]; decide)]; omega
  · rintro ⟨v, h1, h2⟩
    unfold outE at h2
    split at h2
    · omega
    · split at h2
      · rename_i ha
        split at h2
        · omega
        · rename_i hb
          rw [ha, h1, Bool.not_eq_true] at *
          rw [hb]; rfl
      · split at h2
        · rename_i hb
          split at h2
          · omega
          · rename_i ha
            rw [hb, h1]
            rw [Bool.not_eq_true] at ha
            rw [ha]; rfl
        · omega
/-- The sums over a set. -/
def sA (f : Int → Int) (A : List Int) : Nat → Int
  | 0 => 0
  | i + 1 => sA f A i + f (iAt A i)
theorem sA_nn (f : Int → Int) (A : List Int) (h : ∀ v, 0 ≤ f v) (i : Nat) : 0 ≤ sA f A i := by
  induction i with
  | zero => exact Int.le_refl _
  | succ i ih => have := h (iAt A i); rw [sA]; omega
theorem sA_pos (f : Int → Int) (A : List Int) (h : ∀ v, 0 ≤ f v) (i : Nat) : 0 < sA f A i ↔ ∃ j, j < i ∧ 0 < f (iAt A j) := by
  induction i with
  | zero => simp [sA]
  | succ i ih =>
    have h1 := h (iAt A i)
    have h3 := sA_nn f A h i
    rw [sA]
    constructor
    · intro hp
      by_cases h4 : 0 < f (iAt A i)
      · exact ⟨i, by omega, h4⟩
      · obtain ⟨j, hj, hy⟩ := ih.1 (by omega)
        exact ⟨j, by omega, hy⟩
    · rintro ⟨j, hj, hy⟩
      by_cases e : j = i
      · subst e; omega
      · have := ih.2 ⟨j, by omega, hy⟩; omega
theorem outZ_nn {n : Int} {L : List E} (hR : Right n L) (A : List Int) (v : Int) (k : Nat) : 0 ≤ outZ A v L k := by
  unfold outZ
  induction k with
  | zero => exact Int.le_refl _
  | succ k ih =>
    have h1 := betw_le hR v k
    rw [sumZ]
    show 0 ≤ sumZ _ k + (if A.contains (k : Int) = true then 0 else betw v k L)
    split <;> omega
theorem outZ_le {n : Int} {L : List E} (hR : Right n L) (A : List Int) (v : Int) (k : Nat) : outZ A v L k ≤ 50 * k := by
  unfold outZ
  induction k with
  | zero => exact Int.le_refl _
  | succ k ih =>
    have h1 := betw_le hR v k
    rw [sumZ]
    show sumZ _ k + (if A.contains (k : Int) = true then 0 else betw v k L) ≤ _
    split <;> omega
theorem sA_le {n : Int} {L : List E} (hR : Right n L) (A : List Int) (k i : Nat) (hk : k ≤ 12) : sA (fun v => outZ A v L k) A i ≤ 600 * i := by
  induction i with
  | zero => exact Int.le_refl _
  | succ i ih =>
    have h1 := outZ_le hR A (iAt A i) k
    rw [sA]
    show _ + outZ A (iAt A i) L k ≤ _
    omega
/-- What a set may do, as the reference finds it. -/
def mayS (n : Nat) (L : List E) (D A : List Int) : Bool := A.all (fun v => decide (outZ A v L n ≤ iAt D v.toNat)) && decide (0 < sA (fun v => outZ A v L n) A A.length)
theorem lgO_at {A : List Int} {z : List Int × Bool} {x y : Nat} {m : Int} (hx : x < z.1.length) (v : Nat) : iAt (lgO A z x y m).1 v = iAt z.1 v - (if x = v ∧ (A.contains (x : Int) && !A.contains (y : Int)) = true then m else 0) := by
  unfold lgO
  by_cases h : (A.contains (x : Int) && !A.contains (y : Int)) = true
  · rw [if_pos h]
    simp only
    rw [iAt_set _ _ _ _ hx]
    by_cases e : x = v
    · rw [if_pos e, if_pos ⟨e, h⟩, e]
    · rw [if_neg e, if_neg (fun k => e k.1)]; omega
  · rw [if_neg h, if_neg (fun k => h k.2)]; omega
theorem lgO_fl (A : List Int) (z : List Int × Bool) (x y : Nat) (m : Int) : (lgO A z x y m).2 = (z.2 || (A.contains (x : Int) && !A.contains (y : Int))) := by
  unfold lgO
  by_cases h : (A.contains (x : Int) && !A.contains (y : Int)) = true
  · rw [if_pos h, h, Bool.or_true]
  · rw [if_neg h]
    rw [Bool.not_eq_true] at h
    rw [h, Bool.or_false]
theorem lgE_at {A : List Int} {z : List Int × Bool} {e : E} (h : 0 ≤ e.a ∧ e.a ≤ e.b ∧ e.b < z.1.length) (v : Nat) (hv : A.contains (v : Int) = true) : iAt (lgE A z e).1 v = iAt z.1 v - outE A v e := by
  unfold lgE outE
  by_cases hl : e.a = e.b
  · rw [if_pos hl, if_pos hl]; omega
  · rw [if_neg hl, if_neg hl, lgO_at (by rw [lgO_len]; omega), lgO_at (by omega)]
    have ea : ((e.a.toNat : Nat) : Int) = e.a := by omega
    have eb : ((e.b.toNat : Nat) : Int) = e.b := by omega
    rw [ea, eb]
    by_cases h1 : e.a = v
    · rw [if_pos h1, if_neg (show ¬ (e.b.toNat = v ∧ _) from fun k => by omega)]
      have e1 : e.a.toNat = v := by omega
      by_cases h2 : A.contains e.b = true
      · rw [if_pos h2, if_neg (fun k => by rw [h2] at k; simp at k)]; omega
      · rw [if_neg h2, if_pos ⟨e1, by rw [h1, hv]; rw [Bool.not_eq_true] at h2; rw [h2]; rfl⟩]; omega
    · rw [if_neg h1, if_neg (show ¬ (e.a.toNat = v ∧ _) from fun k => by omega)]
      by_cases h3 : e.b = v
      · rw [if_pos h3]
        have e1 : e.b.toNat = v := by omega
        by_cases h2 : A.contains e.a = true
        · rw [if_pos h2, if_neg (fun k => by rw [h2] at k; simp at k)]; omega
        · rw [if_neg h2, if_pos ⟨e1, by rw [h3, hv]; rw [Bool.not_eq_true] at h2; rw [h2]; rfl⟩]; omega
      · rw [if_neg h3, if_neg (fun k => by omega)]; omega
theorem lgE_fl {A : List Int} {z : List Int × Bool} {e : E} (h : 0 ≤ e.a ∧ e.a ≤ e.b) : (lgE A z e).2 = (z.2 || crsE A e) := by
  unfold lgE crsE
  by_cases hl : e.a = e.b
  · rw [if_pos hl, hl]; cases z.2 <;> cases A.contains e.b <;> rfl
  · have ea : ((e.a.toNat : Nat) : Int) = e.a := by omega
    have eb : ((e.b.toNat : Nat) : Int) = e.b := by omega
    rw [if_neg hl, lgO_fl, lgO_fl, ea, eb, Bool.or_assoc]
theorem lgL_fin {n : Int} {A D : List Int} {L : List E} (hn : n = D.length) (hr : ∀ e ∈ L, 0 ≤ e.a ∧ e.a ≤ e.b ∧ e.b < n ∧ 1 ≤ e.m ∧ e.m ≤ 50) (i : Nat) (hi : i ≤ L.length) :
    (∀ v : Nat, A.contains (v : Int) = true → iAt (lgL A D L i).1 v = iAt D v - sumL (outE A v) (L.take i)) ∧ (lgL A D L i).2 = (L.take i).any (crsE A) := by
  induction i with
  | zero => exact ⟨fun v _ => by simp [lgL, sumL], by simp [lgL]⟩
  | succ i ih =>
    obtain ⟨i1, i2⟩ := ih (by omega)
    have h1 := hr (eAt L i) (by rw [← eAt_get L i (by omega)]; exact List.getElem_mem _)
    have hl := lgL_len A D L i
    refine ⟨fun v hv => ?_, ?_⟩
    · rw [lgL, lgE_at (by omega) v hv, i1 v hv, sumL_take _ L i (by omega)]; omega
    · rw [lgL, lgE_fl (by omega), i2, List.take_succ_eq_append_getElem (by omega), List.any_append, eAt_get]
      simp
theorem legB_mayS {N : Nat} {L : List E} {D A : List Int} (hR : Right N L) (hD : D.length = N) (hr : ∀ i, i < A.length → 0 ≤ iAt A i ∧ iAt A i < N) : legB L D A = mayS N L D A := by
  obtain ⟨h1, h2⟩ := lgL_fin (n := N) (A := A) (D := D) (L := L) (by omega) hR.rng L.length (Nat.le_refl _)
  rw [List.take_length] at h1 h2
  have hin : ∀ v ∈ A, 0 ≤ v ∧ v < N := fun v hv => by
    obtain ⟨i, hi, rfl⟩ := List.getElem_of_mem hv
    rw [iAt_get A i hi]; exact hr i hi
  unfold legB mayS
  rw [Bool.and_comm, h2]
  congr 1
  · unfold negB
    rw [List.not_any_eq_all_not]
    rw [Bool.eq_iff_iff, List.all_eq_true, List.all_eq_true]
    have hx : ∀ v ∈ A, iAt (lgL A D L L.length).1 v.toNat = iAt D v.toNat - outZ A v L N := fun v hv => by
      have h3 := hin v hv
      have h4 := h1 v.toNat (by rw [show ((v.toNat : Nat) : Int) = v by omega]; exact List.elem_eq_true_of_mem hv)
      rw [show ((v.toNat : Nat) : Int) = v by omega] at h4
      rw [h4, outZ_outE (n := N) A v (List.elem_eq_true_of_mem hv) L hR.rng]
    constructor
    · intro h v hv
      have h5 := h v hv
      rw [hx v hv, Bool.not_eq_true', decide_eq_false_iff_not] at h5
      exact decide_eq_true (by omega)
    · intro h v hv
      have h5 := of_decide_eq_true (h v hv)
      rw [hx v hv, Bool.not_eq_true', decide_eq_false_iff_not]
      omega
  · rw [Bool.eq_iff_iff, List.any_eq_true, decide_eq_true_iff, sA_pos _ _ (fun v => outZ_nn hR A v N)]
    constructor
    · rintro ⟨e, he, hc⟩
      have h3 := hR.rng e he
      obtain ⟨v, hv, hp⟩ := (crsE_pos (A := A) (e := e) (by omega)).1 hc
      obtain ⟨j, hj, e1⟩ := List.getElem_of_mem (List.mem_of_elem_eq_true hv)
      refine ⟨j, hj, ?_⟩
      show 0 < outZ A (iAt A j) L N
      rw [← iAt_get A j hj, e1, outZ_outE (n := N) A v hv L hR.rng]
      exact (sumL_pos _ L (fun x hx => outE_nn A v (by have := hR.rng x hx; omega))).2 ⟨e, he, hp⟩
    · rintro ⟨j, hj, hp⟩
      have hp : 0 < outZ A (iAt A j) L N := hp
      have hm : A.contains (iAt A j) = true := List.elem_eq_true_of_mem (by rw [← iAt_get A j hj]; exact List.getElem_mem hj)
      rw [outZ_outE (n := N) A _ hm L hR.rng] at hp
      obtain ⟨e, he, hq⟩ := (sumL_pos _ L (fun x hx => outE_nn A _ (by have := hR.rng x hx; omega))).1 hp
      exact ⟨e, he, (crsE_pos (by have := hR.rng e he; omega)).2 ⟨_, hm, hq⟩⟩
theorem betw_sym (u v : Int) (L : List E) : betw u v L = betw v u L := by unfold betw; rw [Int.min_comm, Int.max_comm]
theorem outZ_val (v : Int) (L : List E) (n : Nat) : outZ [v] v L n = valZ v L n := by
  induction n with
  | zero => rfl
  | succ n ih =>
    have h1 : outZ [v] v L (n + 1) = outZ [v] v L n + (if ([v] : List Int).contains (n : Int) = true then 0 else betw v n L) := rfl
    have h2 : valZ v L (n + 1) = valZ v L n + (if (n : Int) = v then 0 else betw n v L) := rfl
    rw [h1, h2, ih, betw_sym]
    by_cases h : (n : Int) = v
    · rw [if_pos h, if_pos (by simp [h])]
    · rw [if_neg h, if_neg (by simp [h])]
/-- One vertex. -/
theorem legB_one {N : Nat} {L : List E} {D : List Int} {v : Int} (hR : Right N L) (hD : D.length = N) (hv : 0 ≤ v ∧ v < N) : legB L D [v] = (decide (0 < valZ v L N) && decide (valZ v L N ≤ iAt D v.toNat)) := by
  rw [legB_mayS hR hD (fun i hi => by
    have : i = 0 := by simp at hi; omega
    subst this; exact hv)]
  unfold mayS
  have e1 : sA (fun u => outZ [v] u L N) [v] [v].length = 0 + outZ [v] v L N := rfl
  rw [e1, Int.zero_add, outZ_val, Bool.and_comm]
  simp [outZ_val]
end Go.Proofs.Ytgejkgeojjgclaa
