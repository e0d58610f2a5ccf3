/- Plain arithmetic of numbers written in a base: values of lists of digits, the canonical list of a number, what the steps of adding, subtracting, multiplying and dividing do to values. No program is imported. -/
import Derived.Lib.ItoaNum
namespace Go.Proofs.Num

/-- The value of digits in base b, the lowest digit first. -/
def val (b : Nat) : List Nat → Nat
  | [] => 0
  | x :: xs => x + b * val b xs

/-- Digits of a number in base b (b at least 2), the lowest first, no zero on top. -/
def dig (b n : Nat) : List Nat :=
  if _h : 2 ≤ b ∧ n ≠ 0 then n % b :: dig b (n / b) else []
termination_by n
decreasing_by exact Nat.div_lt_self (by omega) (by omega)

theorem dig_zero (b : Nat) : dig b 0 = [] := by rw [dig]; simp
theorem dig_pos {b n : Nat} (hb : 2 ≤ b) (hn : n ≠ 0) : dig b n = n % b :: dig b (n / b) := by
  rw [dig, dif_pos ⟨hb, hn⟩]

theorem val_nil (b : Nat) : val b [] = 0 := rfl
theorem val_cons (b x : Nat) (xs : List Nat) : val b (x :: xs) = x + b * val b xs := rfl

theorem val_dig {b : Nat} (hb : 2 ≤ b) (n : Nat) : val b (dig b n) = n := by
  induction n using Nat.strongRecOn with
  | _ n ih =>
    by_cases hn : n = 0
    · subst hn; rw [dig_zero]; rfl
    · rw [dig_pos hb hn, val_cons, ih (n / b) (Nat.div_lt_self (by omega) (by omega))]
      exact Nat.mod_add_div n b

theorem dig_lt {b : Nat} (hb : 2 ≤ b) (n : Nat) : ∀ x ∈ dig b n, x < b := by
  induction n using Nat.strongRecOn with
  | _ n ih =>
    by_cases hn : n = 0
    · subst hn; rw [dig_zero]; simp
    · rw [dig_pos hb hn]
      intro x hx
      rcases List.mem_cons.1 hx with rfl | hx
      · exact Nat.mod_lt _ (by omega)
      · exact ih (n / b) (Nat.div_lt_self (by omega) (by omega)) x hx

/-- Digits that are in range and have no zero on top. -/
def Norm (b : Nat) (l : List Nat) : Prop := (∀ x ∈ l, x < b) ∧ l.getLast? ≠ some 0

theorem dig_norm {b : Nat} (hb : 2 ≤ b) (n : Nat) : Norm b (dig b n) := by
  refine ⟨dig_lt hb n, ?_⟩
  induction n using Nat.strongRecOn with
  | _ n ih =>
    by_cases hn : n = 0
    · subst hn; rw [dig_zero]; simp
    · rw [dig_pos hb hn]
      by_cases hq : n / b = 0
      · rw [hq, dig_zero]
        simp only [List.getLast?_singleton, ne_eq, Option.some.injEq]
        intro h0
        have := Nat.mod_add_div n b
        rw [h0, hq] at this
        simp at this
        exact hn this.symm
      · have h := ih (n / b) (Nat.div_lt_self (by omega) (by omega))
        rw [dig_pos hb hq] at h ⊢
        rw [List.getLast?_cons_cons]
        exact h

theorem val_pos {b : Nat} (hb : 2 ≤ b) : ∀ (l : List Nat), l ≠ [] → l.getLast? ≠ some 0 → val b l ≠ 0
  | [], h, _ => absurd rfl h
  | [x], _, h2 => by
    simp at h2
    simp [val_cons, val_nil]; exact h2
  | x :: y :: ys, _, h2 => by
    rw [List.getLast?_cons_cons] at h2
    have := val_pos hb (y :: ys) (by simp) h2
    rw [val_cons]
    have h3 : 0 < b * val b (y :: ys) := Nat.mul_pos (by omega) (by omega)
    omega

/-- A list in normal form is the canonical list of its value. -/
theorem dig_val {b : Nat} (hb : 2 ≤ b) : ∀ (l : List Nat), Norm b l → dig b (val b l) = l
  | [], _ => by rw [val_nil, dig_zero]
  | x :: xs, h => by
    have hx : x < b := h.1 x (by simp)
    have hxs : Norm b xs := ⟨fun y hy => h.1 y (by simp [hy]), by
      cases xs with
      | nil => simp
      | cons y ys => have := h.2; rwa [List.getLast?_cons_cons] at this⟩
    have hp := val_pos hb (x :: xs) (by simp) h.2
    rw [dig_pos hb hp, val_cons]
    have e1 : (x + b * val b xs) % b = x := by rw [Nat.add_mul_mod_self_left, Nat.mod_eq_of_lt hx]
    have e2 : (x + b * val b xs) / b = val b xs := by
      rw [Nat.add_mul_div_left _ _ (by omega), Nat.div_eq_of_lt hx]; omega
    rw [e1, e2, dig_val hb xs hxs]

theorem val_append (b : Nat) : ∀ (l m : List Nat), val b (l ++ m) = val b l + b ^ l.length * val b m
  | [], m => by simp [val_nil]
  | x :: xs, m => by
    rw [List.cons_append, val_cons, val_append b xs m, val_cons, List.length_cons, Nat.pow_succ]
    rw [Nat.mul_add, ← Nat.add_assoc, Nat.mul_comm (b ^ xs.length) b, Nat.mul_assoc]

theorem val_snoc (b : Nat) (l : List Nat) (x : Nat) : val b (l ++ [x]) = val b l + b ^ l.length * x := by
  rw [val_append]; simp [val_cons, val_nil]

theorem getD_get (l : List Nat) (k : Nat) (hk : k < l.length) : l.getD k 0 = l[k] := by simp [List.getD, hk]
theorem getD_past (l : List Nat) (k : Nat) (hk : l.length ≤ k) : l.getD k 0 = 0 := by simp [List.getD, hk]

theorem take_succ_getD (l : List Nat) (k : Nat) (hk : k < l.length) : l.take (k + 1) = l.take k ++ [l.getD k 0] := by
  rw [List.take_add_one, List.getElem?_eq_getElem hk, getD_get l k hk]; rfl

/-- One digit more; behind the end of the list nothing is added. -/
theorem val_take_succ (b : Nat) (l : List Nat) (k : Nat) : val b (l.take (k + 1)) = val b (l.take k) + b ^ k * l.getD k 0 := by
  by_cases hk : k < l.length
  · rw [take_succ_getD l k hk, val_snoc, List.length_take, Nat.min_eq_left (by omega)]
  · rw [List.take_of_length_le (by omega), List.take_of_length_le (by omega), getD_past l k (by omega)]; simp

theorem val_lt {b : Nat} (hb : 1 ≤ b) : ∀ (l : List Nat), (∀ x ∈ l, x < b) → val b l < b ^ l.length
  | [], _ => by simp [val_nil]
  | x :: xs, h => by
    have h1 : x < b := h x (by simp)
    have h2 := val_lt hb xs (fun y hy => h y (by simp [hy]))
    rw [val_cons, List.length_cons, Nat.pow_succ, Nat.mul_comm (b ^ xs.length)]
    calc x + b * val b xs < b + b * val b xs := by omega
      _ = b * (val b xs + 1) := by rw [Nat.mul_add, Nat.mul_one, Nat.add_comm]
      _ ≤ b * b ^ xs.length := Nat.mul_le_mul_left b h2

theorem lt_pow_dig {b : Nat} (hb : 2 ≤ b) (n : Nat) : n < b ^ (dig b n).length := by
  have := val_lt (b := b) (by omega) (dig b n) (dig_lt hb n)
  rwa [val_dig hb] at this

theorem dig_length_le {b : Nat} (hb : 2 ≤ b) : ∀ (k n : Nat), n < b ^ k → (dig b n).length ≤ k
  | 0, n, h => by
    have : n = 0 := by simp at h; exact h
    subst this; rw [dig_zero]; simp
  | k + 1, n, h => by
    by_cases hn : n = 0
    · subst hn; rw [dig_zero]; simp
    · rw [dig_pos hb hn, List.length_cons]
      have := dig_length_le hb k (n / b) (by rw [Nat.div_lt_iff_lt_mul (by omega)]; rwa [Nat.pow_succ] at h)
      omega

theorem pow_le_of_dig {b : Nat} (hb : 2 ≤ b) (n k : Nat) (h : k < (dig b n).length) : b ^ k ≤ n := by
  rcases Nat.lt_or_ge n (b ^ k) with h1 | h1
  · have := dig_length_le hb k n h1; omega
  · exact h1

theorem dig_length_mono {b : Nat} (hb : 2 ≤ b) {m n : Nat} (h : m ≤ n) : (dig b m).length ≤ (dig b n).length :=
  dig_length_le hb _ _ (Nat.lt_of_le_of_lt h (lt_pow_dig hb n))

theorem dig_eq_nil {b : Nat} (hb : 2 ≤ b) (n : Nat) : dig b n = [] ↔ n = 0 := by
  constructor
  · intro h; have := val_dig hb n; rw [h] at this; exact this.symm
  · rintro rfl; exact dig_zero b

/-- With as many digits and equal digits from k + 1 on, the digit at k decides. -/
theorem val_lt_of_top {b : Nat} (hb : 2 ≤ b) (l m : List Nat) (k : Nat) (hk : k < l.length) (hlm : l.length = m.length) (hl : ∀ x ∈ l, x < b)
    (hd : l.drop (k + 1) = m.drop (k + 1)) (h : l.getD k 0 < m.getD k 0) : val b l < val b m := by
  have e : ∀ (q : List Nat), k < q.length → val b q = val b (q.take k) + b ^ k * (q.getD k 0 + b * val b (q.drop (k + 1))) := by
    intro q hq
    have h1 : q = q.take k ++ q.drop k := (List.take_append_drop k q).symm
    have h2 : q.drop k = q.getD k 0 :: q.drop (k + 1) := by
      rw [List.drop_eq_getElem_cons hq, getD_get q k hq]
    have h3 := val_append b (q.take k) (q.drop k)
    rw [← h1, h2, val_cons, List.length_take, Nat.min_eq_left (by omega)] at h3
    exact h3
  rw [e l hk, e m (by omega), hd]
  have h4 : val b (l.take k) < b ^ k := by
    have := val_lt (b := b) (by omega) (l.take k) (fun x hx => hl x (List.mem_of_mem_take hx))
    rwa [List.length_take, Nat.min_eq_left (by omega)] at this
  calc val b (l.take k) + b ^ k * (l.getD k 0 + b * val b (m.drop (k + 1)))
      < b ^ k + b ^ k * (l.getD k 0 + b * val b (m.drop (k + 1))) := by omega
    _ = b ^ k * (l.getD k 0 + 1 + b * val b (m.drop (k + 1))) := by rw [Nat.mul_add, Nat.mul_add, Nat.mul_add, Nat.mul_one]; omega
    _ ≤ b ^ k * (m.getD k 0 + b * val b (m.drop (k + 1))) := Nat.mul_le_mul_left _ (by omega)
    _ ≤ _ := by omega

theorem val_lt_of_length {b : Nat} (hb : 2 ≤ b) (m n : Nat) (h : (dig b m).length < (dig b n).length) : m < n := by
  have h1 := lt_pow_dig hb m
  have h2 := pow_le_of_dig hb n _ h
  omega

/-- The step of adding: c is carried, s is the sum of the two digits and the carry. -/
theorem add_step (b k vo c A C x y s : Nat) (hI : vo + c * b ^ k = A + C) (hs : s = c + x + y) :
    (vo + b ^ k * (s % b)) + s / b * b ^ (k + 1) = (A + b ^ k * x) + (C + b ^ k * y) := by
  have h1 : s % b + b * (s / b) = s := Nat.mod_add_div s b
  have h2 : b ^ k * (s % b) + s / b * b ^ (k + 1) = b ^ k * s := by
    rw [Nat.pow_succ, Nat.mul_comm (s / b), Nat.mul_assoc, ← Nat.mul_add, h1]
  have h3 : b ^ k * s = c * b ^ k + b ^ k * x + b ^ k * y := by rw [hs, Nat.mul_add, Nat.mul_add, Nat.mul_comm c]
  omega

/-- The step of subtracting: r is borrowed, s the raised digit less the borrow and the other digit. -/
theorem sub_step (b k vo r A C x y s : Nat) (hI : vo + C = A + r * b ^ k) (hs : s + r + y = x + b) (hs2 : s / b ≤ 1) :
    (vo + b ^ k * (s % b)) + (C + b ^ k * y) = (A + b ^ k * x) + (1 - s / b) * b ^ (k + 1) := by
  have h1 : s % b + b * (s / b) = s := Nat.mod_add_div s b
  have h2 : b ^ k * (s % b) + s / b * b ^ (k + 1) = b ^ k * s := by
    rw [Nat.pow_succ, Nat.mul_comm (s / b), Nat.mul_assoc, ← Nat.mul_add, h1]
  have h3 : b ^ k * s + r * b ^ k + b ^ k * y = b ^ k * x + b ^ (k + 1) := by
    have : b ^ k * (s + r + y) = b ^ k * (x + b) := by rw [hs]
    rw [Nat.mul_add, Nat.mul_add, Nat.mul_add, Nat.mul_comm (b ^ k) r, ← Nat.pow_succ] at this
    omega
  have h4 : (1 - s / b) * b ^ (k + 1) + s / b * b ^ (k + 1) = b ^ (k + 1) := by
    rw [← Nat.add_mul, Nat.sub_add_cancel hs2, Nat.one_mul]
  omega

end Go.Proofs.Num
