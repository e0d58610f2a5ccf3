/- Plain facts on decimal texts: the value of digits, canonical texts, groups of digits. No program is imported. -/
import Derived.Test.YtnfmcdfdbipeoaaGreatDoorQ02
import Derived.Lib.Strings
import Derived.Lib.ItoaMem
namespace Go.Proofs.Num

theorem snocInd {α : Type} {P : List α → Prop} (h0 : P []) (h1 : ∀ l a, P l → P (l ++ [a])) (l : List α) : P l := by
  have h : ∀ m : List α, P m.reverse := by
    intro m
    induction m with
    | nil => exact h0
    | cons a m ih => rw [List.reverse_cons]; exact h1 _ _ ih
  have := h l.reverse
  rwa [List.reverse_reverse] at this

/-- The value of decimal digits. -/
def dv (l : List UInt8) : Nat := l.foldl (fun a c => 10 * a + (c.toNat - 48)) 0
theorem dv_nil : dv [] = 0 := rfl
theorem dv_snoc (l : List UInt8) (c : UInt8) : dv (l ++ [c]) = 10 * dv l + (c.toNat - 48) := by simp [dv]
def isDig (c : UInt8) : Bool := 48 ≤ c.toNat && c.toNat ≤ 57

theorem dv_append (l m : List UInt8) : dv (l ++ m) = dv l * 10 ^ m.length + dv m := by
  refine snocInd (P := fun m => dv (l ++ m) = dv l * 10 ^ m.length + dv m) (by simp [dv]) (fun m c ih => ?_) m
  rw [← List.append_assoc, dv_snoc, ih, dv_snoc, List.length_append, List.length_singleton, Nat.pow_succ, Nat.mul_add]
  have : 10 * (dv l * 10 ^ m.length) = dv l * (10 ^ m.length * 10) := by rw [Nat.mul_comm 10, Nat.mul_assoc]
  omega

theorem dig_bound {c : UInt8} (h : isDig c = true) : 48 ≤ c.toNat ∧ c.toNat ≤ 57 := by simpa [isDig] using h

theorem dv_lt (l : List UInt8) (h : ∀ c ∈ l, isDig c = true) : dv l < 10 ^ l.length := by
  refine snocInd (P := fun l => (∀ c ∈ l, isDig c = true) → dv l < 10 ^ l.length) (by simp [dv]) (fun l c ih h => ?_) l h
  have h1 := ih (fun x hx => h x (by simp [hx]))
  have h2 := dig_bound (h c (by simp))
  rw [dv_snoc, List.length_append, List.length_singleton, Nat.pow_succ]; omega

theorem ofNat_toNat' {c : UInt8} (h : isDig c = true) : UInt8.ofNat (48 + (c.toNat - 48)) = c := by
  have := dig_bound h
  rw [show 48 + (c.toNat - 48) = c.toNat by omega]
  exact UInt8.ofNat_toNat

theorem dv_pos (x : UInt8) (hx : isDig x = true) (h0 : x ≠ 48) (l : List UInt8) : 1 ≤ dv (x :: l) := by
  have h1 := dv_append [x] l
  rw [List.singleton_append] at h1
  have h2 : dv [x] = x.toNat - 48 := by simp [dv]
  have h3 := dig_bound hx
  have h4 : x.toNat ≠ 48 := fun h => h0 (UInt8.toNat_inj.1 (by rw [h]; rfl))
  have h5 : 0 < 10 ^ l.length := Nat.pow_pos (by omega)
  rw [h1, h2]
  have : 1 * 10 ^ l.length ≤ (x.toNat - 48) * 10 ^ l.length := Nat.mul_le_mul_right _ (by omega)
  omega

/-- A text of digits without a leading zero, or a single digit, is the numeral of its value. -/
theorem decDigits_dv (l : List UInt8) (hd : ∀ c ∈ l, isDig c = true) (hne : l ≠ []) (h0 : l.head? ≠ some 48 ∨ l.length = 1) : Lib.decDigits (dv l) = l := by
  refine snocInd (P := fun l => (∀ c ∈ l, isDig c = true) → l ≠ [] → (l.head? ≠ some 48 ∨ l.length = 1) → Lib.decDigits (dv l) = l) (by simp) (fun l c ih hd _ h0 => ?_) l hd hne h0
  have hc := hd c (by simp)
  have hb := dig_bound hc
  rw [dv_snoc]
  cases l with
  | nil =>
    simp only [dv_nil, Nat.mul_zero, Nat.zero_add, List.nil_append]
    rw [Lib.decDigits_one (by omega), ofNat_toNat' hc]
  | cons x xs =>
    have hx := hd x (by simp)
    have h0' : x ≠ 48 := by
      rcases h0 with h0 | h0
      · simpa using h0
      · simp at h0
    have hpos := dv_pos x hx h0' xs
    have ih' := ih (fun y hy => hd y (List.mem_append.2 (.inl hy))) (by simp) (.inl (by simpa using h0'))
    rw [Lib.decDigits, dif_neg (by omega), show (10 * dv (x :: xs) + (c.toNat - 48)) / 10 = dv (x :: xs) by omega, show (10 * dv (x :: xs) + (c.toNat - 48)) % 10 = c.toNat - 48 by omega, ih', ofNat_toNat' hc]

theorem toNat_ofNat_dig {u : Nat} (h : u < 10) : (UInt8.ofNat (48 + u)).toNat = 48 + u := by
  rw [UInt8.toNat_ofNat']; exact Nat.mod_eq_of_lt (by omega)

/-- The numeral of a number: digits, with the number as value, no leading zero. -/
theorem decDigits_facts (n : Nat) : dv (Lib.decDigits n) = n ∧ (∀ c ∈ Lib.decDigits n, isDig c = true) ∧ Lib.decDigits n ≠ [] ∧ ((Lib.decDigits n).head? ≠ some 48 ∨ (Lib.decDigits n).length = 1) := by
  induction n using Nat.strongRecOn with
  | _ n ih =>
    by_cases h : n < 10
    · rw [Lib.decDigits_one h]
      have e := toNat_ofNat_dig h
      refine ⟨by show 10 * 0 + ((UInt8.ofNat (48 + n)).toNat - 48) = n; rw [e]; omega, ?_, by simp, .inr rfl⟩
      intro c hc
      rw [List.mem_singleton.1 hc]
      simp only [isDig, e]; simp; omega
    · obtain ⟨h1, h2, h3, h4⟩ := ih (n / 10) (by omega)
      rw [Lib.decDigits, dif_neg h]
      have e := toNat_ofNat_dig (Nat.mod_lt n (show 0 < 10 by omega))
      refine ⟨by rw [dv_snoc, h1, e]; omega, ?_, by simp, .inl ?_⟩
      · intro c hc
        rcases List.mem_append.1 hc with hc | hc
        · exact h2 c hc
        · rw [List.mem_singleton.1 hc]
          simp only [isDig, e]; simp; omega
      · rcases h4 with h4 | h4
        · cases hl : Lib.decDigits (n / 10) with
          | nil => exact absurd hl h3
          | cons x xs => rw [hl] at h4; simpa using h4
        · have hlen := Lib.decDigits_length (n / 10)
          rw [h4] at hlen
          have hlt : n / 10 < 10 := by
            rcases Nat.lt_or_ge (n / 10) 10 with h5 | h5
            · exact h5
            · have := Lib.nDigits_big (show ¬ n / 10 < 10 by omega)
              have := Lib.nDigits_pos (n / 10 / 10)
              omega
          rw [Lib.decDigits_one hlt]
          simp only [List.singleton_append, List.head?_cons]
          intro h6
          have h7 := congrArg UInt8.toNat (Option.some.inj h6)
          rw [toNat_ofNat_dig hlt] at h7
          have : (48 : UInt8).toNat = 48 := rfl
          omega

/-- The number that a text stands for. -/
def parse (l : List UInt8) : Int := if Lib.hasPrefix l [45] then -((dv (l.drop 1) : Nat) : Int) else ((dv l : Nat) : Int)
/-- What remains behind a minus sign. -/
def body (l : List UInt8) : List UInt8 := Lib.trimPrefix l [45]
/-- A text of digits, one at least. -/
def okDig (l : List UInt8) : Bool := l.all isDig && !l.isEmpty
/-- The error's number of a text. -/
def chk (l : List UInt8) : Nat :=
  if okDig (body l) = false ∨ ((body l).head? = some 48 ∧ l ≠ [48]) then 3 else if 1024 < (body l).length then 11 else 0

theorem hasPrefix_one (l : List UInt8) (c : UInt8) : Lib.hasPrefix l [c] = (l.head? == some c) := by
  cases l with
  | nil => rfl
  | cons x xs => simp only [Lib.hasPrefix, List.isPrefixOf, Bool.and_true, List.head?_cons, Option.some_beq_some]; exact BEq.comm

theorem body_minus (l : List UInt8) : body (45 :: l) = l := by simp [body, Lib.trimPrefix, hasPrefix_one]
theorem body_other {l : List UInt8} (h : l.head? ≠ some 45) : body l = l := by
  unfold body Lib.trimPrefix; rw [hasPrefix_one]; simp [h]

/-- A text with a canonical form is that of its number. -/
theorem itoa_parse {l : List UInt8} (h1 : okDig (body l) = true) (h2 : ¬((body l).head? = some 48 ∧ l ≠ [48])) : Lib.itoa (parse l) = l := by
  unfold okDig at h1
  simp only [Bool.and_eq_true, List.all_eq_true, Bool.not_eq_true', List.isEmpty_eq_false_iff] at h1
  by_cases hm : l.head? = some 45
  · obtain ⟨m, rfl⟩ : ∃ m, l = 45 :: m := by
      cases l with
      | nil => simp at hm
      | cons x xs => exact ⟨xs, by simp at hm; rw [hm]⟩
    rw [body_minus] at h1 h2
    have h48 : m.head? ≠ some 48 := fun h => h2 ⟨h, by simp⟩
    unfold parse
    rw [hasPrefix_one]
    simp only [List.head?_cons, BEq.rfl, if_true, List.drop_succ_cons, List.drop_zero]
    have hpos : 1 ≤ dv m := by
      cases m with
      | nil => exact absurd rfl h1.2
      | cons x xs => exact dv_pos x (h1.1 x (by simp)) (by simpa using h48) xs
    rw [Lib.itoa_neg _ hpos, decDigits_dv m h1.1 h1.2 (.inl h48)]
  · rw [body_other hm] at h1 h2
    unfold parse
    rw [hasPrefix_one, show (l.head? == some 45) = false by simpa using hm]
    simp only [Bool.false_eq_true, if_false]
    rw [Lib.itoa_nonneg, decDigits_dv l h1.1 h1.2]
    by_cases h48 : l.head? = some 48
    · right
      have : l = [48] := by
        apply Classical.byContradiction; intro h; exact h2 ⟨h48, h⟩
      rw [this]; rfl
    · exact .inl h48

theorem itoa_body (z : Int) : body (Lib.itoa z) = Lib.decDigits z.natAbs := by
  unfold Lib.itoa
  by_cases h : z < 0
  · rw [if_pos h, body_minus]
  · rw [if_neg h, show z.toNat = z.natAbs by omega]
    obtain ⟨_, h2, h3, _⟩ := decDigits_facts z.natAbs
    refine body_other ?_
    cases hl : Lib.decDigits z.natAbs with
    | nil => simp
    | cons x xs =>
      have := h2 x (by rw [hl]; simp)
      intro h4
      simp at h4
      subst h4
      simp [isDig] at this

theorem parse_itoa (z : Int) : parse (Lib.itoa z) = z := by
  unfold parse
  have hb := itoa_body z
  obtain ⟨h1, h2, h3, _⟩ := decDigits_facts z.natAbs
  by_cases h : z < 0
  · unfold Lib.itoa
    rw [if_pos h, hasPrefix_one]
    simp only [List.head?_cons, BEq.rfl, if_true, List.drop_succ_cons, List.drop_zero]
    rw [h1]; omega
  · have hi : Lib.itoa z = Lib.decDigits z.natAbs := by unfold Lib.itoa; rw [if_neg h, show z.toNat = z.natAbs by omega]
    rw [hi] at hb ⊢
    have hh : Lib.hasPrefix (Lib.decDigits z.natAbs) [45] = false := by
      cases hl : Lib.decDigits z.natAbs with
      | nil => exact absurd hl h3
      | cons x xs =>
        have := h2 x (by rw [hl]; simp)
        rw [hasPrefix_one]
        simp only [List.head?_cons, beq_eq_false_iff_ne, ne_eq, Option.some.injEq]
        rintro rfl
        simp [isDig] at this
    rw [hh]
    simp only [Bool.false_eq_true, if_false]
    rw [h1]; omega

theorem chk_itoa (z : Int) : chk (Lib.itoa z) = if 1024 < Lib.nDigits z.natAbs then 11 else 0 := by
  unfold chk
  rw [itoa_body, Lib.decDigits_length]
  obtain ⟨h1, h2, h3, h4⟩ := decDigits_facts z.natAbs
  have hok : okDig (Lib.decDigits z.natAbs) = true := by
    unfold okDig
    simp only [Bool.and_eq_true, List.all_eq_true, Bool.not_eq_true', List.isEmpty_eq_false_iff]
    exact ⟨h2, h3⟩
  rw [if_neg]
  rintro (h | ⟨h5, h6⟩)
  · rw [hok] at h; cases h
  · rcases h4 with h4 | h4
    · exact h4 h5
    · have hd : Lib.decDigits z.natAbs = [48] := by
        cases hl : Lib.decDigits z.natAbs with
        | nil => exact absurd hl h3
        | cons x xs =>
          rw [hl] at h4 h5
          simp at h4 h5
          rw [h4, h5]
      have hz : z.natAbs = 0 := by rw [← h1, hd]; rfl
      have hz' : z = 0 := by omega
      subst hz'
      exact h6 (by rw [show Lib.itoa 0 = Lib.decDigits 0 from Lib.itoa_nonneg 0, Lib.decDigits_one (by omega)]; rfl)

theorem chk_ok {l : List UInt8} (h : chk l ≠ 3) : Lib.itoa (parse l) = l ∧ chk l = (if 1024 < Lib.nDigits (parse l).natAbs then 11 else 0) := by
  have h1 : ¬ (okDig (body l) = false ∨ ((body l).head? = some 48 ∧ l ≠ [48])) := by
    intro hh; unfold chk at h; rw [if_pos hh] at h; exact h rfl
  have h2 := itoa_parse (l := l) (by simpa using fun hh => h1 (.inl hh)) (fun hh => h1 (.inr hh))
  have h3 := chk_itoa (parse l)
  rw [h2] at h3
  exact ⟨h2, h3⟩

/-- The last k digits of a number, with leading zeros. -/
def padk : Nat → Nat → List UInt8
  | 0, _ => []
  | k + 1, b => padk k (b / 10) ++ [UInt8.ofNat (48 + b % 10)]
theorem padk_length : ∀ k b, (padk k b).length = k
  | 0, _ => rfl
  | k + 1, b => by rw [padk, List.length_append, padk_length k]; rfl

theorem decDigits_pad : ∀ (k a b : Nat), 0 < a → b < 10 ^ k → Lib.decDigits (10 ^ k * a + b) = Lib.decDigits a ++ padk k b
  | 0, a, b, _, hb => by
    have : b = 0 := by simpa using hb
    subst this; simp [padk]
  | k + 1, a, b, ha, hb => by
    have hpos : 0 < 10 ^ k := Nat.pow_pos (by omega)
    have h1 : 10 ^ (k + 1) * a = 10 * (10 ^ k * a) := by rw [Nat.pow_succ, Nat.mul_comm (10 ^ k) 10, Nat.mul_assoc]
    have h2 : 1 * 1 ≤ 10 ^ k * a := Nat.mul_le_mul hpos ha
    rw [Nat.pow_succ] at hb
    rw [h1, Lib.decDigits, dif_neg (by omega), show (10 * (10 ^ k * a) + b) / 10 = 10 ^ k * a + b / 10 by omega, show (10 * (10 ^ k * a) + b) % 10 = b % 10 by omega,
      decDigits_pad k a (b / 10) ha (by omega), padk, List.append_assoc]

/-- The first i of nine digits. -/
def padT (b i : Nat) : List UInt8 := (List.range i).map fun j => UInt8.ofNat (48 + b / 10 ^ (8 - j) % 10)
theorem padT_succ (b i : Nat) : padT b (i + 1) = padT b i ++ [UInt8.ofNat (48 + b / 10 ^ (8 - i) % 10)] := by simp [padT, List.range_succ]
theorem padT_length (b i : Nat) : (padT b i).length = i := by simp [padT]
theorem padk_eq : ∀ (k b : Nat), padk k b = (List.range k).map fun j => UInt8.ofNat (48 + b / 10 ^ (k - 1 - j) % 10)
  | 0, _ => rfl
  | k + 1, b => by
    rw [padk, padk_eq k (b / 10), List.range_succ, List.map_append]
    congr 1
    · refine List.map_congr_left fun j hj => ?_
      have hj' : j < k := List.mem_range.1 hj
      rw [Nat.div_div_eq_div_mul, ← Nat.pow_succ', show k + 1 - 1 - j = (k - 1 - j) + 1 by omega]
    · simp
theorem padT_nine (b : Nat) : padT b 9 = padk 9 b := (padk_eq 9 b).symm

/-- The digits of groups, the highest group first. -/
def padAll : List Nat → List UInt8
  | [] => []
  | x :: xs => padAll xs ++ padk 9 x
theorem padAll_length : ∀ l, (padAll l).length = 9 * l.length
  | [] => rfl
  | x :: xs => by rw [padAll, List.length_append, padAll_length xs, padk_length, List.length_cons]; omega

theorem decDigits_val : ∀ (l : List Nat) (t : Nat), (∀ x ∈ l, x < 1000000000) → 0 < t → Lib.decDigits (val 1000000000 (l ++ [t])) = Lib.decDigits t ++ padAll l
  | [], t, _, _ => by simp [val_cons, val_nil, padAll]
  | x :: xs, t, h, ht => by
    have ih := decDigits_val xs t (fun y hy => h y (by simp [hy])) ht
    have hv : 0 < val 1000000000 (xs ++ [t]) := by
      rw [val_snoc]
      have : 1 * 1 ≤ 1000000000 ^ xs.length * t := Nat.mul_le_mul (Nat.pow_pos (by omega)) ht
      omega
    rw [List.cons_append, val_cons, padAll, ← List.append_assoc, ← ih, Nat.add_comm]
    exact decDigits_pad 9 _ x hv (h x (by simp))
end Go.Proofs.Num
