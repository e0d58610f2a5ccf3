/- Plain arithmetic of long division, word by word: the guess, taking away, adding back, one step, the end. And: Walks of the words' functions: the guess of long division; and: Walks of the words' functions: taking away and adding back in long division. -/
import Derived.Test.YtnfmcdfdbipeoaaGreatDoorQ08
namespace Go.Proofs.YtnfmcdfdbipeoaaGreatDoor
open Go.RowKit Go.Proofs.Num

/-! ### The guess -/
theorem guess_go {B v1 v2 w2 t word rest q : Nat} (hr : word * v1 + rest = t) (hc : B ≤ word ∨ rest * B + w2 < word * v2) (hq : q < B) (hT : q * (v1 * B + v2) ≤ t * B + w2) : q + 1 ≤ word := by
  rcases hc with hc | hc
  · omega
  · apply Classical.byContradiction
    intro hn
    have h1 : word * (v1 * B + v2) ≤ q * (v1 * B + v2) := Nat.mul_le_mul_right _ (by omega)
    have h2 : word * (v1 * B + v2) = word * v1 * B + word * v2 := by rw [Nat.mul_add, ← Nat.mul_assoc]
    have h3 : t * B = word * v1 * B + rest * B := by rw [← hr, Nat.add_mul]
    omega

theorem guess_stop {B v1 v2 w2 t word rest : Nat} (hr : word * v1 + rest = t) (hs : B ≤ rest ∨ (word < B ∧ word * v2 ≤ rest * B + w2)) (ht : t < (v1 + 1) * B) (hv2 : v2 < B) :
    word < B ∧ word * (v1 * B + v2) ≤ t * B + w2 := by
  have h2 : word * (v1 * B + v2) = word * v1 * B + word * v2 := by rw [Nat.mul_add, ← Nat.mul_assoc]
  have h3 : t * B = word * v1 * B + rest * B := by rw [← hr, Nat.add_mul]
  rcases hs with hs | ⟨h1, h4⟩
  · have hw : word < B := by
      apply Classical.byContradiction
      intro hn
      have : B * v1 ≤ word * v1 := Nat.mul_le_mul_right _ (by omega)
      rw [Nat.add_mul, Nat.one_mul, Nat.mul_comm v1 B] at ht
      omega
    have h5 : word * v2 ≤ B * B := Nat.mul_le_mul (by omega) (by omega)
    have h6 : B * B ≤ rest * B := Nat.mul_le_mul_right _ hs
    exact ⟨hw, by omega⟩
  · exact ⟨h1, by omega⟩

theorem guess_near {P V V2 T C word : Nat} (hV : V < (V2 + 1) * C) (hP : T * C ≤ P) (hw : word * V2 ≤ T) (hle : word ≤ V2 + 1) (hV0 : 0 < V) : word ≤ P / V + 1 := by
  cases word with
  | zero => exact Nat.zero_le _
  | succ u =>
    have h1 : u ≤ P / V := by
      rw [Nat.le_div_iff_mul_le hV0]
      have h2 : u * V ≤ u * ((V2 + 1) * C) := Nat.mul_le_mul_left _ (by omega)
      have h3 : u * ((V2 + 1) * C) = (u * V2 + u) * C := by rw [← Nat.mul_assoc, Nat.mul_add, Nat.mul_one]
      have h4 : (u * V2 + u) * C ≤ T * C := Nat.mul_le_mul_right _ (by rw [Nat.add_mul] at hw; omega)
      omega
    omega

theorem guess_q {P V V2 T C : Nat} (hV : V2 * C ≤ V) (hP : P < (T + 1) * C) : P / V * V2 ≤ T := by
  have h1 : P / V * V ≤ P := Nat.div_mul_le_self P V
  have h2 : P / V * (V2 * C) ≤ P / V * V := Nat.mul_le_mul_left _ hV
  rw [← Nat.mul_assoc] at h2
  have h3 : P / V * V2 * C < (T + 1) * C := by omega
  have := Nat.lt_of_mul_lt_mul_right h3
  omega

theorem val_top2 (b : Nat) (l : List Nat) (n : Nat) (h : l.length = n + 2) : val b l = val b (l.take n) + b ^ n * (nth l (n + 1) * b + nth l n) := by
  have h1 := val_take_nth b l n
  have h2 := val_take_nth b l (n + 1)
  rw [show n + 1 + 1 = l.length by omega, List.take_length] at h2
  rw [h2, h1, Nat.pow_succ, Nat.mul_add, Nat.mul_assoc, Nat.mul_comm b]
  omega

theorem val_top3 (b : Nat) (l : List Nat) (n : Nat) (h : l.length = n + 3) : val b l = val b (l.take n) + b ^ n * ((nth l (n + 2) * b + nth l (n + 1)) * b + nth l n) := by
  have h1 := val_take_nth b l n
  have h2 : val b (l.take (n + 2)) = val b (l.take (n + 1)) + b ^ (n + 1) * nth l (n + 1) := val_take_nth b l (n + 1)
  have h3 : val b l = val b (l.take (n + 2)) + b ^ (n + 2) * nth l (n + 2) := by
    have h4 := val_take_nth b l (n + 2)
    rwa [List.take_of_length_le (show l.length ≤ n + 2 + 1 by omega)] at h4
  rw [show b ^ (n + 1) = b ^ n * b from by rw [Nat.pow_succ]] at h2
  rw [show b ^ (n + 2) = b ^ n * b * b from by rw [Nat.pow_succ, Nat.pow_succ]] at h3
  have e : b ^ n * ((nth l (n + 2) * b + nth l (n + 1)) * b + nth l n) = b ^ n * b * b * nth l (n + 2) + b ^ n * b * nth l (n + 1) + b ^ n * nth l n := by
    rw [Nat.mul_add, Nat.add_mul, Nat.mul_add]
    simp only [Nat.mul_assoc, Nat.mul_comm, Nat.mul_left_comm]
  rw [e, h3, h2, h1]; omega

theorem val_take_lt {b : Nat} (hb : 1 ≤ b) (l : List Nat) (h : ∀ x ∈ l, x < b) (k : Nat) (hk : k ≤ l.length) : val b (l.take k) < b ^ k := by
  have := val_lt hb (l.take k) (fun x hx => h x (List.mem_of_mem_take hx))
  rwa [List.length_take, Nat.min_eq_left hk] at this

/-- What the guess rests on: p is a word longer than v, whose highest word is large, and less than v times the base. -/
structure Gs (m : Nat) (v p : List Nat) : Prop where
  lv : v.length = m + 2
  lp : p.length = m + 3
  bv : ∀ x ∈ v, x < 1000000000
  bp : ∀ x ∈ p, x < 1000000000
  top : 500000000 ≤ nth v (m + 1)
  lt : val 1000000000 p < val 1000000000 v * 1000000000

theorem gs_core {B C v1 v2 p1 p2 p3 vr pr V P V2 T : Nat} (hC : 0 < C) (hv : V = vr + C * V2) (hp : P = pr + C * T) (hv1 : vr < C) (hp1 : pr < C) (e2 : V2 = v1 * B + v2) (eT : T = (p3 * B + p2) * B + p1)
    (b0 : p2 < B) (b2 : v2 < B) (htop : 1 ≤ v1) (hlt : P < V * B) :
    0 < V ∧ P / V < B ∧ p3 ≤ v1 ∧ p3 * B + p2 < (v1 + 1) * B ∧ P / V * V2 ≤ T ∧ ∀ word, word < B → word * V2 ≤ T → word ≤ P / V + 1 := by
  have hBV : B ≤ V2 := by
    have : 1 * B ≤ v1 * B := Nat.mul_le_mul_right _ htop
    omega
  have hV2 : C * V2 ≤ V := by rw [hv]; exact Nat.le_add_left _ _
  have hV2' : V < (V2 + 1) * C := by rw [hv, Nat.add_mul, Nat.one_mul, Nat.mul_comm C]; omega
  have hT : C * T ≤ P := by rw [hp]; exact Nat.le_add_left _ _
  have hT' : P < (T + 1) * C := by rw [hp, Nat.add_mul, Nat.one_mul, Nat.mul_comm C]; omega
  have hV0 : 0 < V := Nat.lt_of_lt_of_le (Nat.mul_pos hC (show 0 < V2 by omega)) hV2
  have hp3 : p3 ≤ v1 := by
    apply Classical.byContradiction
    intro hn
    have h00 : V2 + 1 ≤ (v1 + 1) * B := by rw [Nat.add_mul, Nat.one_mul]; omega
    have h01 : (v1 + 1) * B ≤ p3 * B := Nat.mul_le_mul_right _ (by omega)
    have h02 : (V2 + 1) * B ≤ (p3 * B + p2) * B := Nat.mul_le_mul_right _ (by omega)
    have h0 : (V2 + 1) * B ≤ T := by omega
    have h1 : C * ((V2 + 1) * B) ≤ C * T := Nat.mul_le_mul_left _ h0
    have h2 : V * B ≤ C * ((V2 + 1) * B) := by
      rw [← Nat.mul_assoc, Nat.mul_comm C]; exact Nat.mul_le_mul_right _ (Nat.le_of_lt hV2')
    exact absurd hlt (Nat.not_lt.2 (Nat.le_trans h2 (Nat.le_trans h1 hT)))
  have h4 : p3 * B ≤ v1 * B := Nat.mul_le_mul_right _ hp3
  refine ⟨hV0, Nat.div_lt_of_lt_mul hlt, hp3, by rw [Nat.add_mul, Nat.one_mul]; omega, guess_q (by rw [Nat.mul_comm]; exact hV2) hT', fun word hw hle => ?_⟩
  exact guess_near hV2' (by rw [Nat.mul_comm]; exact hT) hle (by omega) hV0

theorem Gs.facts {m : Nat} {v p : List Nat} (h : Gs m v p) :
    0 < val 1000000000 v ∧ val 1000000000 p / val 1000000000 v < 1000000000 ∧
    nth p (m + 2) ≤ nth v (m + 1) ∧ nth p (m + 2) * 1000000000 + nth p (m + 1) < (nth v (m + 1) + 1) * 1000000000 ∧
    val 1000000000 p / val 1000000000 v * (nth v (m + 1) * 1000000000 + nth v m) ≤ (nth p (m + 2) * 1000000000 + nth p (m + 1)) * 1000000000 + nth p m ∧
    ∀ word, word < 1000000000 → word * (nth v (m + 1) * 1000000000 + nth v m) ≤ (nth p (m + 2) * 1000000000 + nth p (m + 1)) * 1000000000 + nth p m → word ≤ val 1000000000 p / val 1000000000 v + 1 :=
  gs_core (Nat.pow_pos (by omega)) (val_top2 1000000000 v m h.lv) (val_top3 1000000000 p m h.lp)
    (val_take_lt (b := 1000000000) (by omega) v h.bv m (by rw [h.lv]; omega)) (val_take_lt (b := 1000000000) (by omega) p h.bp m (by rw [h.lp]; omega)) rfl rfl
    (nth_lt (b := 1000000000) (by omega) p h.bp (m + 1)) (nth_lt (b := 1000000000) (by omega) v h.bv m) (Nat.le_trans (by omega) h.top) h.lt

theorem guess_first {q v1 v2 t w2 : Nat} (hv : 0 < v1) (h : q * (v1 * 1000000000 + v2) ≤ t * 1000000000 + w2) (hw : w2 < 1000000000) : q ≤ t / v1 := by
  rw [Nat.le_div_iff_mul_le hv]
  have e1 : q * (v1 * 1000000000 + v2) = q * v1 * 1000000000 + q * v2 := by rw [Nat.mul_add, ← Nat.mul_assoc]
  rw [e1] at h
  generalize q * v1 = x at *
  generalize q * v2 = y at *
  omega

theorem guess_le' {t v1 B H : Nat} (h : t < (v1 + 1) * B) (hv : H ≤ v1) (hB : B ≤ 2 * H) : t / v1 < B + 2 := by
  apply Nat.div_lt_of_lt_mul
  rw [Nat.add_mul, Nat.one_mul] at h
  rw [Nat.mul_add]
  omega
theorem guess_le {t v1 : Nat} (h : t < (v1 + 1) * 1000000000) (hv : 500000000 ≤ v1) : t / v1 ≤ 1000000001 :=
  Nat.le_of_lt_succ (guess_le' h hv (by omega))

/-- The state of the guess's loop. -/
def GuI (m : Nat) (v p : List Nat) (word rest : Nat) : Prop :=
  word * nth v (m + 1) + rest = nth p (m + 2) * 1000000000 + nth p (m + 1) ∧ val 1000000000 p / val 1000000000 v ≤ word ∧ word ≤ 1000000001 ∧ rest ≤ 2000000000

theorem guI_zero {m : Nat} {v p : List Nat} (h : Gs m v p) : GuI m v p ((nth p (m + 2) * 1000000000 + nth p (m + 1)) / nth v (m + 1)) ((nth p (m + 2) * 1000000000 + nth p (m + 1)) % nth v (m + 1)) := by
  obtain ⟨h0, h1, h2, h3, h4, h5⟩ := h.facts
  have b2 := nth_lt (b := 1000000000) (by omega) v h.bv (m + 1)
  have b6 := nth_lt (b := 1000000000) (by omega) p h.bp m
  have ht := h.top
  have hp : 0 < nth v (m + 1) := Nat.lt_of_lt_of_le (by omega) ht
  refine ⟨by rw [Nat.mul_comm, Nat.add_comm]; exact Nat.mod_add_div _ _, guess_first hp h4 b6, guess_le h3 ht, ?_⟩
  have hm := Nat.mod_lt (nth p (m + 2) * 1000000000 + nth p (m + 1)) hp
  clear h4 h5 h1
  exact Nat.le_trans (Nat.le_of_lt hm) (by omega)

theorem guI_step {m : Nat} {v p : List Nat} {word rest : Nat} (h : Gs m v p) (hI : GuI m v p word rest) (h1 : rest < 1000000000) (hc : 1000000000 ≤ word ∨ rest * 1000000000 + nth p m < word * nth v m) :
    1 ≤ word ∧ GuI m v p (word - 1) (rest + nth v (m + 1)) := by
  obtain ⟨f0, f1, f2, f3, f4, f5⟩ := h.facts
  obtain ⟨g1, g2, g3, g4⟩ := hI
  have hg := guess_go g1 hc f1 f4
  have b2 := nth_lt (b := 1000000000) (by omega) v h.bv (m + 1)
  unfold GuI
  generalize val 1000000000 p / val 1000000000 v = q at *
  clear hc
  refine ⟨by omega, ?_, by omega, by omega, by omega⟩
  obtain ⟨u, rfl⟩ : ∃ u, word = u + 1 := ⟨word - 1, by omega⟩
  rw [Nat.add_mul] at g1
  simp only [Nat.add_sub_cancel]
  omega

theorem guI_end {m : Nat} {v p : List Nat} {word rest : Nat} (h : Gs m v p) (hI : GuI m v p word rest) (hs : 1000000000 ≤ rest ∨ (word < 1000000000 ∧ word * nth v m ≤ rest * 1000000000 + nth p m)) :
    word < 1000000000 ∧ val 1000000000 p / val 1000000000 v ≤ word ∧ word ≤ val 1000000000 p / val 1000000000 v + 1 := by
  obtain ⟨f0, f1, f2, f3, f4, f5⟩ := h.facts
  obtain ⟨g1, g2, g3, g4⟩ := hI
  obtain ⟨e1, e2⟩ := guess_stop g1 hs f3 (nth_lt (b := 1000000000) (by omega) v h.bv m)
  exact ⟨e1, g2, f5 word e1 e2⟩

/-! ### Taking away, adding back -/
/-- k words are done: c is carried, r borrowed. -/
def RedI (p v : List Nat) (word k c r : Nat) (o : List Nat) : Prop :=
  o.length = p.length ∧ (∀ x ∈ o, x < 1000000000) ∧ c < 1000000000 ∧ r ≤ 1 ∧ (v.length < k → c = 0) ∧
  val 1000000000 (o.take k) + word * val 1000000000 (v.take k) = val 1000000000 (p.take k) + (r + c) * 1000000000 ^ k ∧ ∀ t, k ≤ t → nth o t = nth p t

theorem redI_zero (p v : List Nat) (word : Nat) (hp : ∀ x ∈ p, x < 1000000000) : RedI p v word 0 0 0 p :=
  ⟨rfl, hp, by omega, by omega, fun _ => rfl, by simp [val_nil], fun _ _ => rfl⟩

theorem take_set_same (o : List Nat) (k x : Nat) : (o.set k x).take k = o.take k := by
  rw [List.take_set]
  exact List.set_eq_of_length_le (by rw [List.length_take]; exact Nat.min_le_left _ _)

theorem redI_step {p v : List Nat} {word k c r : Nat} {o : List Nat} (h : RedI p v word k c r o) (hv : ∀ x ∈ v, x < 1000000000) (hp : ∀ x ∈ p, x < 1000000000) (hw : word < 1000000000) (hk : k < p.length) :
    RedI p v word (k + 1) ((c + nth v k * word) / 1000000000) (1 - (nth p k + 1000000000 - (c + nth v k * word) % 1000000000 - r) / 1000000000) (o.set k ((nth p k + 1000000000 - (c + nth v k * word) % 1000000000 - r) % 1000000000)) := by
  obtain ⟨h1, h2, h3, h4, h5, h6, h7⟩ := h
  have hx := nth_lt (b := 1000000000) (by omega) v hv k
  have hy := nth_lt (b := 1000000000) (by omega) p hp k
  have hb := mul_bound _ _ hx hw
  refine ⟨by simp [h1], mem_set_lt h2 (Nat.mod_lt _ (by omega)), by omega, by omega, ?_, ?_, ?_⟩
  · intro hk2
    rw [nth_past v k (by omega)]
    simp only [Nat.zero_mul, Nat.add_zero]
    exact Nat.div_eq_of_lt h3
  · rw [val_take_nth, nth_set_same _ _ _ (by omega), take_set_same, val_take_nth, val_take_nth, Nat.mul_add]
    have e1 : word * (1000000000 ^ k * nth v k) = 1000000000 ^ k * (nth v k * word) := by simp only [Nat.mul_comm, Nat.mul_left_comm]
    rw [e1]
    generalize nth v k * word = z at *
    generalize nth p k = y at *
    have hs : (y + 1000000000 - (c + z) % 1000000000 - r) % 1000000000 + z + c + r = y + 1000000000 * (1 - (y + 1000000000 - (c + z) % 1000000000 - r) / 1000000000 + (c + z) / 1000000000) := by omega
    have hm : 1000000000 ^ k * ((y + 1000000000 - (c + z) % 1000000000 - r) % 1000000000 + z + c + r) = 1000000000 ^ k * (y + 1000000000 * (1 - (y + 1000000000 - (c + z) % 1000000000 - r) / 1000000000 + (c + z) / 1000000000)) := by rw [hs]
    rw [Nat.mul_add, Nat.mul_add, Nat.mul_add, Nat.mul_add, ← Nat.mul_assoc, ← Nat.pow_succ, Nat.mul_comm (1000000000 ^ (k + 1))] at hm
    have h6' := h6
    rw [Nat.add_mul] at h6'
    rw [Nat.mul_comm (1000000000 ^ k) c, Nat.mul_comm (1000000000 ^ k) r] at hm
    omega
  · intro t ht
    rw [nth_set_other _ _ _ _ (by omega)]
    exact h7 t (by omega)

theorem nth_ext {l m : List Nat} (hl : l.length = m.length) (k : Nat) (h : ∀ t, k ≤ t → nth l t = nth m t) : l.drop k = m.drop k := by
  apply List.ext_getElem
  · simp [hl]
  · intro i h1 h2
    have := h (k + i) (by omega)
    simp only [List.length_drop] at h1 h2
    unfold nth at this
    rw [getD_get _ _ (by omega), getD_get _ _ (by omega)] at this
    simpa using this

/-- n words more than v has are done. -/
theorem redI_end {p v : List Nat} {word c r : Nat} {o : List Nat} (h : RedI p v word (v.length + 1) c r o) :
    c = 0 ∧ val 1000000000 (o.take (v.length + 1)) + word * val 1000000000 v = val 1000000000 (p.take (v.length + 1)) + r * 1000000000 ^ (v.length + 1) ∧ o.drop (v.length + 1) = p.drop (v.length + 1) := by
  obtain ⟨h1, h2, h3, h4, h5, h6, h7⟩ := h
  obtain rfl := h5 (by omega)
  rw [List.take_of_length_le (show v.length ≤ v.length + 1 by omega)] at h6
  exact ⟨rfl, by simpa using h6, nth_ext h1 _ h7⟩

/-- k words are added back. -/
def RstI (p v : List Nat) (k c : Nat) (o : List Nat) : Prop :=
  o.length = p.length ∧ (∀ x ∈ o, x < 1000000000) ∧ c ≤ 1 ∧ val 1000000000 (o.take k) + c * 1000000000 ^ k = val 1000000000 (p.take k) + val 1000000000 (v.take k) ∧ ∀ t, k ≤ t → nth o t = nth p t

theorem rstI_zero (p v : List Nat) (hp : ∀ x ∈ p, x < 1000000000) : RstI p v 0 0 p :=
  ⟨rfl, hp, by omega, by simp [val_nil], fun _ _ => rfl⟩

theorem rstI_step {p v : List Nat} {k c : Nat} {o : List Nat} (h : RstI p v k c o) (hv : ∀ x ∈ v, x < 1000000000) (hp : ∀ x ∈ p, x < 1000000000) (hk : k < p.length) :
    RstI p v (k + 1) ((c + nth v k + nth p k) / 1000000000) (o.set k ((c + nth v k + nth p k) % 1000000000)) := by
  obtain ⟨h1, h2, h3, h6, h7⟩ := h
  have hx := nth_lt (b := 1000000000) (by omega) v hv k
  have hy := nth_lt (b := 1000000000) (by omega) p hp k
  refine ⟨by simp [h1], mem_set_lt h2 (Nat.mod_lt _ (by omega)), by omega, ?_, ?_⟩
  · rw [val_take_nth, nth_set_same _ _ _ (by omega), take_set_same, val_take_nth, val_take_nth]
    exact add_step 1000000000 k _ c _ _ _ _ _ h6 (by omega)
  · intro t ht
    rw [nth_set_other _ _ _ _ (by omega)]
    exact h7 t (by omega)

theorem rstI_end {p v : List Nat} {c : Nat} {o : List Nat} (h : RstI p v (v.length + 1) c o) :
    val 1000000000 (o.take (v.length + 1)) + c * 1000000000 ^ (v.length + 1) = val 1000000000 (p.take (v.length + 1)) + val 1000000000 v ∧ o.drop (v.length + 1) = p.drop (v.length + 1) := by
  obtain ⟨h1, h2, h3, h6, h7⟩ := h
  rw [List.take_of_length_le (show v.length ≤ v.length + 1 by omega)] at h6
  exact ⟨h6, nth_ext h1 _ h7⟩

/-- Nothing was borrowed: the guess was right. -/
theorem step_right {P V word x : Nat} (hV : 0 < V) (h : x + word * V = P) (hq : P / V ≤ word) : word = P / V ∧ x = P % V := by
  have h1 : word ≤ P / V := by rw [Nat.le_div_iff_mul_le hV]; omega
  have h2 : word = P / V := by omega
  have h3 := Nat.mod_add_div P V
  rw [h2, Nat.mul_comm] at h
  exact ⟨h2, by omega⟩

/-- Something was borrowed: the guess was 1 too large, and V is added back. -/
theorem step_wrong {P V word x y c M : Nat} (hV : 0 < V) (h : x + word * V = P + M) (hx : x < M) (hy : y < M) (hc : c ≤ 1) (hr : y + c * M = x + V) (hq1 : word ≤ P / V + 1) : word = P / V + 1 ∧ y = P % V := by
  have h1 : ¬ word ≤ P / V := by
    intro hle
    have h2 : word * V ≤ P / V * V := Nat.mul_le_mul_right _ hle
    have h3 : P / V * V ≤ P := Nat.div_mul_le_self P V
    omega
  have h2 : word = P / V + 1 := by omega
  have h3 := Nat.mod_add_div P V
  have h4 := Nat.mod_lt P hV
  rw [h2, Nat.add_mul, Nat.mul_comm (P / V)] at h
  refine ⟨h2, ?_⟩
  rcases (show c = 0 ∨ c = 1 by omega) with rfl | rfl <;> omega

/-! ### The loop of the long division -/
theorem val_take_of_lt {b : Nat} (l : List Nat) (k : Nat) (h : val b l < b ^ k) (hk : k ≤ l.length) : val b (l.take k) = val b l ∧ val b (l.drop k) = 0 := by
  have h1 := val_append b (l.take k) (l.drop k)
  rw [List.take_append_drop, List.length_take, Nat.min_eq_left hk] at h1
  have h2 : val b (l.drop k) = 0 := by
    apply Classical.byContradiction
    intro hn
    have : b ^ k * 1 ≤ b ^ k * val b (l.drop k) := Nat.mul_le_mul_left _ (by omega)
    omega
  rw [h2] at h1
  exact ⟨by omega, h2⟩

/-- j places are still to be done; R holds the rest, Q the quotient. -/
structure LngI (v : List Nat) (W L j : Nat) (R Q : List Nat) : Prop where
  lr : R.length = v.length + L
  lq : Q.length = L
  br : ∀ x ∈ R, x < 1000000000
  bq : ∀ x ∈ Q, x < 1000000000
  lt : val 1000000000 (R.drop j) < val 1000000000 v
  sum : val 1000000000 R + val 1000000000 v * (1000000000 ^ j * val 1000000000 (Q.drop j)) = W

/-- The part of a step is less than v times the base; behind it only zeros lie. -/
theorem LngI.part {v : List Nat} {W L i : Nat} {R Q : List Nat} (h : LngI v W L (i + 1) R Q) (hv : ∀ x ∈ v, x < 1000000000) (hi : i < L) :
    val 1000000000 ((R.drop i).take (v.length + 1)) = val 1000000000 (R.drop i) ∧ val 1000000000 (R.drop i) < val 1000000000 v * 1000000000 ∧ val 1000000000 ((R.drop i).drop (v.length + 1)) = 0 := by
  have h1 := val_drop 1000000000 R i (by rw [h.lr]; omega)
  have h2 := h.lt
  have h3 := nth_lt (b := 1000000000) (by omega) R h.br i
  have h4 : val 1000000000 (R.drop i) < val 1000000000 v * 1000000000 := by omega
  have h5 := val_lt (b := 1000000000) (by omega) v hv
  have h6 : val 1000000000 (R.drop i) < 1000000000 ^ (v.length + 1) := by
    rw [Nat.pow_succ]
    exact Nat.lt_of_lt_of_le h4 (Nat.mul_le_mul_right _ (Nat.le_of_lt h5))
  obtain ⟨h7, h8⟩ := val_take_of_lt (b := 1000000000) (R.drop i) (v.length + 1) h6 (by rw [List.length_drop, h.lr]; omega)
  exact ⟨h7, h4, h8⟩

theorem LngI.step {v : List Nat} {W L i : Nat} {R Q o : List Nat} (h : LngI v W L (i + 1) R Q) (hi : i < L) (hV : 0 < val 1000000000 v)
    (ho : o.length = (R.drop i).length) (hbo : ∀ x ∈ o, x < 1000000000) (hvo : val 1000000000 o = val 1000000000 (R.drop i) % val 1000000000 v) (hq : val 1000000000 (R.drop i) / val 1000000000 v < 1000000000) :
    LngI v W L i (R.take i ++ o) (Q.set i (val 1000000000 (R.drop i) / val 1000000000 v)) := by
  have hli : (R.take i).length = i := by rw [List.length_take, h.lr]; omega
  have hdrop : (R.take i ++ o).drop i = o := by rw [List.drop_append_of_le_length (by omega), List.drop_of_length_le (by omega)]; rfl
  refine ⟨?_, by simp [h.lq], ?_, mem_set_lt h.bq hq, ?_, ?_⟩
  · rw [List.length_append, hli, ho, List.length_drop, h.lr]; omega
  · intro x hx
    rcases List.mem_append.1 hx with hx | hx
    · exact h.br x (List.mem_of_mem_take hx)
    · exact hbo x hx
  · rw [hdrop, hvo]; exact Nat.mod_lt _ hV
  · have e1 : val 1000000000 (R.take i ++ o) = val 1000000000 (R.take i) + 1000000000 ^ i * val 1000000000 o := by rw [val_append, hli]
    have e2 : val 1000000000 R = val 1000000000 (R.take i) + 1000000000 ^ i * val 1000000000 (R.drop i) := by
      have := val_append 1000000000 (R.take i) (R.drop i)
      rwa [List.take_append_drop, hli] at this
    have e3 := val_drop 1000000000 (Q.set i (val 1000000000 (R.drop i) / val 1000000000 v)) i (by rw [List.length_set, h.lq]; exact hi)
    rw [nth_set_same _ _ _ (by rw [h.lq]; exact hi), show (Q.set i (val 1000000000 (R.drop i) / val 1000000000 v)).drop (i + 1) = Q.drop (i + 1) by rw [List.drop_set]; simp] at e3
    have hs := h.sum
    rw [e1, e3, hvo]
    have hd := Nat.mod_add_div (val 1000000000 (R.drop i)) (val 1000000000 v)
    rw [e2] at hs
    generalize val 1000000000 (R.drop i) / val 1000000000 v = q at *
    generalize val 1000000000 (R.drop i) % val 1000000000 v = x at *
    generalize val 1000000000 (Q.drop (i + 1)) = y at *
    generalize val 1000000000 (R.drop i) = P at *
    generalize val 1000000000 v = V at *
    generalize val 1000000000 (R.take i) = z at *
    rw [Nat.pow_succ] at hs
    obtain ⟨C, hCe⟩ : ∃ C, C = 1000000000 ^ i := ⟨_, rfl⟩
    rw [← hCe] at hs ⊢
    clear hCe
    have e4 : C * P = C * x + V * (C * q) := by
      rw [← hd, Nat.mul_add, Nat.mul_left_comm]
    have e5 : V * (C * 1000000000 * y) = V * (C * (1000000000 * y)) := by rw [Nat.mul_assoc C]
    rw [e4, e5] at hs
    rw [Nat.mul_add C, Nat.mul_add V]
    rw [← hs]
    simp only [Nat.add_assoc]

theorem LngI.stop {v : List Nat} {W L : Nat} {R Q : List Nat} (h : LngI v W L 0 R Q) : val 1000000000 Q = W / val 1000000000 v ∧ val 1000000000 R = W % val 1000000000 v := by
  have h1 := h.lt
  have h2 := h.sum
  simp only [List.drop_zero, Nat.pow_zero, Nat.one_mul] at h1 h2
  constructor
  · rw [← h2, Nat.add_mul_div_left _ _ (by omega), Nat.div_eq_of_lt h1]; omega
  · rw [← h2, Nat.add_mul_mod_self_left, Nat.mod_eq_of_lt h1]

/-- The beginning: the highest words are less than v. -/
theorem LngI.start {v r : List Nat} {L W f vt : Nat} (hv0 : 0 < v.length) (hf : f * 1000000000 ^ (v.length - 1) ≤ val 1000000000 v) (hW : W < f * 1000000000 ^ (v.length + L - 1))
    (hr : val 1000000000 r = W) (hbr : ∀ x ∈ r, x < 1000000000) (hlr : r.length = v.length + L) (hL : 0 < L) (_hvt : vt = 0) : LngI v W L L r (List.replicate L 0) := by
  refine ⟨hlr, by simp, hbr, fun x hx => by have := List.eq_of_mem_replicate hx; omega, ?_, ?_⟩
  · have h1 := val_append 1000000000 (r.take L) (r.drop L)
    rw [List.take_append_drop, List.length_take, Nat.min_eq_left (by omega), hr] at h1
    apply Classical.byContradiction
    intro hn
    have h2 : 1000000000 ^ L * (f * 1000000000 ^ (v.length - 1)) ≤ 1000000000 ^ L * val 1000000000 (r.drop L) := Nat.mul_le_mul_left _ (by omega)
    have h3 : 1000000000 ^ L * (f * 1000000000 ^ (v.length - 1)) = f * 1000000000 ^ (v.length + L - 1) := by
      rw [Nat.mul_left_comm, ← Nat.pow_add, show L + (v.length - 1) = v.length + L - 1 by omega]
    omega
  · rw [List.drop_of_length_le (by simp)]; simp [val_nil, hr]

end Go.Proofs.YtnfmcdfdbipeoaaGreatDoor

namespace Go.Proofs.YtnfmcdfdbipeoaaGreatDoor
open Go.RowKit Go.Proofs.Num

theorem cast10 (a b c : Nat) : (((a * 1000000000 + b) / c : Nat) : Int) = ((a : Int) * 1000000000 + b) / (c : Int) := by
  have h : ((a * 1000000000 + b : Nat) : Int) = (a : Int) * 1000000000 + b := by omega
  rw [Int.natCast_ediv, h]
theorem cast11 (a b c : Nat) : (((a * 1000000000 + b) % c : Nat) : Int) = ((a : Int) * 1000000000 + b) % (c : Int) := by
  have h : ((a * 1000000000 + b : Nat) : Int) = (a : Int) * 1000000000 + b := by omega
  rw [Int.natCast_emod, h]

theorem prod_le {x y a b : Nat} (hx : x ≤ a) (hy : y ≤ b) : ((x : Nat) : Int) * ((y : Nat) : Int) ≤ ((a * b : Nat) : Int) := by
  rw [← Int.natCast_mul]; exact Int.ofNat_le.2 (Nat.mul_le_mul hx hy)

set_option maxHeartbeats 3200000 in
set_option maxRecDepth 100000 in
/-- words.guess -/
theorem guess_any (m : Nat) (v p : List Nat) (hG : Gs m v p) (hm : m ≤ 2147483647) (b1 o1 c1 b2 o2 c2 : Nat) (w : World)
    (h1 : ∀ j, j < m + 3 → w.cell? ⟨b1, o1 + j, none⟩ = some (.int .u64 ((nth p j : Nat) : Int))) (h2 : ∀ j, j < m + 2 → w.cell? ⟨b2, o2 + j, none⟩ = some (.int .u64 ((nth v j : Nat) : Int))) :
    Calls Tryz.prog 171 #[.slice (some ⟨b1, o1, none⟩) (m + 3) c1, .slice (some ⟨b2, o2, none⟩) (m + 2) c2] w fun e w' => (∃ word : Nat, e = .returned (.int .u64 word) ∧ word < 1000000000 ∧ val 1000000000 p / val 1000000000 v ≤ word ∧ word ≤ val 1000000000 p / val 1000000000 v + 1) ∧ ∃ n, w' = w.drewN n := by
  have x1 := h1 (m + 2) (by omega)
  have x2 := h1 (m + 1) (by omega)
  have x3 := h1 m (by omega)
  have y1 := h2 (m + 1) (by omega)
  have y2 := h2 m (by omega)
  have e1 := nth_lt (b := 1000000000) (by omega) p hG.bp (m + 2)
  have e2 := nth_lt (b := 1000000000) (by omega) p hG.bp (m + 1)
  have e3 := nth_lt (b := 1000000000) (by omega) p hG.bp m
  have e4 := nth_lt (b := 1000000000) (by omega) v hG.bv (m + 1)
  have e5 := nth_lt (b := 1000000000) (by omega) v hG.bv m
  have e6 := hG.top
  have hne : (((nth v (m + 1) : Nat) : Int) == 0) = false := by simp; omega
  have HI0 := Lib.hid (guI_zero hG)
  have HG := Lib.hid hG
  clear h1 h2 hG
  go_enter Tryz.func171, Tryz.ntmps171
  go_wp2
  go_quiet (fail)
  go_wp2
  go_quiet (fail)
  go_wp2
  go_loopw [7, 8] (fun sw sr wr => ∃ (word rest : Nat), sw = .int .u64 word ∧ sr = .int .u64 rest ∧ GuI m v p word rest ∧ ∃ n, wr = w.drewN n) (fun sw _ _ => (intOf sw).toNat)
  case atStart => exact ⟨_, _, by rw [cast10], by rw [cast11], HI0.out, _, World.drewN_drewN _ _ _⟩
  case round =>
    obtain ⟨word, rest, rfl, rfl, hI, n, rfl⟩ := hrel
    obtain ⟨i1, i2, i3, i4⟩ := hI
    have hI : GuI m v p word rest := ⟨i1, i2, i3, i4⟩
    clear i1 i2
    have pb := prod_le i3 (Nat.le_of_lt e5)
    have pb0 : 0 ≤ ((word : Nat) : Int) * ((nth v m : Nat) : Int) := by rw [← Int.natCast_mul]; omega
    by_cases hr : rest < 1000000000
    · have hr1 : decide (((rest : Nat) : Int) < 1000000000) = true := by simp; omega
      by_cases hw : 1000000000 ≤ word
      · have hw1 : decide ((1000000000 : Int) ≤ ((word : Nat) : Int)) = true := by simp; omega
        obtain ⟨hs1, hs2⟩ := guI_step HG.out hI hr (.inl hw)
        have HS := Lib.hid hs2
        clear hI hs2
        go_wp2
        go_quiet (fail)
        go_wp2
        go_roundw
        case rel => exact ⟨word - 1, rest + nth v (m + 1), by go_num, by go_num, HS.out, by first | exact ⟨_, rfl⟩ | exact ⟨_, World.drewN_drewN _ _ _⟩⟩
        case measure => simp [intOf]; omega
      · have hw1 : decide ((1000000000 : Int) ≤ ((word : Nat) : Int)) = false := by simp; omega
        by_cases hp : rest * 1000000000 + nth p m < word * nth v m
        · have hp1 : decide (((rest : Nat) : Int) * 1000000000 + ((nth p m : Nat) : Int) < ((word : Nat) : Int) * ((nth v m : Nat) : Int)) = true := by
            rw [← Int.natCast_mul]; simp; omega
          obtain ⟨hs1, hs2⟩ := guI_step HG.out hI hr (.inr hp)
          have HS := Lib.hid hs2
          clear hI hs2 hp
          go_wp2
          go_quiet (fail)
          go_wp2
          go_roundw
          case rel => exact ⟨word - 1, rest + nth v (m + 1), by go_num, by go_num, HS.out, by first | exact ⟨_, rfl⟩ | exact ⟨_, World.drewN_drewN _ _ _⟩⟩
          case measure => simp [intOf]; omega
        · have hp1 : decide (((rest : Nat) : Int) * 1000000000 + ((nth p m : Nat) : Int) < ((word : Nat) : Int) * ((nth v m : Nat) : Int)) = false := by
            rw [← Int.natCast_mul]; simp; omega
          have HE := Lib.hid (guI_end HG.out hI (.inr ⟨by omega, by omega⟩))
          clear hI hp
          go_wp2
          go_quiet (fail)
          go_wp2
          go_ret
          exact ⟨⟨word, rfl, HE.out⟩, by first | exact ⟨_, rfl⟩ | exact ⟨_, World.drewN_drewN _ _ _⟩⟩
    · have hr1 : decide (((rest : Nat) : Int) < 1000000000) = false := by simp; omega
      have HE := Lib.hid (guI_end HG.out hI (.inl (by omega)))
      clear hI
      go_wp2
      go_quiet (fail)
      go_wp2
      go_ret
      exact ⟨⟨word, rfl, HE.out⟩, by first | exact ⟨_, rfl⟩ | exact ⟨_, World.drewN_drewN _ _ _⟩⟩
end Go.Proofs.YtnfmcdfdbipeoaaGreatDoor

namespace Go.Proofs.YtnfmcdfdbipeoaaGreatDoor
open Go.RowKit Go.Proofs.Num

/-- Nothing has turned but block g. -/
structure Sole (g : Nat) (w w' : World) : Prop where
  os : w'.os = w.os
  tape : w'.tape = w.tape
  output : w'.output = w.output
  size : w'.heap.size = w.heap.size
  block : ∀ k, k ≠ g → w'.heap[k]? = w.heap[k]?

theorem Sole.refl (g : Nat) (w : World) : Sole g w w := ⟨rfl, rfl, rfl, rfl, fun _ _ => rfl⟩
theorem Sole.store {g : Nat} {w w' : World} (h : Sole g w w') (j : Nat) (u : Value) : Sole g w (w'.setCell ⟨g, j, none⟩ u) :=
  ⟨h.os, h.tape, h.output, by simpa [World.setCell] using h.size, fun k hk => by rw [heap_setCell_other w' ⟨g, j, none⟩ k u hk]; exact h.block k hk⟩
theorem Sole.drewN {g : Nat} {w w' : World} (h : Sole g w w') (n : Nat) : Sole g w (w'.drewN n) := ⟨h.os, h.tape, h.output, h.size, h.block⟩
theorem Sole.trans {g : Nat} {a b c : World} (h : Sole g a b) (k : Sole g b c) : Sole g a c :=
  ⟨k.os.trans h.os, k.tape.trans h.tape, k.output.trans h.output, k.size.trans h.size, fun i hi => (k.block i hi).trans (h.block i hi)⟩
theorem Sole.cell {g : Nat} {w w' : World} (h : Sole g w w') (b o : Nat) (hb : b ≠ g) : w'.cell? ⟨b, o, none⟩ = w.cell? ⟨b, o, none⟩ := World.cell?_of_block (w := w) (h.block b hb)
theorem Sole.below {g B : Nat} {w w' : World} (h : Sole g w w') (hg : B ≤ g) : Below B w w' := ⟨h.os, h.tape, h.output, by rw [h.size]; exact Nat.le_refl _, fun k hk => h.block k (by omega)⟩

theorem cast12 (y c z x r : Nat) (hr : r ≤ 1) : (((y + 1000000000 - (c + z * x) % 1000000000 - r) % 1000000000 : Nat) : Int) = ((y : Int) + 1000000000 - ((c : Int) + (z : Int) * (x : Int)) % 1000000000 - r) % 1000000000 := by
  rw [← Int.natCast_mul]; omega
theorem cast13 (y c z x r : Nat) (hr : r ≤ 1) (hy : y < 1000000000) : ((1 - (y + 1000000000 - (c + z * x) % 1000000000 - r) / 1000000000 : Nat) : Int) = 1 - ((y : Int) + 1000000000 - ((c : Int) + (z : Int) * (x : Int)) % 1000000000 - r) / 1000000000 := by
  rw [← Int.natCast_mul]; omega
theorem cast14 (c z x : Nat) : (((c + z * x) / 1000000000 : Nat) : Int) = ((c : Int) + (z : Int) * (x : Int)) / 1000000000 := by
  rw [← Int.natCast_mul]; omega
theorem cast12' (y c r : Nat) (hr : r ≤ 1) : (((y + 1000000000 - c % 1000000000 - r) % 1000000000 : Nat) : Int) = ((y : Int) + 1000000000 - (c : Int) % 1000000000 - r) % 1000000000 := by omega
theorem cast13' (y c r : Nat) (hr : r ≤ 1) (hy : y < 1000000000) : ((1 - (y + 1000000000 - c % 1000000000 - r) / 1000000000 : Nat) : Int) = 1 - ((y : Int) + 1000000000 - (c : Int) % 1000000000 - r) / 1000000000 := by omega

theorem nth_seg (A o : List Nat) (k : Nat) : nth (A ++ o) (A.length + k) = nth o k := by
  simp [nth, List.getD, List.getElem?_append_right]
theorem set_seg (A o : List Nat) (k x : Nat) : (A ++ o).set (A.length + k) x = A ++ o.set k x := by
  rw [List.set_append_right _ _ (by omega)]; simp

set_option maxHeartbeats 3200000 in
set_option maxRecDepth 100000 in
/-- words.reduce -/
theorem reduce_any (v p A : List Nat) (word : Nat) (hw : word < 1000000000) (hv : ∀ x ∈ v, x < 1000000000) (hp : ∀ x ∈ p, x < 1000000000) (hl : v.length + 1 ≤ p.length) (hsm : v.length ≤ 2147483647)
    (B g N i c1 b2 o2 c2 : Nat) (hi : i = A.length) (w : World) (hown : w.ownsRow B 135 1 (.slice (some ⟨g, 0, none⟩) N N) N (cellsOf .u64 (A ++ p))) (hb : b2 ≠ g)
    (h2 : ∀ j, j < v.length → w.cell? ⟨b2, o2 + j, none⟩ = some (.int .u64 ((nth v j : Nat) : Int))) :
    Calls Tryz.prog 172 #[.slice (some ⟨g, i, none⟩) (v.length + 1) c1, .slice (some ⟨b2, o2, none⟩) v.length c2, .int .u64 word] w fun e w' =>
      ∃ (r : Nat) (o : List Nat), e = .returned (.bool (decide (0 < r))) ∧ RedI p v word (v.length + 1) 0 r o ∧ w'.ownsRow B 135 1 (.slice (some ⟨g, 0, none⟩) N N) N (cellsOf .u64 (A ++ o)) ∧ Sole g w w' := by
  have hN : N = A.length + p.length := by
    have := hown.1
    rw [cellsOf_length, List.length_append] at this
    omega
  have HI := Lib.hid hi
  have HN := Lib.hid hN
  have HP := Lib.hid hp
  have HV := Lib.hid hv
  have HL := Lib.hid hl
  clear hi hN hl
  go_enter Tryz.func172, Tryz.ntmps172
  go_wp2
  go_loopw [7, 8, 13] (fun sc sb si wr => ∃ (k c r : Nat) (o : List Nat), k ≤ v.length + 1 ∧ si = .int .i64 k ∧ sc = .int .u64 c ∧ sb = .int .u64 r ∧
      wr.ownsRow B 135 1 (.slice (some ⟨g, 0, none⟩) N N) N (cellsOf .u64 (A ++ o)) ∧ RedI p v word k c r o ∧ Sole g w wr)
    (fun _ _ si _ => v.length + 1 - (intOf si).toNat)
  case atStart => exact ⟨0, 0, 0, p, Nat.zero_le _, rfl, rfl, rfl, hown, redI_zero p v word HP.out, Sole.refl _ _⟩
  case round =>
    obtain ⟨k, c, r, o, hk, rfl, rfl, rfl, hownr, hI, hS⟩ := hrel
    by_cases hlt : k < v.length + 1
    · have hol := hI.1
      have hc := hI.2.2.1
      have hr := hI.2.2.2.1
      have hy := nth_lt (b := 1000000000) (by omega) p HP.out k
      have hkp : k < p.length := by have := HL.out; omega
      have hcg : wr.cell? ⟨g, i + k, none⟩ = some (.int .u64 ((nth p k : Nat) : Int)) := by
        rw [hownr.cellAt (i + k) (by rw [HN.out, HI.out]; omega), cellsOf_at _ _ _ (by rw [List.length_append, hol, HI.out]; omega), HI.out, nth_seg, hI.2.2.2.2.2.2 k (Nat.le_refl _)]
      have hfg : wr.frozen? ⟨g, i + k, none⟩ = false := hownr.frozenAt (i + k)
      by_cases hlt2 : k < v.length
      · have hx := nth_lt (b := 1000000000) (by omega) v HV.out k
        have hcv : wr.cell? ⟨b2, o2 + k, none⟩ = some (.int .u64 ((nth v k : Nat) : Int)) := (hS.cell b2 (o2 + k) hb).trans (h2 k hlt2)
        have pb := prod_le (Nat.le_of_lt hx) (Nat.le_of_lt hw)
        have pb0 : 0 ≤ ((nth v k : Nat) : Int) * ((word : Nat) : Int) := by rw [← Int.natCast_mul]; omega
        have hst := hownr.stored (i + k) (.int .u64 (((nth p k + 1000000000 - (c + nth v k * word) % 1000000000 - r) % 1000000000 : Nat) : Int))
        have hso := hS.store (i + k) (.int .u64 (((nth p k + 1000000000 - (c + nth v k * word) % 1000000000 - r) % 1000000000 : Nat) : Int))
        rw [← cellsOf_set, HI.out, set_seg] at hst
        rw [HI.out] at hso
        rw [← HI.out] at hso hst
        have hI' := redI_step hI HV.out HP.out hw hkp
        rw [cast12 _ _ _ _ _ hr] at hst hso
        have HST : Hid _ := hst.1
        have HSO := Lib.hid hso
        have HI' := Lib.hid hI'
        clear hst hso hI hI' hownr hS hol
        go_wp2
        go_roundw
        case rel => exact ⟨k + 1, _, _, _, by omega, by go_num, by rw [cast14], by rw [cast13 _ _ _ _ _ hr hy], HST.out, HI'.out, HSO.out⟩
        case measure => simp [intOf]; omega
      · have hy0 : nth v k = 0 := nth_past v k (by omega)
        have hst := hownr.stored (i + k) (.int .u64 (((nth p k + 1000000000 - c % 1000000000 - r) % 1000000000 : Nat) : Int))
        have hso := hS.store (i + k) (.int .u64 (((nth p k + 1000000000 - c % 1000000000 - r) % 1000000000 : Nat) : Int))
        rw [← cellsOf_set, HI.out, set_seg] at hst
        rw [HI.out] at hso
        rw [← HI.out] at hso hst
        have hI' := redI_step hI HV.out HP.out hw hkp
        rw [hy0, Nat.zero_mul, Nat.add_zero] at hI'
        rw [cast12' _ _ _ hr] at hst hso
        have HST : Hid _ := hst.1
        have HSO := Lib.hid hso
        have HI' := Lib.hid hI'
        clear hst hso hI hI' hownr hS hol hy0
        go_wp2
        go_roundw
        case rel => exact ⟨k + 1, c / 1000000000, 1 - (nth p k + 1000000000 - c % 1000000000 - r) / 1000000000, _, by omega, by go_num, by go_num, by rw [cast13' _ _ _ hr hy], HST.out, HI'.out, HSO.out⟩
        case measure => simp [intOf]; omega
    · obtain rfl : k = v.length + 1 := by omega
      obtain rfl : c = 0 := hI.2.2.2.2.1 (by omega)
      have HII := Lib.hid hI
      clear hI
      go_wp2
      go_ret
      exact ⟨r, o, rfl, HII.out, hownr, hS⟩

theorem cast15 (c z y : Nat) : (((c + z + y) % 1000000000 : Nat) : Int) = ((c : Int) + z + y) % 1000000000 := by omega
theorem cast16 (c z y : Nat) : (((c + z + y) / 1000000000 : Nat) : Int) = ((c : Int) + z + y) / 1000000000 := by omega
theorem cast15' (c y : Nat) : (((c + 0 + y) % 1000000000 : Nat) : Int) = ((c : Int) + y) % 1000000000 := by omega
theorem cast16' (c y : Nat) : (((c + 0 + y) / 1000000000 : Nat) : Int) = ((c : Int) + y) / 1000000000 := by omega

set_option maxHeartbeats 3200000 in
set_option maxRecDepth 100000 in
/-- words.restore -/
theorem restore_any (v p A : List Nat) (hv : ∀ x ∈ v, x < 1000000000) (hp : ∀ x ∈ p, x < 1000000000) (hl : v.length + 1 ≤ p.length) (hsm : v.length ≤ 2147483647)
    (B g N i c1 b2 o2 c2 : Nat) (hi : i = A.length) (w : World) (hown : w.ownsRow B 135 1 (.slice (some ⟨g, 0, none⟩) N N) N (cellsOf .u64 (A ++ p))) (hb : b2 ≠ g)
    (h2 : ∀ j, j < v.length → w.cell? ⟨b2, o2 + j, none⟩ = some (.int .u64 ((nth v j : Nat) : Int))) :
    Calls Tryz.prog 173 #[.slice (some ⟨g, i, none⟩) (v.length + 1) c1, .slice (some ⟨b2, o2, none⟩) v.length c2] w fun e w' =>
      (∃ ev, e = .returned ev) ∧ ∃ (c : Nat) (o : List Nat), RstI p v (v.length + 1) c o ∧ w'.ownsRow B 135 1 (.slice (some ⟨g, 0, none⟩) N N) N (cellsOf .u64 (A ++ o)) ∧ Sole g w w' := by
  have hN : N = A.length + p.length := by
    have := hown.1
    rw [cellsOf_length, List.length_append] at this
    omega
  have HI := Lib.hid hi
  have HN := Lib.hid hN
  have HP := Lib.hid hp
  have HV := Lib.hid hv
  have HL := Lib.hid hl
  clear hi hN hl
  go_enter Tryz.func173, Tryz.ntmps173
  go_wp2
  go_loopw [4, 8] (fun sc si wr => ∃ (k c : Nat) (o : List Nat), k ≤ v.length + 1 ∧ si = .int .i64 k ∧ sc = .int .u64 c ∧
      wr.ownsRow B 135 1 (.slice (some ⟨g, 0, none⟩) N N) N (cellsOf .u64 (A ++ o)) ∧ RstI p v k c o ∧ Sole g w wr)
    (fun _ si _ => v.length + 1 - (intOf si).toNat)
  case atStart => exact ⟨0, 0, p, Nat.zero_le _, rfl, rfl, hown, rstI_zero p v HP.out, Sole.refl _ _⟩
  case round =>
    obtain ⟨k, c, o, hk, rfl, rfl, hownr, hI, hS⟩ := hrel
    by_cases hlt : k < v.length + 1
    · have hol := hI.1
      have hc := hI.2.2.1
      have hy := nth_lt (b := 1000000000) (by omega) p HP.out k
      have hkp : k < p.length := by have := HL.out; omega
      have hcg : wr.cell? ⟨g, i + k, none⟩ = some (.int .u64 ((nth p k : Nat) : Int)) := by
        rw [hownr.cellAt (i + k) (by rw [HN.out, HI.out]; omega), cellsOf_at _ _ _ (by rw [List.length_append, hol, HI.out]; omega), HI.out, nth_seg, hI.2.2.2.2 k (Nat.le_refl _)]
      have hfg : wr.frozen? ⟨g, i + k, none⟩ = false := hownr.frozenAt (i + k)
      by_cases hlt2 : k < v.length
      · have hx := nth_lt (b := 1000000000) (by omega) v HV.out k
        have hcv : wr.cell? ⟨b2, o2 + k, none⟩ = some (.int .u64 ((nth v k : Nat) : Int)) := (hS.cell b2 (o2 + k) hb).trans (h2 k hlt2)
        have hst := hownr.stored (i + k) (.int .u64 (((c + nth v k + nth p k) % 1000000000 : Nat) : Int))
        have hso := hS.store (i + k) (.int .u64 (((c + nth v k + nth p k) % 1000000000 : Nat) : Int))
        rw [← cellsOf_set, HI.out, set_seg] at hst
        rw [HI.out] at hso
        rw [← HI.out] at hso hst
        have hI' := rstI_step hI HV.out HP.out hkp
        rw [cast15] at hst hso
        have HST : Hid _ := hst.1
        have HSO := Lib.hid hso
        have HI' := Lib.hid hI'
        clear hst hso hI hI' hownr hS hol
        go_wp2
        go_roundw
        case rel => exact ⟨k + 1, (c + nth v k + nth p k) / 1000000000, _, by omega, by go_num, by rw [cast16], HST.out, HI'.out, HSO.out⟩
        case measure => simp [intOf]; omega
      · have hy0 : nth v k = 0 := nth_past v k (by omega)
        have hst := hownr.stored (i + k) (.int .u64 (((c + 0 + nth p k) % 1000000000 : Nat) : Int))
        have hso := hS.store (i + k) (.int .u64 (((c + 0 + nth p k) % 1000000000 : Nat) : Int))
        rw [← cellsOf_set, HI.out, set_seg] at hst
        rw [HI.out] at hso
        rw [← HI.out] at hso hst
        have hI' := rstI_step hI HV.out HP.out hkp
        rw [hy0] at hI'
        rw [cast15'] at hst hso
        have HST : Hid _ := hst.1
        have HSO := Lib.hid hso
        have HI' := Lib.hid hI'
        clear hst hso hI hI' hownr hS hol hy0
        go_wp2
        go_roundw
        case rel => exact ⟨k + 1, (c + 0 + nth p k) / 1000000000, _, by omega, by go_num, by rw [cast16'], HST.out, HI'.out, HSO.out⟩
        case measure => simp [intOf]; omega
    · obtain rfl : k = v.length + 1 := by omega
      have HII := Lib.hid hI
      clear hI
      go_wp2
      go_end0
      exact ⟨⟨_, rfl⟩, c, o, HII.out, hownr, hS⟩
end Go.Proofs.YtnfmcdfdbipeoaaGreatDoor
