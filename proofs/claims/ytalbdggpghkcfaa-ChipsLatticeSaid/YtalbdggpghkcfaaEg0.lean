/- The law Group: numbers. -/
import Derived.Test.YtalbdggpghkcfaaEf
namespace Go.Proofs.Ytalbdggpghkcfaa
open Go.RowKit Go.Proofs.Gr Go.Proofs.Cp
attribute [local go_sem] Oper.semAt_some

theorem both_bd {A B : List Int} (h : bothD A B = 0) (hA : smallD A = true) (hB : smallD B = true) : ∃ n, Bd 60 n A ∧ Bd 60 n B := by
  obtain ⟨d1, d2, hl⟩ := both_div h
  exact ⟨A.length, ⟨rfl, d1.one, d1.le, (small_iff A).1 hA⟩, ⟨hl.symm, d1.one, d1.le, fun j hj => (small_iff B).1 hB j (by omega)⟩⟩
theorem bd_ext {p q : Int} {n : Nat} {A B : List Int} (hA : Bd p n A) (hB : Bd q n B) (h : ∀ j, j < n → iAt A j = iAt B j) : A = B := eq_of_at (by rw [hA.len, hB.len]) (by rw [hA.len]; exact h)
theorem bd_at {p q : Int} {n : Nat} {A B : List Int} (hA : Bd p n A) (hB : Bd q n B) (f : Int → Int → Int) (j : Nat) (hj : j < n) : iAt (zipD f A B) j = f (iAt A j) (iAt B j) := zip_at f (by rw [hA.len, hB.len]) j (by rw [hA.len]; exact hj)
structure GroupF (n : Nat) (A B C AB BC L NG Z T TW : List Int) : Prop where
  ab : cmbK (fun x y => x + y) A B = 0 ∧ cmbL (fun x y => x + y) A B = AB
  ba : cmbK (fun x y => x + y) B A = 0 ∧ cmbL (fun x y => x + y) B A = AB
  bc : cmbK (fun x y => x + y) B C = 0 ∧ cmbL (fun x y => x + y) B C = BC
  l : cmbK (fun x y => x + y) AB C = 0 ∧ cmbL (fun x y => x + y) AB C = L
  r : cmbK (fun x y => x + y) A BC = 0 ∧ cmbL (fun x y => x + y) A BC = L
  back : cmbK (fun x y => x - y) AB B = 0 ∧ cmbL (fun x y => x - y) AB B = A
  neg : cmbK (mulK (-1)) A A = 0 ∧ cmbL (mulK (-1)) A A = NG
  zero : cmbK (fun x y => x + y) A NG = 0 ∧ cmbL (fun x y => x + y) A NG = Z
  none : zerK (A.length : Int) = 0 ∧ zerL (A.length : Int) = Z
  three : cmbK (mulK 3) A A = 0 ∧ cmbL (mulK 3) A A = T
  twice : cmbK (fun x y => x + y) A A = 0 ∧ cmbL (fun x y => x + y) A A = TW
  again : cmbK (fun x y => x + y) TW A = 0 ∧ cmbL (fun x y => x + y) TW A = T
  dA : degV A = sumD A ∧ ownD A = 0
  dB : degV B = sumD B ∧ ownD B = 0
  dAB : degV AB = sumD A + sumD B ∧ ownD AB = 0
  bdA : -1000 ≤ sumD A ∧ sumD A ≤ 1000
  bdB : -1000 ≤ sumD B ∧ sumD B ≤ 1000
  lens : A.length ≤ 1000 ∧ B.length ≤ 1000 ∧ C.length ≤ 1000 ∧ AB.length ≤ 1000 ∧ BC.length ≤ 1000 ∧ L.length ≤ 1000 ∧ NG.length ≤ 1000 ∧ Z.length ≤ 1000 ∧ T.length ≤ 1000 ∧ TW.length ≤ 1000
theorem mul_small (k : Int) (hk : -3 ≤ k ∧ k ≤ 3) (x y : Int) : mulK k x y = x * k := by
  unfold mulK
  rw [if_neg]
  rintro ⟨h, -⟩
  rw [big_false.2 (by omega)] at h
  cases h
theorem sum_bd {p : Int} {n : Nat} {A : List Int} (h : Bd p n A) (h0 : 0 ≤ p) (h1 : p ≤ 60) : -1000 ≤ sumD A ∧ sumD A ≤ 1000 := by
  have key : ∀ i, i ≤ n → -(60 * (i : Int)) ≤ sumD (A.take i) ∧ sumD (A.take i) ≤ 60 * (i : Int) := by
    intro i
    induction i with
    | zero => intro _; simp [sumD]
    | succ i ih =>
      intro hi
      rw [sumT_succ A i (by rw [h.len]; omega)]
      have := ih (by omega)
      have := h.rng i (by omega)
      omega
  have := key n (Nat.le_refl _)
  rw [← h.len, List.take_length] at this
  have := h.le
  have := h.len
  omega
theorem group_facts {n : Nat} {A B C : List Int} (bA : Bd 60 n A) (bB : Bd 60 n B) (bC : Bd 60 n C) : ∃ AB BC L NG Z T TW, GroupF n A B C AB BC L NG Z T TW := by
  have f120 : ∀ x y : Int, -60 ≤ x ∧ x ≤ 60 → -60 ≤ y ∧ y ≤ 60 → -120 ≤ (fun x y => x + y) x y ∧ (fun x y => x + y) x y ≤ 120 := fun x y hx hy => by simp only; omega
  have f180 : ∀ x y : Int, -120 ≤ x ∧ x ≤ 120 → -60 ≤ y ∧ y ≤ 60 → -180 ≤ (fun x y => x + y) x y ∧ (fun x y => x + y) x y ≤ 180 := fun x y hx hy => by simp only; omega
  have f180' : ∀ x y : Int, -60 ≤ x ∧ x ≤ 60 → -120 ≤ y ∧ y ≤ 120 → -180 ≤ (fun x y => x + y) x y ∧ (fun x y => x + y) x y ≤ 180 := fun x y hx hy => by simp only; omega
  have s180 : ∀ x y : Int, -120 ≤ x ∧ x ≤ 120 → -60 ≤ y ∧ y ≤ 60 → -180 ≤ (fun x y => x - y) x y ∧ (fun x y => x - y) x y ≤ 180 := fun x y hx hy => by simp only; omega
  have m60 : ∀ x y : Int, -60 ≤ x ∧ x ≤ 60 → -60 ≤ y ∧ y ≤ 60 → -60 ≤ mulK (-1) x y ∧ mulK (-1) x y ≤ 60 := fun x y hx hy => by rw [mul_small _ (by omega)]; omega
  have m180 : ∀ x y : Int, -60 ≤ x ∧ x ≤ 60 → -60 ≤ y ∧ y ≤ 60 → -180 ≤ mulK 3 x y ∧ mulK 3 x y ≤ 180 := fun x y hx hy => by rw [mul_small _ (by omega)]; omega
  have bAB := Bd.zip bA bB f120
  have bBC := Bd.zip bB bC f120
  have bTW := Bd.zip bA bA f120
  have bL := Bd.zip bAB bC f180
  have bNG := Bd.zip bA bA m60
  have bZ := Bd.zip bA bNG f120
  have bT := Bd.zip bA bA m180
  have hba : zipD (fun x y => x + y) B A = zipD (fun x y => x + y) A B := bd_ext (Bd.zip bB bA f120) bAB fun j hj => by rw [bd_at bB bA _ j hj, bd_at bA bB _ j hj]; omega
  have hr : zipD (fun x y => x + y) A (zipD (fun x y => x + y) B C) = zipD (fun x y => x + y) (zipD (fun x y => x + y) A B) C := bd_ext (Bd.zip bA bBC f180') bL fun j hj => by
    rw [bd_at bA bBC _ j hj, bd_at bAB bC _ j hj, bd_at bB bC _ j hj, bd_at bA bB _ j hj]; omega
  have hbk : zipD (fun x y => x - y) (zipD (fun x y => x + y) A B) B = A := bd_ext (Bd.zip bAB bB s180) bA fun j hj => by
    rw [bd_at bAB bB _ j hj, bd_at bA bB _ j hj]; omega
  have hag : zipD (fun x y => x + y) (zipD (fun x y => x + y) A A) A = zipD (mulK 3) A A := bd_ext (Bd.zip bTW bA f180) bT fun j hj => by
    rw [bd_at bTW bA _ j hj, bd_at bA bA _ j hj, bd_at bA bA _ j hj, mul_small _ (by omega)]; omega
  have hzk : zerK (A.length : Int) = 0 := by
    unfold zerK
    have h1 := bA.one; have h2 := bA.le; have h3 := bA.len
    rw [if_neg (by omega)]
  have hzz : zerL (A.length : Int) = zipD (fun x y => x + y) A (zipD (mulK (-1)) A A) := by
    unfold zerL
    have h3 := bA.len
    rw [hzk, if_pos rfl]
    refine eq_of_at (by rw [bZ.len, List.length_replicate]; omega) fun j hj => ?_
    rw [List.length_replicate] at hj
    rw [iAt_rep, bd_at bA bNG _ j (by omega), bd_at bA bA _ j (by omega), mul_small _ (by omega)]
    omega
  have dg : ∀ {p : Int} {D : List Int}, Bd p n D → p ≤ 1048576 → degV D = sumD D ∧ ownD D = 0 := fun h hp => by
    have h0 := (h.div hp).own
    exact ⟨by unfold degV; rw [if_pos h0], h0⟩
  have l1 := bA.le
  refine ⟨zipD (fun x y => x + y) A B, zipD (fun x y => x + y) B C, zipD (fun x y => x + y) (zipD (fun x y => x + y) A B) C, zipD (mulK (-1)) A A, zipD (fun x y => x + y) A (zipD (mulK (-1)) A A), zipD (mulK 3) A A, zipD (fun x y => x + y) A A, ?_⟩
  exact {
    ab := Bd.cmb bA bB (by omega) (by omega) (by decide) f120
    ba := by have := Bd.cmb bB bA (by omega) (by omega) (by decide) f120; rwa [hba] at this
    bc := Bd.cmb bB bC (by omega) (by omega) (by decide) f120
    l := Bd.cmb bAB bC (by omega) (by omega) (by decide) f180
    r := by have := Bd.cmb bA bBC (by omega) (by omega) (by decide) f180'; rwa [hr] at this
    back := by have := Bd.cmb bAB bB (by omega) (by omega) (by decide) s180; rwa [hbk] at this
    neg := Bd.cmb bA bA (by omega) (by omega) (by decide) m60
    zero := Bd.cmb bA bNG (by omega) (by omega) (by decide) f120
    none := ⟨hzk, hzz⟩
    three := Bd.cmb bA bA (by omega) (by omega) (by decide) m180
    twice := Bd.cmb bA bA (by omega) (by omega) (by decide) f120
    again := by have := Bd.cmb bTW bA (by omega) (by omega) (by decide) f180; rwa [hag] at this
    dA := dg bA (by omega)
    dB := dg bB (by omega)
    dAB := by have := dg bAB (by omega); rwa [sumD_zip (by rw [bA.len, bB.len])] at this
    bdA := sum_bd bA (by omega) (by omega)
    bdB := sum_bd bB (by omega) (by omega)
    lens := ⟨by have := bA.len; omega, by have := bB.len; omega, by have := bC.len; omega, by have := bAB.len; omega, by have := bBC.len; omega, by have := bL.len; omega, by have := bNG.len; omega, by have := bZ.len; omega, by have := bT.len; omega, by have := bTW.len; omega⟩ }
end Go.Proofs.Ytalbdggpghkcfaa
