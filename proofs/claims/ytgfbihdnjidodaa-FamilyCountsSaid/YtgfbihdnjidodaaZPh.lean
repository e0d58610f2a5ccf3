/- Families: one part each; orders of their groups; by tables. -/
import Derived.Test.YtgfbihdnjidodaaZPg
namespace Go.Proofs.Ytgfbihdnjidodaa
open Go.RowKit Go.Shelf Go.Proofs.Gr

/-- One part; the orders are at least two, their products small. -/
def joT (kind : Nat) (L : List Int) : Bool := decide (compsU (famN kind L : Nat) (famJ kind L) = 1 ∧ 0 ≤ sizeG (famJ kind L) ∧ sizeG (famJ kind L) ≤ 10000) && (decide (kind = 7) || ((cycM kind L).all (fun x => decide (2 ≤ x)) && okP (cycM kind L)))
set_option maxRecDepth 100000 in
theorem j0 : ∀ n : Fin 13, n.1 = 0 ∨ joT 0 [(n.1 : Int)] = true := by decide +kernel
set_option maxRecDepth 100000 in
theorem j1 : ∀ n : Fin 13, n.1 = 0 ∨ joT 1 [(n.1 : Int)] = true := by decide +kernel
set_option maxRecDepth 100000 in
theorem j2 : ∀ n : Fin 12, n.1 = 0 ∨ joT 2 [(n.1 : Int)] = true := by decide +kernel
set_option maxRecDepth 100000 in
theorem j3 : ∀ n : Fin 13, n.1 = 0 ∨ joT 3 [(n.1 : Int)] = true := by decide +kernel
set_option maxRecDepth 100000 in
theorem j4 : ∀ n : Fin 51, n.1 = 0 ∨ joT 4 [(n.1 : Int)] = true := by decide +kernel
set_option maxRecDepth 100000 in
theorem j5 : ∀ n : Fin 12, n.1 = 0 ∨ joT 5 [(n.1 : Int)] = true := by decide +kernel
set_option maxRecDepth 100000 in
theorem j6 : ∀ m n : Fin 12, m.1 = 0 ∨ n.1 = 0 ∨ 12 < m.1 + n.1 ∨ joT 6 [(m.1 : Int), (n.1 : Int)] = true := by decide +kernel
set_option maxRecDepth 100000 in
theorem j7 : ∀ m n : Fin 13, m.1 = 0 ∨ n.1 = 0 ∨ 12 < m.1 * n.1 ∨ joT 7 [(m.1 : Int), (n.1 : Int)] = true := by decide +kernel
set_option maxRecDepth 100000 in
theorem j8 : ∀ k m n : Fin 12, k.1 = 0 ∨ m.1 = 0 ∨ n.1 = 0 ∨ 13 < k.1 + m.1 + n.1 ∨ joT 8 [(k.1 : Int), (m.1 : Int), (n.1 : Int)] = true := by decide +kernel
theorem fam_joins (kind : Nat) (hk : kind ≤ 8) (L : List Int) (h : famE kind L = 0) : joT kind L = true := by
  obtain ⟨h1, h2, h3⟩ := famE_zero h
  clear h
  have K : kind = 0 ∨ kind = 1 ∨ kind = 2 ∨ kind = 3 ∨ kind = 4 ∨ kind = 5 ∨ kind = 6 ∨ kind = 7 ∨ kind = 8 := by omega
  rcases K with rfl | rfl | rfl | rfl | rfl | rfl | rfl | rfl | rfl
  · obtain ⟨x, rfl⟩ := one_of h1
    have hx := h2 x (by simp)
    obtain ⟨n, rfl⟩ : ∃ n : Nat, x = n := ⟨x.toNat, by omega⟩
    have hv : vertK 0 [(n : Int)] = (if 13 < (n : Int) then 13 else (n : Int)) := by unfold vertK; simp [iAt]
    rw [hv] at h3
    have hn : n ≤ 12 := by split at h3 <;> omega
    rcases j0 ⟨n, by omega⟩ with hz | ga
    · simp only at hz; omega
    · exact ga
  · obtain ⟨x, rfl⟩ := one_of h1
    have hx := h2 x (by simp)
    obtain ⟨n, rfl⟩ : ∃ n : Nat, x = n := ⟨x.toNat, by omega⟩
    have hv : vertK 1 [(n : Int)] = (if 13 < (n : Int) then 13 else (n : Int)) := by unfold vertK; simp [iAt]
    rw [hv] at h3
    have hn : n ≤ 12 := by split at h3 <;> omega
    rcases j1 ⟨n, by omega⟩ with hz | ga
    · simp only at hz; omega
    · exact ga
  · obtain ⟨x, rfl⟩ := one_of h1
    have hx := h2 x (by simp)
    obtain ⟨n, rfl⟩ : ∃ n : Nat, x = n := ⟨x.toNat, by omega⟩
    have hv : vertK 2 [(n : Int)] = (if 13 < (n : Int) then 13 else (n : Int) + 1) := by unfold vertK; simp [iAt]
    rw [hv] at h3
    have hn : n ≤ 11 := by split at h3 <;> omega
    rcases j2 ⟨n, by omega⟩ with hz | ga
    · simp only at hz; omega
    · exact ga
  · obtain ⟨x, rfl⟩ := one_of h1
    have hx := h2 x (by simp)
    obtain ⟨n, rfl⟩ : ∃ n : Nat, x = n := ⟨x.toNat, by omega⟩
    have hv : vertK 3 [(n : Int)] = (if 13 < (n : Int) then 13 else (n : Int)) := by unfold vertK; simp [iAt]
    rw [hv] at h3
    have hn : n ≤ 12 := by split at h3 <;> omega
    rcases j3 ⟨n, by omega⟩ with hz | ga
    · simp only at hz; omega
    · exact ga
  · obtain ⟨x, rfl⟩ := one_of h1
    have hx := h2 x (by simp)
    obtain ⟨n, rfl⟩ : ∃ n : Nat, x = n := ⟨x.toNat, by omega⟩
    have hv : vertK 4 [(n : Int)] = (if 50 < (n : Int) then 13 else 2) := by unfold vertK; simp [iAt]
    rw [hv] at h3
    have hn : n ≤ 50 := by split at h3 <;> omega
    rcases j4 ⟨n, by omega⟩ with hz | ga
    · simp only at hz; omega
    · exact ga
  · obtain ⟨x, rfl⟩ := one_of h1
    have hx := h2 x (by simp)
    obtain ⟨n, rfl⟩ : ∃ n : Nat, x = n := ⟨x.toNat, by omega⟩
    have hv : vertK 5 [(n : Int)] = (if 13 < (n : Int) then 13 else (n : Int) + 1) := by unfold vertK; simp [iAt]
    rw [hv] at h3
    have hn : n ≤ 11 := by split at h3 <;> omega
    rcases j5 ⟨n, by omega⟩ with hz | ga
    · simp only at hz; omega
    · exact ga
  · obtain ⟨x, y, rfl⟩ := two_of h1
    have hx := h2 x (by simp)
    have hy := h2 y (by simp)
    obtain ⟨m, rfl⟩ : ∃ n : Nat, x = n := ⟨x.toNat, by omega⟩
    obtain ⟨n, rfl⟩ : ∃ n : Nat, y = n := ⟨y.toNat, by omega⟩
    have hv : vertK 6 [(m : Int), (n : Int)] = (if 13 < (m : Int) ∨ 13 < (n : Int) then 13 else (m : Int) + n) := by unfold vertK; simp [iAt]
    rw [hv] at h3
    have hn : m + n ≤ 12 := by split at h3 <;> omega
    rcases j6 ⟨m, by omega⟩ ⟨n, by omega⟩ with hz | hz | hz | ga
    · simp only at hz; omega
    · simp only at hz; omega
    · simp only at hz; omega
    · exact ga
  · obtain ⟨x, y, rfl⟩ := two_of h1
    have hx := h2 x (by simp)
    have hy := h2 y (by simp)
    obtain ⟨m, rfl⟩ : ∃ n : Nat, x = n := ⟨x.toNat, by omega⟩
    obtain ⟨n, rfl⟩ : ∃ n : Nat, y = n := ⟨y.toNat, by omega⟩
    have hv : vertK 7 [(m : Int), (n : Int)] = (if 13 < (m : Int) ∨ 13 < (n : Int) then 13 else (m : Int) * n) := by unfold vertK; simp [iAt]
    rw [hv] at h3
    have ht : ¬ (13 < (m : Int) ∨ 13 < (n : Int)) := fun ht => by rw [if_pos ht] at h3; omega
    rw [if_neg ht] at h3
    have hn : m * n ≤ 12 := by
      rw [← Int.natCast_mul] at h3; omega
    have hm1 : m ≤ m * n := Nat.le_mul_of_pos_right _ (by omega)
    have hn1 : n ≤ m * n := Nat.le_mul_of_pos_left _ (by omega)
    rcases j7 ⟨m, by omega⟩ ⟨n, by omega⟩ with hz | hz | hz | ga
    · simp only at hz; omega
    · simp only at hz; omega
    · simp only at hz; omega
    · exact ga
  · obtain ⟨x, y, z, rfl⟩ := three_of h1
    have hx := h2 x (by simp)
    have hy := h2 y (by simp)
    have hz' := h2 z (by simp)
    obtain ⟨k, rfl⟩ : ∃ n : Nat, x = n := ⟨x.toNat, by omega⟩
    obtain ⟨m, rfl⟩ : ∃ n : Nat, y = n := ⟨y.toNat, by omega⟩
    obtain ⟨n, rfl⟩ : ∃ n : Nat, z = n := ⟨z.toNat, by omega⟩
    have hv : vertK 8 [(k : Int), (m : Int), (n : Int)] = (if 13 < (k : Int) ∨ 13 < (m : Int) ∨ 13 < (n : Int) then 13 else (k : Int) + m + n - 1) := by unfold vertK; simp [iAt]
    rw [hv] at h3
    have hn : k + m + n ≤ 13 := by split at h3 <;> omega
    rcases j8 ⟨k, by omega⟩ ⟨m, by omega⟩ ⟨n, by omega⟩ with hz | hz | hz | hz | ga
    · simp only at hz; omega
    · simp only at hz; omega
    · simp only at hz; omega
    · simp only at hz; omega
    · exact ga
end Go.Proofs.Ytgfbihdnjidodaa
