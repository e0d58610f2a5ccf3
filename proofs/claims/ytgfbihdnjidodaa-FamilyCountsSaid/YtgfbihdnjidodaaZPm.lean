/- Families: the spanning trees of small graphs. -/
import Derived.Test.YtgfbihdnjidodaaZPmb
import Derived.Test.YtgfbihdnjidodaaZPmc
import Derived.Test.YtgfbihdnjidodaaZPmd
import Derived.Test.YtgfbihdnjidodaaZPme
import Derived.Test.YtgfbihdnjidodaaZPmf
import Derived.Test.YtgfbihdnjidodaaZPmg
import Derived.Test.YtgfbihdnjidodaaZPmh
import Derived.Test.YtgfbihdnjidodaaZPmi
import Derived.Test.YtgfbihdnjidodaaZPmj
namespace Go.Proofs.Ytgfbihdnjidodaa
open Go.RowKit Go.Shelf Go.Proofs.Gr

theorem t8 : ∀ k m n : Fin 12, k.1 = 0 ∨ m.1 = 0 ∨ n.1 = 0 ∨ 13 < k.1 + m.1 + n.1 ∨ coT 8 [(k.1 : Int), (m.1 : Int), (n.1 : Int)] = true := by
  intro k m n
  by_cases hm : m.1 = 0
  · exact .inr (.inl hm)
  have hm1 : m.1 ≤ 11 := by omega
  obtain ⟨k, hk⟩ := k
  have hc : k = 0 ∨ k = 1 ∨ k = 2 ∨ k = 3 ∨ k = 4 ∨ k = 5 ∨ k = 6 ∨ k = 7 ∨ k = 8 ∨ k = 9 ∨ k = 10 ∨ k = 11 := by omega
  rcases hc with rfl | rfl | rfl | rfl | rfl | rfl | rfl | rfl | rfl | rfl | rfl | rfl
  · exact .inl rfl
  · by_cases c0 : m.1 ≤ 1
    · rcases t8_1_1 m n with h | h | h | h | h
      · omega
      · omega
      · exact .inr (.inr (.inl h))
      · exact .inr (.inr (.inr (.inl h)))
      · exact .inr (.inr (.inr (.inr h)))
    by_cases c1 : m.1 ≤ 2
    · rcases t8_1_2 m n with h | h | h | h | h
      · omega
      · omega
      · exact .inr (.inr (.inl h))
      · exact .inr (.inr (.inr (.inl h)))
      · exact .inr (.inr (.inr (.inr h)))
    rcases t8_1_3 m n with h | h | h | h | h
    · omega
    · omega
    · exact .inr (.inr (.inl h))
    · exact .inr (.inr (.inr (.inl h)))
    · exact .inr (.inr (.inr (.inr h)))
  · by_cases c0 : m.1 ≤ 2
    · rcases t8_2_1 m n with h | h | h | h | h
      · omega
      · omega
      · exact .inr (.inr (.inl h))
      · exact .inr (.inr (.inr (.inl h)))
      · exact .inr (.inr (.inr (.inr h)))
    rcases t8_2_3 m n with h | h | h | h | h
    · omega
    · omega
    · exact .inr (.inr (.inl h))
    · exact .inr (.inr (.inr (.inl h)))
    · exact .inr (.inr (.inr (.inr h)))
  · rcases t8_3_1 m n with h | h | h | h | h
    · omega
    · omega
    · exact .inr (.inr (.inl h))
    · exact .inr (.inr (.inr (.inl h)))
    · exact .inr (.inr (.inr (.inr h)))
  · rcases t8_4_1 m n with h | h | h | h | h
    · omega
    · omega
    · exact .inr (.inr (.inl h))
    · exact .inr (.inr (.inr (.inl h)))
    · exact .inr (.inr (.inr (.inr h)))
  · rcases t8_5_1 m n with h | h | h | h | h
    · omega
    · omega
    · exact .inr (.inr (.inl h))
    · exact .inr (.inr (.inr (.inl h)))
    · exact .inr (.inr (.inr (.inr h)))
  · rcases t8_6_1 m n with h | h | h | h | h
    · omega
    · omega
    · exact .inr (.inr (.inl h))
    · exact .inr (.inr (.inr (.inl h)))
    · exact .inr (.inr (.inr (.inr h)))
  · rcases t8_7_1 m n with h | h | h | h | h
    · omega
    · omega
    · exact .inr (.inr (.inl h))
    · exact .inr (.inr (.inr (.inl h)))
    · exact .inr (.inr (.inr (.inr h)))
  · rcases t8_8_1 m n with h | h | h | h | h
    · omega
    · omega
    · exact .inr (.inr (.inl h))
    · exact .inr (.inr (.inr (.inl h)))
    · exact .inr (.inr (.inr (.inr h)))
  · rcases t8_9_1 m n with h | h | h | h | h
    · omega
    · omega
    · exact .inr (.inr (.inl h))
    · exact .inr (.inr (.inr (.inl h)))
    · exact .inr (.inr (.inr (.inr h)))
  · rcases t8_10_1 m n with h | h | h | h | h
    · omega
    · omega
    · exact .inr (.inr (.inl h))
    · exact .inr (.inr (.inr (.inl h)))
    · exact .inr (.inr (.inr (.inr h)))
  · rcases t8_11_1 m n with h | h | h | h | h
    · omega
    · omega
    · exact .inr (.inr (.inl h))
    · exact .inr (.inr (.inr (.inl h)))
    · exact .inr (.inr (.inr (.inr h)))
theorem fam_counts (kind : Nat) (hk : kind ≤ 8) (L : List Int) (h : famE kind L = 0) : coT kind L = true := by
  obtain ⟨h1, h2, h3⟩ := famE_zero h
  clear h
  have K : kind = 0 ∨ kind = 1 ∨ kind = 2 ∨ kind = 3 ∨ kind = 4 ∨ kind = 5 ∨ kind = 6 ∨ kind = 7 ∨ kind = 8 := by omega
  rcases K with rfl | rfl | rfl | rfl | rfl | rfl | rfl | rfl | rfl
  · obtain ⟨x, rfl⟩ := one_of h1
    have hx := h2 x (by simp)
    obtain ⟨n, rfl⟩ : ∃ n : Nat, x = n := ⟨x.toNat, by omega⟩
    have hv : vertK 0 [(n : Int)] = (if 13 < (n : Int) then 13 else (n : Int)) := by unfold vertK; simp [iAt]
    rw [hv] at h3
    have hn : n ≤ 12 := by split at h3 <;> omega
    rcases t0 ⟨n, by omega⟩ with hz | ga
    · simp only at hz; omega
    · exact ga
  · obtain ⟨x, rfl⟩ := one_of h1
    have hx := h2 x (by simp)
    obtain ⟨n, rfl⟩ : ∃ n : Nat, x = n := ⟨x.toNat, by omega⟩
    have hv : vertK 1 [(n : Int)] = (if 13 < (n : Int) then 13 else (n : Int)) := by unfold vertK; simp [iAt]
    rw [hv] at h3
    have hn : n ≤ 12 := by split at h3 <;> omega
    rcases t1 ⟨n, by omega⟩ with hz | ga
    · simp only at hz; omega
    · exact ga
  · obtain ⟨x, rfl⟩ := one_of h1
    have hx := h2 x (by simp)
    obtain ⟨n, rfl⟩ : ∃ n : Nat, x = n := ⟨x.toNat, by omega⟩
    have hv : vertK 2 [(n : Int)] = (if 13 < (n : Int) then 13 else (n : Int) + 1) := by unfold vertK; simp [iAt]
    rw [hv] at h3
    have hn : n ≤ 11 := by split at h3 <;> omega
    rcases t2 ⟨n, by omega⟩ with hz | ga
    · simp only at hz; omega
    · exact ga
  · obtain ⟨x, rfl⟩ := one_of h1
    have hx := h2 x (by simp)
    obtain ⟨n, rfl⟩ : ∃ n : Nat, x = n := ⟨x.toNat, by omega⟩
    have hv : vertK 3 [(n : Int)] = (if 13 < (n : Int) then 13 else (n : Int)) := by unfold vertK; simp [iAt]
    rw [hv] at h3
    have hn : n ≤ 12 := by split at h3 <;> omega
    rcases t3 ⟨n, by omega⟩ with hz | ga
    · simp only at hz; omega
    · exact ga
  · obtain ⟨x, rfl⟩ := one_of h1
    have hx := h2 x (by simp)
    obtain ⟨n, rfl⟩ : ∃ n : Nat, x = n := ⟨x.toNat, by omega⟩
    have hv : vertK 4 [(n : Int)] = (if 50 < (n : Int) then 13 else 2) := by unfold vertK; simp [iAt]
    rw [hv] at h3
    have hn : n ≤ 50 := by split at h3 <;> omega
    rcases t4 ⟨n, by omega⟩ with hz | ga
    · simp only at hz; omega
    · exact ga
  · obtain ⟨x, rfl⟩ := one_of h1
    have hx := h2 x (by simp)
    obtain ⟨n, rfl⟩ : ∃ n : Nat, x = n := ⟨x.toNat, by omega⟩
    have hv : vertK 5 [(n : Int)] = (if 13 < (n : Int) then 13 else (n : Int) + 1) := by unfold vertK; simp [iAt]
    rw [hv] at h3
    have hn : n ≤ 11 := by split at h3 <;> omega
    rcases t5 ⟨n, by omega⟩ with hz | ga
    · simp only at hz; omega
    · exact ga
  · obtain ⟨x, y, rfl⟩ := two_of h1
    have hx := h2 x (by simp)
    have hy := h2 y (by simp)
    obtain ⟨m, rfl⟩ : ∃ n : Nat, x = n := ⟨x.toNat, by omega⟩
    obtain ⟨n, rfl⟩ : ∃ n : Nat, y = n := ⟨y.toNat, by omega⟩
    have hv : vertK 6 [(m : Int), (n : Int)] = (if 13 < (m : Int) ∨ 13 < (n : Int) then 13 else (m : Int) + n) := by unfold vertK; simp [iAt]
    rw [hv] at h3
    have hn : m + n ≤ 12 := by split at h3 <;> omega
    rcases t6 ⟨m, by omega⟩ ⟨n, by omega⟩ with hz | hz | hz | ga
    · simp only at hz; omega
    · simp only at hz; omega
    · simp only at hz; omega
    · exact ga
  · obtain ⟨x, y, rfl⟩ := two_of h1
    have hx := h2 x (by simp)
    have hy := h2 y (by simp)
    obtain ⟨m, rfl⟩ : ∃ n : Nat, x = n := ⟨x.toNat, by omega⟩
    obtain ⟨n, rfl⟩ : ∃ n : Nat, y = n := ⟨y.toNat, by omega⟩
    have hv : vertK 7 [(m : Int), (n : Int)] = (if 13 < (m : Int) ∨ 13 < (n : Int) then 13 else (m : Int) * n) := by unfold vertK; simp [iAt]
    rw [hv] at h3
    have ht : ¬ (13 < (m : Int) ∨ 13 < (n : Int)) := fun ht => by rw [if_pos ht] at h3; omega
    rw [if_neg ht] at h3
    have hn : m * n ≤ 12 := by
      rw [← Int.natCast_mul] at h3; omega
    have hm1 : m ≤ m * n := Nat.le_mul_of_pos_right _ (by omega)
    have hn1 : n ≤ m * n := Nat.le_mul_of_pos_left _ (by omega)
    rcases t7 ⟨m, by omega⟩ ⟨n, by omega⟩ with hz | hz | hz | ga
    · simp only at hz; omega
    · simp only at hz; omega
    · simp only at hz; omega
    · exact ga
  · obtain ⟨x, y, z, rfl⟩ := three_of h1
    have hx := h2 x (by simp)
    have hy := h2 y (by simp)
    have hz' := h2 z (by simp)
    obtain ⟨k, rfl⟩ : ∃ n : Nat, x = n := ⟨x.toNat, by omega⟩
    obtain ⟨m, rfl⟩ : ∃ n : Nat, y = n := ⟨y.toNat, by omega⟩
    obtain ⟨n, rfl⟩ : ∃ n : Nat, z = n := ⟨z.toNat, by omega⟩
    have hv : vertK 8 [(k : Int), (m : Int), (n : Int)] = (if 13 < (k : Int) ∨ 13 < (m : Int) ∨ 13 < (n : Int) then 13 else (k : Int) + m + n - 1) := by unfold vertK; simp [iAt]
    rw [hv] at h3
    have hn : k + m + n ≤ 13 := by split at h3 <;> omega
    rcases t8 ⟨k, by omega⟩ ⟨m, by omega⟩ ⟨n, by omega⟩ with hz | hz | hz | hz | ga
    · simp only at hz; omega
    · simp only at hz; omega
    · simp only at hz; omega
    · simp only at hz; omega
    · exact ga
end Go.Proofs.Ytgfbihdnjidodaa
