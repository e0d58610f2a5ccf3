/- Abelian groups: a pair of elements and a factor among the arguments. -/
import Derived.Test.YtnfmcdfdbipeoaaGreatDoorQ36
import Derived.Lib.SmallJoins
namespace Go.Proofs.YtnfmcdfdbipeoaaGreatDoor
open Go.ChangeShapes Go.WideShapes Go.ChangeAt Go.RowKit Go.Joins

set_option maxRecDepth 100000 in
/-- A field that is a list of texts. -/
theorem open_cells {H : Type} {enc : TypeId × Value → H} {W : World} {n : Nat} {y : DataW H × List MemPlace} {v : Value} (hf : DataW.trod enc Tryz.prog W 0 (fun _ => true) true n 22 [v] = some y) :
    ∃ a cap L, v = .slice a (List.length L) cap ∧ TsAt W a L ∧ (∀ j, j < List.length L → (sat L j).size ≤ 9223372036854775807) ∧ List.length L ≤ 9223372036854775807 := by
  rcases open_strings Tryz.underlying22 Tryz.underlying31 (show Tryz.prog.cellsOf 31 = 1 by kernel_rfl) hf with ⟨hcs, hx⟩ | ⟨a, len', cap', ss, hcs, _, hl, hm, hz, hx, hcell, hws⟩
  · simp at hcs
    subst hcs
    exact ⟨none, 0, [], rfl, fun j hj => by simp at hj, fun j hj => by simp at hj, by simp⟩
  · simp at hcs
    subst hcs
    simp only [if_true] at hz
    have hle : len' ≤ ss.length := by omega
    have hlen : (ss.take len').length = len' := by rw [List.length_take, Nat.min_eq_left hle]
    have hget : ∀ j, j < len' → sat (ss.take len') j = ss.getD j ByteArray.empty := by
      intro j hj
      unfold sat
      simp [List.getD, hj]
    refine ⟨some a, cap', ss.take len', by rw [hlen], ?_, ?_, by rw [hlen]; unfold maxLen at hm; omega⟩
    · intro j hj
      rw [hlen] at hj
      obtain ⟨b, off, spot⟩ := a
      have hspot : spot = none := by simpa [Addr.add] using World.cell?_spot (hcell 0 (by omega))
      subst hspot
      refine ⟨b, off, rfl, World.block_lt_of_cell? W _ (hcell 0 (by omega)), ?_⟩
      rw [hget j hj]
      have := hcell j (by omega)
      by_cases e0 : j = 0
      · subst e0; simpa [Addr.add] using this
      · simpa [Addr.add, e0] using this
    · intro j hj
      rw [hlen] at hj
      rw [hget j hj]
      have h1 : ss.getD j ByteArray.empty ∈ ss := by
        have h2 : ss.getD j ByteArray.empty = ss[j]'(by omega) := by simp [List.getD, show j < ss.length by omega]
        rw [h2]
        exact List.getElem_mem _
      have := hws _ h1
      unfold maxLen at this
      omega
theorem under51 : Tryz.prog.underlying 51 = some (.struct #[{ name := "A", type := 22, offset := 0, embedded := false, tag := "", pkgPath := "", byteOffset := 0 }, { name := "B", type := 22, offset := 1, embedded := false, tag := "", pkgPath := "", byteOffset := 24 }, { name := "K", type := 31, offset := 2, embedded := false, tag := "", pkgPath := "", byteOffset := 48 }]) := by kernel_rfl
theorem cells51 : Tryz.prog.cellsOf 51 = 3 := by kernel_rfl
set_option maxRecDepth 100000 in
theorem open_pair {H : Type} {enc : TypeId × Value → H} {W : World} {b : Nat} {d : DataW H} {p : List MemPlace} {v : Value} (hv : Value.okWide Tryz.prog W .any b 51 v) (h0 : DataW.Trod enc Tryz.prog W 0 (fun _ => true) true 51 v d p) :
    ∃ a cap L b' capb M s, v = .agg #[.slice a (List.length L) cap, .slice b' (List.length M) capb, .string s] ∧ TsAt W a L ∧ (∀ j, j < List.length L → (sat L j).size ≤ 9223372036854775807) ∧ List.length L ≤ 9223372036854775807 ∧
      TsAt W b' M ∧ (∀ j, j < List.length M → (sat M j).size ≤ 9223372036854775807) ∧ List.length M ≤ 9223372036854775807 ∧ s.size ≤ 9223372036854775807 := by
  obtain ⟨v0, v1, v2, y0, y1, y2, n, rfl, rfl, rfl, g0, g1, g2⟩ := open_agg3 under51 (by kernel_rfl) cells51 hv h0
  obtain ⟨a, cap, L, rfl, t0, z0, n0⟩ := open_cells g0
  obtain ⟨b', capb, M, rfl, t1, z1, n1⟩ := open_cells g1
  obtain ⟨s, e2, -, z2⟩ := DataW.trod_string Tryz.underlying31 g2
  simp at e2
  subst e2
  exact ⟨a, cap, L, b', capb, M, s, rfl, t0, z0, n0, t1, z1, n1, by unfold maxLen at z2; omega⟩
end Go.Proofs.YtnfmcdfdbipeoaaGreatDoor
