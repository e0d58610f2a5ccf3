/- The rows' frame: a list of bools. And: The rows' frame: a list of ints, as long as any. -/
import Derived.Test.YtlnaahkheankoaaQ16
import Derived.Test.YtlnaahkheankoaaQ07
import Derived.Deep.Grids
namespace Go.Proofs.Ytlnaahkheankoaa
open Go.ChangeShapes Go.WideShapes Go.ChangeAt Go.RowKit Go.Deep Go.Proofs.Gr

set_option maxRecDepth 100000 in
/-- An argument that is a list of bools. -/
theorem open_bl {H : Type} {enc : TypeId × Value → H} {W : World} {b : Nat} {d : DataW H} {p : List MemPlace} {v : Value} (hv : Value.okWide Try.prog W .any b 25 v) (h0 : DataW.Trod enc Try.prog W 0 (fun _ => true) true 25 v d p) :
    ∃ a cap L, v = .slice a (List.length L) cap ∧ List.length L ≤ cap ∧ BsAt W a L := by
  obtain ⟨a0, len, cap, rfl⟩ := okWide_slice Try.underlying25 hv
  obtain ⟨fuel, hf⟩ := h0
  rcases DataW.trod_slice Try.underlying25 hf with ⟨hcs, -⟩ | ⟨a, len', cap', elems, rest, n, -, hcs, -, -, hl, hm, hlen, hel, -, -⟩
  · simp [Value.cells] at hcs
    obtain ⟨rfl, rfl, rfl⟩ := hcs
    exact ⟨none, 0, [], rfl, Nat.le_refl _, RowAt.nil _ _ _ _⟩
  · simp [Value.cells] at hcs
    obtain ⟨rfl, rfl, rfl⟩ := hcs
    obtain ⟨L, hL, hR⟩ := row_of (k := 1) (by decide) (enc := encB) (fun _ => rfl) false (W := W) (a := a) (len := len) (fun i hi => by
      have h1 := hel i hi
      rw [List.getElem?_eq_getElem (by omega), show Try.prog.cellsOf 4 = 1 by kernel_rfl, Option.bind_eq_some_iff] at h1
      obtain ⟨cs', hc, ht⟩ := h1
      obtain ⟨-, hcl, hat⟩ := World.cells?_some hc
      obtain ⟨x, rfl, -⟩ := DataW.trod_bool Try.underlying4 ht
      refine ⟨x, fun c hc => ?_⟩
      obtain rfl : c = 0 := by omega
      have k0 := hat 0 (by decide)
      by_cases e2 : i * 1 = 0
      · simpa [Addr.add, e2, encB] using k0
      · simpa [Addr.add, e2, encB] using k0)
    exact ⟨some a, cap, L, by rw [hL], by rw [hL]; exact hl, hR⟩
end Go.Proofs.Ytlnaahkheankoaa

namespace Go.Proofs.Ytlnaahkheankoaa
open Go.ChangeShapes Go.WideShapes Go.ChangeAt Go.RowKit Go.Deep Go.Proofs.Gr

set_option maxRecDepth 100000 in
/-- An argument that is a list of ints. -/
theorem open_iz {H : Type} {enc : TypeId × Value → H} {W : World} {b : Nat} {d : DataW H} {p : List MemPlace} {v : Value} (hv : Value.okWide Try.prog W .any b 28 v) (h0 : DataW.Trod enc Try.prog W 0 (fun _ => true) true 28 v d p) :
    ∃ a cap L, v = .slice a (List.length L) cap ∧ List.length L ≤ 9223372036854775807 ∧ IsAt W a L := by
  obtain ⟨a0, len, cap, rfl⟩ := okWide_slice Try.underlying28 hv
  obtain ⟨fuel, hf⟩ := h0
  rcases ChangeShapes.open_ints Try.underlying28 Try.underlying3 (by kernel_rfl) hf with ⟨hcs, -⟩ | ⟨a, len', cap', zs, hcs, -, hl, hm, hz, hx⟩
  · simp [Value.cells] at hcs
    obtain ⟨rfl, rfl, rfl⟩ := hcs
    exact ⟨none, 0, [], rfl, by simp, RowAt.nil _ _ _ _⟩
  · simp [Value.cells] at hcs
    obtain ⟨rfl, rfl, rfl⟩ := hcs
    rw [if_pos rfl] at hz
    obtain ⟨L, hL, hR⟩ := row_of (k := 1) (by decide) (enc := encI) (fun _ => rfl) 0 (W := W) (a := a) (len := len) (fun i hi => by
      refine ⟨zs.getD i 0, fun c hc => ?_⟩
      obtain rfl : c = 0 := by omega
      rw [Nat.mul_one, Nat.add_zero, hx.2.1 i (by omega)]; rfl)
    exact ⟨some a, cap, L, by rw [hL], by rw [hL]; unfold maxLen at hm; omega, hR⟩
end Go.Proofs.Ytlnaahkheankoaa
