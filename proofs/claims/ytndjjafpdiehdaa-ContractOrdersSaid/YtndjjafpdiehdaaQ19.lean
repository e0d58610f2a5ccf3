/- The rows' frame: divisors and pairs as arguments. -/
import Derived.Test.YtndjjafpdiehdaaQ10
import Derived.WideKeyArr2
namespace Go.Proofs.Ytndjjafpdiehdaa
open Go.ChangeShapes Go.WideShapes Go.ChangeAt Go.RowKit Go.Deep Go.Proofs.Gr

set_option maxRecDepth 100000 in
/-- An argument that is a divisor. -/
theorem open_dl {H : Type} {enc : TypeId × Value → H} {W : World} {b : Nat} {d : DataW H} {p : List MemPlace} {v : Value} (hv : Value.okWide Try.prog W .any b 48 v) (h0 : DataW.Trod enc Try.prog W 0 (fun _ => true) true 48 v d p) :
    ∃ a cap L, v = .slice a (List.length L) cap ∧ List.length L ≤ cap ∧ IsAt W a L := by
  obtain ⟨a0, len, cap, rfl⟩ := okWide_slice Try.underlying48 hv
  obtain ⟨fuel, hf⟩ := h0
  rcases ChangeShapes.open_ints Try.underlying48 Try.underlying3 (by kernel_rfl) hf with ⟨hcs, -⟩ | ⟨a, len', cap', zs, hcs, -, hl, hm, hz, hx⟩
  · simp [Value.cells] at hcs
    obtain ⟨rfl, rfl, rfl⟩ := hcs
    exact ⟨none, 0, [], rfl, Nat.le_refl _, RowAt.nil _ _ _ _⟩
  · simp [Value.cells] at hcs
    obtain ⟨rfl, rfl, rfl⟩ := hcs
    rw [if_pos rfl] at hz
    obtain ⟨L, hL, hR⟩ := row_of (k := 1) (by decide) (enc := encI) (fun _ => rfl) 0 (W := W) (a := a) (len := len) (fun i hi => by
      refine ⟨zs.getD i 0, fun c hc => ?_⟩
      obtain rfl : c = 0 := by omega
      rw [Nat.mul_one, Nat.add_zero, hx.2.1 i (by omega)]; rfl)
    exact ⟨some a, cap, L, by rw [hL], by rw [hL]; exact hl, hR⟩
set_option maxRecDepth 100000 in
/-- An argument that is a pair. -/
theorem open_pp {H : Type} {enc : TypeId × Value → H} {W : World} {b : Nat} {d : DataW H} {p : List MemPlace} {v : Value} (hv : Value.okWide Try.prog W .any b 25 v) (h0 : DataW.Trod enc Try.prog W 0 (fun _ => true) true 25 v d p) :
    ∃ x y, v = .agg #[.int .i64 x, .int .i64 y] := by
  obtain ⟨xs, rfl, -⟩ := WideMaps.okWide_arr arrK hv
  obtain ⟨fuel, hf⟩ := h0
  obtain ⟨x, y, hc⟩ := open_pr hf
  refine ⟨x, y, ?_⟩
  have h1 : xs.toList = [.int .i64 x, .int .i64 y] := hc
  congr 1
  exact Array.ext' (by rw [h1])
end Go.Proofs.Ytndjjafpdiehdaa
