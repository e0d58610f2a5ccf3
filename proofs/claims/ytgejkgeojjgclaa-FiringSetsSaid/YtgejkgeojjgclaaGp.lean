/- Ends of the program. -/
import Derived.Test.YtgejkgeojjgclaaGo
namespace Go.Proofs.Ytgejkgeojjgclaa
open Go.RowKit Go.Shelf Go.Proofs.Gr
attribute [local go_sem] Oper.semAt_some

theorem KpE.alloc {n₀ : Nat} {W : World} (h : n₀ ≤ W.heap.size) (o : Obj) : KpE n₀ W (W.alloc o) := ⟨(Below.refl _ W).alloc h _, fun _ _ hA => hA.alloc _⟩
theorem own_succ {w : World} {base : Nat} {e : TypeId} {size : Nat} {v : Value} {n : Nat} {xs : List Value} (h : w.ownsRow base e size v (n + 1) xs) : ∃ g c, v = .slice (some ⟨g, 0, none⟩) (n + 1) c := by
  rcases h.2 with ⟨_, h0⟩ | ⟨g, c, cur, hv, _⟩
  · omega
  · exact ⟨g, c, hv⟩
theorem ke_push {W w2 : World} {o : Obj} {v : Value} {base n k : Nat} {xs : List Value} {e : TypeId} (hrow : W.ownsRow base e k v n xs) (he : e ≠ 103) (hg : (W.alloc o).grownBy w2 v.ownBlock) (g : Nat) (cs : Array Value) (hA : Blk W g 103 cs) : Blk w2 g 103 cs :=
  (hA.alloc o).grown hg (own_blk_ne (hrow.alloc o) (hA.alloc o) he)
theorem ke_ne {w2 : World} {B g : Nat} {t : TypeId} {v : Value} {cs : Array Value} (h9 : Boxed w2 B t v) (ht : t ≠ 103) (h8 : Blk w2 g 103 cs) : g ≠ B := by
  rintro rfl
  unfold Blk at h8
  have h9' : w2.heap[g]? = some (.cells #[v] t (0, 0)) := h9
  rw [h9'] at h8
  injection h8 with h8
  injection h8 with _ h8
  exact ht h8
theorem RowAt.putObj {α : Type} {k : Nat} {enc : α → List Value} (hk : ∀ x, (enc x).length = k) {W : World} {a : Option Addr} {L : List α} (h : RowAt k enc W a L) {D : Nat} {o o' : Obj} (hD : W.heap[D]? = some o) (hc : o.isCells = false) : RowAt k enc (W.putObj D o') a L := by
  intro j hj
  obtain ⟨b, off, h1, h2, h3⟩ := h j hj
  refine ⟨b, off, h1, by simpa [World.putObj] using h2, fun i hi => ?_⟩
  have h4 := h3 i hi
  have h5 : i < (enc L[j]).length := by rw [hk]; exact hi
  rw [List.getElem?_eq_getElem h5] at h4 ⊢
  exact cell_kept h4 (grownBy_putObj' W D o') (fun r e => by cases e; exact ⟨_, hD, hc⟩)
/-- Hands back pairs and an error's number. -/
def GivesPE (w : World) (l : List (Int × Int)) (k : Nat) (e : Ending) (w' : World) : Prop := ∃ a c, e = .returned (.tuple #[.slice a l.length c, .int .i64 (k : Nat)]) ∧ PsAt w' a l ∧ Below w.heap.size w w'

end Go.Proofs.Ytgejkgeojjgclaa
