/- What calls and stores into some boxes of two cells leave as it was. -/
import Derived.Test.YtbmonfbbkmpdhaaDoorNa
namespace Go.Proofs.YtbmonfbbkmpdhaaDoor
open Go.RowKit Go.Proofs.Num

/-- A box of two cells of a type. -/
def Box (T : TypeId) (w : World) (b : Nat) (x y : Value) : Prop := w.heap[b]? = some (.cells #[x, y] T (0, 0))

theorem Box.lt {T : TypeId} {w : World} {b : Nat} {x y : Value} (h : Box T w b x y) : b < w.heap.size := (Array.getElem?_eq_some_iff.1 h).1
theorem Box.c0 {T : TypeId} {w : World} {b : Nat} {x y : Value} (h : Box T w b x y) : w.cell? ⟨b, 0, none⟩ = some x := by
  rw [cell_of_row w b 0 _ T (0, 0) h]; rfl
theorem Box.c1 {T : TypeId} {w : World} {b : Nat} {x y : Value} (h : Box T w b x y) : w.cell? ⟨b, 1, none⟩ = some y := by
  rw [cell_of_row w b 1 _ T (0, 0) h]; rfl
theorem Box.f0 {T : TypeId} {w : World} {b : Nat} {x y : Value} (h : Box T w b x y) (j : Nat) : w.frozen? ⟨b, j, none⟩ = false := frozen_of_row w b j _ T h
theorem Box.keep {T : TypeId} {w w' : World} {b : Nat} {x y : Value} (h : Box T w b x y) (hb : Below w.heap.size w w') : Box T w' b x y := (hb.block b h.lt).trans h
theorem Box.set0 {T : TypeId} {w : World} {b : Nat} {x y : Value} (h : Box T w b x y) (u : Value) : Box T (w.setCell ⟨b, 0, none⟩ u) b u y := by
  unfold Box; rw [heap_setCell_same w b 0 _ T u h]; rfl
theorem Box.set1 {T : TypeId} {w : World} {b : Nat} {x y : Value} (h : Box T w b x y) (u : Value) : Box T (w.setCell ⟨b, 1, none⟩ u) b x u := by
  unfold Box; rw [heap_setCell_same w b 1 _ T u h]; rfl
theorem Box.other {T : TypeId} {w : World} {b : Nat} {x y : Value} (h : Box T w b x y) (p : Addr) (u : Value) (hp : b ≠ p.block) : Box T (w.setCell p u) b x y := by
  unfold Box; rw [heap_setCell_other w p b u hp]; exact h
theorem Box.new (T : TypeId) (w : World) (x y : Value) : Box T (w.alloc (.cells #[x, y] T)) w.heap.size x y := heap_alloc_new w _
theorem Box.alloc {T : TypeId} {w : World} {b : Nat} {x y : Value} (h : Box T w b x y) (o : Obj) : Box T (w.alloc o) b x y := h.keep (below1 w o)
theorem Box.drew {T : TypeId} {w : World} {b : Nat} {x y : Value} (h : Box T w b x y) : Box T w.drew b x y := h
theorem Box.drewN {T : TypeId} {w : World} {b : Nat} {x y : Value} (h : Box T w b x y) (n : Nat) : Box T (w.drewN n) b x y := h

/-- Behind W nothing has turned but the boxes ws (of type 73), which are boxes still. -/
structure Kept (ws : List Nat) (W w' : World) : Prop where
  os : w'.os = W.os
  tape : w'.tape = W.tape
  output : w'.output = W.output
  size : W.heap.size ≤ w'.heap.size
  block : ∀ k, k < W.heap.size → k ∉ ws → w'.heap[k]? = W.heap[k]?
  wr : ∀ r, r ∈ ws → ∃ x y, Box 73 w' r x y

theorem Kept.step {ws : List Nat} {W x y : World} (h : Kept ws W x) (hb : Below x.heap.size x y) : Kept ws W y :=
  ⟨hb.os.trans h.os, hb.tape.trans h.tape, hb.output.trans h.output, Nat.le_trans h.size hb.size, fun k hk hn => (hb.block k (Nat.lt_of_lt_of_le hk h.size)).trans (h.block k hk hn),
    fun r hr => by obtain ⟨a, b, hB⟩ := h.wr r hr; exact ⟨a, b, hB.keep hb⟩⟩
theorem Kept.drew {ws : List Nat} {W x : World} (h : Kept ws W x) : Kept ws W x.drew := h.step (Below.refl _ _).drew
theorem Kept.alloc {ws : List Nat} {W x : World} (h : Kept ws W x) (o : Obj) : Kept ws W (x.alloc o) := h.step (below1 x o)
theorem Kept.start {ws : List Nat} {W : World} (h : ∀ r, r ∈ ws → ∃ x y, Box 73 W r x y) : Kept ws W W := ⟨rfl, rfl, rfl, Nat.le_refl _, fun _ _ _ => rfl, h⟩
theorem Kept.store {ws : List Nat} {W x : World} (h : Kept ws W x) (r : Nat) (u v : Value) (hr : r ∈ ws) : Kept ws W ((x.setCell ⟨r, 0, none⟩ u).setCell ⟨r, 1, none⟩ v) := by
  refine ⟨h.os, h.tape, h.output, by simpa [World.setCell] using h.size, fun k hk hn => ?_, fun q hq => ?_⟩
  · have hkr : k ≠ r := fun e => hn (e ▸ hr)
    rw [heap_setCell_other _ _ k v hkr, heap_setCell_other _ _ k u hkr]
    exact h.block k hk hn
  · obtain ⟨a, b, hB⟩ := h.wr q hq
    by_cases e : q = r
    · subst e; exact ⟨u, v, (hB.set0 u).set1 v⟩
    · exact ⟨a, b, (hB.other ⟨r, 0, none⟩ u e).other ⟨r, 1, none⟩ v e⟩
theorem Kept.box {ws : List Nat} {W w' : World} (h : Kept ws W w') {T : TypeId} {b : Nat} {x y : Value} (hB : Box T W b x y) (hn : b ∉ ws) : Box T w' b x y := (h.block b hB.lt hn).trans hB
theorem Kept.below {ws : List Nat} {W w' : World} (h : Kept ws W w') {B : Nat} (hB : B ≤ W.heap.size) (hw : ∀ r ∈ ws, B ≤ r) : Below B W w' :=
  ⟨h.os, h.tape, h.output, h.size, fun k hk => h.block k (Nat.lt_of_lt_of_le hk hB) (fun hm => by have := hw k hm; omega)⟩
theorem Kept.from {ws : List Nat} {w W w' : World} (h : Kept ws W w') (h0 : Below w.heap.size w W) (hw : ∀ r ∈ ws, w.heap.size ≤ r) : Below w.heap.size w w' := h0.trans (h.below h0.size hw)

/-- A store into a box of another type turns no slice. -/
theorem Rd.store {q : IntKind} {T T' : TypeId} {w : World} {v : Value} {l : List Nat} {r : Nat} {x y : Value} (h : Rd q T w v l) (hB : Box T' w r x y) (hne : T ≠ T') (j : Nat) (u : Value) : Rd q T (w.setCell ⟨r, j, none⟩ u) v l := by
  rcases h with h | ⟨b, off, cap, rfl, h⟩
  · exact .inl h
  · have hbr : b ≠ r := by
      rintro rfl
      obtain ⟨cur, fr, ht⟩ := h.ty
      unfold Box at hB
      rw [ht] at hB
      simp at hB
      exact hne hB.2.1
    obtain ⟨cur, fr, ht⟩ := h.ty
    refine .inr ⟨b, off, cap, rfl, h.fits, by simpa [World.setCell] using h.lt, ⟨cur, fr, by rw [heap_setCell_other w ⟨r, j, none⟩ b u hbr]; exact ht⟩, fun k hk => ?_⟩
    rw [World.cell?_setCell_other _ _ _ _ (by intro e; cases e; exact hbr rfl)]
    exact h.cell k hk

theorem Rd.stores {q : IntKind} {T T' : TypeId} {w : World} {v : Value} {l : List Nat} {r : Nat} {x y : Value} (h : Rd q T w v l) (hB : Box T' w r x y) (hne : T ≠ T') (u v' : Value) : Rd q T ((w.setCell ⟨r, 0, none⟩ u).setCell ⟨r, 1, none⟩ v') v l :=
  Rd.store (Rd.store h hB hne 0 u) (hB.set0 u) hne 1 v'
end Go.Proofs.YtbmonfbbkmpdhaaDoor
