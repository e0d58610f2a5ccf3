/- How a slice of words reads as a list of numbers; what keeps such a reading. No program is named. -/
import Derived.Test.YtnfmcdfdbipeoaaGreatDoorQ02
import Derived.WalkKit
import Derived.Lib.Hide
namespace Go.Proofs.Num
open Go.RowKit

/-- The element at a place, or 0 behind the end. -/
def nth (l : List Nat) (j : Nat) : Nat := l.getD j 0

theorem nth_lt {b : Nat} (hb : 0 < b) (l : List Nat) (h : ∀ x ∈ l, x < b) (j : Nat) : nth l j < b := by
  unfold nth
  by_cases hj : j < l.length
  · rw [getD_get l j hj]; exact h _ (List.getElem_mem hj)
  · rw [getD_past l j (by omega)]; exact hb

theorem take_succ_nth (l : List Nat) (k : Nat) (hk : k < l.length) : l.take (k + 1) = l.take k ++ [nth l k] := take_succ_getD l k hk
theorem nth_past (l : List Nat) (k : Nat) (hk : l.length ≤ k) : nth l k = 0 := getD_past l k hk
theorem val_take_nth (b : Nat) (l : List Nat) (k : Nat) : val b (l.take (k + 1)) = val b (l.take k) + b ^ k * nth l k := val_take_succ b l k

/-- Numbers as values of a kind. -/
def cellsOf (q : IntKind) (l : List Nat) : List Value := l.map fun x => .int q ((x : Nat) : Int)
theorem cellsOf_length (q : IntKind) (l : List Nat) : (cellsOf q l).length = l.length := by simp [cellsOf]
theorem cellsOf_append (q : IntKind) (l m : List Nat) : cellsOf q (l ++ m) = cellsOf q l ++ cellsOf q m := by simp [cellsOf]
theorem cellsOf_nil (q : IntKind) : cellsOf q [] = [] := rfl
theorem cellsOf_one (q : IntKind) (x : Nat) : cellsOf q [x] = [.int q ((x : Nat) : Int)] := rfl
theorem cellsOf_at (q : IntKind) (l : List Nat) (j : Nat) (hj : j < l.length) : (cellsOf q l)[j]? = some (.int q ((nth l j : Nat) : Int)) := by
  simp [cellsOf, hj, nth, List.getD]

/-- At a place of memory the cells of a list lie. -/
structure RdAt (q : IntKind) (T : TypeId) (w : World) (b off cap : Nat) (l : List Nat) : Prop where
  fits : l.length ≤ cap
  lt : b < w.heap.size
  ty : ∃ cur fr, w.heap[b]? = some (.cells cur T fr)
  cell : ∀ j, j < l.length → w.cell? ⟨b, off + j, none⟩ = some (.int q ((nth l j : Nat) : Int))

/-- A slice value reads as a list of numbers. -/
def Rd (q : IntKind) (T : TypeId) (w : World) (v : Value) (l : List Nat) : Prop :=
  (l = [] ∧ ∃ a cap, v = .slice a 0 cap) ∨ (∃ b off cap, v = .slice (some ⟨b, off, none⟩) l.length cap ∧ RdAt q T w b off cap l)

theorem RdAt.keep {q : IntKind} {T : TypeId} {w w' : World} {b off cap : Nat} {l : List Nat} (h : RdAt q T w b off cap l) (hb : Below w.heap.size w w') : RdAt q T w' b off cap l :=
  ⟨h.fits, Nat.lt_of_lt_of_le h.lt hb.size, by obtain ⟨cur, fr, ht⟩ := h.ty; exact ⟨cur, fr, (hb.block b h.lt).trans ht⟩, fun j hj => (hb.cell (p := ⟨b, off + j, none⟩) h.lt).trans (h.cell j hj)⟩

theorem Rd.keep {q : IntKind} {T : TypeId} {w w' : World} {v : Value} {l : List Nat} (h : Rd q T w v l) (hb : Below w.heap.size w w') : Rd q T w' v l := by
  rcases h with h | ⟨b, off, cap, rfl, h⟩
  · exact .inl h
  · exact .inr ⟨b, off, cap, rfl, h.keep hb⟩

theorem Rd.shape {q : IntKind} {T : TypeId} {w : World} {v : Value} {l : List Nat} (h : Rd q T w v l) : ∃ a cap, v = .slice a l.length cap := by
  rcases h with ⟨rfl, a, cap, rfl⟩ | ⟨b, off, cap, rfl, h⟩
  · exact ⟨a, cap, rfl⟩
  · exact ⟨_, cap, rfl⟩

theorem Rd.nil (q : IntKind) (T : TypeId) (w : World) (a : Option Addr) (cap : Nat) : Rd q T w (.slice a 0 cap) [] := .inl ⟨rfl, a, cap, rfl⟩

/-- What a call owns reads as what it owns. -/
theorem Rd.of_own {q : IntKind} {T : TypeId} {w : World} {base : Nat} {v : Value} {l : List Nat} (h : w.ownsRow base T 1 v l.length (cellsOf q l)) : Rd q T w v l := by
  obtain ⟨_, h2⟩ := h
  rcases h2 with ⟨rfl, h0⟩ | ⟨g, cap, cur, rfl, hg, hh, hcap, hm, hs, hx⟩
  · obtain rfl : l = [] := List.length_eq_zero_iff.1 h0
    exact Rd.nil _ _ _ _ _
  · refine .inr ⟨g, 0, cap, rfl, hcap, ?_, ⟨cur, _, hh⟩, fun j hj => ?_⟩
    · exact (Array.getElem?_eq_some_iff.1 hh).1
    · have hlen : (cellsOf q l).length = l.length * 1 := by rw [cellsOf_length, Nat.mul_one]
      have hown : w.ownsRow base T 1 (.slice (some ⟨g, 0, none⟩) l.length cap) l.length (cellsOf q l) := ⟨hlen, .inr ⟨g, cap, cur, rfl, hg, hh, hcap, hm, hs, hx⟩⟩
      have := hown.cellAt j (by omega)
      rw [Nat.zero_add, this, cellsOf_at q l j hj]

/-- A slice of words reads as a number, without zeros on top. -/
def Wd (w : World) (v : Value) (n : Nat) : Prop := Rd .u64 135 w v (dig 1000000000 n)
theorem Wd.keep {w w' : World} {v : Value} {n : Nat} (h : Wd w v n) (hb : Below w.heap.size w w') : Wd w' v n := Rd.keep h hb

end Go.Proofs.Num
