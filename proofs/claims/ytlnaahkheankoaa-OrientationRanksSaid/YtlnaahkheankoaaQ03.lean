/- Rows of values in memory: what lies where, and what stays. -/
import Derived.Test.YtlnaahkheankoaaQ02
import Derived.Test.YtlnaahkheankoaaProg
import Derived.Below
import Derived.OwnWalk
import Derived.IntWalk
import Derived.WalkKit
import Derived.Laws.Rows
import Derived.Laws.AppendOwn
import Derived.Lib.Hide
namespace Go.Proofs.Ytlnaahkheankoaa
open Go.RowKit Go.Proofs.Gr

/-- At an address a list lies, k cells for each element. -/
def RowAt {α : Type} (k : Nat) (enc : α → List Value) (w : World) (a : Option Addr) (L : List α) : Prop :=
  ∀ j (hj : j < L.length), ∃ b off, a = some ⟨b, off, none⟩ ∧ b < w.heap.size ∧ ∀ i, i < k → w.cell? ⟨b, off + j * k + i, none⟩ = (enc L[j])[i]?
theorem RowAt.keep {α : Type} {k : Nat} {enc : α → List Value} {w w' : World} {a : Option Addr} {L : List α} (h : RowAt k enc w a L) (hb : Below w.heap.size w w') : RowAt k enc w' a L := by
  intro j hj
  obtain ⟨b, off, rfl, hlt, h1⟩ := h j hj
  exact ⟨b, off, rfl, Nat.lt_of_lt_of_le hlt hb.size, fun i hi => (hb.cell (p := ⟨b, off + j * k + i, none⟩) hlt).trans (h1 i hi)⟩
theorem RowAt.nil {α : Type} (k : Nat) (enc : α → List Value) (w : World) (a : Option Addr) : RowAt k enc w a [] := fun j hj => by simp at hj
theorem own_keep {w w' : World} {base : Nat} {e : TypeId} {size : Nat} {v : Value} {n : Nat} {xs : List Value} (h : w.ownsRow base e size v n xs) (hb : Below w.heap.size w w') : w'.ownsRow base e size v n xs :=
  h.kept (w' := w') (row := none) ⟨hb.os, hb.tape, hb.output, hb.size, fun k hk _ => hb.block k hk⟩ (by cases v.ownBlock <;> simp)
/-- A list as cells. -/
def flat {α : Type} (enc : α → List Value) (L : List α) : List Value := L.flatMap enc
theorem flat_append {α : Type} (enc : α → List Value) (L M : List α) : flat enc (L ++ M) = flat enc L ++ flat enc M := by simp [flat]
theorem flat_one {α : Type} (enc : α → List Value) (t : α) : flat enc [t] = enc t := by simp [flat]
theorem flat_cons {α : Type} (enc : α → List Value) (t : α) (L : List α) : flat enc (t :: L) = enc t ++ flat enc L := by simp [flat]
theorem flat_len {α : Type} {enc : α → List Value} {k : Nat} (hk : ∀ x, (enc x).length = k) (L : List α) : (flat enc L).length = L.length * k := by
  induction L with
  | nil => simp [flat]
  | cons t L ih => rw [flat_cons, List.length_append, ih, hk, List.length_cons, Nat.succ_mul, Nat.add_comm]
theorem flat_at {α : Type} {enc : α → List Value} {k : Nat} (hk : ∀ x, (enc x).length = k) (L : List α) (j i : Nat) (hj : j < L.length) (hi : i < k) : (flat enc L)[j * k + i]? = (enc L[j])[i]? := by
  induction L generalizing j with
  | nil => simp at hj
  | cons t L ih =>
    rw [flat_cons]
    rcases j with _ | j
    · rw [List.getElem?_append_left (by rw [hk]; omega)]; simp
    · rw [List.getElem?_append_right (by rw [hk, Nat.succ_mul]; omega), hk]
      have := ih j (by simpa using hj)
      rw [show (j + 1) * k + i - k = j * k + i by rw [Nat.succ_mul]; omega, this]
      simp
theorem RowAt.of_own {α : Type} {k : Nat} {enc : α → List Value} (hk : ∀ x, (enc x).length = k) {w : World} {base : Nat} {e : TypeId} {v : Value} {L : List α} (h : w.ownsRow base e k v L.length (flat enc L)) : ∃ a cap, v = .slice a L.length cap ∧ RowAt k enc w a L := by
  rcases h.2 with ⟨rfl, h0⟩ | ⟨g, cap, cur, rfl, -, hg, -⟩
  · rw [h0]; exact ⟨none, 0, rfl, fun j hj => by omega⟩
  · refine ⟨some ⟨g, 0, none⟩, cap, rfl, fun j hj => ⟨g, 0, rfl, (Array.getElem?_eq_some_iff.1 hg).1, fun i hi => ?_⟩⟩
    have h1 : j * k + i < L.length * k := by
      have : (j + 1) * k ≤ L.length * k := Nat.mul_le_mul_right k (by omega)
      rw [Nat.succ_mul] at this; omega
    rw [Nat.zero_add, h.cellAt (j * k + i) h1, flat_at hk L j i hj hi]
theorem below_push {w wr w1 : World} {o : Obj} {v : Value} (hB : Below w.heap.size w wr) (hv : ∀ k, v.ownBlock = some k → w.heap.size ≤ k) (hg : (wr.alloc o).grownBy w1 v.ownBlock) : Below w.heap.size w w1 :=
  (hB.alloc hB.size _).grown hg (by rw [World.size_alloc]; have := hB.size; omega) (fun k hk => hv k hk)
/-- A block of cells. -/
def Blk (w : World) (g : Nat) (t : TypeId) (cs : Array Value) : Prop := w.heap[g]? = some (.cells cs t (0, 0))
theorem Blk.lt {w : World} {g : Nat} {t : TypeId} {cs : Array Value} (h : Blk w g t cs) : g < w.heap.size := by
  rcases Nat.lt_or_ge g w.heap.size with h' | h'
  · exact h'
  · unfold Blk at h; rw [Array.getElem?_eq_none h'] at h; cases h
theorem Blk.cell {w : World} {g : Nat} {t : TypeId} {cs : Array Value} (h : Blk w g t cs) (i : Nat) : w.cell? ⟨g, i, none⟩ = cs[i]? := cell_of_row w g i cs t (0, 0) h
theorem Blk.frozen {w : World} {g : Nat} {t : TypeId} {cs : Array Value} (h : Blk w g t cs) (i : Nat) : w.frozen? ⟨g, i, none⟩ = false := by
  unfold Blk at h; simp [World.frozen?, h]
theorem Blk.far {w : World} {g : Nat} {t : TypeId} {cs : Array Value} (h : Blk w g t cs) {p : Addr} (hp : g ≠ p.block) (u : Value) : Blk (w.setCell p u) g t cs := (Below.heap_setCell w p u g hp).trans h
theorem Blk.new (w : World) (t : TypeId) (cs : Array Value) : Blk (w.alloc (.cells cs t)) w.heap.size t cs := heap_alloc_new w _
theorem Blk.alloc {w : World} {g : Nat} {t : TypeId} {cs : Array Value} (h : Blk w g t cs) (o : Obj) : Blk (w.alloc o) g t cs := (Below.heap_alloc w o g h.lt).trans h
theorem Blk.below {w w' : World} {g B : Nat} {t : TypeId} {cs : Array Value} (h : Blk w g t cs) (hb : Below B w w') (hg : g < B) : Blk w' g t cs := (hb.block g hg).trans h
theorem Blk.grown {w w' : World} {g : Nat} {t : TypeId} {cs : Array Value} {row : Option Nat} (h : Blk w g t cs) (hb : w.grownBy w' row) (hg : some g ≠ row) : Blk w' g t cs := (hb.block g h.lt hg).trans h
theorem own_blk_ne {w : World} {g : Nat} {t : TypeId} {cs : Array Value} {base : Nat} {e : TypeId} {size n : Nat} {v : Value} {xs : List Value} (h : w.ownsRow base e size v n xs) (hg : Blk w g t cs) (hne : e ≠ t) : some g ≠ v.ownBlock := by
  rcases h.2 with ⟨rfl, _⟩ | ⟨g', cap, cur, rfl, _, hh, _⟩
  · simp [Value.ownBlock]
  · intro he
    have h1 : g = g' := by simpa [Value.ownBlock] using he
    subst h1
    unfold Blk at hg
    rw [hg] at hh
    injection hh with hh
    injection hh with _ ht
    exact hne ht.symm
/-- A literal's cells. -/
theorem lit_row (w : World) (cs : List Value) (t : TypeId) : ∀ (j : Nat) (u : Value), cs[j]? = some u → (w.alloc (.cells cs.toArray t)).cell? ((⟨w.heap.size, 0, none⟩ : Addr).add j) = some u := by
  intro j u hj
  have h1 : ((⟨w.heap.size, 0, none⟩ : Addr).add j) = ⟨w.heap.size, j, none⟩ := by unfold Addr.add; split <;> simp_all
  rw [h1, cell_of_row _ _ j _ t (0, 0) (heap_alloc_new w _)]
  simpa using hj

/-- Ints, pairs, edges, bools as cells. -/
def encI (z : Int) : List Value := [.int .i64 z]
def encP (p : Int × Int) : List Value := [.int .i64 p.1, .int .i64 p.2]
def encE (x : E) : List Value := [.int .i64 x.a, .int .i64 x.b, .int .i64 x.m]
def encB (b : Bool) : List Value := [.bool b]
abbrev EsAt := RowAt 3 encE
abbrev IsAt := RowAt 1 encI
abbrev PsAt := RowAt 2 encP
theorem RowAt.three {w : World} {a : Option Addr} {L : List E} (h : EsAt w a L) (j : Nat) (hj : j < L.length) : ∃ b off, a = some ⟨b, off, none⟩ ∧ b < w.heap.size ∧ w.cell? ⟨b, off + j * 3, none⟩ = some (.int .i64 (eAt L j).a) ∧ w.cell? ⟨b, off + j * 3 + 1, none⟩ = some (.int .i64 (eAt L j).b) ∧ w.cell? ⟨b, off + j * 3 + 2, none⟩ = some (.int .i64 (eAt L j).m) := by
  obtain ⟨b, off, h1, h2, h3⟩ := h j hj
  rw [eAt_get L j hj] at h3
  exact ⟨b, off, h1, h2, h3 0 (by omega), h3 1 (by omega), h3 2 (by omega)⟩
def iAt (L : List Int) (j : Nat) : Int := L.getD j 0
theorem iAt_get (L : List Int) (j : Nat) (h : j < L.length) : L[j] = iAt L j := by
  unfold iAt; rw [List.getD_eq_getElem?_getD, List.getElem?_eq_getElem h]; rfl
theorem RowAt.one {w : World} {a : Option Addr} {L : List Int} (h : IsAt w a L) (j : Nat) (hj : j < L.length) : ∃ b off, a = some ⟨b, off, none⟩ ∧ b < w.heap.size ∧ w.cell? ⟨b, off + j, none⟩ = some (.int .i64 (iAt L j)) := by
  obtain ⟨b, off, h1, h2, h3⟩ := h j hj
  rw [iAt_get L j hj] at h3
  exact ⟨b, off, h1, h2, by have := h3 0 (by omega); simpa [encI] using this⟩
def pAt (L : List (Int × Int)) (j : Nat) : Int × Int := L.getD j (0, 0)
theorem pAt_get (L : List (Int × Int)) (j : Nat) (h : j < L.length) : L[j] = pAt L j := by
  unfold pAt; rw [List.getD_eq_getElem?_getD, List.getElem?_eq_getElem h]; rfl
theorem RowAt.two {w : World} {a : Option Addr} {L : List (Int × Int)} (h : PsAt w a L) (j : Nat) (hj : j < L.length) : ∃ b off, a = some ⟨b, off, none⟩ ∧ b < w.heap.size ∧ w.cell? ⟨b, off + j * 2, none⟩ = some (.int .i64 (pAt L j).1) ∧ w.cell? ⟨b, off + j * 2 + 1, none⟩ = some (.int .i64 (pAt L j).2) := by
  obtain ⟨b, off, h1, h2, h3⟩ := h j hj
  rw [pAt_get L j hj] at h3
  exact ⟨b, off, h1, h2, h3 0 (by omega), h3 1 (by omega)⟩
/-- A graph's value. -/
def gv (n : Int) (a : Option Addr) (l cap : Nat) : Value := .agg #[.int .i64 n, .slice a l cap]
end Go.Proofs.Ytlnaahkheankoaa
