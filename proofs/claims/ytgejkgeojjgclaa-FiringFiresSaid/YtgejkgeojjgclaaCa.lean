/- Rows of ints: made lists, stores (over the texts of graphs). -/
import Derived.Test.YtgejkgeojjgclaaGq
import Derived.Test.YtgejkgeojjgclaaGm
import Derived.Laws.OwnMore
import Derived.Deep.QuietTactic
import Derived.BigQuiet
import Derived.Lib.SliceRun
namespace Go.Proofs.Ytgejkgeojjgclaa
open Go.RowKit Go.Proofs.Gr

/-- A block of cells, as a list. -/
theorem RowAt.of_blk {α : Type} {k : Nat} {enc : α → List Value} (hk : ∀ x, (enc x).length = k) {w : World} {g : Nat} {t : TypeId} {cs : Array Value} {L : List α} (h : Blk w g t cs) (hc : cs.toList = flat enc L) : RowAt k enc w (some ⟨g, 0, none⟩) L := by
  intro j hj
  refine ⟨g, 0, rfl, h.lt, fun i hi => ?_⟩
  rw [Nat.zero_add, h.cell, ← Array.getElem?_toList, hc, flat_at hk L j i hj hi]
/-- A block that holds a list. -/
def RowB {α : Type} (enc : α → List Value) (t : TypeId) (w : World) (g : Nat) (L : List α) : Prop := Blk w g t (flat enc L).toArray
theorem RowB.row {α : Type} {enc : α → List Value} {k : Nat} (hk : ∀ x, (enc x).length = k) {t : TypeId} {w : World} {g : Nat} {L : List α} (h : RowB enc t w g L) : RowAt k enc w (some ⟨g, 0, none⟩) L :=
  RowAt.of_blk hk h rfl
theorem RowB.cell {t : TypeId} {w : World} {g : Nat} {L : List Int} (h : RowB encI t w g L) (i : Nat) (hi : i < L.length) : w.cell? ⟨g, i, none⟩ = some (.int .i64 (iAt L i)) := by
  rw [Blk.cell h i, List.getElem?_toArray]
  have := flat_at (k := 1) (enc := encI) encI_len L i 0 hi (by decide)
  rw [Nat.mul_one, Nat.add_zero] at this
  rw [this, iAt_get L i hi]; rfl
theorem flatI_map (L : List Int) : flat encI L = L.map fun z => Value.int .i64 z := by
  induction L with
  | nil => rfl
  | cons z L ih => rw [flat_cons, ih]; rfl
theorem RowB.set {t : TypeId} {w : World} {g : Nat} {L : List Int} (h : RowB encI t w g L) (i : Nat) (v : Int) : RowB encI t (w.setCell ⟨g, i, none⟩ (.int .i64 v)) g (L.set i v) := by
  have := Blk.set_ h i (.int .i64 v)
  unfold RowB
  rw [flatI_map] at this ⊢
  rw [List.map_set]
  simpa using this
theorem RowB.new {α : Type} (enc : α → List Value) (w : World) (t : TypeId) (L : List α) : RowB enc t (w.alloc (.cells (flat enc L).toArray t)) w.heap.size L := Blk.new _ _ _
theorem flat_rep {α : Type} (enc : α → List Value) (z : α) (v : Value) (k : Nat) (h : enc z = List.replicate k v) (n : Nat) : flat enc (List.replicate n z) = List.replicate (n * k) v := by
  induction n with
  | zero => simp [flat]
  | succ n ih => rw [List.replicate_succ, flat_cons, ih, h, List.replicate_append_replicate]; congr 1; rw [Nat.succ_mul, Nat.add_comm]
set_option maxRecDepth 100000 in
theorem make_divs (n : Nat) (hn : n ≤ 10000000) (w : World) : (Instr.makeSlice 28 (.int .i64 (n : Int)) (.int .i64 (n : Int))).run Try.prog w = .ok (.slice (some ⟨w.heap.size, 0, none⟩) n n) (w.alloc (.cells (flat encI (List.replicate n 0)).toArray 3)) := by
  obtain ⟨i0, hi0, hz0, hz1, hz2⟩ := info_parts infoI
  have h := run_make (P := Try.prog) w 28 3 i0 (.int .i64 0) Try.underlying28 hi0 hz0 .i64 .i64 n n (by omega) (by omega) (by rw [hz2]; omega) (by omega)
  rw [h]
  simp only [Int.toNat_natCast, hz1, Nat.mul_one]
  rw [flat_rep encI 0 (.int .i64 0) 1 rfl]
  congr 2
  refine congrArg (fun c => Obj.cells c 3) (Array.toList_inj.1 ?_)
  rw [show (Value.int .i64 0).cells = #[.int .i64 0] from rfl, toList_madeCells_one]; simp
theorem grown_set (w : World) (b i : Nat) (v : Value) : w.grownBy (w.setCell ⟨b, i, none⟩ v) (some b) :=
  ⟨rfl, rfl, rfl, by simp [World.setCell], fun k _ hne => Below.heap_setCell w ⟨b, i, none⟩ v k (fun e => hne (by rw [e]))⟩
theorem RowAt.cells {α : Type} {k : Nat} (hk0 : 0 < k) {enc : α → List Value} (hk : ∀ x, (enc x).length = k) {w : World} {b o : Nat} {L : List α} (h : RowAt k enc w (some ⟨b, o, none⟩) L) (j : Nat) (v : Value) (hj : (flat enc L)[j]? = some v) : w.cell? ((⟨b, o, none⟩ : Addr).add j) = some v := by
  have hl : j < L.length * k := by
    have := (List.getElem?_eq_some_iff.1 hj).1
    rwa [flat_len hk] at this
  have h1 : j / k < L.length := Nat.div_lt_of_lt_mul (by rwa [Nat.mul_comm] at hl)
  have h2 : j % k < k := Nat.mod_lt _ hk0
  have h3 : j / k * k + j % k = j := by rw [Nat.mul_comm]; exact Nat.div_add_mod j k
  obtain ⟨b', o', e, _, hc⟩ := h (j / k) h1
  injection e with e
  injection e with e1 e2
  subst e1 e2
  have h4 := flat_at hk L (j / k) (j % k) h1 h2
  rw [h3, hj] at h4
  have h5 := hc (j % k) h2
  rw [← h4, Nat.add_assoc, h3] at h5
  have e3 : Addr.add ⟨b, o, none⟩ j = ⟨b, o + j, none⟩ := by unfold Addr.add; split <;> simp_all
  rw [e3]; exact h5
/-- What is kept of a block of one's own. -/
theorem RowB.keep {α : Type} {enc : α → List Value} {t : TypeId} {w w' : World} {g : Nat} {L : List α} (h : RowB enc t w g L) (hb : Below w.heap.size w w') : RowB enc t w' g L := Blk.below h hb h.lt
theorem RowB.far {α : Type} {enc : α → List Value} {t : TypeId} {w : World} {g : Nat} {L : List α} (h : RowB enc t w g L) {p : Addr} (hp : g ≠ p.block) (u : Value) : RowB enc t (w.setCell p u) g L := Blk.far h hp u
theorem iAt_set (l : List Int) (i j : Nat) (v : Int) (h : i < l.length) : iAt (l.set i v) j = if i = j then v else iAt l j := by
  unfold iAt
  rw [List.getD_eq_getElem?_getD, List.getD_eq_getElem?_getD, List.getElem?_set]
  by_cases e : i = j
  · rw [if_pos e, if_pos e, if_pos h]; rfl
  · rw [if_neg e, if_neg e]
end Go.Proofs.Ytgejkgeojjgclaa
