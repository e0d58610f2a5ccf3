/- The sort of single edges. And: The new numbers of single edges, by the program. -/
import Derived.Test.YtndjjafpdiehdaaQ08
import Derived.Test.YtndjjafpdiehdaaQ11
import Derived.Test.YtndjjafpdiehdaaQ06
namespace Go.Proofs.Ytndjjafpdiehdaa
open Go.RowKit Go.Shelf Go.Lib Go.Sort Go.Proofs.Gr

theorem RowAt.grown {α : Type} {k : Nat} {enc : α → List Value} {w w' : World} {b o : Nat} {L : List α} {row : Option Nat} (h : RowAt k enc w (some ⟨b, o, none⟩) L) (hg : w.grownBy w' row) (hb : some b ≠ row) : RowAt k enc w' (some ⟨b, o, none⟩) L := by
  intro j hj
  obtain ⟨b1, o1, h1, h2, h3⟩ := h j hj
  injection h1 with h1
  injection h1 with e1 e2
  subst e1 e2
  refine ⟨b, o, rfl, Nat.lt_of_lt_of_le h2 hg.size, fun i hi => ?_⟩
  rw [← h3 i hi]
  simp only [World.cell?, hg.block b h2 hb]
theorem cell_grown {w w' : World} {b i : Nat} {row : Option Nat} (hg : w.grownBy w' row) (h2 : b < w.heap.size) (hb : some b ≠ row) : w'.cell? ⟨b, i, none⟩ = w.cell? ⟨b, i, none⟩ := by
  simp only [World.cell?, hg.block b h2 hb]
section
variable {n : Nat}
def encF (x : Fin n) : Value := .int .i64 (x.1 : Int)
theorem oneF : OneCell (encF (n := n)) := fun _ => rfl
theorem heap_sort1 [Inhabited (Fin n)] {w : World} {g m : Nat} {os : Array Obj} {cur : Array Value} {e : TypeId} {fr : Nat × Nat} (d : Array (Fin n)) (hb : w.heap[g]? = some (.cells cur e fr)) :
    (sortWorld encF w g 0 m d os).heap[g]? = some (.cells (putCells encF 0 d cur) e fr) := by
  have hg : g < w.heap.size := (Array.getElem?_eq_some_iff.1 hb).1
  unfold sortWorld
  rw [heap_grow_old _ _ (by simpa using hg)]
  simp [putRow, mapBlock, Sort.ahead, Array.getElem?_modify, hb, onCells]
theorem grown_sort1 [Inhabited (Fin n)] {w : World} {g m : Nat} {os : Array Obj} (d : Array (Fin n)) : w.grownBy (sortWorld encF w g 0 m d os) (some g) := by
  unfold sortWorld
  refine ⟨rfl, rfl, rfl, by simp, fun k hk hne => ?_⟩
  rw [heap_grow_old _ _ (by simpa using hk)]
  have : g ≠ k := fun e => hne (by rw [e])
  simp [putRow, mapBlock, Sort.ahead, Array.getElem?_modify, this]
theorem flatF (L : List (Fin n)) : flat encI (L.map fun x => (x.1 : Int)) = L.map encF := by
  induction L with
  | nil => rfl
  | cons x L ih => rw [List.map_cons, flat_cons, ih]; rfl
theorem holds_own1 [Inhabited (Fin n)] {w : World} {g : Nat} {cur : Array Value} {e : TypeId} {L : List (Fin n)} (hb : w.heap[g]? = some (.cells cur e (0, 0))) (ht : cur.toList.take L.length = L.map encF) : Holds encF w g 0 L.toArray := by
  intro j hj
  have hj' : j < L.length := by simpa using hj
  refine ⟨?_, by simp [World.frozen?, hb]⟩
  have h1 : (cur.toList.take L.length)[j]? = (L.map encF)[j]? := by rw [ht]
  rw [List.getElem?_take_of_lt hj'] at h1
  simp only [World.cell?, hb, Nat.zero_add]
  simp only [Option.isSome_none, Bool.false_eq_true, if_false]
  rw [← Array.getElem?_toList, h1, List.getElem?_map, List.getElem?_eq_getElem hj', getElem!_pos L.toArray j hj]
  simp
theorem take_put1 [Inhabited (Fin n)] (cur : Array Value) (d : Array (Fin n)) (h : d.size ≤ cur.size) : (putCells encF 0 d cur).toList.take d.size = d.toList.map encF := by
  apply List.ext_getElem?
  intro j
  by_cases hj : j < d.size
  · rw [List.getElem?_take_of_lt hj, Array.getElem?_toList, List.getElem?_map]
    simp [putCells, hj, show j < cur.size by omega]
  · rw [List.getElem?_take_eq_none (by omega), List.getElem?_eq_none (by simp; omega)]
theorem entersN (args : Array Value) (w : World) : (callFunc 92 args).run Try.prog w = .ok (.enter 92 args) w := by kernel_rfl
end
/-- The function by which places are compared. -/
def ordV (b5 b3 : Nat) : Array Value := #[.pointer (some ⟨b5, 0, none⟩), .pointer (some ⟨b3, 0, none⟩)]
theorem cmp_lays1 (Q : List (Int × Int)) [Inhabited (Fin Q.length)] (b5 b3 b o c g size : Nat) (w : World) (k5 : b5 < w.heap.size) (k3 : b3 < w.heap.size)
    (h5 : w.cell? ⟨b5, 0, none⟩ = some cmpV) (h3 : w.cell? ⟨b3, 0, none⟩ = some (.slice (some ⟨b, o, none⟩) Q.length c)) (hQ : PsAt w (some ⟨b, o, none⟩) Q) (n5 : b5 ≠ g) (n3 : b3 ≠ g) (nb : b ≠ g) :
    CmpLays1 Try.prog 92 (ordV b5 b3) (encF (n := Q.length)) (fun x y => cmpP (pAt Q x) (pAt Q y)) g 0 size w := by
  intro m os dk _ x y
  have hg := grown_sort1 (w := w) (g := g) (m := m) (os := os) dk
  have hs := hg.size
  refine Calls.mono (num1_any b5 b3 b o c Q x.1 y.1 x.2 y.2 (sortWorld encF w g 0 m dk os) (by omega) (by omega) ((cell_grown hg k5 (by simpa using n5)).trans h5) ((cell_grown hg k3 (by simpa using n3)).trans h3) (hQ.grown hg (by simpa using nb))) ?_
  rintro e w' ⟨rfl, o1, o2, o3, rfl⟩
  refine ⟨rfl, 2, #[o1, o2, o3], ?_⟩
  unfold grow World.alloc World.drew World.drewN
  rw [push3]
theorem pins_any (base : Nat) (sa : Option Addr) (cap : Nat) (Q : List (Int × Int)) (D : List Nat) (hD : D.Pairwise (· < ·)) (hDl : ∀ x ∈ D, x < Q.length) (hDs : D.length ≤ 1000) (b5 b3 b o c : Nat) (w : World) (k5 : b5 < w.heap.size) (k3 : b3 < w.heap.size)
    (h5 : w.cell? ⟨b5, 0, none⟩ = some cmpV) (h3 : w.cell? ⟨b3, 0, none⟩ = some (.slice (some ⟨b, o, none⟩) Q.length c)) (hQ : PsAt w (some ⟨b, o, none⟩) Q)
    (hown : w.ownsRow base 3 1 (.slice sa D.length cap) D.length (flat encI (D.map fun x : Nat => (x : Int)))) (n5 : some b5 ≠ (Value.slice sa D.length cap).ownBlock) (n3 : some b3 ≠ (Value.slice sa D.length cap).ownBlock) (nb : some b ≠ (Value.slice sa D.length cap).ownBlock) :
    Calls Try.prog 103 #[.slice sa D.length cap, .int .i64 0, .int .i64 D.length, .func (.func 92) #[] (ordV b5 b3)] w
      (fun e w' => e = .returned (.tuple #[]) ∧ ∃ M : List Nat, M.Perm D ∧ M.Pairwise (fun x y => ltI Q x y = true) ∧ w'.ownsRow base 3 1 (.slice sa D.length cap) D.length (flat encI (M.map fun x : Nat => (x : Int))) ∧ w.grownBy w' (Value.slice sa D.length cap).ownBlock) := by
  rcases hown.2 with ⟨h0, h1⟩ | ⟨g, cap', cur, hv, hbase, hg, hn, hcap, hcur, htake⟩
  · obtain rfl : D = [] := List.length_eq_zero_iff.1 h1
    haveI : Inhabited (Fin 1) := ⟨⟨0, by decide⟩⟩
    refine (Try.insertionSortCmpFunc_none (α := Fin 1) sa cap (.func (.func 92) #[] (ordV b5 b3)) w).mono ?_
    rintro e w' ⟨rfl, rfl⟩
    exact ⟨rfl, [], List.Perm.refl _, List.Pairwise.nil, hown, ⟨rfl, rfl, rfl, Nat.le_refl _, fun _ _ _ => rfl⟩⟩
  · injection hv with hv1 hv2 hv3
    subst hv1 hv3
    have hlt : g < w.heap.size := (Array.getElem?_eq_some_iff.1 hg).1
    by_cases hq : Q.length = 0
    · have hD0 : D = [] := by
        cases D with
        | nil => rfl
        | cons x r => have := hDl x (by simp); omega
      subst hD0
      haveI : Inhabited (Fin 1) := ⟨⟨0, by decide⟩⟩
      refine (Try.insertionSortCmpFunc_none (α := Fin 1) (some ⟨g, 0, none⟩) cap (.func (.func 92) #[] (ordV b5 b3)) w).mono ?_
      rintro e w' ⟨rfl, rfl⟩
      exact ⟨rfl, [], List.Perm.refl _, List.Pairwise.nil, hown, ⟨rfl, rfl, rfl, Nat.le_refl _, fun _ _ _ => rfl⟩⟩
    haveI : Inhabited (Fin Q.length) := ⟨⟨0, by omega⟩⟩
    obtain ⟨DF, hDF⟩ : ∃ DF : List (Fin Q.length), DF.map (fun x => x.1) = D := ⟨D.pmap (fun x h => ⟨x, h⟩) hDl, by rw [List.map_pmap]; simp⟩
    have hlen : DF.length = D.length := by rw [← hDF, List.length_map]
    have hmm : (D.map fun x : Nat => (x : Int)) = DF.map fun x => (x.1 : Int) := by rw [← hDF, List.map_map]; rfl
    have hDFp : DF.Pairwise (fun x y => x.1 < y.1) := by rw [← hDF, List.pairwise_map] at hD; exact hD
    have htk : cur.toList.take DF.length = DF.map encF := by rw [hlen, ← Nat.mul_one D.length, htake, hmm, flatF]
    have hgo : Calls Try.prog 103 #[.slice (some ⟨g, 0, none⟩) DF.toArray.size cap, .int .i64 (0 : Nat), .int .i64 DF.toArray.size, .func (.func 92) #[] (ordV b5 b3)] w _ :=
      Try.insertionSortCmpFunc_s (encF (n := Q.length)) (fun x y => cmpP (pAt Q x) (pAt Q y)) 92 (ordV b5 b3) g 0 cap 0 DF.toArray.size DF.toArray DF.toArray w w entersN
        (cmp_lays1 Q b5 b3 b o c g DF.toArray.size w k5 k3 h5 h3 hQ (by simpa [Value.ownBlock] using n5) (by simpa [Value.ownBlock] using n3) (by simpa [Value.ownBlock] using nb)) ⟨oneF, holds_own1 hg htk, hlt⟩ rfl (SW.start (holds_own1 hg htk)) (Nat.zero_le _) (Nat.le_refl _) (by simp; omega)
    have hst := stable_sorted Q Q.length DF hDFp (ltOf fun x y => cmpP (pAt Q x) (pAt Q y)) (fun x y => by unfold ltOf; rw [Bool.eq_iff_iff, decide_eq_true_iff, cmpP_lt])
    simp only [List.size_toArray, hlen] at hgo hst
    refine Calls.mono hgo ?_
    rintro e w' ⟨rfl, m, os, rfl⟩
    obtain ⟨hp, ho⟩ := hst
    generalize insertionSort (ltOf fun x y : Fin Q.length => cmpP (pAt Q x) (pAt Q y)) DF.toArray 0 D.length = d' at *
    have hdl : d'.size = D.length := by rw [← hlen, ← hp.length_eq]; simp
    refine ⟨rfl, d'.toList.map (fun x => x.1), by rw [← hDF]; exact hp.map _, by rw [List.pairwise_map]; exact ho, ?_, ?_⟩
    · refine ⟨by rw [flat_len (k := 1) (fun _ => rfl), List.length_map, List.length_map]; simpa using hdl, .inr ⟨g, cap, _, rfl, hbase, heap_sort1 _ hg, hn, hcap, by simp [putCells, hcur], ?_⟩⟩
      have h6 := take_put1 cur d' (by rw [hcur, hdl]; omega)
      rw [hdl] at h6
      rw [Nat.mul_one, h6, List.map_map, ← flatF]; rfl
    · exact grown_sort1 d'
end Go.Proofs.Ytndjjafpdiehdaa

namespace Go.Proofs.Ytndjjafpdiehdaa
open Go.RowKit Go.Shelf Go.Proofs.Gr
attribute [local go_sem] Oper.semAt_some

/-- What the sort hands back. -/
def GivesSort (w : World) (Q : List (Int × Int)) (base : Nat) (sa : Option Addr) (cap : Nat) (D : List Nat) (e : Ending) (w' : World) : Prop :=
  e = .returned (.tuple #[]) ∧ ∃ M : List Nat, M.Perm D ∧ M.Pairwise (fun x y => ltI Q x y = true) ∧ w'.ownsRow base 3 1 (.slice sa D.length cap) D.length (flat encI (M.map fun x : Nat => (x : Int))) ∧ w.grownBy w' (Value.slice sa D.length cap).ownBlock
/-- What the sort wants. -/
structure SortAt (w : World) (Q : List (Int × Int)) (base : Nat) (sa : Option Addr) (cap : Nat) (D : List Nat) (b5 b3 : Nat) : Prop where
  asc : D.Pairwise (· < ·)
  low : ∀ x ∈ D, x < Q.length
  few : D.length ≤ 19
  k5 : b5 < w.heap.size
  k3 : b3 < w.heap.size
  h5 : w.cell? ⟨b5, 0, none⟩ = some cmpV
  row : ∃ b o c, w.cell? ⟨b3, 0, none⟩ = some (.slice (some ⟨b, o, none⟩) Q.length c) ∧ PsAt w (some ⟨b, o, none⟩) Q ∧ some b ≠ (Value.slice sa D.length cap).ownBlock
  own : w.ownsRow base 3 1 (.slice sa D.length cap) D.length (flat encI (D.map fun x : Nat => (x : Int)))
  n5 : some b5 ≠ (Value.slice sa D.length cap).ownBlock
  n3 : some b3 ≠ (Value.slice sa D.length cap).ownBlock
set_option maxHeartbeats 6400000 in
set_option maxRecDepth 100000 in
theorem pstable_any (base : Nat) (sa : Option Addr) (cap : Nat) (Q : List (Int × Int)) (D : List Nat) (b5 b3 : Nat) (w : World) (h : SortAt w Q base sa cap D b5 b3) :
    Calls Try.prog 99 #[.slice sa D.length cap, .int .i64 D.length, .func (.func 92) #[] (ordV b5 b3)] w (GivesSort w Q base sa cap D) := by
  have hf := h.few
  obtain ⟨b, o, c, h3, hQ, nb⟩ := h.row
  have HS : Hid (Calls Try.prog 103 #[.slice sa D.length cap, .int .i64 0, .int .i64 D.length, .func (.func 92) #[] (ordV b5 b3)] w (GivesSort w Q base sa cap D)) :=
    Lib.hid (pins_any base sa cap Q D h.asc h.low (by omega) b5 b3 b o c w h.k5 h.k3 h.h5 h3 hQ h.own h.n5 h.n3 nb)
  clear h h3 hQ nb
  have d1 : decide ((20 : Int) ≤ (D.length : Int)) = false := decide_eq_false (by omega)
  have d2 : decide ((20 : Int) < (D.length : Int)) = false := decide_eq_false (by omega)
  unfold GivesSort ordV at *
  go_enter Try.func99, Try.ntmps99
  go_wp2
  refine wp_loop_rounds 1 ?_
  rw [rounds_succ]
  go_wp2_with fail
  refine HS.out.mono ?_
  rintro e w1 ⟨rfl, hM⟩
  have HM := Lib.hid hM
  clear hM
  go_wp2
  refine wp_loop_rounds 1 ?_
  rw [rounds_succ]
  go_wp2
  go_end0
  exact ⟨rfl, HM.out⟩
set_option maxHeartbeats 6400000 in
set_option maxRecDepth 100000 in
theorem psortst_any (base : Nat) (sa : Option Addr) (cap : Nat) (Q : List (Int × Int)) (D : List Nat) (b5 b3 : Nat) (w : World) (h : SortAt w Q base sa cap D b5 b3) :
    Calls Try.prog 91 #[.slice sa D.length cap, .func (.func 92) #[] (ordV b5 b3)] w (GivesSort w Q base sa cap D) := by
  have HS := Lib.hid (pstable_any base sa cap Q D b5 b3 w h)
  clear h
  unfold GivesSort ordV at *
  go_enter Try.func91, Try.ntmps91
  go_wp2_with fail
  refine HS.out.mono ?_
  rintro e w1 ⟨rfl, hM⟩
  have HM := Lib.hid hM
  clear hM
  go_wp2
  go_end0
  exact ⟨rfl, HM.out⟩
end Go.Proofs.Ytndjjafpdiehdaa
