/- Sorting a list of edges that the call owns. -/
import Derived.Test.YtgfbihdnjidodaaQ06
import Derived.Test.YtgfbihdnjidodaaQ00
namespace Go.Proofs.Ytgfbihdnjidodaa
open Go.RowKit Go.Shelf Go.Proofs.Gr Go.Sort

instance instE : Inhabited E := ⟨e0⟩
theorem flatK_flat (L : List E) : (flatK encE 3 L.toArray).toList = flat encE L := by
  apply List.ext_getElem?
  intro t
  by_cases ht : t < L.length * 3
  · have hd : t / 3 < L.length := by omega
    have h1 := flat_at (enc := encE) (k := 3) encE_len3 L (t / 3) (t % 3) hd (Nat.mod_lt _ (by decide))
    rw [show t / 3 * 3 + t % 3 = t by omega] at h1
    have h0 : t < (flatK encE 3 L.toArray).size := by simpa using ht
    rw [h1, Array.getElem?_toList, Array.getElem?_eq_getElem h0, ← getElem!_pos (flatK encE 3 L.toArray) t h0, get_flatK _ _ _ _ (by simpa using ht)]
    have e1 : L.toArray[t / 3]! = L[t / 3] := by
      rw [getElem!_pos L.toArray (t / 3) (by simpa using hd)]; simp
    rw [e1]
    have h3 : t % 3 < (encE L[t / 3]).length := by rw [encE_len3]; exact Nat.mod_lt _ (by decide)
    rw [getElem!_pos (encE L[t / 3]) (t % 3) h3, List.getElem?_eq_getElem h3]
  · rw [List.getElem?_eq_none (l := flat encE L) (by rw [flat_len encE_len3]; omega), Array.getElem?_toList, Array.getElem?_eq_none (by simp; omega)]
theorem take_putCells (cur F : Array Value) (h : F.size ≤ cur.size) : (putCells id 0 F cur).toList.take F.size = F.toList := by
  apply List.ext_getElem?
  intro j
  by_cases hj : j < F.size
  · rw [List.getElem?_take_of_lt hj, Array.getElem?_toList]
    simp [putCells, hj, show j < cur.size by omega]
  · rw [List.getElem?_take_eq_none (by omega), List.getElem?_eq_none (by simp; omega)]
theorem heap_sortK {w : World} {g n : Nat} {os : Array Obj} {cur : Array Value} {e : TypeId} {fr : Nat × Nat} (d : Array E) (hb : w.heap[g]? = some (.cells cur e fr)) :
    (sortWorldK encE 3 w g 0 n d os).heap[g]? = some (.cells (putCells id 0 (flatK encE 3 d) cur) e fr) := by
  have hg : g < w.heap.size := (Array.getElem?_eq_some_iff.1 hb).1
  unfold sortWorldK putRowK
  rw [heap_grow_old _ _ (by simpa using hg)]
  simp [putRow, mapBlock, Sort.ahead, Array.getElem?_modify, hb, onCells]
theorem grown_sortK {w : World} {g n : Nat} {os : Array Obj} (d : Array E) : w.grownBy (sortWorldK encE 3 w g 0 n d os) (some g) := by
  unfold sortWorldK putRowK
  refine ⟨rfl, rfl, rfl, by simp, fun k hk hne => ?_⟩
  rw [heap_grow_old _ _ (by simpa using hk)]
  have : g ≠ k := fun e => hne (by rw [e])
  simp [putRow, mapBlock, Sort.ahead, Array.getElem?_modify, this]
theorem holds_own {w : World} {g : Nat} {cur : Array Value} {e : TypeId} {L : List E} (hb : w.heap[g]? = some (.cells cur e (0, 0))) (ht : cur.toList.take (L.length * 3) = flat encE L) : HoldsK encE 3 w g 0 L.toArray := by
  intro j hj
  have hj' : j < L.length * 3 := by simpa using hj
  refine ⟨?_, by simp [World.frozen?, hb]⟩
  have h1 : (cur.toList.take (L.length * 3))[j]? = ((flatK encE 3 L.toArray).toList)[j]? := by rw [ht, flatK_flat]
  rw [List.getElem?_take_of_lt hj'] at h1
  simp only [World.cell?, hb, Nat.zero_add]
  simp only [Option.isSome_none, Bool.false_eq_true, if_false]
  rw [← Array.getElem?_toList, h1, Array.getElem?_toList, Array.getElem?_eq_getElem hj, getElem!_pos (flatK encE 3 L.toArray) j hj]
  rfl
theorem swoE : SWO (ltOf cmpE) := by
  have hlt : ∀ x y, ltOf cmpE x y = ltE x y := fun x y => by
    unfold ltOf
    rw [Bool.eq_iff_iff, decide_eq_true_eq, cmpE_lt]
  refine ⟨fun x => ?_, fun x y z h k => ?_, fun x y z h k => ?_⟩
  · rw [hlt]; cases h : ltE x x with
    | false => rfl
    | true => exact absurd h (fun h => ltE_irrefl h)
  · rw [hlt] at *; exact ltE_trans h k
  · rw [hlt] at *
    simp only [ltE, Bool.or_eq_false_iff, Bool.and_eq_false_iff, decide_eq_false_iff_not] at *
    omega
theorem push3 (a : Array Obj) (x y z : Obj) : ((a.push x).push y).push z = a ++ #[x, y, z] := by apply Array.ext'; simp
theorem cmp_lays (blk off size : Nat) (w : World) : CmpLays Try.prog 77 #[] encE 3 cmpE blk off size w := by
  intro m os dk _ x y
  refine (compare_any x y _).mono ?_
  rintro e w' ⟨rfl, o1, o2, o3, rfl⟩
  refine ⟨rfl, 1, #[o1, o2, o3], ?_⟩
  unfold grow World.alloc World.drew World.drewN
  rw [push3]
theorem aggE (w : World) : (isAgg 66).run Try.prog w = .ok true w := by kernel_rfl
theorem sizE (w : World) : (Go.sizeOf 66).run Try.prog w = .ok 3 w := by kernel_rfl
theorem entersC (args : Array Value) (w : World) : (callFunc 77 args).run Try.prog w = .ok (.enter 77 args) w := by kernel_rfl
/-- Two edges of which one stands before the other. -/
def Apart (x y : E) : Prop := ltE x y = true ∨ ltE y x = true
theorem psort_any (base : Nat) (sa : Option Addr) (cap : Nat) (P : List E) (hP : P.length ≤ 1000000) (hd : P.Pairwise Apart) (w : World) (hown : w.ownsRow base 66 3 (.slice sa P.length cap) P.length (flat encE P)) :
    Calls Try.prog 84 #[.slice sa P.length cap, .func (.func 77) #[] #[]] w (fun e w' => e = .returned (.tuple #[]) ∧ ∃ M : List E, M.length = P.length ∧ (∀ x, x ∈ M ↔ x ∈ P) ∧ M.Pairwise (fun x y => ltE x y = true) ∧ w'.ownsRow base 66 3 (.slice sa P.length cap) P.length (flat encE M) ∧ w.grownBy w' (Value.slice sa P.length cap).ownBlock) := by
  rcases hown.2 with ⟨h0, h1⟩ | ⟨g, cap', cur, hv, hbase, hg, hn, hcap, hcur, htake⟩
  · obtain rfl : P = [] := List.length_eq_zero_iff.1 h1
    refine (AnyF.slices_SortFunc_none Try.laysSort sa cap (.func (.func 77) #[] #[]) w).mono ?_
    rintro e w' ⟨rfl, rfl⟩
    exact ⟨rfl, [], rfl, fun x => Iff.rfl, List.Pairwise.nil, hown, ⟨rfl, rfl, rfl, Nat.le_refl _, fun _ _ _ => rfl⟩⟩
  · injection hv with hv1 hv2 hv3
    subst hv1 hv3
    have hlt : g < w.heap.size := (Array.getElem?_eq_some_iff.1 hg).1
    have h : Calls Try.prog 84 #[.slice (some ⟨g, 0, none⟩) P.length cap, .func (.func 77) #[] #[]] w _ := AnyQ.slices_SortFunc Try.laysSort 3 aggE sizE encE encE_len3 (fun x v hv => by
      simp only [encE, List.mem_cons, List.not_mem_nil, or_false] at hv
      rcases hv with rfl | rfl | rfl <;> rfl) cmpE swoE 77 #[] g 0 cap P.toArray w entersC (cmp_lays g 0 P.toArray.size w) (holds_own hg htake) hlt (by simp; omega)
    refine Calls.mono h ?_
    rintro e w' ⟨rfl, d', n, os, hp, hs, rfl⟩
    have hl : d'.toList.length = P.length := by simpa using hp.1
    have hperm : d'.toList.Perm P := by
      have h3 := hp.2.2
      have e1 : d'.extract 0 P.toArray.size = d' := by rw [show P.toArray.size = d'.size from hp.1.symm]; simp
      have e2 : P.toArray.extract 0 P.toArray.size = P.toArray := by simp
      rw [e1, e2] at h3
      simpa using h3
    refine ⟨rfl, d'.toList, hl, fun x => hperm.mem_iff, ?_, ?_, grown_sortK d'⟩
    · have hap : d'.toList.Pairwise Apart := (hperm.pairwise_iff (fun {x y} (h : Apart x y) => h.symm)).2 hd
      rw [List.pairwise_iff_getElem] at hap ⊢
      intro i j hi hj hij
      have h4 := hs i j (Nat.zero_le _) hij (by simpa [hp.1] using hj)
      rw [getElem!_pos d' j (by simpa using hj), getElem!_pos d' i (by simpa using hi)] at h4
      have h5 := hap i j hi hj hij
      simp only [Array.getElem_toList] at h5 ⊢
      rcases h5 with h5 | h5
      · exact h5
      · rw [ltOf, decide_eq_false_iff_not, cmpE_lt] at h4
        exact absurd h5 h4
    · refine ⟨by rw [flat_len encE_len3, hl], .inr ⟨g, cap, _, rfl, hbase, heap_sortK _ hg, hn, hcap, by simp [putCells, hcur], ?_⟩⟩
      have h6 := take_putCells cur (flatK encE 3 d') (by
        have := Nat.mul_le_mul_right 3 hn
        rw [hcur, size_flatK]
        have : d'.size = P.length := by simpa using hl
        omega)
      rw [size_flatK, show d'.size = P.length by simpa using hl] at h6
      rw [h6, ← flatK_flat]
end Go.Proofs.Ytgfbihdnjidodaa
