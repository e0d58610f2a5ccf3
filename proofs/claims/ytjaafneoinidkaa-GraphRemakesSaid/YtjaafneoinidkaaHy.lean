/- A copy of a list of pairs, and a list of pairs turned round. -/
import Derived.Test.YtjaafneoinidkaaHu
import Derived.Lib.SliceRun
namespace Go.Proofs.Ytjaafneoinidkaa
open Go.RowKit Go.Shelf Go.Proofs.Gr Go.Sort

theorem flatK_pairs (L : List (Int × Int)) : (flatK encP 2 L.toArray).toList = flat encP L := by
  apply List.ext_getElem?
  intro t
  by_cases ht : t < L.length * 2
  · have hd : t / 2 < L.length := by omega
    have h1 := flat_at (enc := encP) (k := 2) encP_len L (t / 2) (t % 2) hd (Nat.mod_lt _ (by decide))
    rw [show t / 2 * 2 + t % 2 = t by omega] at h1
    have h0 : t < (flatK encP 2 L.toArray).size := by simpa using ht
    rw [h1, Array.getElem?_toList, Array.getElem?_eq_getElem h0, ← getElem!_pos (flatK encP 2 L.toArray) t h0, get_flatK _ _ _ _ (by simpa using ht)]
    have e1 : L.toArray[t / 2]! = L[t / 2] := by
      rw [getElem!_pos L.toArray (t / 2) (by simpa using hd)]; simp
    rw [e1]
    have h3 : t % 2 < (encP L[t / 2]).length := by rw [encP_len]; exact Nat.mod_lt _ (by decide)
    rw [getElem!_pos (encP L[t / 2]) (t % 2) h3, List.getElem?_eq_getElem h3]
  · rw [List.getElem?_eq_none (l := flat encP L) (by rw [flat_len encP_len]; omega), Array.getElem?_toList, Array.getElem?_eq_none (by simp; omega)]
theorem heap_putK {w : World} {g n : Nat} {cur : Array Value} {e : TypeId} {fr : Nat × Nat} (d : Array (Int × Int)) (hb : w.heap[g]? = some (.cells cur e fr)) :
    (putRowK encP 2 (Sort.ahead w n) g 0 d).heap[g]? = some (.cells (putCells id 0 (flatK encP 2 d) cur) e fr) := by
  unfold putRowK
  simp [putRow, mapBlock, Sort.ahead, Array.getElem?_modify, hb, onCells]
theorem grown_putK {w : World} {g n : Nat} (d : Array (Int × Int)) : w.grownBy (putRowK encP 2 (Sort.ahead w n) g 0 d) (some g) := by
  unfold putRowK
  refine ⟨rfl, rfl, rfl, by simp [putRow, mapBlock, Sort.ahead], fun k hk hne => ?_⟩
  have : g ≠ k := fun e => hne (by rw [e])
  simp [putRow, mapBlock, Sort.ahead, Array.getElem?_modify, this]
theorem holds_pairs {w : World} {g : Nat} {cur : Array Value} {e : TypeId} {L : List (Int × Int)} (hb : w.heap[g]? = some (.cells cur e (0, 0))) (ht : cur.toList.take (L.length * 2) = flat encP L) : HoldsK encP 2 w g 0 L.toArray := by
  intro j hj
  have hj' : j < L.length * 2 := by simpa using hj
  refine ⟨?_, by simp [World.frozen?, hb]⟩
  have h1 : (cur.toList.take (L.length * 2))[j]? = ((flatK encP 2 L.toArray).toList)[j]? := by rw [ht, flatK_pairs]
  rw [List.getElem?_take_of_lt hj'] at h1
  simp only [World.cell?, hb, Nat.zero_add]
  simp only [Option.isSome_none, Bool.false_eq_true, if_false]
  rw [← Array.getElem?_toList, h1, Array.getElem?_toList, Array.getElem?_eq_getElem hj, getElem!_pos (flatK encP 2 L.toArray) j hj]
  rfl
theorem aggP (w : World) : (isAgg 37).run Try.prog w = .ok true w := by kernel_rfl
theorem sizP (w : World) : (Go.sizeOf 37).run Try.prog w = .ok 2 w := by kernel_rfl
theorem preverse_any (base : Nat) (sa : Option Addr) (cap : Nat) (P : List (Int × Int)) (hP : P.length ≤ 1000000) (w : World) (hown : w.ownsRow base 37 2 (.slice sa P.length cap) P.length (flat encP P)) :
    Calls Try.prog 50 #[.slice sa P.length cap] w (fun e w' => e = .returned (.tuple #[]) ∧ w'.ownsRow base 37 2 (.slice sa P.length cap) P.length (flat encP P.reverse) ∧ w.grownBy w' (Value.slice sa P.length cap).ownBlock) := by
  rcases hown.2 with ⟨h0, h1⟩ | ⟨g, cap', cur, hv, hbase, hg, hn, hcap, hcur, htake⟩
  · obtain rfl : P = [] := List.length_eq_zero_iff.1 h1
    refine (Try.slices_Reverse_empty (α := Int × Int) sa cap w).mono ?_
    rintro e w' ⟨rfl, rfl⟩
    exact ⟨rfl, hown, ⟨rfl, rfl, rfl, Nat.le_refl _, fun _ _ _ => rfl⟩⟩
  · injection hv with hv1 hv2 hv3
    subst hv1 hv3
    have h : Calls Try.prog 50 #[.slice (some ⟨g, 0, none⟩) P.length cap] w _ := Try.slices_Reverse 2 aggP sizP encP encP_len (fun x v hv => by
      simp only [encP, List.mem_cons, List.not_mem_nil, or_false] at hv
      rcases hv with rfl | rfl <;> rfl) g 0 cap P.toArray w (holds_pairs hg htake) (by simp; omega)
    refine Calls.mono h ?_
    rintro e w' ⟨rfl, n, rfl⟩
    have er : P.toArray.reverse = P.reverse.toArray := by simp
    rw [er]
    refine ⟨rfl, ?_, grown_putK _⟩
    refine ⟨by rw [flat_len encP_len, List.length_reverse], .inr ⟨g, cap, _, rfl, hbase, heap_putK _ hg, hn, hcap, by simp [putCells, hcur], ?_⟩⟩
    have h6 := take_putCells cur (flatK encP 2 P.reverse.toArray) (by
      have := Nat.mul_le_mul_right 2 hn
      rw [hcur, size_flatK]
      simpa using this)
    rw [size_flatK, show P.reverse.toArray.size = P.length by simp] at h6
    rw [h6, ← flatK_pairs]
set_option maxHeartbeats 12800000 in
set_option maxRecDepth 100000 in
theorem pclone_any (b : Option Addr) (c : Nat) (P : List (Int × Int)) (hP : P.length ≤ 1000000) (w : World) (hp : PsAt w b P) :
    Calls Try.prog 49 #[.slice b P.length c] w (fun e w' => ∃ v, e = .returned v ∧ w'.ownsRow w.heap.size 37 2 v P.length (flat encP P) ∧ Below w.heap.size w w') := by
  have q31 : ∀ (w : World) (a : Option Addr) (n c n' c' : Nat), (binOp .eql 31 (.slice a n c) (.slice none n' c')).run Try.prog w = .ok (.bool a.isNone) w := fun w a n c n' c' => Lib.run_eql_slice_nil w _ _ a n c n' c' Try.underlying31
  rcases b with _ | ad
  · obtain rfl : P = [] := by
      rcases P with _ | ⟨p, P⟩
      · rfl
      · obtain ⟨b', o', e, _⟩ := hp 0 (by simp); cases e
    go_enter Try.func49, Try.ntmps49
    go_wp2
    go_ret
    exact ⟨_, rfl, World.ownsRow_nil _ _ _ _, Below.refl _ _⟩
  · obtain ⟨i0, hi0, hz0, hz1, hz2⟩ := info_parts infoP
    have hnews : ∀ (W : World), Below w.heap.size w W → ∀ j u, (flat encP P)[j]? = some u → W.cell? (ad.add j) = some u := by
      intro W hb j u hj
      rcases P with _ | ⟨p, P⟩
      · simp [flat] at hj
      · have hk := hp.keep hb
        obtain ⟨b', o', e, _⟩ := hk 0 (by simp)
        injection e with e
        subst e
        exact RowAt.cells (k := 2) (enc := encP) (by decide) (fun _ => rfl) hk j u hj
    have HNW := Lib.hid hnews
    have HB1 : Hid (Below w.heap.size w (w.alloc (Obj.cells #[] 37))) := Lib.hid ((Below.refl _ _).alloc (Nat.le_refl _) _)
    have HO : Hid ((w.alloc (Obj.cells #[] 37)).ownsRow w.heap.size 37 2 (.slice (some ⟨w.heap.size, 0, none⟩) 0 0) 0 []) := Lib.hid (World.ownsRow_lit w #[] 0 (Nat.le_refl _) (by decide) rfl)
    have HFL : Hid ((flat encP P).length = P.length * 2) := Lib.hid (flat_len encP_len P)
    have H1 : Hid (∀ u ∈ flat encP P, u.oneCell' = true) := Lib.hid (fun u hu => by
      obtain ⟨x, _, hx⟩ := List.mem_flatMap.1 hu
      simp only [encP, List.mem_cons, List.not_mem_nil, or_false] at hx
      rcases hx with rfl | rfl <;> rfl)
    clear hnews hp
    generalize flat encP P = fl at *
    go_enter Try.func49, Try.ntmps49
    go_wp2_with (at_builtin; refine wpList_append_own _ rfl _ _ 31 rfl w.heap.size 37 i0 (.agg #[.int .i64 0, .int .i64 0]) 2 16 Try.underlying31 hi0 hz0 hz1 hz2 rfl (by decide) _ _ _ rfl HO.out ad P.length c fl rfl HFL.out (HNW.out _ HB1.out) H1.out (by unfold maxLen; omega) (by omega) (by rw [World.size_alloc]; omega) ?_; intro v1 w3 hown1 hgrow1 _; have hB3 : Below w.heap.size w w3 := below_push (w := w) (Below.refl _ w) (fun k hk => (HO.out.lt k hk).1) hgrow1)
    rw [Nat.zero_add, List.nil_append] at hown1
    have HO1 := Lib.hid hown1
    have HB3 := Lib.hid hB3
    clear hown1 hgrow1 hB3
    go_wp2
    go_ret
    exact ⟨_, rfl, HO1.out, HB3.out⟩
end Go.Proofs.Ytjaafneoinidkaa
