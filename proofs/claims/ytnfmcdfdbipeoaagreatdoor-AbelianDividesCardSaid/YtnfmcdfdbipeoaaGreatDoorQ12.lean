/- Walks of the numbers' functions. And: What calls and stores into some boxes of two cells leave as it was. And: Walks of the numbers' functions: sums. And: Walks of the numbers' functions: differences, products, the order. And: Walks of the numbers' functions: quotients. And: Walks of the numbers' functions: quotients, rounded down. And: Walks of the numbers' functions: signs as numbers; texts of groups. -/
import Derived.Test.YtnfmcdfdbipeoaaGreatDoorQ08
import Derived.Deep.RegionHeld3
import Derived.Deep.DeepMust
import Derived.Outline
namespace Go.Proofs.YtnfmcdfdbipeoaaGreatDoor
open Go.RowKit Go.Proofs.Num

/-- A number with its sign, as a value. -/
def Nm (w : World) (v : Value) (z : Int) : Prop := ∃ sv, v = .agg #[.bool (decide (z < 0)), sv] ∧ Wd w sv z.natAbs
theorem Nm.keep {w w' : World} {v : Value} {z : Int} (h : Nm w v z) (hb : Below w.heap.size w w') : Nm w' v z := by
  obtain ⟨sv, rfl, h⟩ := h; exact ⟨sv, rfl, h.keep hb⟩
def GivesNm (w : World) (z : Int) (e : Ending) (w' : World) : Prop := ∃ v, e = .returned v ∧ Nm w' v z ∧ Below w.heap.size w w'

theorem below1 (w : World) (o : Obj) : Below w.heap.size w (w.alloc o) := (Below.refl _ _).alloc (Nat.le_refl _) o

/-- signed: the number of this size; a zero is not negative. -/
theorem signed_any (b : Bool) (a : Option Addr) (k c : Nat) (w : World) : Calls Tryz.prog 134 #[.bool b, .slice a k c] w fun e w' => e = .returned (.agg #[.bool (b && decide (0 < k)), .slice a k c]) ∧ Below w.heap.size w w' := by
  cases b
  · go_enter Tryz.func134, Tryz.ntmps134
    go_wp2
    exact bodyPost_ret (v := .agg #[.bool false, .slice a k c]) (by simp [results, Tryz.results134, go_sem]) rfl ⟨rfl, below1 _ _⟩
  · by_cases hk : 0 < k
    · have hk' : decide (0 < k) = true := by simpa using hk
      go_enter Tryz.func134, Tryz.ntmps134
      go_wp2
      exact bodyPost_ret (v := .agg #[.bool true, .slice a k c]) (by simp [results, Tryz.results134, go_sem]) rfl ⟨by rw [hk']; rfl, below1 _ _⟩
    · have hk' : decide (0 < k) = false := by simpa using hk
      go_enter Tryz.func134, Tryz.ntmps134
      go_wp2
      exact bodyPost_ret (v := .agg #[.bool false, .slice a k c]) (by simp [results, Tryz.results134, go_sem]) rfl ⟨by rw [hk']; rfl, below1 _ _⟩

/-- number.sign -/
theorem nsign_any (v : Value) (z : Int) (w : World) (h : Nm w v z) : Calls Tryz.prog 124 #[v] w fun e w' => e = .returned (.int .i64 (sgn z)) ∧ Below w.heap.size w w' := by
  obtain ⟨sv, rfl, hw⟩ := h
  obtain ⟨a, cap, rfl⟩ := Rd.shape hw
  have hlen : (dig 1000000000 z.natAbs).length = 0 ↔ z = 0 := by
    rw [List.length_eq_zero_iff, dig_eq_nil (by omega)]; omega
  generalize (dig 1000000000 z.natAbs).length = k at *
  clear hw
  rcases (show z < 0 ∨ z = 0 ∨ 0 < z by omega) with h | h | h
  · have e1 : decide (z < 0) = true := by simpa using h
    have e2 : sgn z = -1 := by unfold sgn; rw [if_pos h]
    rw [e1, e2]
    clear hlen e1 e2 h
    go_enter Tryz.func124, Tryz.ntmps124
    go_wp2
    go_ret
    exact ⟨rfl, below1 _ _⟩
  · obtain rfl : k = 0 := hlen.2 h
    have e1 : decide (z < 0) = false := by simp; omega
    have e2 : sgn z = 0 := by unfold sgn; rw [if_neg (by omega), if_neg (by omega)]
    rw [e1, e2]
    clear hlen e1 e2 h
    go_enter Tryz.func124, Tryz.ntmps124
    go_wp2
    go_ret
    exact ⟨rfl, below1 _ _⟩
  · have hk : 0 < k := by rcases Nat.eq_zero_or_pos k with h0 | h0; (have := hlen.1 h0; omega); exact h0
    have hk0 : ((k : Int) == 0) = false := by simp; omega
    have e1 : decide (z < 0) = false := by simp; omega
    have e2 : sgn z = 1 := by unfold sgn; rw [if_neg (by omega), if_pos h]
    rw [e1, e2]
    clear hlen e1 e2 h
    go_enter Tryz.func124, Tryz.ntmps124
    go_wp2
    go_ret
    exact ⟨rfl, below1 _ _⟩

/-- number.opposite -/
theorem nopposite_any (v : Value) (z : Int) (w : World) (h : Nm w v z) : Calls Tryz.prog 145 #[v] w (GivesNm w (-z)) := by
  obtain ⟨sv, rfl, hw⟩ := h
  obtain ⟨a, cap, rfl⟩ := Rd.shape hw
  have hlen : (dig 1000000000 z.natAbs).length = 0 ↔ z = 0 := by
    rw [List.length_eq_zero_iff, dig_eq_nil (by omega)]; omega
  have hfin : ∀ w', Below w.heap.size w w' → GivesNm w (-z) (.returned (.agg #[.bool (!decide (z < 0) && decide (0 < (dig 1000000000 z.natAbs).length)), .slice a (dig 1000000000 z.natAbs).length cap])) w' := by
    intro w' hb
    refine ⟨_, rfl, ⟨_, ?_, by rw [Int.natAbs_neg]; exact hw.keep hb⟩, hb⟩
    have e : (!decide (z < 0) && decide (0 < (dig 1000000000 z.natAbs).length)) = decide (-z < 0) := ?_
    · rw [e]
    rw [Bool.eq_iff_iff]
    simp
    omega
  have HF := Lib.hid hfin
  generalize (dig 1000000000 z.natAbs).length = k at *
  clear hfin hw hlen
  go_enter Tryz.func145, Tryz.ntmps145
  go_wp2_with (go_at_call 134; refine (signed_any _ _ _ _ _).mono ?_; rintro e w' ⟨rfl, hb⟩; have hz := hb.size; have hf := hb.frozen (p := ⟨w.heap.size + 1, 0, none⟩) (by simp); have hf1 := hb.frozen (p := ⟨w.heap.size + 1, 1, none⟩) (by simp); have hc := hb.cell (p := ⟨w.heap.size + 1, 0, none⟩) (by simp); have hc1 := hb.cell (p := ⟨w.heap.size + 1, 1, none⟩) (by simp))
  refine bodyPost_ret (v := .agg #[.bool (!decide (z < 0) && decide (0 < k)), .slice a k cap]) (by simp [results, Tryz.results145, go_sem, hc, hc1]) rfl (HF.out _ ?_)
  exact ((((below1 w _).alloc (by simp) _).trans (hb.mono (by simp; omega))).setCell (by simp) _).setCell (by simp) _
end Go.Proofs.YtnfmcdfdbipeoaaGreatDoor

namespace Go.Proofs.YtnfmcdfdbipeoaaGreatDoor
open Go.RowKit Go.Proofs.Num

/-- A box of two cells of a type. -/
def Box (T : TypeId) (w : World) (b : Nat) (x y : Value) : Prop := w.heap[b]? = some (.cells #[x, y] T (0, 0))

theorem Box.lt {T : TypeId} {w : World} {b : Nat} {x y : Value} (h : Box T w b x y) : b < w.heap.size := (Array.getElem?_eq_some_iff.1 h).1
theorem Box.c0 {T : TypeId} {w : World} {b : Nat} {x y : Value} (h : Box T w b x y) : w.cell? ⟨b, 0, none⟩ = some x := by
  rw [cell_of_row w b 0 _ T (0, 0) h]; rfl
theorem Box.c1 {T : TypeId} {w : World} {b : Nat} {x y : Value} (h : Box T w b x y) : w.cell? ⟨b, 1, none⟩ = some y := by
  rw [cell_of_row w b 1 _ T (0, 0) h]; rfl
theorem Box.f0 {T : TypeId} {w : World} {b : Nat} {x y : Value} (h : Box T w b x y) (j : Nat) : w.frozen? ⟨b, j, none⟩ = false := frozen_of_row w b j _ T h
theorem Box.keep {T : TypeId} {w w' : World} {b : Nat} {x y : Value} (h : Box T w b x y) (hb : Below w.heap.size w w') : Box T w' b x y := (hb.block b h.lt).trans h
theorem Box.set0 {T : TypeId} {w : World} {b : Nat} {x y : Value} (h : Box T w b x y) (u : Value) : Box T (w.setCell ⟨b, 0, none⟩ u) b u y := by
  unfold Box; rw [heap_setCell_same w b 0 _ T u h]; rfl
theorem Box.set1 {T : TypeId} {w : World} {b : Nat} {x y : Value} (h : Box T w b x y) (u : Value) : Box T (w.setCell ⟨b, 1, none⟩ u) b x u := by
  unfold Box; rw [heap_setCell_same w b 1 _ T u h]; rfl
theorem Box.other {T : TypeId} {w : World} {b : Nat} {x y : Value} (h : Box T w b x y) (p : Addr) (u : Value) (hp : b ≠ p.block) : Box T (w.setCell p u) b x y := by
  unfold Box; rw [heap_setCell_other w p b u hp]; exact h
theorem Box.new (T : TypeId) (w : World) (x y : Value) : Box T (w.alloc (.cells #[x, y] T)) w.heap.size x y := heap_alloc_new w _
theorem Box.alloc {T : TypeId} {w : World} {b : Nat} {x y : Value} (h : Box T w b x y) (o : Obj) : Box T (w.alloc o) b x y := h.keep (below1 w o)
theorem Box.drew {T : TypeId} {w : World} {b : Nat} {x y : Value} (h : Box T w b x y) : Box T w.drew b x y := h
theorem Box.drewN {T : TypeId} {w : World} {b : Nat} {x y : Value} (h : Box T w b x y) (n : Nat) : Box T (w.drewN n) b x y := h

/-- Behind W nothing has turned but the boxes ws (of type 73), which are boxes still. -/
structure Kept (ws : List Nat) (W w' : World) : Prop where
  os : w'.os = W.os
  tape : w'.tape = W.tape
  output : w'.output = W.output
  size : W.heap.size ≤ w'.heap.size
  block : ∀ k, k < W.heap.size → k ∉ ws → w'.heap[k]? = W.heap[k]?
  wr : ∀ r, r ∈ ws → ∃ x y, Box 104 w' r x y

theorem Kept.step {ws : List Nat} {W x y : World} (h : Kept ws W x) (hb : Below x.heap.size x y) : Kept ws W y :=
  ⟨hb.os.trans h.os, hb.tape.trans h.tape, hb.output.trans h.output, Nat.le_trans h.size hb.size, fun k hk hn => (hb.block k (Nat.lt_of_lt_of_le hk h.size)).trans (h.block k hk hn),
    fun r hr => by obtain ⟨a, b, hB⟩ := h.wr r hr; exact ⟨a, b, hB.keep hb⟩⟩
theorem Kept.drew {ws : List Nat} {W x : World} (h : Kept ws W x) : Kept ws W x.drew := h.step (Below.refl _ _).drew
theorem Kept.alloc {ws : List Nat} {W x : World} (h : Kept ws W x) (o : Obj) : Kept ws W (x.alloc o) := h.step (below1 x o)
theorem Kept.start {ws : List Nat} {W : World} (h : ∀ r, r ∈ ws → ∃ x y, Box 104 W r x y) : Kept ws W W := ⟨rfl, rfl, rfl, Nat.le_refl _, fun _ _ _ => rfl, h⟩
theorem Kept.store {ws : List Nat} {W x : World} (h : Kept ws W x) (r : Nat) (u v : Value) (hr : r ∈ ws) : Kept ws W ((x.setCell ⟨r, 0, none⟩ u).setCell ⟨r, 1, none⟩ v) := by
  refine ⟨h.os, h.tape, h.output, by simpa [World.setCell] using h.size, fun k hk hn => ?_, fun q hq => ?_⟩
  · have hkr : k ≠ r := fun e => hn (e ▸ hr)
    rw [heap_setCell_other _ _ k v hkr, heap_setCell_other _ _ k u hkr]
    exact h.block k hk hn
  · obtain ⟨a, b, hB⟩ := h.wr q hq
    by_cases e : q = r
    · subst e; exact ⟨u, v, (hB.set0 u).set1 v⟩
    · exact ⟨a, b, (hB.other ⟨r, 0, none⟩ u e).other ⟨r, 1, none⟩ v e⟩
theorem Kept.box {ws : List Nat} {W w' : World} (h : Kept ws W w') {T : TypeId} {b : Nat} {x y : Value} (hB : Box T W b x y) (hn : b ∉ ws) : Box T w' b x y := (h.block b hB.lt hn).trans hB
theorem Kept.below {ws : List Nat} {W w' : World} (h : Kept ws W w') {B : Nat} (hB : B ≤ W.heap.size) (hw : ∀ r ∈ ws, B ≤ r) : Below B W w' :=
  ⟨h.os, h.tape, h.output, h.size, fun k hk => h.block k (Nat.lt_of_lt_of_le hk hB) (fun hm => by have := hw k hm; omega)⟩
theorem Kept.from {ws : List Nat} {w W w' : World} (h : Kept ws W w') (h0 : Below w.heap.size w W) (hw : ∀ r ∈ ws, w.heap.size ≤ r) : Below w.heap.size w w' := h0.trans (h.below h0.size hw)

/-- A store into a box of another type turns no slice. -/
theorem Rd.store {q : IntKind} {T T' : TypeId} {w : World} {v : Value} {l : List Nat} {r : Nat} {x y : Value} (h : Rd q T w v l) (hB : Box T' w r x y) (hne : T ≠ T') (j : Nat) (u : Value) : Rd q T (w.setCell ⟨r, j, none⟩ u) v l := by
  rcases h with h | ⟨b, off, cap, rfl, h⟩
  · exact .inl h
  · have hbr : b ≠ r := by
      rintro rfl
      obtain ⟨cur, fr, ht⟩ := h.ty
      unfold Box at hB
      rw [ht] at hB
      simp at hB
      exact hne hB.2.1
    obtain ⟨cur, fr, ht⟩ := h.ty
    refine .inr ⟨b, off, cap, rfl, h.fits, by simpa [World.setCell] using h.lt, ⟨cur, fr, by rw [heap_setCell_other w ⟨r, j, none⟩ b u hbr]; exact ht⟩, fun k hk => ?_⟩
    rw [World.cell?_setCell_other _ _ _ _ (by intro e; cases e; exact hbr rfl)]
    exact h.cell k hk

theorem Rd.stores {q : IntKind} {T T' : TypeId} {w : World} {v : Value} {l : List Nat} {r : Nat} {x y : Value} (h : Rd q T w v l) (hB : Box T' w r x y) (hne : T ≠ T') (u v' : Value) : Rd q T ((w.setCell ⟨r, 0, none⟩ u).setCell ⟨r, 1, none⟩ v') v l :=
  Rd.store (Rd.store h hB hne 0 u) (hB.set0 u) hne 1 v'
end Go.Proofs.YtnfmcdfdbipeoaaGreatDoor

namespace Go.Proofs.YtnfmcdfdbipeoaaGreatDoor
open Go.RowKit Go.Proofs.Num

/-- Three boxes one behind the other: two arguments and a result. -/
theorem boxes3 (w : World) (x1 y1 x2 y2 x3 y3 : Value) : ∃ W, W = ((w.alloc (.cells #[x1, y1] 104)).alloc (.cells #[x2, y2] 104)).alloc (.cells #[x3, y3] 104) ∧
    Box 104 W w.heap.size x1 y1 ∧ Box 104 W (w.heap.size + 1) x2 y2 ∧ Box 104 W (w.heap.size + 1 + 1) x3 y3 ∧ Below w.heap.size w W ∧ W.heap.size = w.heap.size + 1 + 1 + 1 := by
  refine ⟨_, rfl, ((Box.new 104 w x1 y1).alloc _).alloc _, ?_, ?_, ((below1 w _).alloc (by simp) _).alloc (by simp; omega) _, by simp⟩
  · have := (Box.new 104 (w.alloc (.cells #[x1, y1] 104)) x2 y2).alloc (.cells #[x3, y3] 104)
    rwa [World.size_alloc] at this
  · have := Box.new 104 ((w.alloc (.cells #[x1, y1] 104)).alloc (.cells #[x2, y2] 104)) x3 y3
    rwa [World.size_alloc, World.size_alloc] at this

set_option maxHeartbeats 3200000 in
set_option maxRecDepth 100000 in
theorem nplus_same (b : Bool) (s1 s2 : Value) (m n : Nat) (w : World) (h1 : Wd w s1 m) (h2 : Wd w s2 n) (hm : (dig 1000000000 m).length ≤ 4294967295) (hn : (dig 1000000000 n).length ≤ 4294967295) :
    Calls Tryz.prog 144 #[.agg #[.bool b, s1], .agg #[.bool b, s2]] w fun e w' => ∃ s, e = .returned (.agg #[.bool b, s]) ∧ Wd w' s (m + n) ∧ Below w.heap.size w w' := by
  obtain ⟨a1, p1, rfl⟩ := Rd.shape h1
  obtain ⟨a2, p2, rfl⟩ := Rd.shape h2
  generalize hl1 : (dig 1000000000 m).length = k1 at *
  generalize hl2 : (dig 1000000000 n).length = k2 at *
  obtain ⟨W, hW, hA, hB, hR, hBl, hsz⟩ := boxes3 w (.bool b) (.slice a1 k1 p1) (.bool b) (.slice a2 k2 p2) (.bool false) (.slice none 0 0)
  have hK : Kept [w.heap.size + 1 + 1] W W.drew := (Kept.start (by intro r hr; simp at hr; subst hr; exact ⟨_, _, hR⟩)).drew
  have H1 : Hid (∀ x, Kept [w.heap.size + 1 + 1] W x → Wd x (.slice a1 k1 p1) m ∧ Wd x (.slice a2 k2 p2) n) := fun x hx => ⟨h1.keep (hx.from hBl (by simp; omega)), h2.keep (hx.from hBl (by simp; omega))⟩
  have HL : Hid ((dig 1000000000 m).length ≤ 4294967295 ∧ (dig 1000000000 n).length ≤ 4294967295) := ⟨by rw [hl1]; exact hm, by rw [hl2]; exact hn⟩
  have HS : Hid (∀ x, Kept [w.heap.size + 1 + 1] W x → (Kept [w.heap.size + 1 + 1] W x ∧ x.cell? ⟨w.heap.size, 0, none⟩ = some (.bool b) ∧ x.cell? ⟨w.heap.size, 1, none⟩ = some (.slice a1 k1 p1) ∧ x.cell? ⟨w.heap.size + 1, 1, none⟩ = some (.slice a2 k2 p2))) :=
    fun x hx => ⟨hx, (hx.box hA (by simp; omega)).c0, (hx.box hA (by simp; omega)).c1, (hx.box hB (by simp)).c1⟩
  have HA := Lib.hid hA
  have HB := Lib.hid hB
  have HR := Lib.hid hR
  have HW := Lib.hid hW
  have HZ := Lib.hid hsz
  clear hA hB hR hW hsz hl1 hl2
  go_enter Tryz.func144, Tryz.ntmps144
  go_wp2
  rw [← HW.out]
  have e1 := HA.out.c0; have e2 := HA.out.c1; have e3 := HB.out.c0; have e4 := HB.out.c1
  go_wp2
  have d1 := HA.out.drew.c0; have d2 := HA.out.drew.c1; have d4 := HB.out.drew.c1
  go_region_held3 (fun w' => Kept [w.heap.size + 1 + 1] W w' ∧ w'.cell? ⟨w.heap.size, 0, none⟩ = some (.bool b) ∧ w'.cell? ⟨w.heap.size, 1, none⟩ = some (.slice a1 k1 p1) ∧ w'.cell? ⟨w.heap.size + 1, 1, none⟩ = some (.slice a2 k2 p2))
    (first | exact HS.out _ (Kept.store (by assumption) _ _ _ (by simp)) | exact HS.out _ (by assumption) | exact HS.out _ (Kept.drew (by assumption)))
    (first | (go_at_call 157; refine (wplus_any _ _ m n _ (H1.out _ (by assumption)).1 (H1.out _ (by assumption)).2 HL.out.1 HL.out.2).mono ?_; rintro e w1 ⟨v', rfl, ⟨a', k', cap', rfl⟩, hw, hb⟩; have hk2 := Kept.step (ws := [w.heap.size + 1 + 1]) (W := W) (by assumption) hb; obtain ⟨_, f1, f2, f4⟩ := HS.out _ hk2; obtain ⟨x5, x6, g5⟩ := hk2.wr _ (List.mem_singleton.2 rfl); have f5 := g5.c0; have f6 := g5.c1; have f7 := g5.f0 0; have f8 := g5.f0 1; have fz := g5.lt))
  go_wp2
  refine bodyPost_ret (v := .agg #[.bool b, .slice a' k' cap']) (by simp [results, Tryz.results144, go_sem, f5, f6]) rfl ⟨_, rfl, ?_, ?_⟩
  · exact Rd.stores hw g5 (by decide) _ _
  · exact (Kept.store hk2 _ _ _ (by simp)).from hBl (by simp; omega)

set_option maxHeartbeats 3200000 in
set_option maxRecDepth 100000 in
theorem nplus_lt (b : Bool) (s1 s2 : Value) (m n : Nat) (w : World) (h1 : Wd w s1 m) (h2 : Wd w s2 n) (hm : (dig 1000000000 m).length ≤ 4294967295) (hn : (dig 1000000000 n).length ≤ 4294967295) (hlt : m < n) :
    Calls Tryz.prog 144 #[.agg #[.bool (!b), s1], .agg #[.bool b, s2]] w fun e w' => ∃ s, e = .returned (.agg #[.bool b, s]) ∧ Wd w' s (n - m) ∧ Below w.heap.size w w' := by
  obtain ⟨a1, p1, rfl⟩ := Rd.shape h1
  obtain ⟨a2, p2, rfl⟩ := Rd.shape h2
  generalize hl1 : (dig 1000000000 m).length = k1 at *
  generalize hl2 : (dig 1000000000 n).length = k2 at *
  obtain ⟨W, hW, hA, hB, hR, hBl, hsz⟩ := boxes3 w (.bool (!b)) (.slice a1 k1 p1) (.bool b) (.slice a2 k2 p2) (.bool false) (.slice none 0 0)
  have hcmp : cmpN m n = -1 := by unfold cmpN; rw [if_pos hlt]
  have hK0 : Kept [w.heap.size + 1 + 1] W W := Kept.start (by intro r hr; simp at hr; subst hr; exact ⟨_, _, hR⟩)
  have H1 : Hid (∀ x, Kept [w.heap.size + 1 + 1] W x → Wd x (.slice a1 k1 p1) m ∧ Wd x (.slice a2 k2 p2) n) := fun x hx => ⟨h1.keep (hx.from hBl (by simp; omega)), h2.keep (hx.from hBl (by simp; omega))⟩
  have HL : Hid ((dig 1000000000 m).length ≤ 4294967295 ∧ (dig 1000000000 n).length ≤ 4294967295 ∧ m < n ∧ cmpN m n = -1) := ⟨by rw [hl1]; exact hm, by rw [hl2]; exact hn, hlt, hcmp⟩
  have HS : Hid (∀ x, Kept [w.heap.size + 1 + 1] W x → (Kept [w.heap.size + 1 + 1] W x ∧ x.cell? ⟨w.heap.size + 1, 0, none⟩ = some (.bool b) ∧ x.cell? ⟨w.heap.size, 1, none⟩ = some (.slice a1 k1 p1) ∧ x.cell? ⟨w.heap.size + 1, 1, none⟩ = some (.slice a2 k2 p2))) :=
    fun x hx => ⟨hx, (hx.box hB (by simp)).c0, (hx.box hA (by simp; omega)).c1, (hx.box hB (by simp)).c1⟩
  have hn0 : decide (0 < (dig 1000000000 (n - m)).length) = true := by
    have : (dig 1000000000 (n - m)).length ≠ 0 := by rw [Ne, List.length_eq_zero_iff, dig_eq_nil (by omega)]; omega
    simp; omega
  have HN := Lib.hid hn0
  have HA := Lib.hid hA
  have HB := Lib.hid hB
  have HR := Lib.hid hR
  have HW := Lib.hid hW
  have HZ := Lib.hid hsz
  have HK0 := Lib.hid hK0
  clear hA hB hR hW hsz hl1 hl2 hlt hcmp hn0 hK0
  go_enter Tryz.func144, Tryz.ntmps144
  have hnb : (!b == b) = false := by cases b <;> rfl
  go_wp2_with fail
  rw [← HW.out]
  have e1 := HA.out.c0; have e2 := HA.out.c1; have e3 := HB.out.c0; have e4 := HB.out.c1
  go_wp2_with fail
  refine (wcompare_any _ _ m n _ (H1.out _ HK0.out).1 (H1.out _ HK0.out).2 HL.out.1 HL.out.2.1).mono ?_
  rintro e w1 ⟨he, kk, rfl⟩
  rw [HL.out.2.2.2] at he
  subst he
  have hK1 := HK0.out.step (below_drewN (Below.refl _ _) kk)
  have hK2 := hK1.drew
  obtain ⟨_, d1, d2, d4⟩ := HS.out _ hK1
  obtain ⟨_, c1, c2, c4⟩ := HS.out _ hK2
  go_wp2_with fail
  go_region_held3 (fun w' => Kept [w.heap.size + 1 + 1] W w' ∧ w'.cell? ⟨w.heap.size + 1, 0, none⟩ = some (.bool b) ∧ w'.cell? ⟨w.heap.size, 1, none⟩ = some (.slice a1 k1 p1) ∧ w'.cell? ⟨w.heap.size + 1, 1, none⟩ = some (.slice a2 k2 p2))
    (first | exact HS.out _ (Kept.store (by assumption) _ _ _ (by simp)) | exact HS.out _ (by assumption) | exact HS.out _ (Kept.drew (by assumption)))
    (first
      | (go_at_call 158; refine (wminus_any _ _ n m _ (H1.out _ (by assumption)).2 (H1.out _ (by assumption)).1 HL.out.2.1 (Nat.le_of_lt HL.out.2.2.1)).mono ?_; rintro e w1 ⟨v', rfl, _, hw, hb⟩; obtain ⟨a', cap', rfl⟩ := Rd.shape hw; have hk2 := Kept.step (ws := [w.heap.size + 1 + 1]) (W := W) (by assumption) hb; obtain ⟨_, f1, f2, f4⟩ := HS.out _ hk2)
      | (go_at_call 134; refine (signed_any _ _ _ _ _).mono ?_; rintro e w2 ⟨he, hb2⟩; rw [HN.out, Bool.and_true] at he; subst he; have hk3 := hk2.step hb2; obtain ⟨_, j1, j2, j4⟩ := HS.out _ hk3; obtain ⟨x5, x6, g5⟩ := hk3.wr _ (List.mem_singleton.2 rfl); have f5 := g5.c0; have f6 := g5.c1; have f7 := g5.f0 0; have f8 := g5.f0 1; have fz := g5.lt))
  go_wp2
  refine bodyPost_ret (v := .agg #[.bool b, .slice a' (dig 1000000000 (n - m)).length cap']) (by simp [results, Tryz.results144, go_sem, f5, f6]) rfl ⟨_, rfl, ?_, ?_⟩
  · exact Rd.stores (hw.keep hb2) g5 (by decide) _ _
  · exact (Kept.store hk3 _ _ _ (by simp)).from hBl (by simp; omega)
set_option maxHeartbeats 3200000 in
set_option maxRecDepth 100000 in
theorem nplus_ge (b : Bool) (s1 s2 : Value) (m n : Nat) (w : World) (h1 : Wd w s1 m) (h2 : Wd w s2 n) (hm : (dig 1000000000 m).length ≤ 4294967295) (hn : (dig 1000000000 n).length ≤ 4294967295) (hge : n ≤ m) :
    Calls Tryz.prog 144 #[.agg #[.bool b, s1], .agg #[.bool (!b), s2]] w fun e w' => ∃ s, e = .returned (.agg #[.bool (b && decide (0 < (dig 1000000000 (m - n)).length)), s]) ∧ Wd w' s (m - n) ∧ Below w.heap.size w w' := by
  obtain ⟨a1, p1, rfl⟩ := Rd.shape h1
  obtain ⟨a2, p2, rfl⟩ := Rd.shape h2
  generalize hl1 : (dig 1000000000 m).length = k1 at *
  generalize hl2 : (dig 1000000000 n).length = k2 at *
  obtain ⟨W, hW, hA, hB, hR, hBl, hsz⟩ := boxes3 w (.bool b) (.slice a1 k1 p1) (.bool (!b)) (.slice a2 k2 p2) (.bool false) (.slice none 0 0)
  have hcmp : decide (cmpN m n < 0) = false := by unfold cmpN; rw [if_neg (by omega)]; split <;> simp
  have hK0 : Kept [w.heap.size + 1 + 1] W W := Kept.start (by intro r hr; simp at hr; subst hr; exact ⟨_, _, hR⟩)
  have H1 : Hid (∀ x, Kept [w.heap.size + 1 + 1] W x → Wd x (.slice a1 k1 p1) m ∧ Wd x (.slice a2 k2 p2) n) := fun x hx => ⟨h1.keep (hx.from hBl (by simp; omega)), h2.keep (hx.from hBl (by simp; omega))⟩
  have HL : Hid ((dig 1000000000 m).length ≤ 4294967295 ∧ (dig 1000000000 n).length ≤ 4294967295 ∧ n ≤ m) := ⟨by rw [hl1]; exact hm, by rw [hl2]; exact hn, hge⟩
  have HS : Hid (∀ x, Kept [w.heap.size + 1 + 1] W x → (Kept [w.heap.size + 1 + 1] W x ∧ x.cell? ⟨w.heap.size, 0, none⟩ = some (.bool b) ∧ x.cell? ⟨w.heap.size, 1, none⟩ = some (.slice a1 k1 p1) ∧ x.cell? ⟨w.heap.size + 1, 1, none⟩ = some (.slice a2 k2 p2))) :=
    fun x hx => ⟨hx, (hx.box hA (by simp; omega)).c0, (hx.box hA (by simp; omega)).c1, (hx.box hB (by simp)).c1⟩
  have HA := Lib.hid hA
  have HB := Lib.hid hB
  have HR := Lib.hid hR
  have HW := Lib.hid hW
  have HZ := Lib.hid hsz
  have HK0 := Lib.hid hK0
  clear hA hB hR hW hsz hl1 hl2 hge hK0
  go_enter Tryz.func144, Tryz.ntmps144
  have hnb : (b == !b) = false := by cases b <;> rfl
  go_wp2_with fail
  rw [← HW.out]
  have e1 := HA.out.c0; have e2 := HA.out.c1; have e3 := HB.out.c0; have e4 := HB.out.c1
  go_wp2_with fail
  refine (wcompare_any _ _ m n _ (H1.out _ HK0.out).1 (H1.out _ HK0.out).2 HL.out.1 HL.out.2.1).mono ?_
  rintro e w1 ⟨he, kk, rfl⟩
  generalize cmpN m n = cc at *
  subst he
  have hK1 := HK0.out.step (below_drewN (Below.refl _ _) kk)
  have hK2 := hK1.drew
  obtain ⟨_, d1, d2, d4⟩ := HS.out _ hK1
  obtain ⟨_, c1, c2, c4⟩ := HS.out _ hK2
  go_wp2_with fail
  go_region_held3 (fun w' => Kept [w.heap.size + 1 + 1] W w' ∧ w'.cell? ⟨w.heap.size, 0, none⟩ = some (.bool b) ∧ w'.cell? ⟨w.heap.size, 1, none⟩ = some (.slice a1 k1 p1) ∧ w'.cell? ⟨w.heap.size + 1, 1, none⟩ = some (.slice a2 k2 p2))
    (first | exact HS.out _ (Kept.store (by assumption) _ _ _ (by simp)) | exact HS.out _ (by assumption) | exact HS.out _ (Kept.drew (by assumption)))
    (first
      | (go_at_call 158; refine (wminus_any _ _ m n _ (H1.out _ (by assumption)).1 (H1.out _ (by assumption)).2 HL.out.1 HL.out.2.2).mono ?_; rintro e w1 ⟨v', rfl, _, hw, hb⟩; obtain ⟨a', cap', rfl⟩ := Rd.shape hw; have hk2 := Kept.step (ws := [w.heap.size + 1 + 1]) (W := W) (by assumption) hb; obtain ⟨_, f1, f2, f4⟩ := HS.out _ hk2)
      | (go_at_call 134; refine (signed_any _ _ _ _ _).mono ?_; rintro e w2 ⟨he, hb2⟩; subst he; have hk3 := hk2.step hb2; obtain ⟨_, j1, j2, j4⟩ := HS.out _ hk3; obtain ⟨x5, x6, g5⟩ := hk3.wr _ (List.mem_singleton.2 rfl); have f5 := g5.c0; have f6 := g5.c1; have f7 := g5.f0 0; have f8 := g5.f0 1; have fz := g5.lt))
  go_wp2
  refine bodyPost_ret (v := .agg #[.bool (b && decide (0 < (dig 1000000000 (m - n)).length)), .slice a' (dig 1000000000 (m - n)).length cap']) (by simp [results, Tryz.results144, go_sem, f5, f6]) rfl ⟨_, rfl, ?_, ?_⟩
  · exact Rd.stores (hw.keep hb2) g5 (by decide) _ _
  · exact (Kept.store hk3 _ _ _ (by simp)).from hBl (by simp; omega)

theorem bool_cases {x y : Int} (h : decide (x < 0) = decide (y < 0)) : (x < 0 ∧ y < 0) ∨ (0 ≤ x ∧ 0 ≤ y) := by
  by_cases hx : x < 0 <;> by_cases hy : y < 0 <;> simp [hx, hy] at h <;> omega

/-- number.plus -/
theorem nplus_any (v1 v2 : Value) (x y : Int) (w : World) (h1 : Nm w v1 x) (h2 : Nm w v2 y) (hm : (dig 1000000000 x.natAbs).length ≤ 4294967295) (hn : (dig 1000000000 y.natAbs).length ≤ 4294967295) :
    Calls Tryz.prog 144 #[v1, v2] w (GivesNm w (x + y)) := by
  obtain ⟨s1, rfl, g1⟩ := h1
  obtain ⟨s2, rfl, g2⟩ := h2
  by_cases hs : decide (x < 0) = decide (y < 0)
  · rw [← hs]
    refine (nplus_same _ s1 s2 _ _ w g1 g2 hm hn).mono ?_
    rintro e w' ⟨s, rfl, hw, hb⟩
    refine ⟨_, rfl, ⟨s, ?_, ?_⟩, hb⟩
    · rw [show decide (x < 0) = decide (x + y < 0) by rcases bool_cases hs with h | h <;> simp <;> omega]
    · rwa [show (x + y).natAbs = x.natAbs + y.natAbs by rcases bool_cases hs with h | h <;> omega]
  · have hne : decide (x < 0) = !decide (y < 0) := by
      cases h1 : decide (x < 0) <;> cases h2 : decide (y < 0) <;> simp_all
    have hc : (x < 0 ∧ 0 ≤ y) ∨ (0 ≤ x ∧ y < 0) := by
      by_cases hx : x < 0 <;> by_cases hy : y < 0 <;> simp [hx, hy] at hne <;> omega
    rcases Nat.lt_or_ge x.natAbs y.natAbs with hlt | hge
    · rw [hne]
      refine (nplus_lt _ s1 s2 _ _ w g1 g2 hm hn hlt).mono ?_
      rintro e w' ⟨s, rfl, hw, hb⟩
      refine ⟨_, rfl, ⟨s, ?_, ?_⟩, hb⟩
      · rw [show decide (y < 0) = decide (x + y < 0) by rcases hc with h | h <;> simp <;> omega]
      · rwa [show (x + y).natAbs = y.natAbs - x.natAbs by rcases hc with h | h <;> omega]
    · rw [show decide (y < 0) = !decide (x < 0) by rw [hne]; simp]
      refine (nplus_ge _ s1 s2 _ _ w g1 g2 hm hn hge).mono ?_
      rintro e w' ⟨s, rfl, hw, hb⟩
      refine ⟨_, rfl, ⟨s, ?_, ?_⟩, hb⟩
      · have e0 : (dig 1000000000 (x.natAbs - y.natAbs)).length = 0 ↔ x.natAbs - y.natAbs = 0 := by rw [List.length_eq_zero_iff, dig_eq_nil (by omega)]
        have e1 : (decide (x < 0) && decide (0 < (dig 1000000000 (x.natAbs - y.natAbs)).length)) = decide (x + y < 0) := by
          rw [Bool.eq_iff_iff]; simp; rcases hc with h | h <;> omega
        rw [e1]
      · rwa [show (x + y).natAbs = x.natAbs - y.natAbs by rcases hc with h | h <;> omega]
end Go.Proofs.YtnfmcdfdbipeoaaGreatDoor

namespace Go.Proofs.YtnfmcdfdbipeoaaGreatDoor
open Go.RowKit Go.Proofs.Num

theorem Nm.sh {w : World} {v : Value} {z : Int} (h : Nm w v z) : ∃ b a k cap, v = .agg #[.bool b, .slice a k cap] := by
  obtain ⟨s, rfl, h⟩ := h
  obtain ⟨a, cap, rfl⟩ := Rd.shape h
  exact ⟨_, a, _, cap, rfl⟩

theorem Nm.stores {w : World} {v : Value} {z : Int} {r : Nat} {x y : Value} (h : Nm w v z) (hB : Box 104 w r x y) (u v' : Value) : Nm ((w.setCell ⟨r, 0, none⟩ u).setCell ⟨r, 1, none⟩ v') v z := by
  obtain ⟨s, rfl, h⟩ := h
  exact ⟨s, rfl, Rd.stores h hB (by decide) _ _⟩

/-- A number of not too many words. -/
def Sm (z : Int) (k : Nat) : Prop := (dig 1000000000 z.natAbs).length ≤ k

set_option maxHeartbeats 3200000 in
set_option maxRecDepth 100000 in
/-- number.minus -/
theorem nminus_any (v1 v2 : Value) (x y : Int) (w : World) (h1 : Nm w v1 x) (h2 : Nm w v2 y) (hm : Sm x 4294967295) (hn : Sm y 4294967295) :
    Calls Tryz.prog 143 #[v1, v2] w (GivesNm w (x - y)) := by
  obtain ⟨b1, a1, k1, p1, rfl⟩ := h1.sh
  obtain ⟨b2, a2, k2, p2, rfl⟩ := h2.sh
  have hn' : (dig 1000000000 (-y).natAbs).length ≤ 4294967295 := by rw [Int.natAbs_neg]; exact hn
  obtain ⟨W, hW, hA, hB, hR, hBl, hsz⟩ := boxes3 w (.bool b1) (.slice a1 k1 p1) (.bool b2) (.slice a2 k2 p2) (.bool false) (.slice none 0 0)
  have hK0 : Kept [w.heap.size + 1 + 1] W W := Kept.start (by intro r hr; simp at hr; subst hr; exact ⟨_, _, hR⟩)
  have hK1 := hK0.drew
  have H1 : Hid (∀ u, Kept [w.heap.size + 1 + 1] W u → Nm u (.agg #[.bool b1, .slice a1 k1 p1]) x ∧ Nm u (.agg #[.bool b2, .slice a2 k2 p2]) y) := fun u hu => ⟨h1.keep (hu.from hBl (by simp; omega)), h2.keep (hu.from hBl (by simp; omega))⟩
  have HL : Hid ((dig 1000000000 x.natAbs).length ≤ 4294967295 ∧ (dig 1000000000 (-y).natAbs).length ≤ 4294967295) := ⟨hm, hn'⟩
  have HS : Hid (∀ u, Kept [w.heap.size + 1 + 1] W u → (Kept [w.heap.size + 1 + 1] W u ∧ u.cell? ⟨w.heap.size, 0, none⟩ = some (.bool b1) ∧ u.cell? ⟨w.heap.size, 1, none⟩ = some (.slice a1 k1 p1) ∧ u.cell? ⟨w.heap.size + 1, 0, none⟩ = some (.bool b2) ∧ u.cell? ⟨w.heap.size + 1, 1, none⟩ = some (.slice a2 k2 p2))) :=
    fun u hu => ⟨hu, (hu.box hA (by simp; omega)).c0, (hu.box hA (by simp; omega)).c1, (hu.box hB (by simp)).c0, (hu.box hB (by simp)).c1⟩
  obtain ⟨_, e1, e2, e3, e4⟩ := HS.out _ hK0
  obtain ⟨_, d1, d2, d3, d4⟩ := HS.out _ hK1
  have HW := Lib.hid hW
  clear hA hB hR hW hsz hm hn hn' h1 h2
  go_enter Tryz.func143, Tryz.ntmps143
  go_wp2_with fail
  rw [← HW.out]
  go_region_held3 (fun u => Kept [w.heap.size + 1 + 1] W u ∧ u.cell? ⟨w.heap.size, 0, none⟩ = some (.bool b1) ∧ u.cell? ⟨w.heap.size, 1, none⟩ = some (.slice a1 k1 p1) ∧ u.cell? ⟨w.heap.size + 1, 0, none⟩ = some (.bool b2) ∧ u.cell? ⟨w.heap.size + 1, 1, none⟩ = some (.slice a2 k2 p2))
    (first | exact HS.out _ (Kept.store (by assumption) _ _ _ (by simp)) | exact HS.out _ (by assumption) | exact HS.out _ (Kept.drew (by assumption)))
    (first
      | (go_at_call 145; refine (nopposite_any _ y _ (H1.out _ (by assumption)).2).mono ?_; rintro e w1 ⟨v', rfl, hw, hb⟩; have hk2 := Kept.step (ws := [w.heap.size + 1 + 1]) (W := W) (by assumption) hb; obtain ⟨_, f1, f2, f3, f4⟩ := HS.out _ hk2; obtain ⟨b', a', k', cap', rfl⟩ := hw.sh)
      | (go_at_call 144; refine (nplus_any _ _ x (-y) _ (H1.out _ (by assumption)).1 hw HL.out.1 HL.out.2).mono ?_; rintro e w2 ⟨v', rfl, hw2, hb2⟩; obtain ⟨b3, a3, k3, cap3, rfl⟩ := hw2.sh; have hk3 := hk2.step hb2; obtain ⟨_, j1, j2, j3, j4⟩ := HS.out _ hk3; obtain ⟨x5, x6, g5⟩ := hk3.wr _ (List.mem_singleton.2 rfl); have f5 := g5.c0; have f6 := g5.c1; have f7 := g5.f0 0; have f8 := g5.f0 1; have fz := g5.lt))
  go_wp2
  refine bodyPost_ret (v := .agg #[.bool b3, .slice a3 k3 cap3]) (by simp [results, Tryz.results143, go_sem, f5, f6]) rfl ⟨_, rfl, ?_, ?_⟩
  · exact Nm.stores hw2 g5 _ _
  · exact (Kept.store hk3 _ _ _ (by simp)).from hBl (by simp; omega)

theorem Nm.parts {w : World} {b : Bool} {a : Option Addr} {k cap : Nat} {z : Int} (h : Nm w (.agg #[.bool b, .slice a k cap]) z) : b = decide (z < 0) ∧ Wd w (.slice a k cap) z.natAbs ∧ k = (dig 1000000000 z.natAbs).length ∧ (k = 0 ↔ z = 0) := by
  obtain ⟨s, he, h⟩ := h
  simp at he
  obtain ⟨rfl, rfl⟩ := he
  obtain ⟨a', cap', hs⟩ := Rd.shape h
  simp at hs
  refine ⟨rfl, h, hs.2.1, ?_⟩
  rw [hs.2.1, List.length_eq_zero_iff, dig_eq_nil (by omega)]; omega
theorem Nm.mk' {w : World} {b : Bool} {v : Value} {z : Int} (hb : b = decide (z < 0)) (h : Wd w v z.natAbs) : Nm w (.agg #[.bool b, v]) z := ⟨v, by rw [hb], h⟩
theorem Rd.sh {q : IntKind} {T : TypeId} {w : World} {v : Value} {l : List Nat} (h : Rd q T w v l) : ∃ a k cap, v = .slice a k cap := by
  obtain ⟨a, cap, e⟩ := Rd.shape h; exact ⟨a, _, cap, e⟩
theorem Wd.len {w : World} {a : Option Addr} {k cap n : Nat} (h : Wd w (.slice a k cap) n) : k = (dig 1000000000 n).length ∧ (k = 0 ↔ n = 0) := by
  obtain ⟨a', cap', hs⟩ := Rd.shape h
  simp at hs
  refine ⟨hs.2.1, ?_⟩
  rw [hs.2.1, List.length_eq_zero_iff, dig_eq_nil (by omega)]

set_option maxHeartbeats 3200000 in
set_option maxRecDepth 100000 in
/-- number.times -/
theorem ntimes_any (v1 v2 : Value) (x y : Int) (w : World) (h1 : Nm w v1 x) (h2 : Nm w v2 y) (hm : Sm x 2147483647) (hn : Sm y 2147483647) :
    Calls Tryz.prog 98 #[v1, v2] w (GivesNm w (x * y)) := by
  obtain ⟨b1, a1, k1, p1, rfl⟩ := h1.sh
  obtain ⟨b2, a2, k2, p2, rfl⟩ := h2.sh
  obtain ⟨hb1, g1, -, hz1⟩ := h1.parts
  obtain ⟨hb2, g2, -, hz2⟩ := h2.parts
  obtain ⟨W, hW, hA, hB, hR, hBl, hsz⟩ := boxes3 w (.bool b1) (.slice a1 k1 p1) (.bool b2) (.slice a2 k2 p2) (.bool false) (.slice none 0 0)
  have hK0 : Kept [w.heap.size + 1 + 1] W W := Kept.start (by intro r hr; simp at hr; subst hr; exact ⟨_, _, hR⟩)
  have hK1 := hK0.drew
  have H1 : Hid (∀ u, Kept [w.heap.size + 1 + 1] W u → Wd u (.slice a1 k1 p1) x.natAbs ∧ Wd u (.slice a2 k2 p2) y.natAbs) := fun u hu => ⟨g1.keep (hu.from hBl (by simp; omega)), g2.keep (hu.from hBl (by simp; omega))⟩
  have HL : Hid ((dig 1000000000 x.natAbs).length ≤ 2147483647 ∧ (dig 1000000000 y.natAbs).length ≤ 2147483647) := ⟨hm, hn⟩
  have HS : Hid (∀ u, Kept [w.heap.size + 1 + 1] W u → (Kept [w.heap.size + 1 + 1] W u ∧ u.cell? ⟨w.heap.size, 0, none⟩ = some (.bool b1) ∧ u.cell? ⟨w.heap.size, 1, none⟩ = some (.slice a1 k1 p1) ∧ u.cell? ⟨w.heap.size + 1, 0, none⟩ = some (.bool b2) ∧ u.cell? ⟨w.heap.size + 1, 1, none⟩ = some (.slice a2 k2 p2))) :=
    fun u hu => ⟨hu, (hu.box hA (by simp; omega)).c0, (hu.box hA (by simp; omega)).c1, (hu.box hB (by simp)).c0, (hu.box hB (by simp)).c1⟩
  have HF : Hid (∀ (w' : World) (k : Nat), (k = 0 ↔ x.natAbs * y.natAbs = 0) → (!(b1 == b2) && decide (0 < k)) = decide (x * y < 0)) := by
    intro w' k hk
    rw [hb1, hb2, Bool.eq_iff_iff]
    have e : (x * y).natAbs = x.natAbs * y.natAbs := Int.natAbs_mul x y
    have h0 : x.natAbs * y.natAbs = 0 ↔ x * y = 0 := by rw [← e]; omega
    rcases (show x < 0 ∨ x = 0 ∨ 0 < x by omega) with h | h | h <;> rcases (show y < 0 ∨ y = 0 ∨ 0 < y by omega) with h' | h' | h'
    · have := Int.mul_pos_of_neg_of_neg h h'; simp [h, h']; omega
    · subst h'; simp at hk; simp; omega
    · have := Int.mul_neg_of_neg_of_pos h h'; simp [h, show ¬ y < 0 by omega]; omega
    · subst h; simp at hk; simp; omega
    · subst h; simp at hk; simp; omega
    · subst h; simp at hk; simp; omega
    · have := Int.mul_neg_of_pos_of_neg h h'; simp [h', show ¬ x < 0 by omega]; omega
    · subst h'; simp at hk; simp; omega
    · have := Int.mul_pos h h'; simp [show ¬ x < 0 by omega, show ¬ y < 0 by omega]; omega
  obtain ⟨_, e1, e2, e3, e4⟩ := HS.out _ hK0
  obtain ⟨_, d1, d2, d3, d4⟩ := HS.out _ hK1
  have HW := Lib.hid hW
  clear hA hB hR hW hsz hm hn h1 h2 hb1 hb2 g1 g2 hz1 hz2
  go_enter Tryz.func98, Tryz.ntmps98
  go_wp2_with fail
  rw [← HW.out]
  go_region_held3 (fun u => Kept [w.heap.size + 1 + 1] W u ∧ u.cell? ⟨w.heap.size, 0, none⟩ = some (.bool b1) ∧ u.cell? ⟨w.heap.size, 1, none⟩ = some (.slice a1 k1 p1) ∧ u.cell? ⟨w.heap.size + 1, 0, none⟩ = some (.bool b2) ∧ u.cell? ⟨w.heap.size + 1, 1, none⟩ = some (.slice a2 k2 p2))
    (first | exact HS.out _ (Kept.store (by assumption) _ _ _ (by simp)) | exact HS.out _ (by assumption) | exact HS.out _ (Kept.drew (by assumption)))
    (first
      | (go_at_call 135; refine (wtimes_any _ _ _ _ _ (H1.out _ (by assumption)).1 (H1.out _ (by assumption)).2 HL.out.1 HL.out.2).mono ?_; rintro e w1 ⟨v', rfl, _, hw, hb⟩; have hk2 := Kept.step (ws := [w.heap.size + 1 + 1]) (W := W) (by assumption) hb; obtain ⟨_, f1, f2, f3, f4⟩ := HS.out _ hk2; obtain ⟨a', k', cap', rfl⟩ := Rd.sh hw)
      | (go_at_call 134; refine (signed_any _ _ _ _ _).mono ?_; rintro e w2 ⟨he, hb2⟩; rw [HF.out w2 _ (Wd.len hw).2] at he; generalize hb3 : decide (x * y < 0) = b3 at he; have HB3 := Lib.hid hb3; clear hb3; subst he; have hk3 := hk2.step hb2; obtain ⟨_, j1, j2, j3, j4⟩ := HS.out _ hk3; obtain ⟨x5, x6, g5⟩ := hk3.wr _ (List.mem_singleton.2 rfl); have f5 := g5.c0; have f6 := g5.c1; have f7 := g5.f0 0; have f8 := g5.f0 1; have fz := g5.lt))
  go_wp2
  refine bodyPost_ret (v := .agg #[.bool b3, .slice a' k' cap']) (by simp [results, Tryz.results98, go_sem, f5, f6]) rfl ⟨_, rfl, ?_, ?_⟩
  · exact Nm.mk' HB3.out.symm (by rw [Int.natAbs_mul]; exact Rd.stores (hw.keep hb2) g5 (by decide) _ _)
  · exact (Kept.store hk3 _ _ _ (by simp)).from hBl (by simp; omega)

theorem boxes2 (w : World) (x1 y1 x2 y2 : Value) : ∃ W, W = ((w.alloc (.cells #[x1, y1] 104)).alloc (.cells #[x2, y2] 104)) ∧
    Box 104 W w.heap.size x1 y1 ∧ Box 104 W (w.heap.size + 1) x2 y2 ∧ Below w.heap.size w W ∧ W.heap.size = w.heap.size + 1 + 1 := by
  refine ⟨_, rfl, ((Box.new 104 w x1 y1).alloc _), ?_, ((below1 w _).alloc (by simp) _), by simp⟩
  have := Box.new 104 (w.alloc (.cells #[x1, y1] 104)) x2 y2
  rwa [World.size_alloc] at this

theorem sgn_neg {n : Int} (h : n < 0) : sgn n = -1 := by unfold sgn; rw [if_pos h]
theorem sgn_pos {n : Int} (h : 0 < n) : sgn n = 1 := by unfold sgn; rw [if_neg (by omega), if_pos h]
theorem sgn_zero : sgn 0 = 0 := rfl

/-- The order of two numbers. -/
def cmpZ (x y : Int) : Int := if x < y then -1 else if y < x then 1 else 0

set_option maxHeartbeats 3200000 in
set_option maxRecDepth 100000 in
/-- number.compare -/
theorem ncompare_any (v1 v2 : Value) (x y : Int) (w : World) (h1 : Nm w v1 x) (h2 : Nm w v2 y) (hm : Sm x 4294967295) (hn : Sm y 4294967295) :
    Calls Tryz.prog 100 #[v1, v2] w fun e w' => e = .returned (.int .i64 (cmpZ x y)) ∧ Below w.heap.size w w' := by
  obtain ⟨b1, a1, k1, p1, rfl⟩ := h1.sh
  obtain ⟨b2, a2, k2, p2, rfl⟩ := h2.sh
  obtain ⟨hb1, g1, -, hz1⟩ := h1.parts
  obtain ⟨hb2, g2, -, hz2⟩ := h2.parts
  obtain ⟨W, hW, hA, hB, hBl, hsz⟩ := boxes2 w (.bool b1) (.slice a1 k1 p1) (.bool b2) (.slice a2 k2 p2)
  have hK0 : Kept [] W W := Kept.start (by simp)
  have hK1 := hK0.drew
  have H1 : Hid (∀ u, Kept [] W u → Nm u (.agg #[.bool b1, .slice a1 k1 p1]) x ∧ Nm u (.agg #[.bool b2, .slice a2 k2 p2]) y ∧ Wd u (.slice a1 k1 p1) x.natAbs ∧ Wd u (.slice a2 k2 p2) y.natAbs) := fun u hu => ⟨h1.keep (hu.from hBl (by simp)), h2.keep (hu.from hBl (by simp)), g1.keep (hu.from hBl (by simp)), g2.keep (hu.from hBl (by simp))⟩
  have HL : Hid ((dig 1000000000 x.natAbs).length ≤ 4294967295 ∧ (dig 1000000000 y.natAbs).length ≤ 4294967295) := ⟨hm, hn⟩
  have HS : Hid (∀ u, Kept [] W u → (Kept [] W u ∧ u.cell? ⟨w.heap.size, 0, none⟩ = some (.bool b1) ∧ u.cell? ⟨w.heap.size, 1, none⟩ = some (.slice a1 k1 p1) ∧ u.cell? ⟨w.heap.size + 1, 0, none⟩ = some (.bool b2) ∧ u.cell? ⟨w.heap.size + 1, 1, none⟩ = some (.slice a2 k2 p2))) :=
    fun u hu => ⟨hu, (hu.box hA (by simp)).c0, (hu.box hA (by simp)).c1, (hu.box hB (by simp)).c0, (hu.box hB (by simp)).c1⟩
  obtain ⟨_, e1, e2, e3, e4⟩ := HS.out _ hK0
  obtain ⟨_, d1, d2, d3, d4⟩ := HS.out _ hK1
  have HW := Lib.hid hW
  have HK0 := Lib.hid hK0
  by_cases hne : b1 = b2
  · subst hne
    have hnn : (b1 != b1) = false := by simp
    have hfin : cmpZ x y = if b1 then cmpN y.natAbs x.natAbs else cmpN x.natAbs y.natAbs := by
      unfold cmpZ cmpN
      have hc := bool_cases (hb1.symm.trans hb2)
      rcases hc with h | h
      · rw [show b1 = true by rw [hb1]; simp; omega]; simp only [if_true]
        rcases (show x < y ∨ x = y ∨ y < x by omega) with h' | h' | h'
        · rw [if_pos h', if_pos (by omega)]
        · rw [if_neg (by omega), if_neg (by omega), if_neg (by omega), if_neg (by omega)]
        · rw [if_neg (by omega), if_pos h', if_neg (by omega), if_pos (by omega)]
      · rw [show b1 = false by rw [hb1]; simp; omega]; simp only [Bool.false_eq_true, if_false]
        rcases (show x < y ∨ x = y ∨ y < x by omega) with h' | h' | h'
        · rw [if_pos h', if_pos (by omega)]
        · rw [if_neg (by omega), if_neg (by omega), if_neg (by omega), if_neg (by omega)]
        · rw [if_neg (by omega), if_pos h', if_neg (by omega), if_pos (by omega)]
    have HF := Lib.hid hfin
    clear hA hB hW hsz hm hn h1 h2 hb1 hb2 g1 g2 hz1 hz2 hK0 hfin
    cases b1
    · go_enter Tryz.func100, Tryz.ntmps100
      go_wp2_with fail
      rw [← HW.out]
      go_wp2_with fail
      refine (wcompare_any _ _ _ _ _ (H1.out _ HK0.out).2.2.1 (H1.out _ HK0.out).2.2.2 HL.out.1 HL.out.2).mono ?_
      rintro e w1 ⟨rfl, kk, rfl⟩
      go_wp2
      go_ret
      exact ⟨by rw [HF.out]; rfl, below_drewN hBl _⟩
    · go_enter Tryz.func100, Tryz.ntmps100
      go_wp2_with fail
      rw [← HW.out]
      go_wp2_with fail
      refine (wcompare_any _ _ _ _ _ (H1.out _ HK0.out).2.2.2 (H1.out _ HK0.out).2.2.1 HL.out.2 HL.out.1).mono ?_
      rintro e w1 ⟨rfl, kk, rfl⟩
      go_wp2
      go_ret
      exact ⟨by rw [HF.out]; rfl, below_drewN hBl _⟩
  · have hnn : (b1 != b2) = true := by simpa using hne
    have hnn2 : (b1 == b2) = false := by simpa using hne
    have hfin : sgn (sgn x - sgn y) = cmpZ x y := by
      have hc : (x < 0 ∧ 0 ≤ y) ∨ (0 ≤ x ∧ y < 0) := by
        rw [hb1, hb2] at hne
        by_cases hx : x < 0 <;> by_cases hy : y < 0 <;> simp [hx, hy] at hne <;> omega
      unfold cmpZ
      rcases hc with h | h
      · rw [if_pos (by omega), sgn_neg h.1]
        rcases (show y = 0 ∨ 0 < y by omega) with h' | h'
        · rw [h', sgn_zero]; rfl
        · rw [sgn_pos h']; rfl
      · rw [if_neg (by omega), if_pos (by omega), sgn_neg h.2]
        rcases (show x = 0 ∨ 0 < x by omega) with h' | h'
        · rw [h', sgn_zero]; rfl
        · rw [sgn_pos h']; rfl
    have hs1 : -1 ≤ sgn x ∧ sgn x ≤ 1 := by unfold sgn; split <;> (try split) <;> omega
    have hs2 : -1 ≤ sgn y ∧ sgn y ≤ 1 := by unfold sgn; split <;> (try split) <;> omega
    have H2 : Hid (∀ u, Kept [] W u → Nm u (.agg #[.bool b1, .slice a1 k1 p1]) x ∧ Nm u (.agg #[.bool b2, .slice a2 k2 p2]) y) := fun u hu => ⟨(H1.out u hu).1, (H1.out u hu).2.1⟩
    obtain ⟨sx, hsx⟩ : ∃ s, s = sgn x := ⟨_, rfl⟩
    obtain ⟨sy, hsy⟩ : ∃ s, s = sgn y := ⟨_, rfl⟩
    have HSX := Lib.hid hsx
    have HSY := Lib.hid hsy
    rw [← hsx, ← hsy] at hfin
    rw [← hsx] at hs1
    rw [← hsy] at hs2
    have HF := Lib.hid hfin
    clear hA hB hW hsz hm hn h1 h2 hb1 hb2 g1 g2 hz1 hz2 hK0 hfin hsx hsy hne
    go_enter Tryz.func100, Tryz.ntmps100
    go_wp2_with fail
    rw [← HW.out]
    go_wp2_with fail
    go_region_held3 (fun u => Kept [] W u ∧ u.cell? ⟨w.heap.size, 0, none⟩ = some (.bool b1) ∧ u.cell? ⟨w.heap.size, 1, none⟩ = some (.slice a1 k1 p1) ∧ u.cell? ⟨w.heap.size + 1, 0, none⟩ = some (.bool b2) ∧ u.cell? ⟨w.heap.size + 1, 1, none⟩ = some (.slice a2 k2 p2))
      (first | exact HS.out _ hk2 | exact HS.out _ (by assumption) | exact HS.out _ (Kept.drew (by assumption)))
      (first
        | (go_at_call_of 124 (Value.agg #[Value.bool b1, Value.slice a1 k1 p1]); refine (nsign_any _ x _ (H2.out _ (by assumption)).1).mono ?_; rintro e w1 ⟨he, hb⟩; rw [← HSX.out] at he; subst he; have hk2 := Kept.step (ws := []) (W := W) (by assumption) hb; obtain ⟨_, f1, f2, f3, f4⟩ := HS.out _ hk2)
        | (go_at_call_of 124 (Value.agg #[Value.bool b2, Value.slice a2 k2 p2]); refine (nsign_any _ y _ (H2.out _ (by assumption)).2).mono ?_; rintro e w1 ⟨he, hb⟩; rw [← HSY.out] at he; subst he; have hk2 := Kept.step (ws := []) (W := W) (by assumption) hb; obtain ⟨_, f1, f2, f3, f4⟩ := HS.out _ hk2)
        | (go_at_call 136; refine (sign_any _ _).mono ?_; rintro e w2 ⟨he, rfl⟩; rw [IntWalk.i64_in _ (by omega), HF.out] at he; generalize hcz : cmpZ x y = cz at he; have HCZ := Lib.hid hcz; clear hcz; subst he))
    go_wp2
    go_ret
    exact ⟨by rw [HCZ.out]; rfl, hk2.from hBl (by simp)⟩
end Go.Proofs.YtnfmcdfdbipeoaaGreatDoor

namespace Go.Proofs.YtnfmcdfdbipeoaaGreatDoor
open Go.RowKit Go.Proofs.Num

/-- The contract of words.divide for divisors up to M. -/
def DivTo (M : Nat) : Prop := ∀ (v1 v2 : Value) (m n : Nat) (w : World), Wd w v1 m → Wd w v2 n → 0 < n → n ≤ M → (dig 1000000000 m).length ≤ 1073741823 → (dig 1000000000 n).length ≤ 1073741823 →
  Calls Tryz.prog 147 #[v1, v2] w (Gives2 w (m / n) (m % n))

theorem DivTo.le {M N : Nat} (h : DivTo M) (hN : N ≤ M) : DivTo N := fun v1 v2 m n w h1 h2 h3 h4 => h v1 v2 m n w h1 h2 h3 (Nat.le_trans h4 hN)

theorem wdivide_lt (v1 v2 : Value) (m n : Nat) (w : World) (h1 : Wd w v1 m) (h2 : Wd w v2 n) (hlt : m < n) (hm : (dig 1000000000 m).length ≤ 1073741823) (hn : (dig 1000000000 n).length ≤ 1073741823) :
    Calls Tryz.prog 147 #[v1, v2] w (Gives2 w (m / n) (m % n)) := by
  have H1 := h1
  obtain ⟨a1, k1, p1, rfl⟩ := Rd.sh h1
  obtain ⟨a2, k2, p2, rfl⟩ := Rd.sh h2
  have hc : cmpN m n = -1 := by unfold cmpN; rw [if_pos hlt]
  have HC := Lib.hid hc
  have HL : Hid ((dig 1000000000 m).length ≤ 4294967295 ∧ (dig 1000000000 n).length ≤ 4294967295 ∧ m < n) := ⟨by omega, by omega, hlt⟩
  clear hc hm hn hlt
  go_enter Tryz.func147, Tryz.ntmps147
  go_wp2_with fail
  refine (wcompare_any _ _ m n _ h1 h2 HL.out.1 HL.out.2.1).mono ?_
  rintro e w' ⟨he, kk, rfl⟩
  rw [HC.out] at he
  subst he
  go_wp2
  go_ret2
  refine ⟨_, _, rfl, ?_, ?_, below_drewN (Below.refl _ _) kk⟩
  · rw [Nat.div_eq_of_lt HL.out.2.2]; unfold Wd; rw [dig_zero]; exact Rd.nil _ _ _ _ _
  · rw [Nat.mod_eq_of_lt HL.out.2.2]; exact h1.keep (below_drewN (Below.refl _ _) kk)

theorem dig_one {n : Nat} (h0 : 0 < n) (h : n < 1000000000) : dig 1000000000 n = [n] := by
  rw [dig_pos (by omega) (by omega), Nat.mod_eq_of_lt h, Nat.div_eq_of_lt h, dig_zero]

theorem wdivide_word (v1 v2 : Value) (m n : Nat) (w : World) (h1 : Wd w v1 m) (h2 : Wd w v2 n) (h0 : 0 < n) (hs : n < 1000000000) (hge : n ≤ m) (hm : (dig 1000000000 m).length ≤ 1073741823) :
    Calls Tryz.prog 147 #[v1, v2] w (Gives2 w (m / n) (m % n)) := by
  obtain ⟨a1, k1, p1, rfl⟩ := Rd.sh h1
  have hd := dig_one h0 hs
  have H2 := h2
  unfold Wd at h2
  rw [hd] at h2
  rcases h2 with ⟨h, _⟩ | ⟨b, off, cap, rfl, h⟩
  · cases h
  have hcell := h.cell 0 (by simp)
  have hn0 : nth [n] 0 = n := rfl
  rw [hn0, Nat.add_zero] at hcell
  have hc : decide (cmpN m n < 0) = false := by unfold cmpN; rw [if_neg (by omega)]; split <;> simp
  have HL : Hid ((dig 1000000000 m).length ≤ 4294967295 ∧ (dig 1000000000 n).length ≤ 4294967295 ∧ m ≠ 0 ∧ 1 ≤ n ∧ n ≤ 1000000000) := ⟨by omega, by rw [hd]; simp, by omega, by omega, by omega⟩
  have hcw : ∀ kk, (w.drewN kk).cell? ⟨b, off, none⟩ = some (.int .u64 (n : Int)) := fun kk => by rw [World.cell?_drewN]; exact hcell
  have HH : Hid (RdAt .u64 135 w b off cap [n]) := h
  clear hd hn0 hm h0 hs hge h
  rw [show [n].length = 1 from rfl] at H2 ⊢
  go_enter Tryz.func147, Tryz.ntmps147
  go_wp2_with fail
  refine (wcompare_any _ _ m n _ h1 H2 HL.out.1 HL.out.2.1).mono ?_
  rintro e w' ⟨he, kk, rfl⟩
  generalize cmpN m n = cc at *
  subst he
  have hcw := hcw kk
  go_wp2_with fail
  refine (wdivideWord_any _ m n _ (h1.keep (below_drewN (Below.refl _ _) kk)) HL.out.1 HL.out.2.2.1 HL.out.2.2.2.1 HL.out.2.2.2.2).mono ?_
  rintro e w1 ⟨q1, r1, rfl, hq, hr, hb⟩
  obtain ⟨a3, k3, p3, rfl⟩ := Rd.sh hq
  obtain ⟨a4, k4, p4, rfl⟩ := Rd.sh hr
  go_wp2
  go_ret2
  exact ⟨_, _, rfl, hq, hr, (below_drewN (Below.refl _ _) kk).trans hb⟩

theorem divTo_word : DivTo 999999999 := by
  intro v1 v2 m n w h1 h2 h0 hn hm hl
  rcases Nat.lt_or_ge m n with h | h
  · exact wdivide_lt v1 v2 m n w h1 h2 h hm hl
  · exact wdivide_word v1 v2 m n w h1 h2 h0 (by omega) h hm
end Go.Proofs.YtnfmcdfdbipeoaaGreatDoor

namespace Go.Proofs.YtnfmcdfdbipeoaaGreatDoor
open Go.RowKit Go.Proofs.Num

/-- The quotient, rounded down. -/
def qz (x y : Int) : Int := if y < 0 then (-x) / (-y) else x / y
def rz (x y : Int) : Int := x - y * qz x y

theorem qz_spec (x y : Int) (hy : y ≠ 0) : x = y * qz x y + rz x y ∧ (0 < y → 0 ≤ rz x y ∧ rz x y < y) ∧ (y < 0 → y < rz x y ∧ rz x y ≤ 0) := by
  unfold rz
  refine ⟨by omega, fun h => ?_, fun h => ?_⟩
  · unfold qz
    rw [if_neg (by omega)]
    have h1 := Int.emod_nonneg x hy
    have h2 := Int.emod_lt_of_pos x h
    have h3 := Int.mul_ediv_add_emod x y
    omega
  · unfold qz
    rw [if_pos h]
    have h1 := Int.emod_nonneg (-x) (show -y ≠ 0 by omega)
    have h2 := Int.emod_lt_of_pos (-x) (show 0 < -y by omega)
    have h3 := Int.mul_ediv_add_emod (-x) (-y)
    rw [Int.neg_mul] at h3
    omega

theorem mul_sep {y d : Int} (hd : d ≠ 0) (hy : 0 < y) : y ≤ y * d ∨ y * d ≤ -y := by
  rcases (show 1 ≤ d ∨ d ≤ -1 by omega) with h | h
  · left; have := Int.mul_le_mul_of_nonneg_left h (show 0 ≤ y by omega); omega
  · right; have := Int.mul_le_mul_of_nonneg_left h (show 0 ≤ y by omega); omega

theorem qz_uniq {x y q r : Int} (hy : y ≠ 0) (he : x = y * q + r) (hr : (0 < y → 0 ≤ r ∧ r < y) ∧ (y < 0 → y < r ∧ r ≤ 0)) : qz x y = q ∧ rz x y = r := by
  obtain ⟨h1, h2, h3⟩ := qz_spec x y hy
  have h4 : y * (qz x y - q) = r - rz x y := by rw [Int.mul_sub]; omega
  have h5 : qz x y - q = 0 := by
    apply Classical.byContradiction
    intro hd
    rcases (show 0 < y ∨ y < 0 by omega) with h | h
    · have := mul_sep hd h
      have := h2 h; have := hr.1 h
      omega
    · have := mul_sep (y := -y) hd (by omega)
      rw [Int.neg_mul] at this
      have := h3 h; have := hr.2 h
      omega
  refine ⟨by omega, ?_⟩
  rw [h5] at h4
  omega

/-- How the words' quotient and rest make the one that is rounded down. -/
theorem qz_same {x y : Int} (hy : y ≠ 0) (h : (x < 0 ↔ y < 0) ∨ x.natAbs % y.natAbs = 0) :
    qz x y = (if decide (x < 0) = decide (y < 0) then ((x.natAbs / y.natAbs : Nat) : Int) else -((x.natAbs / y.natAbs : Nat) : Int)) ∧ rz x y = (if x < 0 then -((x.natAbs % y.natAbs : Nat) : Int) else ((x.natAbs % y.natAbs : Nat) : Int)) := by
  have e := Nat.mod_add_div x.natAbs y.natAbs
  have hlt := Nat.mod_lt x.natAbs (show 0 < y.natAbs by omega)
  generalize x.natAbs / y.natAbs = q at *
  generalize x.natAbs % y.natAbs = r at *
  have e' : ((r : Int) + (y.natAbs : Int) * (q : Int)) = (x.natAbs : Int) := by rw [← Int.natCast_mul]; omega
  refine qz_uniq hy ?_ ?_
  · rcases (show x < 0 ∨ 0 ≤ x by omega) with hx | hx <;> rcases (show y < 0 ∨ 0 ≤ y by omega) with hy' | hy'
    · rw [if_pos (by simp [hx, hy']), if_pos hx, show (y.natAbs : Int) = -y by omega, Int.neg_mul] at *; omega
    · rw [if_neg (by simp [hx]; omega), if_pos hx, show (y.natAbs : Int) = y by omega] at *; rw [Int.mul_neg]; omega
    · rw [if_neg (by simp [hy']; omega), if_neg (by omega), show (y.natAbs : Int) = -y by omega, Int.neg_mul] at *; rw [Int.mul_neg]; omega
    · rw [if_pos (by simp; omega), if_neg (by omega), show (y.natAbs : Int) = y by omega] at *; omega
  · refine ⟨fun h0 => ?_, fun h0 => ?_⟩ <;> split <;> omega

theorem qz_diff {x y : Int} (hy : y ≠ 0) (h : ¬ (x < 0 ↔ y < 0)) (hr : x.natAbs % y.natAbs ≠ 0) :
    qz x y = -((x.natAbs / y.natAbs : Nat) : Int) - 1 ∧ rz x y = (if x < 0 then -((x.natAbs % y.natAbs : Nat) : Int) else ((x.natAbs % y.natAbs : Nat) : Int)) + y := by
  have e := Nat.mod_add_div x.natAbs y.natAbs
  have hlt := Nat.mod_lt x.natAbs (show 0 < y.natAbs by omega)
  generalize x.natAbs / y.natAbs = q at *
  generalize x.natAbs % y.natAbs = r at *
  have e' : ((r : Int) + (y.natAbs : Int) * (q : Int)) = (x.natAbs : Int) := by rw [← Int.natCast_mul]; omega
  refine qz_uniq hy ?_ ?_
  · rw [Int.mul_sub, Int.mul_neg]
    rcases (show (x < 0 ∧ 0 ≤ y) ∨ (0 ≤ x ∧ y < 0) by omega) with ⟨hx, hy'⟩ | ⟨hx, hy'⟩
    · rw [if_pos hx, show (y.natAbs : Int) = y by omega] at *; omega
    · rw [if_neg (by omega), show (y.natAbs : Int) = -y by omega, Int.neg_mul] at *; omega
  · refine ⟨fun h0 => ?_, fun h0 => ?_⟩ <;> split <;> omega
end Go.Proofs.YtnfmcdfdbipeoaaGreatDoor

namespace Go.Proofs.YtnfmcdfdbipeoaaGreatDoor
open Go.RowKit Go.Proofs.Num

/-- Two boxes: an argument and a result. -/
theorem nm_zero (w : World) (a : Option Addr) (cap : Nat) : Nm w (.agg #[.bool false, .slice a 0 cap]) 0 := by
  refine ⟨_, rfl, ?_⟩
  unfold Wd
  rw [show (0 : Int).natAbs = 0 from rfl, dig_zero]
  exact Rd.nil _ _ _ _ _

theorem nm_unit (b : Bool) (w : World) (z : Int) (hz : z = if b then -1 else 1) : Nm (w.alloc (.cells #[.int .u64 1] 135)) (.agg #[.bool b, .slice (some ⟨w.heap.size, 0, none⟩) 1 1]) z := by
  refine Nm.mk' (by cases b <;> simp [hz]) ?_
  unfold Wd
  rw [show z.natAbs = 1 by cases b <;> simp [hz], dig_one (by omega) (by omega)]
  exact rd_one w 1

end Go.Proofs.YtnfmcdfdbipeoaaGreatDoor
