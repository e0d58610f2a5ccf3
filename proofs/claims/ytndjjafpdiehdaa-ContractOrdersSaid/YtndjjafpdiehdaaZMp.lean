/- One change of a graph behind another one (the law of orders). -/
import Derived.Test.YtndjjafpdiehdaaQ18
namespace Go.Proofs.Ytndjjafpdiehdaa
open Go.RowKit Go.Shelf Go.Proofs.Gr
attribute [local go_sem] Oper.semAt_some

/-- A store into a box of two cells leaves every graph as it is: a group of three cells does not lie there. -/
theorem EsAt.box {w : World} {a : Option Addr} {L : List E} {p : Nat} {t : TypeId} {x y : Value} (h : EsAt w a L) (hp : Blk w p t #[x, y]) (i : Nat) (v : Value) : EsAt (w.setCell ⟨p, i, none⟩ v) a L := by
  intro j hj
  obtain ⟨b, off, e1, hlt, h1⟩ := h j hj
  have hb : b ≠ p := by
    rintro rfl
    have h2 := h1 2 (by omega)
    rw [hp.cell (off + j * 3 + 2)] at h2
    have h3 : (#[x, y] : Array Value)[off + j * 3 + 2]? = none := by rw [Array.getElem?_eq_none]; simp
    rw [h3] at h2
    simp [encE] at h2
  have hg := grown_set w p i v
  exact ⟨b, off, e1, Nat.lt_of_lt_of_le hlt hg.size, fun t ht => (cell_grown hg hlt (by simpa using hb)).trans (h1 t ht)⟩
/-- A graph is written over the one in a box, and read from there into the box of the result. -/
theorem twice_facts (X : World) (q z w0 : Nat) (n1 n2 : Int) (s1 : Value) (J : List E) (a2 : Option Addr) (c2 : Nat) (he : EsAt X a2 J) (hqz : q ≠ z) (hQ : Blk X q 24 #[.int .i64 n1, s1]) (hZ : Blk X z 24 #[.int .i64 0, .slice none 0 0]) :
    ∃ X1 X2 X3 X4, X1 = X.setCell ⟨q, 0, none⟩ (.int .i64 n2) ∧ X2 = X1.setCell ⟨q, 1, none⟩ (.slice a2 J.length c2) ∧ X3 = X2.setCell ⟨z, 0, none⟩ (.int .i64 n2) ∧ X4 = X3.setCell ⟨z, 1, none⟩ (.slice a2 J.length c2) ∧
      (X.cell? ⟨q, 0, none⟩ = some (.int .i64 n1) ∧ X.frozen? ⟨q, 0, none⟩ = false ∧ X1.cell? ⟨q, 1, none⟩ = some s1 ∧ X1.frozen? ⟨q, 1, none⟩ = false ∧ X2.cell? ⟨q, 0, none⟩ = some (.int .i64 n2) ∧ X2.cell? ⟨q, 1, none⟩ = some (.slice a2 J.length c2)) ∧
      (X2.cell? ⟨z, 0, none⟩ = some (.int .i64 0) ∧ X2.frozen? ⟨z, 0, none⟩ = false ∧ X3.cell? ⟨z, 1, none⟩ = some (.slice none 0 0) ∧ X3.frozen? ⟨z, 1, none⟩ = false ∧ X4.cell? ⟨z, 0, none⟩ = some (.int .i64 n2) ∧ X4.cell? ⟨z, 1, none⟩ = some (.slice a2 J.length c2)) ∧
      EsAt X4 a2 J ∧ ∀ w, Below w0 w X → w0 ≤ q → w0 ≤ z → Below w0 w X4 := by
  refine ⟨_, _, _, _, rfl, rfl, rfl, rfl, ?_⟩
  have q1 := hQ.set_ 0 (.int .i64 n2)
  have q2 := q1.set_ 1 (.slice a2 J.length c2)
  have z2 := (hZ.far (p := ⟨q, 0, none⟩) (Ne.symm hqz) (.int .i64 n2)).far (p := ⟨q, 1, none⟩) (Ne.symm hqz) (.slice a2 J.length c2)
  have z3 := z2.set_ 0 (.int .i64 n2)
  have z4 := z3.set_ 1 (.slice a2 J.length c2)
  have e1 := he.box hQ 0 (.int .i64 n2)
  have e2 := e1.box q1 1 (.slice a2 J.length c2)
  have e3 := e2.box z2 0 (.int .i64 n2)
  have e4 := e3.box z3 1 (.slice a2 J.length c2)
  exact ⟨⟨hQ.cell 0, hQ.frozen 0, q1.cell 1, q1.frozen 1, q2.cell 0, q2.cell 1⟩, ⟨z2.cell 0, z2.frozen 0, z3.cell 1, z3.frozen 1, z4.cell 0, z4.cell 1⟩, e4, fun w hw h1 h2 => (((hw.setCell (p := ⟨q, 0, none⟩) h1 _).setCell (p := ⟨q, 1, none⟩) h1 _).setCell (p := ⟨z, 0, none⟩) h2 _).setCell (p := ⟨z, 1, none⟩) h2 _⟩
/-- A graph is written into the box of the result. -/
theorem box_facts (X : World) (z w0 : Nat) (n2 : Int) (J : List E) (a2 : Option Addr) (c2 : Nat) (he : EsAt X a2 J) (hZ : Blk X z 24 #[.int .i64 0, .slice none 0 0]) :
    X.cell? ⟨z, 0, none⟩ = some (.int .i64 0) ∧ X.frozen? ⟨z, 0, none⟩ = false ∧ (X.setCell ⟨z, 0, none⟩ (.int .i64 n2)).cell? ⟨z, 1, none⟩ = some (.slice none 0 0) ∧ (X.setCell ⟨z, 0, none⟩ (.int .i64 n2)).frozen? ⟨z, 1, none⟩ = false
    ∧ ((X.setCell ⟨z, 0, none⟩ (.int .i64 n2)).setCell ⟨z, 1, none⟩ (.slice a2 J.length c2)).cell? ⟨z, 0, none⟩ = some (.int .i64 n2) ∧ ((X.setCell ⟨z, 0, none⟩ (.int .i64 n2)).setCell ⟨z, 1, none⟩ (.slice a2 J.length c2)).cell? ⟨z, 1, none⟩ = some (.slice a2 J.length c2)
    ∧ EsAt ((X.setCell ⟨z, 0, none⟩ (.int .i64 n2)).setCell ⟨z, 1, none⟩ (.slice a2 J.length c2)) a2 J ∧ ∀ w, Below w0 w X → w0 ≤ z → Below w0 w ((X.setCell ⟨z, 0, none⟩ (.int .i64 n2)).setCell ⟨z, 1, none⟩ (.slice a2 J.length c2)) := by
  have z3 := hZ.set_ 0 (.int .i64 n2)
  have z4 := z3.set_ 1 (.slice a2 J.length c2)
  have e3 := he.box hZ 0 (.int .i64 n2)
  have e4 := e3.box z3 1 (.slice a2 J.length c2)
  exact ⟨hZ.cell 0, hZ.frozen 0, z3.cell 1, z3.frozen 1, z4.cell 0, z4.cell 1, e4, fun w hw h2 => (hw.setCell (p := ⟨z, 0, none⟩) h2 _).setCell (p := ⟨z, 1, none⟩) h2 _⟩
set_option maxHeartbeats 12800000 in
set_option maxRecDepth 100000 in
theorem after_DD (n : Int) (a : Option Addr) (cap : Nat) (L : List E) (B : Nat) (p q n1 n2 : Int) (J1 J2 : List E)
  (H1 : Hid (∀ w, EsAt w a L → Calls Try.prog 13 #[.agg #[.int .i64 n, .slice a L.length cap], .int .i64 p] w (fun e w' => ∃ a1 c1, e = .returned (.tuple #[.agg #[.int .i64 n1, .slice a1 J1.length c1], .int .i64 ((0 : Nat) : Int)]) ∧ EsAt w' a1 J1 ∧ Below w.heap.size w w')))
  (H2 : Hid (∀ a c w, EsAt w a J1 → Calls Try.prog 13 #[.agg #[.int .i64 n1, .slice a J1.length c], .int .i64 q] w (fun e w' => ∃ a1 c1, e = .returned (.tuple #[.agg #[.int .i64 n2, .slice a1 J2.length c1], .int .i64 ((0 : Nat) : Int)]) ∧ EsAt w' a1 J2 ∧ Below w.heap.size w w')))
  (w : World) (hB : Blk w B 24 #[.int .i64 n, .slice a L.length cap]) (h : EsAt w a L) :
    Calls Try.prog 39 #[.func (.func 13) #[] #[], .int .i64 p, .func (.func 13) #[] #[], .int .i64 q, .pointer (some ⟨B, 0, none⟩)] w (fun e w' => ∃ a1 c1, e = .returned (.tuple #[.agg #[.int .i64 n2, .slice a1 J2.length c1], .bool true]) ∧ EsAt w' a1 J2 ∧ Below w.heap.size w w') := by
  obtain ⟨W, hW⟩ : ∃ W, W = w.alloc (Obj.cells #[.int .i64 0, .slice none 0 0] 24) := ⟨_, rfl⟩
  have hB0 : Below w.heap.size w W := by rw [hW]; exact (Below.refl _ w).alloc (Nat.le_refl _) _
  have hZ : Blk W w.heap.size 24 #[.int .i64 0, .slice none 0 0] := by rw [hW]; exact Blk.new _ _ _
  have hG := hB.below hB0 hB.lt
  have g0 : (w.alloc (Obj.cells #[.int .i64 0, .slice none 0 0] 24)).cell? ⟨B, 0, none⟩ = some (.int .i64 n) := by rw [← hW]; exact hG.cell 0
  have g1 : (w.alloc (Obj.cells #[.int .i64 0, .slice none 0 0] 24)).cell? ⟨B, 1, none⟩ = some (.slice a L.length cap) := by rw [← hW]; exact hG.cell 1
  have HW := Lib.hid hW
  have HB0 := Lib.hid hB0
  have HZ := Lib.hid hZ
  have HE := Lib.hid (h.keep hB0)
  clear hW hB0 hZ hG hB h
  go_enter Try.func39, Try.ntmps39
  go_wp2_with fail
  rw [← HW.out]
  refine (H1.out _ HE.out).mono ?_
  rintro r x1 ⟨a1, c1, rfl, hj1, hb1⟩
  clear g0 g1
  obtain ⟨X2, hX2⟩ : ∃ X, X = x1.alloc (Obj.cells #[.int .i64 n1, .slice a1 J1.length c1] 24) := ⟨_, rfl⟩
  have hb2 : Below W.heap.size W X2 := by rw [hX2]; exact hb1.alloc hb1.size _
  have hQ : Blk X2 x1.heap.size 24 #[.int .i64 n1, .slice a1 J1.length c1] := by rw [hX2]; exact Blk.new _ _ _
  have hj2 : EsAt X2 a1 J1 := hj1.keep (by rw [hX2]; exact (Below.refl _ _).alloc (Nat.le_refl _) _)
  have HX2 := Lib.hid hX2
  have HQ := Lib.hid hQ
  have HB2 := Lib.hid hb2
  have HJ2 := Lib.hid hj2
  have HWX := Lib.hid hb1.size
  clear hX2 hQ hb2 hj2 hj1 hb1
  go_wp2_with fail
  rw [← HX2.out]
  refine (H2.out a1 c1 _ HJ2.out).mono ?_
  rintro r x3 ⟨a2, c2, rfl, hj3, hb3⟩
  obtain ⟨X3, X4, X5, X6, e3, e4, e5, e6, ⟨y1, y2, y3, y4, y5, y6⟩, ⟨v1, v2, v3, v4, v5, v6⟩, hes, hbl⟩ := twice_facts x3 x1.heap.size w.heap.size w.heap.size n1 n2 _ J2 a2 c2 hj3 (by have h1 := HWX.out; have h2 := HZ.out.lt; omega) (HQ.out.below hb3 HQ.out.lt) (HZ.out.below (HB2.out.trans (hb3.mono HB2.out.size)) HZ.out.lt)
  have HES := Lib.hid hes
  have HBL := Lib.hid (hbl w (HB0.out.trans ((HB2.out.trans (hb3.mono HB2.out.size)).mono HB0.out.size)) (by have h1 := HWX.out; have h2 := HZ.out.lt; omega) (Nat.le_refl _))
  subst e3 e4 e5 e6
  clear hes hbl hj3 hb3
  go_wp2
  refine bodyPost_ret (v := .tuple #[.agg #[.int .i64 n2, .slice a2 J2.length c2], .bool true]) (by simp [results, Try.results39, go_sem, v5, v6]) rfl ?_
  exact ⟨a2, c2, rfl, HES.out, HBL.out⟩
set_option maxHeartbeats 12800000 in
set_option maxRecDepth 100000 in
theorem after_CC (n : Int) (a : Option Addr) (cap : Nat) (L : List E) (B : Nat) (p q n1 n2 : Int) (J1 J2 : List E)
  (H1 : Hid (∀ w, EsAt w a L → Calls Try.prog 15 #[.agg #[.int .i64 n, .slice a L.length cap], .int .i64 p] w (fun e w' => ∃ a1 c1, e = .returned (.tuple #[.agg #[.int .i64 n1, .slice a1 J1.length c1], .int .i64 ((0 : Nat) : Int)]) ∧ EsAt w' a1 J1 ∧ Below w.heap.size w w')))
  (H2 : Hid (∀ a c w, EsAt w a J1 → Calls Try.prog 15 #[.agg #[.int .i64 n1, .slice a J1.length c], .int .i64 q] w (fun e w' => ∃ a1 c1, e = .returned (.tuple #[.agg #[.int .i64 n2, .slice a1 J2.length c1], .int .i64 ((0 : Nat) : Int)]) ∧ EsAt w' a1 J2 ∧ Below w.heap.size w w')))
  (w : World) (hB : Blk w B 24 #[.int .i64 n, .slice a L.length cap]) (h : EsAt w a L) :
    Calls Try.prog 39 #[.func (.func 15) #[] #[], .int .i64 p, .func (.func 15) #[] #[], .int .i64 q, .pointer (some ⟨B, 0, none⟩)] w (fun e w' => ∃ a1 c1, e = .returned (.tuple #[.agg #[.int .i64 n2, .slice a1 J2.length c1], .bool true]) ∧ EsAt w' a1 J2 ∧ Below w.heap.size w w') := by
  obtain ⟨W, hW⟩ : ∃ W, W = w.alloc (Obj.cells #[.int .i64 0, .slice none 0 0] 24) := ⟨_, rfl⟩
  have hB0 : Below w.heap.size w W := by rw [hW]; exact (Below.refl _ w).alloc (Nat.le_refl _) _
  have hZ : Blk W w.heap.size 24 #[.int .i64 0, .slice none 0 0] := by rw [hW]; exact Blk.new _ _ _
  have hG := hB.below hB0 hB.lt
  have g0 : (w.alloc (Obj.cells #[.int .i64 0, .slice none 0 0] 24)).cell? ⟨B, 0, none⟩ = some (.int .i64 n) := by rw [← hW]; exact hG.cell 0
  have g1 : (w.alloc (Obj.cells #[.int .i64 0, .slice none 0 0] 24)).cell? ⟨B, 1, none⟩ = some (.slice a L.length cap) := by rw [← hW]; exact hG.cell 1
  have HW := Lib.hid hW
  have HB0 := Lib.hid hB0
  have HZ := Lib.hid hZ
  have HE := Lib.hid (h.keep hB0)
  clear hW hB0 hZ hG hB h
  go_enter Try.func39, Try.ntmps39
  go_wp2_with fail
  rw [← HW.out]
  refine (H1.out _ HE.out).mono ?_
  rintro r x1 ⟨a1, c1, rfl, hj1, hb1⟩
  clear g0 g1
  obtain ⟨X2, hX2⟩ : ∃ X, X = x1.alloc (Obj.cells #[.int .i64 n1, .slice a1 J1.length c1] 24) := ⟨_, rfl⟩
  have hb2 : Below W.heap.size W X2 := by rw [hX2]; exact hb1.alloc hb1.size _
  have hQ : Blk X2 x1.heap.size 24 #[.int .i64 n1, .slice a1 J1.length c1] := by rw [hX2]; exact Blk.new _ _ _
  have hj2 : EsAt X2 a1 J1 := hj1.keep (by rw [hX2]; exact (Below.refl _ _).alloc (Nat.le_refl _) _)
  have HX2 := Lib.hid hX2
  have HQ := Lib.hid hQ
  have HB2 := Lib.hid hb2
  have HJ2 := Lib.hid hj2
  have HWX := Lib.hid hb1.size
  clear hX2 hQ hb2 hj2 hj1 hb1
  go_wp2_with fail
  rw [← HX2.out]
  refine (H2.out a1 c1 _ HJ2.out).mono ?_
  rintro r x3 ⟨a2, c2, rfl, hj3, hb3⟩
  obtain ⟨X3, X4, X5, X6, e3, e4, e5, e6, ⟨y1, y2, y3, y4, y5, y6⟩, ⟨v1, v2, v3, v4, v5, v6⟩, hes, hbl⟩ := twice_facts x3 x1.heap.size w.heap.size w.heap.size n1 n2 _ J2 a2 c2 hj3 (by have h1 := HWX.out; have h2 := HZ.out.lt; omega) (HQ.out.below hb3 HQ.out.lt) (HZ.out.below (HB2.out.trans (hb3.mono HB2.out.size)) HZ.out.lt)
  have HES := Lib.hid hes
  have HBL := Lib.hid (hbl w (HB0.out.trans ((HB2.out.trans (hb3.mono HB2.out.size)).mono HB0.out.size)) (by have h1 := HWX.out; have h2 := HZ.out.lt; omega) (Nat.le_refl _))
  subst e3 e4 e5 e6
  clear hes hbl hj3 hb3
  go_wp2
  refine bodyPost_ret (v := .tuple #[.agg #[.int .i64 n2, .slice a2 J2.length c2], .bool true]) (by simp [results, Try.results39, go_sem, v5, v6]) rfl ?_
  exact ⟨a2, c2, rfl, HES.out, HBL.out⟩
set_option maxHeartbeats 12800000 in
set_option maxRecDepth 100000 in
theorem after_DC (n : Int) (a : Option Addr) (cap : Nat) (L : List E) (B : Nat) (p q n1 n2 : Int) (J1 J2 : List E)
  (H1 : Hid (∀ w, EsAt w a L → Calls Try.prog 13 #[.agg #[.int .i64 n, .slice a L.length cap], .int .i64 p] w (fun e w' => ∃ a1 c1, e = .returned (.tuple #[.agg #[.int .i64 n1, .slice a1 J1.length c1], .int .i64 ((0 : Nat) : Int)]) ∧ EsAt w' a1 J1 ∧ Below w.heap.size w w')))
  (H2 : Hid (∀ a c w, EsAt w a J1 → Calls Try.prog 15 #[.agg #[.int .i64 n1, .slice a J1.length c], .int .i64 q] w (fun e w' => ∃ a1 c1, e = .returned (.tuple #[.agg #[.int .i64 n2, .slice a1 J2.length c1], .int .i64 ((0 : Nat) : Int)]) ∧ EsAt w' a1 J2 ∧ Below w.heap.size w w')))
  (w : World) (hB : Blk w B 24 #[.int .i64 n, .slice a L.length cap]) (h : EsAt w a L) :
    Calls Try.prog 39 #[.func (.func 13) #[] #[], .int .i64 p, .func (.func 15) #[] #[], .int .i64 q, .pointer (some ⟨B, 0, none⟩)] w (fun e w' => ∃ a1 c1, e = .returned (.tuple #[.agg #[.int .i64 n2, .slice a1 J2.length c1], .bool true]) ∧ EsAt w' a1 J2 ∧ Below w.heap.size w w') := by
  obtain ⟨W, hW⟩ : ∃ W, W = w.alloc (Obj.cells #[.int .i64 0, .slice none 0 0] 24) := ⟨_, rfl⟩
  have hB0 : Below w.heap.size w W := by rw [hW]; exact (Below.refl _ w).alloc (Nat.le_refl _) _
  have hZ : Blk W w.heap.size 24 #[.int .i64 0, .slice none 0 0] := by rw [hW]; exact Blk.new _ _ _
  have hG := hB.below hB0 hB.lt
  have g0 : (w.alloc (Obj.cells #[.int .i64 0, .slice none 0 0] 24)).cell? ⟨B, 0, none⟩ = some (.int .i64 n) := by rw [← hW]; exact hG.cell 0
  have g1 : (w.alloc (Obj.cells #[.int .i64 0, .slice none 0 0] 24)).cell? ⟨B, 1, none⟩ = some (.slice a L.length cap) := by rw [← hW]; exact hG.cell 1
  have HW := Lib.hid hW
  have HB0 := Lib.hid hB0
  have HZ := Lib.hid hZ
  have HE := Lib.hid (h.keep hB0)
  clear hW hB0 hZ hG hB h
  go_enter Try.func39, Try.ntmps39
  go_wp2_with fail
  rw [← HW.out]
  refine (H1.out _ HE.out).mono ?_
  rintro r x1 ⟨a1, c1, rfl, hj1, hb1⟩
  clear g0 g1
  obtain ⟨X2, hX2⟩ : ∃ X, X = x1.alloc (Obj.cells #[.int .i64 n1, .slice a1 J1.length c1] 24) := ⟨_, rfl⟩
  have hb2 : Below W.heap.size W X2 := by rw [hX2]; exact hb1.alloc hb1.size _
  have hQ : Blk X2 x1.heap.size 24 #[.int .i64 n1, .slice a1 J1.length c1] := by rw [hX2]; exact Blk.new _ _ _
  have hj2 : EsAt X2 a1 J1 := hj1.keep (by rw [hX2]; exact (Below.refl _ _).alloc (Nat.le_refl _) _)
  have HX2 := Lib.hid hX2
  have HQ := Lib.hid hQ
  have HB2 := Lib.hid hb2
  have HJ2 := Lib.hid hj2
  have HWX := Lib.hid hb1.size
  clear hX2 hQ hb2 hj2 hj1 hb1
  go_wp2_with fail
  rw [← HX2.out]
  refine (H2.out a1 c1 _ HJ2.out).mono ?_
  rintro r x3 ⟨a2, c2, rfl, hj3, hb3⟩
  obtain ⟨X3, X4, X5, X6, e3, e4, e5, e6, ⟨y1, y2, y3, y4, y5, y6⟩, ⟨v1, v2, v3, v4, v5, v6⟩, hes, hbl⟩ := twice_facts x3 x1.heap.size w.heap.size w.heap.size n1 n2 _ J2 a2 c2 hj3 (by have h1 := HWX.out; have h2 := HZ.out.lt; omega) (HQ.out.below hb3 HQ.out.lt) (HZ.out.below (HB2.out.trans (hb3.mono HB2.out.size)) HZ.out.lt)
  have HES := Lib.hid hes
  have HBL := Lib.hid (hbl w (HB0.out.trans ((HB2.out.trans (hb3.mono HB2.out.size)).mono HB0.out.size)) (by have h1 := HWX.out; have h2 := HZ.out.lt; omega) (Nat.le_refl _))
  subst e3 e4 e5 e6
  clear hes hbl hj3 hb3
  go_wp2
  refine bodyPost_ret (v := .tuple #[.agg #[.int .i64 n2, .slice a2 J2.length c2], .bool true]) (by simp [results, Try.results39, go_sem, v5, v6]) rfl ?_
  exact ⟨a2, c2, rfl, HES.out, HBL.out⟩
set_option maxHeartbeats 12800000 in
set_option maxRecDepth 100000 in
theorem after_CD (n : Int) (a : Option Addr) (cap : Nat) (L : List E) (B : Nat) (p q n1 n2 : Int) (J1 J2 : List E)
  (H1 : Hid (∀ w, EsAt w a L → Calls Try.prog 15 #[.agg #[.int .i64 n, .slice a L.length cap], .int .i64 p] w (fun e w' => ∃ a1 c1, e = .returned (.tuple #[.agg #[.int .i64 n1, .slice a1 J1.length c1], .int .i64 ((0 : Nat) : Int)]) ∧ EsAt w' a1 J1 ∧ Below w.heap.size w w')))
  (H2 : Hid (∀ a c w, EsAt w a J1 → Calls Try.prog 13 #[.agg #[.int .i64 n1, .slice a J1.length c], .int .i64 q] w (fun e w' => ∃ a1 c1, e = .returned (.tuple #[.agg #[.int .i64 n2, .slice a1 J2.length c1], .int .i64 ((0 : Nat) : Int)]) ∧ EsAt w' a1 J2 ∧ Below w.heap.size w w')))
  (w : World) (hB : Blk w B 24 #[.int .i64 n, .slice a L.length cap]) (h : EsAt w a L) :
    Calls Try.prog 39 #[.func (.func 15) #[] #[], .int .i64 p, .func (.func 13) #[] #[], .int .i64 q, .pointer (some ⟨B, 0, none⟩)] w (fun e w' => ∃ a1 c1, e = .returned (.tuple #[.agg #[.int .i64 n2, .slice a1 J2.length c1], .bool true]) ∧ EsAt w' a1 J2 ∧ Below w.heap.size w w') := by
  obtain ⟨W, hW⟩ : ∃ W, W = w.alloc (Obj.cells #[.int .i64 0, .slice none 0 0] 24) := ⟨_, rfl⟩
  have hB0 : Below w.heap.size w W := by rw [hW]; exact (Below.refl _ w).alloc (Nat.le_refl _) _
  have hZ : Blk W w.heap.size 24 #[.int .i64 0, .slice none 0 0] := by rw [hW]; exact Blk.new _ _ _
  have hG := hB.below hB0 hB.lt
  have g0 : (w.alloc (Obj.cells #[.int .i64 0, .slice none 0 0] 24)).cell? ⟨B, 0, none⟩ = some (.int .i64 n) := by rw [← hW]; exact hG.cell 0
  have g1 : (w.alloc (Obj.cells #[.int .i64 0, .slice none 0 0] 24)).cell? ⟨B, 1, none⟩ = some (.slice a L.length cap) := by rw [← hW]; exact hG.cell 1
  have HW := Lib.hid hW
  have HB0 := Lib.hid hB0
  have HZ := Lib.hid hZ
  have HE := Lib.hid (h.keep hB0)
  clear hW hB0 hZ hG hB h
  go_enter Try.func39, Try.ntmps39
  go_wp2_with fail
  rw [← HW.out]
  refine (H1.out _ HE.out).mono ?_
  rintro r x1 ⟨a1, c1, rfl, hj1, hb1⟩
  clear g0 g1
  obtain ⟨X2, hX2⟩ : ∃ X, X = x1.alloc (Obj.cells #[.int .i64 n1, .slice a1 J1.length c1] 24) := ⟨_, rfl⟩
  have hb2 : Below W.heap.size W X2 := by rw [hX2]; exact hb1.alloc hb1.size _
  have hQ : Blk X2 x1.heap.size 24 #[.int .i64 n1, .slice a1 J1.length c1] := by rw [hX2]; exact Blk.new _ _ _
  have hj2 : EsAt X2 a1 J1 := hj1.keep (by rw [hX2]; exact (Below.refl _ _).alloc (Nat.le_refl _) _)
  have HX2 := Lib.hid hX2
  have HQ := Lib.hid hQ
  have HB2 := Lib.hid hb2
  have HJ2 := Lib.hid hj2
  have HWX := Lib.hid hb1.size
  clear hX2 hQ hb2 hj2 hj1 hb1
  go_wp2_with fail
  rw [← HX2.out]
  refine (H2.out a1 c1 _ HJ2.out).mono ?_
  rintro r x3 ⟨a2, c2, rfl, hj3, hb3⟩
  obtain ⟨X3, X4, X5, X6, e3, e4, e5, e6, ⟨y1, y2, y3, y4, y5, y6⟩, ⟨v1, v2, v3, v4, v5, v6⟩, hes, hbl⟩ := twice_facts x3 x1.heap.size w.heap.size w.heap.size n1 n2 _ J2 a2 c2 hj3 (by have h1 := HWX.out; have h2 := HZ.out.lt; omega) (HQ.out.below hb3 HQ.out.lt) (HZ.out.below (HB2.out.trans (hb3.mono HB2.out.size)) HZ.out.lt)
  have HES := Lib.hid hes
  have HBL := Lib.hid (hbl w (HB0.out.trans ((HB2.out.trans (hb3.mono HB2.out.size)).mono HB0.out.size)) (by have h1 := HWX.out; have h2 := HZ.out.lt; omega) (Nat.le_refl _))
  subst e3 e4 e5 e6
  clear hes hbl hj3 hb3
  go_wp2
  refine bodyPost_ret (v := .tuple #[.agg #[.int .i64 n2, .slice a2 J2.length c2], .bool true]) (by simp [results, Try.results39, go_sem, v5, v6]) rfl ?_
  exact ⟨a2, c2, rfl, HES.out, HBL.out⟩
set_option maxHeartbeats 12800000 in
set_option maxRecDepth 100000 in
theorem clo_2 (Ba Be Bl Bf Bg lb lo len c y : Nat) (p q n2 : Int) (J2 : List E) (w : World) (hy : (y : Int) < (len : Int))
  (HF : Hid (∀ u, Below w.heap.size w u → u.cell? ⟨Ba, 0, none⟩ = some (.func (.func 39) #[] #[.pointer (some ⟨Bg, 0, none⟩)]) ∧ u.cell? ⟨Be, 0, none⟩ = some (.int .i64 p) ∧ u.cell? ⟨Bl, 0, none⟩ = some (.slice (some ⟨lb, lo, none⟩) len c) ∧ u.cell? ⟨Bf, 0, none⟩ = some (.int .i64 (y : Nat)) ∧ u.cell? ⟨lb, lo + y, none⟩ = some (.int .i64 q)))
  (HA : Hid (∀ w1, Below w.heap.size w w1 → Calls Try.prog 39 #[.func (.func 13) #[] #[], .int .i64 p, .func (.func 13) #[] #[], .int .i64 q, .pointer (some ⟨Bg, 0, none⟩)] w1 (fun e w' => ∃ a1 c1, e = .returned (.tuple #[.agg #[.int .i64 n2, .slice a1 J2.length c1], .bool true]) ∧ EsAt w' a1 J2 ∧ Below w1.heap.size w1 w'))) :
    Calls Try.prog 40 #[.pointer (some ⟨Ba, 0, none⟩), .pointer (some ⟨Be, 0, none⟩), .pointer (some ⟨Bl, 0, none⟩), .pointer (some ⟨Bf, 0, none⟩)] w (fun e w' => ∃ a1 c1, e = .returned (.tuple #[.agg #[.int .i64 n2, .slice a1 J2.length c1], .bool true]) ∧ EsAt w' a1 J2 ∧ Below w.heap.size w w') := by
  obtain ⟨W, hW⟩ : ∃ W, W = w.alloc (Obj.cells #[.int .i64 0, .slice none 0 0] 24) := ⟨_, rfl⟩
  have hB0 : Below w.heap.size w W := by rw [hW]; exact (Below.refl _ w).alloc (Nat.le_refl _) _
  have hZ : Blk W w.heap.size 24 #[.int .i64 0, .slice none 0 0] := by rw [hW]; exact Blk.new _ _ _
  have HW := Lib.hid hW
  have HZ := Lib.hid hZ
  have hy0 : (0 : Int) ≤ (y : Int) := by omega
  have hj0 : Below w.heap.size w W.drew := hB0.drew
  clear hW hB0 hZ
  go_enter Try.func40, Try.ntmps40
  go_wp2_with fail
  rw [← HW.out]
  refine wp_region_late (S := fun u => Below w.heap.size w u) (X := []) (by kernel_rfl) ?_
  refine wpAnyL_takeD (i := 0) 6 (.func (.func 39) #[] #[.pointer (some ⟨Bg, 0, none⟩)]) rfl rfl (by kernel_rfl) (by kernel_rfl) (by kernel_rfl) (by kernel_rfl) (by kernel_rfl) (fun _ _ _ h => h) hj0 (Or.inl ⟨by rfl, fun u hu => ?_⟩) ?_
  · obtain ⟨t0, t1, t2, t3, t4⟩ := HF.out u hu
    go_simp
  try simp only [Act.put, List.setIfInBounds_toArray, List.set_cons_zero, List.set_cons_succ]
  refine wpAnyL_takeD (i := 1) 7 (.int .i64 p) rfl rfl (by kernel_rfl) (by kernel_rfl) (by kernel_rfl) (by kernel_rfl) (by kernel_rfl) (fun _ _ _ h => h) hj0 (Or.inl ⟨by rfl, fun u hu => ?_⟩) ?_
  · obtain ⟨t0, t1, t2, t3, t4⟩ := HF.out u hu
    go_simp
  try simp only [Act.put, List.setIfInBounds_toArray, List.set_cons_zero, List.set_cons_succ]
  refine wpAnyL_takeD (i := 2) 8 (.slice (some ⟨lb, lo, none⟩) len c) rfl rfl (by kernel_rfl) (by kernel_rfl) (by kernel_rfl) (by kernel_rfl) (by kernel_rfl) (fun _ _ _ h => h) hj0 (Or.inl ⟨by rfl, fun u hu => ?_⟩) ?_
  · obtain ⟨t0, t1, t2, t3, t4⟩ := HF.out u hu
    go_simp
  try simp only [Act.put, List.setIfInBounds_toArray, List.set_cons_zero, List.set_cons_succ]
  refine wpAnyL_takeD (i := 3) 9 (.int .i64 (y : Nat)) rfl rfl (by kernel_rfl) (by kernel_rfl) (by kernel_rfl) (by kernel_rfl) (by kernel_rfl) (fun _ _ _ h => h) hj0 (Or.inl ⟨by rfl, fun u hu => ?_⟩) ?_
  · obtain ⟨t0, t1, t2, t3, t4⟩ := HF.out u hu
    go_simp
  try simp only [Act.put, List.setIfInBounds_toArray, List.set_cons_zero, List.set_cons_succ]
  refine wpAnyL_pureD (i := 4) 10 (.pointer (some ⟨lb, lo + y, none⟩)) rfl rfl (by kernel_rfl) (by kernel_rfl) (by kernel_rfl) (fun _ _ _ h => h) (Or.inl ⟨by rfl, fun u _ => ?_⟩) ?_
  · go_simp
  try simp only [Act.put, List.setIfInBounds_toArray, List.set_cons_zero, List.set_cons_succ]
  refine wpAnyL_takeD (i := 5) 11 (.int .i64 q) rfl rfl (by kernel_rfl) (by kernel_rfl) (by kernel_rfl) (by kernel_rfl) (by kernel_rfl) (fun _ _ _ h => h) hj0 (Or.inl ⟨by rfl, fun u hu => ?_⟩) ?_
  · obtain ⟨t0, t1, t2, t3, t4⟩ := HF.out u hu
    go_simp
  try simp only [Act.put, List.setIfInBounds_toArray, List.set_cons_zero, List.set_cons_succ]
  refine wpAnyL_one (i := 6) (by kernel_rfl) rfl (fun K hK => ?_)
  go_simp
  go_at_call 39
  refine ((HA.out _ hj0)).mono ?_
  rintro r x3 ⟨a2, c2, rfl, hj3, hb3⟩
  have hj1 : Below w.heap.size w x3 := hj0.trans (hb3.mono hj0.size)
  obtain ⟨r1, r3, r2, r4, r5, r6, hes, hbf⟩ := box_facts x3 w.heap.size w.heap.size n2 J2 a2 c2 hj3 (HZ.out.below (Below.trans (Below.refl _ _).drew hb3) HZ.out.lt)
  have HES := Lib.hid hes
  have HBL := Lib.hid (hbf w hj1 (Nat.le_refl _))
  clear hes hbf hb3
  show K _ _
  refine hK.out _ _ (fun _ _ => hj1) ?_
  clear hK K
  try simp only [Act.put, List.setIfInBounds_toArray, List.set_cons_zero, List.set_cons_succ]
  refine wpAnyL_pureD (i := 7) 13 (.agg #[.int .i64 n2, .slice a2 J2.length c2]) rfl rfl (by kernel_rfl) (by kernel_rfl) (by kernel_rfl) (fun _ _ _ h => h) (Or.inl ⟨by rfl, fun u _ => ?_⟩) ?_
  · go_simp
  try simp only [Act.put, List.setIfInBounds_toArray, List.set_cons_zero, List.set_cons_succ]
  refine wpAnyL_pureD (i := 8) 14 (.bool true) rfl rfl (by kernel_rfl) (by kernel_rfl) (by kernel_rfl) (fun _ _ _ h => h) (Or.inl ⟨by rfl, fun u _ => ?_⟩) ?_
  · go_simp
  try simp only [Act.put, List.setIfInBounds_toArray, List.set_cons_zero, List.set_cons_succ]
  refine wpAnyL_one (i := 9) (by kernel_rfl) rfl (fun K hK => ?_)
  go_simp
  refine hK.out _ _ (fun _ _ => HBL.out) ?_
  clear hK K
  try simp only [Act.put, List.setIfInBounds_toArray, List.set_cons_zero, List.set_cons_succ]
  refine wpAnyL_pureD (i := 10) 5 (.bool true) rfl rfl (by kernel_rfl) (by kernel_rfl) (by kernel_rfl) (fun _ _ _ h => h) (Or.inl ⟨by rfl, fun u _ => ?_⟩) ?_
  · go_simp
  try simp only [Act.put, List.setIfInBounds_toArray, List.set_cons_zero, List.set_cons_succ]
  refine wpAnyL_done (by kernel_rfl) ?_ _
  try simp only [Act.put, List.setIfInBounds_toArray, List.set_cons_zero, List.set_cons_succ]
  go_wp2
  refine bodyPost_ret (v := .tuple #[.agg #[.int .i64 n2, .slice a2 J2.length c2], .bool true]) (by simp [results, Try.results40, go_sem, r5, r6]) rfl ?_
  exact ⟨a2, c2, rfl, HES.out, HBL.out⟩
set_option maxHeartbeats 12800000 in
set_option maxRecDepth 100000 in
theorem clo_3 (Ba Be Bl Bf Bg lb lo len c y : Nat) (p q n2 : Int) (J2 : List E) (w : World) (hy : (y : Int) < (len : Int))
  (HF : Hid (∀ u, Below w.heap.size w u → u.cell? ⟨Ba, 0, none⟩ = some (.func (.func 39) #[] #[.pointer (some ⟨Bg, 0, none⟩)]) ∧ u.cell? ⟨Be, 0, none⟩ = some (.int .i64 p) ∧ u.cell? ⟨Bl, 0, none⟩ = some (.slice (some ⟨lb, lo, none⟩) len c) ∧ u.cell? ⟨Bf, 0, none⟩ = some (.int .i64 (y : Nat)) ∧ u.cell? ⟨lb, lo + y, none⟩ = some (.int .i64 q)))
  (HA : Hid (∀ w1, Below w.heap.size w w1 → Calls Try.prog 39 #[.func (.func 13) #[] #[], .int .i64 p, .func (.func 13) #[] #[], .int .i64 q, .pointer (some ⟨Bg, 0, none⟩)] w1 (fun e w' => ∃ a1 c1, e = .returned (.tuple #[.agg #[.int .i64 n2, .slice a1 J2.length c1], .bool true]) ∧ EsAt w' a1 J2 ∧ Below w1.heap.size w1 w'))) :
    Calls Try.prog 41 #[.pointer (some ⟨Ba, 0, none⟩), .pointer (some ⟨Be, 0, none⟩), .pointer (some ⟨Bl, 0, none⟩), .pointer (some ⟨Bf, 0, none⟩)] w (fun e w' => ∃ a1 c1, e = .returned (.tuple #[.agg #[.int .i64 n2, .slice a1 J2.length c1], .bool true]) ∧ EsAt w' a1 J2 ∧ Below w.heap.size w w') := by
  obtain ⟨W, hW⟩ : ∃ W, W = w.alloc (Obj.cells #[.int .i64 0, .slice none 0 0] 24) := ⟨_, rfl⟩
  have hB0 : Below w.heap.size w W := by rw [hW]; exact (Below.refl _ w).alloc (Nat.le_refl _) _
  have hZ : Blk W w.heap.size 24 #[.int .i64 0, .slice none 0 0] := by rw [hW]; exact Blk.new _ _ _
  have HW := Lib.hid hW
  have HZ := Lib.hid hZ
  have hy0 : (0 : Int) ≤ (y : Int) := by omega
  have hj0 : Below w.heap.size w W.drew := hB0.drew
  clear hW hB0 hZ
  go_enter Try.func41, Try.ntmps41
  go_wp2_with fail
  rw [← HW.out]
  refine wp_region_late (S := fun u => Below w.heap.size w u) (X := []) (by kernel_rfl) ?_
  refine wpAnyL_takeD (i := 0) 6 (.func (.func 39) #[] #[.pointer (some ⟨Bg, 0, none⟩)]) rfl rfl (by kernel_rfl) (by kernel_rfl) (by kernel_rfl) (by kernel_rfl) (by kernel_rfl) (fun _ _ _ h => h) hj0 (Or.inl ⟨by rfl, fun u hu => ?_⟩) ?_
  · obtain ⟨t0, t1, t2, t3, t4⟩ := HF.out u hu
    go_simp
  try simp only [Act.put, List.setIfInBounds_toArray, List.set_cons_zero, List.set_cons_succ]
  refine wpAnyL_takeD (i := 1) 7 (.int .i64 p) rfl rfl (by kernel_rfl) (by kernel_rfl) (by kernel_rfl) (by kernel_rfl) (by kernel_rfl) (fun _ _ _ h => h) hj0 (Or.inl ⟨by rfl, fun u hu => ?_⟩) ?_
  · obtain ⟨t0, t1, t2, t3, t4⟩ := HF.out u hu
    go_simp
  try simp only [Act.put, List.setIfInBounds_toArray, List.set_cons_zero, List.set_cons_succ]
  refine wpAnyL_takeD (i := 2) 8 (.slice (some ⟨lb, lo, none⟩) len c) rfl rfl (by kernel_rfl) (by kernel_rfl) (by kernel_rfl) (by kernel_rfl) (by kernel_rfl) (fun _ _ _ h => h) hj0 (Or.inl ⟨by rfl, fun u hu => ?_⟩) ?_
  · obtain ⟨t0, t1, t2, t3, t4⟩ := HF.out u hu
    go_simp
  try simp only [Act.put, List.setIfInBounds_toArray, List.set_cons_zero, List.set_cons_succ]
  refine wpAnyL_takeD (i := 3) 9 (.int .i64 (y : Nat)) rfl rfl (by kernel_rfl) (by kernel_rfl) (by kernel_rfl) (by kernel_rfl) (by kernel_rfl) (fun _ _ _ h => h) hj0 (Or.inl ⟨by rfl, fun u hu => ?_⟩) ?_
  · obtain ⟨t0, t1, t2, t3, t4⟩ := HF.out u hu
    go_simp
  try simp only [Act.put, List.setIfInBounds_toArray, List.set_cons_zero, List.set_cons_succ]
  refine wpAnyL_pureD (i := 4) 10 (.pointer (some ⟨lb, lo + y, none⟩)) rfl rfl (by kernel_rfl) (by kernel_rfl) (by kernel_rfl) (fun _ _ _ h => h) (Or.inl ⟨by rfl, fun u _ => ?_⟩) ?_
  · go_simp
  try simp only [Act.put, List.setIfInBounds_toArray, List.set_cons_zero, List.set_cons_succ]
  refine wpAnyL_takeD (i := 5) 11 (.int .i64 q) rfl rfl (by kernel_rfl) (by kernel_rfl) (by kernel_rfl) (by kernel_rfl) (by kernel_rfl) (fun _ _ _ h => h) hj0 (Or.inl ⟨by rfl, fun u hu => ?_⟩) ?_
  · obtain ⟨t0, t1, t2, t3, t4⟩ := HF.out u hu
    go_simp
  try simp only [Act.put, List.setIfInBounds_toArray, List.set_cons_zero, List.set_cons_succ]
  refine wpAnyL_one (i := 6) (by kernel_rfl) rfl (fun K hK => ?_)
  go_simp
  go_at_call 39
  refine ((HA.out _ hj0)).mono ?_
  rintro r x3 ⟨a2, c2, rfl, hj3, hb3⟩
  have hj1 : Below w.heap.size w x3 := hj0.trans (hb3.mono hj0.size)
  obtain ⟨r1, r3, r2, r4, r5, r6, hes, hbf⟩ := box_facts x3 w.heap.size w.heap.size n2 J2 a2 c2 hj3 (HZ.out.below (Below.trans (Below.refl _ _).drew hb3) HZ.out.lt)
  have HES := Lib.hid hes
  have HBL := Lib.hid (hbf w hj1 (Nat.le_refl _))
  clear hes hbf hb3
  show K _ _
  refine hK.out _ _ (fun _ _ => hj1) ?_
  clear hK K
  try simp only [Act.put, List.setIfInBounds_toArray, List.set_cons_zero, List.set_cons_succ]
  refine wpAnyL_pureD (i := 7) 13 (.agg #[.int .i64 n2, .slice a2 J2.length c2]) rfl rfl (by kernel_rfl) (by kernel_rfl) (by kernel_rfl) (fun _ _ _ h => h) (Or.inl ⟨by rfl, fun u _ => ?_⟩) ?_
  · go_simp
  try simp only [Act.put, List.setIfInBounds_toArray, List.set_cons_zero, List.set_cons_succ]
  refine wpAnyL_pureD (i := 8) 14 (.bool true) rfl rfl (by kernel_rfl) (by kernel_rfl) (by kernel_rfl) (fun _ _ _ h => h) (Or.inl ⟨by rfl, fun u _ => ?_⟩) ?_
  · go_simp
  try simp only [Act.put, List.setIfInBounds_toArray, List.set_cons_zero, List.set_cons_succ]
  refine wpAnyL_one (i := 9) (by kernel_rfl) rfl (fun K hK => ?_)
  go_simp
  refine hK.out _ _ (fun _ _ => HBL.out) ?_
  clear hK K
  try simp only [Act.put, List.setIfInBounds_toArray, List.set_cons_zero, List.set_cons_succ]
  refine wpAnyL_pureD (i := 10) 5 (.bool true) rfl rfl (by kernel_rfl) (by kernel_rfl) (by kernel_rfl) (fun _ _ _ h => h) (Or.inl ⟨by rfl, fun u _ => ?_⟩) ?_
  · go_simp
  try simp only [Act.put, List.setIfInBounds_toArray, List.set_cons_zero, List.set_cons_succ]
  refine wpAnyL_done (by kernel_rfl) ?_ _
  try simp only [Act.put, List.setIfInBounds_toArray, List.set_cons_zero, List.set_cons_succ]
  go_wp2
  refine bodyPost_ret (v := .tuple #[.agg #[.int .i64 n2, .slice a2 J2.length c2], .bool true]) (by simp [results, Try.results41, go_sem, r5, r6]) rfl ?_
  exact ⟨a2, c2, rfl, HES.out, HBL.out⟩
set_option maxHeartbeats 12800000 in
set_option maxRecDepth 100000 in
theorem clo_4 (Ba Be Bl Bf Bg lb lo len c y : Nat) (p q n2 : Int) (J2 : List E) (w : World) (hy : (y : Int) < (len : Int))
  (HF : Hid (∀ u, Below w.heap.size w u → u.cell? ⟨Ba, 0, none⟩ = some (.func (.func 39) #[] #[.pointer (some ⟨Bg, 0, none⟩)]) ∧ u.cell? ⟨Be, 0, none⟩ = some (.int .i64 p) ∧ u.cell? ⟨Bl, 0, none⟩ = some (.slice (some ⟨lb, lo, none⟩) len c) ∧ u.cell? ⟨Bf, 0, none⟩ = some (.int .i64 (y : Nat)) ∧ u.cell? ⟨lb, lo + y, none⟩ = some (.int .i64 q)))
  (HA : Hid (∀ w1, Below w.heap.size w w1 → Calls Try.prog 39 #[.func (.func 15) #[] #[], .int .i64 p, .func (.func 15) #[] #[], .int .i64 q, .pointer (some ⟨Bg, 0, none⟩)] w1 (fun e w' => ∃ a1 c1, e = .returned (.tuple #[.agg #[.int .i64 n2, .slice a1 J2.length c1], .bool true]) ∧ EsAt w' a1 J2 ∧ Below w1.heap.size w1 w'))) :
    Calls Try.prog 42 #[.pointer (some ⟨Ba, 0, none⟩), .pointer (some ⟨Be, 0, none⟩), .pointer (some ⟨Bl, 0, none⟩), .pointer (some ⟨Bf, 0, none⟩)] w (fun e w' => ∃ a1 c1, e = .returned (.tuple #[.agg #[.int .i64 n2, .slice a1 J2.length c1], .bool true]) ∧ EsAt w' a1 J2 ∧ Below w.heap.size w w') := by
  obtain ⟨W, hW⟩ : ∃ W, W = w.alloc (Obj.cells #[.int .i64 0, .slice none 0 0] 24) := ⟨_, rfl⟩
  have hB0 : Below w.heap.size w W := by rw [hW]; exact (Below.refl _ w).alloc (Nat.le_refl _) _
  have hZ : Blk W w.heap.size 24 #[.int .i64 0, .slice none 0 0] := by rw [hW]; exact Blk.new _ _ _
  have HW := Lib.hid hW
  have HZ := Lib.hid hZ
  have hy0 : (0 : Int) ≤ (y : Int) := by omega
  have hj0 : Below w.heap.size w W.drew := hB0.drew
  clear hW hB0 hZ
  go_enter Try.func42, Try.ntmps42
  go_wp2_with fail
  rw [← HW.out]
  refine wp_region_late (S := fun u => Below w.heap.size w u) (X := []) (by kernel_rfl) ?_
  refine wpAnyL_takeD (i := 0) 6 (.func (.func 39) #[] #[.pointer (some ⟨Bg, 0, none⟩)]) rfl rfl (by kernel_rfl) (by kernel_rfl) (by kernel_rfl) (by kernel_rfl) (by kernel_rfl) (fun _ _ _ h => h) hj0 (Or.inl ⟨by rfl, fun u hu => ?_⟩) ?_
  · obtain ⟨t0, t1, t2, t3, t4⟩ := HF.out u hu
    go_simp
  try simp only [Act.put, List.setIfInBounds_toArray, List.set_cons_zero, List.set_cons_succ]
  refine wpAnyL_takeD (i := 1) 7 (.int .i64 p) rfl rfl (by kernel_rfl) (by kernel_rfl) (by kernel_rfl) (by kernel_rfl) (by kernel_rfl) (fun _ _ _ h => h) hj0 (Or.inl ⟨by rfl, fun u hu => ?_⟩) ?_
  · obtain ⟨t0, t1, t2, t3, t4⟩ := HF.out u hu
    go_simp
  try simp only [Act.put, List.setIfInBounds_toArray, List.set_cons_zero, List.set_cons_succ]
  refine wpAnyL_takeD (i := 2) 8 (.slice (some ⟨lb, lo, none⟩) len c) rfl rfl (by kernel_rfl) (by kernel_rfl) (by kernel_rfl) (by kernel_rfl) (by kernel_rfl) (fun _ _ _ h => h) hj0 (Or.inl ⟨by rfl, fun u hu => ?_⟩) ?_
  · obtain ⟨t0, t1, t2, t3, t4⟩ := HF.out u hu
    go_simp
  try simp only [Act.put, List.setIfInBounds_toArray, List.set_cons_zero, List.set_cons_succ]
  refine wpAnyL_takeD (i := 3) 9 (.int .i64 (y : Nat)) rfl rfl (by kernel_rfl) (by kernel_rfl) (by kernel_rfl) (by kernel_rfl) (by kernel_rfl) (fun _ _ _ h => h) hj0 (Or.inl ⟨by rfl, fun u hu => ?_⟩) ?_
  · obtain ⟨t0, t1, t2, t3, t4⟩ := HF.out u hu
    go_simp
  try simp only [Act.put, List.setIfInBounds_toArray, List.set_cons_zero, List.set_cons_succ]
  refine wpAnyL_pureD (i := 4) 10 (.pointer (some ⟨lb, lo + y, none⟩)) rfl rfl (by kernel_rfl) (by kernel_rfl) (by kernel_rfl) (fun _ _ _ h => h) (Or.inl ⟨by rfl, fun u _ => ?_⟩) ?_
  · go_simp
  try simp only [Act.put, List.setIfInBounds_toArray, List.set_cons_zero, List.set_cons_succ]
  refine wpAnyL_takeD (i := 5) 11 (.int .i64 q) rfl rfl (by kernel_rfl) (by kernel_rfl) (by kernel_rfl) (by kernel_rfl) (by kernel_rfl) (fun _ _ _ h => h) hj0 (Or.inl ⟨by rfl, fun u hu => ?_⟩) ?_
  · obtain ⟨t0, t1, t2, t3, t4⟩ := HF.out u hu
    go_simp
  try simp only [Act.put, List.setIfInBounds_toArray, List.set_cons_zero, List.set_cons_succ]
  refine wpAnyL_one (i := 6) (by kernel_rfl) rfl (fun K hK => ?_)
  go_simp
  go_at_call 39
  refine ((HA.out _ hj0)).mono ?_
  rintro r x3 ⟨a2, c2, rfl, hj3, hb3⟩
  have hj1 : Below w.heap.size w x3 := hj0.trans (hb3.mono hj0.size)
  obtain ⟨r1, r3, r2, r4, r5, r6, hes, hbf⟩ := box_facts x3 w.heap.size w.heap.size n2 J2 a2 c2 hj3 (HZ.out.below (Below.trans (Below.refl _ _).drew hb3) HZ.out.lt)
  have HES := Lib.hid hes
  have HBL := Lib.hid (hbf w hj1 (Nat.le_refl _))
  clear hes hbf hb3
  show K _ _
  refine hK.out _ _ (fun _ _ => hj1) ?_
  clear hK K
  try simp only [Act.put, List.setIfInBounds_toArray, List.set_cons_zero, List.set_cons_succ]
  refine wpAnyL_pureD (i := 7) 13 (.agg #[.int .i64 n2, .slice a2 J2.length c2]) rfl rfl (by kernel_rfl) (by kernel_rfl) (by kernel_rfl) (fun _ _ _ h => h) (Or.inl ⟨by rfl, fun u _ => ?_⟩) ?_
  · go_simp
  try simp only [Act.put, List.setIfInBounds_toArray, List.set_cons_zero, List.set_cons_succ]
  refine wpAnyL_pureD (i := 8) 14 (.bool true) rfl rfl (by kernel_rfl) (by kernel_rfl) (by kernel_rfl) (fun _ _ _ h => h) (Or.inl ⟨by rfl, fun u _ => ?_⟩) ?_
  · go_simp
  try simp only [Act.put, List.setIfInBounds_toArray, List.set_cons_zero, List.set_cons_succ]
  refine wpAnyL_one (i := 9) (by kernel_rfl) rfl (fun K hK => ?_)
  go_simp
  refine hK.out _ _ (fun _ _ => HBL.out) ?_
  clear hK K
  try simp only [Act.put, List.setIfInBounds_toArray, List.set_cons_zero, List.set_cons_succ]
  refine wpAnyL_pureD (i := 10) 5 (.bool true) rfl rfl (by kernel_rfl) (by kernel_rfl) (by kernel_rfl) (fun _ _ _ h => h) (Or.inl ⟨by rfl, fun u _ => ?_⟩) ?_
  · go_simp
  try simp only [Act.put, List.setIfInBounds_toArray, List.set_cons_zero, List.set_cons_succ]
  refine wpAnyL_done (by kernel_rfl) ?_ _
  try simp only [Act.put, List.setIfInBounds_toArray, List.set_cons_zero, List.set_cons_succ]
  go_wp2
  refine bodyPost_ret (v := .tuple #[.agg #[.int .i64 n2, .slice a2 J2.length c2], .bool true]) (by simp [results, Try.results42, go_sem, r5, r6]) rfl ?_
  exact ⟨a2, c2, rfl, HES.out, HBL.out⟩
set_option maxHeartbeats 12800000 in
set_option maxRecDepth 100000 in
theorem clo_5 (Ba Be Bl Bf Bg lb lo len c y : Nat) (p q n2 : Int) (J2 : List E) (w : World) (hy : (y : Int) < (len : Int))
  (HF : Hid (∀ u, Below w.heap.size w u → u.cell? ⟨Ba, 0, none⟩ = some (.func (.func 39) #[] #[.pointer (some ⟨Bg, 0, none⟩)]) ∧ u.cell? ⟨Be, 0, none⟩ = some (.int .i64 p) ∧ u.cell? ⟨Bl, 0, none⟩ = some (.slice (some ⟨lb, lo, none⟩) len c) ∧ u.cell? ⟨Bf, 0, none⟩ = some (.int .i64 (y : Nat)) ∧ u.cell? ⟨lb, lo + y, none⟩ = some (.int .i64 q)))
  (HA : Hid (∀ w1, Below w.heap.size w w1 → Calls Try.prog 39 #[.func (.func 15) #[] #[], .int .i64 p, .func (.func 15) #[] #[], .int .i64 q, .pointer (some ⟨Bg, 0, none⟩)] w1 (fun e w' => ∃ a1 c1, e = .returned (.tuple #[.agg #[.int .i64 n2, .slice a1 J2.length c1], .bool true]) ∧ EsAt w' a1 J2 ∧ Below w1.heap.size w1 w'))) :
    Calls Try.prog 43 #[.pointer (some ⟨Ba, 0, none⟩), .pointer (some ⟨Be, 0, none⟩), .pointer (some ⟨Bl, 0, none⟩), .pointer (some ⟨Bf, 0, none⟩)] w (fun e w' => ∃ a1 c1, e = .returned (.tuple #[.agg #[.int .i64 n2, .slice a1 J2.length c1], .bool true]) ∧ EsAt w' a1 J2 ∧ Below w.heap.size w w') := by
  obtain ⟨W, hW⟩ : ∃ W, W = w.alloc (Obj.cells #[.int .i64 0, .slice none 0 0] 24) := ⟨_, rfl⟩
  have hB0 : Below w.heap.size w W := by rw [hW]; exact (Below.refl _ w).alloc (Nat.le_refl _) _
  have hZ : Blk W w.heap.size 24 #[.int .i64 0, .slice none 0 0] := by rw [hW]; exact Blk.new _ _ _
  have HW := Lib.hid hW
  have HZ := Lib.hid hZ
  have hy0 : (0 : Int) ≤ (y : Int) := by omega
  have hj0 : Below w.heap.size w W.drew := hB0.drew
  clear hW hB0 hZ
  go_enter Try.func43, Try.ntmps43
  go_wp2_with fail
  rw [← HW.out]
  refine wp_region_late (S := fun u => Below w.heap.size w u) (X := []) (by kernel_rfl) ?_
  refine wpAnyL_takeD (i := 0) 6 (.func (.func 39) #[] #[.pointer (some ⟨Bg, 0, none⟩)]) rfl rfl (by kernel_rfl) (by kernel_rfl) (by kernel_rfl) (by kernel_rfl) (by kernel_rfl) (fun _ _ _ h => h) hj0 (Or.inl ⟨by rfl, fun u hu => ?_⟩) ?_
  · obtain ⟨t0, t1, t2, t3, t4⟩ := HF.out u hu
    go_simp
  try simp only [Act.put, List.setIfInBounds_toArray, List.set_cons_zero, List.set_cons_succ]
  refine wpAnyL_takeD (i := 1) 7 (.int .i64 p) rfl rfl (by kernel_rfl) (by kernel_rfl) (by kernel_rfl) (by kernel_rfl) (by kernel_rfl) (fun _ _ _ h => h) hj0 (Or.inl ⟨by rfl, fun u hu => ?_⟩) ?_
  · obtain ⟨t0, t1, t2, t3, t4⟩ := HF.out u hu
    go_simp
  try simp only [Act.put, List.setIfInBounds_toArray, List.set_cons_zero, List.set_cons_succ]
  refine wpAnyL_takeD (i := 2) 8 (.slice (some ⟨lb, lo, none⟩) len c) rfl rfl (by kernel_rfl) (by kernel_rfl) (by kernel_rfl) (by kernel_rfl) (by kernel_rfl) (fun _ _ _ h => h) hj0 (Or.inl ⟨by rfl, fun u hu => ?_⟩) ?_
  · obtain ⟨t0, t1, t2, t3, t4⟩ := HF.out u hu
    go_simp
  try simp only [Act.put, List.setIfInBounds_toArray, List.set_cons_zero, List.set_cons_succ]
  refine wpAnyL_takeD (i := 3) 9 (.int .i64 (y : Nat)) rfl rfl (by kernel_rfl) (by kernel_rfl) (by kernel_rfl) (by kernel_rfl) (by kernel_rfl) (fun _ _ _ h => h) hj0 (Or.inl ⟨by rfl, fun u hu => ?_⟩) ?_
  · obtain ⟨t0, t1, t2, t3, t4⟩ := HF.out u hu
    go_simp
  try simp only [Act.put, List.setIfInBounds_toArray, List.set_cons_zero, List.set_cons_succ]
  refine wpAnyL_pureD (i := 4) 10 (.pointer (some ⟨lb, lo + y, none⟩)) rfl rfl (by kernel_rfl) (by kernel_rfl) (by kernel_rfl) (fun _ _ _ h => h) (Or.inl ⟨by rfl, fun u _ => ?_⟩) ?_
  · go_simp
  try simp only [Act.put, List.setIfInBounds_toArray, List.set_cons_zero, List.set_cons_succ]
  refine wpAnyL_takeD (i := 5) 11 (.int .i64 q) rfl rfl (by kernel_rfl) (by kernel_rfl) (by kernel_rfl) (by kernel_rfl) (by kernel_rfl) (fun _ _ _ h => h) hj0 (Or.inl ⟨by rfl, fun u hu => ?_⟩) ?_
  · obtain ⟨t0, t1, t2, t3, t4⟩ := HF.out u hu
    go_simp
  try simp only [Act.put, List.setIfInBounds_toArray, List.set_cons_zero, List.set_cons_succ]
  refine wpAnyL_one (i := 6) (by kernel_rfl) rfl (fun K hK => ?_)
  go_simp
  go_at_call 39
  refine ((HA.out _ hj0)).mono ?_
  rintro r x3 ⟨a2, c2, rfl, hj3, hb3⟩
  have hj1 : Below w.heap.size w x3 := hj0.trans (hb3.mono hj0.size)
  obtain ⟨r1, r3, r2, r4, r5, r6, hes, hbf⟩ := box_facts x3 w.heap.size w.heap.size n2 J2 a2 c2 hj3 (HZ.out.below (Below.trans (Below.refl _ _).drew hb3) HZ.out.lt)
  have HES := Lib.hid hes
  have HBL := Lib.hid (hbf w hj1 (Nat.le_refl _))
  clear hes hbf hb3
  show K _ _
  refine hK.out _ _ (fun _ _ => hj1) ?_
  clear hK K
  try simp only [Act.put, List.setIfInBounds_toArray, List.set_cons_zero, List.set_cons_succ]
  refine wpAnyL_pureD (i := 7) 13 (.agg #[.int .i64 n2, .slice a2 J2.length c2]) rfl rfl (by kernel_rfl) (by kernel_rfl) (by kernel_rfl) (fun _ _ _ h => h) (Or.inl ⟨by rfl, fun u _ => ?_⟩) ?_
  · go_simp
  try simp only [Act.put, List.setIfInBounds_toArray, List.set_cons_zero, List.set_cons_succ]
  refine wpAnyL_pureD (i := 8) 14 (.bool true) rfl rfl (by kernel_rfl) (by kernel_rfl) (by kernel_rfl) (fun _ _ _ h => h) (Or.inl ⟨by rfl, fun u _ => ?_⟩) ?_
  · go_simp
  try simp only [Act.put, List.setIfInBounds_toArray, List.set_cons_zero, List.set_cons_succ]
  refine wpAnyL_one (i := 9) (by kernel_rfl) rfl (fun K hK => ?_)
  go_simp
  refine hK.out _ _ (fun _ _ => HBL.out) ?_
  clear hK K
  try simp only [Act.put, List.setIfInBounds_toArray, List.set_cons_zero, List.set_cons_succ]
  refine wpAnyL_pureD (i := 10) 5 (.bool true) rfl rfl (by kernel_rfl) (by kernel_rfl) (by kernel_rfl) (fun _ _ _ h => h) (Or.inl ⟨by rfl, fun u _ => ?_⟩) ?_
  · go_simp
  try simp only [Act.put, List.setIfInBounds_toArray, List.set_cons_zero, List.set_cons_succ]
  refine wpAnyL_done (by kernel_rfl) ?_ _
  try simp only [Act.put, List.setIfInBounds_toArray, List.set_cons_zero, List.set_cons_succ]
  go_wp2
  refine bodyPost_ret (v := .tuple #[.agg #[.int .i64 n2, .slice a2 J2.length c2], .bool true]) (by simp [results, Try.results43, go_sem, r5, r6]) rfl ?_
  exact ⟨a2, c2, rfl, HES.out, HBL.out⟩
set_option maxHeartbeats 12800000 in
set_option maxRecDepth 100000 in
theorem clo_6 (Ba Be Bl Bf Bg lb lo len c y : Nat) (p q n2 : Int) (J2 : List E) (w : World) (hy : (y : Int) < (len : Int))
  (HF : Hid (∀ u, Below w.heap.size w u → u.cell? ⟨Ba, 0, none⟩ = some (.func (.func 39) #[] #[.pointer (some ⟨Bg, 0, none⟩)]) ∧ u.cell? ⟨Be, 0, none⟩ = some (.int .i64 p) ∧ u.cell? ⟨Bl, 0, none⟩ = some (.slice (some ⟨lb, lo, none⟩) len c) ∧ u.cell? ⟨Bf, 0, none⟩ = some (.int .i64 (y : Nat)) ∧ u.cell? ⟨lb, lo + y, none⟩ = some (.int .i64 q)))
  (HA : Hid (∀ w1, Below w.heap.size w w1 → Calls Try.prog 39 #[.func (.func 13) #[] #[], .int .i64 p, .func (.func 15) #[] #[], .int .i64 q, .pointer (some ⟨Bg, 0, none⟩)] w1 (fun e w' => ∃ a1 c1, e = .returned (.tuple #[.agg #[.int .i64 n2, .slice a1 J2.length c1], .bool true]) ∧ EsAt w' a1 J2 ∧ Below w1.heap.size w1 w'))) :
    Calls Try.prog 44 #[.pointer (some ⟨Ba, 0, none⟩), .pointer (some ⟨Be, 0, none⟩), .pointer (some ⟨Bl, 0, none⟩), .pointer (some ⟨Bf, 0, none⟩)] w (fun e w' => ∃ a1 c1, e = .returned (.tuple #[.agg #[.int .i64 n2, .slice a1 J2.length c1], .bool true]) ∧ EsAt w' a1 J2 ∧ Below w.heap.size w w') := by
  obtain ⟨W, hW⟩ : ∃ W, W = w.alloc (Obj.cells #[.int .i64 0, .slice none 0 0] 24) := ⟨_, rfl⟩
  have hB0 : Below w.heap.size w W := by rw [hW]; exact (Below.refl _ w).alloc (Nat.le_refl _) _
  have hZ : Blk W w.heap.size 24 #[.int .i64 0, .slice none 0 0] := by rw [hW]; exact Blk.new _ _ _
  have HW := Lib.hid hW
  have HZ := Lib.hid hZ
  have hy0 : (0 : Int) ≤ (y : Int) := by omega
  have hj0 : Below w.heap.size w W.drew := hB0.drew
  clear hW hB0 hZ
  go_enter Try.func44, Try.ntmps44
  go_wp2_with fail
  rw [← HW.out]
  refine wp_region_late (S := fun u => Below w.heap.size w u) (X := []) (by kernel_rfl) ?_
  refine wpAnyL_takeD (i := 0) 6 (.func (.func 39) #[] #[.pointer (some ⟨Bg, 0, none⟩)]) rfl rfl (by kernel_rfl) (by kernel_rfl) (by kernel_rfl) (by kernel_rfl) (by kernel_rfl) (fun _ _ _ h => h) hj0 (Or.inl ⟨by rfl, fun u hu => ?_⟩) ?_
  · obtain ⟨t0, t1, t2, t3, t4⟩ := HF.out u hu
    go_simp
  try simp only [Act.put, List.setIfInBounds_toArray, List.set_cons_zero, List.set_cons_succ]
  refine wpAnyL_takeD (i := 1) 7 (.int .i64 p) rfl rfl (by kernel_rfl) (by kernel_rfl) (by kernel_rfl) (by kernel_rfl) (by kernel_rfl) (fun _ _ _ h => h) hj0 (Or.inl ⟨by rfl, fun u hu => ?_⟩) ?_
  · obtain ⟨t0, t1, t2, t3, t4⟩ := HF.out u hu
    go_simp
  try simp only [Act.put, List.setIfInBounds_toArray, List.set_cons_zero, List.set_cons_succ]
  refine wpAnyL_takeD (i := 2) 8 (.slice (some ⟨lb, lo, none⟩) len c) rfl rfl (by kernel_rfl) (by kernel_rfl) (by kernel_rfl) (by kernel_rfl) (by kernel_rfl) (fun _ _ _ h => h) hj0 (Or.inl ⟨by rfl, fun u hu => ?_⟩) ?_
  · obtain ⟨t0, t1, t2, t3, t4⟩ := HF.out u hu
    go_simp
  try simp only [Act.put, List.setIfInBounds_toArray, List.set_cons_zero, List.set_cons_succ]
  refine wpAnyL_takeD (i := 3) 9 (.int .i64 (y : Nat)) rfl rfl (by kernel_rfl) (by kernel_rfl) (by kernel_rfl) (by kernel_rfl) (by kernel_rfl) (fun _ _ _ h => h) hj0 (Or.inl ⟨by rfl, fun u hu => ?_⟩) ?_
  · obtain ⟨t0, t1, t2, t3, t4⟩ := HF.out u hu
    go_simp
  try simp only [Act.put, List.setIfInBounds_toArray, List.set_cons_zero, List.set_cons_succ]
  refine wpAnyL_pureD (i := 4) 10 (.pointer (some ⟨lb, lo + y, none⟩)) rfl rfl (by kernel_rfl) (by kernel_rfl) (by kernel_rfl) (fun _ _ _ h => h) (Or.inl ⟨by rfl, fun u _ => ?_⟩) ?_
  · go_simp
  try simp only [Act.put, List.setIfInBounds_toArray, List.set_cons_zero, List.set_cons_succ]
  refine wpAnyL_takeD (i := 5) 11 (.int .i64 q) rfl rfl (by kernel_rfl) (by kernel_rfl) (by kernel_rfl) (by kernel_rfl) (by kernel_rfl) (fun _ _ _ h => h) hj0 (Or.inl ⟨by rfl, fun u hu => ?_⟩) ?_
  · obtain ⟨t0, t1, t2, t3, t4⟩ := HF.out u hu
    go_simp
  try simp only [Act.put, List.setIfInBounds_toArray, List.set_cons_zero, List.set_cons_succ]
  refine wpAnyL_one (i := 6) (by kernel_rfl) rfl (fun K hK => ?_)
  go_simp
  go_at_call 39
  refine ((HA.out _ hj0)).mono ?_
  rintro r x3 ⟨a2, c2, rfl, hj3, hb3⟩
  have hj1 : Below w.heap.size w x3 := hj0.trans (hb3.mono hj0.size)
  obtain ⟨r1, r3, r2, r4, r5, r6, hes, hbf⟩ := box_facts x3 w.heap.size w.heap.size n2 J2 a2 c2 hj3 (HZ.out.below (Below.trans (Below.refl _ _).drew hb3) HZ.out.lt)
  have HES := Lib.hid hes
  have HBL := Lib.hid (hbf w hj1 (Nat.le_refl _))
  clear hes hbf hb3
  show K _ _
  refine hK.out _ _ (fun _ _ => hj1) ?_
  clear hK K
  try simp only [Act.put, List.setIfInBounds_toArray, List.set_cons_zero, List.set_cons_succ]
  refine wpAnyL_pureD (i := 7) 13 (.agg #[.int .i64 n2, .slice a2 J2.length c2]) rfl rfl (by kernel_rfl) (by kernel_rfl) (by kernel_rfl) (fun _ _ _ h => h) (Or.inl ⟨by rfl, fun u _ => ?_⟩) ?_
  · go_simp
  try simp only [Act.put, List.setIfInBounds_toArray, List.set_cons_zero, List.set_cons_succ]
  refine wpAnyL_pureD (i := 8) 14 (.bool true) rfl rfl (by kernel_rfl) (by kernel_rfl) (by kernel_rfl) (fun _ _ _ h => h) (Or.inl ⟨by rfl, fun u _ => ?_⟩) ?_
  · go_simp
  try simp only [Act.put, List.setIfInBounds_toArray, List.set_cons_zero, List.set_cons_succ]
  refine wpAnyL_one (i := 9) (by kernel_rfl) rfl (fun K hK => ?_)
  go_simp
  refine hK.out _ _ (fun _ _ => HBL.out) ?_
  clear hK K
  try simp only [Act.put, List.setIfInBounds_toArray, List.set_cons_zero, List.set_cons_succ]
  refine wpAnyL_pureD (i := 10) 5 (.bool true) rfl rfl (by kernel_rfl) (by kernel_rfl) (by kernel_rfl) (fun _ _ _ h => h) (Or.inl ⟨by rfl, fun u _ => ?_⟩) ?_
  · go_simp
  try simp only [Act.put, List.setIfInBounds_toArray, List.set_cons_zero, List.set_cons_succ]
  refine wpAnyL_done (by kernel_rfl) ?_ _
  try simp only [Act.put, List.setIfInBounds_toArray, List.set_cons_zero, List.set_cons_succ]
  go_wp2
  refine bodyPost_ret (v := .tuple #[.agg #[.int .i64 n2, .slice a2 J2.length c2], .bool true]) (by simp [results, Try.results44, go_sem, r5, r6]) rfl ?_
  exact ⟨a2, c2, rfl, HES.out, HBL.out⟩
set_option maxHeartbeats 12800000 in
set_option maxRecDepth 100000 in
theorem clo_7 (Ba Be Bl Bf Bg lb lo len c y : Nat) (p q n2 : Int) (J2 : List E) (w : World) (hy : (y : Int) < (len : Int))
  (HF : Hid (∀ u, Below w.heap.size w u → u.cell? ⟨Ba, 0, none⟩ = some (.func (.func 39) #[] #[.pointer (some ⟨Bg, 0, none⟩)]) ∧ u.cell? ⟨Be, 0, none⟩ = some (.int .i64 p) ∧ u.cell? ⟨Bl, 0, none⟩ = some (.slice (some ⟨lb, lo, none⟩) len c) ∧ u.cell? ⟨Bf, 0, none⟩ = some (.int .i64 (y : Nat)) ∧ u.cell? ⟨lb, lo + y, none⟩ = some (.int .i64 q)))
  (HA : Hid (∀ w1, Below w.heap.size w w1 → Calls Try.prog 39 #[.func (.func 15) #[] #[], .int .i64 p, .func (.func 13) #[] #[], .int .i64 q, .pointer (some ⟨Bg, 0, none⟩)] w1 (fun e w' => ∃ a1 c1, e = .returned (.tuple #[.agg #[.int .i64 n2, .slice a1 J2.length c1], .bool true]) ∧ EsAt w' a1 J2 ∧ Below w1.heap.size w1 w'))) :
    Calls Try.prog 45 #[.pointer (some ⟨Ba, 0, none⟩), .pointer (some ⟨Be, 0, none⟩), .pointer (some ⟨Bl, 0, none⟩), .pointer (some ⟨Bf, 0, none⟩)] w (fun e w' => ∃ a1 c1, e = .returned (.tuple #[.agg #[.int .i64 n2, .slice a1 J2.length c1], .bool true]) ∧ EsAt w' a1 J2 ∧ Below w.heap.size w w') := by
  obtain ⟨W, hW⟩ : ∃ W, W = w.alloc (Obj.cells #[.int .i64 0, .slice none 0 0] 24) := ⟨_, rfl⟩
  have hB0 : Below w.heap.size w W := by rw [hW]; exact (Below.refl _ w).alloc (Nat.le_refl _) _
  have hZ : Blk W w.heap.size 24 #[.int .i64 0, .slice none 0 0] := by rw [hW]; exact Blk.new _ _ _
  have HW := Lib.hid hW
  have HZ := Lib.hid hZ
  have hy0 : (0 : Int) ≤ (y : Int) := by omega
  have hj0 : Below w.heap.size w W.drew := hB0.drew
  clear hW hB0 hZ
  go_enter Try.func45, Try.ntmps45
  go_wp2_with fail
  rw [← HW.out]
  refine wp_region_late (S := fun u => Below w.heap.size w u) (X := []) (by kernel_rfl) ?_
  refine wpAnyL_takeD (i := 0) 6 (.func (.func 39) #[] #[.pointer (some ⟨Bg, 0, none⟩)]) rfl rfl (by kernel_rfl) (by kernel_rfl) (by kernel_rfl) (by kernel_rfl) (by kernel_rfl) (fun _ _ _ h => h) hj0 (Or.inl ⟨by rfl, fun u hu => ?_⟩) ?_
  · obtain ⟨t0, t1, t2, t3, t4⟩ := HF.out u hu
    go_simp
  try simp only [Act.put, List.setIfInBounds_toArray, List.set_cons_zero, List.set_cons_succ]
  refine wpAnyL_takeD (i := 1) 7 (.int .i64 p) rfl rfl (by kernel_rfl) (by kernel_rfl) (by kernel_rfl) (by kernel_rfl) (by kernel_rfl) (fun _ _ _ h => h) hj0 (Or.inl ⟨by rfl, fun u hu => ?_⟩) ?_
  · obtain ⟨t0, t1, t2, t3, t4⟩ := HF.out u hu
    go_simp
  try simp only [Act.put, List.setIfInBounds_toArray, List.set_cons_zero, List.set_cons_succ]
  refine wpAnyL_takeD (i := 2) 8 (.slice (some ⟨lb, lo, none⟩) len c) rfl rfl (by kernel_rfl) (by kernel_rfl) (by kernel_rfl) (by kernel_rfl) (by kernel_rfl) (fun _ _ _ h => h) hj0 (Or.inl ⟨by rfl, fun u hu => ?_⟩) ?_
  · obtain ⟨t0, t1, t2, t3, t4⟩ := HF.out u hu
    go_simp
  try simp only [Act.put, List.setIfInBounds_toArray, List.set_cons_zero, List.set_cons_succ]
  refine wpAnyL_takeD (i := 3) 9 (.int .i64 (y : Nat)) rfl rfl (by kernel_rfl) (by kernel_rfl) (by kernel_rfl) (by kernel_rfl) (by kernel_rfl) (fun _ _ _ h => h) hj0 (Or.inl ⟨by rfl, fun u hu => ?_⟩) ?_
  · obtain ⟨t0, t1, t2, t3, t4⟩ := HF.out u hu
    go_simp
  try simp only [Act.put, List.setIfInBounds_toArray, List.set_cons_zero, List.set_cons_succ]
  refine wpAnyL_pureD (i := 4) 10 (.pointer (some ⟨lb, lo + y, none⟩)) rfl rfl (by kernel_rfl) (by kernel_rfl) (by kernel_rfl) (fun _ _ _ h => h) (Or.inl ⟨by rfl, fun u _ => ?_⟩) ?_
  · go_simp
  try simp only [Act.put, List.setIfInBounds_toArray, List.set_cons_zero, List.set_cons_succ]
  refine wpAnyL_takeD (i := 5) 11 (.int .i64 q) rfl rfl (by kernel_rfl) (by kernel_rfl) (by kernel_rfl) (by kernel_rfl) (by kernel_rfl) (fun _ _ _ h => h) hj0 (Or.inl ⟨by rfl, fun u hu => ?_⟩) ?_
  · obtain ⟨t0, t1, t2, t3, t4⟩ := HF.out u hu
    go_simp
  try simp only [Act.put, List.setIfInBounds_toArray, List.set_cons_zero, List.set_cons_succ]
  refine wpAnyL_one (i := 6) (by kernel_rfl) rfl (fun K hK => ?_)
  go_simp
  go_at_call 39
  refine ((HA.out _ hj0)).mono ?_
  rintro r x3 ⟨a2, c2, rfl, hj3, hb3⟩
  have hj1 : Below w.heap.size w x3 := hj0.trans (hb3.mono hj0.size)
  obtain ⟨r1, r3, r2, r4, r5, r6, hes, hbf⟩ := box_facts x3 w.heap.size w.heap.size n2 J2 a2 c2 hj3 (HZ.out.below (Below.trans (Below.refl _ _).drew hb3) HZ.out.lt)
  have HES := Lib.hid hes
  have HBL := Lib.hid (hbf w hj1 (Nat.le_refl _))
  clear hes hbf hb3
  show K _ _
  refine hK.out _ _ (fun _ _ => hj1) ?_
  clear hK K
  try simp only [Act.put, List.setIfInBounds_toArray, List.set_cons_zero, List.set_cons_succ]
  refine wpAnyL_pureD (i := 7) 13 (.agg #[.int .i64 n2, .slice a2 J2.length c2]) rfl rfl (by kernel_rfl) (by kernel_rfl) (by kernel_rfl) (fun _ _ _ h => h) (Or.inl ⟨by rfl, fun u _ => ?_⟩) ?_
  · go_simp
  try simp only [Act.put, List.setIfInBounds_toArray, List.set_cons_zero, List.set_cons_succ]
  refine wpAnyL_pureD (i := 8) 14 (.bool true) rfl rfl (by kernel_rfl) (by kernel_rfl) (by kernel_rfl) (fun _ _ _ h => h) (Or.inl ⟨by rfl, fun u _ => ?_⟩) ?_
  · go_simp
  try simp only [Act.put, List.setIfInBounds_toArray, List.set_cons_zero, List.set_cons_succ]
  refine wpAnyL_one (i := 9) (by kernel_rfl) rfl (fun K hK => ?_)
  go_simp
  refine hK.out _ _ (fun _ _ => HBL.out) ?_
  clear hK K
  try simp only [Act.put, List.setIfInBounds_toArray, List.set_cons_zero, List.set_cons_succ]
  refine wpAnyL_pureD (i := 10) 5 (.bool true) rfl rfl (by kernel_rfl) (by kernel_rfl) (by kernel_rfl) (fun _ _ _ h => h) (Or.inl ⟨by rfl, fun u _ => ?_⟩) ?_
  · go_simp
  try simp only [Act.put, List.setIfInBounds_toArray, List.set_cons_zero, List.set_cons_succ]
  refine wpAnyL_done (by kernel_rfl) ?_ _
  try simp only [Act.put, List.setIfInBounds_toArray, List.set_cons_zero, List.set_cons_succ]
  go_wp2
  refine bodyPost_ret (v := .tuple #[.agg #[.int .i64 n2, .slice a2 J2.length c2], .bool true]) (by simp [results, Try.results45, go_sem, r5, r6]) rfl ?_
  exact ⟨a2, c2, rfl, HES.out, HBL.out⟩
end Go.Proofs.Ytndjjafpdiehdaa
