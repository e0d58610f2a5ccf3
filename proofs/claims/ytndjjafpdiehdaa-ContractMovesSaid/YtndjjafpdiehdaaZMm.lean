/- The law of moves. -/
import Derived.Test.YtndjjafpdiehdaaZMl
import Derived.Test.YtndjjafpdiehdaaQ15
namespace Go.Proofs.Ytndjjafpdiehdaa
open Go.RowKit Go.Shelf Go.Proofs.Gr
attribute [local go_sem] Oper.semAt_some

def bAt (L : List Bool) (j : Nat) : Bool := L.getD j false
theorem bAt_get (L : List Bool) (j : Nat) (h : j < L.length) : L[j] = bAt L j := by
  unfold bAt; rw [List.getD_eq_getElem?_getD, List.getElem?_eq_getElem h]; rfl
theorem flatB_map (L : List Bool) : flat encB L = L.map Value.bool := by
  induction L with
  | nil => rfl
  | cons z L ih => rw [flat_cons, ih]; rfl
theorem RowB.cellB {t : TypeId} {w : World} {g : Nat} {L : List Bool} (h : RowB encB t w g L) (i : Nat) (hi : i < L.length) : w.cell? ⟨g, i, none⟩ = some (.bool (bAt L i)) := by
  rw [Blk.cell h i, List.getElem?_toArray, flatB_map, List.getElem?_map, List.getElem?_eq_getElem hi, bAt_get L i hi]; rfl
theorem RowB.setB {t : TypeId} {w : World} {g : Nat} {L : List Bool} (h : RowB encB t w g L) (i : Nat) (v : Bool) : RowB encB t (w.setCell ⟨g, i, none⟩ (.bool v)) g (L.set i v) := by
  have := Blk.set_ h i (.bool v)
  unfold RowB
  rw [flatB_map] at this ⊢
  rw [List.map_set]
  simpa using this
theorem enB_rep (n : Nat) : enB n (fun _ => false) = (flat encB (List.replicate n false)).toArray := by
  rw [flatB_map]
  unfold enB
  apply Array.ext'
  simp [List.map_const']
set_option maxHeartbeats 12800000 in
set_option maxRecDepth 100000 in
theorem moves_dark (n : Int) (a : Option Addr) (cap : Nat) (L : List E) (e : Int)  (HRT : Hid (∀ w, EsAt w a L → Calls Try.prog 32 #[.agg #[.int .i64 n, .slice a L.length cap], .int .i64 (e : Int)] w (fun e w' => e = .returned (.bool false) ∧ Below w.heap.size w w'))) (HA : AwakeC) (w : World) (h : EsAt w a L) :
    Calls Try.prog 8 #[gv n a L.length cap, .int .i64 (e : Int)] w (GivesB w true) := by
  unfold GivesB gv
  obtain ⟨W, hW⟩ : ∃ W, W = w.alloc (Obj.cells #[.int .i64 n, .slice a L.length cap] 24) := ⟨_, rfl⟩
  have hB0 : Below w.heap.size w W := by rw [hW]; exact (Below.refl _ w).alloc (Nat.le_refl _) _
  have hG : Blk W w.heap.size 24 #[.int .i64 n, .slice a L.length cap] := by rw [hW]; exact Blk.new _ _ _
  have HW := Lib.hid hW
  have HB0 := Lib.hid hB0
  have hEz : EsAt W a L := h.keep hB0
  have HF : Hid (∀ x, Below W.heap.size W x → x.cell? ⟨w.heap.size, 0, none⟩ = some (.int .i64 n) ∧ x.cell? ⟨w.heap.size, 1, none⟩ = some (.slice a L.length cap) ∧ EsAt x a L) := Lib.hid fun x hx => ⟨(hG.below hx hG.lt).cell 0, (hG.below hx hG.lt).cell 1, hEz.keep hx⟩
  have hk0 : Below W.heap.size W W := Below.refl _ _
  obtain ⟨g0, g1, -⟩ := HF.out W hk0
  clear hB0 hG hW hEz h
  go_enter Try.func8, Try.ntmps8
  go_wp2_with fail
  rw [← HW.out]
  refine (HRT.out _ (HF.out W hk0).2.2).mono ?_
  rintro e x1 ⟨rfl, hb1⟩
  have hk1 : Below W.heap.size W x1 := hk0.trans (hb1.mono hk0.size)
  clear hb1 hk0 g0 g1
  obtain ⟨g0, g1, -⟩ := HF.out x1 hk1
  go_wp2_with fail
  refine (HA _).mono ?_
  rintro e x2 ⟨rfl, hb2⟩
  have hk2 : Below W.heap.size W x2 := hk1.trans (hb2.mono hk1.size)
  clear hb2 hk1 g0 g1
  obtain ⟨g0, g1, -⟩ := HF.out x2 hk2
  have HEND := Lib.hid (HB0.out.trans (hk2.mono HB0.out.size))
  clear hk2 g0 g1
  go_wp2
  go_ret
  exact ⟨rfl, HEND.out⟩
set_option maxHeartbeats 12800000 in
set_option maxRecDepth 100000 in
theorem moves_ok (n : Int) (a : Option Addr) (cap : Nat) (L : List E) (e : Nat) (JA JB : List E) (M : Int) (P X Y : List (Int × Int)) (V A B : List Int) (he : e < P.length) (hP9 : P.length ≤ 50) (hVn : (V.length : Int) = n) (hAl : A.length = P.length) (hBl : B.length = P.length) (hXl : X.length + 1 = P.length) (hYl : Y.length + 1 = P.length)
  (ka kb na nb : Nat → Nat) (SN MT : Nat → List Bool)
  (HAE : Hid (iAt A e = -1)) (HBE : Hid (iAt B e = -1))
  (HPN : Hid (∀ s, s < P.length → pAt P s = ((na s : Int), (nb s : Int)) ∧ na s < V.length ∧ nb s < V.length))
  (HKA : Hid (∀ s, s < P.length → s ≠ e → iAt A s = (ka s : Nat) ∧ ka s < X.length ∧ pAt X (ka s) = pAt P s))
  (HKB : Hid (∀ s, s < P.length → s ≠ e → iAt B s = (kb s : Nat) ∧ kb s < Y.length ∧ pAt Y (kb s) = (min (iAt V (na s)) (iAt V (nb s)), max (iAt V (na s)) (iAt V (nb s)))))
  (HSL : Hid (∀ s, (SN s).length = P.length ∧ (MT s).length = P.length))
  (HS0 : Hid (SN 0 = List.replicate P.length false ∧ MT 0 = List.replicate P.length false))
  (HSE : Hid (SN (e + 1) = SN e ∧ MT (e + 1) = MT e))
  (HSS : Hid (∀ s, s < P.length → s ≠ e → SN (s + 1) = (SN s).set (ka s) true ∧ MT (s + 1) = (MT s).set (kb s) true))
  (HSF : Hid (∀ s, s < P.length → s ≠ e → bAt (SN s) (ka s) = false ∧ bAt (MT s) (kb s) = false)) (HRT : Hid (∀ w, EsAt w a L → Calls Try.prog 32 #[.agg #[.int .i64 n, .slice a L.length cap], .int .i64 (e : Int)] w (fun e w' => e = .returned (.bool true) ∧ Below w.heap.size w w'))) (HA : AwakeC) (HD : Hid (∀ w, EsAt w a L → Calls Try.prog 13 #[.agg #[.int .i64 n, .slice a L.length cap], .int .i64 (e : Int)] w (fun e w' => ∃ a1 c1, e = .returned (.tuple #[.agg #[.int .i64 n, .slice a1 JA.length c1], .int .i64 ((0 : Nat) : Int)]) ∧ EsAt w' a1 JA ∧ Below w.heap.size w w'))) (HC : Hid (∀ w, EsAt w a L → Calls Try.prog 15 #[.agg #[.int .i64 n, .slice a L.length cap], .int .i64 (e : Int)] w (fun e w' => ∃ a1 c1, e = .returned (.tuple #[.agg #[.int .i64 M, .slice a1 JB.length c1], .int .i64 ((0 : Nat) : Int)]) ∧ EsAt w' a1 JB ∧ Below w.heap.size w w'))) (HV : Hid (∀ w, EsAt w a L → Calls Try.prog 17 #[.agg #[.int .i64 n, .slice a L.length cap], .int .i64 (e : Int)] w (fun e w' => ∃ b1 d1, e = .returned (.tuple #[.slice b1 V.length d1, .int .i64 ((0 : Nat) : Int)]) ∧ IsAt w' b1 V ∧ Below w.heap.size w w'))) (HG : Hid (∀ w, EsAt w a L → Calls Try.prog 23 #[.agg #[.int .i64 n, .slice a L.length cap], .int .i64 (e : Int)] w (fun e w' => ∃ b1 d1 b2 d2, e = .returned (.tuple #[.slice b1 A.length d1, .slice b2 B.length d2, .int .i64 ((0 : Nat) : Int)]) ∧ IsAt w' b1 A ∧ IsAt w' b2 B ∧ Below w.heap.size w w'))) (HRA : Hid (∀ a c w, EsAt w a JA → Calls Try.prog 37 #[.agg #[.int .i64 n, .slice a JA.length c]] w (fun e w' => e = .returned (.int .i64 0) ∧ Below w.heap.size w w'))) (HRB : Hid (∀ a c w, EsAt w a JB → Calls Try.prog 37 #[.agg #[.int .i64 M, .slice a JB.length c]] w (fun e w' => e = .returned (.int .i64 0) ∧ Below w.heap.size w w'))) (HEN : Hid (∀ a c w, EsAt w a L → Calls Try.prog 34 #[.agg #[.int .i64 n, .slice a L.length c]] w (fun e w' => ∃ b d, e = .returned (.slice b P.length d) ∧ PsAt w' b P ∧ Below w.heap.size w w'))) (HEA : Hid (∀ a c w, EsAt w a JA → Calls Try.prog 34 #[.agg #[.int .i64 n, .slice a JA.length c]] w (fun e w' => ∃ b d, e = .returned (.slice b X.length d) ∧ PsAt w' b X ∧ Below w.heap.size w w'))) (HEB : Hid (∀ a c w, EsAt w a JB → Calls Try.prog 34 #[.agg #[.int .i64 M, .slice a JB.length c]] w (fun e w' => ∃ b d, e = .returned (.slice b Y.length d) ∧ PsAt w' b Y ∧ Below w.heap.size w w'))) (w : World) (h : EsAt w a L) :
    Calls Try.prog 8 #[gv n a L.length cap, .int .i64 (e : Int)] w (GivesB w true) := by
  unfold GivesB gv
  obtain ⟨W, hW⟩ : ∃ W, W = w.alloc (Obj.cells #[.int .i64 n, .slice a L.length cap] 24) := ⟨_, rfl⟩
  have hB0 : Below w.heap.size w W := by rw [hW]; exact (Below.refl _ w).alloc (Nat.le_refl _) _
  have hG : Blk W w.heap.size 24 #[.int .i64 n, .slice a L.length cap] := by rw [hW]; exact Blk.new _ _ _
  have HW := Lib.hid hW
  have HB0 := Lib.hid hB0
  have hEz : EsAt W a L := h.keep hB0
  have HF : Hid (∀ x, Below W.heap.size W x → x.cell? ⟨w.heap.size, 0, none⟩ = some (.int .i64 n) ∧ x.cell? ⟨w.heap.size, 1, none⟩ = some (.slice a L.length cap) ∧ EsAt x a L) := Lib.hid fun x hx => ⟨(hG.below hx hG.lt).cell 0, (hG.below hx hG.lt).cell 1, hEz.keep hx⟩
  have hk0 : Below W.heap.size W W := Below.refl _ _
  obtain ⟨g0, g1, -⟩ := HF.out W hk0
  clear hB0 hG hW hEz h
  have d1 : ((V.length : Int) != n) = false := by simpa using hVn
  have hV0 : 0 ≤ n := by omega
  have c1 : IntKind.i64.wrap ((P.length : Int) - 1) = (X.length : Int) := by rw [show (P.length : Int) - 1 = (X.length : Int) by omega]; exact IntWalk.i64_in _ (by omega)
  have hXY : (Y.length : Int) = (X.length : Int) := by omega
  have d2 : ((A.length : Int) != (P.length : Int)) = false := by simp [hAl]
  have d3 : ((B.length : Int) != (P.length : Int)) = false := by simp [hBl]
  have d4 : ((X.length : Int) != (X.length : Int)) = false := by simp
  have d5 : ((Y.length : Int) != (X.length : Int)) = false := by simp [hXY]
  have i1 : (e : Int) < (A.length : Int) := by omega
  have i2 : (e : Int) < (B.length : Int) := by omega
  have i3 : (0 : Int) ≤ (e : Int) := by omega
  have HVN := Lib.hid hVn
  have HALn := Lib.hid hAl
  have HBLn := Lib.hid hBl
  have hz1 : P.length ≤ 100 := by omega
  have HXLn := Lib.hid hXl
  have HYLn := Lib.hid hYl
  clear hVn hXY hAl hBl hXl hYl
  go_enter Try.func8, Try.ntmps8
  go_wp2_with fail
  rw [← HW.out]
  refine (HRT.out _ (HF.out W hk0).2.2).mono ?_
  rintro e x1 ⟨rfl, hb1⟩
  have hk1 : Below W.heap.size W x1 := hk0.trans (hb1.mono hk0.size)
  clear hb1 hk0 g0 g1
  obtain ⟨g0, g1, -⟩ := HF.out x1 hk1
  go_wp2_with fail
  refine (HD.out _ (HF.out x1 hk1).2.2).mono ?_
  rintro e x2 ⟨a1, c1, rfl, hJ_2, hb2⟩
  have hk2 : Below W.heap.size W x2 := hk1.trans (hb2.mono hk1.size)
  clear hb2 hk1 g0 g1
  obtain ⟨g0, g1, -⟩ := HF.out x2 hk2
  obtain ⟨Y1, hY1⟩ : ∃ Y, Y = x2.alloc (Obj.cells #[.int .i64 n, .slice a1 JA.length c1] 24) := ⟨_, rfl⟩
  have hy : Below x2.heap.size x2 Y1 := by rw [hY1]; exact (Below.refl _ _).alloc (Nat.le_refl _) _
  have hz : Below W.heap.size W Y1 := hk2.trans (hy.mono hk2.size)
  have hQ : Blk Y1 x2.heap.size 24 #[.int .i64 n, .slice a1 JA.length c1] := by rw [hY1]; exact Blk.new _ _ _
  have HBY1 : Hid (Below w.heap.size w Y1) := Lib.hid (HB0.out.trans (hz.mono HB0.out.size))
  have HFY1 : Hid (∀ x, Below Y1.heap.size Y1 x → x.cell? ⟨w.heap.size, 0, none⟩ = some (.int .i64 n) ∧ x.cell? ⟨w.heap.size, 1, none⟩ = some (.slice a L.length cap) ∧ x.cell? ⟨x2.heap.size, 0, none⟩ = some (.int .i64 n) ∧ x.cell? ⟨x2.heap.size, 1, none⟩ = some (.slice a1 JA.length c1) ∧ EsAt x a L ∧ EsAt x a1 JA) := Lib.hid fun x hx => ⟨(HF.out x (hz.trans (hx.mono hz.size))).1, (HF.out x (hz.trans (hx.mono hz.size))).2.1, (hQ.below hx hQ.lt).cell 0, (hQ.below hx hQ.lt).cell 1, (HF.out x (hz.trans (hx.mono hz.size))).2.2, (hJ_2.keep hy).keep hx⟩
  clear g0 g1 hk2 hz hQ hy hJ_2
  have hk3 : Below Y1.heap.size Y1 Y1 := Below.refl _ _
  have g0 : (x2.alloc (Obj.cells #[.int .i64 n, .slice a1 JA.length c1] 24)).cell? ⟨w.heap.size, 0, none⟩ = some (.int .i64 n) := by rw [← hY1]; exact (HFY1.out _ hk3).1
  have g1 : (x2.alloc (Obj.cells #[.int .i64 n, .slice a1 JA.length c1] 24)).cell? ⟨w.heap.size, 1, none⟩ = some (.slice a L.length cap) := by rw [← hY1]; exact (HFY1.out _ hk3).2.1
  have g2 : (x2.alloc (Obj.cells #[.int .i64 n, .slice a1 JA.length c1] 24)).cell? ⟨x2.heap.size, 0, none⟩ = some (.int .i64 n) := by rw [← hY1]; exact (HFY1.out _ hk3).2.2.1
  have g3 : (x2.alloc (Obj.cells #[.int .i64 n, .slice a1 JA.length c1] 24)).cell? ⟨x2.heap.size, 1, none⟩ = some (.slice a1 JA.length c1) := by rw [← hY1]; exact (HFY1.out _ hk3).2.2.2.1
  have HY1 := Lib.hid hY1
  clear hY1
  go_wp2_with fail
  rw [← HY1.out]
  refine (HC.out _ (HFY1.out Y1 hk3).2.2.2.2.1).mono ?_
  rintro e x4 ⟨a2, c2, rfl, hK_4, hb4⟩
  have hk4 : Below Y1.heap.size Y1 x4 := hk3.trans (hb4.mono hk3.size)
  clear hb4 hk3 g0 g1 g2 g3
  obtain ⟨g0, g1, g2, g3, -⟩ := HFY1.out x4 hk4
  obtain ⟨Y2, hY2⟩ : ∃ Y, Y = x4.alloc (Obj.cells #[.int .i64 M, .slice a2 JB.length c2] 24) := ⟨_, rfl⟩
  have hy : Below x4.heap.size x4 Y2 := by rw [hY2]; exact (Below.refl _ _).alloc (Nat.le_refl _) _
  have hz : Below Y1.heap.size Y1 Y2 := hk4.trans (hy.mono hk4.size)
  have hQ : Blk Y2 x4.heap.size 24 #[.int .i64 M, .slice a2 JB.length c2] := by rw [hY2]; exact Blk.new _ _ _
  have HBY2 : Hid (Below w.heap.size w Y2) := Lib.hid (HBY1.out.trans (hz.mono HBY1.out.size))
  have HFY2 : Hid (∀ x, Below Y2.heap.size Y2 x → x.cell? ⟨w.heap.size, 0, none⟩ = some (.int .i64 n) ∧ x.cell? ⟨w.heap.size, 1, none⟩ = some (.slice a L.length cap) ∧ x.cell? ⟨x2.heap.size, 0, none⟩ = some (.int .i64 n) ∧ x.cell? ⟨x2.heap.size, 1, none⟩ = some (.slice a1 JA.length c1) ∧ x.cell? ⟨x4.heap.size, 0, none⟩ = some (.int .i64 M) ∧ x.cell? ⟨x4.heap.size, 1, none⟩ = some (.slice a2 JB.length c2) ∧ EsAt x a L ∧ EsAt x a1 JA ∧ EsAt x a2 JB) := Lib.hid fun x hx => ⟨(HFY1.out x (hz.trans (hx.mono hz.size))).1, (HFY1.out x (hz.trans (hx.mono hz.size))).2.1, (HFY1.out x (hz.trans (hx.mono hz.size))).2.2.1, (HFY1.out x (hz.trans (hx.mono hz.size))).2.2.2.1, (hQ.below hx hQ.lt).cell 0, (hQ.below hx hQ.lt).cell 1, (HFY1.out x (hz.trans (hx.mono hz.size))).2.2.2.2.1, (HFY1.out x (hz.trans (hx.mono hz.size))).2.2.2.2.2, (hK_4.keep hy).keep hx⟩
  clear g0 g1 g2 g3 hk4 hz hQ hy hK_4
  have hk5 : Below Y2.heap.size Y2 Y2 := Below.refl _ _
  have g0 : (x4.alloc (Obj.cells #[.int .i64 M, .slice a2 JB.length c2] 24)).cell? ⟨w.heap.size, 0, none⟩ = some (.int .i64 n) := by rw [← hY2]; exact (HFY2.out _ hk5).1
  have g1 : (x4.alloc (Obj.cells #[.int .i64 M, .slice a2 JB.length c2] 24)).cell? ⟨w.heap.size, 1, none⟩ = some (.slice a L.length cap) := by rw [← hY2]; exact (HFY2.out _ hk5).2.1
  have g2 : (x4.alloc (Obj.cells #[.int .i64 M, .slice a2 JB.length c2] 24)).cell? ⟨x2.heap.size, 0, none⟩ = some (.int .i64 n) := by rw [← hY2]; exact (HFY2.out _ hk5).2.2.1
  have g3 : (x4.alloc (Obj.cells #[.int .i64 M, .slice a2 JB.length c2] 24)).cell? ⟨x2.heap.size, 1, none⟩ = some (.slice a1 JA.length c1) := by rw [← hY2]; exact (HFY2.out _ hk5).2.2.2.1
  have g4 : (x4.alloc (Obj.cells #[.int .i64 M, .slice a2 JB.length c2] 24)).cell? ⟨x4.heap.size, 0, none⟩ = some (.int .i64 M) := by rw [← hY2]; exact (HFY2.out _ hk5).2.2.2.2.1
  have g5 : (x4.alloc (Obj.cells #[.int .i64 M, .slice a2 JB.length c2] 24)).cell? ⟨x4.heap.size, 1, none⟩ = some (.slice a2 JB.length c2) := by rw [← hY2]; exact (HFY2.out _ hk5).2.2.2.2.2.1
  have HY2 := Lib.hid hY2
  clear hY2
  go_wp2_with fail
  rw [← HY2.out]
  refine (HV.out _ (HFY2.out Y2 hk5).2.2.2.2.2.2.1).mono ?_
  rintro e x6 ⟨b5, d5, rfl, hV_6, hb6⟩
  have hk6 : Below Y2.heap.size Y2 x6 := hk5.trans (hb6.mono hk5.size)
  clear hb6 hk5 g0 g1 g2 g3 g4 g5
  obtain ⟨g0, g1, g2, g3, g4, g5, -⟩ := HFY2.out x6 hk6
  go_wp2_with fail
  refine (HG.out _ (HFY2.out x6 hk6).2.2.2.2.2.2.1).mono ?_
  rintro e x7 ⟨b3, d3, b4, d4, rfl, hA_7, hB_7, hb7⟩
  have hk7 : Below Y2.heap.size Y2 x7 := hk6.trans (hb7.mono hk6.size)
  have hV_7 := hV_6.keep hb7
  clear hb7 hk6 g0 g1 g2 g3 g4 g5 hV_6
  obtain ⟨g0, g1, g2, g3, g4, g5, -⟩ := HFY2.out x7 hk7
  go_wp2_with fail
  refine (HRA.out a1 c1 _ (HFY2.out x7 hk7).2.2.2.2.2.2.2.1).mono ?_
  rintro e x8 ⟨rfl, hb8⟩
  have hk8 : Below Y2.heap.size Y2 x8 := hk7.trans (hb8.mono hk7.size)
  have hV_8 := hV_7.keep hb8
  have hA_8 := hA_7.keep hb8
  have hB_8 := hB_7.keep hb8
  clear hb8 hk7 g0 g1 g2 g3 g4 g5 hV_7 hA_7 hB_7
  obtain ⟨g0, g1, g2, g3, g4, g5, -⟩ := HFY2.out x8 hk8
  go_wp2_with fail
  refine (HRB.out a2 c2 _ (HFY2.out x8 hk8).2.2.2.2.2.2.2.2).mono ?_
  rintro e x9 ⟨rfl, hb9⟩
  have hk9 : Below Y2.heap.size Y2 x9 := hk8.trans (hb9.mono hk8.size)
  have hV_9 := hV_8.keep hb9
  have hA_9 := hA_8.keep hb9
  have hB_9 := hB_8.keep hb9
  clear hb9 hk8 g0 g1 g2 g3 g4 g5 hV_8 hA_8 hB_8
  obtain ⟨g0, g1, g2, g3, g4, g5, -⟩ := HFY2.out x9 hk9
  go_wp2_with fail
  have hj0 : Below Y2.heap.size Y2 x9.drew := hk9.drew
  refine wp_region_late (S := fun u => Below Y2.heap.size Y2 u) (X := []) (by kernel_rfl) ?_
  have hV_j0 := hV_9.keep ((Below.refl _ x9).drew)
  have hA_j0 := hA_9.keep ((Below.refl _ x9).drew)
  have hB_j0 := hB_9.keep ((Below.refl _ x9).drew)
  refine wpAnyL_takeD (i := 0) 80 (.agg #[.int .i64 n, .slice a L.length cap]) rfl rfl (by kernel_rfl) (by kernel_rfl) (by kernel_rfl) (by kernel_rfl) (by kernel_rfl) (fun _ _ _ h => h) hj0 (Or.inl ⟨by rfl, fun u hu => ?_⟩) ?_
  · obtain ⟨t0, t1, t2, t3, t4, t5, -⟩ := HFY2.out u hu
    go_simp
  try simp only [Act.put, List.setIfInBounds_toArray, List.set_cons_zero, List.set_cons_succ]
  refine wpAnyL_takeD (i := 2) 82 (.agg #[.int .i64 n, .slice a1 JA.length c1]) rfl rfl (by kernel_rfl) (by kernel_rfl) (by kernel_rfl) (by kernel_rfl) (by kernel_rfl) (fun _ _ _ h => h) hj0 (Or.inl ⟨by rfl, fun u hu => ?_⟩) ?_
  · obtain ⟨t0, t1, t2, t3, t4, t5, -⟩ := HFY2.out u hu
    go_simp
  try simp only [Act.put, List.setIfInBounds_toArray, List.set_cons_zero, List.set_cons_succ]
  refine wpAnyL_takeD (i := 4) 84 (.agg #[.int .i64 M, .slice a2 JB.length c2]) rfl rfl (by kernel_rfl) (by kernel_rfl) (by kernel_rfl) (by kernel_rfl) (by kernel_rfl) (fun _ _ _ h => h) hj0 (Or.inl ⟨by rfl, fun u hu => ?_⟩) ?_
  · obtain ⟨t0, t1, t2, t3, t4, t5, -⟩ := HFY2.out u hu
    go_simp
  try simp only [Act.put, List.setIfInBounds_toArray, List.set_cons_zero, List.set_cons_succ]
  refine wpAnyL_one (i := 1) (by kernel_rfl) rfl (fun K hK => ?_)
  go_simp
  go_at_call 34
  refine (HEN.out a cap _ (HFY2.out x9.drew hj0).2.2.2.2.2.2.1).mono ?_
  rintro e y1 ⟨p1, q1, rfl, hP_j1, hb1⟩
  have hj1 := hj0.trans (hb1.mono hj0.size)
  have hV_j1 := hV_j0.keep hb1
  have hA_j1 := hA_j0.keep hb1
  have hB_j1 := hB_j0.keep hb1
  show K _ _
  refine hK.out _ _ (fun _ _ => hj1) ?_
  clear hK K hb1
  try simp only [Act.put, List.setIfInBounds_toArray, List.set_cons_zero, List.set_cons_succ]
  refine wpAnyL_one (i := 3) (by kernel_rfl) rfl (fun K hK => ?_)
  go_simp
  go_at_call 34
  refine (HEA.out a1 c1 _ (HFY2.out y1 hj1).2.2.2.2.2.2.2.1).mono ?_
  rintro e y2 ⟨p2, q2, rfl, hX_j2, hb2⟩
  have hj2 := hj1.trans (hb2.mono hj1.size)
  have hV_j2 := hV_j1.keep hb2
  have hA_j2 := hA_j1.keep hb2
  have hB_j2 := hB_j1.keep hb2
  have hP_j2 := hP_j1.keep hb2
  show K _ _
  refine hK.out _ _ (fun _ _ => hj2) ?_
  clear hK K hb2
  try simp only [Act.put, List.setIfInBounds_toArray, List.set_cons_zero, List.set_cons_succ]
  refine wpAnyL_one (i := 5) (by kernel_rfl) rfl (fun K hK => ?_)
  go_simp
  go_at_call 34
  refine (HEB.out a2 c2 _ (HFY2.out y2 hj2).2.2.2.2.2.2.2.2).mono ?_
  rintro e y3 ⟨p3, q3, rfl, hY_j3, hb3⟩
  have hj3 := hj2.trans (hb3.mono hj2.size)
  have hV_j3 := hV_j2.keep hb3
  have hA_j3 := hA_j2.keep hb3
  have hB_j3 := hB_j2.keep hb3
  have hP_j3 := hP_j2.keep hb3
  have hX_j3 := hX_j2.keep hb3
  show K _ _
  refine hK.out _ _ (fun _ _ => hj3) ?_
  clear hK K hb3
  try simp only [Act.put, List.setIfInBounds_toArray, List.set_cons_zero, List.set_cons_succ]
  refine wpAnyL_pureD (i := 6) 14 (.slice p1 P.length q1) rfl rfl (by kernel_rfl) (by kernel_rfl) (by kernel_rfl) (fun _ _ _ h => h) (Or.inl ⟨by rfl, fun u _ => ?_⟩) ?_
  · go_simp
  try simp only [Act.put, List.setIfInBounds_toArray, List.set_cons_zero, List.set_cons_succ]
  refine wpAnyL_pureD (i := 7) 15 (.slice p2 X.length q2) rfl rfl (by kernel_rfl) (by kernel_rfl) (by kernel_rfl) (fun _ _ _ h => h) (Or.inl ⟨by rfl, fun u _ => ?_⟩) ?_
  · go_simp
  try simp only [Act.put, List.setIfInBounds_toArray, List.set_cons_zero, List.set_cons_succ]
  refine wpAnyL_pureD (i := 8) 16 (.slice p3 Y.length q3) rfl rfl (by kernel_rfl) (by kernel_rfl) (by kernel_rfl) (fun _ _ _ h => h) (Or.inl ⟨by rfl, fun u _ => ?_⟩) ?_
  · go_simp
  try simp only [Act.put, List.setIfInBounds_toArray, List.set_cons_zero, List.set_cons_succ]
  refine wpAnyL_done (by kernel_rfl) ?_ _
  try simp only [Act.put, List.setIfInBounds_toArray, List.set_cons_zero, List.set_cons_succ]
  have hend := hj3
  obtain ⟨U, hU⟩ : ∃ x, x = y3 := ⟨_, rfl⟩
  have HEND0 : Hid (Below w.heap.size w U) := Lib.hid (by rw [hU]; exact HBY2.out.trans (hend.mono HBY2.out.size))
  have HhV : Hid (IsAt U b5 V) := Lib.hid (by rw [hU]; exact hV_j3)
  have HhA : Hid (IsAt U b3 A) := Lib.hid (by rw [hU]; exact hA_j3)
  have HhB : Hid (IsAt U b4 B) := Lib.hid (by rw [hU]; exact hB_j3)
  have HhP : Hid (PsAt U p1 P) := Lib.hid (by rw [hU]; exact hP_j3)
  have HhX : Hid (PsAt U p2 X) := Lib.hid (by rw [hU]; exact hX_j3)
  have HhY : Hid (PsAt U p3 Y) := Lib.hid (by rw [hU]; exact hY_j3)
  rw [← hU]
  try clear hU hend hj0 hj1 hj2 hj3
  obtain ⟨pb1, po1, hbb, -, -⟩ := HhP.out 0 (by omega)
  subst hbb
  obtain ⟨pb3, po3, hbb, -, -⟩ := HhA.out 0 (by rw [HALn.out]; omega)
  subst hbb
  obtain ⟨pb4, po4, hbb, -, -⟩ := HhB.out 0 (by rw [HBLn.out]; omega)
  subst hbb
  obtain ⟨pb5, po5, hbb, -, -⟩ := HhV.out 0 (by have := (HPN.out e he).2.1; omega)
  subst hbb
  have HCP : Hid (∀ u, Below U.heap.size U u → ∀ i, i < P.length → u.cell? ⟨pb1, po1 + i * 2, none⟩ = some (.int .i64 (na i : Nat)) ∧ u.cell? ⟨pb1, po1 + i * 2 + 1, none⟩ = some (.int .i64 (nb i : Nat))) := Lib.hid fun u hu i hi => by
    obtain ⟨b9, o9, e1, -, y1, y2⟩ := (HhP.out.keep hu).two i hi
    simp only [Option.some.injEq, Addr.mk.injEq] at e1
    obtain ⟨rfl, rfl, -⟩ := e1
    rw [(HPN.out i hi).1] at y1 y2
    exact ⟨y1, y2⟩
  have HCA : Hid (∀ u, Below U.heap.size U u → ∀ i, i < A.length → u.cell? ⟨pb3, po3 + i, none⟩ = some (.int .i64 (iAt A i))) := Lib.hid fun u hu i hi => by
    obtain ⟨b9, o9, e1, -, y1⟩ := (HhA.out.keep hu).one i hi
    simp only [Option.some.injEq, Addr.mk.injEq] at e1
    obtain ⟨rfl, rfl, -⟩ := e1
    exact y1
  have HCB : Hid (∀ u, Below U.heap.size U u → ∀ i, i < B.length → u.cell? ⟨pb4, po4 + i, none⟩ = some (.int .i64 (iAt B i))) := Lib.hid fun u hu i hi => by
    obtain ⟨b9, o9, e1, -, y1⟩ := (HhB.out.keep hu).one i hi
    simp only [Option.some.injEq, Addr.mk.injEq] at e1
    obtain ⟨rfl, rfl, -⟩ := e1
    exact y1
  have HCV : Hid (∀ u, Below U.heap.size U u → ∀ i, i < V.length → u.cell? ⟨pb5, po5 + i, none⟩ = some (.int .i64 (iAt V i))) := Lib.hid fun u hu i hi => by
    obtain ⟨b9, o9, e1, -, y1⟩ := (HhV.out.keep hu).one i hi
    simp only [Option.some.injEq, Addr.mk.injEq] at e1
    obtain ⟨rfl, rfl, -⟩ := e1
    exact y1
  have z1 : U.cell? ⟨pb3, po3 + e, none⟩ = some (.int .i64 (-1)) := by rw [← HAE.out]; exact HCA.out U (Below.refl _ _) e (by rw [HALn.out]; exact he)
  have z2 : U.cell? ⟨pb4, po4 + e, none⟩ = some (.int .i64 (-1)) := by rw [← HBE.out]; exact HCB.out U (Below.refl _ _) e (by rw [HBLn.out]; exact he)
  clear g0 g1 g2 g3 g4 g5
  go_wp2
  clear z1 z2
  have hj0 : Below U.heap.size U U.drew := (Below.refl _ _).drew
  refine wp_region_late (S := fun u => Below U.heap.size U u) (X := []) (by kernel_rfl) ?_
  refine wpAnyL_pureD (i := 0) 128 (.slice (some ⟨pb1, po1, none⟩) P.length q1) rfl rfl (by kernel_rfl) (by kernel_rfl) (by kernel_rfl) (fun _ _ _ h => h) (Or.inl ⟨by rfl, fun u _ => ?_⟩) ?_
  · go_simp
  try simp only [Act.put, List.setIfInBounds_toArray, List.set_cons_zero, List.set_cons_succ]
  refine wpAnyL_pureD (i := 1) 129 (.int .i64 (P.length : Int)) rfl rfl (by kernel_rfl) (by kernel_rfl) (by kernel_rfl) (fun _ _ _ h => h) (Or.inl ⟨by rfl, fun u _ => ?_⟩) ?_
  · go_simp
  try simp only [Act.put, List.setIfInBounds_toArray, List.set_cons_zero, List.set_cons_succ]
  refine wpAnyL_pureD (i := 3) 131 (.slice (some ⟨pb1, po1, none⟩) P.length q1) rfl rfl (by kernel_rfl) (by kernel_rfl) (by kernel_rfl) (fun _ _ _ h => h) (Or.inl ⟨by rfl, fun u _ => ?_⟩) ?_
  · go_simp
  try simp only [Act.put, List.setIfInBounds_toArray, List.set_cons_zero, List.set_cons_succ]
  refine wpAnyL_pureD (i := 4) 132 (.int .i64 (P.length : Int)) rfl rfl (by kernel_rfl) (by kernel_rfl) (by kernel_rfl) (fun _ _ _ h => h) (Or.inl ⟨by rfl, fun u _ => ?_⟩) ?_
  · go_simp
  try simp only [Act.put, List.setIfInBounds_toArray, List.set_cons_zero, List.set_cons_succ]
  refine wpAnyL_some (rs := [2, 5]) (by kernel_rfl) (by simp) (fun i' hi' => ?_)
  rcases (show i' = 2 ∨ i' = 5 by simpa using hi') with rfl | rfl
  · refine ⟨_, rfl, fun K hK => ?_⟩
    have hmk := make_bools P.length hz1 U.drew
    go_simp
    clear hmk
    obtain ⟨gs, hgs⟩ : ∃ g, g = U.heap.size := ⟨_, rfl⟩
    obtain ⟨u1, hu1⟩ : ∃ u, u = (U.alloc (.cells (enB P.length fun _ => false) 4)).drew := ⟨_, rfl⟩
    have hj1 : Below U.heap.size U u1 := by rw [hu1]; exact ((Below.refl _ U).alloc (Nat.le_refl _) _).drew
    have hrgs : RowB encB 4 u1 gs (List.replicate P.length false) := by rw [hu1, hgs]; unfold RowB; rw [← enB_rep]; exact Blk.new _ _ _
    have hBgs : U.heap.size ≤ gs := by rw [hgs]; exact hj0.size
    have HSgs : Hid (u1.heap.size = gs + 1) := Lib.hid (by rw [hu1, hgs]; simp)
    rw [← hu1]
    refine hK.out _ _ (fun _ => hj1) ?_
    clear hK K hu1
    try simp only [Act.put, List.setIfInBounds_toArray, List.set_cons_zero, List.set_cons_succ]
    refine wpAnyL_pureD (i := 6) 17 (.slice (some ⟨gs, 0, none⟩) P.length P.length) rfl rfl (by kernel_rfl) (by kernel_rfl) (by kernel_rfl) (fun _ _ _ h => h) (Or.inl ⟨by rfl, fun u _ => ?_⟩) ?_
    · go_simp
      try first | exact hgs.symm | exact hgm.symm
    try simp only [Act.put, List.setIfInBounds_toArray, List.set_cons_zero, List.set_cons_succ]
    have HG1 := Lib.hid hgs
    clear hgs
    refine wpAnyL_one (i := 5) (by kernel_rfl) rfl (fun K hK => ?_)
    have hmk := make_bools P.length hz1 u1
    go_simp
    clear hmk
    obtain ⟨gm, hgm⟩ : ∃ g, g = u1.heap.size := ⟨_, rfl⟩
    obtain ⟨u2, hu2⟩ : ∃ u, u = u1.alloc (.cells (enB P.length fun _ => false) 4) := ⟨_, rfl⟩
    have hj2 : Below U.heap.size U u2 := by rw [hu2]; exact hj1.alloc hj1.size _
    have hrgm : RowB encB 4 u2 gm (List.replicate P.length false) := by rw [hu2, hgm]; unfold RowB; rw [← enB_rep]; exact Blk.new _ _ _
    have hBgm : U.heap.size ≤ gm := by rw [hgm]; exact hj1.size
    have HSgm : Hid (u2.heap.size = gm + 1) := Lib.hid (by rw [hu2, hgm]; simp)
    rw [← hu2]
    refine hK.out _ _ (fun _ _ => hj2) ?_
    have hrA : RowB encB 4 u2 gs (List.replicate P.length false) := by rw [hu2]; exact Blk.alloc hrgs _
    have hne : gs ≠ gm := by have := HSgs.out; omega
    have hrB := hrgm
    clear hK K hu2 hrgs hrgm
    try simp only [Act.put, List.setIfInBounds_toArray, List.set_cons_zero, List.set_cons_succ]
    refine wpAnyL_pureD (i := 7) 18 (.slice (some ⟨gm, 0, none⟩) P.length P.length) rfl rfl (by kernel_rfl) (by kernel_rfl) (by kernel_rfl) (fun _ _ _ h => h) (Or.inl ⟨by rfl, fun u _ => ?_⟩) ?_
    · go_simp
      try first | exact hgs.symm | exact hgm.symm
    try simp only [Act.put, List.setIfInBounds_toArray, List.set_cons_zero, List.set_cons_succ]
    refine wpAnyL_done (by kernel_rfl) ?_ _
    try simp only [Act.put, List.setIfInBounds_toArray, List.set_cons_zero, List.set_cons_succ]
    have HR1 : Hid (RowB encB 4 u2 gs (SN 0)) := Lib.hid (by rw [HS0.out.1]; exact hrA)
    have HR2 : Hid (RowB encB 4 u2 gm (MT 0)) := Lib.hid (by rw [HS0.out.2]; exact hrB)
    have HNE : Hid (gs ≠ gm) := Lib.hid (by omega)
    have HJ2 := Lib.hid hj2
    have HBs := Lib.hid hBgs
    have HBm := Lib.hid hBgm
    clear hrA hrB hj0 hj1 hj2 hBgs hBgm hne
    try clear hgs
    try clear hgm
    go_wp2
    go_loopw [136] (fun x wr => ∃ s : Nat, s ≤ P.length ∧ x = .int .i64 s ∧ RowB encB 4 wr gs (SN s) ∧ RowB encB 4 wr gm (MT s) ∧ Below U.heap.size U wr) (fun x _ => P.length - (intOf x).toNat)
    case atStart => exact ⟨0, by omega, rfl, HR1.out, HR2.out, HJ2.out⟩
    case round =>
      obtain ⟨s, hs, rfl, hr1, hr2, hb⟩ := hrel
      by_cases hlt : s < P.length
      · have j1 : (s : Int) < (P.length : Int) := by omega
        have j2 : (0 : Int) ≤ (s : Int) := by omega
        obtain ⟨x1, x2⟩ := HCP.out wr hb s hlt
        obtain ⟨-, hna, hnb⟩ := HPN.out s hlt
        obtain ⟨V1, hV1⟩ : ∃ x, x = wr.alloc (Obj.cells #[.int .i64 (na s : Nat), .int .i64 (nb s : Nat)] 25) := ⟨_, rfl⟩
        obtain ⟨B0, hB0⟩ : ∃ x, x = wr.heap.size := ⟨_, rfl⟩
        have hbv : Blk V1 B0 25 #[.int .i64 (na s : Nat), .int .i64 (nb s : Nat)] := by rw [hV1, hB0]; exact Blk.new _ _ _
        have hb1 : Below U.heap.size U V1 := by rw [hV1]; exact hb.alloc hb.size _
        have hw1 : Below wr.heap.size wr V1 := by rw [hV1]; exact (Below.refl _ _).alloc (Nat.le_refl _) _
        have hr1v : RowB encB 4 V1 gs (SN s) := Blk.below hr1 hw1 (Blk.lt hr1)
        have hr2v : RowB encB 4 V1 gm (MT s) := Blk.below hr2 hw1 (Blk.lt hr2)
        have hlg : gs < B0 ∧ gm < B0 := by rw [hB0]; exact ⟨Blk.lt hr1, Blk.lt hr2⟩
        have HV1 := Lib.hid hV1
        have HB0 := Lib.hid hB0
        have HBV := Lib.hid hbv
        have HB1 := Lib.hid hb1
        have HRS := Lib.hid hr1v
        have HRM := Lib.hid hr2v
        have HLG := Lib.hid hlg
        clear hV1 hB0 hbv hb1 hw1 hr1v hr2v hr1 hr2 hb hlg
        by_cases hse : s = e
        · have d1 : ((s : Int) == (e : Int)) = true := by simp [hse]
          have HSE1 : Hid (SN (s + 1) = SN s ∧ MT (s + 1) = MT s) := Lib.hid (by rw [hse]; exact HSE.out)
          clear hse
          go_wp2
          rw [← HV1.out]
          go_roundw
          case rel => exact ⟨s + 1, by omega, by go_num, by rw [HSE1.out.1]; exact HRS.out, by rw [HSE1.out.2]; exact HRM.out, HB1.out⟩
          case measure => simp [intOf]; omega
        · have d1 : ((s : Int) == (e : Int)) = false := by rw [beq_eq_false_iff_ne]; omega
          obtain ⟨ha1, ha2, ha3⟩ := HKA.out s hlt hse
          obtain ⟨hb1, hb2, hb3⟩ := HKB.out s hlt hse
          obtain ⟨hf1, hf2⟩ := HSF.out s hlt hse
          have HSSn := Lib.hid (HSS.out s hlt hse)
          obtain ⟨hl1, hl2⟩ := HSL.out s
          obtain ⟨b6, o6, hbb, -, -⟩ := (HhX.out) (ka s) ha2
          subst hbb
          obtain ⟨b7, o7, hbb, -, -⟩ := (HhY.out) (kb s) hb2
          subst hbb
          rw [(HPN.out s hlt).1] at ha3
          have HCX : Hid (∀ u, Below U.heap.size U u → u.cell? ⟨b6, o6 + ka s * 2, none⟩ = some (.int .i64 (na s : Nat)) ∧ u.cell? ⟨b6, o6 + ka s * 2 + 1, none⟩ = some (.int .i64 (nb s : Nat))) := Lib.hid fun u hu => by
            obtain ⟨b9, o9, e1, -, y1, y2⟩ := (HhX.out.keep hu).two (ka s) ha2
            simp only [Option.some.injEq, Addr.mk.injEq] at e1
            obtain ⟨rfl, rfl, -⟩ := e1
            rw [ha3] at y1 y2
            exact ⟨y1, y2⟩
          have HCY : Hid (∀ u, Below U.heap.size U u → u.cell? ⟨b7, o7 + kb s * 2, none⟩ = some (.int .i64 (min (iAt V (na s)) (iAt V (nb s)))) ∧ u.cell? ⟨b7, o7 + kb s * 2 + 1, none⟩ = some (.int .i64 (max (iAt V (na s)) (iAt V (nb s))))) := Lib.hid fun u hu => by
            obtain ⟨b9, o9, e1, -, y1, y2⟩ := (HhY.out.keep hu).two (kb s) hb2
            simp only [Option.some.injEq, Addr.mk.injEq] at e1
            obtain ⟨rfl, rfl, -⟩ := e1
            rw [hb3] at y1 y2
            exact ⟨y1, y2⟩
          have HCAs : Hid (∀ u, Below U.heap.size U u → u.cell? ⟨pb3, po3 + s, none⟩ = some (.int .i64 (ka s : Nat)) ∧ u.cell? ⟨pb4, po4 + s, none⟩ = some (.int .i64 (kb s : Nat))) := Lib.hid fun u hu => by
            rw [← ha1, ← hb1]
            exact ⟨HCA.out u hu s (by rw [HALn.out]; exact hlt), HCB.out u hu s (by rw [HBLn.out]; exact hlt)⟩
          have HCVs : Hid (∀ u, Below U.heap.size U u → u.cell? ⟨pb5, po5 + na s, none⟩ = some (.int .i64 (iAt V (na s))) ∧ u.cell? ⟨pb5, po5 + nb s, none⟩ = some (.int .i64 (iAt V (nb s)))) := Lib.hid fun u hu => ⟨HCV.out u hu _ hna, HCV.out u hu _ hnb⟩
          have hkz : ka s < P.length ∧ kb s < P.length := by
            have := HXLn.out
            have := HYLn.out
            omega
          have HFF := Lib.hid (And.intro hf1 hf2)
          have HLL := Lib.hid (And.intro hl1 hl2)
          have HKZ := Lib.hid hkz
          have hkx : (ka s : Int) < (X.length : Int) := by omega
          have hky : (kb s : Int) < (Y.length : Int) := by omega
          have k1 : decide ((ka s : Int) < 0) = false := decide_eq_false (by omega)
          have k2 : decide ((kb s : Int) < 0) = false := decide_eq_false (by omega)
          have k3 : ¬ (X.length : Int) ≤ (ka s : Int) := by omega
          have k4 : ¬ (Y.length : Int) ≤ (kb s : Int) := by omega
          have k5 : (0 : Int) ≤ (ka s : Int) := by omega
          have k6 : (0 : Int) ≤ (kb s : Int) := by omega
          have k7 : (ka s : Int) < (P.length : Int) := by omega
          have k8 : (kb s : Int) < (P.length : Int) := by omega
          have k9 : (na s : Int) < (V.length : Int) := by omega
          have k10 : (nb s : Int) < (V.length : Int) := by omega
          have k11 : (0 : Int) ≤ (na s : Int) := by omega
          have k12 : (0 : Int) ≤ (nb s : Int) := by omega
          have k13 : (s : Int) < (A.length : Int) := by rw [HALn.out]; exact j1
          have k14 : (s : Int) < (B.length : Int) := by rw [HBLn.out]; exact j1
          have HF1 : Hid (∀ u, Below V1.heap.size V1 u → (u.cell? ⟨gs, ka s, none⟩ = some (.bool false) ∧ u.frozen? ⟨gs, ka s, none⟩ = false) ∧ (u.cell? ⟨gm, kb s, none⟩ = some (.bool false) ∧ u.frozen? ⟨gm, kb s, none⟩ = false) ∧ u.cell? ⟨B0, 0, none⟩ = some (.int .i64 (na s : Nat)) ∧ u.cell? ⟨B0, 1, none⟩ = some (.int .i64 (nb s : Nat))) := Lib.hid fun u hu => by
            have g1 : RowB encB 4 u gs (SN s) := Blk.below HRS.out hu (Blk.lt HRS.out)
            have g2 : RowB encB 4 u gm (MT s) := Blk.below HRM.out hu (Blk.lt HRM.out)
            have g3 := HBV.out.below hu HBV.out.lt
            refine ⟨⟨?_, Blk.frozen g1 _⟩, ⟨?_, Blk.frozen g2 _⟩, g3.cell 0, g3.cell 1⟩
            · have := g1.cellB (ka s) (by omega)
              rwa [hf1] at this
            · have := g2.cellB (kb s) (by omega)
              rwa [hf2] at this
          have HPX : Hid (∀ w, (binOp .neq 25 (.agg #[.int .i64 (na s : Nat), .int .i64 (nb s : Nat)]) (.agg #[.int .i64 (na s : Nat), .int .i64 (nb s : Nat)])).run Try.prog w = .ok (.bool false) w) := Lib.hid fun w => neq_pair _ _ w
          have hbu := HB1.out
          clear ha1 ha3 hb1 hb3 hf1 hf2 hl1 hl2 hkz
          generalize iAt V (na s) = va at *
          generalize iAt V (nb s) = vb at *
          generalize hka : ka s = k at *
          generalize hkb : kb s = l at *
          generalize hnas : na s = ta at *
          generalize hnbs : nb s = tb at *
          clear hka hkb hnas hnbs
          go_wp2_with fail
          rw [← HV1.out, ← HB0.out]
          clear x1 x2
          have hj0 : Below V1.heap.size V1 V1.drew := (Below.refl _ _).drew
          refine wp_region_late (S := fun u => Below V1.heap.size V1 u) (X := []) (by kernel_rfl) ?_
          refine wpAnyL_pureD (i := 0) 144 (.slice (some ⟨pb3, po3, none⟩) A.length d3) rfl rfl (by kernel_rfl) (by kernel_rfl) (by kernel_rfl) (fun _ _ _ h => h) (Or.inl ⟨by rfl, fun u _ => ?_⟩) ?_
          · go_simp
          try simp only [Act.put, List.setIfInBounds_toArray, List.set_cons_zero, List.set_cons_succ]
          refine wpAnyL_pureD (i := 1) 145 (.int .i64 s) rfl rfl (by kernel_rfl) (by kernel_rfl) (by kernel_rfl) (fun _ _ _ h => h) (Or.inl ⟨by rfl, fun u _ => ?_⟩) ?_
          · go_simp
          try simp only [Act.put, List.setIfInBounds_toArray, List.set_cons_zero, List.set_cons_succ]
          refine wpAnyL_pureD (i := 2) 146 (.pointer (some ⟨pb3, po3 + s, none⟩)) rfl rfl (by kernel_rfl) (by kernel_rfl) (by kernel_rfl) (fun _ _ _ h => h) (Or.inl ⟨by rfl, fun u _ => ?_⟩) ?_
          · go_simp
          try simp only [Act.put, List.setIfInBounds_toArray, List.set_cons_zero, List.set_cons_succ]
          refine wpAnyL_takeD (i := 3) 147 (.int .i64 (k : Nat)) rfl rfl (by kernel_rfl) (by kernel_rfl) (by kernel_rfl) (by kernel_rfl) (by kernel_rfl) (fun _ _ _ h => h) hj0 (Or.inl ⟨by rfl, fun u hu => ?_⟩) ?_
          · obtain ⟨t0, t1⟩ := HCAs.out u (HB1.out.trans (hu.mono HB1.out.size))
            go_simp
          try simp only [Act.put, List.setIfInBounds_toArray, List.set_cons_zero, List.set_cons_succ]
          refine wpAnyL_pureD (i := 4) 148 (.slice (some ⟨pb4, po4, none⟩) B.length d4) rfl rfl (by kernel_rfl) (by kernel_rfl) (by kernel_rfl) (fun _ _ _ h => h) (Or.inl ⟨by rfl, fun u _ => ?_⟩) ?_
          · go_simp
          try simp only [Act.put, List.setIfInBounds_toArray, List.set_cons_zero, List.set_cons_succ]
          refine wpAnyL_pureD (i := 5) 149 (.int .i64 s) rfl rfl (by kernel_rfl) (by kernel_rfl) (by kernel_rfl) (fun _ _ _ h => h) (Or.inl ⟨by rfl, fun u _ => ?_⟩) ?_
          · go_simp
          try simp only [Act.put, List.setIfInBounds_toArray, List.set_cons_zero, List.set_cons_succ]
          refine wpAnyL_pureD (i := 6) 150 (.pointer (some ⟨pb4, po4 + s, none⟩)) rfl rfl (by kernel_rfl) (by kernel_rfl) (by kernel_rfl) (fun _ _ _ h => h) (Or.inl ⟨by rfl, fun u _ => ?_⟩) ?_
          · go_simp
          try simp only [Act.put, List.setIfInBounds_toArray, List.set_cons_zero, List.set_cons_succ]
          refine wpAnyL_takeD (i := 7) 151 (.int .i64 (l : Nat)) rfl rfl (by kernel_rfl) (by kernel_rfl) (by kernel_rfl) (by kernel_rfl) (by kernel_rfl) (fun _ _ _ h => h) hj0 (Or.inl ⟨by rfl, fun u hu => ?_⟩) ?_
          · obtain ⟨t0, t1⟩ := HCAs.out u (HB1.out.trans (hu.mono HB1.out.size))
            go_simp
          try simp only [Act.put, List.setIfInBounds_toArray, List.set_cons_zero, List.set_cons_succ]
          refine wpAnyL_pureD (i := 8) 21 (.int .i64 (k : Nat)) rfl rfl (by kernel_rfl) (by kernel_rfl) (by kernel_rfl) (fun _ _ _ h => h) (Or.inl ⟨by rfl, fun u _ => ?_⟩) ?_
          · go_simp
          try simp only [Act.put, List.setIfInBounds_toArray, List.set_cons_zero, List.set_cons_succ]
          refine wpAnyL_pureD (i := 9) 22 (.int .i64 (l : Nat)) rfl rfl (by kernel_rfl) (by kernel_rfl) (by kernel_rfl) (fun _ _ _ h => h) (Or.inl ⟨by rfl, fun u _ => ?_⟩) ?_
          · go_simp
          try simp only [Act.put, List.setIfInBounds_toArray, List.set_cons_zero, List.set_cons_succ]
          refine wpAnyL_done (by kernel_rfl) ?_ _
          try simp only [Act.put, List.setIfInBounds_toArray, List.set_cons_zero, List.set_cons_succ]
          have hj1 : Below V1.heap.size V1 V1.drew.drew := hj0.drew
          go_wp2_with fail
          refine wp_region_late (S := fun u => Below V1.heap.size V1 u) (X := []) (by kernel_rfl) ?_
          refine wpAnyL_pureD (i := 0) 152 (.int .i64 (k : Nat)) rfl rfl (by kernel_rfl) (by kernel_rfl) (by kernel_rfl) (fun _ _ _ h => h) (Or.inl ⟨by rfl, fun u _ => ?_⟩) ?_
          · go_simp
          try simp only [Act.put, List.setIfInBounds_toArray, List.set_cons_zero, List.set_cons_succ]
          refine wpAnyL_pureD (i := 1) 153 (.bool false) rfl rfl (by kernel_rfl) (by kernel_rfl) (by kernel_rfl) (fun _ _ _ h => h) (Or.inl ⟨by rfl, fun u _ => ?_⟩) ?_
          · go_simp
          try simp only [Act.put, List.setIfInBounds_toArray, List.set_cons_zero, List.set_cons_succ]
          refine wpAnyL_pureD (i := 2) 154 (.bool false) rfl rfl (by kernel_rfl) (by kernel_rfl) (by kernel_rfl) (fun _ _ _ h => h) (Or.inl ⟨by rfl, fun u _ => ?_⟩) ?_
          · go_simp
          try simp only [Act.put, List.setIfInBounds_toArray, List.set_cons_zero, List.set_cons_succ]
          refine wpAnyL_pureD (i := 3) 155 (.int .i64 (k : Nat)) rfl rfl (by kernel_rfl) (by kernel_rfl) (by kernel_rfl) (fun _ _ _ h => h) (Or.inl ⟨by rfl, fun u _ => ?_⟩) ?_
          · go_simp
          try simp only [Act.put, List.setIfInBounds_toArray, List.set_cons_zero, List.set_cons_succ]
          refine wpAnyL_pureD (i := 4) 156 (.slice (some ⟨b6, o6, none⟩) X.length q2) rfl rfl (by kernel_rfl) (by kernel_rfl) (by kernel_rfl) (fun _ _ _ h => h) (Or.inl ⟨by rfl, fun u _ => ?_⟩) ?_
          · go_simp
          try simp only [Act.put, List.setIfInBounds_toArray, List.set_cons_zero, List.set_cons_succ]
          refine wpAnyL_pureD (i := 5) 157 (.int .i64 (X.length : Int)) rfl rfl (by kernel_rfl) (by kernel_rfl) (by kernel_rfl) (fun _ _ _ h => h) (Or.inl ⟨by rfl, fun u _ => ?_⟩) ?_
          · go_simp
          try simp only [Act.put, List.setIfInBounds_toArray, List.set_cons_zero, List.set_cons_succ]
          refine wpAnyL_pureD (i := 6) 158 (.bool false) rfl rfl (by kernel_rfl) (by kernel_rfl) (by kernel_rfl) (fun _ _ _ h => h) (Or.inl ⟨by rfl, fun u _ => ?_⟩) ?_
          · go_simp
          try simp only [Act.put, List.setIfInBounds_toArray, List.set_cons_zero, List.set_cons_succ]
          refine wpAnyL_pureD (i := 7) 159 (.bool false) rfl rfl (by kernel_rfl) (by kernel_rfl) (by kernel_rfl) (fun _ _ _ h => h) (Or.inl ⟨by rfl, fun u _ => ?_⟩) ?_
          · go_simp
          try simp only [Act.put, List.setIfInBounds_toArray, List.set_cons_zero, List.set_cons_succ]
          refine wpAnyL_pureD (i := 8) 160 (.bool false) rfl rfl (by kernel_rfl) (by kernel_rfl) (by kernel_rfl) (fun _ _ _ h => h) (Or.inl ⟨by rfl, fun u _ => ?_⟩) ?_
          · go_simp
          try simp only [Act.put, List.setIfInBounds_toArray, List.set_cons_zero, List.set_cons_succ]
          refine wpAnyL_pureD (i := 9) 161 (.int .i64 (l : Nat)) rfl rfl (by kernel_rfl) (by kernel_rfl) (by kernel_rfl) (fun _ _ _ h => h) (Or.inl ⟨by rfl, fun u _ => ?_⟩) ?_
          · go_simp
          try simp only [Act.put, List.setIfInBounds_toArray, List.set_cons_zero, List.set_cons_succ]
          refine wpAnyL_pureD (i := 10) 162 (.bool false) rfl rfl (by kernel_rfl) (by kernel_rfl) (by kernel_rfl) (fun _ _ _ h => h) (Or.inl ⟨by rfl, fun u _ => ?_⟩) ?_
          · go_simp
          try simp only [Act.put, List.setIfInBounds_toArray, List.set_cons_zero, List.set_cons_succ]
          refine wpAnyL_pureD (i := 11) 163 (.bool false) rfl rfl (by kernel_rfl) (by kernel_rfl) (by kernel_rfl) (fun _ _ _ h => h) (Or.inl ⟨by rfl, fun u _ => ?_⟩) ?_
          · go_simp
          try simp only [Act.put, List.setIfInBounds_toArray, List.set_cons_zero, List.set_cons_succ]
          refine wpAnyL_pureD (i := 12) 164 (.bool false) rfl rfl (by kernel_rfl) (by kernel_rfl) (by kernel_rfl) (fun _ _ _ h => h) (Or.inl ⟨by rfl, fun u _ => ?_⟩) ?_
          · go_simp
          try simp only [Act.put, List.setIfInBounds_toArray, List.set_cons_zero, List.set_cons_succ]
          refine wpAnyL_pureD (i := 13) 165 (.int .i64 (l : Nat)) rfl rfl (by kernel_rfl) (by kernel_rfl) (by kernel_rfl) (fun _ _ _ h => h) (Or.inl ⟨by rfl, fun u _ => ?_⟩) ?_
          · go_simp
          try simp only [Act.put, List.setIfInBounds_toArray, List.set_cons_zero, List.set_cons_succ]
          refine wpAnyL_pureD (i := 14) 166 (.slice (some ⟨b7, o7, none⟩) Y.length q3) rfl rfl (by kernel_rfl) (by kernel_rfl) (by kernel_rfl) (fun _ _ _ h => h) (Or.inl ⟨by rfl, fun u _ => ?_⟩) ?_
          · go_simp
          try simp only [Act.put, List.setIfInBounds_toArray, List.set_cons_zero, List.set_cons_succ]
          refine wpAnyL_pureD (i := 15) 167 (.int .i64 (Y.length : Int)) rfl rfl (by kernel_rfl) (by kernel_rfl) (by kernel_rfl) (fun _ _ _ h => h) (Or.inl ⟨by rfl, fun u _ => ?_⟩) ?_
          · go_simp
          try simp only [Act.put, List.setIfInBounds_toArray, List.set_cons_zero, List.set_cons_succ]
          refine wpAnyL_pureD (i := 16) 168 (.bool false) rfl rfl (by kernel_rfl) (by kernel_rfl) (by kernel_rfl) (fun _ _ _ h => h) (Or.inl ⟨by rfl, fun u _ => ?_⟩) ?_
          · go_simp
          try simp only [Act.put, List.setIfInBounds_toArray, List.set_cons_zero, List.set_cons_succ]
          refine wpAnyL_pureD (i := 17) 169 (.bool false) rfl rfl (by kernel_rfl) (by kernel_rfl) (by kernel_rfl) (fun _ _ _ h => h) (Or.inl ⟨by rfl, fun u _ => ?_⟩) ?_
          · go_simp
          try simp only [Act.put, List.setIfInBounds_toArray, List.set_cons_zero, List.set_cons_succ]
          refine wpAnyL_pureD (i := 18) 170 (.bool false) rfl rfl (by kernel_rfl) (by kernel_rfl) (by kernel_rfl) (fun _ _ _ h => h) (Or.inl ⟨by rfl, fun u _ => ?_⟩) ?_
          · go_simp
          try simp only [Act.put, List.setIfInBounds_toArray, List.set_cons_zero, List.set_cons_succ]
          refine wpAnyL_pureD (i := 19) 171 (.slice (some ⟨gs, 0, none⟩) P.length P.length) rfl rfl (by kernel_rfl) (by kernel_rfl) (by kernel_rfl) (fun _ _ _ h => h) (Or.inl ⟨by rfl, fun u _ => ?_⟩) ?_
          · go_simp
          try simp only [Act.put, List.setIfInBounds_toArray, List.set_cons_zero, List.set_cons_succ]
          refine wpAnyL_pureD (i := 20) 172 (.int .i64 (k : Nat)) rfl rfl (by kernel_rfl) (by kernel_rfl) (by kernel_rfl) (fun _ _ _ h => h) (Or.inl ⟨by rfl, fun u _ => ?_⟩) ?_
          · go_simp
          try simp only [Act.put, List.setIfInBounds_toArray, List.set_cons_zero, List.set_cons_succ]
          refine wpAnyL_pureD (i := 21) 173 (.pointer (some ⟨gs, k, none⟩)) rfl rfl (by kernel_rfl) (by kernel_rfl) (by kernel_rfl) (fun _ _ _ h => h) (Or.inl ⟨by rfl, fun u _ => ?_⟩) ?_
          · go_simp
          try simp only [Act.put, List.setIfInBounds_toArray, List.set_cons_zero, List.set_cons_succ]
          refine wpAnyL_takeD (i := 22) 174 (.bool false) rfl rfl (by kernel_rfl) (by kernel_rfl) (by kernel_rfl) (by kernel_rfl) (by kernel_rfl) (fun _ _ _ h => h) hj1 (Or.inl ⟨by rfl, fun u hu => ?_⟩) ?_
          · obtain ⟨⟨t0, -⟩, ⟨t1, -⟩, t2, t3⟩ := HF1.out u hu
            go_simp
          try simp only [Act.put, List.setIfInBounds_toArray, List.set_cons_zero, List.set_cons_succ]
          refine wpAnyL_pureD (i := 23) 175 (.bool false) rfl rfl (by kernel_rfl) (by kernel_rfl) (by kernel_rfl) (fun _ _ _ h => h) (Or.inl ⟨by rfl, fun u _ => ?_⟩) ?_
          · go_simp
          try simp only [Act.put, List.setIfInBounds_toArray, List.set_cons_zero, List.set_cons_succ]
          refine wpAnyL_pureD (i := 24) 176 (.bool false) rfl rfl (by kernel_rfl) (by kernel_rfl) (by kernel_rfl) (fun _ _ _ h => h) (Or.inl ⟨by rfl, fun u _ => ?_⟩) ?_
          · go_simp
          try simp only [Act.put, List.setIfInBounds_toArray, List.set_cons_zero, List.set_cons_succ]
          refine wpAnyL_pureD (i := 25) 177 (.slice (some ⟨gm, 0, none⟩) P.length P.length) rfl rfl (by kernel_rfl) (by kernel_rfl) (by kernel_rfl) (fun _ _ _ h => h) (Or.inl ⟨by rfl, fun u _ => ?_⟩) ?_
          · go_simp
          try simp only [Act.put, List.setIfInBounds_toArray, List.set_cons_zero, List.set_cons_succ]
          refine wpAnyL_pureD (i := 26) 178 (.int .i64 (l : Nat)) rfl rfl (by kernel_rfl) (by kernel_rfl) (by kernel_rfl) (fun _ _ _ h => h) (Or.inl ⟨by rfl, fun u _ => ?_⟩) ?_
          · go_simp
          try simp only [Act.put, List.setIfInBounds_toArray, List.set_cons_zero, List.set_cons_succ]
          refine wpAnyL_pureD (i := 27) 179 (.pointer (some ⟨gm, l, none⟩)) rfl rfl (by kernel_rfl) (by kernel_rfl) (by kernel_rfl) (fun _ _ _ h => h) (Or.inl ⟨by rfl, fun u _ => ?_⟩) ?_
          · go_simp
          try simp only [Act.put, List.setIfInBounds_toArray, List.set_cons_zero, List.set_cons_succ]
          refine wpAnyL_takeD (i := 28) 180 (.bool false) rfl rfl (by kernel_rfl) (by kernel_rfl) (by kernel_rfl) (by kernel_rfl) (by kernel_rfl) (fun _ _ _ h => h) hj1 (Or.inl ⟨by rfl, fun u hu => ?_⟩) ?_
          · obtain ⟨⟨t0, -⟩, ⟨t1, -⟩, t2, t3⟩ := HF1.out u hu
            go_simp
          try simp only [Act.put, List.setIfInBounds_toArray, List.set_cons_zero, List.set_cons_succ]
          refine wpAnyL_pureD (i := 29) 181 (.bool false) rfl rfl (by kernel_rfl) (by kernel_rfl) (by kernel_rfl) (fun _ _ _ h => h) (Or.inl ⟨by rfl, fun u _ => ?_⟩) ?_
          · go_simp
          try simp only [Act.put, List.setIfInBounds_toArray, List.set_cons_zero, List.set_cons_succ]
          refine wpAnyL_pureD (i := 30) 182 (.bool false) rfl rfl (by kernel_rfl) (by kernel_rfl) (by kernel_rfl) (fun _ _ _ h => h) (Or.inl ⟨by rfl, fun u _ => ?_⟩) ?_
          · go_simp
          try simp only [Act.put, List.setIfInBounds_toArray, List.set_cons_zero, List.set_cons_succ]
          refine wpAnyL_pureD (i := 31) 183 (.slice (some ⟨b6, o6, none⟩) X.length q2) rfl rfl (by kernel_rfl) (by kernel_rfl) (by kernel_rfl) (fun _ _ _ h => h) (Or.inl ⟨by rfl, fun u _ => ?_⟩) ?_
          · go_simp
          try simp only [Act.put, List.setIfInBounds_toArray, List.set_cons_zero, List.set_cons_succ]
          refine wpAnyL_pureD (i := 32) 184 (.int .i64 (k : Nat)) rfl rfl (by kernel_rfl) (by kernel_rfl) (by kernel_rfl) (fun _ _ _ h => h) (Or.inl ⟨by rfl, fun u _ => ?_⟩) ?_
          · go_simp
          try simp only [Act.put, List.setIfInBounds_toArray, List.set_cons_zero, List.set_cons_succ]
          refine wpAnyL_pureD (i := 33) 185 (.pointer (some ⟨b6, o6 + k * 2, none⟩)) rfl rfl (by kernel_rfl) (by kernel_rfl) (by kernel_rfl) (fun _ _ _ h => h) (Or.inl ⟨by rfl, fun u _ => ?_⟩) ?_
          · go_simp
          try simp only [Act.put, List.setIfInBounds_toArray, List.set_cons_zero, List.set_cons_succ]
          refine wpAnyL_takeD (i := 34) 186 (.agg #[.int .i64 (ta : Nat), .int .i64 (tb : Nat)]) rfl rfl (by kernel_rfl) (by kernel_rfl) (by kernel_rfl) (by kernel_rfl) (by kernel_rfl) (fun _ _ _ h => h) hj1 (Or.inl ⟨by rfl, fun u hu => ?_⟩) ?_
          · obtain ⟨t4, t5⟩ := HCX.out u (HB1.out.trans (hu.mono HB1.out.size))
            obtain ⟨⟨t0, -⟩, ⟨t1, -⟩, t2, t3⟩ := HF1.out u hu
            go_simp
          try simp only [Act.put, List.setIfInBounds_toArray, List.set_cons_zero, List.set_cons_succ]
          refine wpAnyL_takeD (i := 35) 187 (.agg #[.int .i64 (ta : Nat), .int .i64 (tb : Nat)]) rfl rfl (by kernel_rfl) (by kernel_rfl) (by kernel_rfl) (by kernel_rfl) (by kernel_rfl) (fun _ _ _ h => h) hj1 (Or.inl ⟨by rfl, fun u hu => ?_⟩) ?_
          · obtain ⟨t4, t5⟩ := HCX.out u (HB1.out.trans (hu.mono HB1.out.size))
            obtain ⟨⟨t0, -⟩, ⟨t1, -⟩, t2, t3⟩ := HF1.out u hu
            go_simp
          try simp only [Act.put, List.setIfInBounds_toArray, List.set_cons_zero, List.set_cons_succ]
          refine wpAnyL_pureD (i := 36) 188 (.bool false) rfl rfl (by kernel_rfl) (by kernel_rfl) (by kernel_rfl) (fun _ _ _ h => h) (Or.inl ⟨by rfl, fun u _ => ?_⟩) ?_
          · have hn := HPX.out
            go_simp
            try exact hn _
          try simp only [Act.put, List.setIfInBounds_toArray, List.set_cons_zero, List.set_cons_succ]
          refine wpAnyL_pureD (i := 37) 189 (.bool false) rfl rfl (by kernel_rfl) (by kernel_rfl) (by kernel_rfl) (fun _ _ _ h => h) (Or.inl ⟨by rfl, fun u _ => ?_⟩) ?_
          · go_simp
          try simp only [Act.put, List.setIfInBounds_toArray, List.set_cons_zero, List.set_cons_succ]
          refine wpAnyL_done (by kernel_rfl) ?_ _
          try simp only [Act.put, List.setIfInBounds_toArray, List.set_cons_zero, List.set_cons_succ]
          obtain ⟨U1, hU1⟩ : ∃ u, u = V1.drew.drew := ⟨_, rfl⟩
          have hj2 : Below V1.heap.size V1 U1 := by rw [hU1]; exact hj1
          rw [← hU1]
          clear hU1 hj0 hj1 hbu
          have q1 : RowB encB 4 U1 gs (SN s) := Blk.below HRS.out hj2 (Blk.lt HRS.out)
          have q2 : RowB encB 4 U1 gm (MT s) := Blk.below HRM.out hj2 (Blk.lt HRM.out)
          have q3 : RowB encB 4 (U1.setCell ⟨gs, k, none⟩ (.bool true)) gs ((SN s).set k true) := q1.setB k true
          have q4 : RowB encB 4 (U1.setCell ⟨gs, k, none⟩ (.bool true)) gm (MT s) := Blk.far q2 (p := ⟨gs, k, none⟩) (Ne.symm HNE.out) _
          have q5 := Blk.far q3 (p := ⟨gm, l, none⟩) HNE.out (.bool true)
          have q6 := q4.setB l true
          have q7 := ((HBV.out.below hj2 HBV.out.lt).far (p := ⟨gs, k, none⟩) (by show B0 ≠ gs; have := HLG.out; omega) (.bool true)).far (p := ⟨gm, l, none⟩) (by show B0 ≠ gm; have := HLG.out; omega) (.bool true)
          have q8 : Below U.heap.size U ((U1.setCell ⟨gs, k, none⟩ (.bool true)).setCell ⟨gm, l, none⟩ (.bool true)) := ((HB1.out.trans (hj2.mono HB1.out.size)).setCell (p := ⟨gs, k, none⟩) HBs.out _).setCell (p := ⟨gm, l, none⟩) HBm.out _
          obtain ⟨⟨y1, y2⟩, -, -, -⟩ := HF1.out U1 hj2
          have y3 := q4.cellB l (by have := HLL.out; have := HKZ.out; omega)
          rw [HFF.out.2] at y3
          have y4 := Blk.frozen q4 l
          obtain ⟨U2, hU2⟩ : ∃ u, u = (U1.setCell ⟨gs, k, none⟩ (.bool true)).setCell ⟨gm, l, none⟩ (.bool true) := ⟨_, rfl⟩
          have Q5 : Hid (RowB encB 4 U2 gs (SN (s + 1))) := Lib.hid (by rw [hU2, HSSn.out.1]; exact q5)
          have Q6 : Hid (RowB encB 4 U2 gm (MT (s + 1))) := Lib.hid (by rw [hU2, HSSn.out.2]; exact q6)
          have HBU2 : Hid (Below U.heap.size U U2) := Lib.hid (by rw [hU2]; exact q8)
          have HF2 : Hid (∀ u, Below U2.heap.size U2 u → u.cell? ⟨B0, 0, none⟩ = some (.int .i64 (ta : Nat)) ∧ u.cell? ⟨B0, 1, none⟩ = some (.int .i64 (tb : Nat)) ∧ u.cell? ⟨pb5, po5 + ta, none⟩ = some (.int .i64 va) ∧ u.cell? ⟨pb5, po5 + tb, none⟩ = some (.int .i64 vb)) := Lib.hid fun u hu => by
            rw [← hU2] at q7
            exact ⟨(q7.below hu q7.lt).cell 0, (q7.below hu q7.lt).cell 1, HCVs.out u (HBU2.out.trans (hu.mono HBU2.out.size))⟩
          have HU2 := Lib.hid hU2
          clear q1 q2 q3 q4 q5 q6 q7 q8 hU2 hj2
          go_wp2_with fail
          rw [← HU2.out]
          clear y1 y2 y3 y4
          have hj3 : Below U2.heap.size U2 U2.drew := (Below.refl _ _).drew
          refine wp_region_late (S := fun u => Below U2.heap.size U2 u) (X := []) (by kernel_rfl) ?_
          refine wpAnyL_pureD (i := 0) 196 (.slice (some ⟨pb5, po5, none⟩) V.length d5) rfl rfl (by kernel_rfl) (by kernel_rfl) (by kernel_rfl) (fun _ _ _ h => h) (Or.inl ⟨by rfl, fun u _ => ?_⟩) ?_
          · go_simp
          try simp only [Act.put, List.setIfInBounds_toArray, List.set_cons_zero, List.set_cons_succ]
          refine wpAnyL_pureD (i := 1) 197 (.pointer (some ⟨B0, 0, none⟩)) rfl rfl (by kernel_rfl) (by kernel_rfl) (by kernel_rfl) (fun _ _ _ h => h) (Or.inl ⟨by rfl, fun u _ => ?_⟩) ?_
          · go_simp
          try simp only [Act.put, List.setIfInBounds_toArray, List.set_cons_zero, List.set_cons_succ]
          refine wpAnyL_takeD (i := 2) 198 (.int .i64 (ta : Nat)) rfl rfl (by kernel_rfl) (by kernel_rfl) (by kernel_rfl) (by kernel_rfl) (by kernel_rfl) (fun _ _ _ h => h) hj3 (Or.inl ⟨by rfl, fun u hu => ?_⟩) ?_
          · obtain ⟨t0, t1, t2, t3⟩ := HF2.out u hu
            go_simp
          try simp only [Act.put, List.setIfInBounds_toArray, List.set_cons_zero, List.set_cons_succ]
          refine wpAnyL_pureD (i := 3) 199 (.pointer (some ⟨pb5, po5 + ta, none⟩)) rfl rfl (by kernel_rfl) (by kernel_rfl) (by kernel_rfl) (fun _ _ _ h => h) (Or.inl ⟨by rfl, fun u _ => ?_⟩) ?_
          · go_simp
          try simp only [Act.put, List.setIfInBounds_toArray, List.set_cons_zero, List.set_cons_succ]
          refine wpAnyL_takeD (i := 4) 200 (.int .i64 va) rfl rfl (by kernel_rfl) (by kernel_rfl) (by kernel_rfl) (by kernel_rfl) (by kernel_rfl) (fun _ _ _ h => h) hj3 (Or.inl ⟨by rfl, fun u hu => ?_⟩) ?_
          · obtain ⟨t0, t1, t2, t3⟩ := HF2.out u hu
            go_simp
          try simp only [Act.put, List.setIfInBounds_toArray, List.set_cons_zero, List.set_cons_succ]
          refine wpAnyL_pureD (i := 5) 201 (.slice (some ⟨pb5, po5, none⟩) V.length d5) rfl rfl (by kernel_rfl) (by kernel_rfl) (by kernel_rfl) (fun _ _ _ h => h) (Or.inl ⟨by rfl, fun u _ => ?_⟩) ?_
          · go_simp
          try simp only [Act.put, List.setIfInBounds_toArray, List.set_cons_zero, List.set_cons_succ]
          refine wpAnyL_pureD (i := 6) 202 (.pointer (some ⟨B0, 1, none⟩)) rfl rfl (by kernel_rfl) (by kernel_rfl) (by kernel_rfl) (fun _ _ _ h => h) (Or.inl ⟨by rfl, fun u _ => ?_⟩) ?_
          · go_simp
          try simp only [Act.put, List.setIfInBounds_toArray, List.set_cons_zero, List.set_cons_succ]
          refine wpAnyL_takeD (i := 7) 203 (.int .i64 (tb : Nat)) rfl rfl (by kernel_rfl) (by kernel_rfl) (by kernel_rfl) (by kernel_rfl) (by kernel_rfl) (fun _ _ _ h => h) hj3 (Or.inl ⟨by rfl, fun u hu => ?_⟩) ?_
          · obtain ⟨t0, t1, t2, t3⟩ := HF2.out u hu
            go_simp
          try simp only [Act.put, List.setIfInBounds_toArray, List.set_cons_zero, List.set_cons_succ]
          refine wpAnyL_pureD (i := 8) 204 (.pointer (some ⟨pb5, po5 + tb, none⟩)) rfl rfl (by kernel_rfl) (by kernel_rfl) (by kernel_rfl) (fun _ _ _ h => h) (Or.inl ⟨by rfl, fun u _ => ?_⟩) ?_
          · go_simp
          try simp only [Act.put, List.setIfInBounds_toArray, List.set_cons_zero, List.set_cons_succ]
          refine wpAnyL_takeD (i := 9) 205 (.int .i64 vb) rfl rfl (by kernel_rfl) (by kernel_rfl) (by kernel_rfl) (by kernel_rfl) (by kernel_rfl) (fun _ _ _ h => h) hj3 (Or.inl ⟨by rfl, fun u hu => ?_⟩) ?_
          · obtain ⟨t0, t1, t2, t3⟩ := HF2.out u hu
            go_simp
          try simp only [Act.put, List.setIfInBounds_toArray, List.set_cons_zero, List.set_cons_succ]
          refine wpAnyL_pureD (i := 10) 23 (.int .i64 va) rfl rfl (by kernel_rfl) (by kernel_rfl) (by kernel_rfl) (fun _ _ _ h => h) (Or.inl ⟨by rfl, fun u _ => ?_⟩) ?_
          · go_simp
          try simp only [Act.put, List.setIfInBounds_toArray, List.set_cons_zero, List.set_cons_succ]
          refine wpAnyL_pureD (i := 11) 24 (.int .i64 vb) rfl rfl (by kernel_rfl) (by kernel_rfl) (by kernel_rfl) (fun _ _ _ h => h) (Or.inl ⟨by rfl, fun u _ => ?_⟩) ?_
          · go_simp
          try simp only [Act.put, List.setIfInBounds_toArray, List.set_cons_zero, List.set_cons_succ]
          refine wpAnyL_done (by kernel_rfl) ?_ _
          try simp only [Act.put, List.setIfInBounds_toArray, List.set_cons_zero, List.set_cons_succ]
          have HB3 : Hid (Below U.heap.size U U2.drew) := Lib.hid HBU2.out.drew
          obtain ⟨y1, y2⟩ := HCY.out U2.drew HB3.out
          have hn : ∀ w, (binOp .neq 25 (.agg #[.int .i64 (min va vb), .int .i64 (max va vb)]) (.agg #[.int .i64 (min va vb), .int .i64 (max va vb)])).run Try.prog w = .ok (.bool false) w := fun w => neq_pair _ _ w
          clear hj3
          go_wp2_with fail
          go_roundw
          case rel => exact ⟨s + 1, by omega, by go_num, Blk.below Q5.out (Below.refl _ _).drew (Blk.lt Q5.out), Blk.below Q6.out (Below.refl _ _).drew (Blk.lt Q6.out), HB3.out⟩
          case measure => simp [intOf]; omega
      · obtain rfl : s = P.length := by omega
        have j1 : ¬ (P.length : Int) < (P.length : Int) := by omega
        have HEND := Lib.hid (HEND0.out.trans (hb.mono HEND0.out.size))
        have hkb := hb
        clear hr1 hr2 hb
        go_wp2_with fail
        refine (HA _).mono ?_
        rintro r wz ⟨rfl, hbz⟩
        have HEND2 := Lib.hid (HEND.out.trans (hbz.mono HEND.out.size))
        clear hbz hkb
        go_wp2
        go_ret
        exact ⟨rfl, HEND2.out⟩
  · refine ⟨_, rfl, fun K hK => ?_⟩
    have hmk := make_bools P.length hz1 U.drew
    go_simp
    clear hmk
    obtain ⟨gm, hgm⟩ : ∃ g, g = U.heap.size := ⟨_, rfl⟩
    obtain ⟨u1, hu1⟩ : ∃ u, u = (U.alloc (.cells (enB P.length fun _ => false) 4)).drew := ⟨_, rfl⟩
    have hj1 : Below U.heap.size U u1 := by rw [hu1]; exact ((Below.refl _ U).alloc (Nat.le_refl _) _).drew
    have hrgm : RowB encB 4 u1 gm (List.replicate P.length false) := by rw [hu1, hgm]; unfold RowB; rw [← enB_rep]; exact Blk.new _ _ _
    have hBgm : U.heap.size ≤ gm := by rw [hgm]; exact hj0.size
    have HSgm : Hid (u1.heap.size = gm + 1) := Lib.hid (by rw [hu1, hgm]; simp)
    rw [← hu1]
    refine hK.out _ _ (fun _ => hj1) ?_
    clear hK K hu1
    try simp only [Act.put, List.setIfInBounds_toArray, List.set_cons_zero, List.set_cons_succ]
    have HG1 := Lib.hid hgm
    clear hgm
    refine wpAnyL_one (i := 2) (by kernel_rfl) rfl (fun K hK => ?_)
    have hmk := make_bools P.length hz1 u1
    go_simp
    clear hmk
    obtain ⟨gs, hgs⟩ : ∃ g, g = u1.heap.size := ⟨_, rfl⟩
    obtain ⟨u2, hu2⟩ : ∃ u, u = u1.alloc (.cells (enB P.length fun _ => false) 4) := ⟨_, rfl⟩
    have hj2 : Below U.heap.size U u2 := by rw [hu2]; exact hj1.alloc hj1.size _
    have hrgs : RowB encB 4 u2 gs (List.replicate P.length false) := by rw [hu2, hgs]; unfold RowB; rw [← enB_rep]; exact Blk.new _ _ _
    have hBgs : U.heap.size ≤ gs := by rw [hgs]; exact hj1.size
    have HSgs : Hid (u2.heap.size = gs + 1) := Lib.hid (by rw [hu2, hgs]; simp)
    rw [← hu2]
    refine hK.out _ _ (fun _ _ => hj2) ?_
    have hrA : RowB encB 4 u2 gm (List.replicate P.length false) := by rw [hu2]; exact Blk.alloc hrgm _
    have hne : gm ≠ gs := by have := HSgm.out; omega
    have hrB := hrgs
    clear hK K hu2 hrgm hrgs
    try simp only [Act.put, List.setIfInBounds_toArray, List.set_cons_zero, List.set_cons_succ]
    refine wpAnyL_pureD (i := 6) 17 (.slice (some ⟨gs, 0, none⟩) P.length P.length) rfl rfl (by kernel_rfl) (by kernel_rfl) (by kernel_rfl) (fun _ _ _ h => h) (Or.inl ⟨by rfl, fun u _ => ?_⟩) ?_
    · go_simp
      try first | exact hgs.symm | exact hgm.symm
    try simp only [Act.put, List.setIfInBounds_toArray, List.set_cons_zero, List.set_cons_succ]
    have hgm := HG1.out
    refine wpAnyL_pureD (i := 7) 18 (.slice (some ⟨gm, 0, none⟩) P.length P.length) rfl rfl (by kernel_rfl) (by kernel_rfl) (by kernel_rfl) (fun _ _ _ h => h) (Or.inl ⟨by rfl, fun u _ => ?_⟩) ?_
    · go_simp
      try first | exact hgs.symm | exact hgm.symm
    try simp only [Act.put, List.setIfInBounds_toArray, List.set_cons_zero, List.set_cons_succ]
    refine wpAnyL_done (by kernel_rfl) ?_ _
    try simp only [Act.put, List.setIfInBounds_toArray, List.set_cons_zero, List.set_cons_succ]
    have HR1 : Hid (RowB encB 4 u2 gs (SN 0)) := Lib.hid (by rw [HS0.out.1]; exact hrB)
    have HR2 : Hid (RowB encB 4 u2 gm (MT 0)) := Lib.hid (by rw [HS0.out.2]; exact hrA)
    have HNE : Hid (gs ≠ gm) := Lib.hid (by omega)
    have HJ2 := Lib.hid hj2
    have HBs := Lib.hid hBgs
    have HBm := Lib.hid hBgm
    clear hrA hrB hj0 hj1 hj2 hBgs hBgm hne
    try clear hgs
    try clear hgm
    go_wp2
    go_loopw [136] (fun x wr => ∃ s : Nat, s ≤ P.length ∧ x = .int .i64 s ∧ RowB encB 4 wr gs (SN s) ∧ RowB encB 4 wr gm (MT s) ∧ Below U.heap.size U wr) (fun x _ => P.length - (intOf x).toNat)
    case atStart => exact ⟨0, by omega, rfl, HR1.out, HR2.out, HJ2.out⟩
    case round =>
      obtain ⟨s, hs, rfl, hr1, hr2, hb⟩ := hrel
      by_cases hlt : s < P.length
      · have j1 : (s : Int) < (P.length : Int) := by omega
        have j2 : (0 : Int) ≤ (s : Int) := by omega
        obtain ⟨x1, x2⟩ := HCP.out wr hb s hlt
        obtain ⟨-, hna, hnb⟩ := HPN.out s hlt
        obtain ⟨V1, hV1⟩ : ∃ x, x = wr.alloc (Obj.cells #[.int .i64 (na s : Nat), .int .i64 (nb s : Nat)] 25) := ⟨_, rfl⟩
        obtain ⟨B0, hB0⟩ : ∃ x, x = wr.heap.size := ⟨_, rfl⟩
        have hbv : Blk V1 B0 25 #[.int .i64 (na s : Nat), .int .i64 (nb s : Nat)] := by rw [hV1, hB0]; exact Blk.new _ _ _
        have hb1 : Below U.heap.size U V1 := by rw [hV1]; exact hb.alloc hb.size _
        have hw1 : Below wr.heap.size wr V1 := by rw [hV1]; exact (Below.refl _ _).alloc (Nat.le_refl _) _
        have hr1v : RowB encB 4 V1 gs (SN s) := Blk.below hr1 hw1 (Blk.lt hr1)
        have hr2v : RowB encB 4 V1 gm (MT s) := Blk.below hr2 hw1 (Blk.lt hr2)
        have hlg : gs < B0 ∧ gm < B0 := by rw [hB0]; exact ⟨Blk.lt hr1, Blk.lt hr2⟩
        have HV1 := Lib.hid hV1
        have HB0 := Lib.hid hB0
        have HBV := Lib.hid hbv
        have HB1 := Lib.hid hb1
        have HRS := Lib.hid hr1v
        have HRM := Lib.hid hr2v
        have HLG := Lib.hid hlg
        clear hV1 hB0 hbv hb1 hw1 hr1v hr2v hr1 hr2 hb hlg
        by_cases hse : s = e
        · have d1 : ((s : Int) == (e : Int)) = true := by simp [hse]
          have HSE1 : Hid (SN (s + 1) = SN s ∧ MT (s + 1) = MT s) := Lib.hid (by rw [hse]; exact HSE.out)
          clear hse
          go_wp2
          rw [← HV1.out]
          go_roundw
          case rel => exact ⟨s + 1, by omega, by go_num, by rw [HSE1.out.1]; exact HRS.out, by rw [HSE1.out.2]; exact HRM.out, HB1.out⟩
          case measure => simp [intOf]; omega
        · have d1 : ((s : Int) == (e : Int)) = false := by rw [beq_eq_false_iff_ne]; omega
          obtain ⟨ha1, ha2, ha3⟩ := HKA.out s hlt hse
          obtain ⟨hb1, hb2, hb3⟩ := HKB.out s hlt hse
          obtain ⟨hf1, hf2⟩ := HSF.out s hlt hse
          have HSSn := Lib.hid (HSS.out s hlt hse)
          obtain ⟨hl1, hl2⟩ := HSL.out s
          obtain ⟨b6, o6, hbb, -, -⟩ := (HhX.out) (ka s) ha2
          subst hbb
          obtain ⟨b7, o7, hbb, -, -⟩ := (HhY.out) (kb s) hb2
          subst hbb
          rw [(HPN.out s hlt).1] at ha3
          have HCX : Hid (∀ u, Below U.heap.size U u → u.cell? ⟨b6, o6 + ka s * 2, none⟩ = some (.int .i64 (na s : Nat)) ∧ u.cell? ⟨b6, o6 + ka s * 2 + 1, none⟩ = some (.int .i64 (nb s : Nat))) := Lib.hid fun u hu => by
            obtain ⟨b9, o9, e1, -, y1, y2⟩ := (HhX.out.keep hu).two (ka s) ha2
            simp only [Option.some.injEq, Addr.mk.injEq] at e1
            obtain ⟨rfl, rfl, -⟩ := e1
            rw [ha3] at y1 y2
            exact ⟨y1, y2⟩
          have HCY : Hid (∀ u, Below U.heap.size U u → u.cell? ⟨b7, o7 + kb s * 2, none⟩ = some (.int .i64 (min (iAt V (na s)) (iAt V (nb s)))) ∧ u.cell? ⟨b7, o7 + kb s * 2 + 1, none⟩ = some (.int .i64 (max (iAt V (na s)) (iAt V (nb s))))) := Lib.hid fun u hu => by
            obtain ⟨b9, o9, e1, -, y1, y2⟩ := (HhY.out.keep hu).two (kb s) hb2
            simp only [Option.some.injEq, Addr.mk.injEq] at e1
            obtain ⟨rfl, rfl, -⟩ := e1
            rw [hb3] at y1 y2
            exact ⟨y1, y2⟩
          have HCAs : Hid (∀ u, Below U.heap.size U u → u.cell? ⟨pb3, po3 + s, none⟩ = some (.int .i64 (ka s : Nat)) ∧ u.cell? ⟨pb4, po4 + s, none⟩ = some (.int .i64 (kb s : Nat))) := Lib.hid fun u hu => by
            rw [← ha1, ← hb1]
            exact ⟨HCA.out u hu s (by rw [HALn.out]; exact hlt), HCB.out u hu s (by rw [HBLn.out]; exact hlt)⟩
          have HCVs : Hid (∀ u, Below U.heap.size U u → u.cell? ⟨pb5, po5 + na s, none⟩ = some (.int .i64 (iAt V (na s))) ∧ u.cell? ⟨pb5, po5 + nb s, none⟩ = some (.int .i64 (iAt V (nb s)))) := Lib.hid fun u hu => ⟨HCV.out u hu _ hna, HCV.out u hu _ hnb⟩
          have hkz : ka s < P.length ∧ kb s < P.length := by
            have := HXLn.out
            have := HYLn.out
            omega
          have HFF := Lib.hid (And.intro hf1 hf2)
          have HLL := Lib.hid (And.intro hl1 hl2)
          have HKZ := Lib.hid hkz
          have hkx : (ka s : Int) < (X.length : Int) := by omega
          have hky : (kb s : Int) < (Y.length : Int) := by omega
          have k1 : decide ((ka s : Int) < 0) = false := decide_eq_false (by omega)
          have k2 : decide ((kb s : Int) < 0) = false := decide_eq_false (by omega)
          have k3 : ¬ (X.length : Int) ≤ (ka s : Int) := by omega
          have k4 : ¬ (Y.length : Int) ≤ (kb s : Int) := by omega
          have k5 : (0 : Int) ≤ (ka s : Int) := by omega
          have k6 : (0 : Int) ≤ (kb s : Int) := by omega
          have k7 : (ka s : Int) < (P.length : Int) := by omega
          have k8 : (kb s : Int) < (P.length : Int) := by omega
          have k9 : (na s : Int) < (V.length : Int) := by omega
          have k10 : (nb s : Int) < (V.length : Int) := by omega
          have k11 : (0 : Int) ≤ (na s : Int) := by omega
          have k12 : (0 : Int) ≤ (nb s : Int) := by omega
          have k13 : (s : Int) < (A.length : Int) := by rw [HALn.out]; exact j1
          have k14 : (s : Int) < (B.length : Int) := by rw [HBLn.out]; exact j1
          have HF1 : Hid (∀ u, Below V1.heap.size V1 u → (u.cell? ⟨gs, ka s, none⟩ = some (.bool false) ∧ u.frozen? ⟨gs, ka s, none⟩ = false) ∧ (u.cell? ⟨gm, kb s, none⟩ = some (.bool false) ∧ u.frozen? ⟨gm, kb s, none⟩ = false) ∧ u.cell? ⟨B0, 0, none⟩ = some (.int .i64 (na s : Nat)) ∧ u.cell? ⟨B0, 1, none⟩ = some (.int .i64 (nb s : Nat))) := Lib.hid fun u hu => by
            have g1 : RowB encB 4 u gs (SN s) := Blk.below HRS.out hu (Blk.lt HRS.out)
            have g2 : RowB encB 4 u gm (MT s) := Blk.below HRM.out hu (Blk.lt HRM.out)
            have g3 := HBV.out.below hu HBV.out.lt
            refine ⟨⟨?_, Blk.frozen g1 _⟩, ⟨?_, Blk.frozen g2 _⟩, g3.cell 0, g3.cell 1⟩
            · have := g1.cellB (ka s) (by omega)
              rwa [hf1] at this
            · have := g2.cellB (kb s) (by omega)
              rwa [hf2] at this
          have HPX : Hid (∀ w, (binOp .neq 25 (.agg #[.int .i64 (na s : Nat), .int .i64 (nb s : Nat)]) (.agg #[.int .i64 (na s : Nat), .int .i64 (nb s : Nat)])).run Try.prog w = .ok (.bool false) w) := Lib.hid fun w => neq_pair _ _ w
          have hbu := HB1.out
          clear ha1 ha3 hb1 hb3 hf1 hf2 hl1 hl2 hkz
          generalize iAt V (na s) = va at *
          generalize iAt V (nb s) = vb at *
          generalize hka : ka s = k at *
          generalize hkb : kb s = l at *
          generalize hnas : na s = ta at *
          generalize hnbs : nb s = tb at *
          clear hka hkb hnas hnbs
          go_wp2_with fail
          rw [← HV1.out, ← HB0.out]
          clear x1 x2
          have hj0 : Below V1.heap.size V1 V1.drew := (Below.refl _ _).drew
          refine wp_region_late (S := fun u => Below V1.heap.size V1 u) (X := []) (by kernel_rfl) ?_
          refine wpAnyL_pureD (i := 0) 144 (.slice (some ⟨pb3, po3, none⟩) A.length d3) rfl rfl (by kernel_rfl) (by kernel_rfl) (by kernel_rfl) (fun _ _ _ h => h) (Or.inl ⟨by rfl, fun u _ => ?_⟩) ?_
          · go_simp
          try simp only [Act.put, List.setIfInBounds_toArray, List.set_cons_zero, List.set_cons_succ]
          refine wpAnyL_pureD (i := 1) 145 (.int .i64 s) rfl rfl (by kernel_rfl) (by kernel_rfl) (by kernel_rfl) (fun _ _ _ h => h) (Or.inl ⟨by rfl, fun u _ => ?_⟩) ?_
          · go_simp
          try simp only [Act.put, List.setIfInBounds_toArray, List.set_cons_zero, List.set_cons_succ]
          refine wpAnyL_pureD (i := 2) 146 (.pointer (some ⟨pb3, po3 + s, none⟩)) rfl rfl (by kernel_rfl) (by kernel_rfl) (by kernel_rfl) (fun _ _ _ h => h) (Or.inl ⟨by rfl, fun u _ => ?_⟩) ?_
          · go_simp
          try simp only [Act.put, List.setIfInBounds_toArray, List.set_cons_zero, List.set_cons_succ]
          refine wpAnyL_takeD (i := 3) 147 (.int .i64 (k : Nat)) rfl rfl (by kernel_rfl) (by kernel_rfl) (by kernel_rfl) (by kernel_rfl) (by kernel_rfl) (fun _ _ _ h => h) hj0 (Or.inl ⟨by rfl, fun u hu => ?_⟩) ?_
          · obtain ⟨t0, t1⟩ := HCAs.out u (HB1.out.trans (hu.mono HB1.out.size))
            go_simp
          try simp only [Act.put, List.setIfInBounds_toArray, List.set_cons_zero, List.set_cons_succ]
          refine wpAnyL_pureD (i := 4) 148 (.slice (some ⟨pb4, po4, none⟩) B.length d4) rfl rfl (by kernel_rfl) (by kernel_rfl) (by kernel_rfl) (fun _ _ _ h => h) (Or.inl ⟨by rfl, fun u _ => ?_⟩) ?_
          · go_simp
          try simp only [Act.put, List.setIfInBounds_toArray, List.set_cons_zero, List.set_cons_succ]
          refine wpAnyL_pureD (i := 5) 149 (.int .i64 s) rfl rfl (by kernel_rfl) (by kernel_rfl) (by kernel_rfl) (fun _ _ _ h => h) (Or.inl ⟨by rfl, fun u _ => ?_⟩) ?_
          · go_simp
          try simp only [Act.put, List.setIfInBounds_toArray, List.set_cons_zero, List.set_cons_succ]
          refine wpAnyL_pureD (i := 6) 150 (.pointer (some ⟨pb4, po4 + s, none⟩)) rfl rfl (by kernel_rfl) (by kernel_rfl) (by kernel_rfl) (fun _ _ _ h => h) (Or.inl ⟨by rfl, fun u _ => ?_⟩) ?_
          · go_simp
          try simp only [Act.put, List.setIfInBounds_toArray, List.set_cons_zero, List.set_cons_succ]
          refine wpAnyL_takeD (i := 7) 151 (.int .i64 (l : Nat)) rfl rfl (by kernel_rfl) (by kernel_rfl) (by kernel_rfl) (by kernel_rfl) (by kernel_rfl) (fun _ _ _ h => h) hj0 (Or.inl ⟨by rfl, fun u hu => ?_⟩) ?_
          · obtain ⟨t0, t1⟩ := HCAs.out u (HB1.out.trans (hu.mono HB1.out.size))
            go_simp
          try simp only [Act.put, List.setIfInBounds_toArray, List.set_cons_zero, List.set_cons_succ]
          refine wpAnyL_pureD (i := 8) 21 (.int .i64 (k : Nat)) rfl rfl (by kernel_rfl) (by kernel_rfl) (by kernel_rfl) (fun _ _ _ h => h) (Or.inl ⟨by rfl, fun u _ => ?_⟩) ?_
          · go_simp
          try simp only [Act.put, List.setIfInBounds_toArray, List.set_cons_zero, List.set_cons_succ]
          refine wpAnyL_pureD (i := 9) 22 (.int .i64 (l : Nat)) rfl rfl (by kernel_rfl) (by kernel_rfl) (by kernel_rfl) (fun _ _ _ h => h) (Or.inl ⟨by rfl, fun u _ => ?_⟩) ?_
          · go_simp
          try simp only [Act.put, List.setIfInBounds_toArray, List.set_cons_zero, List.set_cons_succ]
          refine wpAnyL_done (by kernel_rfl) ?_ _
          try simp only [Act.put, List.setIfInBounds_toArray, List.set_cons_zero, List.set_cons_succ]
          have hj1 : Below V1.heap.size V1 V1.drew.drew := hj0.drew
          go_wp2_with fail
          refine wp_region_late (S := fun u => Below V1.heap.size V1 u) (X := []) (by kernel_rfl) ?_
          refine wpAnyL_pureD (i := 0) 152 (.int .i64 (k : Nat)) rfl rfl (by kernel_rfl) (by kernel_rfl) (by kernel_rfl) (fun _ _ _ h => h) (Or.inl ⟨by rfl, fun u _ => ?_⟩) ?_
          · go_simp
          try simp only [Act.put, List.setIfInBounds_toArray, List.set_cons_zero, List.set_cons_succ]
          refine wpAnyL_pureD (i := 1) 153 (.bool false) rfl rfl (by kernel_rfl) (by kernel_rfl) (by kernel_rfl) (fun _ _ _ h => h) (Or.inl ⟨by rfl, fun u _ => ?_⟩) ?_
          · go_simp
          try simp only [Act.put, List.setIfInBounds_toArray, List.set_cons_zero, List.set_cons_succ]
          refine wpAnyL_pureD (i := 2) 154 (.bool false) rfl rfl (by kernel_rfl) (by kernel_rfl) (by kernel_rfl) (fun _ _ _ h => h) (Or.inl ⟨by rfl, fun u _ => ?_⟩) ?_
          · go_simp
          try simp only [Act.put, List.setIfInBounds_toArray, List.set_cons_zero, List.set_cons_succ]
          refine wpAnyL_pureD (i := 3) 155 (.int .i64 (k : Nat)) rfl rfl (by kernel_rfl) (by kernel_rfl) (by kernel_rfl) (fun _ _ _ h => h) (Or.inl ⟨by rfl, fun u _ => ?_⟩) ?_
          · go_simp
          try simp only [Act.put, List.setIfInBounds_toArray, List.set_cons_zero, List.set_cons_succ]
          refine wpAnyL_pureD (i := 4) 156 (.slice (some ⟨b6, o6, none⟩) X.length q2) rfl rfl (by kernel_rfl) (by kernel_rfl) (by kernel_rfl) (fun _ _ _ h => h) (Or.inl ⟨by rfl, fun u _ => ?_⟩) ?_
          · go_simp
          try simp only [Act.put, List.setIfInBounds_toArray, List.set_cons_zero, List.set_cons_succ]
          refine wpAnyL_pureD (i := 5) 157 (.int .i64 (X.length : Int)) rfl rfl (by kernel_rfl) (by kernel_rfl) (by kernel_rfl) (fun _ _ _ h => h) (Or.inl ⟨by rfl, fun u _ => ?_⟩) ?_
          · go_simp
          try simp only [Act.put, List.setIfInBounds_toArray, List.set_cons_zero, List.set_cons_succ]
          refine wpAnyL_pureD (i := 6) 158 (.bool false) rfl rfl (by kernel_rfl) (by kernel_rfl) (by kernel_rfl) (fun _ _ _ h => h) (Or.inl ⟨by rfl, fun u _ => ?_⟩) ?_
          · go_simp
          try simp only [Act.put, List.setIfInBounds_toArray, List.set_cons_zero, List.set_cons_succ]
          refine wpAnyL_pureD (i := 7) 159 (.bool false) rfl rfl (by kernel_rfl) (by kernel_rfl) (by kernel_rfl) (fun _ _ _ h => h) (Or.inl ⟨by rfl, fun u _ => ?_⟩) ?_
          · go_simp
          try simp only [Act.put, List.setIfInBounds_toArray, List.set_cons_zero, List.set_cons_succ]
          refine wpAnyL_pureD (i := 8) 160 (.bool false) rfl rfl (by kernel_rfl) (by kernel_rfl) (by kernel_rfl) (fun _ _ _ h => h) (Or.inl ⟨by rfl, fun u _ => ?_⟩) ?_
          · go_simp
          try simp only [Act.put, List.setIfInBounds_toArray, List.set_cons_zero, List.set_cons_succ]
          refine wpAnyL_pureD (i := 9) 161 (.int .i64 (l : Nat)) rfl rfl (by kernel_rfl) (by kernel_rfl) (by kernel_rfl) (fun _ _ _ h => h) (Or.inl ⟨by rfl, fun u _ => ?_⟩) ?_
          · go_simp
          try simp only [Act.put, List.setIfInBounds_toArray, List.set_cons_zero, List.set_cons_succ]
          refine wpAnyL_pureD (i := 10) 162 (.bool false) rfl rfl (by kernel_rfl) (by kernel_rfl) (by kernel_rfl) (fun _ _ _ h => h) (Or.inl ⟨by rfl, fun u _ => ?_⟩) ?_
          · go_simp
          try simp only [Act.put, List.setIfInBounds_toArray, List.set_cons_zero, List.set_cons_succ]
          refine wpAnyL_pureD (i := 11) 163 (.bool false) rfl rfl (by kernel_rfl) (by kernel_rfl) (by kernel_rfl) (fun _ _ _ h => h) (Or.inl ⟨by rfl, fun u _ => ?_⟩) ?_
          · go_simp
          try simp only [Act.put, List.setIfInBounds_toArray, List.set_cons_zero, List.set_cons_succ]
          refine wpAnyL_pureD (i := 12) 164 (.bool false) rfl rfl (by kernel_rfl) (by kernel_rfl) (by kernel_rfl) (fun _ _ _ h => h) (Or.inl ⟨by rfl, fun u _ => ?_⟩) ?_
          · go_simp
          try simp only [Act.put, List.setIfInBounds_toArray, List.set_cons_zero, List.set_cons_succ]
          refine wpAnyL_pureD (i := 13) 165 (.int .i64 (l : Nat)) rfl rfl (by kernel_rfl) (by kernel_rfl) (by kernel_rfl) (fun _ _ _ h => h) (Or.inl ⟨by rfl, fun u _ => ?_⟩) ?_
          · go_simp
          try simp only [Act.put, List.setIfInBounds_toArray, List.set_cons_zero, List.set_cons_succ]
          refine wpAnyL_pureD (i := 14) 166 (.slice (some ⟨b7, o7, none⟩) Y.length q3) rfl rfl (by kernel_rfl) (by kernel_rfl) (by kernel_rfl) (fun _ _ _ h => h) (Or.inl ⟨by rfl, fun u _ => ?_⟩) ?_
          · go_simp
          try simp only [Act.put, List.setIfInBounds_toArray, List.set_cons_zero, List.set_cons_succ]
          refine wpAnyL_pureD (i := 15) 167 (.int .i64 (Y.length : Int)) rfl rfl (by kernel_rfl) (by kernel_rfl) (by kernel_rfl) (fun _ _ _ h => h) (Or.inl ⟨by rfl, fun u _ => ?_⟩) ?_
          · go_simp
          try simp only [Act.put, List.setIfInBounds_toArray, List.set_cons_zero, List.set_cons_succ]
          refine wpAnyL_pureD (i := 16) 168 (.bool false) rfl rfl (by kernel_rfl) (by kernel_rfl) (by kernel_rfl) (fun _ _ _ h => h) (Or.inl ⟨by rfl, fun u _ => ?_⟩) ?_
          · go_simp
          try simp only [Act.put, List.setIfInBounds_toArray, List.set_cons_zero, List.set_cons_succ]
          refine wpAnyL_pureD (i := 17) 169 (.bool false) rfl rfl (by kernel_rfl) (by kernel_rfl) (by kernel_rfl) (fun _ _ _ h => h) (Or.inl ⟨by rfl, fun u _ => ?_⟩) ?_
          · go_simp
          try simp only [Act.put, List.setIfInBounds_toArray, List.set_cons_zero, List.set_cons_succ]
          refine wpAnyL_pureD (i := 18) 170 (.bool false) rfl rfl (by kernel_rfl) (by kernel_rfl) (by kernel_rfl) (fun _ _ _ h => h) (Or.inl ⟨by rfl, fun u _ => ?_⟩) ?_
          · go_simp
          try simp only [Act.put, List.setIfInBounds_toArray, List.set_cons_zero, List.set_cons_succ]
          refine wpAnyL_pureD (i := 19) 171 (.slice (some ⟨gs, 0, none⟩) P.length P.length) rfl rfl (by kernel_rfl) (by kernel_rfl) (by kernel_rfl) (fun _ _ _ h => h) (Or.inl ⟨by rfl, fun u _ => ?_⟩) ?_
          · go_simp
          try simp only [Act.put, List.setIfInBounds_toArray, List.set_cons_zero, List.set_cons_succ]
          refine wpAnyL_pureD (i := 20) 172 (.int .i64 (k : Nat)) rfl rfl (by kernel_rfl) (by kernel_rfl) (by kernel_rfl) (fun _ _ _ h => h) (Or.inl ⟨by rfl, fun u _ => ?_⟩) ?_
          · go_simp
          try simp only [Act.put, List.setIfInBounds_toArray, List.set_cons_zero, List.set_cons_succ]
          refine wpAnyL_pureD (i := 21) 173 (.pointer (some ⟨gs, k, none⟩)) rfl rfl (by kernel_rfl) (by kernel_rfl) (by kernel_rfl) (fun _ _ _ h => h) (Or.inl ⟨by rfl, fun u _ => ?_⟩) ?_
          · go_simp
          try simp only [Act.put, List.setIfInBounds_toArray, List.set_cons_zero, List.set_cons_succ]
          refine wpAnyL_takeD (i := 22) 174 (.bool false) rfl rfl (by kernel_rfl) (by kernel_rfl) (by kernel_rfl) (by kernel_rfl) (by kernel_rfl) (fun _ _ _ h => h) hj1 (Or.inl ⟨by rfl, fun u hu => ?_⟩) ?_
          · obtain ⟨⟨t0, -⟩, ⟨t1, -⟩, t2, t3⟩ := HF1.out u hu
            go_simp
          try simp only [Act.put, List.setIfInBounds_toArray, List.set_cons_zero, List.set_cons_succ]
          refine wpAnyL_pureD (i := 23) 175 (.bool false) rfl rfl (by kernel_rfl) (by kernel_rfl) (by kernel_rfl) (fun _ _ _ h => h) (Or.inl ⟨by rfl, fun u _ => ?_⟩) ?_
          · go_simp
          try simp only [Act.put, List.setIfInBounds_toArray, List.set_cons_zero, List.set_cons_succ]
          refine wpAnyL_pureD (i := 24) 176 (.bool false) rfl rfl (by kernel_rfl) (by kernel_rfl) (by kernel_rfl) (fun _ _ _ h => h) (Or.inl ⟨by rfl, fun u _ => ?_⟩) ?_
          · go_simp
          try simp only [Act.put, List.setIfInBounds_toArray, List.set_cons_zero, List.set_cons_succ]
          refine wpAnyL_pureD (i := 25) 177 (.slice (some ⟨gm, 0, none⟩) P.length P.length) rfl rfl (by kernel_rfl) (by kernel_rfl) (by kernel_rfl) (fun _ _ _ h => h) (Or.inl ⟨by rfl, fun u _ => ?_⟩) ?_
          · go_simp
          try simp only [Act.put, List.setIfInBounds_toArray, List.set_cons_zero, List.set_cons_succ]
          refine wpAnyL_pureD (i := 26) 178 (.int .i64 (l : Nat)) rfl rfl (by kernel_rfl) (by kernel_rfl) (by kernel_rfl) (fun _ _ _ h => h) (Or.inl ⟨by rfl, fun u _ => ?_⟩) ?_
          · go_simp
          try simp only [Act.put, List.setIfInBounds_toArray, List.set_cons_zero, List.set_cons_succ]
          refine wpAnyL_pureD (i := 27) 179 (.pointer (some ⟨gm, l, none⟩)) rfl rfl (by kernel_rfl) (by kernel_rfl) (by kernel_rfl) (fun _ _ _ h => h) (Or.inl ⟨by rfl, fun u _ => ?_⟩) ?_
          · go_simp
          try simp only [Act.put, List.setIfInBounds_toArray, List.set_cons_zero, List.set_cons_succ]
          refine wpAnyL_takeD (i := 28) 180 (.bool false) rfl rfl (by kernel_rfl) (by kernel_rfl) (by kernel_rfl) (by kernel_rfl) (by kernel_rfl) (fun _ _ _ h => h) hj1 (Or.inl ⟨by rfl, fun u hu => ?_⟩) ?_
          · obtain ⟨⟨t0, -⟩, ⟨t1, -⟩, t2, t3⟩ := HF1.out u hu
            go_simp
          try simp only [Act.put, List.setIfInBounds_toArray, List.set_cons_zero, List.set_cons_succ]
          refine wpAnyL_pureD (i := 29) 181 (.bool false) rfl rfl (by kernel_rfl) (by kernel_rfl) (by kernel_rfl) (fun _ _ _ h => h) (Or.inl ⟨by rfl, fun u _ => ?_⟩) ?_
          · go_simp
          try simp only [Act.put, List.setIfInBounds_toArray, List.set_cons_zero, List.set_cons_succ]
          refine wpAnyL_pureD (i := 30) 182 (.bool false) rfl rfl (by kernel_rfl) (by kernel_rfl) (by kernel_rfl) (fun _ _ _ h => h) (Or.inl ⟨by rfl, fun u _ => ?_⟩) ?_
          · go_simp
          try simp only [Act.put, List.setIfInBounds_toArray, List.set_cons_zero, List.set_cons_succ]
          refine wpAnyL_pureD (i := 31) 183 (.slice (some ⟨b6, o6, none⟩) X.length q2) rfl rfl (by kernel_rfl) (by kernel_rfl) (by kernel_rfl) (fun _ _ _ h => h) (Or.inl ⟨by rfl, fun u _ => ?_⟩) ?_
          · go_simp
          try simp only [Act.put, List.setIfInBounds_toArray, List.set_cons_zero, List.set_cons_succ]
          refine wpAnyL_pureD (i := 32) 184 (.int .i64 (k : Nat)) rfl rfl (by kernel_rfl) (by kernel_rfl) (by kernel_rfl) (fun _ _ _ h => h) (Or.inl ⟨by rfl, fun u _ => ?_⟩) ?_
          · go_simp
          try simp only [Act.put, List.setIfInBounds_toArray, List.set_cons_zero, List.set_cons_succ]
          refine wpAnyL_pureD (i := 33) 185 (.pointer (some ⟨b6, o6 + k * 2, none⟩)) rfl rfl (by kernel_rfl) (by kernel_rfl) (by kernel_rfl) (fun _ _ _ h => h) (Or.inl ⟨by rfl, fun u _ => ?_⟩) ?_
          · go_simp
          try simp only [Act.put, List.setIfInBounds_toArray, List.set_cons_zero, List.set_cons_succ]
          refine wpAnyL_takeD (i := 34) 186 (.agg #[.int .i64 (ta : Nat), .int .i64 (tb : Nat)]) rfl rfl (by kernel_rfl) (by kernel_rfl) (by kernel_rfl) (by kernel_rfl) (by kernel_rfl) (fun _ _ _ h => h) hj1 (Or.inl ⟨by rfl, fun u hu => ?_⟩) ?_
          · obtain ⟨t4, t5⟩ := HCX.out u (HB1.out.trans (hu.mono HB1.out.size))
            obtain ⟨⟨t0, -⟩, ⟨t1, -⟩, t2, t3⟩ := HF1.out u hu
            go_simp
          try simp only [Act.put, List.setIfInBounds_toArray, List.set_cons_zero, List.set_cons_succ]
          refine wpAnyL_takeD (i := 35) 187 (.agg #[.int .i64 (ta : Nat), .int .i64 (tb : Nat)]) rfl rfl (by kernel_rfl) (by kernel_rfl) (by kernel_rfl) (by kernel_rfl) (by kernel_rfl) (fun _ _ _ h => h) hj1 (Or.inl ⟨by rfl, fun u hu => ?_⟩) ?_
          · obtain ⟨t4, t5⟩ := HCX.out u (HB1.out.trans (hu.mono HB1.out.size))
            obtain ⟨⟨t0, -⟩, ⟨t1, -⟩, t2, t3⟩ := HF1.out u hu
            go_simp
          try simp only [Act.put, List.setIfInBounds_toArray, List.set_cons_zero, List.set_cons_succ]
          refine wpAnyL_pureD (i := 36) 188 (.bool false) rfl rfl (by kernel_rfl) (by kernel_rfl) (by kernel_rfl) (fun _ _ _ h => h) (Or.inl ⟨by rfl, fun u _ => ?_⟩) ?_
          · have hn := HPX.out
            go_simp
            try exact hn _
          try simp only [Act.put, List.setIfInBounds_toArray, List.set_cons_zero, List.set_cons_succ]
          refine wpAnyL_pureD (i := 37) 189 (.bool false) rfl rfl (by kernel_rfl) (by kernel_rfl) (by kernel_rfl) (fun _ _ _ h => h) (Or.inl ⟨by rfl, fun u _ => ?_⟩) ?_
          · go_simp
          try simp only [Act.put, List.setIfInBounds_toArray, List.set_cons_zero, List.set_cons_succ]
          refine wpAnyL_done (by kernel_rfl) ?_ _
          try simp only [Act.put, List.setIfInBounds_toArray, List.set_cons_zero, List.set_cons_succ]
          obtain ⟨U1, hU1⟩ : ∃ u, u = V1.drew.drew := ⟨_, rfl⟩
          have hj2 : Below V1.heap.size V1 U1 := by rw [hU1]; exact hj1
          rw [← hU1]
          clear hU1 hj0 hj1 hbu
          have q1 : RowB encB 4 U1 gs (SN s) := Blk.below HRS.out hj2 (Blk.lt HRS.out)
          have q2 : RowB encB 4 U1 gm (MT s) := Blk.below HRM.out hj2 (Blk.lt HRM.out)
          have q3 : RowB encB 4 (U1.setCell ⟨gs, k, none⟩ (.bool true)) gs ((SN s).set k true) := q1.setB k true
          have q4 : RowB encB 4 (U1.setCell ⟨gs, k, none⟩ (.bool true)) gm (MT s) := Blk.far q2 (p := ⟨gs, k, none⟩) (Ne.symm HNE.out) _
          have q5 := Blk.far q3 (p := ⟨gm, l, none⟩) HNE.out (.bool true)
          have q6 := q4.setB l true
          have q7 := ((HBV.out.below hj2 HBV.out.lt).far (p := ⟨gs, k, none⟩) (by show B0 ≠ gs; have := HLG.out; omega) (.bool true)).far (p := ⟨gm, l, none⟩) (by show B0 ≠ gm; have := HLG.out; omega) (.bool true)
          have q8 : Below U.heap.size U ((U1.setCell ⟨gs, k, none⟩ (.bool true)).setCell ⟨gm, l, none⟩ (.bool true)) := ((HB1.out.trans (hj2.mono HB1.out.size)).setCell (p := ⟨gs, k, none⟩) HBs.out _).setCell (p := ⟨gm, l, none⟩) HBm.out _
          obtain ⟨⟨y1, y2⟩, -, -, -⟩ := HF1.out U1 hj2
          have y3 := q4.cellB l (by have := HLL.out; have := HKZ.out; omega)
          rw [HFF.out.2] at y3
          have y4 := Blk.frozen q4 l
          obtain ⟨U2, hU2⟩ : ∃ u, u = (U1.setCell ⟨gs, k, none⟩ (.bool true)).setCell ⟨gm, l, none⟩ (.bool true) := ⟨_, rfl⟩
          have Q5 : Hid (RowB encB 4 U2 gs (SN (s + 1))) := Lib.hid (by rw [hU2, HSSn.out.1]; exact q5)
          have Q6 : Hid (RowB encB 4 U2 gm (MT (s + 1))) := Lib.hid (by rw [hU2, HSSn.out.2]; exact q6)
          have HBU2 : Hid (Below U.heap.size U U2) := Lib.hid (by rw [hU2]; exact q8)
          have HF2 : Hid (∀ u, Below U2.heap.size U2 u → u.cell? ⟨B0, 0, none⟩ = some (.int .i64 (ta : Nat)) ∧ u.cell? ⟨B0, 1, none⟩ = some (.int .i64 (tb : Nat)) ∧ u.cell? ⟨pb5, po5 + ta, none⟩ = some (.int .i64 va) ∧ u.cell? ⟨pb5, po5 + tb, none⟩ = some (.int .i64 vb)) := Lib.hid fun u hu => by
            rw [← hU2] at q7
            exact ⟨(q7.below hu q7.lt).cell 0, (q7.below hu q7.lt).cell 1, HCVs.out u (HBU2.out.trans (hu.mono HBU2.out.size))⟩
          have HU2 := Lib.hid hU2
          clear q1 q2 q3 q4 q5 q6 q7 q8 hU2 hj2
          go_wp2_with fail
          rw [← HU2.out]
          clear y1 y2 y3 y4
          have hj3 : Below U2.heap.size U2 U2.drew := (Below.refl _ _).drew
          refine wp_region_late (S := fun u => Below U2.heap.size U2 u) (X := []) (by kernel_rfl) ?_
          refine wpAnyL_pureD (i := 0) 196 (.slice (some ⟨pb5, po5, none⟩) V.length d5) rfl rfl (by kernel_rfl) (by kernel_rfl) (by kernel_rfl) (fun _ _ _ h => h) (Or.inl ⟨by rfl, fun u _ => ?_⟩) ?_
          · go_simp
          try simp only [Act.put, List.setIfInBounds_toArray, List.set_cons_zero, List.set_cons_succ]
          refine wpAnyL_pureD (i := 1) 197 (.pointer (some ⟨B0, 0, none⟩)) rfl rfl (by kernel_rfl) (by kernel_rfl) (by kernel_rfl) (fun _ _ _ h => h) (Or.inl ⟨by rfl, fun u _ => ?_⟩) ?_
          · go_simp
          try simp only [Act.put, List.setIfInBounds_toArray, List.set_cons_zero, List.set_cons_succ]
          refine wpAnyL_takeD (i := 2) 198 (.int .i64 (ta : Nat)) rfl rfl (by kernel_rfl) (by kernel_rfl) (by kernel_rfl) (by kernel_rfl) (by kernel_rfl) (fun _ _ _ h => h) hj3 (Or.inl ⟨by rfl, fun u hu => ?_⟩) ?_
          · obtain ⟨t0, t1, t2, t3⟩ := HF2.out u hu
            go_simp
          try simp only [Act.put, List.setIfInBounds_toArray, List.set_cons_zero, List.set_cons_succ]
          refine wpAnyL_pureD (i := 3) 199 (.pointer (some ⟨pb5, po5 + ta, none⟩)) rfl rfl (by kernel_rfl) (by kernel_rfl) (by kernel_rfl) (fun _ _ _ h => h) (Or.inl ⟨by rfl, fun u _ => ?_⟩) ?_
          · go_simp
          try simp only [Act.put, List.setIfInBounds_toArray, List.set_cons_zero, List.set_cons_succ]
          refine wpAnyL_takeD (i := 4) 200 (.int .i64 va) rfl rfl (by kernel_rfl) (by kernel_rfl) (by kernel_rfl) (by kernel_rfl) (by kernel_rfl) (fun _ _ _ h => h) hj3 (Or.inl ⟨by rfl, fun u hu => ?_⟩) ?_
          · obtain ⟨t0, t1, t2, t3⟩ := HF2.out u hu
            go_simp
          try simp only [Act.put, List.setIfInBounds_toArray, List.set_cons_zero, List.set_cons_succ]
          refine wpAnyL_pureD (i := 5) 201 (.slice (some ⟨pb5, po5, none⟩) V.length d5) rfl rfl (by kernel_rfl) (by kernel_rfl) (by kernel_rfl) (fun _ _ _ h => h) (Or.inl ⟨by rfl, fun u _ => ?_⟩) ?_
          · go_simp
          try simp only [Act.put, List.setIfInBounds_toArray, List.set_cons_zero, List.set_cons_succ]
          refine wpAnyL_pureD (i := 6) 202 (.pointer (some ⟨B0, 1, none⟩)) rfl rfl (by kernel_rfl) (by kernel_rfl) (by kernel_rfl) (fun _ _ _ h => h) (Or.inl ⟨by rfl, fun u _ => ?_⟩) ?_
          · go_simp
          try simp only [Act.put, List.setIfInBounds_toArray, List.set_cons_zero, List.set_cons_succ]
          refine wpAnyL_takeD (i := 7) 203 (.int .i64 (tb : Nat)) rfl rfl (by kernel_rfl) (by kernel_rfl) (by kernel_rfl) (by kernel_rfl) (by kernel_rfl) (fun _ _ _ h => h) hj3 (Or.inl ⟨by rfl, fun u hu => ?_⟩) ?_
          · obtain ⟨t0, t1, t2, t3⟩ := HF2.out u hu
            go_simp
          try simp only [Act.put, List.setIfInBounds_toArray, List.set_cons_zero, List.set_cons_succ]
          refine wpAnyL_pureD (i := 8) 204 (.pointer (some ⟨pb5, po5 + tb, none⟩)) rfl rfl (by kernel_rfl) (by kernel_rfl) (by kernel_rfl) (fun _ _ _ h => h) (Or.inl ⟨by rfl, fun u _ => ?_⟩) ?_
          · go_simp
          try simp only [Act.put, List.setIfInBounds_toArray, List.set_cons_zero, List.set_cons_succ]
          refine wpAnyL_takeD (i := 9) 205 (.int .i64 vb) rfl rfl (by kernel_rfl) (by kernel_rfl) (by kernel_rfl) (by kernel_rfl) (by kernel_rfl) (fun _ _ _ h => h) hj3 (Or.inl ⟨by rfl, fun u hu => ?_⟩) ?_
          · obtain ⟨t0, t1, t2, t3⟩ := HF2.out u hu
            go_simp
          try simp only [Act.put, List.setIfInBounds_toArray, List.set_cons_zero, List.set_cons_succ]
          refine wpAnyL_pureD (i := 10) 23 (.int .i64 va) rfl rfl (by kernel_rfl) (by kernel_rfl) (by kernel_rfl) (fun _ _ _ h => h) (Or.inl ⟨by rfl, fun u _ => ?_⟩) ?_
          · go_simp
          try simp only [Act.put, List.setIfInBounds_toArray, List.set_cons_zero, List.set_cons_succ]
          refine wpAnyL_pureD (i := 11) 24 (.int .i64 vb) rfl rfl (by kernel_rfl) (by kernel_rfl) (by kernel_rfl) (fun _ _ _ h => h) (Or.inl ⟨by rfl, fun u _ => ?_⟩) ?_
          · go_simp
          try simp only [Act.put, List.setIfInBounds_toArray, List.set_cons_zero, List.set_cons_succ]
          refine wpAnyL_done (by kernel_rfl) ?_ _
          try simp only [Act.put, List.setIfInBounds_toArray, List.set_cons_zero, List.set_cons_succ]
          have HB3 : Hid (Below U.heap.size U U2.drew) := Lib.hid HBU2.out.drew
          obtain ⟨y1, y2⟩ := HCY.out U2.drew HB3.out
          have hn : ∀ w, (binOp .neq 25 (.agg #[.int .i64 (min va vb), .int .i64 (max va vb)]) (.agg #[.int .i64 (min va vb), .int .i64 (max va vb)])).run Try.prog w = .ok (.bool false) w := fun w => neq_pair _ _ w
          clear hj3
          go_wp2_with fail
          go_roundw
          case rel => exact ⟨s + 1, by omega, by go_num, Blk.below Q5.out (Below.refl _ _).drew (Blk.lt Q5.out), Blk.below Q6.out (Below.refl _ _).drew (Blk.lt Q6.out), HB3.out⟩
          case measure => simp [intOf]; omega
      · obtain rfl : s = P.length := by omega
        have j1 : ¬ (P.length : Int) < (P.length : Int) := by omega
        have HEND := Lib.hid (HEND0.out.trans (hb.mono HEND0.out.size))
        have hkb := hb
        clear hr1 hr2 hb
        go_wp2_with fail
        refine (HA _).mono ?_
        rintro r wz ⟨rfl, hbz⟩
        have HEND2 := Lib.hid (HEND.out.trans (hbz.mono HEND.out.size))
        clear hbz hkb
        go_wp2
        go_ret
        exact ⟨rfl, HEND2.out⟩
end Go.Proofs.Ytndjjafpdiehdaa
