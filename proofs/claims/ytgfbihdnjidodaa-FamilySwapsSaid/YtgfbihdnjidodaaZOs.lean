/- The order of sizes; the spanning trees of wheels. -/
import Derived.Test.YtgfbihdnjidodaaQ18
namespace Go.Proofs.Ytgfbihdnjidodaa
open Go.RowKit Go.Shelf Go.Proofs.Gr
attribute [local go_sem] Oper.semAt_some

/-- What Trees tells of right sizes. -/
def trK (kind : Nat) (L : List Int) : Int := prodI (cycM kind L) (cycM kind L).length
def trOK (kind : Nat) (L : List Int) : Bool := decide (cycE kind L = 0) && okP (cycM kind L)
def swOK (a b c : Int) : Bool := trOK 8 [a, b, c] && trOK 8 [c, a, b] && trOK 6 [a, b] && trOK 6 [b, a] && trOK 5 [a] && trOK 5 [a + 1] && trOK 5 [a + 2] && decide (cycE 8 [a, b, c] = 0) && decide (cycE 8 [b, a, c] = 0) && decide (trK 8 [a, b, c] = trK 8 [c, a, b]) && decide (cycM 8 [a, b, c] = cycM 8 [b, a, c]) && decide (trK 6 [a, b] = trK 6 [b, a]) && decide (0 ≤ trK 5 [a] ∧ trK 5 [a] ≤ 100000 ∧ 0 ≤ trK 5 [a + 1] ∧ trK 5 [a + 1] ≤ 100000 ∧ trK 5 [a + 2] = 3 * trK 5 [a + 1] - trK 5 [a] + 2)
set_option maxRecDepth 100000 in
theorem sw_all : ∀ p q r : Fin 4, swOK (1 + (p.1 : Int)) (1 + (q.1 : Int)) (1 + (r.1 : Int)) = true := by decide +kernel
theorem conT (kind : Nat) (L : List Int) (hk : kind ≤ 8) (hL : L.length ≤ 1000000) (h : trOK kind L = true) (z : Int) (hz : trK kind L = z) (a : Option Addr) (cap : Nat) (w : World) (hh : IsAt w a L) :
    Calls Try.prog 18 #[.int .i64 kind, .slice a L.length cap] w (fun e x => e = .returned (.tuple #[.int .i64 z, .int .i64 0]) ∧ Below w.heap.size w x) := by
  unfold trOK at h
  simp only [Bool.and_eq_true, decide_eq_true_eq] at h
  exact conTr kind L z hk hL h.1 h.2 hz a cap w hh
set_option maxHeartbeats 12800000 in
set_option maxRecDepth 100000 in
theorem swaps_walk (k m n a b c : Int) (p q r : Nat) (h0 : 0 ≤ k) (h1 : k ≤ 255) (h2 : 0 ≤ m) (h3 : m ≤ 255) (h4 : 0 ≤ n) (h5 : n ≤ 255) (tk : k.tmod 4 = (p : Int)) (tm : m.tmod 4 = (q : Int)) (tn : n.tmod 4 = (r : Int)) (ea : 1 + (p : Int) = a) (eb : 1 + (q : Int) = b) (ec : 1 + (r : Int) = c) (hp : p < 4) (hq : q < 4) (hr : r < 4) (M : List Int) (hM : M.length ≤ 100000) (zt zb w0 w1 w2 : Int)
    (ok1 : trOK 8 [a, b, c] = true) (ok2 : trOK 8 [c, a, b] = true) (ok3 : trOK 6 [a, b] = true) (ok4 : trOK 6 [b, a] = true) (q1 : trK 8 [a, b, c] = zt) (q2 : trK 8 [c, a, b] = zt) (q3 : trK 6 [a, b] = zb) (q4 : trK 6 [b, a] = zb) (cm1 : cycM 8 [a, b, c] = M) (cm2 : cycM 8 [b, a, c] = M) (ce1 : cycE 8 [a, b, c] = 0) (ce2 : cycE 8 [b, a, c] = 0)
    (wk : ∀ i : Nat, i < 3 → trOK 5 [a + (i : Int)] = true) (wz : ∀ i : Nat, i < 3 → trK 5 [a + (i : Int)] = (if i = 0 then w0 else if i = 1 then w1 else w2)) (hw0 : 0 ≤ w0 ∧ w0 ≤ 100000) (hw1 : 0 ≤ w1 ∧ w1 ≤ 100000) (hw : w2 = 3 * w1 - w0 + 2)
    (w : World) : Calls Try.prog 8 #[.int .u8 k, .int .u8 m, .int .u8 n] w (fun e x => e = .returned (.bool true) ∧ Below w.heap.size w x) := by
  have HA := Lib.hid (fun w => awakeF_any w)
  have HML := Lib.hid hM
  have OK1 := Lib.hid ok1
  have OK2 := Lib.hid ok2
  have OK3 := Lib.hid ok3
  have OK4 := Lib.hid ok4
  have EQ1 := Lib.hid q1
  have EQ2 := Lib.hid q2
  have EQ3 := Lib.hid q3
  have EQ4 := Lib.hid q4
  have CM1 := Lib.hid cm1
  have CM2 := Lib.hid cm2
  have CE1 := Lib.hid ce1
  have CE2 := Lib.hid ce2
  have HWK := Lib.hid wk
  obtain ⟨WV, hWV⟩ : ∃ WV : Nat → Int, WV = fun i => if i = 0 then w0 else if i = 1 then w1 else w2 := ⟨_, rfl⟩
  have HWZ : Hid (∀ i : Nat, i < 3 → trK 5 [a + (i : Int)] = WV i) := Lib.hid (fun i hi => by rw [hWV]; exact wz i hi)
  obtain ⟨WT, hWT⟩ : ∃ WT : Nat → Array Value, WT = fun i => #[.int .i64 (if 0 < i then w0 else 0), .int .i64 (if 1 < i then w1 else 0), .int .i64 (if 2 < i then w2 else 0)] := ⟨_, rfl⟩
  have HW0 : Hid (WT 0 = #[.int .i64 0, .int .i64 0, .int .i64 0]) := Lib.hid (by rw [hWT]; rfl)
  have HWL : Hid (∀ i : Nat, i < 3 → (WT i)[i]? = some (.int .i64 0)) := Lib.hid (fun i hi => by
    have h9 : i = 0 ∨ i = 1 ∨ i = 2 := by omega
    rw [hWT]
    rcases h9 with rfl | rfl | rfl <;> rfl)
  have HWS : Hid (∀ i : Nat, i < 3 → WT (i + 1) = (WT i).setIfInBounds i (.int .i64 (WV i))) := Lib.hid (fun i hi => by
    have h9 : i = 0 ∨ i = 1 ∨ i = 2 := by omega
    rw [hWT, hWV]
    rcases h9 with rfl | rfl | rfl <;> rfl)
  have HD0 : Hid ((WT 3)[0]? = some (.int .i64 w0)) := Lib.hid (by rw [hWT]; rfl)
  have HD1 : Hid ((WT 3)[1]? = some (.int .i64 w1)) := Lib.hid (by rw [hWT]; rfl)
  have HD2 : Hid ((WT 3)[2]? = some (.int .i64 w2)) := Lib.hid (by rw [hWT]; rfl)
  have f1 : IntKind.i64.wrap (3 * w1) = 3 * w1 := IntWalk.i64_in _ (by omega)
  have f2 : IntKind.i64.wrap (3 * w1 - w0) = 3 * w1 - w0 := IntWalk.i64_in _ (by omega)
  have f3 : IntKind.i64.wrap (3 * w1 - w0 + 2) = w2 := by rw [hw]; exact IntWalk.i64_in _ (by omega)
  have ea2 : IntKind.i64.wrap a = a := IntWalk.i64_in _ (by omega)
  have eb2 : IntKind.i64.wrap b = b := IntWalk.i64_in _ (by omega)
  have ec2 : IntKind.i64.wrap c = c := IntWalk.i64_in _ (by omega)
  clear hM ok1 ok2 ok3 ok4 q1 q2 q3 q4 cm1 cm2 ce1 ce2 wk wz hWV hWT hw hw0 hw1
  go_enter Try.func8, Try.ntmps8
  obtain ⟨Y1, hY1⟩ : ∃ Y, Y = w.alloc (Obj.cells #[.int .i64 a, .int .i64 b, .int .i64 c] 3) := ⟨_, rfl⟩
  have hI1 : IsAt Y1 (some ⟨w.heap.size, 0, none⟩) [a, b, c] := by rw [hY1]; exact RowAt.of_blkF (k := 1) (enc := encI) encI_len (Blk.new _ _ _) rfl
  have hB1 : Below w.heap.size w Y1 := by rw [hY1]; exact (Below.refl _ _).alloc (Nat.le_refl _) _
  have HC1 : Hid (Calls Try.prog 18 #[.int .i64 8, .slice (some ⟨w.heap.size, 0, none⟩) 3 3] Y1 (fun e x => e = .returned (.tuple #[.int .i64 zt, .int .i64 0]) ∧ Below Y1.heap.size Y1 x)) := Lib.hid (conT 8 [a, b, c] (by omega) (by simp) OK1.out zt EQ1.out (some ⟨w.heap.size, 0, none⟩) 3 Y1 hI1)
  have HY1 := Lib.hid hY1
  have HBY1 : Hid (Below w.heap.size w Y1) := Lib.hid (hB1)
  clear hY1 hI1 hB1
  go_wp2_with fail
  rw [← HY1.out]
  refine HC1.out.mono ?_
  rintro e x1 ⟨rfl, hb1⟩
  have HB_x1 := Lib.hid (HBY1.out.trans (hb1.mono HBY1.out.size))
  clear hb1
  obtain ⟨Y2, hY2⟩ : ∃ Y, Y = x1.alloc (Obj.cells #[.int .i64 c, .int .i64 a, .int .i64 b] 3) := ⟨_, rfl⟩
  have hI2 : IsAt Y2 (some ⟨x1.heap.size, 0, none⟩) [c, a, b] := by rw [hY2]; exact RowAt.of_blkF (k := 1) (enc := encI) encI_len (Blk.new _ _ _) rfl
  have hB2 : Below x1.heap.size x1 Y2 := by rw [hY2]; exact (Below.refl _ _).alloc (Nat.le_refl _) _
  have HC2 : Hid (Calls Try.prog 18 #[.int .i64 8, .slice (some ⟨x1.heap.size, 0, none⟩) 3 3] Y2 (fun e x => e = .returned (.tuple #[.int .i64 zt, .int .i64 0]) ∧ Below Y2.heap.size Y2 x)) := Lib.hid (conT 8 [c, a, b] (by omega) (by simp) OK2.out zt EQ2.out (some ⟨x1.heap.size, 0, none⟩) 3 Y2 hI2)
  have HY2 := Lib.hid hY2
  have HBY2 : Hid (Below w.heap.size w Y2) := Lib.hid (HB_x1.out.trans (hB2.mono HB_x1.out.size))
  clear hY2 hI2 hB2
  go_wp2_with fail
  rw [← HY2.out]
  refine HC2.out.mono ?_
  rintro e x2 ⟨rfl, hb2⟩
  have HB_x2 := Lib.hid (HBY2.out.trans (hb2.mono HBY2.out.size))
  clear hb2
  obtain ⟨Y3, hY3⟩ : ∃ Y, Y = x2.alloc (Obj.cells #[.int .i64 a, .int .i64 b, .int .i64 c] 3) := ⟨_, rfl⟩
  have hI3 : IsAt Y3 (some ⟨x2.heap.size, 0, none⟩) [a, b, c] := by rw [hY3]; exact RowAt.of_blkF (k := 1) (enc := encI) encI_len (Blk.new _ _ _) rfl
  have hB3 : Below x2.heap.size x2 Y3 := by rw [hY3]; exact (Below.refl _ _).alloc (Nat.le_refl _) _
  have HC3 : Hid (Calls Try.prog 22 #[.int .i64 8, .slice (some ⟨x2.heap.size, 0, none⟩) 3 3] Y3 (fun e x => ∃ a c, e = .returned (.tuple #[.slice a M.length c, .int .i64 0]) ∧ IsAt x a M ∧ Below Y3.heap.size Y3 x)) := Lib.hid (conCy 8 [a, b, c] M (by omega) (by simp) CM1.out CE1.out (some ⟨x2.heap.size, 0, none⟩) 3 Y3 hI3)
  have HY3 := Lib.hid hY3
  have HBY3 : Hid (Below w.heap.size w Y3) := Lib.hid (HB_x2.out.trans (hB3.mono HB_x2.out.size))
  clear hY3 hI3 hB3
  go_wp2_with fail
  rw [← HY3.out]
  refine HC3.out.mono ?_
  rintro e x3 ⟨aa3, cc3, rfl, hm3, hb3⟩
  have HB_x3 := Lib.hid (HBY3.out.trans (hb3.mono HBY3.out.size))
  have M3_x3 := Lib.hid hm3
  clear hb3 hm3
  obtain ⟨Y4, hY4⟩ : ∃ Y, Y = x3.alloc (Obj.cells #[.int .i64 b, .int .i64 a, .int .i64 c] 3) := ⟨_, rfl⟩
  have hI4 : IsAt Y4 (some ⟨x3.heap.size, 0, none⟩) [b, a, c] := by rw [hY4]; exact RowAt.of_blkF (k := 1) (enc := encI) encI_len (Blk.new _ _ _) rfl
  have hB4 : Below x3.heap.size x3 Y4 := by rw [hY4]; exact (Below.refl _ _).alloc (Nat.le_refl _) _
  have HC4 : Hid (Calls Try.prog 22 #[.int .i64 8, .slice (some ⟨x3.heap.size, 0, none⟩) 3 3] Y4 (fun e x => ∃ a c, e = .returned (.tuple #[.slice a M.length c, .int .i64 0]) ∧ IsAt x a M ∧ Below Y4.heap.size Y4 x)) := Lib.hid (conCy 8 [b, a, c] M (by omega) (by simp) CM2.out CE2.out (some ⟨x3.heap.size, 0, none⟩) 3 Y4 hI4)
  have HY4 := Lib.hid hY4
  have HBY4 : Hid (Below w.heap.size w Y4) := Lib.hid (HB_x3.out.trans (hB4.mono HB_x3.out.size))
  have M3_Y4 := Lib.hid (M3_x3.out.keep hB4)
  clear hY4 hI4 hB4
  go_wp2_with fail
  rw [← HY4.out]
  refine HC4.out.mono ?_
  rintro e x4 ⟨aa4, cc4, rfl, hm4, hb4⟩
  have HB_x4 := Lib.hid (HBY4.out.trans (hb4.mono HBY4.out.size))
  have M3_x4 := Lib.hid (M3_Y4.out.keep hb4)
  have M4_x4 := Lib.hid hm4
  clear hb4 hm4
  obtain ⟨Y5, hY5⟩ : ∃ Y, Y = x4.alloc (Obj.cells #[.int .i64 a, .int .i64 b] 3) := ⟨_, rfl⟩
  have hI5 : IsAt Y5 (some ⟨x4.heap.size, 0, none⟩) [a, b] := by rw [hY5]; exact RowAt.of_blkF (k := 1) (enc := encI) encI_len (Blk.new _ _ _) rfl
  have hB5 : Below x4.heap.size x4 Y5 := by rw [hY5]; exact (Below.refl _ _).alloc (Nat.le_refl _) _
  have HC5 : Hid (Calls Try.prog 18 #[.int .i64 6, .slice (some ⟨x4.heap.size, 0, none⟩) 2 2] Y5 (fun e x => e = .returned (.tuple #[.int .i64 zb, .int .i64 0]) ∧ Below Y5.heap.size Y5 x)) := Lib.hid (conT 6 [a, b] (by omega) (by simp) OK3.out zb EQ3.out (some ⟨x4.heap.size, 0, none⟩) 2 Y5 hI5)
  have HY5 := Lib.hid hY5
  have HBY5 : Hid (Below w.heap.size w Y5) := Lib.hid (HB_x4.out.trans (hB5.mono HB_x4.out.size))
  have M3_Y5 := Lib.hid (M3_x4.out.keep hB5)
  have M4_Y5 := Lib.hid (M4_x4.out.keep hB5)
  clear hY5 hI5 hB5
  go_wp2_with fail
  rw [← HY5.out]
  refine HC5.out.mono ?_
  rintro e x5 ⟨rfl, hb5⟩
  have HB_x5 := Lib.hid (HBY5.out.trans (hb5.mono HBY5.out.size))
  have M3_x5 := Lib.hid (M3_Y5.out.keep hb5)
  have M4_x5 := Lib.hid (M4_Y5.out.keep hb5)
  clear hb5
  obtain ⟨Y6, hY6⟩ : ∃ Y, Y = x5.alloc (Obj.cells #[.int .i64 b, .int .i64 a] 3) := ⟨_, rfl⟩
  have hI6 : IsAt Y6 (some ⟨x5.heap.size, 0, none⟩) [b, a] := by rw [hY6]; exact RowAt.of_blkF (k := 1) (enc := encI) encI_len (Blk.new _ _ _) rfl
  have hB6 : Below x5.heap.size x5 Y6 := by rw [hY6]; exact (Below.refl _ _).alloc (Nat.le_refl _) _
  have HC6 : Hid (Calls Try.prog 18 #[.int .i64 6, .slice (some ⟨x5.heap.size, 0, none⟩) 2 2] Y6 (fun e x => e = .returned (.tuple #[.int .i64 zb, .int .i64 0]) ∧ Below Y6.heap.size Y6 x)) := Lib.hid (conT 6 [b, a] (by omega) (by simp) OK4.out zb EQ4.out (some ⟨x5.heap.size, 0, none⟩) 2 Y6 hI6)
  have HY6 := Lib.hid hY6
  have HBY6 : Hid (Below w.heap.size w Y6) := Lib.hid (HB_x5.out.trans (hB6.mono HB_x5.out.size))
  have M3_Y6 := Lib.hid (M3_x5.out.keep hB6)
  have M4_Y6 := Lib.hid (M4_x5.out.keep hB6)
  clear hY6 hI6 hB6
  go_wp2_with fail
  rw [← HY6.out]
  refine HC6.out.mono ?_
  rintro e x6 ⟨rfl, hb6⟩
  have HB_x6 := Lib.hid (HBY6.out.trans (hb6.mono HBY6.out.size))
  have M3_x6 := Lib.hid (M3_Y6.out.keep hb6)
  have M4_x6 := Lib.hid (M4_Y6.out.keep hb6)
  clear hb6
  have HEQ := Lib.hid (equalI_true aa3 aa4 cc3 cc4 M HML.out x6 M3_x6.out M4_x6.out)
  go_wp2_with fail
  refine HEQ.out.mono ?_
  rintro e u1 ⟨rfl, hr1⟩
  have HB_u1 := Lib.hid (HB_x6.out.trans (hr1.mono HB_x6.out.size))
  clear hr1
  obtain ⟨V, hV⟩ : ∃ V, V = u1.alloc (Obj.cells #[.int .i64 0, .int .i64 0, .int .i64 0] 51) := ⟨_, rfl⟩
  obtain ⟨B, hB⟩ : ∃ B, B = u1.heap.size := ⟨_, rfl⟩
  have hVB : Blk V B 51 #[.int .i64 0, .int .i64 0, .int .i64 0] := by rw [hV, hB]; exact Blk.new _ _ _
  have HVB : Hid (Blk V B 51 (WT 0)) := Lib.hid (by rw [HW0.out]; exact hVB)
  have HB_V : Hid (Below w.heap.size w V) := Lib.hid (by rw [hV]; exact HB_u1.out.alloc HB_u1.out.size _)
  have HBS : Hid (w.heap.size ≤ B) := Lib.hid (by rw [hB]; exact HB_u1.out.size)
  have HV := Lib.hid hV
  have HBB := Lib.hid hB
  clear hV hVB hB
  go_wp2
  rw [← HV.out, ← HBB.out]
  go_loopw [11, 23, 110] (fun e11 _ x wr => ∃ i : Nat, i ≤ 3 ∧ x = .int .i64 i ∧ e11 = .int .i64 0 ∧ Blk wr B 51 (WT i) ∧ Below w.heap.size w wr) (fun _ _ x _ => 3 - (intOf x).toNat)
  case atStart => exact ⟨0, by omega, rfl, rfl, HVB.out, HB_V.out⟩
  case round =>
    obtain ⟨i, hi, rfl, rfl, hbl, hb⟩ := hrel
    have HBL := Lib.hid hbl
    have HBR := Lib.hid hb
    by_cases hlt : i < 3
    · have i1 : (i : Int) < 3 := by omega
      have i2 : (0 : Int) ≤ (i : Int) := by omega
      have e5 : IntKind.i64.wrap (a + (i : Int)) = a + (i : Int) := IntWalk.i64_in _ (by omega)
      obtain ⟨Y9, hY9⟩ : ∃ Y, Y = wr.alloc (Obj.cells #[.int .i64 (a + (i : Int))] 3) := ⟨_, rfl⟩
      have hI9 : IsAt Y9 (some ⟨wr.heap.size, 0, none⟩) [a + (i : Int)] := by rw [hY9]; exact RowAt.of_blkF (k := 1) (enc := encI) encI_len (Blk.new _ _ _) rfl
      have hB9 : Below wr.heap.size wr Y9 := by rw [hY9]; exact (Below.refl _ _).alloc (Nat.le_refl _) _
      have HC9 : Hid (Calls Try.prog 18 #[.int .i64 5, .slice (some ⟨wr.heap.size, 0, none⟩) 1 1] Y9 (fun e x => e = .returned (.tuple #[.int .i64 (WV i), .int .i64 0]) ∧ Below Y9.heap.size Y9 x)) := Lib.hid (conT 5 [a + (i : Int)] (by omega) (by simp) (HWK.out i hlt) (WV i) (HWZ.out i hlt) _ 1 Y9 hI9)
      have HBY9 : Hid (Below w.heap.size w Y9) := Lib.hid (hb.trans (hB9.mono hb.size))
      have HBL9 := Lib.hid (hbl.below hB9 hbl.lt)
      have HWS9 := Lib.hid (HWS.out i hlt)
      have HY9 := Lib.hid hY9
      clear hY9 hI9 hB9 hbl hb
      generalize WV i = wv at *
      go_wp2_with fail
      rw [← HY9.out]
      refine HC9.out.mono ?_
      rintro e x9 ⟨rfl, hb9⟩
      have h9 := HBL9.out.below hb9 HBL9.out.lt
      have c0 : x9.cell? ⟨B, i, none⟩ = some (.int .i64 0) := (h9.cell i).trans (HWL.out i hlt)
      have c1 : x9.frozen? ⟨B, i, none⟩ = false := h9.frozen i
      have HS9 := Lib.hid (h9.set_ i (.int .i64 wv))
      have HB9 := Lib.hid ((HBY9.out.trans (hb9.mono HBY9.out.size)).setCell (p := ⟨B, i, none⟩) HBS.out (.int .i64 wv))
      clear h9 hb9
      go_wp2
      go_roundw
      case rel => exact ⟨i + 1, by omega, by go_num, rfl, by rw [HWS9.out]; exact HS9.out, HB9.out⟩
      case measure => simp [intOf]; omega
    · obtain rfl : i = 3 := by omega
      have d0 : wr.cell? ⟨B, 0, none⟩ = some (.int .i64 w0) := (hbl.cell 0).trans HD0.out
      have d1 : wr.cell? ⟨B, 1, none⟩ = some (.int .i64 w1) := (hbl.cell 1).trans HD1.out
      have d2 : wr.cell? ⟨B, 2, none⟩ = some (.int .i64 w2) := (hbl.cell 2).trans HD2.out
      clear hbl hb
      go_wp2_with fail
      refine (HA.out _).mono ?_
      rintro e x10 ⟨rfl, hb10⟩
      have HB10 := Lib.hid (HBR.out.trans (hb10.mono HBR.out.size))
      clear hb10
      go_wp2
      go_ret
      exact ⟨rfl, HB10.out⟩
theorem swaps_any (k m n : Int) (h0 : 0 ≤ k) (h1 : k ≤ 255) (h2 : 0 ≤ m) (h3 : m ≤ 255) (h4 : 0 ≤ n) (h5 : n ≤ 255) (w : World) : Calls Try.prog 8 #[.int .u8 k, .int .u8 m, .int .u8 n] w (fun e x => e = .returned (.bool true) ∧ Below w.heap.size w x) := by
  obtain ⟨p, hp⟩ : ∃ r : Nat, (r : Int) = k % 4 := ⟨(k % 4).toNat, by omega⟩
  obtain ⟨q, hq⟩ : ∃ r : Nat, (r : Int) = m % 4 := ⟨(m % 4).toNat, by omega⟩
  obtain ⟨r, hr⟩ : ∃ r : Nat, (r : Int) = n % 4 := ⟨(n % 4).toNat, by omega⟩
  have hp4 : p < 4 := by omega
  have hq4 : q < 4 := by omega
  have hr4 : r < 4 := by omega
  have h9 := sw_all ⟨p, hp4⟩ ⟨q, hq4⟩ ⟨r, hr4⟩
  obtain ⟨a, ha⟩ : ∃ a : Int, 1 + (p : Int) = a := ⟨_, rfl⟩
  obtain ⟨b, hb⟩ : ∃ a : Int, 1 + (q : Int) = a := ⟨_, rfl⟩
  obtain ⟨c, hc⟩ : ∃ a : Int, 1 + (r : Int) = a := ⟨_, rfl⟩
  simp only [ha, hb, hc] at h9
  unfold swOK at h9
  simp only [Bool.and_eq_true, decide_eq_true_eq] at h9
  obtain ⟨⟨⟨⟨⟨⟨⟨⟨⟨⟨⟨⟨g1, g2⟩, g3⟩, g4⟩, g5⟩, g6⟩, g7⟩, g8⟩, g9⟩, g10⟩, g11⟩, g12⟩, g13, g14, g15, g16, g17⟩ := h9
  refine swaps_walk k m n a b c p q r h0 h1 h2 h3 h4 h5 (by rw [Int.tmod_eq_emod_of_nonneg h0]; exact hp.symm) (by rw [Int.tmod_eq_emod_of_nonneg h2]; exact hq.symm) (by rw [Int.tmod_eq_emod_of_nonneg h4]; exact hr.symm) ha hb hc hp4 hq4 hr4 (cycM 8 [a, b, c]) (Nat.le_trans (cycM_len 8 [a, b, c] (by omega)) (by omega)) (trK 8 [a, b, c]) (trK 6 [a, b]) (trK 5 [a]) (trK 5 [a + 1]) (trK 5 [a + 2]) g1 g2 g3 g4 rfl g10.symm rfl g12.symm rfl g11.symm g8 g9 (fun i hi => ?_) (fun i hi => ?_) ⟨g13, g14⟩ ⟨g15, g16⟩ g17 w
  · have h9 : i = 0 ∨ i = 1 ∨ i = 2 := by omega
    rcases h9 with rfl | rfl | rfl
    · simpa using g5
    · simpa using g6
    · simpa using g7
  · have h9 : i = 0 ∨ i = 1 ∨ i = 2 := by omega
    rcases h9 with rfl | rfl | rfl <;> simp
end Go.Proofs.Ytgfbihdnjidodaa
