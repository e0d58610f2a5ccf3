/- The law of renaming. -/
import Derived.Test.YtjaafneoinidkaaHr
import Derived.Test.YtjaafneoinidkaaHn
import Derived.Test.YtjaafneoinidkaaIa
namespace Go.Proofs.Ytjaafneoinidkaa
open Go.RowKit Go.Shelf Go.Proofs.Gr
attribute [local go_sem] Oper.semAt_some

set_option maxHeartbeats 12800000 in
set_option maxRecDepth 100000 in
theorem renames_dark (n : Int) (a : Option Addr) (cap : Nat) (L : List E) (b : Option Addr) (c : Nat) (S : List Int) (HRI : Hid (∀ w, EsAt w a L → Calls Try.prog 48 #[.agg #[.int .i64 n, .slice a L.length cap]] w (fun e w' => e = .returned (.bool false) ∧ Below w.heap.size w w'))) (HA : Awake) (w : World) (h : EsAt w a L) (hs : IsAt w b S) :
    Calls Try.prog 11 #[gv n a L.length cap, .slice b S.length c] w (GivesB w true) := by
  unfold GivesB gv
  obtain ⟨W, hW⟩ : ∃ W, W = w.alloc (Obj.cells #[.int .i64 n, .slice a L.length cap] 24) := ⟨_, rfl⟩
  have hB0 : Below w.heap.size w W := by rw [hW]; exact (Below.refl _ w).alloc (Nat.le_refl _) _
  have hG : Blk W w.heap.size 24 #[.int .i64 n, .slice a L.length cap] := by rw [hW]; exact Blk.new _ _ _
  have HW := Lib.hid hW
  have HB0 := Lib.hid hB0
  have hEz : EsAt W a L := h.keep hB0
  have hSz : IsAt W b S := hs.keep hB0
  have HF : Hid (∀ x, Below W.heap.size W x → x.cell? ⟨w.heap.size, 0, none⟩ = some (.int .i64 n) ∧ x.cell? ⟨w.heap.size, 1, none⟩ = some (.slice a L.length cap) ∧ EsAt x a L ∧ IsAt x b S) := Lib.hid fun x hx => ⟨(hG.below hx hG.lt).cell 0, (hG.below hx hG.lt).cell 1, hEz.keep hx, hSz.keep hx⟩
  have hk0 : Below W.heap.size W W := Below.refl _ _
  obtain ⟨g0, g1, -⟩ := HF.out W hk0
  clear hB0 hG hW hEz h hSz hs
  go_enter Try.func11, Try.ntmps11
  go_wp2_with fail
  rw [← HW.out]
  refine (HRI.out _ (HF.out W hk0).2.2.1).mono ?_
  rintro e x1 ⟨rfl, hb1⟩
  have hk1 : Below W.heap.size W x1 := hk0.trans (hb1.mono hk0.size)
  clear hb1 hk0 g0 g1
  obtain ⟨g0, g1, -⟩ := HF.out x1 hk1
  go_wp2_with fail
  refine (HA _).mono ?_
  rintro e x2 ⟨rfl, hb2⟩
  have hk2 : Below W.heap.size W x2 := hk1.trans (hb2.mono hk1.size)
  clear hb2 hk1 g0 g1
  obtain ⟨g0, g1, -⟩ := HF.out x2 hk2
  have HEND := Lib.hid (HB0.out.trans (hk2.mono HB0.out.size))
  clear hk2 g0 g1
  go_wp2
  go_ret
  exact ⟨rfl, HEND.out⟩
set_option maxHeartbeats 12800000 in
set_option maxRecDepth 100000 in
theorem renames_bad (n : Int) (a : Option Addr) (cap : Nat) (L : List E) (b : Option Addr) (c : Nat) (S : List Int) (k : Nat) (hk : k ≠ 0) (HRI : Hid (∀ w, EsAt w a L → Calls Try.prog 48 #[.agg #[.int .i64 n, .slice a L.length cap]] w (fun e w' => e = .returned (.bool true) ∧ Below w.heap.size w w'))) (HA : Awake) (HRE : Hid (∀ w, IsAt w b S → Calls Try.prog 42 #[.int .i64 n, .slice b S.length c] w (fun e w' => e = .returned (.int .i64 (k : Int)) ∧ Below w.heap.size w w'))) (w : World) (h : EsAt w a L) (hs : IsAt w b S) :
    Calls Try.prog 11 #[gv n a L.length cap, .slice b S.length c] w (GivesB w true) := by
  unfold GivesB gv
  obtain ⟨W, hW⟩ : ∃ W, W = w.alloc (Obj.cells #[.int .i64 n, .slice a L.length cap] 24) := ⟨_, rfl⟩
  have hB0 : Below w.heap.size w W := by rw [hW]; exact (Below.refl _ w).alloc (Nat.le_refl _) _
  have hG : Blk W w.heap.size 24 #[.int .i64 n, .slice a L.length cap] := by rw [hW]; exact Blk.new _ _ _
  have HW := Lib.hid hW
  have HB0 := Lib.hid hB0
  have hEz : EsAt W a L := h.keep hB0
  have hSz : IsAt W b S := hs.keep hB0
  have HF : Hid (∀ x, Below W.heap.size W x → x.cell? ⟨w.heap.size, 0, none⟩ = some (.int .i64 n) ∧ x.cell? ⟨w.heap.size, 1, none⟩ = some (.slice a L.length cap) ∧ EsAt x a L ∧ IsAt x b S) := Lib.hid fun x hx => ⟨(hG.below hx hG.lt).cell 0, (hG.below hx hG.lt).cell 1, hEz.keep hx, hSz.keep hx⟩
  have hk0 : Below W.heap.size W W := Below.refl _ _
  obtain ⟨g0, g1, -⟩ := HF.out W hk0
  clear hB0 hG hW hEz h hSz hs
  have q0 : (((k : Nat) : Int) != 0) = true := by rw [bne_iff_ne]; omega
  go_enter Try.func11, Try.ntmps11
  go_wp2_with fail
  rw [← HW.out]
  refine (HRI.out _ (HF.out W hk0).2.2.1).mono ?_
  rintro e x1 ⟨rfl, hb1⟩
  have hk1 : Below W.heap.size W x1 := hk0.trans (hb1.mono hk0.size)
  clear hb1 hk0 g0 g1
  obtain ⟨g0, g1, -⟩ := HF.out x1 hk1
  go_wp2_with fail
  refine (HRE.out _ (HF.out x1 hk1).2.2.2).mono ?_
  rintro e x2 ⟨rfl, hb2⟩
  have hk2 : Below W.heap.size W x2 := hk1.trans (hb2.mono hk1.size)
  clear hb2 hk1 g0 g1
  obtain ⟨g0, g1, -⟩ := HF.out x2 hk2
  go_wp2_with fail
  refine (HA _).mono ?_
  rintro e x3 ⟨rfl, hb3⟩
  have hk3 : Below W.heap.size W x3 := hk2.trans (hb3.mono hk2.size)
  clear hb3 hk2 g0 g1
  obtain ⟨g0, g1, -⟩ := HF.out x3 hk3
  have HEND := Lib.hid (HB0.out.trans (hk3.mono HB0.out.size))
  clear hk3 g0 g1
  go_wp2
  go_ret
  exact ⟨rfl, HEND.out⟩
set_option maxHeartbeats 12800000 in
set_option maxRecDepth 100000 in
theorem renames_ok (n : Int) (a : Option Addr) (cap : Nat) (L : List E) (b : Option Addr) (c : Nat) (S : List Int) (hn : n = S.length) (hS12 : S.length ≤ 12) (J : List E) (B : List Int) (T : Nat → Nat → Int) (Sz Gn : Int) (D : Nat → Int) (HRI : Hid (∀ w, EsAt w a L → Calls Try.prog 48 #[.agg #[.int .i64 n, .slice a L.length cap]] w (fun e w' => e = .returned (.bool true) ∧ Below w.heap.size w w'))) (HA : Awake) (HRE : Hid (∀ w, IsAt w b S → Calls Try.prog 42 #[.int .i64 n, .slice b S.length c] w (fun e w' => e = .returned (.int .i64 0) ∧ Below w.heap.size w w'))) (HR1 : Hid (∀ w, EsAt w a L → IsAt w b S → Calls Try.prog 43 #[.agg #[.int .i64 n, .slice a L.length cap], .slice b S.length c] w (fun e w' => ∃ a2 c2, e = .returned (.tuple #[.agg #[.int .i64 n, .slice a2 J.length c2], .int .i64 0]) ∧ EsAt w' a2 J ∧ Below w.heap.size w w'))) (HT0 : Hid (T 0 = fun _ => 0)) (HTS : Hid (∀ i, i < S.length → ∀ x, T (i + 1) x = if x = (iAt S i).toNat then (i : Int) else T i x)) (HBC : Hid ((enR S.length (T S.length)).toList = flat encI B)) (HVR : Hid (∀ i, i < S.length → 0 ≤ iAt S i ∧ iAt S i < S.length)) (HR2 : Hid (∀ a1 c1 b1 w, EsAt w a1 J → IsAt w b1 B → Calls Try.prog 43 #[.agg #[.int .i64 n, .slice a1 J.length c1], .slice b1 S.length S.length] w (fun e w' => ∃ a2 c2, e = .returned (.tuple #[.agg #[.int .i64 n, .slice a2 L.length c2], .int .i64 0]) ∧ EsAt w' a2 L ∧ Below w.heap.size w w'))) (HZ1 : Hid (∀ a1 c1 w, EsAt w a1 J → Calls Try.prog 15 #[.agg #[.int .i64 n, .slice a1 J.length c1]] w (fun e w' => e = .returned (.tuple #[.int .i64 Sz, .int .i64 0]) ∧ Below w.heap.size w w'))) (HZ2 : Hid (∀ w, EsAt w a L → Calls Try.prog 15 #[.agg #[.int .i64 n, .slice a L.length cap]] w (fun e w' => e = .returned (.tuple #[.int .i64 Sz, .int .i64 0]) ∧ Below w.heap.size w w'))) (HG2 : Hid (∀ w, EsAt w a L → Calls Try.prog 17 #[.agg #[.int .i64 n, .slice a L.length cap]] w (fun e w' => e = .returned (.tuple #[.int .i64 Gn, .int .i64 0]) ∧ Below w.heap.size w w'))) (HG1 : Hid (∀ a1 c1 w, EsAt w a1 J → Calls Try.prog 17 #[.agg #[.int .i64 n, .slice a1 J.length c1]] w (fun e w' => e = .returned (.tuple #[.int .i64 Gn, .int .i64 0]) ∧ Below w.heap.size w w'))) (HSM : Hid (∀ a1 a2 c1 c2 w, EsAt w a1 L → EsAt w a2 L → Calls Try.prog 25 #[.agg #[.int .i64 n, .slice a1 L.length c1], .agg #[.int .i64 n, .slice a2 L.length c2]] w (fun e w' => e = .returned (.bool true) ∧ Below w.heap.size w w'))) (HD1 : Hid (∀ i : Nat, i < S.length → ∀ w, EsAt w a L → Calls Try.prog 27 #[.agg #[.int .i64 n, .slice a L.length cap], .int .i64 (i : Int)] w (fun e w' => e = .returned (.tuple #[.int .i64 (D i), .int .i64 0]) ∧ Below w.heap.size w w'))) (HD2 : Hid (∀ i : Nat, i < S.length → ∀ a1 c1 w, EsAt w a1 J → Calls Try.prog 27 #[.agg #[.int .i64 n, .slice a1 J.length c1], .int .i64 (iAt S i)] w (fun e w' => e = .returned (.tuple #[.int .i64 (D i), .int .i64 0]) ∧ Below w.heap.size w w'))) (w : World) (h : EsAt w a L) (hs : IsAt w b S) :
    Calls Try.prog 11 #[gv n a L.length cap, .slice b S.length c] w (GivesB w true) := by
  unfold GivesB gv
  obtain ⟨W, hW⟩ : ∃ W, W = w.alloc (Obj.cells #[.int .i64 n, .slice a L.length cap] 24) := ⟨_, rfl⟩
  have hB0 : Below w.heap.size w W := by rw [hW]; exact (Below.refl _ w).alloc (Nat.le_refl _) _
  have hG : Blk W w.heap.size 24 #[.int .i64 n, .slice a L.length cap] := by rw [hW]; exact Blk.new _ _ _
  have HW := Lib.hid hW
  have HB0 := Lib.hid hB0
  have hEz : EsAt W a L := h.keep hB0
  have hSz : IsAt W b S := hs.keep hB0
  have HF : Hid (∀ x, Below W.heap.size W x → x.cell? ⟨w.heap.size, 0, none⟩ = some (.int .i64 n) ∧ x.cell? ⟨w.heap.size, 1, none⟩ = some (.slice a L.length cap) ∧ EsAt x a L ∧ IsAt x b S) := Lib.hid fun x hx => ⟨(hG.below hx hG.lt).cell 0, (hG.below hx hG.lt).cell 1, hEz.keep hx, hSz.keep hx⟩
  have hk0 : Below W.heap.size W W := Below.refl _ _
  obtain ⟨g0, g1, -⟩ := HF.out W hk0
  clear hB0 hG hW hEz h hSz hs
  have HN := Lib.hid hn
  clear hn
  go_enter Try.func11, Try.ntmps11
  go_wp2_with fail
  rw [← HW.out]
  refine (HRI.out _ (HF.out W hk0).2.2.1).mono ?_
  rintro e x1 ⟨rfl, hb1⟩
  have hk1 : Below W.heap.size W x1 := hk0.trans (hb1.mono hk0.size)
  clear hb1 hk0 g0 g1
  obtain ⟨g0, g1, -⟩ := HF.out x1 hk1
  go_wp2_with fail
  refine (HRE.out _ (HF.out x1 hk1).2.2.2).mono ?_
  rintro e x2 ⟨rfl, hb2⟩
  have hk2 : Below W.heap.size W x2 := hk1.trans (hb2.mono hk1.size)
  clear hb2 hk1 g0 g1
  obtain ⟨g0, g1, -⟩ := HF.out x2 hk2
  go_wp2_with fail
  refine (HR1.out _ (HF.out x2 hk2).2.2.1 (HF.out x2 hk2).2.2.2).mono ?_
  rintro e x3 ⟨a7, c7, rfl, hJ_3, hb3⟩
  have hk3 : Below W.heap.size W x3 := hk2.trans (hb3.mono hk2.size)
  clear hb3 hk2 g0 g1
  obtain ⟨g0, g1, -⟩ := HF.out x3 hk3
  obtain ⟨Y1, hY1⟩ : ∃ Y, Y = x3.alloc (Obj.cells #[.int .i64 n, .slice a7 J.length c7] 24) := ⟨_, rfl⟩
  have hy : Below x3.heap.size x3 Y1 := by rw [hY1]; exact (Below.refl _ _).alloc (Nat.le_refl _) _
  have hz : Below W.heap.size W Y1 := hk3.trans (hy.mono hk3.size)
  have hQ : Blk Y1 x3.heap.size 24 #[.int .i64 n, .slice a7 J.length c7] := by rw [hY1]; exact Blk.new _ _ _
  have HBY1 : Hid (Below w.heap.size w Y1) := Lib.hid (HB0.out.trans (hz.mono HB0.out.size))
  have HFY1 : Hid (∀ x, Below Y1.heap.size Y1 x → x.cell? ⟨w.heap.size, 0, none⟩ = some (.int .i64 n) ∧ x.cell? ⟨w.heap.size, 1, none⟩ = some (.slice a L.length cap) ∧ x.cell? ⟨x3.heap.size, 0, none⟩ = some (.int .i64 n) ∧ x.cell? ⟨x3.heap.size, 1, none⟩ = some (.slice a7 J.length c7) ∧ EsAt x a L ∧ IsAt x b S ∧ EsAt x a7 J) := Lib.hid fun x hx => ⟨(HF.out x (hz.trans (hx.mono hz.size))).1, (HF.out x (hz.trans (hx.mono hz.size))).2.1, (hQ.below hx hQ.lt).cell 0, (hQ.below hx hQ.lt).cell 1, (HF.out x (hz.trans (hx.mono hz.size))).2.2.1, (HF.out x (hz.trans (hx.mono hz.size))).2.2.2, (hJ_3.keep hy).keep hx⟩
  clear g0 g1 hk3 hz hQ hy hJ_3
  have hk4 : Below Y1.heap.size Y1 Y1 := Below.refl _ _
  have g0 : (x3.alloc (Obj.cells #[.int .i64 n, .slice a7 J.length c7] 24)).cell? ⟨w.heap.size, 0, none⟩ = some (.int .i64 n) := by rw [← hY1]; exact (HFY1.out _ hk4).1
  have g1 : (x3.alloc (Obj.cells #[.int .i64 n, .slice a7 J.length c7] 24)).cell? ⟨w.heap.size, 1, none⟩ = some (.slice a L.length cap) := by rw [← hY1]; exact (HFY1.out _ hk4).2.1
  have g2 : (x3.alloc (Obj.cells #[.int .i64 n, .slice a7 J.length c7] 24)).cell? ⟨x3.heap.size, 0, none⟩ = some (.int .i64 n) := by rw [← hY1]; exact (HFY1.out _ hk4).2.2.1
  have g3 : (x3.alloc (Obj.cells #[.int .i64 n, .slice a7 J.length c7] 24)).cell? ⟨x3.heap.size, 1, none⟩ = some (.slice a7 J.length c7) := by rw [← hY1]; exact (HFY1.out _ hk4).2.2.2.1
  have HY1 := Lib.hid hY1
  clear hY1
  have hsz : Y1.heap.size = x3.heap.size + 1 := by rw [← HY1.out.symm]; exact World.size_alloc ..
  have hmk0 : ∀ V : World, (Instr.makeSlice 46 (.int .i64 n) (.int .i64 n)).run Try.prog V = .ok (.slice (some ⟨V.heap.size, 0, none⟩) S.length S.length) (V.alloc (.cells (enR S.length fun _ => 0) 3)) := fun V => by
    rw [HN.out]; exact make_row S.length (by omega) V
  have hmk : (Instr.makeSlice 46 (.int .i64 n) (.int .i64 n)).run Try.prog (x3.alloc (Obj.cells #[.int .i64 n, .slice a7 J.length c7] 24)) = .ok (.slice (some ⟨x3.heap.size + 1, 0, none⟩) S.length S.length) ((x3.alloc (Obj.cells #[.int .i64 n, .slice a7 J.length c7] 24)).alloc (.cells (enR S.length fun _ => 0) 3)) := by
    have := hmk0 (x3.alloc (Obj.cells #[.int .i64 n, .slice a7 J.length c7] 24))
    rw [World.size_alloc] at this
    exact this
  clear hmk0
  have HBY : Hid (Below Y1.heap.size Y1 ((x3.alloc (Obj.cells #[.int .i64 n, .slice a7 J.length c7] 24)).alloc (.cells (enR S.length fun _ => 0) 3))) := Lib.hid (by rw [← HY1.out]; exact (Below.refl _ _).alloc (Nat.le_refl _) _)
  have HKb : Hid (Blk ((x3.alloc (Obj.cells #[.int .i64 n, .slice a7 J.length c7] 24)).alloc (.cells (enR S.length fun _ => 0) 3)) (x3.heap.size + 1) 3 (enR S.length fun _ => 0)) := Lib.hid (by
    have := Blk.new (x3.alloc (Obj.cells #[.int .i64 n, .slice a7 J.length c7] 24)) 3 (enR S.length fun _ => 0)
    rw [World.size_alloc] at this
    exact this)
  have HSZ := Lib.hid hsz
  clear hsz hk4
  go_wp2
  clear g0 g1 g2 g3 hmk
  go_loopw [48] (fun x wr => ∃ i : Nat, i ≤ S.length ∧ x = .int .i64 i ∧ Blk wr (x3.heap.size + 1) 3 (enR S.length (T i)) ∧ Below Y1.heap.size Y1 wr) (fun x _ => S.length - (intOf x).toNat)
  case atStart => exact ⟨0, by omega, rfl, by rw [HT0.out]; exact HKb.out, HBY.out⟩
  case round =>
    obtain ⟨i, hi, rfl, hkb, hb⟩ := hrel
    by_cases hlt : i < S.length
    · have i1 : (i : Int) < (S.length : Int) := by omega
      obtain ⟨b1, o1, hbb, q1, x1⟩ := RowAt.one (HFY1.out _ hb).2.2.2.2.2.1 i hlt
      subst hbb
      have hv := HVR.out i hlt
      have HTs := Lib.hid (HTS.out i hlt)
      obtain ⟨v, hvv⟩ : ∃ v : Nat, iAt S i = v := ⟨(iAt S i).toNat, by omega⟩
      rw [hvv] at x1
      have i2 : (v : Int) < (S.length : Int) := by omega
      have hvl : v < S.length := by omega
      have HTv : Hid (∀ x, T (i + 1) x = if x = v then (i : Int) else T i x) := Lib.hid fun x => by
        have := HTs.out x
        rw [hvv] at this
        simpa using this
      have y1 : wr.cell? ⟨x3.heap.size + 1, v, none⟩ = some (.int .i64 (T i v)) := by rw [hkb.cell v]; exact enR_at _ _ _ hvl
      have y2 : wr.frozen? ⟨x3.heap.size + 1, v, none⟩ = false := hkb.frozen v
      have hkn := hkb.set_ v (.int .i64 (i : Int))
      rw [enR_set _ (T i) (T (i + 1)) v i HTv.out] at hkn
      have HKN := Lib.hid hkn
      have HBN : Hid (Below Y1.heap.size Y1 (wr.setCell ⟨x3.heap.size + 1, v, none⟩ (.int .i64 (i : Int)))) := Lib.hid (hb.setCell (p := ⟨x3.heap.size + 1, v, none⟩) (Nat.le_of_eq HSZ.out) _)
      clear hkn hkb hb hv hvv HTs
      go_wp2
      go_roundw
      case rel => exact ⟨i + 1, by omega, by go_num, HKN.out, HBN.out⟩
      case measure => simp [intOf]; omega
    · obtain rfl : i = S.length := by omega
      have hBk_0 : IsAt wr (some ⟨x3.heap.size + 1, 0, none⟩) B := RowAt.of_blk (k := 1) (enc := encI) encI_len hkb HBC.out
      have hk999 : Below Y1.heap.size Y1 wr := hb
      clear hkb hb
      have hk999 := hk999
      obtain ⟨g0, g1, g2, g3, -⟩ := HFY1.out wr hk999
      clear hk999
      go_wp2_with fail
      refine (HR2.out _ _ (some ⟨x3.heap.size + 1, 0, none⟩) _ (HFY1.out wr hk999).2.2.2.2.2.2 hBk_0).mono ?_
      rintro e x1000 ⟨a8, c8, rfl, hK_1000, hb1000⟩
      have hk1000 : Below Y1.heap.size Y1 x1000 := hk999.trans (hb1000.mono hk999.size)
      have hBk_1000 := hBk_0.keep hb1000
      clear hb1000 hk999 g0 g1 g2 g3 hBk_0
      obtain ⟨g0, g1, g2, g3, -⟩ := HFY1.out x1000 hk1000
      obtain ⟨Y2, hY2⟩ : ∃ Y, Y = x1000.alloc (Obj.cells #[.int .i64 n, .slice a8 L.length c8] 24) := ⟨_, rfl⟩
      have hy : Below x1000.heap.size x1000 Y2 := by rw [hY2]; exact (Below.refl _ _).alloc (Nat.le_refl _) _
      have hz : Below Y1.heap.size Y1 Y2 := hk1000.trans (hy.mono hk1000.size)
      have hQ : Blk Y2 x1000.heap.size 24 #[.int .i64 n, .slice a8 L.length c8] := by rw [hY2]; exact Blk.new _ _ _
      have HBY2 : Hid (Below w.heap.size w Y2) := Lib.hid (HBY1.out.trans (hz.mono HBY1.out.size))
      have HFY2 : Hid (∀ x, Below Y2.heap.size Y2 x → x.cell? ⟨w.heap.size, 0, none⟩ = some (.int .i64 n) ∧ x.cell? ⟨w.heap.size, 1, none⟩ = some (.slice a L.length cap) ∧ x.cell? ⟨x3.heap.size, 0, none⟩ = some (.int .i64 n) ∧ x.cell? ⟨x3.heap.size, 1, none⟩ = some (.slice a7 J.length c7) ∧ x.cell? ⟨x1000.heap.size, 0, none⟩ = some (.int .i64 n) ∧ x.cell? ⟨x1000.heap.size, 1, none⟩ = some (.slice a8 L.length c8) ∧ EsAt x a L ∧ IsAt x b S ∧ EsAt x a7 J ∧ IsAt x (some ⟨x3.heap.size + 1, 0, none⟩) B ∧ EsAt x a8 L) := Lib.hid fun x hx => ⟨(HFY1.out x (hz.trans (hx.mono hz.size))).1, (HFY1.out x (hz.trans (hx.mono hz.size))).2.1, (HFY1.out x (hz.trans (hx.mono hz.size))).2.2.1, (HFY1.out x (hz.trans (hx.mono hz.size))).2.2.2.1, (hQ.below hx hQ.lt).cell 0, (hQ.below hx hQ.lt).cell 1, (HFY1.out x (hz.trans (hx.mono hz.size))).2.2.2.2.1, (HFY1.out x (hz.trans (hx.mono hz.size))).2.2.2.2.2.1, (HFY1.out x (hz.trans (hx.mono hz.size))).2.2.2.2.2.2, (hBk_1000.keep hy).keep hx, (hK_1000.keep hy).keep hx⟩
      clear g0 g1 g2 g3 hk1000 hz hQ hy hBk_1000 hK_1000
      have hk1001 : Below Y2.heap.size Y2 Y2 := Below.refl _ _
      have g0 : (x1000.alloc (Obj.cells #[.int .i64 n, .slice a8 L.length c8] 24)).cell? ⟨w.heap.size, 0, none⟩ = some (.int .i64 n) := by rw [← hY2]; exact (HFY2.out _ hk1001).1
      have g1 : (x1000.alloc (Obj.cells #[.int .i64 n, .slice a8 L.length c8] 24)).cell? ⟨w.heap.size, 1, none⟩ = some (.slice a L.length cap) := by rw [← hY2]; exact (HFY2.out _ hk1001).2.1
      have g2 : (x1000.alloc (Obj.cells #[.int .i64 n, .slice a8 L.length c8] 24)).cell? ⟨x3.heap.size, 0, none⟩ = some (.int .i64 n) := by rw [← hY2]; exact (HFY2.out _ hk1001).2.2.1
      have g3 : (x1000.alloc (Obj.cells #[.int .i64 n, .slice a8 L.length c8] 24)).cell? ⟨x3.heap.size, 1, none⟩ = some (.slice a7 J.length c7) := by rw [← hY2]; exact (HFY2.out _ hk1001).2.2.2.1
      have g4 : (x1000.alloc (Obj.cells #[.int .i64 n, .slice a8 L.length c8] 24)).cell? ⟨x1000.heap.size, 0, none⟩ = some (.int .i64 n) := by rw [← hY2]; exact (HFY2.out _ hk1001).2.2.2.2.1
      have g5 : (x1000.alloc (Obj.cells #[.int .i64 n, .slice a8 L.length c8] 24)).cell? ⟨x1000.heap.size, 1, none⟩ = some (.slice a8 L.length c8) := by rw [← hY2]; exact (HFY2.out _ hk1001).2.2.2.2.2.1
      have HY2 := Lib.hid hY2
      clear hY2
      go_wp2_with fail
      rw [← HY2.out]
      refine (HZ1.out _ _ _ (HFY2.out Y2 hk1001).2.2.2.2.2.2.2.2.1).mono ?_
      rintro e x1002 ⟨rfl, hb1002⟩
      have hk1002 : Below Y2.heap.size Y2 x1002 := hk1001.trans (hb1002.mono hk1001.size)
      clear hb1002 hk1001 g0 g1 g2 g3 g4 g5
      obtain ⟨g0, g1, g2, g3, g4, g5, -⟩ := HFY2.out x1002 hk1002
      go_wp2_with fail
      refine (HZ2.out _ (HFY2.out x1002 hk1002).2.2.2.2.2.2.1).mono ?_
      rintro e x1003 ⟨rfl, hb1003⟩
      have hk1003 : Below Y2.heap.size Y2 x1003 := hk1002.trans (hb1003.mono hk1002.size)
      clear hb1003 hk1002 g0 g1 g2 g3 g4 g5
      obtain ⟨g0, g1, g2, g3, g4, g5, -⟩ := HFY2.out x1003 hk1003
      go_wp2_with fail
      refine (HG2.out _ (HFY2.out x1003 hk1003).2.2.2.2.2.2.1).mono ?_
      rintro e x1004 ⟨rfl, hb1004⟩
      have hk1004 : Below Y2.heap.size Y2 x1004 := hk1003.trans (hb1004.mono hk1003.size)
      clear hb1004 hk1003 g0 g1 g2 g3 g4 g5
      obtain ⟨g0, g1, g2, g3, g4, g5, -⟩ := HFY2.out x1004 hk1004
      go_wp2_with fail
      refine (HG1.out _ _ _ (HFY2.out x1004 hk1004).2.2.2.2.2.2.2.2.1).mono ?_
      rintro e x1005 ⟨rfl, hb1005⟩
      have hk1005 : Below Y2.heap.size Y2 x1005 := hk1004.trans (hb1005.mono hk1004.size)
      clear hb1005 hk1004 g0 g1 g2 g3 g4 g5
      obtain ⟨g0, g1, g2, g3, g4, g5, -⟩ := HFY2.out x1005 hk1005
      go_wp2_with fail
      refine (HSM.out _ _ _ _ _ (HFY2.out x1005 hk1005).2.2.2.2.2.2.2.2.2.2 (HFY2.out x1005 hk1005).2.2.2.2.2.2.1).mono ?_
      rintro e x1006 ⟨rfl, hb1006⟩
      have hk1006 : Below Y2.heap.size Y2 x1006 := hk1005.trans (hb1006.mono hk1005.size)
      clear hb1006 hk1005 g0 g1 g2 g3 g4 g5
      obtain ⟨g0, g1, g2, g3, g4, g5, -⟩ := HFY2.out x1006 hk1006
      have HBk := Lib.hid hk1006
      clear hk1006
      go_wp2
      clear g0 g1 g2 g3 g4 g5
      go_loopw [114] (fun x wr => ∃ i : Nat, i ≤ S.length ∧ x = .int .i64 i ∧ Below Y2.heap.size Y2 wr) (fun x _ => S.length - (intOf x).toNat)
      case atStart => exact ⟨0, by omega, rfl, HBk.out⟩
      case round =>
        obtain ⟨i, hi, rfl, hb⟩ := hrel
        by_cases hlt : i < S.length
        · have i1 : (i : Int) < (S.length : Int) := by omega
          obtain ⟨b1, o1, hbb, q1, x1⟩ := RowAt.one (HFY2.out _ hb).2.2.2.2.2.2.2.1 i hlt
          subst hbb
          have HDa := Lib.hid (fun w h => HD1.out i hlt w h)
          have HDb := Lib.hid (fun a1 c1 w h => HD2.out i hlt a1 c1 w h)
          generalize iAt S i = v at *
          have hk1007 := hb
          obtain ⟨g0, g1, g2, g3, g4, g5, -⟩ := HFY2.out wr hk1007
          clear hb
          go_wp2_with fail
          refine (HDa.out _ (HFY2.out wr hk1007).2.2.2.2.2.2.1).mono ?_
          rintro e x1008 ⟨rfl, hb1008⟩
          have hk1008 : Below Y2.heap.size Y2 x1008 := hk1007.trans (hb1008.mono hk1007.size)
          clear hb1008 hk1007 g0 g1 g2 g3 g4 g5
          obtain ⟨g0, g1, g2, g3, g4, g5, -⟩ := HFY2.out x1008 hk1008
          go_wp2_with fail
          refine (HDb.out _ _ _ (HFY2.out x1008 hk1008).2.2.2.2.2.2.2.2.1).mono ?_
          rintro e x1009 ⟨rfl, hb1009⟩
          have hk1009 : Below Y2.heap.size Y2 x1009 := hk1008.trans (hb1009.mono hk1008.size)
          clear hb1009 hk1008 g0 g1 g2 g3 g4 g5
          obtain ⟨g0, g1, g2, g3, g4, g5, -⟩ := HFY2.out x1009 hk1009
          have HBk4 := Lib.hid hk1009
          clear hk1009 g0 g1 g2 g3 g4 g5
          go_wp2
          go_roundw
          case rel => exact ⟨i + 1, by omega, by go_num, HBk4.out⟩
          case measure => simp [intOf]; omega
        · obtain rfl : i = S.length := by omega
          have hk1999 : Below Y2.heap.size Y2 wr := hb
          clear hb
          have hk1999 := hk1999
          obtain ⟨g0, g1, g2, g3, g4, g5, -⟩ := HFY2.out wr hk1999
          clear hk1999
          go_wp2_with fail
          refine (HA _).mono ?_
          rintro e x2000 ⟨rfl, hb2000⟩
          have hk2000 : Below Y2.heap.size Y2 x2000 := hk1999.trans (hb2000.mono hk1999.size)
          clear hb2000 hk1999 g0 g1 g2 g3 g4 g5
          obtain ⟨g0, g1, g2, g3, g4, g5, -⟩ := HFY2.out x2000 hk2000
          have HEND := Lib.hid (HBY2.out.trans (hk2000.mono HBY2.out.size))
          clear hk2000 g0 g1 g2 g3 g4 g5
          go_wp2
          go_ret
          exact ⟨rfl, HEND.out⟩
set_option maxHeartbeats 12800000 in
set_option maxRecDepth 100000 in
theorem rren_shape (n : Int) (b : Option Addr) (c : Nat) (S : List Int) (hn : (S.length : Int) ≠ n) (w : World) :
    Calls Try.prog 42 #[.int .i64 n, .slice b S.length c] w (fun e w' => e = .returned (.int .i64 ((8 : Nat) : Int)) ∧ Below w.heap.size w w') := by
  have q0 : (((S.length : Nat) : Int) != n) = true := by rw [bne_iff_ne]; exact hn
  clear hn
  go_enter Try.func42, Try.ntmps42
  go_wp2
  go_ret
  exact ⟨rfl, Below.refl _ _⟩
theorem weakN {f : Nat} {args : Array Value} {w : World} {m : Int} {J : List E} {k : Nat} (h : Calls Try.prog f args w (GivesGE w m J k)) : Calls Try.prog f args w (fun e w' => ∃ a c, e = .returned (.tuple #[.agg #[.int .i64 m, .slice a J.length c], .int .i64 (k : Int)]) ∧ EsAt w' a J ∧ Below w.heap.size w w') :=
  h.mono fun _ _ ⟨a, c, e1, e2, _, e4⟩ => ⟨a, c, e1, e2, e4⟩
theorem renames_any (n : Int) (a : Option Addr) (cap : Nat) (L : List E) (b : Option Addr) (c : Nat) (S : List Int) (hc : S.length ≤ c) (w : World) (h : EsAt w a L) (hs : IsAt w b S) :
    Calls Try.prog 11 #[gv n a L.length cap, .slice b S.length c] w (GivesB w true) := by
  cases hr : rightG n L with
  | false => exact renames_dark n a cap L b c S (Lib.hid fun w h => by have := right_any n a cap L w h; rw [hr] at this; exact this) awake_any w h hs
  | true =>
    have hl : lightG n L = true := by unfold rightG at hr; exact (Bool.and_eq_true_iff.1 hr).1
    have hk : chkG n L = 0 := by unfold rightG at hr; exact of_decide_eq_true (Bool.and_eq_true_iff.1 hr).2
    have hlen := light_len hl
    have HRI : Hid (∀ w, EsAt w a L → Calls Try.prog 48 #[.agg #[.int .i64 n, .slice a L.length cap]] w (fun e w' => e = .returned (.bool true) ∧ Below w.heap.size w w')) := Lib.hid fun w h => by have := right_any n a cap L w h; rw [hr] at this; exact this
    by_cases hn : (S.length : Int) = n
    · subst hn
      obtain ⟨N, hN, h1, h2⟩ := nat_of_chk hk
      have hR := right_of hk
      have hre : renE S.length S = firstE (nErr S.length S) S.length := by unfold renE; rw [if_neg (fun h => h rfl)]
      by_cases hf : firstE (nErr S.length S) S.length = 0
      · have hz := firstE_all hf
        have hm := fun p q => bet_max hR p q
        have hRJ := rel_right hz hR hm
        have hkJ := right_chk hRJ
        have hJl : (relG L S).length ≤ 100000 := joinT_small _ _ (by omega)
        have hfb : firstE (nErr (backS S).length (backS S)) (backS S).length = 0 := firstE_zero fun j hj => back_ok hz j hj
        have hib : ∀ i : Nat, i < S.length → isV S.length (i : Int) = true := fun i hi => by simp [isV]; omega
        refine renames_ok (S.length : Int) a cap L b c S rfl (by omega) (relG L S) (backS S) (bkT S) (sizeG L) (genU S.length L) (fun i => valZ (i : Int) L S.length + 2 * betw i i L) HRI awake_any ?_ ?_ (Lib.hid rfl) (Lib.hid fun i _ x => rfl) (Lib.hid (back_cells hz)) ?_ ?_ ?_ ?_ ?_ ?_ ?_ ?_ ?_ w h hs
        · refine Lib.hid fun w hs => ?_
          have := rrenaming_any (S.length : Int) b c S (by omega) hc w hs
          rw [hre, hf] at this
          exact this
        · refine Lib.hid fun w h hs => ?_
          have := prelabel_main a cap L (by omega) b c S hc hk w h hs
          rw [hf, if_pos rfl, if_pos rfl] at this
          exact weakN this
        · exact Lib.hid fun i hi => by have := at_rng hz i hi; omega
        · refine Lib.hid fun a1 c1 b1 w h hs => ?_
          have := prelabel_main a1 c1 (relG L S) hJl b1 S.length (backS S) (by rw [back_len]; exact Nat.le_refl _) (by rw [back_len]; exact hkJ) w h hs
          rw [hfb, if_pos rfl, if_pos rfl, rel_back hz hR, back_len] at this
          exact weakN this
        · refine Lib.hid fun a1 c1 w h => ?_
          have := pSize_any (S.length : Int) a1 c1 (relG L S) hJl w h
          rw [hkJ, if_pos rfl, rel_size hz hR hm] at this
          exact this
        · exact Lib.hid fun w h => by have := pSize_any (S.length : Int) a cap L (by omega) w h; rw [hk, if_pos rfl] at this; exact this
        · exact Lib.hid fun w h => by have := pGenus_any (S.length : Int) a cap L (by omega) w h; rw [hk, if_pos rfl] at this; exact this
        · refine Lib.hid fun a1 c1 w h => ?_
          have := pGenus_any (S.length : Int) a1 c1 (relG L S) hJl w h
          have e1 : genU S.length (relG L S) = genU S.length L := by unfold genU; rw [comps_parts hRJ, comps_parts hR, rel_parts hz hR, rel_size hz hR hm]
          rw [hkJ, if_pos rfl, e1] at this
          exact this
        · exact Lib.hid fun a1 a2 c1 c2 w h1 h2 => same_any (S.length : Int) a1 a2 c1 c2 L w (by omega) h1 h2
        · refine Lib.hid fun i hi w h => ?_
          have := pdegree_any (S.length : Int) a cap L (by omega) i w h
          rw [chkV_one hk, if_pos (hib i hi), if_pos rfl, deg_eq hR] at this
          exact this
        · refine Lib.hid fun i hi a1 c1 w h => ?_
          have hv := at_rng hz i hi
          obtain ⟨v, hvv⟩ : ∃ v : Nat, iAt S i = v := ⟨(iAt S i).toNat, by omega⟩
          have := pdegree_any (S.length : Int) a1 c1 (relG L S) hJl (iAt S i) w h
          have e1 := rel_deg hz hR v (by omega)
          rw [← hvv, hv.2.2] at e1
          have c2 : chkV S.length (relG L S) [iAt S i] = 0 := by
            rw [chkV_one hkJ, hvv, hib v (by omega)]; rfl
          rw [c2, if_pos rfl, deg_eq hRJ, e1] at this
          exact this
      · refine renames_bad (S.length : Int) a cap L b c S _ hf HRI awake_any (Lib.hid fun w hs => ?_) w h hs
        have := rrenaming_any (S.length : Int) b c S (by omega) hc w hs
        rw [hre] at this
        exact this
    · exact renames_bad n a cap L b c S 8 (by decide) HRI awake_any (Lib.hid fun w _ => rren_shape n b c S hn w) w h hs
end Go.Proofs.Ytjaafneoinidkaa
