/- Small graphs of the laws, equal lists, equal sets. -/
import Derived.Test.YtgejkgeojjgclaaFo
namespace Go.Proofs.Ytgejkgeojjgclaa
open Go.RowKit Go.Proofs.Gr Go.Proofs.Cp
attribute [local go_sem] Oper.semAt_some

/-- Hands back a truth. -/
def GivesB (w : World) (b : Bool) (e : Ending) (w' : World) : Prop := e = .returned (.bool b) ∧ Below w.heap.size w w'
set_option maxHeartbeats 12800000 in
set_option maxRecDepth 100000 in
theorem rsameI_true (a b : Option Addr) (c d : Nat) (D : List Int) (hD : D.length ≤ 100000) (w : World) (h1 : IsAt w a D) (h2 : IsAt w b D) :
    Calls Try.prog 75 #[.slice a D.length c, .slice b D.length d] w (fun e w' => e = .returned (.bool true) ∧ Below w.heap.size w w') := by
  have d1 : ((D.length : Int) != (D.length : Int)) = false := by simp
  have H1 := Lib.hid h1
  have H2 := Lib.hid h2
  clear h1 h2
  go_enter Try.func75, Try.ntmps75
  go_wp2
  go_loopw [5] (fun x wr => ∃ i : Nat, i ≤ D.length ∧ x = .int .i64 i ∧ Below w.heap.size w wr) (fun x _ => D.length - (intOf x).toNat)
  case atStart => exact ⟨0, by omega, rfl, Below.refl _ _⟩
  case round =>
    obtain ⟨i, hi, rfl, hb⟩ := hrel
    by_cases hlt : i < D.length
    · have i1 : (i : Int) < (D.length : Int) := by omega
      have i2 : (0 : Int) ≤ (i : Int) := by omega
      obtain ⟨b1, o1, hb1, q1, x1⟩ := (H1.out.keep hb).one i hlt
      obtain ⟨b2, o2, hb2, q2, x2⟩ := (H2.out.keep hb).one i hlt
      subst hb1 hb2
      have HXY : Hid (∀ u, Below wr.heap.size wr u → u.cell? ⟨b1, o1 + i, none⟩ = some (.int .i64 (iAt D i)) ∧ u.cell? ⟨b2, o2 + i, none⟩ = some (.int .i64 (iAt D i))) := Lib.hid fun u hu => by
        obtain ⟨b3, o3, e1, -, y1⟩ := (H1.out.keep (hb.trans (hu.mono hb.size))).one i hlt
        obtain ⟨b4, o4, e2, -, y2⟩ := (H2.out.keep (hb.trans (hu.mono hb.size))).one i hlt
        injection e1 with e1; injection e1 with e3 e4
        injection e2 with e2; injection e2 with e5 e6
        subst e3 e4 e5 e6
        exact ⟨y1, y2⟩
      have HBr := Lib.hid hb
      clear hb x1 x2
      generalize iAt D i = z at *
      have d2 : (z != z) = false := by simp
      go_wp2
      have hj0 : Below wr.heap.size wr wr.drew := (Below.refl _ _).drew
      refine wp_region_late (S := fun u => Below wr.heap.size wr u) (X := []) (by kernel_rfl) ?_
      refine wpAnyL_pureD (i := 0) 17 (.slice (some ⟨b1, o1, none⟩) D.length c) rfl rfl (by kernel_rfl) (by kernel_rfl) (by kernel_rfl) (fun _ _ _ h => h) (Or.inl ⟨by rfl, fun u _ => ?_⟩) ?_
      · go_simp
      try simp only [Act.put, List.setIfInBounds_toArray, List.set_cons_zero, List.set_cons_succ]
      refine wpAnyL_pureD (i := 1) 18 (.int .i64 i) rfl rfl (by kernel_rfl) (by kernel_rfl) (by kernel_rfl) (fun _ _ _ h => h) (Or.inl ⟨by rfl, fun u _ => ?_⟩) ?_
      · go_simp
      try simp only [Act.put, List.setIfInBounds_toArray, List.set_cons_zero, List.set_cons_succ]
      refine wpAnyL_pureD (i := 2) 19 (.pointer (some ⟨b1, o1 + i, none⟩)) rfl rfl (by kernel_rfl) (by kernel_rfl) (by kernel_rfl) (fun _ _ _ h => h) (Or.inl ⟨by rfl, fun u _ => ?_⟩) ?_
      · go_simp
      try simp only [Act.put, List.setIfInBounds_toArray, List.set_cons_zero, List.set_cons_succ]
      refine wpAnyL_takeD (i := 3) 20 (.int .i64 z) rfl rfl (by kernel_rfl) (by kernel_rfl) (by kernel_rfl) (by kernel_rfl) (by kernel_rfl) (fun _ _ _ h => h) hj0 (Or.inl ⟨by rfl, fun u hu => ?_⟩) ?_
      · obtain ⟨t0, t1⟩ := HXY.out u hu
        go_simp
      try simp only [Act.put, List.setIfInBounds_toArray, List.set_cons_zero, List.set_cons_succ]
      refine wpAnyL_pureD (i := 4) 21 (.slice (some ⟨b2, o2, none⟩) D.length d) rfl rfl (by kernel_rfl) (by kernel_rfl) (by kernel_rfl) (fun _ _ _ h => h) (Or.inl ⟨by rfl, fun u _ => ?_⟩) ?_
      · go_simp
      try simp only [Act.put, List.setIfInBounds_toArray, List.set_cons_zero, List.set_cons_succ]
      refine wpAnyL_pureD (i := 5) 22 (.int .i64 i) rfl rfl (by kernel_rfl) (by kernel_rfl) (by kernel_rfl) (fun _ _ _ h => h) (Or.inl ⟨by rfl, fun u _ => ?_⟩) ?_
      · go_simp
      try simp only [Act.put, List.setIfInBounds_toArray, List.set_cons_zero, List.set_cons_succ]
      refine wpAnyL_pureD (i := 6) 23 (.pointer (some ⟨b2, o2 + i, none⟩)) rfl rfl (by kernel_rfl) (by kernel_rfl) (by kernel_rfl) (fun _ _ _ h => h) (Or.inl ⟨by rfl, fun u _ => ?_⟩) ?_
      · go_simp
      try simp only [Act.put, List.setIfInBounds_toArray, List.set_cons_zero, List.set_cons_succ]
      refine wpAnyL_takeD (i := 7) 24 (.int .i64 z) rfl rfl (by kernel_rfl) (by kernel_rfl) (by kernel_rfl) (by kernel_rfl) (by kernel_rfl) (fun _ _ _ h => h) hj0 (Or.inl ⟨by rfl, fun u hu => ?_⟩) ?_
      · obtain ⟨t0, t1⟩ := HXY.out u hu
        go_simp
      try simp only [Act.put, List.setIfInBounds_toArray, List.set_cons_zero, List.set_cons_succ]
      refine wpAnyL_pureD (i := 8) 25 (.bool false) rfl rfl (by kernel_rfl) (by kernel_rfl) (by kernel_rfl) (fun _ _ _ h => h) (Or.inl ⟨by rfl, fun u _ => ?_⟩) ?_
      · go_simp
      try simp only [Act.put, List.setIfInBounds_toArray, List.set_cons_zero, List.set_cons_succ]
      refine wpAnyL_done (by kernel_rfl) ?_ _
      try simp only [Act.put, List.setIfInBounds_toArray, List.set_cons_zero, List.set_cons_succ]
      have HBN := Lib.hid (HBr.out.trans (hj0.mono HBr.out.size))
      clear hj0
      go_wp2
      go_roundw
      case rel => exact ⟨i + 1, by omega, by go_num, HBN.out⟩
      case measure => simp [intOf]; omega
    · obtain rfl : i = D.length := by omega
      have i1 : ¬ (D.length : Int) < (D.length : Int) := by omega
      have HEND := Lib.hid hb
      clear hb
      go_wp2
      go_ret
      exact ⟨rfl, HEND.out⟩
def fewG (n : Int) (L : List E) : Bool := decide (L.length ≤ 40) && (decide (chkG n L ≠ 0) || (decide (n ≤ 6) && decide (sizeG L ≤ 9)))
theorem few_len {n : Int} {L : List E} (h : fewG n L = true) : L.length ≤ 40 := by
  unfold fewG at h
  simp only [Bool.and_eq_true, decide_eq_true_eq] at h
  exact h.1
theorem few_size {n : Int} {L : List E} (h : fewG n L = true) (hk : chkG n L = 0) : n ≤ 6 ∧ sizeG L ≤ 9 := by
  unfold fewG at h
  simp only [Bool.and_eq_true, Bool.or_eq_true, decide_eq_true_eq] at h
  rcases h.2 with h1 | h1
  · exact absurd hk h1
  · exact h1
set_option maxHeartbeats 12800000 in
set_option maxRecDepth 100000 in
theorem small_long (n : Int) (a : Option Addr) (cap : Nat) (L : List E) (hl : 40 < L.length) (w : World) (h : EsAt w a L) :
    Calls Try.prog 77 #[gv n a L.length cap, .int .i64 6, .int .i64 9] w (GivesB w false) := by
  unfold GivesB gv
  obtain ⟨W, hW⟩ : ∃ W, W = w.alloc (Obj.cells #[.int .i64 n, .slice a L.length cap] 24) := ⟨_, rfl⟩
  have hB0 : Below w.heap.size w W := by rw [hW]; exact (Below.refl _ w).alloc (Nat.le_refl _) _
  have hG : Blk W w.heap.size 24 #[.int .i64 n, .slice a L.length cap] := by rw [hW]; exact Blk.new _ _ _
  have HW := Lib.hid hW
  have HB0 := Lib.hid hB0
  have hEz : EsAt W a L := h.keep hB0
  have HF : Hid (∀ x, Below W.heap.size W x → x.cell? ⟨w.heap.size, 0, none⟩ = some (.int .i64 n) ∧ x.cell? ⟨w.heap.size, 1, none⟩ = some (.slice a L.length cap) ∧ EsAt x a L) := Lib.hid fun x hx => ⟨(hG.below hx hG.lt).cell 0, (hG.below hx hG.lt).cell 1, hEz.keep hx⟩
  have hk0 : Below W.heap.size W W := Below.refl _ _
  obtain ⟨g0, g1, -⟩ := HF.out W hk0
  clear hB0 hG hW hEz h
  have l1 : (40 : Int) < (L.length : Int) := by omega
  go_enter Try.func77, Try.ntmps77
  go_wp2
  rw [← HW.out]
  go_ret
  exact ⟨rfl, HB0.out⟩
set_option maxHeartbeats 12800000 in
set_option maxRecDepth 100000 in
theorem small_err (n : Int) (a : Option Addr) (cap : Nat) (L : List E) (hl : L.length ≤ 40) (k : Nat) (hk : k ≠ 0) (HC : Hid (∀ w, EsAt w a L → Calls Try.prog 54 #[.agg #[.int .i64 n, .slice a L.length cap]] w (fun e w' => e = .returned (.int .i64 (k : Int)) ∧ Below w.heap.size w w'))) (w : World) (h : EsAt w a L) :
    Calls Try.prog 77 #[gv n a L.length cap, .int .i64 6, .int .i64 9] w (GivesB w true) := by
  unfold GivesB gv
  obtain ⟨W, hW⟩ : ∃ W, W = w.alloc (Obj.cells #[.int .i64 n, .slice a L.length cap] 24) := ⟨_, rfl⟩
  have hB0 : Below w.heap.size w W := by rw [hW]; exact (Below.refl _ w).alloc (Nat.le_refl _) _
  have hG : Blk W w.heap.size 24 #[.int .i64 n, .slice a L.length cap] := by rw [hW]; exact Blk.new _ _ _
  have HW := Lib.hid hW
  have HB0 := Lib.hid hB0
  have hEz : EsAt W a L := h.keep hB0
  have HF : Hid (∀ x, Below W.heap.size W x → x.cell? ⟨w.heap.size, 0, none⟩ = some (.int .i64 n) ∧ x.cell? ⟨w.heap.size, 1, none⟩ = some (.slice a L.length cap) ∧ EsAt x a L) := Lib.hid fun x hx => ⟨(hG.below hx hG.lt).cell 0, (hG.below hx hG.lt).cell 1, hEz.keep hx⟩
  have hk0 : Below W.heap.size W W := Below.refl _ _
  obtain ⟨g0, g1, -⟩ := HF.out W hk0
  clear hB0 hG hW hEz h
  have l1 : ¬ (40 : Int) < (L.length : Int) := by omega
  have q0 : (((k : Nat) : Int) != 0) = true := by rw [bne_iff_ne]; omega
  go_enter Try.func77, Try.ntmps77
  go_wp2_with fail
  rw [← HW.out]
  refine (HC.out _ (HF.out W hk0).2.2).mono ?_
  rintro e x1 ⟨rfl, hb1⟩
  have hk1 : Below W.heap.size W x1 := hk0.trans (hb1.mono hk0.size)
  clear hb1 hk0 g0 g1
  obtain ⟨g0, g1, -⟩ := HF.out x1 hk1
  have HEND := Lib.hid (HB0.out.trans (hk1.mono HB0.out.size))
  clear hk1 g0 g1
  go_wp2
  go_ret
  exact ⟨rfl, HEND.out⟩
set_option maxHeartbeats 12800000 in
set_option maxRecDepth 100000 in
theorem small_many (n : Int) (a : Option Addr) (cap : Nat) (L : List E) (hl : L.length ≤ 40) (hn : 6 < n) (HC : Hid (∀ w, EsAt w a L → Calls Try.prog 54 #[.agg #[.int .i64 n, .slice a L.length cap]] w (fun e w' => e = .returned (.int .i64 0) ∧ Below w.heap.size w w'))) (w : World) (h : EsAt w a L) :
    Calls Try.prog 77 #[gv n a L.length cap, .int .i64 6, .int .i64 9] w (GivesB w false) := by
  unfold GivesB gv
  obtain ⟨W, hW⟩ : ∃ W, W = w.alloc (Obj.cells #[.int .i64 n, .slice a L.length cap] 24) := ⟨_, rfl⟩
  have hB0 : Below w.heap.size w W := by rw [hW]; exact (Below.refl _ w).alloc (Nat.le_refl _) _
  have hG : Blk W w.heap.size 24 #[.int .i64 n, .slice a L.length cap] := by rw [hW]; exact Blk.new _ _ _
  have HW := Lib.hid hW
  have HB0 := Lib.hid hB0
  have hEz : EsAt W a L := h.keep hB0
  have HF : Hid (∀ x, Below W.heap.size W x → x.cell? ⟨w.heap.size, 0, none⟩ = some (.int .i64 n) ∧ x.cell? ⟨w.heap.size, 1, none⟩ = some (.slice a L.length cap) ∧ EsAt x a L) := Lib.hid fun x hx => ⟨(hG.below hx hG.lt).cell 0, (hG.below hx hG.lt).cell 1, hEz.keep hx⟩
  have hk0 : Below W.heap.size W W := Below.refl _ _
  obtain ⟨g0, g1, -⟩ := HF.out W hk0
  clear hB0 hG hW hEz h
  have l1 : ¬ (40 : Int) < (L.length : Int) := by omega
  have l2 : decide (n ≤ 6) = false := decide_eq_false (by omega)
  go_enter Try.func77, Try.ntmps77
  go_wp2_with fail
  rw [← HW.out]
  refine (HC.out _ (HF.out W hk0).2.2).mono ?_
  rintro e x1 ⟨rfl, hb1⟩
  have hk1 : Below W.heap.size W x1 := hk0.trans (hb1.mono hk0.size)
  clear hb1 hk0 g0 g1
  obtain ⟨g0, g1, -⟩ := HF.out x1 hk1
  have HEND := Lib.hid (HB0.out.trans (hk1.mono HB0.out.size))
  clear hk1
  go_wp2
  go_ret
  exact ⟨rfl, HEND.out⟩
set_option maxHeartbeats 12800000 in
set_option maxRecDepth 100000 in
theorem small_ok (n : Int) (a : Option Addr) (cap : Nat) (L : List E) (hl : L.length ≤ 40) (hn : n ≤ 6) (S : Int) (HC : Hid (∀ w, EsAt w a L → Calls Try.prog 54 #[.agg #[.int .i64 n, .slice a L.length cap]] w (fun e w' => e = .returned (.int .i64 0) ∧ Below w.heap.size w w'))) (HZ : Hid (∀ w, EsAt w a L → Calls Try.prog 93 #[.agg #[.int .i64 n, .slice a L.length cap]] w (fun e w' => e = .returned (.int .i64 S) ∧ Below w.heap.size w w'))) (w : World) (h : EsAt w a L) :
    Calls Try.prog 77 #[gv n a L.length cap, .int .i64 6, .int .i64 9] w (GivesB w (decide (S ≤ 9))) := by
  unfold GivesB gv
  obtain ⟨W, hW⟩ : ∃ W, W = w.alloc (Obj.cells #[.int .i64 n, .slice a L.length cap] 24) := ⟨_, rfl⟩
  have hB0 : Below w.heap.size w W := by rw [hW]; exact (Below.refl _ w).alloc (Nat.le_refl _) _
  have hG : Blk W w.heap.size 24 #[.int .i64 n, .slice a L.length cap] := by rw [hW]; exact Blk.new _ _ _
  have HW := Lib.hid hW
  have HB0 := Lib.hid hB0
  have hEz : EsAt W a L := h.keep hB0
  have HF : Hid (∀ x, Below W.heap.size W x → x.cell? ⟨w.heap.size, 0, none⟩ = some (.int .i64 n) ∧ x.cell? ⟨w.heap.size, 1, none⟩ = some (.slice a L.length cap) ∧ EsAt x a L) := Lib.hid fun x hx => ⟨(hG.below hx hG.lt).cell 0, (hG.below hx hG.lt).cell 1, hEz.keep hx⟩
  have hk0 : Below W.heap.size W W := Below.refl _ _
  obtain ⟨g0, g1, -⟩ := HF.out W hk0
  clear hB0 hG hW hEz h
  have l1 : ¬ (40 : Int) < (L.length : Int) := by omega
  go_enter Try.func77, Try.ntmps77
  go_wp2_with fail
  rw [← HW.out]
  refine (HC.out _ (HF.out W hk0).2.2).mono ?_
  rintro e x1 ⟨rfl, hb1⟩
  have hk1 : Below W.heap.size W x1 := hk0.trans (hb1.mono hk0.size)
  clear hb1 hk0 g0 g1
  obtain ⟨g0, g1, -⟩ := HF.out x1 hk1
  go_wp2_with fail
  refine (HZ.out _ (HF.out x1 hk1).2.2).mono ?_
  rintro e x2 ⟨rfl, hb2⟩
  have hk2 : Below W.heap.size W x2 := hk1.trans (hb2.mono hk1.size)
  clear hb2 hk1 g0 g1
  obtain ⟨g0, g1, -⟩ := HF.out x2 hk2
  have HEND := Lib.hid (HB0.out.trans (hk2.mono HB0.out.size))
  clear hk2 g0 g1
  go_wp2
  go_ret
  exact ⟨rfl, HEND.out⟩
theorem small_any (n : Int) (a : Option Addr) (cap : Nat) (L : List E) (w : World) (h : EsAt w a L) :
    Calls Try.prog 77 #[gv n a L.length cap, .int .i64 6, .int .i64 9] w (GivesB w (fewG n L)) := by
  have HF : fewG n L = (decide (L.length ≤ 40) && (decide (chkG n L ≠ 0) || (decide (n ≤ 6) && decide (sizeG L ≤ 9)))) := rfl
  by_cases hl : L.length ≤ 40
  · rw [decide_eq_true hl, Bool.true_and] at HF
    by_cases hk : chkG n L = 0
    · have hR := right_of hk
      have HC : Hid (∀ w, EsAt w a L → Calls Try.prog 54 #[.agg #[.int .i64 n, .slice a L.length cap]] w (fun e w' => e = .returned (.int .i64 0) ∧ Below w.heap.size w w')) := Lib.hid fun w h => by have := rcheck_any n a cap L (by omega) w h; rw [hk] at this; exact this
      rw [decide_eq_false (by omega), Bool.false_or] at HF
      by_cases hn : n ≤ 6
      · rw [decide_eq_true hn, Bool.true_and] at HF
        rw [HF]
        exact small_ok n a cap L hl hn (sizeG L) HC (Lib.hid fun w h => rsize_any n a cap L (by omega) hR w h) w h
      · rw [decide_eq_false hn, Bool.false_and] at HF
        rw [HF]
        exact small_many n a cap L hl (by omega) HC w h
    · rw [decide_eq_true hk, Bool.true_or] at HF
      rw [HF]
      exact small_err n a cap L hl (chkG n L) hk (Lib.hid fun w h => rcheck_any n a cap L (by omega) w h) w h
  · rw [decide_eq_false hl, Bool.false_and] at HF
    rw [HF]
    exact small_long n a cap L (by omega) w h
set_option maxHeartbeats 12800000 in
set_option maxRecDepth 100000 in
theorem few_of (n : Int) (a : Option Addr) (cap : Nat) (L : List E) (R : Bool) (HS : Hid (∀ w, EsAt w a L → Calls Try.prog 77 #[.agg #[.int .i64 n, .slice a L.length cap], .int .i64 6, .int .i64 9] w (fun e w' => e = .returned (.bool R) ∧ Below w.heap.size w w'))) (w : World) (h : EsAt w a L) :
    Calls Try.prog 48 #[gv n a L.length cap] w (GivesB w R) := by
  unfold GivesB gv
  obtain ⟨W, hW⟩ : ∃ W, W = w.alloc (Obj.cells #[.int .i64 n, .slice a L.length cap] 24) := ⟨_, rfl⟩
  have hB0 : Below w.heap.size w W := by rw [hW]; exact (Below.refl _ w).alloc (Nat.le_refl _) _
  have hG : Blk W w.heap.size 24 #[.int .i64 n, .slice a L.length cap] := by rw [hW]; exact Blk.new _ _ _
  have HW := Lib.hid hW
  have HB0 := Lib.hid hB0
  have hEz : EsAt W a L := h.keep hB0
  have HF : Hid (∀ x, Below W.heap.size W x → x.cell? ⟨w.heap.size, 0, none⟩ = some (.int .i64 n) ∧ x.cell? ⟨w.heap.size, 1, none⟩ = some (.slice a L.length cap) ∧ EsAt x a L) := Lib.hid fun x hx => ⟨(hG.below hx hG.lt).cell 0, (hG.below hx hG.lt).cell 1, hEz.keep hx⟩
  have hk0 : Below W.heap.size W W := Below.refl _ _
  obtain ⟨g0, g1, -⟩ := HF.out W hk0
  clear hB0 hG hW hEz h
  go_enter Try.func48, Try.ntmps48
  go_wp2_with fail
  rw [← HW.out]
  refine (HS.out _ (HF.out W hk0).2.2).mono ?_
  rintro e x1 ⟨rfl, hb1⟩
  have hk1 : Below W.heap.size W x1 := hk0.trans (hb1.mono hk0.size)
  clear hb1 hk0 g0 g1
  obtain ⟨g0, g1, -⟩ := HF.out x1 hk1
  have HEND := Lib.hid (HB0.out.trans (hk1.mono HB0.out.size))
  clear hk1 g0 g1
  go_wp2
  go_ret
  exact ⟨rfl, HEND.out⟩
theorem few_any (n : Int) (a : Option Addr) (cap : Nat) (L : List E) (w : World) (h : EsAt w a L) :
    Calls Try.prog 48 #[gv n a L.length cap] w (GivesB w (fewG n L)) :=
  few_of n a cap L (fewG n L) (Lib.hid fun w h => small_any n a cap L w h) w h
theorem FewHid {n : Int} {a : Option Addr} {cap : Nat} {L : List E} {b : Bool} (h : fewG n L = b) : Hid (∀ w, EsAt w a L → Calls Try.prog 48 #[.agg #[.int .i64 n, .slice a L.length cap]] w (fun e w' => e = .returned (.bool b) ∧ Below w.heap.size w w')) :=
  Lib.hid fun w hE => by have := few_any n a cap L w hE; rw [h] at this; exact this
def smallD (D : List Int) : Bool := D.all fun z => decide (-60 ≤ z) && decide (z ≤ 60)
theorem small_iff (D : List Int) : smallD D = true ↔ ∀ j, j < D.length → -60 ≤ iAt D j ∧ iAt D j ≤ 60 := by
  unfold smallD
  rw [List.all_eq_true]
  constructor
  · intro h j hj; have := h _ (List.getElem_mem hj); rw [iAt_get D j hj] at this; simpa using this
  · intro h z hz
    obtain ⟨j, hj, rfl⟩ := List.getElem_of_mem hz
    rw [iAt_get D j hj]; simpa using h j hj
theorem small_no {D : List Int} (j : Nat) (hj : j < D.length) (h : ¬ (-60 ≤ iAt D j ∧ iAt D j ≤ 60)) : smallD D = false := by
  cases hp : smallD D with
  | false => rfl
  | true => exact absurd ((small_iff D).1 hp j hj) h
set_option maxHeartbeats 12800000 in
set_option maxRecDepth 100000 in
theorem rSmall_any (a : Option Addr) (c : Nat) (D : List Int) (hD : D.length ≤ 1000) (w : World) (h : IsAt w a D) :
    Calls Try.prog 41 #[.slice a D.length c] w (fun e w' => e = .returned (.bool (smallD D)) ∧ Below w.heap.size w w') := by
  have HE := Lib.hid h
  have HNO := Lib.hid (fun j hj h => small_no (D := D) j hj h)
  have HYES := Lib.hid ((small_iff D).2)
  generalize smallD D = R at *
  clear h
  go_enter Try.func41, Try.ntmps41
  go_wp2
  go_loopw [3] (fun x wr => ∃ i : Nat, i ≤ D.length ∧ x = .int .i64 i ∧ (∀ j, j < i → -60 ≤ iAt D j ∧ iAt D j ≤ 60) ∧ Below w.heap.size w wr) (fun x _ => D.length - (intOf x).toNat)
  case atStart => exact ⟨0, by omega, rfl, fun j hj => by omega, Below.refl _ _⟩
  case round =>
    obtain ⟨i, hi, rfl, hz, hb⟩ := hrel
    have HZ := Lib.hid hz
    have HB := Lib.hid hb
    by_cases hlt : i < D.length
    · have i1 : (i : Int) < (D.length : Int) := by omega
      have i2 : (0 : Int) ≤ (i : Int) := by omega
      obtain ⟨b1, o1, hb1, q1, x1⟩ := (HE.out.keep hb).one i hlt
      subst hb1
      have HTI := Lib.hid (HNO.out i hlt)
      have HZN : Hid (-60 ≤ iAt D i ∧ iAt D i ≤ 60 → ∀ j, j < i + 1 → -60 ≤ iAt D j ∧ iAt D j ≤ 60) := Lib.hid fun h0 j hj => by
        by_cases e : j = i
        · subst e; exact h0
        · exact HZ.out j (by omega)
      generalize iAt D i = z at *
      clear hz hb
      by_cases h0 : z < -60
      · have d1 : decide (z < -60) = true := decide_eq_true h0
        have HR := Lib.hid (HTI.out (by omega))
        go_wp2
        go_ret
        exact ⟨by rw [HR.out]; rfl, HB.out⟩
      · have d1 : decide (z < -60) = false := decide_eq_false h0
        by_cases h2 : 60 < z
        · have d2 : decide (60 < z) = true := decide_eq_true h2
          have HR := Lib.hid (HTI.out (by omega))
          go_wp2
          go_ret
          exact ⟨by rw [HR.out]; rfl, HB.out⟩
        · have d2 : decide (60 < z) = false := decide_eq_false h2
          have HR := Lib.hid (HZN.out (by omega))
          go_wp2
          go_roundw
          case rel => exact ⟨i + 1, by omega, by go_num, HR.out, HB.out⟩
          case measure => simp [intOf]; omega
    · obtain rfl : i = D.length := by omega
      have i1 : ¬ (D.length : Int) < (D.length : Int) := by omega
      have HR := Lib.hid (HYES.out hz)
      clear hz hb
      go_wp2
      go_ret
      exact ⟨by rw [HR.out]; rfl, HB.out⟩
theorem LsAt.at {u : World} {a : Option Addr} {M : List (List Int)} (h : LsAt u a M) (i : Nat) (hi : i < M.length) : ∃ b o x y, a = some ⟨b, o, none⟩ ∧ b < u.heap.size ∧ u.cell? ⟨b, o + i, none⟩ = some (.slice x (M.getD i []).length y) ∧ IsAt u x (M.getD i []) := by
  obtain ⟨X, rfl, hr, hb⟩ := h
  rw [List.length_map] at hi
  obtain ⟨b, o, e, hlt, hc⟩ := hr.div i hi
  have hg : (X.map DX.b).getD i [] = (xAt X i).b := by rw [List.getD_eq_getElem?_getD, List.getElem?_map, List.getElem?_eq_getElem hi, xAt_get X i hi]; rfl
  refine ⟨b, o, (xAt X i).a, (xAt X i).c, e, hlt, ?_, ?_⟩
  · rw [hg]; exact hc
  · rw [hg, ← xAt_get X i hi]; exact hb _ (List.getElem_mem hi)
set_option maxHeartbeats 12800000 in
set_option maxRecDepth 100000 in
theorem rSameSets_true (a b : Option Addr) (c d : Nat) (M : List (List Int)) (hM : M.length ≤ 100000) (hl1 : ∀ i, i < M.length → (M.getD i []).length ≤ 1000) (w : World) (h1 : LsAt w a M) (h2 : LsAt w b M) :
    Calls Try.prog 40 #[.slice a M.length c, .slice b M.length d] w (fun e w' => e = .returned (.bool (true)) ∧ Below w.heap.size w w') := by
  have H1 := Lib.hid h1
  have H2 := Lib.hid h2
  have HL1 := Lib.hid hl1
  clear h1 h2 hl1
  go_enter Try.func40, Try.ntmps40
  have d0 : ((M.length : Int) != (M.length : Int)) = false := by simp
  · skip
    go_wp2
    go_loopw [5] (fun x wr => ∃ i : Nat, i ≤ M.length ∧ x = .int .i64 i ∧ Below w.heap.size w wr) (fun x _ => M.length - (intOf x).toNat)
    case atStart => exact ⟨0, by omega, rfl, Below.refl _ _⟩
    case round =>
      obtain ⟨i, hi, rfl, hb⟩ := hrel
      have HBr := Lib.hid hb
      by_cases hlt : i < M.length
      · have i1 : (i : Int) < (M.length : Int) := by omega
        have i2 : (0 : Int) ≤ (i : Int) := by omega
        skip
        have HLT := Lib.hid hlt
        obtain ⟨b1, o1, xa, xc, hb1, q1, x1, r1⟩ := (H1.out.keep hb).at i hlt
        obtain ⟨b2, o2, ya, yc, hb2, q2, x2, r2⟩ := (H2.out.keep hb).at i (hlt)
        subst hb1 hb2
        have HXY : Hid (∀ u, Below wr.heap.size wr u → u.cell? ⟨b1, o1 + i, none⟩ = some (.slice xa (M.getD i []).length xc) ∧ u.cell? ⟨b2, o2 + i, none⟩ = some (.slice ya (M.getD i []).length yc)) := Lib.hid fun u hu => ⟨(hu.cell (p := ⟨b1, o1 + i, none⟩) q1).trans x1, (hu.cell (p := ⟨b2, o2 + i, none⟩) q2).trans x2⟩
        have HSM := Lib.hid (fun u h1 h2 => rsameI_true xa ya xc yc (M.getD i []) (by have := HL1.out i hlt; omega) u h1 h2)
        have HR1 := Lib.hid r1
        have HR2 := Lib.hid r2
        clear hb x1 x2 r1 r2 hlt
        generalize M.getD i [] = O at *
        go_wp2
        have hj0 : Below wr.heap.size wr wr.drew := (Below.refl _ _).drew
        refine wp_region_late (S := fun u => Below wr.heap.size wr u) (X := []) (by kernel_rfl) ?_
        refine wpAnyL_pureD (i := 0) 17 (.slice (some ⟨b1, o1, none⟩) M.length c) rfl rfl (by kernel_rfl) (by kernel_rfl) (by kernel_rfl) (fun _ _ _ h => h) (Or.inl ⟨by rfl, fun u _ => ?_⟩) ?_
        · go_simp
        try simp only [Act.put, List.setIfInBounds_toArray, List.set_cons_zero, List.set_cons_succ]
        refine wpAnyL_pureD (i := 1) 18 (.int .i64 i) rfl rfl (by kernel_rfl) (by kernel_rfl) (by kernel_rfl) (fun _ _ _ h => h) (Or.inl ⟨by rfl, fun u _ => ?_⟩) ?_
        · go_simp
        try simp only [Act.put, List.setIfInBounds_toArray, List.set_cons_zero, List.set_cons_succ]
        refine wpAnyL_pureD (i := 2) 19 (.pointer (some ⟨b1, o1 + i, none⟩)) rfl rfl (by kernel_rfl) (by kernel_rfl) (by kernel_rfl) (fun _ _ _ h => h) (Or.inl ⟨by rfl, fun u _ => ?_⟩) ?_
        · go_simp
        try simp only [Act.put, List.setIfInBounds_toArray, List.set_cons_zero, List.set_cons_succ]
        refine wpAnyL_takeD (i := 3) 20 (.slice xa O.length xc) rfl rfl (by kernel_rfl) (by kernel_rfl) (by kernel_rfl) (by kernel_rfl) (by kernel_rfl) (fun _ _ _ h => h) hj0 (Or.inl ⟨by rfl, fun u hu => ?_⟩) ?_
        · obtain ⟨t0, t1⟩ := HXY.out u hu
          go_simp
        try simp only [Act.put, List.setIfInBounds_toArray, List.set_cons_zero, List.set_cons_succ]
        refine wpAnyL_pureD (i := 4) 21 (.slice (some ⟨b2, o2, none⟩) M.length d) rfl rfl (by kernel_rfl) (by kernel_rfl) (by kernel_rfl) (fun _ _ _ h => h) (Or.inl ⟨by rfl, fun u _ => ?_⟩) ?_
        · go_simp
        try simp only [Act.put, List.setIfInBounds_toArray, List.set_cons_zero, List.set_cons_succ]
        refine wpAnyL_pureD (i := 5) 22 (.int .i64 i) rfl rfl (by kernel_rfl) (by kernel_rfl) (by kernel_rfl) (fun _ _ _ h => h) (Or.inl ⟨by rfl, fun u _ => ?_⟩) ?_
        · go_simp
        try simp only [Act.put, List.setIfInBounds_toArray, List.set_cons_zero, List.set_cons_succ]
        refine wpAnyL_pureD (i := 6) 23 (.pointer (some ⟨b2, o2 + i, none⟩)) rfl rfl (by kernel_rfl) (by kernel_rfl) (by kernel_rfl) (fun _ _ _ h => h) (Or.inl ⟨by rfl, fun u _ => ?_⟩) ?_
        · go_simp
        try simp only [Act.put, List.setIfInBounds_toArray, List.set_cons_zero, List.set_cons_succ]
        refine wpAnyL_takeD (i := 7) 24 (.slice ya O.length yc) rfl rfl (by kernel_rfl) (by kernel_rfl) (by kernel_rfl) (by kernel_rfl) (by kernel_rfl) (fun _ _ _ h => h) hj0 (Or.inl ⟨by rfl, fun u hu => ?_⟩) ?_
        · obtain ⟨t0, t1⟩ := HXY.out u hu
          go_simp
        try simp only [Act.put, List.setIfInBounds_toArray, List.set_cons_zero, List.set_cons_succ]
        refine wpAnyL_one (i := 8) (by kernel_rfl) rfl (fun K hK => ?_)
        go_simp
        go_at_call 75
        refine (HSM.out _ (HR1.out.keep hj0) (HR2.out.keep hj0)).mono ?_
        rintro e y ⟨rfl, hb⟩
        have hj1 : Below wr.heap.size wr y := hj0.trans (hb.mono hj0.size)
        show K _ _
        refine hK.out _ _ (fun _ _ => hj1) ?_
        clear hK K
        try simp only [Act.put, List.setIfInBounds_toArray, List.set_cons_zero, List.set_cons_succ]
        refine wpAnyL_pureD (i := 9) 26 (.bool false) rfl rfl (by kernel_rfl) (by kernel_rfl) (by kernel_rfl) (fun _ _ _ h => h) (Or.inl ⟨by rfl, fun u _ => ?_⟩) ?_
        · go_simp
        try simp only [Act.put, List.setIfInBounds_toArray, List.set_cons_zero, List.set_cons_succ]
        refine wpAnyL_done (by kernel_rfl) ?_ _
        try simp only [Act.put, List.setIfInBounds_toArray, List.set_cons_zero, List.set_cons_succ]
        have HBN := Lib.hid (HBr.out.trans (hj1.mono HBr.out.size))
        clear hj0 hj1 hb
        go_wp2
        go_roundw
        case rel => exact ⟨i + 1, by have := HLT.out; omega, by go_num, HBN.out⟩
        case measure => have := HLT.out; simp [intOf]; omega
      · obtain rfl : i = M.length := by omega
        have i1 : ¬ (M.length : Int) < (M.length : Int) := by omega
        clear hb
        go_wp2
        go_ret
        exact ⟨rfl, HBr.out⟩
set_option maxHeartbeats 12800000 in
set_option maxRecDepth 100000 in
theorem rSameScr_any (a b : Option Addr) (c d : Nat) (A B : List Int) (hA : A.length ≤ 1000) (hB : B.length ≤ 1000) (w : World) (h1 : IsAt w a A) (h2 : IsAt w b B) :
    Calls Try.prog 37 #[.slice a A.length c, .slice b B.length d] w (fun e w' => e = .returned (.bool (decide (A = B))) ∧ Below w.heap.size w w') := by
  have HC := Lib.hid (rSame_any a b c d A B hA hB w h1 h2)
  generalize decide (A = B) = R at *
  clear h1 h2
  go_enter Try.func37, Try.ntmps37
  go_wp2_with fail
  refine HC.out.mono ?_
  rintro e w1 ⟨rfl, hb⟩
  have HB := Lib.hid hb
  clear hb
  go_wp2
  go_ret
  exact ⟨rfl, HB.out⟩
def fewD (n : Int) (L : List E) (D : List Int) : Bool := fewG n L && decide (D.length ≤ 24)
set_option maxHeartbeats 12800000 in
set_option maxRecDepth 100000 in
theorem rFewD_any (n : Int) (a : Option Addr) (cap : Nat) (L : List E) (b : Option Addr) (c : Nat) (D : List Int) (w : World) (h : EsAt w a L) :
    Calls Try.prog 12 #[gv n a L.length cap, .slice b D.length c] w (fun e w' => e = .returned (.bool (fewD n L D)) ∧ Below w.heap.size w w') := by
  have HG := Lib.hid (fun w h => few_any n a cap L w h)
  have HD := Lib.hid (fun w => rFew_any b D.length c w)
  have HE : Hid (fewD n L D = (fewG n L && decide (D.length ≤ 24))) := Lib.hid rfl
  unfold GivesB gv at *
  generalize fewD n L D = R at *
  generalize decide (D.length ≤ 24) = r2 at *
  obtain ⟨W, hW⟩ : ∃ W, W = w.alloc (Obj.cells #[.int .i64 n, .slice a L.length cap] 24) := ⟨_, rfl⟩
  have hB0 : Below w.heap.size w W := by rw [hW]; exact (Below.refl _ w).alloc (Nat.le_refl _) _
  have hG : Blk W w.heap.size 24 #[.int .i64 n, .slice a L.length cap] := by rw [hW]; exact Blk.new _ _ _
  have hWs : W.heap.size = w.heap.size + 1 := by rw [hW]; simp
  have HW := Lib.hid hW
  have HWS := Lib.hid hWs
  have HB0 := Lib.hid hB0
  have HEG := Lib.hid (h.keep hB0)
  have HF : Hid (∀ u, Below W.heap.size W u → u.cell? ⟨w.heap.size, 0, none⟩ = some (.int .i64 n) ∧ u.cell? ⟨w.heap.size, 1, none⟩ = some (.slice a L.length cap)) := Lib.hid fun u hu => ⟨(hG.below hu hG.lt).cell 0, (hG.below hu hG.lt).cell 1⟩
  obtain ⟨g0, g1⟩ := HF.out W (Below.refl _ _)
  clear hB0 hG hW hWs h
  cases hg : fewG n L with
  | true =>
    rw [hg] at HG HE
    rw [Bool.true_and] at HE
    go_enter Try.func12, Try.ntmps12
    go_wp2_with fail
    rw [← HW.out]
    refine (HG.out _ HEG.out).mono ?_
    rintro e w1 ⟨rfl, hb⟩
    have HB1 := Lib.hid (HB0.out.trans (hb.mono HB0.out.size))
    clear hb g0 g1
    go_wp2_with fail
    refine (HD.out _).mono ?_
    rintro e w2 ⟨rfl, rfl⟩
    go_wp2
    go_ret
    exact ⟨by rw [HE.out]; rfl, HB1.out⟩
  | false =>
    rw [hg] at HG HE
    rw [Bool.false_and] at HE
    go_enter Try.func12, Try.ntmps12
    go_wp2_with fail
    rw [← HW.out]
    refine (HG.out _ HEG.out).mono ?_
    rintro e w1 ⟨rfl, hb⟩
    have HB1 := Lib.hid (HB0.out.trans (hb.mono HB0.out.size))
    clear hb g0 g1
    go_wp2
    go_ret
    exact ⟨by rw [HE.out]; rfl, HB1.out⟩
def fewM (l : Nat) : Bool := decide (l ≤ 80) || (decide (4096 < l) && decide (l ≤ 8192))
set_option maxHeartbeats 12800000 in
set_option maxRecDepth 100000 in
theorem rFewM_any (a : Option Addr) (l c : Nat) (w : World) :
    Calls Try.prog 32 #[.slice a l c] w (fun e w' => e = .returned (.bool (fewM l)) ∧ w = w') := by
  have HE : Hid (fewM l = (decide (l ≤ 80) || (decide (4096 < l) && decide (l ≤ 8192)))) := Lib.hid rfl
  generalize fewM l = R at *
  by_cases h1 : l ≤ 80
  · have i1 : (l : Int) ≤ 80 := by omega
    have HR : Hid (R = true) := Lib.hid (by rw [HE.out, decide_eq_true h1]; rfl)
    go_enter Try.func32, Try.ntmps32
    go_wp2
    go_ret
    exact ⟨by rw [HR.out]; rfl, rfl⟩
  · have i1 : ¬ (l : Int) ≤ 80 := by omega
    by_cases h2 : 4096 < l
    · have i2 : (l : Int) > 4096 := by omega
      by_cases h3 : l ≤ 8192
      · have i3 : (l : Int) ≤ 8192 := by omega
        have HR : Hid (R = true) := Lib.hid (by rw [HE.out, decide_eq_true h3, decide_eq_true h2]; simp)
        go_enter Try.func32, Try.ntmps32
        go_wp2
        go_ret
        exact ⟨by rw [HR.out]; first | rfl | simp [i3] | simp, rfl⟩
      · have i3 : ¬ (l : Int) ≤ 8192 := by omega
        have HR : Hid (R = false) := Lib.hid (by rw [HE.out, decide_eq_false h1, decide_eq_false h3]; simp)
        go_enter Try.func32, Try.ntmps32
        go_wp2
        go_ret
        exact ⟨by rw [HR.out]; first | rfl | simp [i3] | simp, rfl⟩
    · have i2 : ¬ (l : Int) > 4096 := by omega
      have HR : Hid (R = false) := Lib.hid (by rw [HE.out, decide_eq_false h1, decide_eq_false h2]; rfl)
      go_enter Try.func32, Try.ntmps32
      go_wp2
      go_ret
      exact ⟨by rw [HR.out]; rfl, rfl⟩
def smlD (n : Int) (L : List E) (D : List Int) : Bool := fewD n L D && decide (chkGD n L D = 0) && smallD D
set_option maxHeartbeats 12800000 in
set_option maxRecDepth 100000 in
theorem small18_any (n : Int) (a : Option Addr) (cap : Nat) (L : List E) (b : Option Addr) (c : Nat) (D : List Int) (w : World) (h : EsAt w a L) (ho : IsAt w b D) :
    Calls Try.prog 42 #[gv n a L.length cap, .slice b D.length c] w (fun e w' => e = .returned (.bool (smlD n L D)) ∧ Below w.heap.size w w') := by
  have HG := Lib.hid (fun w h => rFewD_any n a cap L b c D w h)
  have HE : Hid (smlD n L D = (fewD n L D && decide (chkGD n L D = 0) && smallD D)) := Lib.hid rfl
  have HGI : Hid (fewD n L D = true → ∀ u, EsAt u a L → IsAt u b D → Calls Try.prog 57 #[gv n a L.length cap, .slice b D.length c] u (fun e w' => e = .returned (.int .i64 (chkGD n L D : Nat)) ∧ Below u.heap.size u w')) := Lib.hid fun hf u h1 h2 => by
    unfold fewD at hf
    rw [Bool.and_eq_true, decide_eq_true_iff] at hf
    have := few_len hf.1
    exact rGiven_any n a cap L (by omega) b c D (by omega) u h1 h2
  have HSD : Hid (fewD n L D = true → ∀ u, IsAt u b D → Calls Try.prog 41 #[.slice b D.length c] u (fun e w' => e = .returned (.bool (smallD D)) ∧ Below u.heap.size u w')) := Lib.hid fun hf u h1 => by
    unfold fewD at hf
    rw [Bool.and_eq_true, decide_eq_true_iff] at hf
    exact rSmall_any b c D (by omega) u h1
  unfold gv at *
  generalize smlD n L D = R at *
  generalize smallD D = sm at *
  generalize chkGD n L D = k at *
  have HO0 := Lib.hid ho
  obtain ⟨W, hW⟩ : ∃ W, W = w.alloc (Obj.cells #[.int .i64 n, .slice a L.length cap] 24) := ⟨_, rfl⟩
  have hB0 : Below w.heap.size w W := by rw [hW]; exact (Below.refl _ w).alloc (Nat.le_refl _) _
  have hG : Blk W w.heap.size 24 #[.int .i64 n, .slice a L.length cap] := by rw [hW]; exact Blk.new _ _ _
  have hWs : W.heap.size = w.heap.size + 1 := by rw [hW]; simp
  have HW := Lib.hid hW
  have HWS := Lib.hid hWs
  have HB0 := Lib.hid hB0
  have HEG := Lib.hid (h.keep hB0)
  have HF : Hid (∀ u, Below W.heap.size W u → u.cell? ⟨w.heap.size, 0, none⟩ = some (.int .i64 n) ∧ u.cell? ⟨w.heap.size, 1, none⟩ = some (.slice a L.length cap)) := Lib.hid fun u hu => ⟨(hG.below hu hG.lt).cell 0, (hG.below hu hG.lt).cell 1⟩
  obtain ⟨g0, g1⟩ := HF.out W (Below.refl _ _)
  clear hB0 hG hW hWs h
  have HO1 : Hid (IsAt W b D) := Lib.hid (HO0.out.keep HB0.out)
  clear ho
  cases hg : fewD n L D with
  | true =>
    rw [hg] at HG HE
    have HG1 := Lib.hid (HGI.out hg)
    have HS1 := Lib.hid (HSD.out hg)
    rw [Bool.true_and] at HE
    clear HGI HSD
    by_cases hk : k = 0
    · subst hk
      rw [decide_eq_true rfl, Bool.true_and] at HE
      go_enter Try.func42, Try.ntmps42
      go_wp2_with fail
      rw [← HW.out]
      refine (HG.out _ HEG.out).mono ?_
      rintro e w1 ⟨rfl, hb⟩
      have HB1 := Lib.hid hb
      clear g0 g1
      obtain ⟨g0, g1⟩ := HF.out w1 hb
      clear hb
      go_wp2_with fail
      refine (HG1.out _ (HEG.out.keep HB1.out) (HO1.out.keep HB1.out)).mono ?_
      rintro e w2 ⟨rfl, hb⟩
      have HB2 := Lib.hid (HB1.out.trans (hb.mono HB1.out.size))
      clear hb g0 g1
      go_wp2_with fail
      refine (HS1.out _ (HO1.out.keep HB2.out)).mono ?_
      rintro e w3 ⟨rfl, hb⟩
      have HB3 := Lib.hid (HB2.out.trans (hb.mono HB2.out.size))
      clear hb
      go_wp2
      go_ret
      exact ⟨by rw [HE.out]; rfl, HB0.out.trans (HB3.out.mono HB0.out.size)⟩
    · have q0 : (((k : Nat) : Int) == 0) = false := by rw [beq_eq_false_iff_ne]; omega
      rw [decide_eq_false hk, Bool.false_and] at HE
      clear hk
      go_enter Try.func42, Try.ntmps42
      go_wp2_with fail
      rw [← HW.out]
      refine (HG.out _ HEG.out).mono ?_
      rintro e w1 ⟨rfl, hb⟩
      have HB1 := Lib.hid hb
      clear g0 g1
      obtain ⟨g0, g1⟩ := HF.out w1 hb
      clear hb
      go_wp2_with fail
      refine (HG1.out _ (HEG.out.keep HB1.out) (HO1.out.keep HB1.out)).mono ?_
      rintro e w2 ⟨rfl, hb⟩
      have HB2 := Lib.hid (HB1.out.trans (hb.mono HB1.out.size))
      clear hb g0 g1
      go_wp2
      go_ret
      exact ⟨by rw [HE.out]; rfl, HB0.out.trans (HB2.out.mono HB0.out.size)⟩
  | false =>
    rw [hg] at HG HE
    rw [Bool.false_and, Bool.false_and] at HE
    clear HGI HSD
    go_enter Try.func42, Try.ntmps42
    go_wp2_with fail
    rw [← HW.out]
    refine (HG.out _ HEG.out).mono ?_
    rintro e w1 ⟨rfl, hb⟩
    have HB1 := Lib.hid (HB0.out.trans (hb.mono HB0.out.size))
    clear hb g0 g1
    go_wp2
    go_ret
    exact ⟨by rw [HE.out]; rfl, HB1.out⟩
end Go.Proofs.Ytgejkgeojjgclaa
