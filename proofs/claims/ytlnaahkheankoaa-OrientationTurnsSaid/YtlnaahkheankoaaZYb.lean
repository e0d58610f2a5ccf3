/- The law of turns: directed sets and reversed single edges. -/
import Derived.Test.YtlnaahkheankoaaZYa
import Derived.Test.YtlnaahkheankoaaZAa
import Derived.Test.YtlnaahkheankoaaZAb
namespace Go.Proofs.Ytlnaahkheankoaa
open Go.RowKit Go.Shelf Go.Proofs.Gr
attribute [local go_sem] Oper.semAt_some

set_option maxHeartbeats 12800000 in
set_option maxRecDepth 100000 in
theorem turns_dark (n : Int) (a : Option Addr) (cap : Nat) (L : List E) (b : Option Addr) (c : Nat) (O : List Bool) (s : Option Addr) (d : Nat) (S : List Int)  (HFW : Hid (∀ w, EsAt w a L → Calls Try.prog 12 #[.agg #[.int .i64 n, .slice a L.length cap]] w (fun e w' => e = .returned (.bool false) ∧ Below w.heap.size w w'))) (HA : Awake14) (w : World) (h : EsAt w a L) (ho : BsAt w b O) (hs : IsAt w s S) :
    Calls Try.prog 6 #[gv n a L.length cap, .slice b O.length c, .slice s S.length d] w (GivesB w true) := by
  unfold GivesB gv
  obtain ⟨W, hW⟩ : ∃ W, W = w.alloc (Obj.cells #[.int .i64 n, .slice a L.length cap] 24) := ⟨_, rfl⟩
  have hB0 : Below w.heap.size w W := by rw [hW]; exact (Below.refl _ w).alloc (Nat.le_refl _) _
  have hG : Blk W w.heap.size 24 #[.int .i64 n, .slice a L.length cap] := by rw [hW]; exact Blk.new _ _ _
  have HW := Lib.hid hW
  have HB0 := Lib.hid hB0
  have hEz : EsAt W a L := h.keep hB0
  have hOz : BsAt W b O := ho.keep hB0
  have hSz : IsAt W s S := hs.keep hB0
  have HF : Hid (∀ x, Below W.heap.size W x → x.cell? ⟨w.heap.size, 0, none⟩ = some (.int .i64 n) ∧ x.cell? ⟨w.heap.size, 1, none⟩ = some (.slice a L.length cap) ∧ EsAt x a L ∧ BsAt x b O ∧ IsAt x s S) := Lib.hid fun x hx => ⟨(hG.below hx hG.lt).cell 0, (hG.below hx hG.lt).cell 1, hEz.keep hx, hOz.keep hx, hSz.keep hx⟩
  have hk0 : Below W.heap.size W W := Below.refl _ _
  obtain ⟨g0, g1, -⟩ := HF.out W hk0
  clear hB0 hG hW hEz h hOz ho hSz hs
  go_enter Try.func6, Try.ntmps6
  go_wp2_with fail
  rw [← HW.out]
  refine (HFW.out _ (HF.out W hk0).2.2.1).mono ?_
  rintro e x1 ⟨rfl, hb1⟩
  have hk1 : Below W.heap.size W x1 := hk0.trans (hb1.mono hk0.size)
  clear hb1 hk0 g0 g1
  obtain ⟨g0, g1, -⟩ := HF.out x1 hk1
  go_wp2_with fail
  refine (HA _).mono ?_
  rintro e x2 ⟨rfl, hb2⟩
  have hk2 : Below W.heap.size W x2 := hk1.trans (hb2.mono hk1.size)
  clear hb2 hk1 g0 g1
  obtain ⟨g0, g1, -⟩ := HF.out x2 hk2
  have HEND := Lib.hid (HB0.out.trans (hk2.mono HB0.out.size))
  clear hk2 g0 g1
  go_wp2
  go_ret
  exact ⟨rfl, HEND.out⟩
set_option maxHeartbeats 12800000 in
set_option maxRecDepth 100000 in
theorem turns_long (n : Int) (a : Option Addr) (cap : Nat) (L : List E) (b : Option Addr) (c : Nat) (O : List Bool) (s : Option Addr) (d : Nat) (S : List Int) (hl : 100 < O.length) (HFW : Hid (∀ w, EsAt w a L → Calls Try.prog 12 #[.agg #[.int .i64 n, .slice a L.length cap]] w (fun e w' => e = .returned (.bool true) ∧ Below w.heap.size w w'))) (HA : Awake14) (w : World) (h : EsAt w a L) (ho : BsAt w b O) (hs : IsAt w s S) :
    Calls Try.prog 6 #[gv n a L.length cap, .slice b O.length c, .slice s S.length d] w (GivesB w true) := by
  unfold GivesB gv
  obtain ⟨W, hW⟩ : ∃ W, W = w.alloc (Obj.cells #[.int .i64 n, .slice a L.length cap] 24) := ⟨_, rfl⟩
  have hB0 : Below w.heap.size w W := by rw [hW]; exact (Below.refl _ w).alloc (Nat.le_refl _) _
  have hG : Blk W w.heap.size 24 #[.int .i64 n, .slice a L.length cap] := by rw [hW]; exact Blk.new _ _ _
  have HW := Lib.hid hW
  have HB0 := Lib.hid hB0
  have hEz : EsAt W a L := h.keep hB0
  have hOz : BsAt W b O := ho.keep hB0
  have hSz : IsAt W s S := hs.keep hB0
  have HF : Hid (∀ x, Below W.heap.size W x → x.cell? ⟨w.heap.size, 0, none⟩ = some (.int .i64 n) ∧ x.cell? ⟨w.heap.size, 1, none⟩ = some (.slice a L.length cap) ∧ EsAt x a L ∧ BsAt x b O ∧ IsAt x s S) := Lib.hid fun x hx => ⟨(hG.below hx hG.lt).cell 0, (hG.below hx hG.lt).cell 1, hEz.keep hx, hOz.keep hx, hSz.keep hx⟩
  have hk0 : Below W.heap.size W W := Below.refl _ _
  obtain ⟨g0, g1, -⟩ := HF.out W hk0
  clear hB0 hG hW hEz h hOz ho hSz hs
  have l1 : (100 : Int) < (O.length : Int) := by omega
  go_enter Try.func6, Try.ntmps6
  go_wp2_with fail
  rw [← HW.out]
  refine (HFW.out _ (HF.out W hk0).2.2.1).mono ?_
  rintro e x1 ⟨rfl, hb1⟩
  have hk1 : Below W.heap.size W x1 := hk0.trans (hb1.mono hk0.size)
  clear hb1 hk0 g0 g1
  obtain ⟨g0, g1, -⟩ := HF.out x1 hk1
  go_wp2_with fail
  refine (HA _).mono ?_
  rintro e x2 ⟨rfl, hb2⟩
  have hk2 : Below W.heap.size W x2 := hk1.trans (hb2.mono hk1.size)
  clear hb2 hk1 g0 g1
  obtain ⟨g0, g1, -⟩ := HF.out x2 hk2
  have HEND := Lib.hid (HB0.out.trans (hk2.mono HB0.out.size))
  clear hk2 g0 g1
  go_wp2
  go_ret
  exact ⟨rfl, HEND.out⟩
set_option maxHeartbeats 12800000 in
set_option maxRecDepth 100000 in
theorem turns_long2 (n : Int) (a : Option Addr) (cap : Nat) (L : List E) (b : Option Addr) (c : Nat) (O : List Bool) (s : Option Addr) (d : Nat) (S : List Int) (hl : ¬ 100 < O.length) (hl2 : 100 < S.length) (HFW : Hid (∀ w, EsAt w a L → Calls Try.prog 12 #[.agg #[.int .i64 n, .slice a L.length cap]] w (fun e w' => e = .returned (.bool true) ∧ Below w.heap.size w w'))) (HA : Awake14) (w : World) (h : EsAt w a L) (ho : BsAt w b O) (hs : IsAt w s S) :
    Calls Try.prog 6 #[gv n a L.length cap, .slice b O.length c, .slice s S.length d] w (GivesB w true) := by
  unfold GivesB gv
  obtain ⟨W, hW⟩ : ∃ W, W = w.alloc (Obj.cells #[.int .i64 n, .slice a L.length cap] 24) := ⟨_, rfl⟩
  have hB0 : Below w.heap.size w W := by rw [hW]; exact (Below.refl _ w).alloc (Nat.le_refl _) _
  have hG : Blk W w.heap.size 24 #[.int .i64 n, .slice a L.length cap] := by rw [hW]; exact Blk.new _ _ _
  have HW := Lib.hid hW
  have HB0 := Lib.hid hB0
  have hEz : EsAt W a L := h.keep hB0
  have hOz : BsAt W b O := ho.keep hB0
  have hSz : IsAt W s S := hs.keep hB0
  have HF : Hid (∀ x, Below W.heap.size W x → x.cell? ⟨w.heap.size, 0, none⟩ = some (.int .i64 n) ∧ x.cell? ⟨w.heap.size, 1, none⟩ = some (.slice a L.length cap) ∧ EsAt x a L ∧ BsAt x b O ∧ IsAt x s S) := Lib.hid fun x hx => ⟨(hG.below hx hG.lt).cell 0, (hG.below hx hG.lt).cell 1, hEz.keep hx, hOz.keep hx, hSz.keep hx⟩
  have hk0 : Below W.heap.size W W := Below.refl _ _
  obtain ⟨g0, g1, -⟩ := HF.out W hk0
  clear hB0 hG hW hEz h hOz ho hSz hs
  have l1 : ¬ (100 : Int) < (O.length : Int) := by omega
  have l2 : (100 : Int) < (S.length : Int) := by omega
  go_enter Try.func6, Try.ntmps6
  go_wp2_with fail
  rw [← HW.out]
  refine (HFW.out _ (HF.out W hk0).2.2.1).mono ?_
  rintro e x1 ⟨rfl, hb1⟩
  have hk1 : Below W.heap.size W x1 := hk0.trans (hb1.mono hk0.size)
  clear hb1 hk0 g0 g1
  obtain ⟨g0, g1, -⟩ := HF.out x1 hk1
  go_wp2_with fail
  refine (HA _).mono ?_
  rintro e x2 ⟨rfl, hb2⟩
  have hk2 : Below W.heap.size W x2 := hk1.trans (hb2.mono hk1.size)
  clear hb2 hk1 g0 g1
  obtain ⟨g0, g1, -⟩ := HF.out x2 hk2
  have HEND := Lib.hid (HB0.out.trans (hk2.mono HB0.out.size))
  clear hk2 g0 g1
  go_wp2
  go_ret
  exact ⟨rfl, HEND.out⟩
set_option maxHeartbeats 12800000 in
set_option maxRecDepth 100000 in
theorem turns_of (n : Int) (a : Option Addr) (cap : Nat) (L : List E) (b : Option Addr) (c : Nat) (O : List Bool) (s : Option Addr) (d : Nat) (S : List Int) (hl : ¬ 100 < O.length) (hl2 : ¬ 100 < S.length) (X : List Bool) (hXl : X.length ≤ 100000) (z : Int) (k k2 : Nat) (HFW : Hid (∀ w, EsAt w a L → Calls Try.prog 12 #[.agg #[.int .i64 n, .slice a L.length cap]] w (fun e w' => e = .returned (.bool true) ∧ Below w.heap.size w w'))) (HA : Awake14) (HPD : Hid (∀ w, EsAt w a L → BsAt w b O → IsAt w s S → Calls Try.prog 37 #[.agg #[.int .i64 n, .slice a L.length cap], .slice b O.length c, .slice s S.length d] w (fun e w' => e = .returned (.tuple #[.int .i64 z, .int .i64 ((k : Nat) : Int)]) ∧ Below w.heap.size w w'))) (HRD : Hid (∀ w, EsAt w a L → BsAt w b O → IsAt w s S → Calls Try.prog 38 #[.agg #[.int .i64 n, .slice a L.length cap], .slice b O.length c, .slice s S.length d] w (fun e w' => e = .returned (.tuple #[.int .i64 z, .int .i64 ((k : Nat) : Int)]) ∧ Below w.heap.size w w'))) (HPR : Hid (∀ w, EsAt w a L → BsAt w b O → IsAt w s S → Calls Try.prog 39 #[.agg #[.int .i64 n, .slice a L.length cap], .slice b O.length c, .slice s S.length d] w (fun e w' => ∃ b1 d1, e = .returned (.tuple #[.slice b1 X.length d1, .int .i64 ((k2 : Nat) : Int)]) ∧ BsAt w' b1 X ∧ Below w.heap.size w w'))) (HRR : Hid (∀ w, EsAt w a L → BsAt w b O → IsAt w s S → Calls Try.prog 40 #[.agg #[.int .i64 n, .slice a L.length cap], .slice b O.length c, .slice s S.length d] w (fun e w' => ∃ b1 d1, e = .returned (.tuple #[.slice b1 X.length d1, .int .i64 ((k2 : Nat) : Int)]) ∧ BsAt w' b1 X ∧ Below w.heap.size w w'))) (w : World) (h : EsAt w a L) (ho : BsAt w b O) (hs : IsAt w s S) :
    Calls Try.prog 6 #[gv n a L.length cap, .slice b O.length c, .slice s S.length d] w (GivesB w true) := by
  unfold GivesB gv
  obtain ⟨W, hW⟩ : ∃ W, W = w.alloc (Obj.cells #[.int .i64 n, .slice a L.length cap] 24) := ⟨_, rfl⟩
  have hB0 : Below w.heap.size w W := by rw [hW]; exact (Below.refl _ w).alloc (Nat.le_refl _) _
  have hG : Blk W w.heap.size 24 #[.int .i64 n, .slice a L.length cap] := by rw [hW]; exact Blk.new _ _ _
  have HW := Lib.hid hW
  have HB0 := Lib.hid hB0
  have hEz : EsAt W a L := h.keep hB0
  have hOz : BsAt W b O := ho.keep hB0
  have hSz : IsAt W s S := hs.keep hB0
  have HF : Hid (∀ x, Below W.heap.size W x → x.cell? ⟨w.heap.size, 0, none⟩ = some (.int .i64 n) ∧ x.cell? ⟨w.heap.size, 1, none⟩ = some (.slice a L.length cap) ∧ EsAt x a L ∧ BsAt x b O ∧ IsAt x s S) := Lib.hid fun x hx => ⟨(hG.below hx hG.lt).cell 0, (hG.below hx hG.lt).cell 1, hEz.keep hx, hOz.keep hx, hSz.keep hx⟩
  have hk0 : Below W.heap.size W W := Below.refl _ _
  obtain ⟨g0, g1, -⟩ := HF.out W hk0
  clear hB0 hG hW hEz h hOz ho hSz hs
  have l1 : ¬ (100 : Int) < (O.length : Int) := by omega
  have l2 : ¬ (100 : Int) < (S.length : Int) := by omega
  have q0 : (z == z) = true := by simp
  have q1 : (((k : Nat) : Int) == ((k : Nat) : Int)) = true := by simp
  have q2 : (((k2 : Nat) : Int) == ((k2 : Nat) : Int)) = true := by simp
  go_enter Try.func6, Try.ntmps6
  go_wp2_with fail
  rw [← HW.out]
  refine (HFW.out _ (HF.out W hk0).2.2.1).mono ?_
  rintro e x1 ⟨rfl, hb1⟩
  have hk1 : Below W.heap.size W x1 := hk0.trans (hb1.mono hk0.size)
  clear hb1 hk0 g0 g1
  obtain ⟨g0, g1, -⟩ := HF.out x1 hk1
  go_wp2_with fail
  refine (HPD.out _ (HF.out x1 hk1).2.2.1 (HF.out x1 hk1).2.2.2.1 (HF.out x1 hk1).2.2.2.2).mono ?_
  rintro e x2 ⟨rfl, hb2⟩
  have hk2 : Below W.heap.size W x2 := hk1.trans (hb2.mono hk1.size)
  clear hb2 hk1 g0 g1
  obtain ⟨g0, g1, -⟩ := HF.out x2 hk2
  go_wp2_with fail
  refine (HRD.out _ (HF.out x2 hk2).2.2.1 (HF.out x2 hk2).2.2.2.1 (HF.out x2 hk2).2.2.2.2).mono ?_
  rintro e x3 ⟨rfl, hb3⟩
  have hk3 : Below W.heap.size W x3 := hk2.trans (hb3.mono hk2.size)
  clear hb3 hk2 g0 g1
  obtain ⟨g0, g1, -⟩ := HF.out x3 hk3
  go_wp2_with fail
  refine (HPR.out _ (HF.out x3 hk3).2.2.1 (HF.out x3 hk3).2.2.2.1 (HF.out x3 hk3).2.2.2.2).mono ?_
  rintro e x4 ⟨b1, d1, rfl, hA_4, hb4⟩
  have hk4 : Below W.heap.size W x4 := hk3.trans (hb4.mono hk3.size)
  clear hb4 hk3 g0 g1
  obtain ⟨g0, g1, -⟩ := HF.out x4 hk4
  go_wp2_with fail
  refine (HRR.out _ (HF.out x4 hk4).2.2.1 (HF.out x4 hk4).2.2.2.1 (HF.out x4 hk4).2.2.2.2).mono ?_
  rintro e x5 ⟨b2, d2, rfl, hB_5, hb5⟩
  have hk5 : Below W.heap.size W x5 := hk4.trans (hb5.mono hk4.size)
  have hA_5 := hA_4.keep hb5
  clear hb5 hk4 g0 g1 hA_4
  obtain ⟨g0, g1, -⟩ := HF.out x5 hk5
  go_wp2_with fail
  refine (HA _).mono ?_
  rintro e x6 ⟨rfl, hb6⟩
  have hk6 : Below W.heap.size W x6 := hk5.trans (hb6.mono hk5.size)
  have hA_6 := hA_5.keep hb6
  have hB_6 := hB_5.keep hb6
  clear hb6 hk5 g0 g1 hA_5 hB_5
  obtain ⟨g0, g1, -⟩ := HF.out x6 hk6
  go_wp2_with fail
  refine (rsameB_true b1 b2 d1 d2 X hXl _ hA_6 hB_6).mono ?_
  rintro e x7 ⟨rfl, hb7⟩
  have hk7 : Below W.heap.size W x7 := hk6.trans (hb7.mono hk6.size)
  have hA_7 := hA_6.keep hb7
  have hB_7 := hB_6.keep hb7
  clear hb7 hk6 g0 g1 hA_6 hB_6
  obtain ⟨g0, g1, -⟩ := HF.out x7 hk7
  have HEND := Lib.hid (HB0.out.trans (hk7.mono HB0.out.size))
  clear hk7 g0 g1
  go_wp2
  go_ret
  exact ⟨rfl, HEND.out⟩
theorem turns_any (n : Int) (a : Option Addr) (cap : Nat) (L : List E) (b : Option Addr) (c : Nat) (O : List Bool) (s : Option Addr) (d : Nat) (S : List Int) (hd : S.length ≤ d) (w : World) (h : EsAt w a L) (ho : BsAt w b O) (hs : IsAt w s S) :
    Calls Try.prog 6 #[gv n a L.length cap, .slice b O.length c, .slice s S.length d] w (GivesB w true) := by
  cases hf : fewG n L with
  | false => exact turns_dark n a cap L b c O s d S (FewHid hf) awake14_any w h ho hs
  | true =>
    have hl := few_len hf
    by_cases hO : 100 < O.length
    · exact turns_long n a cap L b c O s d S hO (FewHid hf) awake14_any w h ho hs
    by_cases hS : 100 < S.length
    · exact turns_long2 n a cap L b c O s d S hO hS (FewHid hf) awake14_any w h ho hs
    exact turns_of n a cap L b c O s d S hO hS (okL (revE n L O S) (revL O S S.length)) (Nat.le_trans (okL_le _ _) (by rw [revL_len]; omega)) _ _ _ (FewHid hf) awake14_any
      (Lib.hid fun w h ho hs => pdirected_any n a cap L (by omega) b c O (by omega) s d S (by omega) w h ho hs)
      (Lib.hid fun w h ho hs => rdirected_any n a cap L (by omega) b c O (by omega) s d S (by omega) w h ho hs)
      (Lib.hid fun w h ho hs => preverse_ori n a cap L (by omega) b c O (by omega) s d S (by omega) w h ho hs)
      (Lib.hid fun w h ho hs => rreverse_any n a cap L (by omega) b c O (by omega) s d S (by omega) hd w h ho hs) w h ho hs
end Go.Proofs.Ytlnaahkheankoaa
