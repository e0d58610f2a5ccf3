/- The law of sortings: acyclic orientations and those of orders. -/
import Derived.Test.YtlnaahkheankoaaZYa
import Derived.Test.YtlnaahkheankoaaZAg
import Derived.Test.YtlnaahkheankoaaZAd
namespace Go.Proofs.Ytlnaahkheankoaa
open Go.RowKit Go.Shelf Go.Proofs.Gr
attribute [local go_sem] Oper.semAt_some

set_option maxHeartbeats 12800000 in
set_option maxRecDepth 100000 in
theorem sorts_dark (n : Int) (a : Option Addr) (cap : Nat) (L : List E) (b : Option Addr) (c : Nat) (O : List Bool) (s : Option Addr) (d : Nat) (S : List Int)  (HFW : Hid (∀ w, EsAt w a L → Calls Try.prog 12 #[.agg #[.int .i64 n, .slice a L.length cap]] w (fun e w' => e = .returned (.bool false) ∧ Below w.heap.size w w'))) (HA : Awake14) (w : World) (h : EsAt w a L) (ho : BsAt w b O) (hs : IsAt w s S) :
    Calls Try.prog 5 #[gv n a L.length cap, .slice b O.length c, .slice s S.length d] w (GivesB w true) := by
  unfold GivesB gv
  obtain ⟨W, hW⟩ : ∃ W, W = w.alloc (Obj.cells #[.int .i64 n, .slice a L.length cap] 24) := ⟨_, rfl⟩
  have hB0 : Below w.heap.size w W := by rw [hW]; exact (Below.refl _ w).alloc (Nat.le_refl _) _
  have hG : Blk W w.heap.size 24 #[.int .i64 n, .slice a L.length cap] := by rw [hW]; exact Blk.new _ _ _
  have HW := Lib.hid hW
  have HB0 := Lib.hid hB0
  have hEz : EsAt W a L := h.keep hB0
  have hOz : BsAt W b O := ho.keep hB0
  have hSz : IsAt W s S := hs.keep hB0
  have HF : Hid (∀ x, Below W.heap.size W x → x.cell? ⟨w.heap.size, 0, none⟩ = some (.int .i64 n) ∧ x.cell? ⟨w.heap.size, 1, none⟩ = some (.slice a L.length cap) ∧ EsAt x a L ∧ BsAt x b O ∧ IsAt x s S) := Lib.hid fun x hx => ⟨(hG.below hx hG.lt).cell 0, (hG.below hx hG.lt).cell 1, hEz.keep hx, hOz.keep hx, hSz.keep hx⟩
  have hk0 : Below W.heap.size W W := Below.refl _ _
  obtain ⟨g0, g1, -⟩ := HF.out W hk0
  clear hB0 hG hW hEz h hOz ho hSz hs
  go_enter Try.func5, Try.ntmps5
  go_wp2_with fail
  rw [← HW.out]
  refine (HFW.out _ (HF.out W hk0).2.2.1).mono ?_
  rintro e x1 ⟨rfl, hb1⟩
  have hk1 : Below W.heap.size W x1 := hk0.trans (hb1.mono hk0.size)
  clear hb1 hk0 g0 g1
  obtain ⟨g0, g1, -⟩ := HF.out x1 hk1
  go_wp2_with fail
  refine (HA _).mono ?_
  rintro e x2 ⟨rfl, hb2⟩
  have hk2 : Below W.heap.size W x2 := hk1.trans (hb2.mono hk1.size)
  clear hb2 hk1 g0 g1
  obtain ⟨g0, g1, -⟩ := HF.out x2 hk2
  have HEND := Lib.hid (HB0.out.trans (hk2.mono HB0.out.size))
  clear hk2 g0 g1
  go_wp2
  go_ret
  exact ⟨rfl, HEND.out⟩
set_option maxHeartbeats 12800000 in
set_option maxRecDepth 100000 in
theorem sorts_long (n : Int) (a : Option Addr) (cap : Nat) (L : List E) (b : Option Addr) (c : Nat) (O : List Bool) (s : Option Addr) (d : Nat) (S : List Int) (hl : 100 < O.length) (HFW : Hid (∀ w, EsAt w a L → Calls Try.prog 12 #[.agg #[.int .i64 n, .slice a L.length cap]] w (fun e w' => e = .returned (.bool true) ∧ Below w.heap.size w w'))) (HA : Awake14) (w : World) (h : EsAt w a L) (ho : BsAt w b O) (hs : IsAt w s S) :
    Calls Try.prog 5 #[gv n a L.length cap, .slice b O.length c, .slice s S.length d] w (GivesB w true) := by
  unfold GivesB gv
  obtain ⟨W, hW⟩ : ∃ W, W = w.alloc (Obj.cells #[.int .i64 n, .slice a L.length cap] 24) := ⟨_, rfl⟩
  have hB0 : Below w.heap.size w W := by rw [hW]; exact (Below.refl _ w).alloc (Nat.le_refl _) _
  have hG : Blk W w.heap.size 24 #[.int .i64 n, .slice a L.length cap] := by rw [hW]; exact Blk.new _ _ _
  have HW := Lib.hid hW
  have HB0 := Lib.hid hB0
  have hEz : EsAt W a L := h.keep hB0
  have hOz : BsAt W b O := ho.keep hB0
  have hSz : IsAt W s S := hs.keep hB0
  have HF : Hid (∀ x, Below W.heap.size W x → x.cell? ⟨w.heap.size, 0, none⟩ = some (.int .i64 n) ∧ x.cell? ⟨w.heap.size, 1, none⟩ = some (.slice a L.length cap) ∧ EsAt x a L ∧ BsAt x b O ∧ IsAt x s S) := Lib.hid fun x hx => ⟨(hG.below hx hG.lt).cell 0, (hG.below hx hG.lt).cell 1, hEz.keep hx, hOz.keep hx, hSz.keep hx⟩
  have hk0 : Below W.heap.size W W := Below.refl _ _
  obtain ⟨g0, g1, -⟩ := HF.out W hk0
  clear hB0 hG hW hEz h hOz ho hSz hs
  have l1 : (100 : Int) < (O.length : Int) := by omega
  go_enter Try.func5, Try.ntmps5
  go_wp2_with fail
  rw [← HW.out]
  refine (HFW.out _ (HF.out W hk0).2.2.1).mono ?_
  rintro e x1 ⟨rfl, hb1⟩
  have hk1 : Below W.heap.size W x1 := hk0.trans (hb1.mono hk0.size)
  clear hb1 hk0 g0 g1
  obtain ⟨g0, g1, -⟩ := HF.out x1 hk1
  go_wp2_with fail
  refine (HA _).mono ?_
  rintro e x2 ⟨rfl, hb2⟩
  have hk2 : Below W.heap.size W x2 := hk1.trans (hb2.mono hk1.size)
  clear hb2 hk1 g0 g1
  obtain ⟨g0, g1, -⟩ := HF.out x2 hk2
  have HEND := Lib.hid (HB0.out.trans (hk2.mono HB0.out.size))
  clear hk2 g0 g1
  go_wp2
  go_ret
  exact ⟨rfl, HEND.out⟩
set_option maxHeartbeats 12800000 in
set_option maxRecDepth 100000 in
theorem sorts_long2 (n : Int) (a : Option Addr) (cap : Nat) (L : List E) (b : Option Addr) (c : Nat) (O : List Bool) (s : Option Addr) (d : Nat) (S : List Int) (hl : ¬ 100 < O.length) (hl2 : 100 < S.length) (HFW : Hid (∀ w, EsAt w a L → Calls Try.prog 12 #[.agg #[.int .i64 n, .slice a L.length cap]] w (fun e w' => e = .returned (.bool true) ∧ Below w.heap.size w w'))) (HA : Awake14) (w : World) (h : EsAt w a L) (ho : BsAt w b O) (hs : IsAt w s S) :
    Calls Try.prog 5 #[gv n a L.length cap, .slice b O.length c, .slice s S.length d] w (GivesB w true) := by
  unfold GivesB gv
  obtain ⟨W, hW⟩ : ∃ W, W = w.alloc (Obj.cells #[.int .i64 n, .slice a L.length cap] 24) := ⟨_, rfl⟩
  have hB0 : Below w.heap.size w W := by rw [hW]; exact (Below.refl _ w).alloc (Nat.le_refl _) _
  have hG : Blk W w.heap.size 24 #[.int .i64 n, .slice a L.length cap] := by rw [hW]; exact Blk.new _ _ _
  have HW := Lib.hid hW
  have HB0 := Lib.hid hB0
  have hEz : EsAt W a L := h.keep hB0
  have hOz : BsAt W b O := ho.keep hB0
  have hSz : IsAt W s S := hs.keep hB0
  have HF : Hid (∀ x, Below W.heap.size W x → x.cell? ⟨w.heap.size, 0, none⟩ = some (.int .i64 n) ∧ x.cell? ⟨w.heap.size, 1, none⟩ = some (.slice a L.length cap) ∧ EsAt x a L ∧ BsAt x b O ∧ IsAt x s S) := Lib.hid fun x hx => ⟨(hG.below hx hG.lt).cell 0, (hG.below hx hG.lt).cell 1, hEz.keep hx, hOz.keep hx, hSz.keep hx⟩
  have hk0 : Below W.heap.size W W := Below.refl _ _
  obtain ⟨g0, g1, -⟩ := HF.out W hk0
  clear hB0 hG hW hEz h hOz ho hSz hs
  have l1 : ¬ (100 : Int) < (O.length : Int) := by omega
  have l2 : (100 : Int) < (S.length : Int) := by omega
  go_enter Try.func5, Try.ntmps5
  go_wp2_with fail
  rw [← HW.out]
  refine (HFW.out _ (HF.out W hk0).2.2.1).mono ?_
  rintro e x1 ⟨rfl, hb1⟩
  have hk1 : Below W.heap.size W x1 := hk0.trans (hb1.mono hk0.size)
  clear hb1 hk0 g0 g1
  obtain ⟨g0, g1, -⟩ := HF.out x1 hk1
  go_wp2_with fail
  refine (HA _).mono ?_
  rintro e x2 ⟨rfl, hb2⟩
  have hk2 : Below W.heap.size W x2 := hk1.trans (hb2.mono hk1.size)
  clear hb2 hk1 g0 g1
  obtain ⟨g0, g1, -⟩ := HF.out x2 hk2
  have HEND := Lib.hid (HB0.out.trans (hk2.mono HB0.out.size))
  clear hk2 g0 g1
  go_wp2
  go_ret
  exact ⟨rfl, HEND.out⟩
set_option maxHeartbeats 12800000 in
set_option maxRecDepth 100000 in
theorem sorts_of (n : Int) (a : Option Addr) (cap : Nat) (L : List E) (b : Option Addr) (c : Nat) (O : List Bool) (s : Option Addr) (d : Nat) (S : List Int) (hl : ¬ 100 < O.length) (hl2 : ¬ 100 < S.length) (Z : List Int) (hZl : Z.length ≤ 100000) (X : List Bool) (hXl : X.length ≤ 100000) (t : Bool) (k k2 : Nat) (HFW : Hid (∀ w, EsAt w a L → Calls Try.prog 12 #[.agg #[.int .i64 n, .slice a L.length cap]] w (fun e w' => e = .returned (.bool true) ∧ Below w.heap.size w w'))) (HA : Awake14) (HPA : Hid (∀ w, EsAt w a L → BsAt w b O → Calls Try.prog 32 #[.agg #[.int .i64 n, .slice a L.length cap], .slice b O.length c] w (fun e w' => ∃ b1 d1, e = .returned (.tuple #[.bool t, .slice b1 Z.length d1, .int .i64 ((k : Nat) : Int)]) ∧ IsAt w' b1 Z ∧ Below w.heap.size w w'))) (HRA : Hid (∀ w, EsAt w a L → BsAt w b O → Calls Try.prog 33 #[.agg #[.int .i64 n, .slice a L.length cap], .slice b O.length c] w (fun e w' => ∃ b1 d1, e = .returned (.tuple #[.bool t, .slice b1 Z.length d1, .int .i64 ((k : Nat) : Int)]) ∧ IsAt w' b1 Z ∧ Below w.heap.size w w'))) (HPO : Hid (∀ w, EsAt w a L → IsAt w s S → Calls Try.prog 34 #[.agg #[.int .i64 n, .slice a L.length cap], .slice s S.length d] w (fun e w' => ∃ b1 d1, e = .returned (.tuple #[.slice b1 X.length d1, .int .i64 ((k2 : Nat) : Int)]) ∧ BsAt w' b1 X ∧ Below w.heap.size w w'))) (HRO : Hid (∀ w, EsAt w a L → IsAt w s S → Calls Try.prog 35 #[.agg #[.int .i64 n, .slice a L.length cap], .slice s S.length d] w (fun e w' => ∃ b1 d1, e = .returned (.tuple #[.slice b1 X.length d1, .int .i64 ((k2 : Nat) : Int)]) ∧ BsAt w' b1 X ∧ Below w.heap.size w w'))) (w : World) (h : EsAt w a L) (ho : BsAt w b O) (hs : IsAt w s S) :
    Calls Try.prog 5 #[gv n a L.length cap, .slice b O.length c, .slice s S.length d] w (GivesB w true) := by
  unfold GivesB gv
  obtain ⟨W, hW⟩ : ∃ W, W = w.alloc (Obj.cells #[.int .i64 n, .slice a L.length cap] 24) := ⟨_, rfl⟩
  have hB0 : Below w.heap.size w W := by rw [hW]; exact (Below.refl _ w).alloc (Nat.le_refl _) _
  have hG : Blk W w.heap.size 24 #[.int .i64 n, .slice a L.length cap] := by rw [hW]; exact Blk.new _ _ _
  have HW := Lib.hid hW
  have HB0 := Lib.hid hB0
  have hEz : EsAt W a L := h.keep hB0
  have hOz : BsAt W b O := ho.keep hB0
  have hSz : IsAt W s S := hs.keep hB0
  have HF : Hid (∀ x, Below W.heap.size W x → x.cell? ⟨w.heap.size, 0, none⟩ = some (.int .i64 n) ∧ x.cell? ⟨w.heap.size, 1, none⟩ = some (.slice a L.length cap) ∧ EsAt x a L ∧ BsAt x b O ∧ IsAt x s S) := Lib.hid fun x hx => ⟨(hG.below hx hG.lt).cell 0, (hG.below hx hG.lt).cell 1, hEz.keep hx, hOz.keep hx, hSz.keep hx⟩
  have hk0 : Below W.heap.size W W := Below.refl _ _
  obtain ⟨g0, g1, -⟩ := HF.out W hk0
  clear hB0 hG hW hEz h hOz ho hSz hs
  have l1 : ¬ (100 : Int) < (O.length : Int) := by omega
  have l2 : ¬ (100 : Int) < (S.length : Int) := by omega
  have q0 : (t == t) = true := by simp
  have q1 : (((k : Nat) : Int) == ((k : Nat) : Int)) = true := by simp
  have q2 : (((k2 : Nat) : Int) == ((k2 : Nat) : Int)) = true := by simp
  go_enter Try.func5, Try.ntmps5
  go_wp2_with fail
  rw [← HW.out]
  refine (HFW.out _ (HF.out W hk0).2.2.1).mono ?_
  rintro e x1 ⟨rfl, hb1⟩
  have hk1 : Below W.heap.size W x1 := hk0.trans (hb1.mono hk0.size)
  clear hb1 hk0 g0 g1
  obtain ⟨g0, g1, -⟩ := HF.out x1 hk1
  go_wp2_with fail
  refine (HPA.out _ (HF.out x1 hk1).2.2.1 (HF.out x1 hk1).2.2.2.1).mono ?_
  rintro e x2 ⟨b1, d1, rfl, hA_2, hb2⟩
  have hk2 : Below W.heap.size W x2 := hk1.trans (hb2.mono hk1.size)
  clear hb2 hk1 g0 g1
  obtain ⟨g0, g1, -⟩ := HF.out x2 hk2
  go_wp2_with fail
  refine (HRA.out _ (HF.out x2 hk2).2.2.1 (HF.out x2 hk2).2.2.2.1).mono ?_
  rintro e x3 ⟨b2, d2, rfl, hB_3, hb3⟩
  have hk3 : Below W.heap.size W x3 := hk2.trans (hb3.mono hk2.size)
  have hA_3 := hA_2.keep hb3
  clear hb3 hk2 g0 g1 hA_2
  obtain ⟨g0, g1, -⟩ := HF.out x3 hk3
  go_wp2_with fail
  refine (HPO.out _ (HF.out x3 hk3).2.2.1 (HF.out x3 hk3).2.2.2.2).mono ?_
  rintro e x4 ⟨b3, d3, rfl, hC_4, hb4⟩
  have hk4 : Below W.heap.size W x4 := hk3.trans (hb4.mono hk3.size)
  have hA_4 := hA_3.keep hb4
  have hB_4 := hB_3.keep hb4
  clear hb4 hk3 g0 g1 hA_3 hB_3
  obtain ⟨g0, g1, -⟩ := HF.out x4 hk4
  go_wp2_with fail
  refine (HRO.out _ (HF.out x4 hk4).2.2.1 (HF.out x4 hk4).2.2.2.2).mono ?_
  rintro e x5 ⟨b4, d4, rfl, hD_5, hb5⟩
  have hk5 : Below W.heap.size W x5 := hk4.trans (hb5.mono hk4.size)
  have hA_5 := hA_4.keep hb5
  have hB_5 := hB_4.keep hb5
  have hC_5 := hC_4.keep hb5
  clear hb5 hk4 g0 g1 hA_4 hB_4 hC_4
  obtain ⟨g0, g1, -⟩ := HF.out x5 hk5
  go_wp2_with fail
  refine (HA _).mono ?_
  rintro e x6 ⟨rfl, hb6⟩
  have hk6 : Below W.heap.size W x6 := hk5.trans (hb6.mono hk5.size)
  have hA_6 := hA_5.keep hb6
  have hB_6 := hB_5.keep hb6
  have hC_6 := hC_5.keep hb6
  have hD_6 := hD_5.keep hb6
  clear hb6 hk5 g0 g1 hA_5 hB_5 hC_5 hD_5
  obtain ⟨g0, g1, -⟩ := HF.out x6 hk6
  go_wp2_with fail
  refine (rsameI_true b1 b2 d1 d2 Z hZl _ hA_6 hB_6).mono ?_
  rintro e x7 ⟨rfl, hb7⟩
  have hk7 : Below W.heap.size W x7 := hk6.trans (hb7.mono hk6.size)
  have hA_7 := hA_6.keep hb7
  have hB_7 := hB_6.keep hb7
  have hC_7 := hC_6.keep hb7
  have hD_7 := hD_6.keep hb7
  clear hb7 hk6 g0 g1 hA_6 hB_6 hC_6 hD_6
  obtain ⟨g0, g1, -⟩ := HF.out x7 hk7
  go_wp2_with fail
  refine (rsameB_true b3 b4 d3 d4 X hXl _ hC_7 hD_7).mono ?_
  rintro e x8 ⟨rfl, hb8⟩
  have hk8 : Below W.heap.size W x8 := hk7.trans (hb8.mono hk7.size)
  have hA_8 := hA_7.keep hb8
  have hB_8 := hB_7.keep hb8
  have hC_8 := hC_7.keep hb8
  have hD_8 := hD_7.keep hb8
  clear hb8 hk7 g0 g1 hA_7 hB_7 hC_7 hD_7
  obtain ⟨g0, g1, -⟩ := HF.out x8 hk8
  have HEND := Lib.hid (HB0.out.trans (hk8.mono HB0.out.size))
  clear hk8 g0 g1
  go_wp2
  go_ret
  exact ⟨rfl, HEND.out⟩
theorem acyL_le (n : Int) (L : List E) (O : List Bool) (h : chkO n L O = 0) : (acyL n L O).length ≤ 12 := by
  have h2 := chkG_n (chkO_zero h).1
  have h1 := srt_ref (A := arcs (endsG L) O) (N := n.toNat) (fun j hj => by
    have h1 := arcs_rng (right_of (chkO_zero h).1) O j hj
    omega)
  unfold acyL
  cases hb : srtB (arcs (endsG L) O) n.toNat with
  | true =>
    obtain ⟨h3, h4⟩ := h1.1 hb
    rw [← h3, h4]; omega
  | false => rw [(h1.2 hb).2]; simp
theorem sorts_any (n : Int) (a : Option Addr) (cap : Nat) (L : List E) (b : Option Addr) (c : Nat) (O : List Bool) (s : Option Addr) (d : Nat) (S : List Int) (hd : S.length ≤ d) (w : World) (h : EsAt w a L) (ho : BsAt w b O) (hs : IsAt w s S) :
    Calls Try.prog 5 #[gv n a L.length cap, .slice b O.length c, .slice s S.length d] w (GivesB w true) := by
  cases hf : fewG n L with
  | false => exact sorts_dark n a cap L b c O s d S (FewHid hf) awake14_any w h ho hs
  | true =>
    have hl := few_len hf
    by_cases hO : 100 < O.length
    · exact sorts_long n a cap L b c O s d S hO (FewHid hf) awake14_any w h ho hs
    by_cases hS : 100 < S.length
    · exact sorts_long2 n a cap L b c O s d S hO hS (FewHid hf) awake14_any w h ho hs
    have b1 : (okL (chkO n L O) (acyL n L O)).length ≤ 100000 := by
      by_cases hz : chkO n L O = 0
      · rw [okL_pos _ hz]; have := acyL_le n L O hz; omega
      · rw [okL_neg _ hz]; simp
    have b2 : (okL (ordE n L S) (ordR n L S)).length ≤ 100000 := by
      by_cases hz : ordE n L S = 0
      · rw [okL_pos _ hz]
        have hk : chkG n L = 0 := by
          unfold ordE at hz
          by_cases h9 : chkG n L ≠ 0
          · rw [if_pos h9] at hz; exact absurd hz h9
          · omega
        have h9 := few_ends hf hk
        unfold ordR
        rw [ordL_len]; omega
      · rw [okL_neg _ hz]; simp
    exact sorts_of n a cap L b c O s d S hO hS _ b1 _ b2 _ _ _ (FewHid hf) awake14_any
      (Lib.hid fun w h ho => pAcyclic_any n a cap L (by omega) b c O (by omega) w h ho)
      (Lib.hid fun w h ho => racyclic_any n a cap L (by omega) b c O (by omega) w h ho)
      (Lib.hid fun w h hs => porder_ori n a cap L (by omega) s d S (by omega) w h hs)
      (Lib.hid fun w h hs => rorder_any n a cap L (by omega) s d S (by omega) hd w h hs) w h ho hs
end Go.Proofs.Ytlnaahkheankoaa
