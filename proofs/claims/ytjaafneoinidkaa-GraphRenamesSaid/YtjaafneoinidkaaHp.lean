/- The law of checks. -/
import Derived.Test.YtjaafneoinidkaaHo
namespace Go.Proofs.Ytjaafneoinidkaa
open Go.RowKit Go.Shelf Go.Proofs.Gr
attribute [local go_sem] Oper.semAt_some

theorem light_len {n : Int} {L : List E} (h : lightG n L = true) : L.length ≤ 40 := by
  unfold lightG at h
  simp only [Bool.and_eq_true, decide_eq_true_eq] at h
  exact h.1
theorem nat_of_chk {n : Int} {L : List E} (h : chkG n L = 0) : ∃ N : Nat, n = N ∧ 1 ≤ N ∧ N ≤ 12 := by
  have := chkG_n h
  exact ⟨n.toNat, by omega, by omega, by omega⟩
set_option maxHeartbeats 12800000 in
set_option maxRecDepth 100000 in
theorem checks_dark (n : Int) (a : Option Addr) (cap : Nat) (L : List E) (HLI : Hid (∀ w, EsAt w a L → Calls Try.prog 12 #[.agg #[.int .i64 n, .slice a L.length cap]] w (fun e w' => e = .returned (.bool false) ∧ Below w.heap.size w w'))) (HA : Awake) (w : World) (h : EsAt w a L) :
    Calls Try.prog 3 #[gv n a L.length cap] w (GivesB w true) := by
  unfold GivesB gv
  obtain ⟨W, hW⟩ : ∃ W, W = w.alloc (Obj.cells #[.int .i64 n, .slice a L.length cap] 24) := ⟨_, rfl⟩
  have hB0 : Below w.heap.size w W := by rw [hW]; exact (Below.refl _ w).alloc (Nat.le_refl _) _
  have hG : Blk W w.heap.size 24 #[.int .i64 n, .slice a L.length cap] := by rw [hW]; exact Blk.new _ _ _
  have HW := Lib.hid hW
  have HB0 := Lib.hid hB0
  have hE0 : EsAt W a L := h.keep hB0
  have HF : Hid (∀ x, Below W.heap.size W x → x.cell? ⟨w.heap.size, 0, none⟩ = some (.int .i64 n) ∧ x.cell? ⟨w.heap.size, 1, none⟩ = some (.slice a L.length cap) ∧ EsAt x a L) := Lib.hid fun x hx => ⟨(hG.below hx hG.lt).cell 0, (hG.below hx hG.lt).cell 1, hE0.keep hx⟩
  have g0 : W.cell? ⟨w.heap.size, 0, none⟩ = some (.int .i64 n) := hG.cell 0
  have g1 : W.cell? ⟨w.heap.size, 1, none⟩ = some (.slice a L.length cap) := hG.cell 1
  have hk0 : Below W.heap.size W W := Below.refl _ _
  clear hB0 hG hW h hE0
  go_enter Try.func3, Try.ntmps3
  go_wp2_with fail
  rw [← HW.out]
  refine (HLI.out _ (HF.out _ hk0).2.2).mono ?_
  rintro e x1 ⟨rfl, hb1⟩
  have hk1 : Below W.heap.size W x1 := hk0.trans (hb1.mono hk0.size)
  clear hb1 hk0 g0 g1
  obtain ⟨g0, g1, -⟩ := HF.out _ hk1
  go_wp2_with fail
  refine (HA _).mono ?_
  rintro e x2 ⟨rfl, hb2⟩
  have hk2 : Below W.heap.size W x2 := hk1.trans (hb2.mono hk1.size)
  clear hb2 hk1 g0 g1
  obtain ⟨g0, g1, -⟩ := HF.out _ hk2
  have HEND := Lib.hid (HB0.out.trans (hk2.mono HB0.out.size))
  clear hk2 g0 g1
  go_wp2
  go_ret
  exact ⟨rfl, HEND.out⟩
set_option maxHeartbeats 12800000 in
set_option maxRecDepth 100000 in
theorem checks_err (n : Int) (a : Option Addr) (cap : Nat) (L : List E) (k : Nat) (hk : k ≠ 0) (HLI : Hid (∀ w, EsAt w a L → Calls Try.prog 12 #[.agg #[.int .i64 n, .slice a L.length cap]] w (fun e w' => e = .returned (.bool true) ∧ Below w.heap.size w w'))) (HA : Awake) (HC : Hid (∀ w, EsAt w a L → Calls Try.prog 14 #[.agg #[.int .i64 n, .slice a L.length cap]] w (fun e w' => e = .returned (.int .i64 (k : Int)) ∧ Below w.heap.size w w'))) (HS : Hid (∀ w, EsAt w a L → Calls Try.prog 15 #[.agg #[.int .i64 n, .slice a L.length cap]] w (fun e w' => e = .returned (.tuple #[.int .i64 0, .int .i64 (k : Int)]) ∧ Below w.heap.size w w'))) (HP : Hid (∀ w, EsAt w a L → Calls Try.prog 16 #[.agg #[.int .i64 n, .slice a L.length cap]] w (fun e w' => ∃ b d, e = .returned (.tuple #[.slice b 0 d, .int .i64 (k : Int)]) ∧ Below w.heap.size w w'))) (HG : Hid (∀ w, EsAt w a L → Calls Try.prog 17 #[.agg #[.int .i64 n, .slice a L.length cap]] w (fun e w' => e = .returned (.tuple #[.int .i64 0, .int .i64 (k : Int)]) ∧ Below w.heap.size w w'))) (HK : Hid (∀ w, EsAt w a L → Calls Try.prog 18 #[.agg #[.int .i64 n, .slice a L.length cap]] w (fun e w' => e = .returned (.int .i64 (k : Int)) ∧ Below w.heap.size w w'))) (w : World) (h : EsAt w a L) :
    Calls Try.prog 3 #[gv n a L.length cap] w (GivesB w true) := by
  unfold GivesB gv
  obtain ⟨W, hW⟩ : ∃ W, W = w.alloc (Obj.cells #[.int .i64 n, .slice a L.length cap] 24) := ⟨_, rfl⟩
  have hB0 : Below w.heap.size w W := by rw [hW]; exact (Below.refl _ w).alloc (Nat.le_refl _) _
  have hG : Blk W w.heap.size 24 #[.int .i64 n, .slice a L.length cap] := by rw [hW]; exact Blk.new _ _ _
  have HW := Lib.hid hW
  have HB0 := Lib.hid hB0
  have hE0 : EsAt W a L := h.keep hB0
  have HF : Hid (∀ x, Below W.heap.size W x → x.cell? ⟨w.heap.size, 0, none⟩ = some (.int .i64 n) ∧ x.cell? ⟨w.heap.size, 1, none⟩ = some (.slice a L.length cap) ∧ EsAt x a L) := Lib.hid fun x hx => ⟨(hG.below hx hG.lt).cell 0, (hG.below hx hG.lt).cell 1, hE0.keep hx⟩
  have g0 : W.cell? ⟨w.heap.size, 0, none⟩ = some (.int .i64 n) := hG.cell 0
  have g1 : W.cell? ⟨w.heap.size, 1, none⟩ = some (.slice a L.length cap) := hG.cell 1
  have hk0 : Below W.heap.size W W := Below.refl _ _
  clear hB0 hG hW h hE0
  have q0 : (((k : Nat) : Int) != 0) = true := by rw [bne_iff_ne]; omega
  go_enter Try.func3, Try.ntmps3
  go_wp2_with fail
  rw [← HW.out]
  refine (HLI.out _ (HF.out _ hk0).2.2).mono ?_
  rintro e x1 ⟨rfl, hb1⟩
  have hk1 : Below W.heap.size W x1 := hk0.trans (hb1.mono hk0.size)
  clear hb1 hk0 g0 g1
  obtain ⟨g0, g1, -⟩ := HF.out _ hk1
  go_wp2_with fail
  refine (HC.out _ (HF.out _ hk1).2.2).mono ?_
  rintro e x2 ⟨rfl, hb2⟩
  have hk2 : Below W.heap.size W x2 := hk1.trans (hb2.mono hk1.size)
  clear hb2 hk1 g0 g1
  obtain ⟨g0, g1, -⟩ := HF.out _ hk2
  go_wp2_with fail
  refine (HS.out _ (HF.out _ hk2).2.2).mono ?_
  rintro e x3 ⟨rfl, hb3⟩
  have hk3 : Below W.heap.size W x3 := hk2.trans (hb3.mono hk2.size)
  clear hb3 hk2 g0 g1
  obtain ⟨g0, g1, -⟩ := HF.out _ hk3
  go_wp2_with fail
  refine (HP.out _ (HF.out _ hk3).2.2).mono ?_
  rintro e x4 ⟨b, d, rfl, hb4⟩
  have hk4 : Below W.heap.size W x4 := hk3.trans (hb4.mono hk3.size)
  clear hb4 hk3 g0 g1
  obtain ⟨g0, g1, -⟩ := HF.out _ hk4
  go_wp2_with fail
  refine (HG.out _ (HF.out _ hk4).2.2).mono ?_
  rintro e x5 ⟨rfl, hb5⟩
  have hk5 : Below W.heap.size W x5 := hk4.trans (hb5.mono hk4.size)
  clear hb5 hk4 g0 g1
  obtain ⟨g0, g1, -⟩ := HF.out _ hk5
  go_wp2_with fail
  refine (HA _).mono ?_
  rintro e x6 ⟨rfl, hb6⟩
  have hk6 : Below W.heap.size W x6 := hk5.trans (hb6.mono hk5.size)
  clear hb6 hk5 g0 g1
  obtain ⟨g0, g1, -⟩ := HF.out _ hk6
  go_wp2_with fail
  refine (HK.out _ (HF.out _ hk6).2.2).mono ?_
  rintro e x7 ⟨rfl, hb7⟩
  have hk7 : Below W.heap.size W x7 := hk6.trans (hb7.mono hk6.size)
  clear hb7 hk6 g0 g1
  obtain ⟨g0, g1, -⟩ := HF.out _ hk7
  have HEND := Lib.hid (HB0.out.trans (hk7.mono HB0.out.size))
  clear hk7 g0 g1
  go_wp2
  go_ret
  exact ⟨rfl, HEND.out⟩
set_option maxHeartbeats 12800000 in
set_option maxRecDepth 100000 in
theorem checks_ok (n : Int) (a : Option Addr) (cap : Nat) (L : List E) (S G : Int) (P : List (Int × Int)) (HLI : Hid (∀ w, EsAt w a L → Calls Try.prog 12 #[.agg #[.int .i64 n, .slice a L.length cap]] w (fun e w' => e = .returned (.bool true) ∧ Below w.heap.size w w'))) (HA : Awake) (HC : Hid (∀ w, EsAt w a L → Calls Try.prog 14 #[.agg #[.int .i64 n, .slice a L.length cap]] w (fun e w' => e = .returned (.int .i64 0) ∧ Below w.heap.size w w'))) (HS : Hid (∀ w, EsAt w a L → Calls Try.prog 15 #[.agg #[.int .i64 n, .slice a L.length cap]] w (fun e w' => e = .returned (.tuple #[.int .i64 S, .int .i64 0]) ∧ Below w.heap.size w w'))) (HP : Hid (∀ w, EsAt w a L → Calls Try.prog 16 #[.agg #[.int .i64 n, .slice a L.length cap]] w (fun e w' => ∃ b d, e = .returned (.tuple #[.slice b P.length d, .int .i64 0]) ∧ PsAt w' b P ∧ Below w.heap.size w w'))) (HG : Hid (∀ w, EsAt w a L → Calls Try.prog 17 #[.agg #[.int .i64 n, .slice a L.length cap]] w (fun e w' => e = .returned (.tuple #[.int .i64 G, .int .i64 0]) ∧ Below w.heap.size w w'))) (HK : Hid (∀ w, EsAt w a L → Calls Try.prog 18 #[.agg #[.int .i64 n, .slice a L.length cap]] w (fun e w' => e = .returned (.int .i64 0) ∧ Below w.heap.size w w'))) (HZ : Hid (∀ w, EsAt w a L → Calls Try.prog 19 #[.agg #[.int .i64 n, .slice a L.length cap]] w (fun e w' => e = .returned (.int .i64 S) ∧ Below w.heap.size w w'))) (HN : Hid (∀ w, EsAt w a L → Calls Try.prog 21 #[.agg #[.int .i64 n, .slice a L.length cap]] w (fun e w' => ∃ b d, e = .returned (.slice b P.length d) ∧ PsAt w' b P ∧ Below w.heap.size w w'))) (HRG : Hid (∀ w, EsAt w a L → Calls Try.prog 22 #[.agg #[.int .i64 n, .slice a L.length cap]] w (fun e w' => e = .returned (.int .i64 G) ∧ Below w.heap.size w w'))) (HSE : Hid (∀ b d b2 d2 w, PsAt w b P → PsAt w b2 P → Calls Try.prog 20 #[.slice b P.length d, .slice b2 P.length d2] w (fun e w' => e = .returned (.bool true) ∧ Below w.heap.size w w'))) (w : World) (h : EsAt w a L) :
    Calls Try.prog 3 #[gv n a L.length cap] w (GivesB w true) := by
  unfold GivesB gv
  obtain ⟨W, hW⟩ : ∃ W, W = w.alloc (Obj.cells #[.int .i64 n, .slice a L.length cap] 24) := ⟨_, rfl⟩
  have hB0 : Below w.heap.size w W := by rw [hW]; exact (Below.refl _ w).alloc (Nat.le_refl _) _
  have hG : Blk W w.heap.size 24 #[.int .i64 n, .slice a L.length cap] := by rw [hW]; exact Blk.new _ _ _
  have HW := Lib.hid hW
  have HB0 := Lib.hid hB0
  have hE0 : EsAt W a L := h.keep hB0
  have HF : Hid (∀ x, Below W.heap.size W x → x.cell? ⟨w.heap.size, 0, none⟩ = some (.int .i64 n) ∧ x.cell? ⟨w.heap.size, 1, none⟩ = some (.slice a L.length cap) ∧ EsAt x a L) := Lib.hid fun x hx => ⟨(hG.below hx hG.lt).cell 0, (hG.below hx hG.lt).cell 1, hE0.keep hx⟩
  have g0 : W.cell? ⟨w.heap.size, 0, none⟩ = some (.int .i64 n) := hG.cell 0
  have g1 : W.cell? ⟨w.heap.size, 1, none⟩ = some (.slice a L.length cap) := hG.cell 1
  have hk0 : Below W.heap.size W W := Below.refl _ _
  clear hB0 hG hW h hE0
  go_enter Try.func3, Try.ntmps3
  go_wp2_with fail
  rw [← HW.out]
  refine (HLI.out _ (HF.out _ hk0).2.2).mono ?_
  rintro e x1 ⟨rfl, hb1⟩
  have hk1 : Below W.heap.size W x1 := hk0.trans (hb1.mono hk0.size)
  clear hb1 hk0 g0 g1
  obtain ⟨g0, g1, -⟩ := HF.out _ hk1
  go_wp2_with fail
  refine (HC.out _ (HF.out _ hk1).2.2).mono ?_
  rintro e x2 ⟨rfl, hb2⟩
  have hk2 : Below W.heap.size W x2 := hk1.trans (hb2.mono hk1.size)
  clear hb2 hk1 g0 g1
  obtain ⟨g0, g1, -⟩ := HF.out _ hk2
  go_wp2_with fail
  refine (HS.out _ (HF.out _ hk2).2.2).mono ?_
  rintro e x3 ⟨rfl, hb3⟩
  have hk3 : Below W.heap.size W x3 := hk2.trans (hb3.mono hk2.size)
  clear hb3 hk2 g0 g1
  obtain ⟨g0, g1, -⟩ := HF.out _ hk3
  go_wp2_with fail
  refine (HP.out _ (HF.out _ hk3).2.2).mono ?_
  rintro e x4 ⟨b, d, rfl, hp4, hb4⟩
  have hk4 : Below W.heap.size W x4 := hk3.trans (hb4.mono hk3.size)
  clear hb4 hk3 g0 g1
  obtain ⟨g0, g1, -⟩ := HF.out _ hk4
  go_wp2_with fail
  refine (HG.out _ (HF.out _ hk4).2.2).mono ?_
  rintro e x5 ⟨rfl, hb5⟩
  have hk5 : Below W.heap.size W x5 := hk4.trans (hb5.mono hk4.size)
  have hp5 := hp4.keep hb5
  clear hb5 hk4 g0 g1 hp4
  obtain ⟨g0, g1, -⟩ := HF.out _ hk5
  go_wp2_with fail
  refine (HA _).mono ?_
  rintro e x6 ⟨rfl, hb6⟩
  have hk6 : Below W.heap.size W x6 := hk5.trans (hb6.mono hk5.size)
  have hp6 := hp5.keep hb6
  clear hb6 hk5 g0 g1 hp5
  obtain ⟨g0, g1, -⟩ := HF.out _ hk6
  go_wp2_with fail
  refine (HK.out _ (HF.out _ hk6).2.2).mono ?_
  rintro e x7 ⟨rfl, hb7⟩
  have hk7 : Below W.heap.size W x7 := hk6.trans (hb7.mono hk6.size)
  have hp7 := hp6.keep hb7
  clear hb7 hk6 g0 g1 hp6
  obtain ⟨g0, g1, -⟩ := HF.out _ hk7
  go_wp2_with fail
  refine (HZ.out _ (HF.out _ hk7).2.2).mono ?_
  rintro e x8 ⟨rfl, hb8⟩
  have hk8 : Below W.heap.size W x8 := hk7.trans (hb8.mono hk7.size)
  have hp8 := hp7.keep hb8
  clear hb8 hk7 g0 g1 hp7
  obtain ⟨g0, g1, -⟩ := HF.out _ hk8
  go_wp2_with fail
  refine (HN.out _ (HF.out _ hk8).2.2).mono ?_
  rintro e x9 ⟨b2, d2, rfl, hq9, hb9⟩
  have hk9 : Below W.heap.size W x9 := hk8.trans (hb9.mono hk8.size)
  have hp9 := hp8.keep hb9
  clear hb9 hk8 g0 g1 hp8
  obtain ⟨g0, g1, -⟩ := HF.out _ hk9
  go_wp2_with fail
  refine (HSE.out _ _ _ _ _ hp9 hq9).mono ?_
  rintro e x10 ⟨rfl, hb10⟩
  have hk10 : Below W.heap.size W x10 := hk9.trans (hb10.mono hk9.size)
  have hp10 := hp9.keep hb10
  have hq10 := hq9.keep hb10
  clear hb10 hk9 g0 g1 hp9 hq9
  obtain ⟨g0, g1, -⟩ := HF.out _ hk10
  go_wp2_with fail
  refine (HRG.out _ (HF.out _ hk10).2.2).mono ?_
  rintro e x11 ⟨rfl, hb11⟩
  have hk11 : Below W.heap.size W x11 := hk10.trans (hb11.mono hk10.size)
  have hp11 := hp10.keep hb11
  have hq11 := hq10.keep hb11
  clear hb11 hk10 g0 g1 hp10 hq10
  obtain ⟨g0, g1, -⟩ := HF.out _ hk11
  have HEND := Lib.hid (HB0.out.trans (hk11.mono HB0.out.size))
  clear hk11 g0 g1
  go_wp2
  go_ret
  exact ⟨rfl, HEND.out⟩
theorem checks_any (n : Int) (a : Option Addr) (cap : Nat) (L : List E) (w : World) (h : EsAt w a L) :
    Calls Try.prog 3 #[gv n a L.length cap] w (GivesB w true) := by
  cases hl : lightG n L with
  | false => exact checks_dark n a cap L (Lib.hid fun w h => by have := light_any n a cap L w h; rw [hl] at this; exact this) awake_any w h
  | true =>
    have hlen := light_len hl
    have HLI : Hid (∀ w, EsAt w a L → Calls Try.prog 12 #[.agg #[.int .i64 n, .slice a L.length cap]] w (fun e w' => e = .returned (.bool true) ∧ Below w.heap.size w w')) := Lib.hid fun w h => by have := light_any n a cap L w h; rw [hl] at this; exact this
    by_cases hk : chkG n L = 0
    · obtain ⟨N, rfl, h1, h2⟩ := nat_of_chk hk
      have hR := right_of hk
      refine checks_ok N a cap L (sizeG L) (genU N L) (endsG L) HLI awake_any ?_ ?_ ?_ ?_ ?_ ?_ ?_ ?_ ?_ w h
      · exact Lib.hid fun w h => by have := rcheck_any (N : Int) a cap L (by omega) w h; rw [hk] at this; exact this
      · exact Lib.hid fun w h => by have := pSize_any (N : Int) a cap L (by omega) w h; rw [hk] at this; exact this
      · exact Lib.hid fun w h => by have := pends_any (N : Int) a cap L (by omega) w h; rw [hk] at this; exact this
      · exact Lib.hid fun w h => by have := pGenus_any (N : Int) a cap L (by omega) w h; rw [hk] at this; exact this
      · exact Lib.hid fun w h => by have := check_any (N : Int) a cap L (by omega) w h; rw [hk] at this; exact this
      · exact Lib.hid fun w h => rsize_any (N : Int) a cap L (by omega) hR w h
      · exact Lib.hid fun w h => rends_any (N : Int) a cap L (by omega) hR w h
      · exact Lib.hid fun w h => by
          have := rgenus_any N (by omega) a cap L (by omega) hR w h
          rw [← comps_parts hR] at this
          exact this
      · exact Lib.hid fun b d b2 d2 w p q => sameEnds_true b b2 d d2 (endsG L) (Nat.le_trans (ends_all hR) (by omega)) w p q
    · refine checks_err n a cap L (chkG n L) hk HLI awake_any ?_ ?_ ?_ ?_ ?_ w h
      · exact Lib.hid fun w h => rcheck_any n a cap L (by omega) w h
      · exact Lib.hid fun w h => by have := pSize_any n a cap L (by omega) w h; rw [if_neg hk] at this; exact this
      · refine Lib.hid fun w h => (pends_any n a cap L (by omega) w h).mono ?_
        rintro e w' ⟨b, d, rfl, -, hb⟩
        exact ⟨b, d, by rw [if_neg hk]; rfl, hb⟩
      · exact Lib.hid fun w h => by have := pGenus_any n a cap L (by omega) w h; rw [if_neg hk] at this; exact this
      · exact Lib.hid fun w h => check_any n a cap L (by omega) w h
end Go.Proofs.Ytjaafneoinidkaa
