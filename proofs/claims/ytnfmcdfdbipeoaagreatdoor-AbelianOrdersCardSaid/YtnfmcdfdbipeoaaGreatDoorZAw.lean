/- Abelian groups: orders of elements are those of the reference. -/
import Derived.Test.YtnfmcdfdbipeoaaGreatDoorZAt
import Derived.Test.YtnfmcdfdbipeoaaGreatDoorZAv
namespace Go.Proofs.YtnfmcdfdbipeoaaGreatDoor
open Go.RowKit Go.Proofs.Num

set_option maxHeartbeats 3200000 in
set_option maxRecDepth 100000 in
theorem orders_no_g (HA : Awake) (a b : Option Addr) (cap cap2 : Nat) (G M : List ByteArray) (w : World) (HF : Hid (Calls Tryz.prog 11 #[.slice a G.length cap] w (fun e w' => e = .returned (.bool false) ∧ w = w'))) (hT : Tab w) :
    Calls Tryz.prog 6 #[.slice a G.length cap, .slice b M.length cap2] w (fun e w' => e = .returned (.bool true) ∧ Below w.heap.size w w') := by
  have HT := Lib.hid hT
  have HAW := Lib.hid HA
  clear HA hT
  go_enter Tryz.func6, Tryz.ntmps6
  go_wp2_with fail
  refine HF.out.mono ?_
  rintro e w1 ⟨rfl, rfl⟩
  have hk : Below w.heap.size w w := Below.refl _ _
  go_wp2_with fail
  refine (HAW.out _ (HT.out.keep hk)).mono ?_
  rintro e w9 ⟨rfl, hc9⟩
  have hk9 := hk.trans (hc9.mono hk.size)
  clear hk hc9
  have hk := hk9
  clear hk9
  go_wp2
  go_ret
  exact ⟨rfl, hk⟩

set_option maxHeartbeats 3200000 in
set_option maxRecDepth 100000 in
theorem orders_no_l (HA : Awake) (a b : Option Addr) (cap cap2 : Nat) (G M : List ByteArray) (w : World) (HF : Hid (Calls Tryz.prog 11 #[.slice a G.length cap] w (fun e w' => e = .returned (.bool true) ∧ w = w'))) (HL : Hid (Calls Tryz.prog 12 #[.slice (some ⟨w.heap.size, 0, none⟩) 1 1] (w.alloc (.cells #[.slice b M.length cap2] 22)) (fun e w' => e = .returned (.bool false) ∧ w.alloc (.cells #[.slice b M.length cap2] 22) = w'))) (hT : Tab w) :
    Calls Tryz.prog 6 #[.slice a G.length cap, .slice b M.length cap2] w (fun e w' => e = .returned (.bool true) ∧ Below w.heap.size w w') := by
  have HT := Lib.hid hT
  have HAW := Lib.hid HA
  clear HA hT
  go_enter Tryz.func6, Tryz.ntmps6
  go_wp2_with fail
  refine HF.out.mono ?_
  rintro e w1 ⟨rfl, rfl⟩
  have hk : Below w.heap.size w w := Below.refl _ _
  go_wp2_with fail
  refine HL.out.mono ?_
  rintro e w1 ⟨rfl, rfl⟩
  have hk9 := hk.alloc hk.size (.cells #[.slice b M.length cap2] 22)
  clear hk
  have hk := hk9
  clear hk9
  go_wp2_with fail
  refine (HAW.out _ (HT.out.keep hk)).mono ?_
  rintro e w9 ⟨rfl, hc9⟩
  have hk9 := hk.trans (hc9.mono hk.size)
  clear hk hc9
  have hk := hk9
  clear hk9
  go_wp2
  go_ret
  exact ⟨rfl, hk⟩

set_option maxHeartbeats 3200000 in
set_option maxRecDepth 100000 in
theorem orders_big (HA : Awake) (a b : Option Addr) (cap cap2 : Nat) (G M : List ByteArray) (w : World) (HF : Hid (Calls Tryz.prog 11 #[.slice a G.length cap] w (fun e w' => e = .returned (.bool true) ∧ w = w'))) (HL : Hid (Calls Tryz.prog 12 #[.slice (some ⟨w.heap.size, 0, none⟩) 1 1] (w.alloc (.cells #[.slice b M.length cap2] 22)) (fun e w' => e = .returned (.bool true) ∧ w.alloc (.cells #[.slice b M.length cap2] 22) = w'))) (HC : Hid (∀ w, TsAt w a G → Calls Tryz.prog 23 #[.slice a G.length cap] w (fun e w' => e = .returned (.int .i64 0) ∧ Below w.heap.size w w'))) (S : ByteArray) (d : Int) (HLa : Hid (∀ w, TsAt w a G → Calls Tryz.prog 40 #[.slice a G.length cap] w (fun e w' => e = .returned (.string S) ∧ Below w.heap.size w w'))) (HO : Hid (∀ w, Calls Tryz.prog 26 #[.string S, .string ⟨#[52, 48, 48]⟩] w (fun e w' => e = .returned (.int .i64 d) ∧ Below w.heap.size w w'))) (hd : 0 < d) (h : TsAt w a G) (hT : Tab w) :
    Calls Tryz.prog 6 #[.slice a G.length cap, .slice b M.length cap2] w (fun e w' => e = .returned (.bool true) ∧ Below w.heap.size w w') := by
  have HT := Lib.hid hT
  have HAW := Lib.hid HA
  have H1 := Lib.hid h
  have hd1 : decide (0 < d) = true := decide_eq_true hd
  clear HA hT h hd
  go_enter Tryz.func6, Tryz.ntmps6
  go_wp2_with fail
  refine HF.out.mono ?_
  rintro e w1 ⟨rfl, rfl⟩
  have hk : Below w.heap.size w w := Below.refl _ _
  go_wp2_with fail
  refine HL.out.mono ?_
  rintro e w1 ⟨rfl, rfl⟩
  have hk9 := hk.alloc hk.size (.cells #[.slice b M.length cap2] 22)
  clear hk
  have hk := hk9
  clear hk9
  go_wp2_with fail
  refine (HC.out _ (H1.out.keep hk)).mono ?_
  rintro e w1 ⟨rfl, hc1⟩
  have hk9 := hk.trans (hc1.mono hk.size)
  clear hk hc1
  have hk := hk9
  clear hk9
  go_wp2_with fail
  refine (HLa.out _ (H1.out.keep hk)).mono ?_
  rintro e w2 ⟨rfl, hc2⟩
  have hk9 := hk.trans (hc2.mono hk.size)
  clear hk hc2
  have hk := hk9
  clear hk9
  go_wp2_with fail
  refine (HO.out _).mono ?_
  rintro e w3 ⟨rfl, hc3⟩
  have hk9 := hk.trans (hc3.mono hk.size)
  clear hk hc3
  have hk := hk9
  clear hk9
  go_wp2_with fail
  refine (HAW.out _ (HT.out.keep hk)).mono ?_
  rintro e w9 ⟨rfl, hc9⟩
  have hk9 := hk.trans (hc9.mono hk.size)
  clear hk hc9
  have hk := hk9
  clear hk9
  go_wp2
  go_ret
  exact ⟨rfl, hk⟩

set_option maxHeartbeats 3200000 in
set_option maxRecDepth 100000 in
theorem orders_small (HA : Awake) (a b : Option Addr) (cap cap2 : Nat) (G M : List ByteArray) (w : World) (HF : Hid (Calls Tryz.prog 11 #[.slice a G.length cap] w (fun e w' => e = .returned (.bool true) ∧ w = w'))) (HL : Hid (Calls Tryz.prog 12 #[.slice (some ⟨w.heap.size, 0, none⟩) 1 1] (w.alloc (.cells #[.slice b M.length cap2] 22)) (fun e w' => e = .returned (.bool true) ∧ w.alloc (.cells #[.slice b M.length cap2] 22) = w'))) (HC : Hid (∀ w, TsAt w a G → Calls Tryz.prog 23 #[.slice a G.length cap] w (fun e w' => e = .returned (.int .i64 0) ∧ Below w.heap.size w w'))) (S : ByteArray) (d : Int) (HLa : Hid (∀ w, TsAt w a G → Calls Tryz.prog 40 #[.slice a G.length cap] w (fun e w' => e = .returned (.string S) ∧ Below w.heap.size w w'))) (HO : Hid (∀ w, Calls Tryz.prog 26 #[.string S, .string ⟨#[52, 48, 48]⟩] w (fun e w' => e = .returned (.int .i64 d) ∧ Below w.heap.size w w'))) (hd : d ≤ 0) (X : ByteArray) (c : Int) (HP : Hid (∀ w, TsAt w a G → TsAt w b M → Tab w → Calls Tryz.prog 41 #[.slice a G.length cap, .slice b M.length cap2] w (fun e w' => e = .returned (.tuple #[.string X, .int .i64 c]) ∧ Below w.heap.size w w'))) (HR : Hid (∀ w, TsAt w a G → TsAt w b M → Calls Tryz.prog 42 #[.slice a G.length cap, .slice b M.length cap2] w (fun e w' => e = .returned (.tuple #[.string X, .int .i64 c]) ∧ Below w.heap.size w w'))) (h : TsAt w a G) (h2 : TsAt w b M) (hT : Tab w) :
    Calls Tryz.prog 6 #[.slice a G.length cap, .slice b M.length cap2] w (fun e w' => e = .returned (.bool true) ∧ Below w.heap.size w w') := by
  have HT := Lib.hid hT
  have HAW := Lib.hid HA
  have H1 := Lib.hid h
  have H2 := Lib.hid h2
  have hd1 : decide (0 < d) = false := decide_eq_false (by omega)
  clear HA hT h h2 hd
  go_enter Tryz.func6, Tryz.ntmps6
  go_wp2_with fail
  refine HF.out.mono ?_
  rintro e w1 ⟨rfl, rfl⟩
  have hk : Below w.heap.size w w := Below.refl _ _
  go_wp2_with fail
  refine HL.out.mono ?_
  rintro e w1 ⟨rfl, rfl⟩
  have hk9 := hk.alloc hk.size (.cells #[.slice b M.length cap2] 22)
  clear hk
  have hk := hk9
  clear hk9
  go_wp2_with fail
  refine (HC.out _ (H1.out.keep hk)).mono ?_
  rintro e w1 ⟨rfl, hc1⟩
  have hk9 := hk.trans (hc1.mono hk.size)
  clear hk hc1
  have hk := hk9
  clear hk9
  go_wp2_with fail
  refine (HLa.out _ (H1.out.keep hk)).mono ?_
  rintro e w2 ⟨rfl, hc2⟩
  have hk9 := hk.trans (hc2.mono hk.size)
  clear hk hc2
  have hk := hk9
  clear hk9
  go_wp2_with fail
  refine (HO.out _).mono ?_
  rintro e w3 ⟨rfl, hc3⟩
  have hk9 := hk.trans (hc3.mono hk.size)
  clear hk hc3
  have hk := hk9
  clear hk9
  go_wp2_with fail
  refine (HP.out _ (H1.out.keep hk) (H2.out.keep hk) (HT.out.keep hk)).mono ?_
  rintro e w4 ⟨rfl, hc4⟩
  have hk9 := hk.trans (hc4.mono hk.size)
  clear hk hc4
  have hk := hk9
  clear hk9
  go_wp2_with fail
  refine (HR.out _ (H1.out.keep hk) (H2.out.keep hk)).mono ?_
  rintro e w5 ⟨rfl, hc5⟩
  have hk9 := hk.trans (hc5.mono hk.size)
  clear hk hc5
  have hk := hk9
  clear hk9
  go_wp2_with fail
  refine (HAW.out _ (HT.out.keep hk)).mono ?_
  rintro e w9 ⟨rfl, hc9⟩
  have hk9 := hk.trans (hc9.mono hk.size)
  clear hk hc9
  have hk := hk9
  clear hk9
  go_wp2
  go_ret
  exact ⟨rfl, hk⟩

set_option maxHeartbeats 3200000 in
set_option maxRecDepth 100000 in
theorem orders_wrong (HA : Awake) (a b : Option Addr) (cap cap2 : Nat) (G M : List ByteArray) (w : World) (HF : Hid (Calls Tryz.prog 11 #[.slice a G.length cap] w (fun e w' => e = .returned (.bool true) ∧ w = w'))) (HL : Hid (Calls Tryz.prog 12 #[.slice (some ⟨w.heap.size, 0, none⟩) 1 1] (w.alloc (.cells #[.slice b M.length cap2] 22)) (fun e w' => e = .returned (.bool true) ∧ w.alloc (.cells #[.slice b M.length cap2] 22) = w'))) (k : Nat) (hk : k ≠ 0) (HC : Hid (∀ w, TsAt w a G → Calls Tryz.prog 23 #[.slice a G.length cap] w (fun e w' => e = .returned (.int .i64 ((k : Nat) : Int)) ∧ Below w.heap.size w w'))) (X : ByteArray) (c : Int) (HP : Hid (∀ w, TsAt w a G → TsAt w b M → Tab w → Calls Tryz.prog 41 #[.slice a G.length cap, .slice b M.length cap2] w (fun e w' => e = .returned (.tuple #[.string X, .int .i64 c]) ∧ Below w.heap.size w w'))) (HR : Hid (∀ w, TsAt w a G → TsAt w b M → Calls Tryz.prog 42 #[.slice a G.length cap, .slice b M.length cap2] w (fun e w' => e = .returned (.tuple #[.string X, .int .i64 c]) ∧ Below w.heap.size w w'))) (h : TsAt w a G) (h2 : TsAt w b M) (hT : Tab w) :
    Calls Tryz.prog 6 #[.slice a G.length cap, .slice b M.length cap2] w (fun e w' => e = .returned (.bool true) ∧ Below w.heap.size w w') := by
  have HT := Lib.hid hT
  have HAW := Lib.hid HA
  have H1 := Lib.hid h
  have H2 := Lib.hid h2
  have hk0 : ¬ ((k : Nat) : Int) = 0 := by omega
  have hk1 : (((k : Nat) : Int) == 0) = false := by simp; omega
  clear HA hT h h2 hk
  go_enter Tryz.func6, Tryz.ntmps6
  go_wp2_with fail
  refine HF.out.mono ?_
  rintro e w1 ⟨rfl, rfl⟩
  have hk : Below w.heap.size w w := Below.refl _ _
  go_wp2_with fail
  refine HL.out.mono ?_
  rintro e w1 ⟨rfl, rfl⟩
  have hk9 := hk.alloc hk.size (.cells #[.slice b M.length cap2] 22)
  clear hk
  have hk := hk9
  clear hk9
  go_wp2_with fail
  refine (HC.out _ (H1.out.keep hk)).mono ?_
  rintro e w1 ⟨rfl, hc1⟩
  have hk9 := hk.trans (hc1.mono hk.size)
  clear hk hc1
  have hk := hk9
  clear hk9
  go_wp2_with fail
  refine (HP.out _ (H1.out.keep hk) (H2.out.keep hk) (HT.out.keep hk)).mono ?_
  rintro e w4 ⟨rfl, hc4⟩
  have hk9 := hk.trans (hc4.mono hk.size)
  clear hk hc4
  have hk := hk9
  clear hk9
  go_wp2_with fail
  refine (HR.out _ (H1.out.keep hk) (H2.out.keep hk)).mono ?_
  rintro e w5 ⟨rfl, hc5⟩
  have hk9 := hk.trans (hc5.mono hk.size)
  clear hk hc5
  have hk := hk9
  clear hk9
  go_wp2_with fail
  refine (HAW.out _ (HT.out.keep hk)).mono ?_
  rintro e w9 ⟨rfl, hc9⟩
  have hk9 := hk.trans (hc9.mono hk.size)
  clear hk hc9
  have hk := hk9
  clear hk9
  go_wp2
  go_ret
  exact ⟨rfl, hk⟩

theorem T_400 : T 400 = ⟨#[52, 48, 48]⟩ := ts_T (by decide +kernel)
theorem orders_any (HA : Awake) (a b : Option Addr) (cap cap2 : Nat) (G M : List ByteArray) (hG : G.length ≤ 9223372036854775807) (hM : M.length ≤ 9223372036854775807) (hsz : ∀ j, j < G.length → (sat G j).size ≤ 9223372036854775807) (hsz2 : ∀ j, j < M.length → (sat M j).size ≤ 9223372036854775807) (w : World) (h : TsAt w a G) (h2 : TsAt w b M) (hT : Tab w) :
    Calls Tryz.prog 6 #[.slice a G.length cap, .slice b M.length cap2] w (fun e w' => e = .returned (.bool true) ∧ Below w.heap.size w w') := by
  have HF := rfewG_any a cap G hG hsz w h
  by_cases hf : fewG G = true
  · rw [hf] at HF
    have HL := few_one_list b cap2 M hM hsz2 w h2
    by_cases hf2 : fewL M = true
    · rw [hf2] at HL
      have HC := fun w h => rgcheck_any a cap G (fun _ => hsz) w h
      have HP := fun w h h2 hT => orderOf_any a b cap cap2 M G hf hsz hsz2 w h h2 hT
      by_cases h0 : gck fck G = 0
      · rw [h0] at HC
        have hl := (gck_right h0).1
        have hla := la_right (one := fck) (fun s h => ⟨(fck_zero h).1, by have := (fck_zero h).2; omega⟩) (L := G) (j := G.length) (gck_right h0).2
        have HLa := fun w h => last_any a cap G (by omega) w h
        have HO : ∀ w, Calls Tryz.prog 26 #[.string (lastS G), .string ⟨#[52, 48, 48]⟩] w (fun e w' => e = .returned (.int .i64 (cmpZ (pz (lastS G)) 400)) ∧ Below w.heap.size w w') := fun w => by
          have hc : ck (T 400) = 0 := ck_T (few_small (by decide)) (by omega) (by omega)
          have := rorder_right (lastS G) (T 400) hla.1 hc w
          rw [pz_T, T_400] at this
          exact this
        by_cases h4 : 400 < pz (lastS G)
        · exact orders_big HA a b cap cap2 G M w (Lib.hid HF) (Lib.hid HL) (Lib.hid HC) _ _ (Lib.hid HLa) (Lib.hid HO) (by unfold cmpZ; rw [if_neg (by omega), if_pos h4]; omega) h hT
        · have hm : lc M G G.length ≤ 100000 := by
            have h5 := Nat.le_of_dvd (by have := hla.2; omega) (lc_dvd (L := M) h0 G.length (Nat.le_refl _))
            have h6 : pz (la G G.length) = pz (lastS G) := rfl
            omega
          exact orders_small HA a b cap cap2 G M w (Lib.hid HF) (Lib.hid HL) (Lib.hid HC) _ _ (Lib.hid HLa) (Lib.hid HO) (by unfold cmpZ; by_cases h7 : pz (lastS G) < 400; rw [if_pos h7]; omega; rw [if_neg h7, if_neg h4]; omega) _ _ (Lib.hid HP) (Lib.hid fun w h h2 => rorderOf_any a b cap cap2 M G (fun _ => hm) hsz hsz2 w h h2) h h2 hT
      · exact orders_wrong HA a b cap cap2 G M w (Lib.hid HF) (Lib.hid HL) _ h0 (Lib.hid HC) _ _ (Lib.hid HP) (Lib.hid fun w h h2 => rorderOf_any a b cap cap2 M G (fun h => absurd h h0) hsz hsz2 w h h2) h h2 hT
    · rw [show fewL M = false by simpa using hf2] at HL
      exact orders_no_l HA a b cap cap2 G M w (Lib.hid HF) (Lib.hid HL) hT
  · rw [show fewG G = false by simpa using hf] at HF
    exact orders_no_g HA a b cap cap2 G M w (Lib.hid HF) hT

end Go.Proofs.YtnfmcdfdbipeoaaGreatDoor
