/- Abelian groups: the order of an element divides the exponent, which divides the order; the walk. -/
import Derived.Test.YtnfmcdfdbipeoaaGreatDoorQ35
import Derived.Test.YtnfmcdfdbipeoaaGreatDoorZBc
namespace Go.Proofs.YtnfmcdfdbipeoaaGreatDoor
open Go.RowKit Go.Proofs.Num

def P6 : List ByteArray := [⟨#[50]⟩, ⟨#[51]⟩, ⟨#[53]⟩, ⟨#[55]⟩, ⟨#[49, 49]⟩, ⟨#[49, 51]⟩]
/-- Zeros, and 1 at the end. -/
def lastF (n j : Nat) : ByteArray := if j + 1 = n then ⟨#[49]⟩ else ⟨#[48]⟩
theorem lastF_set (n : Nat) : (strs (upto (fun _ => ⟨#[48]⟩) (n + 1))).set n (.string ⟨#[49]⟩) = strs (upto (lastF (n + 1)) (n + 1)) := by
  rw [upto_succ, upto_succ, strs_append, strs_append, List.set_append_right n _ (by rw [strs_len, upto_len]; exact Nat.le_refl _), strs_len, upto_len, Nat.sub_self]
  have e1 : upto (fun _ => (⟨#[48]⟩ : ByteArray)) n = upto (lastF (n + 1)) n := by
    unfold upto
    refine List.map_congr_left fun j hj => ?_
    have := List.mem_range.1 hj
    unfold lastF
    rw [if_neg (by omega)]
  rw [e1]
  unfold lastF
  rw [if_pos rfl]
  rfl
set_option maxHeartbeats 3200000 in
set_option maxRecDepth 100000 in
theorem divides_no_r (HA : Awake) (a b : Option Addr) (cap c1 : Nat) (G M : List ByteArray) (w : World) (HR : Hid (Calls Tryz.prog 43 #[.slice a G.length cap, .slice (some ⟨w.heap.size, 0, none⟩) 1 1] (w.alloc (.cells #[.slice b M.length c1] 22)) (fun e w' => e = .returned (.bool false) ∧ Below (w.alloc (.cells #[.slice b M.length c1] 22)).heap.size (w.alloc (.cells #[.slice b M.length c1] 22)) w'))) (hT : Tab w) :
    Calls Tryz.prog 8 #[.slice a G.length cap, .slice b M.length c1] w (fun e w' => e = .returned (.bool true) ∧ Below w.heap.size w w') := by
  have HT := Lib.hid hT
  have HAW := Lib.hid HA
  clear HA hT
  go_enter Tryz.func8, Tryz.ntmps8
  go_wp2_with fail
  have hk : Below w.heap.size w (w.alloc (.cells #[.slice b M.length c1] 22)) := (Below.refl _ _).alloc (Nat.le_refl _) _
  refine (HR.out).mono ?_
  rintro e w30 ⟨rfl, hc30⟩
  have hk9 := hk.trans (hc30.mono hk.size)
  clear hk hc30
  have hk := hk9
  clear hk9
  go_wp2_with fail
  refine (HAW.out _ (HT.out.keep hk)).mono ?_
  rintro e w29 ⟨rfl, hc29⟩
  have hk9 := hk.trans (hc29.mono hk.size)
  clear hk hc29
  have hk := hk9
  clear hk9
  go_wp2
  go_ret
  exact ⟨rfl, hk⟩

set_option maxHeartbeats 12800000 in
set_option maxRecDepth 100000 in
theorem divides_yes (HA : Awake) (a b : Option Addr) (cap c1 : Nat) (G M : List ByteArray) (w : World) (HR : Hid (Calls Tryz.prog 43 #[.slice a G.length cap, .slice (some ⟨w.heap.size, 0, none⟩) 1 1] (w.alloc (.cells #[.slice b M.length c1] 22)) (fun e w' => e = .returned (.bool true) ∧ Below (w.alloc (.cells #[.slice b M.length c1] 22)).heap.size (w.alloc (.cells #[.slice b M.length c1] 22)) w'))) (N X S : ByteArray) (Z0 : List ByteArray) (qs bs : Nat → ByteArray) (Zs : Nat → List ByteArray) (hl : G.length ≤ 4096)
    (Q1 : Hid (∀ w, TsAt w a G → TsAt w b M → Tab w → Calls Tryz.prog 41 #[.slice a G.length cap, .slice b M.length c1] w (fun e w' => e = .returned (.tuple #[.string N, .int .i64 0]) ∧ Below w.heap.size w w'))) (Q2 : Hid (∀ w, TsAt w a G → Tab w → Calls Tryz.prog 18 #[.slice a G.length cap] w (fun e w' => e = .returned (.tuple #[.string X, .int .i64 0]) ∧ Below w.heap.size w w'))) (Q3 : Hid (∀ w, TsAt w a G → Tab w → Calls Tryz.prog 16 #[.slice a G.length cap] w (fun e w' => e = .returned (.tuple #[.string S, .int .i64 0]) ∧ Below w.heap.size w w')))
    (Q4 : Hid (∀ w, Tab w → Calls Tryz.prog 46 #[.string X, .string N] w (fun e w' => e = .returned (.tuple #[.string ⟨#[48]⟩, .int .i64 0]) ∧ Below w.heap.size w w'))) (Q5 : Hid (∀ w, Tab w → Calls Tryz.prog 46 #[.string S, .string X] w (fun e w' => e = .returned (.tuple #[.string ⟨#[48]⟩, .int .i64 0]) ∧ Below w.heap.size w w')))
    (Q6 : Hid (∀ w, TsAt w a G → TsAt w b M → Tab w → Calls Tryz.prog 36 #[.slice a G.length cap, .string N, .slice b M.length c1] w (GivesTs w Z0 0))) (Q7 : Hid (∀ (w : World) (a : Option Addr) (c : Nat), TsAt w a Z0 → Calls Tryz.prog 47 #[.slice a Z0.length c] w (fun e w' => e = .returned (.bool true) ∧ w = w')))
    (H1 : Hid (∀ i, i < 6 → ∀ w, Tab w → Calls Tryz.prog 48 #[.string N, .string (sat P6 i)] w (fun e w' => e = .returned (.tuple #[.string (qs i), .int .i64 0]) ∧ Below w.heap.size w w'))) (H2 : Hid (∀ i, i < 6 → ∀ w, Tab w → Calls Tryz.prog 49 #[.string (qs i), .string (sat P6 i)] w (fun e w' => e = .returned (.tuple #[.string (bs i), .int .i64 0]) ∧ Below w.heap.size w w')))
    (H3 : Hid (∀ i, i < 6 → ((bs i).toList == N.toList) = false ∨ (bs i = N ∧ (∀ w, TsAt w a G → TsAt w b M → Tab w → Calls Tryz.prog 36 #[.slice a G.length cap, .string (qs i), .slice b M.length c1] w (GivesTs w (Zs i) 0)) ∧ (∀ (w : World) (a : Option Addr) (c : Nat), TsAt w a (Zs i) → Calls Tryz.prog 47 #[.slice a (Zs i).length c] w (fun e w' => e = .returned (.bool false) ∧ w = w')))))
    (Q8 : Hid (∀ (w : World) (d : Option Addr) (c : Nat), TsAt w a G → TsAt w d (upto (lastF G.length) G.length) → Tab w → Calls Tryz.prog 41 #[.slice a G.length cap, .slice d G.length c] w (fun e w' => e = .returned (.tuple #[.string X, .int .i64 0]) ∧ Below w.heap.size w w'))) (h : TsAt w a G) (h2 : TsAt w b M) (hT : Tab w) :
    Calls Tryz.prog 8 #[.slice a G.length cap, .slice b M.length c1] w (fun e w' => e = .returned (.bool true) ∧ Below w.heap.size w w') := by
  have HT := Lib.hid hT
  have HAW := Lib.hid HA
  have HG := Lib.hid h
  have HM := Lib.hid h2
  obtain ⟨i0, hi0, hz0, hz1, hz2⟩ := info_parts info31
  clear HA hT h h2
  go_enter Tryz.func8, Tryz.ntmps8
  go_wp2_with fail
  have hk : Below w.heap.size w (w.alloc (.cells #[.slice b M.length c1] 22)) := (Below.refl _ _).alloc (Nat.le_refl _) _
  refine (HR.out).mono ?_
  rintro e w30 ⟨rfl, hc30⟩
  have hk9 := hk.trans (hc30.mono hk.size)
  clear hk hc30
  have hk := hk9
  clear hk9
  go_wp2_with fail
  refine (Q1.out _ (HG.out.keep hk) (HM.out.keep hk) (HT.out.keep hk)).mono ?_
  rintro e w1 ⟨rfl, hc1⟩
  have hk9 := hk.trans (hc1.mono hk.size)
  clear hk hc1
  have hk := hk9
  clear hk9
  go_wp2_with fail
  refine (Q2.out _ (HG.out.keep hk) (HT.out.keep hk)).mono ?_
  rintro e w2 ⟨rfl, hc2⟩
  have hk9 := hk.trans (hc2.mono hk.size)
  clear hk hc2
  have hk := hk9
  clear hk9
  go_wp2_with fail
  refine (Q3.out _ (HG.out.keep hk) (HT.out.keep hk)).mono ?_
  rintro e w3 ⟨rfl, hc3⟩
  have hk9 := hk.trans (hc3.mono hk.size)
  clear hk hc3
  have hk := hk9
  clear hk9
  go_wp2_with fail
  refine (Q4.out _ (HT.out.keep hk)).mono ?_
  rintro e w4 ⟨rfl, hc4⟩
  have hk9 := hk.trans (hc4.mono hk.size)
  clear hk hc4
  have hk := hk9
  clear hk9
  go_wp2_with fail
  refine (Q5.out _ (HT.out.keep hk)).mono ?_
  rintro e w5 ⟨rfl, hc5⟩
  have hk9 := hk.trans (hc5.mono hk.size)
  clear hk hc5
  have hk := hk9
  clear hk9
  go_wp2_with fail
  refine (Q6.out _ (HG.out.keep hk) (HM.out.keep hk) (HT.out.keep hk)).mono ?_
  rintro e w6 ⟨a6, q6, rfl, hz6, hc6⟩
  have hk9 := hk.trans (hc6.mono hk.size)
  clear hk hc6
  have hk := hk9
  clear hk9
  have HZ6 := Lib.hid hz6
  clear hz6
  go_wp2_with fail
  refine (Q7.out _ _ _ HZ6.out).mono ?_
  rintro e w7 ⟨rfl, rfl⟩
  have HP6 : Hid (TsAt (w6.alloc (.cells #[.string ⟨#[50]⟩, .string ⟨#[51]⟩, .string ⟨#[53]⟩, .string ⟨#[55]⟩, .string ⟨#[49, 49]⟩, .string ⟨#[49, 51]⟩] 31)) (some ⟨w6.heap.size, 0, none⟩) P6) := TsAt.lit w6 P6
  have hk9 := hk.alloc hk.size (.cells #[.string ⟨#[50]⟩, .string ⟨#[51]⟩, .string ⟨#[53]⟩, .string ⟨#[55]⟩, .string ⟨#[49, 49]⟩, .string ⟨#[49, 51]⟩] 31)
  have HK0 := Lib.hid hk9
  clear hk hk9
  go_wp2
  go_loopw [91] (fun l wr => ∃ i : Nat, i ≤ 6 ∧ l = .int .i64 i ∧ Below (w6.alloc (.cells #[.string ⟨#[50]⟩, .string ⟨#[51]⟩, .string ⟨#[53]⟩, .string ⟨#[55]⟩, .string ⟨#[49, 49]⟩, .string ⟨#[49, 51]⟩] 31)).heap.size (w6.alloc (.cells #[.string ⟨#[50]⟩, .string ⟨#[51]⟩, .string ⟨#[53]⟩, .string ⟨#[55]⟩, .string ⟨#[49, 49]⟩, .string ⟨#[49, 51]⟩] 31)) wr) (fun l _ => 6 - (intOf l).toNat)
  case atStart => exact ⟨0, by omega, rfl, Below.refl _ _⟩
  case round =>
    obtain ⟨i, hi, rfl, hB⟩ := hrel
    have hk := HK0.out.trans (hB.mono HK0.out.size)
    by_cases hlt : i < 6
    · obtain ⟨b6, o6, he6, hb6, hc6⟩ := (HP6.out.keep hB) i hlt
      simp only [Option.some.injEq, Addr.mk.injEq, and_true] at he6
      obtain ⟨rfl, rfl⟩ := he6
      rw [Nat.zero_add] at hc6
      have C1 := Lib.hid (H1.out i hlt)
      have C2 := Lib.hid (H2.out i hlt)
      have hi6 : ((i : Nat) : Int) < 6 := by omega
      rcases H3.out i hlt with h3 | ⟨h3, h4, h5⟩
      · go_wp2_with fail
        refine (C1.out _ (HT.out.keep hk)).mono ?_
        rintro e w8 ⟨rfl, hc8⟩
        have hB8 := hB.trans (hc8.mono hB.size)
        have hk := HK0.out.trans (hB8.mono HK0.out.size)
        clear hc8 hc6
        go_wp2_with fail
        refine (C2.out _ (HT.out.keep hk)).mono ?_
        rintro e w9 ⟨rfl, hc9⟩
        have hB9 := hB8.trans (hc9.mono hB8.size)
        clear hc9
        go_wp2
        go_roundw
        case rel => exact ⟨i + 1, by omega, by go_num, hB9⟩
        case measure => simp [intOf]; omega
      · rw [h3] at C2
        have C3 := Lib.hid h4
        have C4 := Lib.hid h5
        clear h3 h4 h5
        go_wp2_with fail
        refine (C1.out _ (HT.out.keep hk)).mono ?_
        rintro e w8 ⟨rfl, hc8⟩
        have hB8 := hB.trans (hc8.mono hB.size)
        have hk := HK0.out.trans (hB8.mono HK0.out.size)
        clear hc8 hc6
        go_wp2_with fail
        refine (C2.out _ (HT.out.keep hk)).mono ?_
        rintro e w9 ⟨rfl, hc9⟩
        have hB9 := hB8.trans (hc9.mono hB8.size)
        have hk := HK0.out.trans (hB9.mono HK0.out.size)
        clear hc9
        go_wp2_with fail
        refine (C3.out _ (HG.out.keep hk) (HM.out.keep hk) (HT.out.keep hk)).mono ?_
        rintro e w10 ⟨a10, q10, rfl, hz10, hc10⟩
        have hB10 := hB9.trans (hc10.mono hB9.size)
        have HZ10 := Lib.hid hz10
        clear hc10 hz10
        go_wp2_with fail
        refine (C4.out _ _ _ HZ10.out).mono ?_
        rintro e w11 ⟨rfl, rfl⟩
        go_wp2
        go_roundw
        case rel => exact ⟨i + 1, by omega, by go_num, hB10⟩
        case measure => simp [intOf]; omega
    · obtain rfl : i = 6 := by omega
      clear HP6 HZ6 hB
      generalize wr = V at *
      have hks := hk.size
      go_wp2_with (at_make; refine wpList_make_full _ rfl _ _ 22 rfl w.heap.size 31 i0 (.string ⟨#[]⟩) 1 Tryz.underlying22 hi0 hz0 hz1 _ _ _ _ G.length rfl rfl (by omega) (by omega) ?b2 ?b3 hks ?_)
      case b2 => rw [hz2]; omega
      case b3 => unfold maxLen; omega
      intro w0 hown0 hgrow0
      rw [toList_madeCells_one, ← filled_zero (fun _ => ⟨#[48]⟩)] at hown0
      have HOW0 := Lib.hid hown0
      have HB0 := Lib.hid (hk.grown hgrow0 hks (fun k h => by cases h))
      clear hown0 hgrow0 hk
      go_wp2
      go_loopw [135] (fun l wr => ∃ i : Nat, i ≤ G.length ∧ l = .int .i64 i ∧ wr.ownsRow w.heap.size 31 1 (.slice (some ⟨V.heap.size, 0, none⟩) G.length G.length) G.length (strs (filled (fun _ => ⟨#[48]⟩) G.length i)) ∧ Below w.heap.size w wr) (fun l _ => G.length - (intOf l).toNat)
      case atStart => exact ⟨0, Nat.zero_le _, rfl, HOW0.out, HB0.out⟩
      case round =>
        clear HOW0 HB0
        obtain ⟨i, hi', rfl, hown, hBB⟩ := hrel
        by_cases hlt2 : i < G.length
        · have hco : wr.cell? ⟨V.heap.size, i, none⟩ = some (.string (sat (filled (fun _ => ⟨#[48]⟩) G.length i) i)) := (hown.cellAt i (by omega)).trans (strs_at _ _ (by simp [filled, upto]; omega))
          have hfo : wr.frozen? ⟨V.heap.size, i, none⟩ = false := hown.frozenAt i
          have hst := hown.stored i (.string ⟨#[48]⟩)
          rw [filled_set (fun _ => ⟨#[48]⟩) G.length i hlt2] at hst
          have HST := Lib.hid hst
          clear hst hown
          go_wp2
          go_roundw
          case rel => exact ⟨i + 1, by omega, by go_num, HST.out.1, hBB.grown HST.out.2 hBB.size (fun k hk => by cases hk; exact hks)⟩
          case measure => simp [intOf]; omega
        · obtain rfl : i = G.length := by omega
          have HOW := Lib.hid hown
          have hk := hBB
          have hVs := Lib.hid hks
          clear hown hBB hks
          rcases hn : G.length with _ | m
          · rw [hn] at HOW
            obtain ⟨ad, cd, e1, e2⟩ := TsAt.of_own (R := upto (lastF 0) 0) (HOW.out : wr.ownsRow w.heap.size 31 1 (.slice (some ⟨V.heap.size, 0, none⟩) 0 0) 0 (strs []))
            rw [upto_len] at e1
            simp only [Value.slice.injEq, true_and] at e1
            obtain ⟨rfl, rfl⟩ := e1
            have HL := Lib.hid e2
            clear e2 HOW
            rw [hn] at Q8
            go_wp2_with fail
            refine (Q8.out _ _ _ (by have := HG.out.keep hk; exact this) HL.out (HT.out.keep hk)).mono ?_
            rintro e w12 ⟨rfl, hc12⟩
            have hk9 := hk.trans (hc12.mono hk.size)
            clear hk hc12
            have hk := hk9
            clear hk9
            go_wp2_with fail
            refine (HAW.out _ (HT.out.keep hk)).mono ?_
            rintro e w29 ⟨rfl, hc29⟩
            have hk9 := hk.trans (hc29.mono hk.size)
            clear hk hc29
            have hk := hk9
            clear hk9
            go_wp2
            go_ret
            exact ⟨rfl, hk⟩

          · rw [hn] at HOW
            have g1 : (0 : Int) ≤ (m : Int) := by omega
            have g2 : IntKind.i64.wrap (m : Int) = (m : Int) := IntWalk.i64_in _ (by omega)
            have g4 : ¬ ((m : Int) + 1 = 0) := by omega
            have g5 : (0 : Int) < (m : Int) + 1 := by omega
            rw [filled_end] at HOW
            have hown := HOW.out
            have hco : wr.cell? ⟨V.heap.size, m, none⟩ = some (.string (sat (upto (fun _ => ⟨#[48]⟩) (m + 1)) m)) := (hown.cellAt m (by omega)).trans (strs_at _ _ (by rw [upto_len]; omega))
            have hfo : wr.frozen? ⟨V.heap.size, m, none⟩ = false := hown.frozenAt m
            have hst := hown.stored m (.string ⟨#[49]⟩)
            rw [lastF_set] at hst
            have HST := Lib.hid hst
            clear hst hown
            rw [hn] at Q8
            obtain ⟨U, hU⟩ : ∃ U, U = wr.setCell ⟨V.heap.size, m, none⟩ (.string ⟨#[49]⟩) := ⟨_, rfl⟩
            rw [← hU] at HST
            have hkU : Below w.heap.size w U := hk.grown HST.out.2 hk.size (fun k hk => by cases hk; exact hVs.out)
            obtain ⟨ad, cd, e1, e2⟩ := TsAt.of_own (R := upto (lastF (m + 1)) (m + 1)) (by rw [upto_len]; exact HST.out.1)
            rw [upto_len] at e1
            simp only [Value.slice.injEq, true_and] at e1
            obtain ⟨rfl, rfl⟩ := e1
            have HL := Lib.hid e2
            have HU := Lib.hid hU
            clear e2 HST HOW hU
            go_wp2_with fail
            rw [← HU.out]
            clear hk hco hfo
            have hk := hkU
            clear hkU
            refine (Q8.out _ _ _ (by have := HG.out.keep hk; exact this) HL.out (HT.out.keep hk)).mono ?_
            rintro e w12 ⟨rfl, hc12⟩
            have hk9 := hk.trans (hc12.mono hk.size)
            clear hk hc12
            have hk := hk9
            clear hk9
            go_wp2_with fail
            refine (HAW.out _ (HT.out.keep hk)).mono ?_
            rintro e w29 ⟨rfl, hc29⟩
            have hk9 := hk.trans (hc29.mono hk.size)
            clear hk hc29
            have hk := hk9
            clear hk9
            go_wp2
            go_ret
            exact ⟨rfl, hk⟩


end Go.Proofs.YtnfmcdfdbipeoaaGreatDoor
