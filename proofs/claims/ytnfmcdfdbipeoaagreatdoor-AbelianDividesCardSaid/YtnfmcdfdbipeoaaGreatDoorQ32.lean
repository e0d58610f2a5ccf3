/- Abelian groups: groups that are short. And: Abelian groups: the group of a diagonal. And: Abelian groups: orders, exponents and elements, walked. And: Abelian groups: the lists that the reference makes, walked. And: Abelian groups: lists of short texts. And: Abelian groups: lists of short texts, and groups that are short. -/
import Derived.Test.YtnfmcdfdbipeoaaGreatDoorQ31
import Derived.Test.YtnfmcdfdbipeoaaGreatDoorQ23
namespace Go.Proofs.YtnfmcdfdbipeoaaGreatDoor
open Go.RowKit Go.Proofs.Num

/-- A factor is short, or it is wrong. -/
def okf (s : ByteArray) : Bool := decide (s.size ≤ 30) || (decide (s.size < 2048) && decide (ck s ≠ 0))
/-- There are few factors, or too many. -/
def lenOk (n : Nat) : Bool := decide (n ≤ 8) || (decide (16 < n) && decide (n < 1000))
/-- A group is short. -/
def fewG (L : List ByteArray) : Bool := decide (∀ j, j < L.length → j < 20 → okf (sat L j) = true) && lenOk L.length

set_option maxHeartbeats 3200000 in
set_option maxRecDepth 100000 in
theorem rfewG_any (a : Option Addr) (cap : Nat) (L : List ByteArray) (hl : L.length ≤ 9223372036854775807) (hsz : ∀ j, j < L.length → (sat L j).size ≤ 9223372036854775807) (w : World) (h : TsAt w a L) :
    Calls Tryz.prog 11 #[.slice a L.length cap] w (fun e w' => e = .returned (.bool (fewG L)) ∧ w = w') := by
  obtain ⟨q, hq⟩ : ∃ q, q = fewG L := ⟨_, rfl⟩
  have HBAD : Hid (∀ i, i < L.length → i < 20 → okf (sat L i) = false → q = false) := fun i h1 h2 h3 => by
    rw [hq]; unfold fewG
    rw [decide_eq_false (fun hn => by rw [hn i h1 h2] at h3; cases h3), Bool.false_and]
  have HGOOD : Hid ((∀ j, j < L.length → j < 20 → okf (sat L j) = true) → q = lenOk L.length) := fun hn => by
    rw [hq]; unfold fewG
    rw [decide_eq_true hn, Bool.true_and]
  rw [← hq]
  have HC := Lib.hid (fun (j : Nat) (hj : j < L.length) (w : World) => rcheck_any (sat L j) w (hsz j hj))
  have H := Lib.hid h
  clear h hsz hq
  go_enter Tryz.func11, Tryz.ntmps11
  go_wp2
  go_loop [3] (fun v => ∃ i : Nat, i ≤ L.length ∧ i ≤ 20 ∧ v = .int .i64 i ∧ Hid (∀ j, j < i → okf (sat L j) = true)) (fun v => L.length - (intOf v).toNat)
  case atStart => exact ⟨0, Nat.zero_le _, by omega, rfl, fun j hj => by omega⟩
  case round =>
    obtain ⟨i, hi, hi2, rfl, hok⟩ := hrel
    by_cases hlt : i < L.length ∧ i < 20
    · obtain ⟨hiL, hi20⟩ := hlt
      obtain ⟨b, off, rfl, hb, hc⟩ := H.out i hiL
      have C := Lib.hid (fun w => HC.out i hiL w)
      have HNX : Hid (okf (sat L i) = true → ∀ j, j < i + 1 → okf (sat L j) = true) := fun h1 j hj => by
        rcases Nat.lt_succ_iff_lt_or_eq.1 hj with h2 | rfl
        · exact hok.out j h2
        · exact h1
      have HB := Lib.hid (HBAD.out i hiL hi20)
      obtain ⟨s, hs⟩ : ∃ s, s = sat L i := ⟨_, rfl⟩
      rw [← hs] at C HNX HB hc
      have e20 : ((i : Nat) : Int) < 20 := by omega
      clear hs
      by_cases g1 : s.size ≤ 30
      · have d1 : decide ((30 : Int) < ((s.size : Nat) : Int)) = false := decide_eq_false (by omega)
        have N := Lib.hid (HNX.out (by unfold okf; rw [decide_eq_true g1, Bool.true_or]))
        clear g1
        go_wp2
        go_round
        case rel => exact ⟨i + 1, by omega, by omega, by go_num, N.out⟩
        case measure => simp [intOf]; omega
      · have d1 : decide ((30 : Int) < ((s.size : Nat) : Int)) = true := decide_eq_true (by omega)
        by_cases g2 : s.size < 2048
        · have d2 : decide (((s.size : Nat) : Int) < 2048) = true := decide_eq_true (by omega)
          obtain ⟨c, hcc⟩ : ∃ c, c = ck s := ⟨_, rfl⟩
          rw [show chk s.data.toList = c from hcc.symm] at C
          by_cases g3 : c = 0
          · have B := Lib.hid (HB.out (by unfold okf; rw [decide_eq_false g1, ← hcc, decide_eq_false (not_not_intro g3)]; simp))
            subst g3
            clear hcc g1 g2
            go_wp2_with fail
            refine (C.out _).mono ?_
            rintro e w1 ⟨rfl, rfl⟩
            go_wp2
            go_ret
            exact ⟨by rw [B.out]; rfl, rfl⟩
          · have N := Lib.hid (HNX.out (by unfold okf; rw [decide_eq_false g1, decide_eq_true g2, ← hcc, decide_eq_true g3]; rfl))
            have g4 : ¬ ((c : Nat) : Int) = 0 := by omega
            have g5 : (((c : Nat) : Int) != 0) = true := by simp; omega
            clear hcc g1 g2 g3
            go_wp2_with fail
            refine (C.out _).mono ?_
            rintro e w1 ⟨rfl, rfl⟩
            go_wp2
            go_round
            case rel => exact ⟨i + 1, by omega, by omega, by go_num, N.out⟩
            case measure => simp [intOf]; omega
        · have d2 : decide (((s.size : Nat) : Int) < 2048) = false := decide_eq_false (by omega)
          have B := Lib.hid (HB.out (by unfold okf; rw [decide_eq_false g1, decide_eq_false g2]; rfl))
          clear g1 g2
          go_wp2
          go_ret
          exact ⟨by rw [B.out]; rfl, rfl⟩
    · have HQ := Lib.hid (HGOOD.out (fun j h1 h2 => hok.out j (by omega)))
      have hend : i = L.length ∨ (i = 20 ∧ 20 < L.length) := by omega
      clear hok hlt
      rcases (show L.length ≤ 8 ∨ (8 < L.length ∧ L.length ≤ 16) ∨ (16 < L.length ∧ L.length < 1000) ∨ 1000 ≤ L.length by omega) with g | ⟨g, g'⟩ | ⟨g, g'⟩ | g
      · have E : Hid (q = true) := by unfold Hid; rw [HQ.out]; unfold lenOk; rw [decide_eq_true g, Bool.true_or]
        obtain rfl : i = L.length := by omega
        have d1 : ((L.length : Nat) : Int) ≤ 8 := by omega
        clear HQ hend
        go_wp2
        go_ret
        exact ⟨by rw [E.out]; rfl, rfl⟩
      · have E : Hid (q = false) := by unfold Hid; rw [HQ.out]; unfold lenOk; rw [decide_eq_false (by omega), decide_eq_false (by omega)]; rfl
        obtain rfl : i = L.length := by omega
        have d1 : ¬ ((L.length : Nat) : Int) ≤ 8 := by omega
        have d2 : decide ((16 : Int) < ((L.length : Nat) : Int)) = false := decide_eq_false (by omega)
        clear HQ hend
        go_wp2
        go_ret
        exact ⟨by rw [E.out]; rfl, rfl⟩
      · have E : Hid (q = true) := by unfold Hid; rw [HQ.out]; unfold lenOk; rw [decide_eq_false (by omega), decide_eq_true g, decide_eq_true g']; rfl
        have d1 : ¬ ((L.length : Nat) : Int) ≤ 8 := by omega
        have d2 : decide ((16 : Int) < ((L.length : Nat) : Int)) = true := decide_eq_true (by omega)
        have d3 : ((L.length : Nat) : Int) < 1000 := by omega
        clear HQ
        rcases hend with rfl | ⟨rfl, h20⟩
        · go_wp2
          go_ret
          exact ⟨by rw [E.out]; rfl, rfl⟩
        · have d5 : (20 : Int) < ((L.length : Nat) : Int) := by omega
          go_wp2
          go_ret
          exact ⟨by rw [E.out]; rfl, rfl⟩
      · have E : Hid (q = false) := by unfold Hid; rw [HQ.out]; unfold lenOk; rw [decide_eq_false (by omega), decide_eq_true (by omega), decide_eq_false (by omega)]; rfl
        have d1 : ¬ ((L.length : Nat) : Int) ≤ 8 := by omega
        have d2 : decide ((16 : Int) < ((L.length : Nat) : Int)) = true := decide_eq_true (by omega)
        have d3 : ¬ ((L.length : Nat) : Int) < 1000 := by omega
        clear HQ
        rcases hend with rfl | ⟨rfl, h20⟩
        · go_wp2
          go_ret
          exact ⟨by rw [E.out]; rfl, rfl⟩
        · have d5 : (20 : Int) < ((L.length : Nat) : Int) := by omega
          go_wp2
          go_ret
          exact ⟨by rw [E.out]; rfl, rfl⟩

end Go.Proofs.YtnfmcdfdbipeoaaGreatDoor

namespace Go.Proofs.YtnfmcdfdbipeoaaGreatDoor
open Go.RowKit Go.Proofs.Num

/-- A text is not 1. -/
def keep (s : ByteArray) : Bool := !(s.toList == [49])
/-- The texts that are not 1. -/
def ones (L : List ByteArray) : List ByteArray := L.filter keep
theorem ones_step (L : List ByteArray) (i : Nat) (hi : i < L.length) : ones (L.take (i + 1)) = if keep (sat L i) then ones (L.take i) ++ [sat L i] else ones (L.take i) := by
  unfold ones
  rw [take_sat L i hi, List.filter_append]
  cases h : keep (sat L i) <;> simp [h]
theorem ones_len (L : List ByteArray) (i : Nat) : (ones (L.take i)).length ≤ L.length := by
  unfold ones
  exact Nat.le_trans (List.length_filter_le _ _) (by rw [List.length_take]; omega)

set_option maxHeartbeats 3200000 in
set_option maxRecDepth 100000 in
theorem of_err (a : Option Addr) (cap n : Nat) (k : Nat) (hk : k ≠ 0) (w : World) (HC : Hid (Calls Tryz.prog 59 #[.slice a n cap, (.func (.func 60) #[] #[])] w (fun e w' => e = .returned (.int .i64 ((k : Nat) : Int)) ∧ Below w.heap.size w w'))) :
    Calls Tryz.prog 14 #[.slice a n cap] w (fun e w' => e = .returned (.tuple #[.slice none 0 0, .int .i64 ((k : Nat) : Int)]) ∧ Below w.heap.size w w') := by
  have hk0 : ¬ ((k : Nat) : Int) = 0 := by omega
  have hk1 : (((k : Nat) : Int) != 0) = true := by simp; omega
  clear hk
  go_enter Tryz.func14, Tryz.ntmps14
  go_wp2_with fail
  refine (HC.out).mono ?_
  rintro e w1 ⟨rfl, hb1⟩
  go_wp2
  go_ret2
  exact ⟨rfl, hb1⟩

set_option maxHeartbeats 3200000 in
set_option maxRecDepth 100000 in
theorem of_ok' (a : Option Addr) (cap : Nat) (L : List ByteArray) (hl : L.length ≤ 4096) (w : World) (h : TsAt w a L) (HC : Hid (Calls Tryz.prog 59 #[.slice a L.length cap, (.func (.func 60) #[] #[])] w (fun e w' => e = .returned (.int .i64 0) ∧ Below w.heap.size w w'))) :
    Calls Tryz.prog 14 #[.slice a L.length cap] w (GivesTs w (ones L) 0) := by
  have H := Lib.hid h
  obtain ⟨i0, hi, hz0, hz1, hz2⟩ := info_parts info31
  have HST := Lib.hid (fun i (hi : i < L.length) => ones_step L i hi)
  have HLE := Lib.hid (fun i => ones_len L i)
  have HT : Hid (L.take L.length = L) := List.take_length
  clear h
  go_enter Tryz.func14, Tryz.ntmps14
  go_wp2_with fail
  refine (HC.out).mono ?_
  rintro e w1 ⟨rfl, hb1⟩
  have hown0 : Hid ((w1.alloc (.cells #[] 31)).ownsRow w.heap.size 31 1 (.slice (some ⟨w1.heap.size, 0, none⟩) 0 0) 0 (strs [])) := World.ownsRow_lit (base := w.heap.size) (e := 31) (size := 1) w1 #[] 0 hb1.size (by unfold maxLen; omega) rfl
  have HB0 := Lib.hid (hb1.alloc hb1.size (.cells #[] 31))
  clear hb1
  go_wp2
  go_loopw [5, 16] (fun v l wr => ∃ i : Nat, i ≤ L.length ∧ l = .int .i64 i ∧ wr.ownsRow w.heap.size 31 1 v (ones (L.take i)).length (strs (ones (L.take i))) ∧ Below w.heap.size w wr) (fun _ l _ => L.length - (intOf l).toNat)
  case atStart => exact ⟨0, Nat.zero_le _, rfl, hown0.out, HB0.out⟩
  case round =>
    clear hown0 HB0
    obtain ⟨i, hi', rfl, hown, hB⟩ := hrel
    have HOW := Lib.hid hown
    clear hown
    by_cases hlt : i < L.length
    · obtain ⟨b, off, rfl, hb, hc⟩ := (H.out.keep hB) i hlt
      have S := Lib.hid (HST.out i hlt)
      have hln := HLE.out i
      obtain ⟨s, hs⟩ : ∃ s, s = sat L i := ⟨_, rfl⟩
      rw [← hs] at S hc
      clear hs
      cases hkp : keep s with
      | true =>
        have hq : (s.toList == [49]) = false := by unfold keep at hkp; simpa using hkp
        rw [hkp] at S
        have hbs := hB.size
        clear hkp
        go_wp2_with (at_builtin; refine wpList_append_own _ rfl _ _ 22 rfl w.heap.size 31 i0 (.string ⟨#[]⟩) 1 16 Tryz.underlying22 hi hz0 hz1 hz2 rfl (by decide) _ _ _ rfl (HOW.out.alloc _) ⟨wr.heap.size, 0, none⟩ 1 1 [.string s] rfl rfl (lit_one _ _) (by simp [Value.oneCell']) (by unfold maxLen; omega) (by omega) (by rw [World.size_alloc]; omega) ?_; intro v1 w1 hown1 hgrow1 _)
        rw [← strs_one, ← strs_append] at hown1
        have HOW2 := Lib.hid hown1
        have hB2 : Below w.heap.size w w1 := below_push hB (fun k hk => (HOW.out.lt k hk).1) hgrow1
        clear hown1 hgrow1
        go_wp2
        go_roundw
        case rel => exact ⟨i + 1, by omega, by go_num, by rw [S.out, if_pos rfl, List.length_append]; exact HOW2.out, hB2⟩
        case measure => simp [intOf]; omega
      | false =>
        have hq : (s.toList == [49]) = true := by unfold keep at hkp; simpa using hkp
        rw [hkp] at S
        clear hkp
        go_wp2
        go_roundw
        case rel => exact ⟨i + 1, by omega, by go_num, by rw [S.out, if_neg (by simp)]; exact HOW.out, hB⟩
        case measure => simp [intOf]; omega
    · obtain rfl : i = L.length := by omega
      have HE := HOW.out
      rw [HT.out] at HE
      obtain ⟨a', c', e1, e2⟩ := TsAt.of_own HE
      have HE1 := Lib.hid e1
      have HE2 := Lib.hid e2
      clear HE e1 e2
      go_wp2
      go_ret2
      exact ⟨a', c', by rw [← HE1.out]; rfl, HE2.out, hB⟩

end Go.Proofs.YtnfmcdfdbipeoaaGreatDoor

namespace Go.Proofs.YtnfmcdfdbipeoaaGreatDoor
open Go.RowKit Go.Proofs.Num

set_option maxHeartbeats 3200000 in
set_option maxRecDepth 100000 in
theorem order_err (a : Option Addr) (cap : Nat) (L : List ByteArray) (k : Nat) (hk : k ≠ 0) (HC : Hid (∀ w, TsAt w a L → Tab w → Calls Tryz.prog 22 #[.slice a L.length cap] w (fun e w' => e = .returned (.int .i64 ((k : Nat) : Int)) ∧ Below w.heap.size w w'))) (w : World) (h : TsAt w a L) (hT : Tab w) :
    Calls Tryz.prog 16 #[.slice a L.length cap] w (fun e w' => e = .returned (.tuple #[.string ⟨#[]⟩, .int .i64 ((k : Nat) : Int)]) ∧ Below w.heap.size w w') := by
  have H := Lib.hid h
  have HT := Lib.hid hT
  clear h hT
  have hk0 : ¬ ((k : Nat) : Int) = 0 := by omega
  have hk1 : (((k : Nat) : Int) != 0) = true := by simp; omega
  clear hk
  go_enter Tryz.func16, Tryz.ntmps16
  have hB0 : Below w.heap.size w w := Below.refl _ _
  go_wp2_with fail
  refine (HC.out _ (H.out.keep hB0) (HT.out.keep hB0)).mono ?_
  rintro e w1 ⟨rfl, hb1⟩
  have hB1 : Below w.heap.size w w1 := hB0.trans (hb1.mono hB0.size)
  clear hb1
  go_wp2
  go_ret2
  exact ⟨rfl, hB1⟩

set_option maxHeartbeats 3200000 in
set_option maxRecDepth 100000 in
theorem order_ok (a : Option Addr) (cap : Nat) (L : List ByteArray) (X : ByteArray) (c : Int) (HC : Hid (∀ w, TsAt w a L → Tab w → Calls Tryz.prog 22 #[.slice a L.length cap] w (fun e w' => e = .returned (.int .i64 0) ∧ Below w.heap.size w w'))) (HP : Hid (∀ w, TsAt w a L → Tab w → Calls Tryz.prog 63 #[.slice a L.length cap] w (fun e w' => e = .returned (.tuple #[.string X, .int .i64 c]) ∧ Below w.heap.size w w'))) (w : World) (h : TsAt w a L) (hT : Tab w) :
    Calls Tryz.prog 16 #[.slice a L.length cap] w (fun e w' => e = .returned (.tuple #[.string X, .int .i64 c]) ∧ Below w.heap.size w w') := by
  have H := Lib.hid h
  have HT := Lib.hid hT
  clear h hT
  go_enter Tryz.func16, Tryz.ntmps16
  have hB0 : Below w.heap.size w w := Below.refl _ _
  go_wp2_with fail
  refine (HC.out _ (H.out.keep hB0) (HT.out.keep hB0)).mono ?_
  rintro e w1 ⟨rfl, hb1⟩
  have hB1 : Below w.heap.size w w1 := hB0.trans (hb1.mono hB0.size)
  clear hb1
  go_wp2_with fail
  refine (HP.out _ (H.out.keep hB1) (HT.out.keep hB1)).mono ?_
  rintro e w2 ⟨rfl, hb2⟩
  have hB2 : Below w.heap.size w w2 := hB1.trans (hb2.mono hB1.size)
  clear hb2
  go_wp2
  go_ret2
  exact ⟨rfl, hB2⟩

set_option maxHeartbeats 3200000 in
set_option maxRecDepth 100000 in
theorem rorder_err (a : Option Addr) (cap : Nat) (L : List ByteArray) (k : Nat) (hk : k ≠ 0) (HC : Hid (∀ w, TsAt w a L → Calls Tryz.prog 23 #[.slice a L.length cap] w (fun e w' => e = .returned (.int .i64 ((k : Nat) : Int)) ∧ Below w.heap.size w w'))) (w : World) (h : TsAt w a L) (hT : Tab w) :
    Calls Tryz.prog 17 #[.slice a L.length cap] w (fun e w' => e = .returned (.tuple #[.string ⟨#[]⟩, .int .i64 ((k : Nat) : Int)]) ∧ Below w.heap.size w w') := by
  have H := Lib.hid h
  have HT := Lib.hid hT
  clear h hT
  have hk0 : ¬ ((k : Nat) : Int) = 0 := by omega
  have hk1 : (((k : Nat) : Int) != 0) = true := by simp; omega
  clear hk
  go_enter Tryz.func17, Tryz.ntmps17
  have hB0 : Below w.heap.size w w := Below.refl _ _
  go_wp2_with fail
  refine (HC.out _ (H.out.keep hB0)).mono ?_
  rintro e w1 ⟨rfl, hb1⟩
  have hB1 : Below w.heap.size w w1 := hB0.trans (hb1.mono hB0.size)
  clear hb1
  go_wp2
  go_ret2
  exact ⟨rfl, hB1⟩

set_option maxHeartbeats 3200000 in
set_option maxRecDepth 100000 in
theorem rorder_ok (a : Option Addr) (cap : Nat) (L : List ByteArray) (S X : ByteArray) (c : Int) (HC : Hid (∀ w, TsAt w a L → Calls Tryz.prog 23 #[.slice a L.length cap] w (fun e w' => e = .returned (.int .i64 0) ∧ Below w.heap.size w w'))) (HP : Hid (∀ w, TsAt w a L → Calls Tryz.prog 27 #[.slice a L.length cap] w (fun e w' => e = .returned (.string S) ∧ Below w.heap.size w w'))) (HQ : Hid (∀ w, Calls Tryz.prog 64 #[.string S] w (fun e w' => e = .returned (.tuple #[.string X, .int .i64 c]) ∧ Below w.heap.size w w'))) (w : World) (h : TsAt w a L) (hT : Tab w) :
    Calls Tryz.prog 17 #[.slice a L.length cap] w (fun e w' => e = .returned (.tuple #[.string X, .int .i64 c]) ∧ Below w.heap.size w w') := by
  have H := Lib.hid h
  have HT := Lib.hid hT
  clear h hT
  go_enter Tryz.func17, Tryz.ntmps17
  have hB0 : Below w.heap.size w w := Below.refl _ _
  go_wp2_with fail
  refine (HC.out _ (H.out.keep hB0)).mono ?_
  rintro e w1 ⟨rfl, hb1⟩
  have hB1 : Below w.heap.size w w1 := hB0.trans (hb1.mono hB0.size)
  clear hb1
  go_wp2_with fail
  refine (HP.out _ (H.out.keep hB1)).mono ?_
  rintro e w2 ⟨rfl, hb2⟩
  have hB2 : Below w.heap.size w w2 := hB1.trans (hb2.mono hB1.size)
  clear hb2
  go_wp2_with fail
  refine (HQ.out _).mono ?_
  rintro e w3 ⟨rfl, hb3⟩
  have hB3 : Below w.heap.size w w3 := hB2.trans (hb3.mono hB2.size)
  clear hb3
  go_wp2
  go_ret2
  exact ⟨rfl, hB3⟩

set_option maxHeartbeats 3200000 in
set_option maxRecDepth 100000 in
theorem expo_err (a : Option Addr) (cap : Nat) (L : List ByteArray) (k : Nat) (hk : k ≠ 0) (HC : Hid (∀ w, TsAt w a L → Tab w → Calls Tryz.prog 22 #[.slice a L.length cap] w (fun e w' => e = .returned (.int .i64 ((k : Nat) : Int)) ∧ Below w.heap.size w w'))) (w : World) (h : TsAt w a L) (hT : Tab w) :
    Calls Tryz.prog 18 #[.slice a L.length cap] w (fun e w' => e = .returned (.tuple #[.string ⟨#[]⟩, .int .i64 ((k : Nat) : Int)]) ∧ Below w.heap.size w w') := by
  have H := Lib.hid h
  have HT := Lib.hid hT
  clear h hT
  have hk0 : ¬ ((k : Nat) : Int) = 0 := by omega
  have hk1 : (((k : Nat) : Int) != 0) = true := by simp; omega
  clear hk
  go_enter Tryz.func18, Tryz.ntmps18
  have hB0 : Below w.heap.size w w := Below.refl _ _
  go_wp2_with fail
  refine (HC.out _ (H.out.keep hB0) (HT.out.keep hB0)).mono ?_
  rintro e w1 ⟨rfl, hb1⟩
  have hB1 : Below w.heap.size w w1 := hB0.trans (hb1.mono hB0.size)
  clear hb1
  go_wp2
  go_ret2
  exact ⟨rfl, hB1⟩

set_option maxHeartbeats 3200000 in
set_option maxRecDepth 100000 in
theorem expo_nil (a : Option Addr) (cap : Nat) (L : List ByteArray) (HC : Hid (∀ w, TsAt w a L → Tab w → Calls Tryz.prog 22 #[.slice a 0 cap] w (fun e w' => e = .returned (.int .i64 0) ∧ Below w.heap.size w w'))) (w : World) (h : TsAt w a L) (hT : Tab w) :
    Calls Tryz.prog 18 #[.slice a 0 cap] w (fun e w' => e = .returned (.tuple #[.string ⟨#[49]⟩, .int .i64 0]) ∧ Below w.heap.size w w') := by
  have H := Lib.hid h
  have HT := Lib.hid hT
  clear h hT
  go_enter Tryz.func18, Tryz.ntmps18
  have hB0 : Below w.heap.size w w := Below.refl _ _
  go_wp2_with fail
  refine (HC.out _ (H.out.keep hB0) (HT.out.keep hB0)).mono ?_
  rintro e w1 ⟨rfl, hb1⟩
  have hB1 : Below w.heap.size w w1 := hB0.trans (hb1.mono hB0.size)
  clear hb1
  go_wp2
  go_ret2
  exact ⟨rfl, hB1⟩

set_option maxHeartbeats 3200000 in
set_option maxRecDepth 100000 in
theorem expo_last (a : Option Addr) (cap : Nat) (L : List ByteArray) (n : Nat) (hL : L.length = n + 1) (hl : n ≤ 4096) (HC : Hid (∀ w, TsAt w a L → Tab w → Calls Tryz.prog 22 #[.slice a (n + 1) cap] w (fun e w' => e = .returned (.int .i64 0) ∧ Below w.heap.size w w'))) (w : World) (h : TsAt w a L) (hT : Tab w) :
    Calls Tryz.prog 18 #[.slice a (n + 1) cap] w (fun e w' => e = .returned (.tuple #[.string (sat L n), .int .i64 0]) ∧ Below w.heap.size w w') := by
  have H := Lib.hid h
  have HT := Lib.hid hT
  clear h hT
  have g1 : (0 : Int) ≤ (n : Int) := by omega
  have g2 : IntKind.i64.wrap (n : Int) = (n : Int) := IntWalk.i64_in _ (by omega)
  have g3 : n < L.length := by omega
  have g4 : ¬ ((n : Int) + 1 = 0) := by omega
  clear hL
  go_enter Tryz.func18, Tryz.ntmps18
  have hB0 : Below w.heap.size w w := Below.refl _ _
  go_wp2_with fail
  refine (HC.out _ (H.out.keep hB0) (HT.out.keep hB0)).mono ?_
  rintro e w1 ⟨rfl, hb1⟩
  have hB1 : Below w.heap.size w w1 := hB0.trans (hb1.mono hB0.size)
  clear hb1
  obtain ⟨b, off, rfl, hb, hc⟩ := (H.out.keep hB1) n g3
  go_wp2
  go_ret2
  exact ⟨rfl, hB1⟩

set_option maxHeartbeats 3200000 in
set_option maxRecDepth 100000 in
theorem rexpo_err (a : Option Addr) (cap : Nat) (L : List ByteArray) (k : Nat) (hk : k ≠ 0) (HC : Hid (∀ w, TsAt w a L → Calls Tryz.prog 23 #[.slice a L.length cap] w (fun e w' => e = .returned (.int .i64 ((k : Nat) : Int)) ∧ Below w.heap.size w w'))) (w : World) (h : TsAt w a L) (hT : Tab w) :
    Calls Tryz.prog 19 #[.slice a L.length cap] w (fun e w' => e = .returned (.tuple #[.string ⟨#[]⟩, .int .i64 ((k : Nat) : Int)]) ∧ Below w.heap.size w w') := by
  have H := Lib.hid h
  have HT := Lib.hid hT
  clear h hT
  have hk0 : ¬ ((k : Nat) : Int) = 0 := by omega
  have hk1 : (((k : Nat) : Int) != 0) = true := by simp; omega
  clear hk
  go_enter Tryz.func19, Tryz.ntmps19
  have hB0 : Below w.heap.size w w := Below.refl _ _
  go_wp2_with fail
  refine (HC.out _ (H.out.keep hB0)).mono ?_
  rintro e w1 ⟨rfl, hb1⟩
  have hB1 : Below w.heap.size w w1 := hB0.trans (hb1.mono hB0.size)
  clear hb1
  go_wp2
  go_ret2
  exact ⟨rfl, hB1⟩

set_option maxHeartbeats 3200000 in
set_option maxRecDepth 100000 in
theorem rexpo_ok (a : Option Addr) (cap : Nat) (L : List ByteArray) (X : ByteArray) (HC : Hid (∀ w, TsAt w a L → Calls Tryz.prog 23 #[.slice a L.length cap] w (fun e w' => e = .returned (.int .i64 0) ∧ Below w.heap.size w w'))) (HP : Hid (∀ w, TsAt w a L → Calls Tryz.prog 40 #[.slice a L.length cap] w (fun e w' => e = .returned (.string X) ∧ Below w.heap.size w w'))) (w : World) (h : TsAt w a L) (hT : Tab w) :
    Calls Tryz.prog 19 #[.slice a L.length cap] w (fun e w' => e = .returned (.tuple #[.string X, .int .i64 0]) ∧ Below w.heap.size w w') := by
  have H := Lib.hid h
  have HT := Lib.hid hT
  clear h hT
  go_enter Tryz.func19, Tryz.ntmps19
  have hB0 : Below w.heap.size w w := Below.refl _ _
  go_wp2_with fail
  refine (HC.out _ (H.out.keep hB0)).mono ?_
  rintro e w1 ⟨rfl, hb1⟩
  have hB1 : Below w.heap.size w w1 := hB0.trans (hb1.mono hB0.size)
  clear hb1
  go_wp2_with fail
  refine (HP.out _ (H.out.keep hB1)).mono ?_
  rintro e w2 ⟨rfl, hb2⟩
  have hB2 : Below w.heap.size w w2 := hB1.trans (hb2.mono hB1.size)
  clear hb2
  go_wp2
  go_ret2
  exact ⟨rfl, hB2⟩

set_option maxHeartbeats 3200000 in
set_option maxRecDepth 100000 in
theorem last_nil (a : Option Addr) (cap : Nat) (w : World) :
    Calls Tryz.prog 40 #[.slice a 0 cap] w (fun e w' => e = .returned (.string ⟨#[49]⟩) ∧ Below w.heap.size w w') := by
  go_enter Tryz.func40, Tryz.ntmps40
  go_wp2
  go_ret
  exact ⟨rfl, Below.refl _ _⟩

set_option maxHeartbeats 3200000 in
set_option maxRecDepth 100000 in
theorem last_some (a : Option Addr) (cap : Nat) (L : List ByteArray) (n : Nat) (hL : L.length = n + 1) (hl : n ≤ 4096) (w : World) (h : TsAt w a L) :
    Calls Tryz.prog 40 #[.slice a (n + 1) cap] w (fun e w' => e = .returned (.string (sat L n)) ∧ Below w.heap.size w w') := by
  have g1 : (0 : Int) ≤ (n : Int) := by omega
  have g2 : IntKind.i64.wrap (n : Int) = (n : Int) := IntWalk.i64_in _ (by omega)
  have g3 : n < L.length := by omega
  have g4 : ¬ ((n : Int) + 1 = 0) := by omega
  obtain ⟨b, off, rfl, hb, hc⟩ := h n g3
  clear hL h
  go_enter Tryz.func40, Tryz.ntmps40
  go_wp2
  go_ret
  exact ⟨rfl, Below.refl _ _⟩

set_option maxHeartbeats 3200000 in
set_option maxRecDepth 100000 in
theorem elem_err (a b : Option Addr) (cap cap2 : Nat) (L G : List ByteArray) (k : Nat) (hk : k ≠ 0) (HC : Hid (∀ w, TsAt w a G → Tab w → Calls Tryz.prog 22 #[.slice a G.length cap] w (fun e w' => e = .returned (.int .i64 ((k : Nat) : Int)) ∧ Below w.heap.size w w'))) (w : World) (h : TsAt w a G) (_ : TsAt w b L) (hT : Tab w) :
    Calls Tryz.prog 20 #[.slice a G.length cap, .slice b L.length cap2] w (fun e w' => e = .returned (.tuple #[.slice none 0 0, .int .i64 ((k : Nat) : Int)]) ∧ Below w.heap.size w w') := by
  have H := Lib.hid h
  have HT := Lib.hid hT
  clear h hT
  have hk0 : ¬ ((k : Nat) : Int) = 0 := by omega
  have hk1 : (((k : Nat) : Int) != 0) = true := by simp; omega
  clear hk
  go_enter Tryz.func20, Tryz.ntmps20
  have hB0 : Below w.heap.size w w := Below.refl _ _
  go_wp2_with fail
  refine (HC.out _ (H.out.keep hB0) (HT.out.keep hB0)).mono ?_
  rintro e w1 ⟨rfl, hb1⟩
  have hB1 : Below w.heap.size w w1 := hB0.trans (hb1.mono hB0.size)
  clear hb1
  go_wp2
  go_ret2
  exact ⟨rfl, hB1⟩

set_option maxHeartbeats 3200000 in
set_option maxRecDepth 100000 in
theorem elem_bad (a b : Option Addr) (cap cap2 : Nat) (L G : List ByteArray) (c : Int) (HC : Hid (∀ w, TsAt w a G → Tab w → Calls Tryz.prog 22 #[.slice a G.length cap] w (fun e w' => e = .returned (.int .i64 0) ∧ Below w.heap.size w w'))) (HP : Hid (∀ w, TsAt w b L → TsAt w a G → Tab w → Calls Tryz.prog 65 #[.slice b L.length cap2, .slice a G.length cap, (.func (.func 46) #[] #[])] w (fun e w' => e = .returned (.tuple #[.slice none 0 0, .int .i64 c]) ∧ Below w.heap.size w w'))) (w : World) (h : TsAt w a G) (h2 : TsAt w b L) (hT : Tab w) :
    Calls Tryz.prog 20 #[.slice a G.length cap, .slice b L.length cap2] w (fun e w' => e = .returned (.tuple #[.slice none 0 0, .int .i64 c]) ∧ Below w.heap.size w w') := by
  have H := Lib.hid h
  have H2 := Lib.hid h2
  have HT := Lib.hid hT
  clear h h2 hT
  go_enter Tryz.func20, Tryz.ntmps20
  have hB0 : Below w.heap.size w w := Below.refl _ _
  go_wp2_with fail
  refine (HC.out _ (H.out.keep hB0) (HT.out.keep hB0)).mono ?_
  rintro e w1 ⟨rfl, hb1⟩
  have hB1 : Below w.heap.size w w1 := hB0.trans (hb1.mono hB0.size)
  clear hb1
  go_wp2_with fail
  refine (HP.out _ (H2.out.keep hB1) (H.out.keep hB1) (HT.out.keep hB1)).mono ?_
  rintro e w2 ⟨rfl, hb2⟩
  have hB2 : Below w.heap.size w w2 := hB1.trans (hb2.mono hB1.size)
  clear hb2
  go_wp2
  go_ret2
  exact ⟨rfl, hB2⟩

set_option maxHeartbeats 3200000 in
set_option maxRecDepth 100000 in
theorem elem_ok (a b : Option Addr) (cap cap2 : Nat) (L G : List ByteArray) (Z : List ByteArray) (HC : Hid (∀ w, TsAt w a G → Tab w → Calls Tryz.prog 22 #[.slice a G.length cap] w (fun e w' => e = .returned (.int .i64 0) ∧ Below w.heap.size w w'))) (HP : Hid (∀ w, TsAt w b L → TsAt w a G → Tab w → Calls Tryz.prog 65 #[.slice b L.length cap2, .slice a G.length cap, (.func (.func 46) #[] #[])] w (GivesTs w Z 0))) (w : World) (h : TsAt w a G) (h2 : TsAt w b L) (hT : Tab w) :
    Calls Tryz.prog 20 #[.slice a G.length cap, .slice b L.length cap2] w (GivesTs w Z 0) := by
  have H := Lib.hid h
  have H2 := Lib.hid h2
  have HT := Lib.hid hT
  clear h h2 hT
  go_enter Tryz.func20, Tryz.ntmps20
  have hB0 : Below w.heap.size w w := Below.refl _ _
  go_wp2_with fail
  refine (HC.out _ (H.out.keep hB0) (HT.out.keep hB0)).mono ?_
  rintro e w1 ⟨rfl, hB1⟩
  go_wp2_with fail
  refine (HP.out _ (H2.out.keep hB1) (H.out.keep hB1) (HT.out.keep hB1)).mono ?_
  rintro e w2 ⟨a', c', rfl, hz, hb2⟩
  have hB2 : Below w.heap.size w w2 := hB1.trans (hb2.mono hB1.size)
  have HZ := Lib.hid hz
  clear hb2 hz
  go_wp2
  go_ret2
  exact ⟨a', c', rfl, HZ.out, hB2⟩

set_option maxHeartbeats 3200000 in
set_option maxRecDepth 100000 in
theorem relem_err (a b : Option Addr) (cap cap2 : Nat) (L G : List ByteArray) (k : Nat) (hk : k ≠ 0) (HC : Hid (∀ w, TsAt w a G → Calls Tryz.prog 23 #[.slice a G.length cap] w (fun e w' => e = .returned (.int .i64 ((k : Nat) : Int)) ∧ Below w.heap.size w w'))) (w : World) (h : TsAt w a G) (_ : TsAt w b L) (hT : Tab w) :
    Calls Tryz.prog 21 #[.slice a G.length cap, .slice b L.length cap2] w (fun e w' => e = .returned (.tuple #[.slice none 0 0, .int .i64 ((k : Nat) : Int)]) ∧ Below w.heap.size w w') := by
  have H := Lib.hid h
  have HT := Lib.hid hT
  clear h hT
  have hk0 : ¬ ((k : Nat) : Int) = 0 := by omega
  have hk1 : (((k : Nat) : Int) != 0) = true := by simp; omega
  clear hk
  go_enter Tryz.func21, Tryz.ntmps21
  have hB0 : Below w.heap.size w w := Below.refl _ _
  go_wp2_with fail
  refine (HC.out _ (H.out.keep hB0)).mono ?_
  rintro e w1 ⟨rfl, hb1⟩
  have hB1 : Below w.heap.size w w1 := hB0.trans (hb1.mono hB0.size)
  clear hb1
  go_wp2
  go_ret2
  exact ⟨rfl, hB1⟩

set_option maxHeartbeats 3200000 in
set_option maxRecDepth 100000 in
theorem relem_shape (a b : Option Addr) (cap cap2 : Nat) (L G : List ByteArray) (hn : L.length ≠ G.length) (HC : Hid (∀ w, TsAt w a G → Calls Tryz.prog 23 #[.slice a G.length cap] w (fun e w' => e = .returned (.int .i64 0) ∧ Below w.heap.size w w'))) (w : World) (h : TsAt w a G) (_ : TsAt w b L) (hT : Tab w) :
    Calls Tryz.prog 21 #[.slice a G.length cap, .slice b L.length cap2] w (fun e w' => e = .returned (.tuple #[.slice none 0 0, .int .i64 8]) ∧ Below w.heap.size w w') := by
  have H := Lib.hid h
  have HT := Lib.hid hT
  clear h hT
  have d0 : (((L.length : Nat) : Int) != ((G.length : Nat) : Int)) = true := by simp; omega
  have d1 : ¬ ((L.length : Nat) : Int) = ((G.length : Nat) : Int) := by omega
  clear hn
  go_enter Tryz.func21, Tryz.ntmps21
  have hB0 : Below w.heap.size w w := Below.refl _ _
  go_wp2_with fail
  refine (HC.out _ (H.out.keep hB0)).mono ?_
  rintro e w1 ⟨rfl, hb1⟩
  have hB1 : Below w.heap.size w w1 := hB0.trans (hb1.mono hB0.size)
  clear hb1
  go_wp2
  go_ret2
  exact ⟨rfl, hB1⟩

set_option maxHeartbeats 3200000 in
set_option maxRecDepth 100000 in
theorem relem_ok (a b : Option Addr) (cap cap2 : Nat) (L G : List ByteArray) (hL : L.length = G.length) (hl : G.length ≤ 4096) (HC : Hid (∀ w, TsAt w a G → Calls Tryz.prog 23 #[.slice a G.length cap] w (fun e w' => e = .returned (.int .i64 0) ∧ Below w.heap.size w w'))) (HO : Hid (∀ j, j < G.length → ∀ w, Calls Tryz.prog 44 #[.string (sat L j)] w (fun e w' => e = .returned (.int .i64 0) ∧ Below w.heap.size w w'))) (Z : List ByteArray) (HR : Hid (∀ w, TsAt w a G → TsAt w b L → Calls Tryz.prog 66 #[.slice a G.length cap, .slice b G.length cap2] w (GivesL w Z))) (w : World) (h : TsAt w a G) (h2 : TsAt w b L) (hT : Tab w) :
    Calls Tryz.prog 21 #[.slice a G.length cap, .slice b G.length cap2] w (GivesTs w Z 0) := by
  have H := Lib.hid h
  have H2 := Lib.hid h2
  have HT := Lib.hid hT
  clear h h2 hT
  have HL := Lib.hid hL
  clear hL
  go_enter Tryz.func21, Tryz.ntmps21
  have hB0 : Below w.heap.size w w := Below.refl _ _
  go_wp2_with fail
  refine (HC.out _ (H.out.keep hB0)).mono ?_
  rintro e w1 ⟨rfl, hB1⟩
  have HB1 := Lib.hid hB1
  clear hB1 hB0
  go_wp2
  go_loopw [7] (fun v wr => ∃ i : Nat, i ≤ G.length ∧ v = .int .i64 i ∧ Below w.heap.size w wr) (fun v _ => G.length - (intOf v).toNat)
  case atStart => exact ⟨0, Nat.zero_le _, rfl, HB1.out⟩
  case round =>
    clear HB1
    obtain ⟨i, hi, rfl, hB⟩ := hrel
    by_cases hlt : i < G.length
    · have hiL : i < G.length := by omega
      obtain ⟨b1, off, rfl, hb, hc⟩ := (H2.out.keep hB) i (by rw [HL.out]; omega)
      have C := Lib.hid (fun w => HO.out i hlt w)
      go_wp2_with fail
      refine (C.out _).mono ?_
      rintro e w2 ⟨rfl, hb2⟩
      have hB2 : Below w.heap.size w w2 := hB.trans (hb2.mono hB.size)
      clear hb2 hc hb
      go_wp2
      go_roundw
      case rel => exact ⟨i + 1, by omega, by go_num, hB2⟩
      case measure => simp [intOf]; omega
    · obtain rfl : i = G.length := by omega
      go_wp2_with fail
      refine (HR.out _ (H.out.keep hB) (H2.out.keep hB)).mono ?_
      rintro e w2 ⟨a', c', rfl, hz, hb2⟩
      have hB2 : Below w.heap.size w w2 := hB.trans (hb2.mono hB.size)
      have HZ := Lib.hid hz
      clear hb2 hz
      go_wp2
      go_ret2
      exact ⟨a', c', rfl, HZ.out, hB2⟩

set_option maxHeartbeats 3200000 in
set_option maxRecDepth 100000 in
theorem relem_bad (a b : Option Addr) (cap cap2 : Nat) (L G : List ByteArray) (hL : L.length = G.length) (hl : G.length ≤ 4096) (HC : Hid (∀ w, TsAt w a G → Calls Tryz.prog 23 #[.slice a G.length cap] w (fun e w' => e = .returned (.int .i64 0) ∧ Below w.heap.size w w'))) (p : Nat) (hp : p < G.length) (k : Nat) (hk : k ≠ 0) (HO : Hid (∀ j, j < p → ∀ w, Calls Tryz.prog 44 #[.string (sat L j)] w (fun e w' => e = .returned (.int .i64 0) ∧ Below w.heap.size w w'))) (HB : Hid (∀ w, Calls Tryz.prog 44 #[.string (sat L p)] w (fun e w' => e = .returned (.int .i64 ((k : Nat) : Int)) ∧ Below w.heap.size w w'))) (w : World) (h : TsAt w a G) (h2 : TsAt w b L) (hT : Tab w) :
    Calls Tryz.prog 21 #[.slice a G.length cap, .slice b G.length cap2] w (fun e w' => e = .returned (.tuple #[.slice none 0 0, .int .i64 ((k : Nat) : Int)]) ∧ Below w.heap.size w w') := by
  have H := Lib.hid h
  have H2 := Lib.hid h2
  have HT := Lib.hid hT
  clear h h2 hT
  have HL := Lib.hid hL
  clear hL
  have hk0 : ¬ ((k : Nat) : Int) = 0 := by omega
  have hk1 : (((k : Nat) : Int) != 0) = true := by simp; omega
  clear hk
  go_enter Tryz.func21, Tryz.ntmps21
  have hB0 : Below w.heap.size w w := Below.refl _ _
  go_wp2_with fail
  refine (HC.out _ (H.out.keep hB0)).mono ?_
  rintro e w1 ⟨rfl, hB1⟩
  have HB1 := Lib.hid hB1
  clear hB1 hB0
  go_wp2
  go_loopw [7] (fun v wr => ∃ i : Nat, i ≤ p ∧ v = .int .i64 i ∧ Below w.heap.size w wr) (fun v _ => p - (intOf v).toNat)
  case atStart => exact ⟨0, Nat.zero_le _, rfl, HB1.out⟩
  case round =>
    clear HB1
    obtain ⟨i, hi, rfl, hB⟩ := hrel
    by_cases hlt : i < p
    · have hiL : i < G.length := by omega
      obtain ⟨b1, off, rfl, hb, hc⟩ := (H2.out.keep hB) i (by rw [HL.out]; omega)
      have C := Lib.hid (fun w => HO.out i hlt w)
      go_wp2_with fail
      refine (C.out _).mono ?_
      rintro e w2 ⟨rfl, hb2⟩
      have hB2 : Below w.heap.size w w2 := hB.trans (hb2.mono hB.size)
      clear hb2 hc hb
      go_wp2
      go_roundw
      case rel => exact ⟨i + 1, by omega, by go_num, hB2⟩
      case measure => simp [intOf]; omega
    · obtain rfl : i = p := by omega
      obtain ⟨b1, off, rfl, hb, hc⟩ := (H2.out.keep hB) i (by rw [HL.out]; omega)
      go_wp2_with fail
      refine (HB.out _).mono ?_
      rintro e w2 ⟨rfl, hb2⟩
      have hB2 : Below w.heap.size w w2 := hB.trans (hb2.mono hB.size)
      clear hb2 hc hb
      go_wp2
      go_ret2
      exact ⟨rfl, hB2⟩

end Go.Proofs.YtnfmcdfdbipeoaaGreatDoor

namespace Go.Proofs.YtnfmcdfdbipeoaaGreatDoor
open Go.RowKit Go.Proofs.Num

set_option maxHeartbeats 3200000 in
set_option maxRecDepth 100000 in
theorem rreduced (a b0 : Option Addr) (cap c0 : Nat) (G L : List ByteArray) (hl : G.length ≤ 4096) (g : Nat → ByteArray) (HO : Hid (∀ j, j < G.length → ∀ w, Calls Tryz.prog 107 #[.string (sat L j), .string (sat G j)] w (fun e w' => e = .returned (.string (g j)) ∧ Below w.heap.size w w'))) (w : World) (h : TsAt w a G) (h0 : TsAt w b0 L) (hL0 : L.length = G.length) :
    Calls Tryz.prog 66 #[.slice a G.length cap, .slice b0 G.length c0] w (GivesL w (upto g G.length)) := by
  have H := Lib.hid h
  have H0 := Lib.hid h0
  have HL0 := Lib.hid hL0
  obtain ⟨i0, hi, hz0, hz1, hz2⟩ := info_parts info31
  clear h h0 hL0
  go_enter Tryz.func66, Tryz.ntmps66
  go_wp2
  go_loopw [5, 6] (fun v l wr => ∃ i : Nat, i ≤ G.length ∧ l = .int .i64 i ∧ wr.ownsRow w.heap.size 31 1 v (upto g i).length (strs (upto g i)) ∧ Below w.heap.size w wr) (fun _ l _ => G.length - (intOf l).toNat)
  case atStart => exact ⟨0, Nat.zero_le _, rfl, World.ownsRow_nil _ _ _ _, Below.refl _ _⟩
  case round =>
    obtain ⟨i, hi', rfl, hown, hB⟩ := hrel
    have HOW := Lib.hid hown
    clear hown
    by_cases hlt : i < G.length
    · obtain ⟨b, off, rfl, hb, hc⟩ := H.out i hlt
      obtain ⟨d0, o0, rfl, hd0, hc0⟩ := H0.out i (by rw [HL0.out]; omega)
      have C := Lib.hid (fun w => HO.out i hlt w)

      have hbs := hB.size
      have hul : (upto g i).length = i := upto_len g i
      have HS : Hid (∀ x, Below w.heap.size w x → (Below w.heap.size w x ∧ x.cell? ⟨b, off + i, none⟩ = some (.string (sat G i)) ∧ x.cell? ⟨d0, o0 + i, none⟩ = some (.string (sat L i)))) := fun x hx => ⟨hx, (hx.cell (p := ⟨b, off + i, none⟩) hb).trans hc, (hx.cell (p := ⟨d0, o0 + i, none⟩) hd0).trans hc0⟩
      clear hb hc hd0 hc0
      go_wp2
      have hk2 : Below wr.heap.size wr wr.drew := (Below.refl _ _).drew
      obtain ⟨_, f0, f1⟩ := HS.out _ (hB.trans (hk2.mono hB.size))
      go_region_held3 (fun x => Below w.heap.size w x ∧ x.cell? ⟨b, off + i, none⟩ = some (.string (sat G i)) ∧ x.cell? ⟨d0, o0 + i, none⟩ = some (.string (sat L i)))
    (first | exact HS.out _ (by assumption) | exact HS.out _ (hB.trans (Below.mono (by assumption) hB.size)) | exact HS.out _ (hB.trans ((hk2.alloc hk2.size _).mono hB.size)))
    (first | (go_at_call 107; refine (C.out _).mono ?_; rintro e wz ⟨rfl, hbz⟩; have hk3 := hk2.trans (hbz.mono hk2.size); clear hbz hk2; have hk2 := hk3; clear hk3) | (rw [if_pos (by rfl)]; refine wp_append_own _ _ _ 22 rfl w.heap.size 31 i0 (.string ⟨#[]⟩) 1 16 Tryz.underlying22 hi hz0 hz1 hz2 rfl (by decide) _ _ _ rfl ((own_keep HOW.out hk2).alloc _) ⟨_, 0, none⟩ 1 1 [.string (g i)] rfl rfl (lit_one _ _) (by simp [Value.oneCell']) (by rw [upto_len]; unfold maxLen; omega) (by rw [upto_len]; omega) (by rw [World.size_alloc]; have := hk2.size; omega) ?_; intro v1 w3 hown1 hgrow1 _; have hk4 := below_push (hB.trans (hk2.mono hB.size)) (fun k hk => (HOW.out.lt k hk).1) hgrow1))
      rename_i hHeldz
      clear hHeldz
      have HOW3 := Lib.hid hown1
      clear hown1 hgrow1 hk2 hul f0 f1
      go_wp2
      go_roundw
      case rel => exact ⟨i + 1, by omega, by go_num, by rw [upto_succ, List.length_append, strs_append]; exact HOW3.out, hk4⟩
      case measure => simp [intOf]; omega
    · obtain rfl : i = G.length := by omega
      obtain ⟨a', c', e1, e2⟩ := TsAt.of_own HOW.out
      have HE1 := Lib.hid e1
      have HE2 := Lib.hid e2
      clear e1 e2
      go_wp2
      go_ret
      exact ⟨a', c', by rw [← HE1.out]; rfl, HE2.out, hB⟩

set_option maxHeartbeats 3200000 in
set_option maxRecDepth 100000 in
theorem rplus (a b0 b1 : Option Addr) (cap c0 c1 : Nat) (G L M : List ByteArray) (hl : G.length ≤ 4096) (g X : Nat → ByteArray) (HP : Hid (∀ j, j < G.length → ∀ w, Calls Tryz.prog 53 #[.string (sat L j), .string (sat M j)] w (fun e w' => e = .returned (.string (X j)) ∧ Below w.heap.size w w'))) (HO : Hid (∀ j, j < G.length → ∀ w, Calls Tryz.prog 107 #[.string (X j), .string (sat G j)] w (fun e w' => e = .returned (.string (g j)) ∧ Below w.heap.size w w'))) (w : World) (h : TsAt w a G) (h0 : TsAt w b0 L) (hL0 : L.length = G.length) (h1 : TsAt w b1 M) (hL1 : M.length = G.length) :
    Calls Tryz.prog 81 #[.slice a G.length cap, .slice b0 G.length c0, .slice b1 G.length c1] w (GivesL w (upto g G.length)) := by
  have H := Lib.hid h
  have H0 := Lib.hid h0
  have HL0 := Lib.hid hL0
  have H1 := Lib.hid h1
  have HL1 := Lib.hid hL1
  obtain ⟨i0, hi, hz0, hz1, hz2⟩ := info_parts info31
  clear h h0 hL0 h1 hL1
  go_enter Tryz.func81, Tryz.ntmps81
  go_wp2
  go_loopw [7, 8] (fun v l wr => ∃ i : Nat, i ≤ G.length ∧ l = .int .i64 i ∧ wr.ownsRow w.heap.size 31 1 v (upto g i).length (strs (upto g i)) ∧ Below w.heap.size w wr) (fun _ l _ => G.length - (intOf l).toNat)
  case atStart => exact ⟨0, Nat.zero_le _, rfl, World.ownsRow_nil _ _ _ _, Below.refl _ _⟩
  case round =>
    obtain ⟨i, hi', rfl, hown, hB⟩ := hrel
    have HOW := Lib.hid hown
    clear hown
    by_cases hlt : i < G.length
    · obtain ⟨b, off, rfl, hb, hc⟩ := H.out i hlt
      obtain ⟨d0, o0, rfl, hd0, hc0⟩ := H0.out i (by rw [HL0.out]; omega)
      obtain ⟨d1, o1, rfl, hd1, hc1⟩ := H1.out i (by rw [HL1.out]; omega)
      have C := Lib.hid (fun w => HO.out i hlt w)
      have D := Lib.hid (fun w => HP.out i hlt w)
      have hbs := hB.size
      have hul : (upto g i).length = i := upto_len g i
      have HS : Hid (∀ x, Below w.heap.size w x → (Below w.heap.size w x ∧ x.cell? ⟨b, off + i, none⟩ = some (.string (sat G i)) ∧ x.cell? ⟨d0, o0 + i, none⟩ = some (.string (sat L i)) ∧ x.cell? ⟨d1, o1 + i, none⟩ = some (.string (sat M i)))) := fun x hx => ⟨hx, (hx.cell (p := ⟨b, off + i, none⟩) hb).trans hc, (hx.cell (p := ⟨d0, o0 + i, none⟩) hd0).trans hc0, (hx.cell (p := ⟨d1, o1 + i, none⟩) hd1).trans hc1⟩
      clear hb hc hd0 hc0 hd1 hc1
      go_wp2
      have hk2 : Below wr.heap.size wr wr.drew := (Below.refl _ _).drew
      obtain ⟨_, f0, f1, f2⟩ := HS.out _ (hB.trans (hk2.mono hB.size))
      go_region_held3 (fun x => Below w.heap.size w x ∧ x.cell? ⟨b, off + i, none⟩ = some (.string (sat G i)) ∧ x.cell? ⟨d0, o0 + i, none⟩ = some (.string (sat L i)) ∧ x.cell? ⟨d1, o1 + i, none⟩ = some (.string (sat M i)))
    (first | exact HS.out _ (by assumption) | exact HS.out _ (hB.trans (Below.mono (by assumption) hB.size)) | exact HS.out _ (hB.trans ((hk2.alloc hk2.size _).mono hB.size)))
    (first | (go_at_call 53; refine (D.out _).mono ?_; rintro e wy ⟨rfl, hby⟩; have hk3 := hk2.trans (hby.mono hk2.size); clear hby hk2; have hk2 := hk3; clear hk3) | (go_at_call 107; refine (C.out _).mono ?_; rintro e wz ⟨rfl, hbz⟩; have hk3 := hk2.trans (hbz.mono hk2.size); clear hbz hk2; have hk2 := hk3; clear hk3) | (rw [if_pos (by rfl)]; refine wp_append_own _ _ _ 22 rfl w.heap.size 31 i0 (.string ⟨#[]⟩) 1 16 Tryz.underlying22 hi hz0 hz1 hz2 rfl (by decide) _ _ _ rfl ((own_keep HOW.out hk2).alloc _) ⟨_, 0, none⟩ 1 1 [.string (g i)] rfl rfl (lit_one _ _) (by simp [Value.oneCell']) (by rw [upto_len]; unfold maxLen; omega) (by rw [upto_len]; omega) (by rw [World.size_alloc]; have := hk2.size; omega) ?_; intro v1 w3 hown1 hgrow1 _; have hk4 := below_push (hB.trans (hk2.mono hB.size)) (fun k hk => (HOW.out.lt k hk).1) hgrow1))
      rename_i hHeldz
      clear hHeldz
      have HOW3 := Lib.hid hown1
      clear hown1 hgrow1 hk2 hul f0 f1 f2
      go_wp2
      go_roundw
      case rel => exact ⟨i + 1, by omega, by go_num, by rw [upto_succ, List.length_append, strs_append]; exact HOW3.out, hk4⟩
      case measure => simp [intOf]; omega
    · obtain rfl : i = G.length := by omega
      obtain ⟨a', c', e1, e2⟩ := TsAt.of_own HOW.out
      have HE1 := Lib.hid e1
      have HE2 := Lib.hid e2
      clear e1 e2
      go_wp2
      go_ret
      exact ⟨a', c', by rw [← HE1.out]; rfl, HE2.out, hB⟩

set_option maxHeartbeats 3200000 in
set_option maxRecDepth 100000 in
theorem rmultiple (a b0 : Option Addr) (cap c0 : Nat) (G L : List ByteArray) (hl : G.length ≤ 4096) (k : ByteArray) (g X : Nat → ByteArray) (HP : Hid (∀ j, j < G.length → ∀ w, Calls Tryz.prog 69 #[.string k, .string (sat L j)] w (fun e w' => e = .returned (.string (X j)) ∧ Below w.heap.size w w'))) (HO : Hid (∀ j, j < G.length → ∀ w, Calls Tryz.prog 107 #[.string (X j), .string (sat G j)] w (fun e w' => e = .returned (.string (g j)) ∧ Below w.heap.size w w'))) (w : World) (h : TsAt w a G) (h0 : TsAt w b0 L) (hL0 : L.length = G.length) :
    Calls Tryz.prog 83 #[.slice a G.length cap, .string k, .slice b0 G.length c0] w (GivesL w (upto g G.length)) := by
  have H := Lib.hid h
  have H0 := Lib.hid h0
  have HL0 := Lib.hid hL0
  obtain ⟨i0, hi, hz0, hz1, hz2⟩ := info_parts info31
  clear h h0 hL0
  go_enter Tryz.func83, Tryz.ntmps83
  go_wp2
  go_loopw [7, 8] (fun v l wr => ∃ i : Nat, i ≤ G.length ∧ l = .int .i64 i ∧ wr.ownsRow w.heap.size 31 1 v (upto g i).length (strs (upto g i)) ∧ Below w.heap.size w wr) (fun _ l _ => G.length - (intOf l).toNat)
  case atStart => exact ⟨0, Nat.zero_le _, rfl, World.ownsRow_nil _ _ _ _, Below.refl _ _⟩
  case round =>
    obtain ⟨i, hi', rfl, hown, hB⟩ := hrel
    have HOW := Lib.hid hown
    clear hown
    by_cases hlt : i < G.length
    · obtain ⟨b, off, rfl, hb, hc⟩ := H.out i hlt
      obtain ⟨d0, o0, rfl, hd0, hc0⟩ := H0.out i (by rw [HL0.out]; omega)
      have C := Lib.hid (fun w => HO.out i hlt w)
      have D := Lib.hid (fun w => HP.out i hlt w)
      have hbs := hB.size
      have hul : (upto g i).length = i := upto_len g i
      have HS : Hid (∀ x, Below w.heap.size w x → (Below w.heap.size w x ∧ x.cell? ⟨b, off + i, none⟩ = some (.string (sat G i)) ∧ x.cell? ⟨d0, o0 + i, none⟩ = some (.string (sat L i)))) := fun x hx => ⟨hx, (hx.cell (p := ⟨b, off + i, none⟩) hb).trans hc, (hx.cell (p := ⟨d0, o0 + i, none⟩) hd0).trans hc0⟩
      clear hb hc hd0 hc0
      go_wp2
      have hk2 : Below wr.heap.size wr wr.drew := (Below.refl _ _).drew
      obtain ⟨_, f0, f1⟩ := HS.out _ (hB.trans (hk2.mono hB.size))
      go_region_held3 (fun x => Below w.heap.size w x ∧ x.cell? ⟨b, off + i, none⟩ = some (.string (sat G i)) ∧ x.cell? ⟨d0, o0 + i, none⟩ = some (.string (sat L i)))
    (first | exact HS.out _ (by assumption) | exact HS.out _ (hB.trans (Below.mono (by assumption) hB.size)) | exact HS.out _ (hB.trans ((hk2.alloc hk2.size _).mono hB.size)))
    (first | (go_at_call 69; refine (D.out _).mono ?_; rintro e wy ⟨rfl, hby⟩; have hk3 := hk2.trans (hby.mono hk2.size); clear hby hk2; have hk2 := hk3; clear hk3) | (go_at_call 107; refine (C.out _).mono ?_; rintro e wz ⟨rfl, hbz⟩; have hk3 := hk2.trans (hbz.mono hk2.size); clear hbz hk2; have hk2 := hk3; clear hk3) | (rw [if_pos (by rfl)]; refine wp_append_own _ _ _ 22 rfl w.heap.size 31 i0 (.string ⟨#[]⟩) 1 16 Tryz.underlying22 hi hz0 hz1 hz2 rfl (by decide) _ _ _ rfl ((own_keep HOW.out hk2).alloc _) ⟨_, 0, none⟩ 1 1 [.string (g i)] rfl rfl (lit_one _ _) (by simp [Value.oneCell']) (by rw [upto_len]; unfold maxLen; omega) (by rw [upto_len]; omega) (by rw [World.size_alloc]; have := hk2.size; omega) ?_; intro v1 w3 hown1 hgrow1 _; have hk4 := below_push (hB.trans (hk2.mono hB.size)) (fun k hk => (HOW.out.lt k hk).1) hgrow1))
      rename_i hHeldz
      clear hHeldz
      have HOW3 := Lib.hid hown1
      clear hown1 hgrow1 hk2 hul f0 f1
      go_wp2
      go_roundw
      case rel => exact ⟨i + 1, by omega, by go_num, by rw [upto_succ, List.length_append, strs_append]; exact HOW3.out, hk4⟩
      case measure => simp [intOf]; omega
    · obtain rfl : i = G.length := by omega
      obtain ⟨a', c', e1, e2⟩ := TsAt.of_own HOW.out
      have HE1 := Lib.hid e1
      have HE2 := Lib.hid e2
      clear e1 e2
      go_wp2
      go_ret
      exact ⟨a', c', by rw [← HE1.out]; rfl, HE2.out, hB⟩

end Go.Proofs.YtnfmcdfdbipeoaaGreatDoor

namespace Go.Proofs.YtnfmcdfdbipeoaaGreatDoor
open Go.RowKit Go.Proofs.Num

set_option maxHeartbeats 3200000 in
set_option maxRecDepth 100000 in
theorem nofew_any (s : ByteArray) (hs : s.size ≤ 9223372036854775807) (w : World) :
    Calls Tryz.prog 57 #[.string s] w (fun e w' => e = .returned (.bool (!fewB s)) ∧ w = w') := by
  have H := Lib.hid (rfew_any s hs w)
  obtain ⟨q, hq⟩ : ∃ q, q = fewB s := ⟨_, rfl⟩
  rw [← hq] at H ⊢
  clear hq hs
  go_enter Tryz.func57, Tryz.ntmps57
  go_wp2_with fail
  refine H.out.mono ?_
  rintro e w1 ⟨rfl, rfl⟩
  cases q
  all_goals (go_wp2; go_ret; exact ⟨rfl, rfl⟩)

set_option maxHeartbeats 3200000 in
set_option maxRecDepth 100000 in
theorem idx_t_none (a : Option Addr) (cap : Nat) (M : List ByteArray) (hl : M.length ≤ 9223372036854775807) (HO : Hid (∀ j, j < M.length → ∀ w, Calls Tryz.prog 57 #[.string (sat M j)] w (fun e w' => e = .returned (.bool false) ∧ w = w'))) (w : World) (h : TsAt w a M) :
    Calls Tryz.prog 106 #[.slice a M.length cap, (.func (.func 57) #[] #[])] w (fun e w' => e = .returned (.int .i64 (-1)) ∧ w = w') := by
  have H := Lib.hid h
  clear h
  go_enter Tryz.func106, Tryz.ntmps106
  go_wp2
  go_loop [8] (fun v => ∃ i : Nat, i ≤ M.length ∧ v = .int .i64 i) (fun v => M.length - (intOf v).toNat)
  case atStart => exact ⟨0, Nat.zero_le _, rfl⟩
  case round =>
    obtain ⟨i, hi, rfl⟩ := hrel
    by_cases hlt : i < M.length
    · obtain ⟨b, off, rfl, hb, hc⟩ := H.out i (by omega)
      have C := Lib.hid (fun w => HO.out i hlt w)
      have hiL : i < M.length := by omega
      go_wp2_with fail
      refine (C.out _).mono ?_
      rintro e w1 ⟨rfl, rfl⟩
      go_wp2
      go_round
      case rel => exact ⟨i + 1, by omega, by go_num⟩
      case measure => simp [intOf]; omega
    · obtain rfl : i = M.length := by omega
      go_wp2
      go_ret
      exact ⟨rfl, rfl⟩

set_option maxHeartbeats 3200000 in
set_option maxRecDepth 100000 in
theorem idx_t_some (a : Option Addr) (cap : Nat) (M : List ByteArray) (hl : M.length ≤ 9223372036854775807) (p : Nat) (hp : p < M.length) (HO : Hid (∀ j, j < p → ∀ w, Calls Tryz.prog 57 #[.string (sat M j)] w (fun e w' => e = .returned (.bool false) ∧ w = w'))) (HB : Hid (∀ w, Calls Tryz.prog 57 #[.string (sat M p)] w (fun e w' => e = .returned (.bool true) ∧ w = w'))) (w : World) (h : TsAt w a M) :
    Calls Tryz.prog 106 #[.slice a M.length cap, (.func (.func 57) #[] #[])] w (fun e w' => e = .returned (.int .i64 (((p : Nat) : Int))) ∧ w = w') := by
  have H := Lib.hid h
  clear h
  go_enter Tryz.func106, Tryz.ntmps106
  go_wp2
  go_loop [8] (fun v => ∃ i : Nat, i ≤ p ∧ v = .int .i64 i) (fun v => p - (intOf v).toNat)
  case atStart => exact ⟨0, Nat.zero_le _, rfl⟩
  case round =>
    obtain ⟨i, hi, rfl⟩ := hrel
    by_cases hlt : i < p
    · obtain ⟨b, off, rfl, hb, hc⟩ := H.out i (by omega)
      have C := Lib.hid (fun w => HO.out i hlt w)
      have hiL : i < M.length := by omega
      go_wp2_with fail
      refine (C.out _).mono ?_
      rintro e w1 ⟨rfl, rfl⟩
      go_wp2
      go_round
      case rel => exact ⟨i + 1, by omega, by go_num⟩
      case measure => simp [intOf]; omega
    · obtain rfl : i = p := by omega
      obtain ⟨b, off, rfl, hb, hc⟩ := H.out i hp
      go_wp2_with fail
      refine (HB.out _).mono ?_
      rintro e w1 ⟨rfl, rfl⟩
      go_wp2
      go_ret
      exact ⟨rfl, rfl⟩

end Go.Proofs.YtnfmcdfdbipeoaaGreatDoor

namespace Go.Proofs.YtnfmcdfdbipeoaaGreatDoor
open Go.RowKit Go.Proofs.Num

set_option maxHeartbeats 3200000 in
set_option maxRecDepth 100000 in
theorem cont_t (a : Option Addr) (n cap : Nat) (z : Int) (q : Bool) (hq : decide (0 ≤ z) = q) (w : World) (HC : Hid (Calls Tryz.prog 106 #[.slice a n cap, (.func (.func 57) #[] #[])] w (fun e w' => e = .returned (.int .i64 z) ∧ w = w'))) :
    Calls Tryz.prog 56 #[.slice a n cap, (.func (.func 57) #[] #[])] w (fun e w' => e = .returned (.bool q) ∧ w = w') := by
  go_enter Tryz.func56, Tryz.ntmps56
  go_wp2_with fail
  refine HC.out.mono ?_
  rintro e w1 ⟨rfl, rfl⟩
  go_wp2
  go_ret
  exact ⟨rfl, rfl⟩

/-- A list has a text that is not short. -/
def anyLong (M : List ByteArray) : Bool := M.any fun s => !fewB s
theorem firstBad (p : Nat → Bool) : ∀ n, (∀ j, j < n → p j = false) ∨ ∃ q, q < n ∧ (∀ j, j < q → p j = false) ∧ p q = true
  | 0 => .inl fun j hj => by omega
  | n + 1 => by
    rcases firstBad p n with h | ⟨q, hq, h1, h2⟩
    · cases hp : p n with
      | false => exact .inl fun j hj => by rcases Nat.lt_succ_iff_lt_or_eq.1 hj with h3 | rfl; exact h j h3; exact hp
      | true => exact .inr ⟨n, by omega, h, hp⟩
    · exact .inr ⟨q, by omega, h1, h2⟩
theorem anyLong_iff (M : List ByteArray) : anyLong M = true ↔ ∃ j, j < M.length ∧ (!fewB (sat M j)) = true := by
  unfold anyLong
  rw [List.any_eq_true]
  constructor
  · rintro ⟨s, hs, h⟩
    obtain ⟨j, hj, rfl⟩ := List.getElem_of_mem hs
    exact ⟨j, hj, by rw [sat_get M j hj]; exact h⟩
  · rintro ⟨j, hj, h⟩
    exact ⟨M[j], List.getElem_mem hj, by rw [sat_get M j hj] at h; exact h⟩
theorem contains_texts (a : Option Addr) (cap : Nat) (M : List ByteArray) (hl : M.length ≤ 9223372036854775807) (hsz : ∀ j, j < M.length → (sat M j).size ≤ 9223372036854775807) (w : World) (h : TsAt w a M) :
    Calls Tryz.prog 56 #[.slice a M.length cap, (.func (.func 57) #[] #[])] w (fun e w' => e = .returned (.bool (anyLong M)) ∧ w = w') := by
  rcases firstBad (fun j => !fewB (sat M j)) M.length with h1 | ⟨q, hq, h1, h2⟩
  · have e : anyLong M = false := by
      cases hb : anyLong M with
      | false => rfl
      | true => obtain ⟨j, hj, h3⟩ := (anyLong_iff M).1 hb; have h4 : (!fewB (sat M j)) = false := h1 j hj; rw [h4] at h3; cases h3
    rw [e]
    refine cont_t a M.length cap (-1) _ (by decide) w (Lib.hid (idx_t_none a cap M hl (Lib.hid fun j hj w => ?_) w h))
    have := nofew_any (sat M j) (hsz j hj) w
    rw [show (!fewB (sat M j)) = false from h1 j hj] at this
    exact this
  · have e : anyLong M = true := (anyLong_iff M).2 ⟨q, hq, h2⟩
    rw [e]
    refine cont_t a M.length cap ((q : Nat) : Int) _ (decide_eq_true (by omega)) w (Lib.hid (idx_t_some a cap M hl q hq (Lib.hid fun j hj w => ?_) (Lib.hid fun w => ?_) w h))
    · have := nofew_any (sat M j) (hsz j (by omega)) w
      rw [show (!fewB (sat M j)) = false from h1 j hj] at this
      exact this
    · have := nofew_any (sat M q) (hsz q hq) w
      rw [show (!fewB (sat M q)) = true from h2] at this
      exact this

set_option maxHeartbeats 3200000 in
set_option maxRecDepth 100000 in
theorem few1_long (a : Option Addr) (n cap : Nat) (hn : 20 < n) (w : World) :
    Calls Tryz.prog 55 #[.slice a n cap] w (fun e w' => e = .returned (.bool true) ∧ w = w') := by
  have d0 : decide (20 < ((n : Nat) : Int)) = true := decide_eq_true (by omega)
  clear hn
  go_enter Tryz.func55, Tryz.ntmps55
  go_wp2
  go_ret
  exact ⟨rfl, rfl⟩

set_option maxHeartbeats 3200000 in
set_option maxRecDepth 100000 in
theorem few1_short (a : Option Addr) (n cap : Nat) (hn : n ≤ 20) (q : Bool) (w : World) (HC : Hid (Calls Tryz.prog 56 #[.slice a n cap, (.func (.func 57) #[] #[])] w (fun e w' => e = .returned (.bool q) ∧ w = w'))) :
    Calls Tryz.prog 55 #[.slice a n cap] w (fun e w' => e = .returned (.bool q) ∧ w = w') := by
  have d0 : decide (20 < ((n : Nat) : Int)) = false := decide_eq_false (by omega)
  clear hn
  go_enter Tryz.func55, Tryz.ntmps55
  go_wp2_with fail
  refine HC.out.mono ?_
  rintro e w1 ⟨rfl, rfl⟩
  cases q
  all_goals (go_wp2; go_ret; exact ⟨rfl, rfl⟩)

/-- A list is short, and so are its texts. -/
def fewL (M : List ByteArray) : Bool := decide (M.length ≤ 20) && !anyLong M
theorem few1_any (a : Option Addr) (cap : Nat) (M : List ByteArray) (hl : M.length ≤ 9223372036854775807) (hsz : ∀ j, j < M.length → (sat M j).size ≤ 9223372036854775807) (w : World) (h : TsAt w a M) :
    Calls Tryz.prog 55 #[.slice a M.length cap] w (fun e w' => e = .returned (.bool (!fewL M)) ∧ w = w') := by
  unfold fewL
  by_cases hn : M.length ≤ 20
  · rw [decide_eq_true hn, Bool.true_and, Bool.not_not]
    exact few1_short a M.length cap hn _ w (Lib.hid (contains_texts a cap M hl hsz w h))
  · rw [decide_eq_false hn, Bool.false_and]
    exact few1_long a M.length cap (by omega) w

/-- At an address the values of a series lie. -/
def VsAt (w : World) (a : Option Addr) (vs : Nat → Value) (n : Nat) : Prop :=
  ∀ j, j < n → ∃ b off, a = some ⟨b, off, none⟩ ∧ b < w.heap.size ∧ w.cell? ⟨b, off + j, none⟩ = some (vs j)
set_option maxHeartbeats 3200000 in
set_option maxRecDepth 100000 in
theorem idxl_few_none (a : Option Addr) (n cap : Nat) (vs : Nat → Value) (hv : Hid (∀ j, ∃ x y z, vs j = .slice x y z)) (hl : n ≤ 4096) (w : World) (HO : Hid (∀ j, j < n → Calls Tryz.prog 55 #[vs j] w (fun e w' => e = .returned (.bool false) ∧ w = w'))) (h : VsAt w a vs n) :
    Calls Tryz.prog 105 #[.slice a n cap, (.func (.func 55) #[] #[])] w (fun e w' => e = .returned (.int .i64 (-1)) ∧ w = w') := by
  have H := Lib.hid h
  clear h
  go_enter Tryz.func105, Tryz.ntmps105
  go_wp2
  go_loop [8] (fun v => ∃ i : Nat, i ≤ n ∧ v = .int .i64 i) (fun v => n - (intOf v).toNat)
  case atStart => exact ⟨0, Nat.zero_le _, rfl⟩
  case round =>
    obtain ⟨i, hi, rfl⟩ := hrel
    by_cases hlt : i < n
    · obtain ⟨b, off, rfl, hb, hc⟩ := H.out i (by omega)
      have C := Lib.hid (HO.out i hlt)
      have hiL : i < n := by omega
      obtain ⟨x, y, z, hvi⟩ := hv.out i
      rw [hvi] at C hc
      clear hvi
      go_wp2_with fail
      refine C.out.mono ?_
      rintro e w1 ⟨rfl, rfl⟩
      go_wp2
      go_round
      case rel => exact ⟨i + 1, by omega, by go_num⟩
      case measure => simp [intOf]; omega
    · obtain rfl : i = n := by omega
      go_wp2
      go_ret
      exact ⟨rfl, rfl⟩

set_option maxHeartbeats 3200000 in
set_option maxRecDepth 100000 in
theorem idxl_few_some (a : Option Addr) (n cap : Nat) (vs : Nat → Value) (hv : Hid (∀ j, ∃ x y z, vs j = .slice x y z)) (hl : n ≤ 4096) (p : Nat) (hp : p < n) (w : World) (HO : Hid (∀ j, j < p → Calls Tryz.prog 55 #[vs j] w (fun e w' => e = .returned (.bool false) ∧ w = w'))) (HB : Hid (Calls Tryz.prog 55 #[vs p] w (fun e w' => e = .returned (.bool true) ∧ w = w'))) (h : VsAt w a vs n) :
    Calls Tryz.prog 105 #[.slice a n cap, (.func (.func 55) #[] #[])] w (fun e w' => e = .returned (.int .i64 (((p : Nat) : Int))) ∧ w = w') := by
  have H := Lib.hid h
  clear h
  go_enter Tryz.func105, Tryz.ntmps105
  go_wp2
  go_loop [8] (fun v => ∃ i : Nat, i ≤ p ∧ v = .int .i64 i) (fun v => p - (intOf v).toNat)
  case atStart => exact ⟨0, Nat.zero_le _, rfl⟩
  case round =>
    obtain ⟨i, hi, rfl⟩ := hrel
    by_cases hlt : i < p
    · obtain ⟨b, off, rfl, hb, hc⟩ := H.out i (by omega)
      have C := Lib.hid (HO.out i hlt)
      have hiL : i < n := by omega
      obtain ⟨x, y, z, hvi⟩ := hv.out i
      rw [hvi] at C hc
      clear hvi
      go_wp2_with fail
      refine C.out.mono ?_
      rintro e w1 ⟨rfl, rfl⟩
      go_wp2
      go_round
      case rel => exact ⟨i + 1, by omega, by go_num⟩
      case measure => simp [intOf]; omega
    · obtain rfl : i = p := by omega
      obtain ⟨b, off, rfl, hb, hc⟩ := H.out i hp
      have C := Lib.hid HB.out
      obtain ⟨x, y, z, hvi⟩ := hv.out i
      rw [hvi] at C hc
      clear hvi
      go_wp2_with fail
      refine C.out.mono ?_
      rintro e w1 ⟨rfl, rfl⟩
      go_wp2
      go_ret
      exact ⟨rfl, rfl⟩

set_option maxHeartbeats 3200000 in
set_option maxRecDepth 100000 in
theorem contl_few (a : Option Addr) (n cap : Nat) (z : Int) (q : Bool) (hq : decide (0 ≤ z) = q) (w : World) (HC : Hid (Calls Tryz.prog 105 #[.slice a n cap, (.func (.func 55) #[] #[])] w (fun e w' => e = .returned (.int .i64 z) ∧ w = w'))) :
    Calls Tryz.prog 54 #[.slice a n cap, (.func (.func 55) #[] #[])] w (fun e w' => e = .returned (.bool q) ∧ w = w') := by
  go_enter Tryz.func54, Tryz.ntmps54
  go_wp2_with fail
  refine HC.out.mono ?_
  rintro e w1 ⟨rfl, rfl⟩
  go_wp2
  go_ret
  exact ⟨rfl, rfl⟩

set_option maxHeartbeats 3200000 in
set_option maxRecDepth 100000 in
theorem few_walk (a : Option Addr) (n cap : Nat) (q : Bool) (w : World) (HC : Hid (Calls Tryz.prog 54 #[.slice a n cap, (.func (.func 55) #[] #[])] w (fun e w' => e = .returned (.bool q) ∧ w = w'))) :
    Calls Tryz.prog 12 #[.slice a n cap] w (fun e w' => e = .returned (.bool (!q)) ∧ w = w') := by
  go_enter Tryz.func12, Tryz.ntmps12
  go_wp2_with fail
  refine HC.out.mono ?_
  rintro e w1 ⟨rfl, rfl⟩
  cases q
  all_goals (go_wp2; go_ret; exact ⟨rfl, rfl⟩)

/-- few, of lists of texts. -/
theorem few_any (a : Option Addr) (n cap : Nat) (hl : n ≤ 4096) (vs : Nat → Value) (qs : Nat → Bool) (hv : ∀ j, ∃ x y z, vs j = .slice x y z) (w : World) (h : VsAt w a vs n) (H1 : ∀ j, j < n → Calls Tryz.prog 55 #[vs j] w (fun e w' => e = .returned (.bool (!qs j)) ∧ w = w')) (Q : Bool) (hQ : Q = true ↔ ∀ j, j < n → qs j = true) :
    Calls Tryz.prog 12 #[.slice a n cap] w (fun e w' => e = .returned (.bool Q) ∧ w = w') := by
  rcases firstBad (fun j => !qs j) n with h1 | ⟨p, hp, h1, h2⟩
  · have e : Q = true := hQ.2 fun j hj => by have := h1 j hj; simpa using this
    rw [e]
    refine few_walk a n cap false w (Lib.hid (contl_few a n cap (-1) _ (by decide) w (Lib.hid (idxl_few_none a n cap vs (Lib.hid hv) hl w (Lib.hid fun j hj => ?_) h))))
    have := H1 j hj
    rw [show (!qs j) = false from h1 j hj] at this
    exact this
  · have e : Q = false := by
      cases hb : Q with
      | false => rfl
      | true => have h4 : (!qs p) = true := h2; rw [hQ.1 hb p hp] at h4; cases h4
    rw [e]
    refine few_walk a n cap true w (Lib.hid (contl_few a n cap ((p : Nat) : Int) _ (decide_eq_true (by omega)) w (Lib.hid (idxl_few_some a n cap vs (Lib.hid hv) hl p hp w (Lib.hid fun j hj => ?_) (Lib.hid ?_) h))))
    · have := H1 j (by omega)
      rw [show (!qs j) = false from h1 j hj] at this
      exact this
    · have := H1 p hp
      rw [show (!qs p) = true from h2] at this
      exact this

end Go.Proofs.YtnfmcdfdbipeoaaGreatDoor
