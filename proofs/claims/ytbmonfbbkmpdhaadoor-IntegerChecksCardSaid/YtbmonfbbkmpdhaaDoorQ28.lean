/- Walks: sums of lists of texts, of the program and of the reference. And: Walks of the laws: sums of lists are those of the reference. And: Walks of the reference: the product of digits, of canonical texts; Mul. And: Walks of the reference: the text of an int. And: Walks of the reference: a text as an int; and: Walks of the reference: a text as an int, in range. -/
import Derived.Test.YtbmonfbbkmpdhaaDoorQ27
import Derived.Test.YtbmonfbbkmpdhaaDoorQ21
import Derived.Test.YtbmonfbbkmpdhaaDoorQ13
import Derived.Test.YtbmonfbbkmpdhaaDoorQ09
namespace Go.Proofs.YtbmonfbbkmpdhaaDoor
open Go.RowKit Go.Proofs.Num

/-- The text at a place. -/
def sat (ss : List ByteArray) (j : Nat) : ByteArray := ss.getD j ByteArray.empty
/-- At an address the texts of a list lie. -/
def TsAt (w : World) (a : Option Addr) (ss : List ByteArray) : Prop :=
  ∀ j, j < ss.length → ∃ b off, a = some ⟨b, off, none⟩ ∧ b < w.heap.size ∧ w.cell? ⟨b, off + j, none⟩ = some (.string (sat ss j))
theorem TsAt.keep {w w' : World} {a : Option Addr} {ss : List ByteArray} (h : TsAt w a ss) (hb : Below w.heap.size w w') : TsAt w' a ss := by
  intro j hj
  obtain ⟨b, off, rfl, hlt, hc⟩ := h j hj
  exact ⟨b, off, rfl, Nat.lt_of_lt_of_le hlt hb.size, (hb.cell (p := ⟨b, off + j, none⟩) hlt).trans hc⟩

/-- The first error of texts. -/
def ferr : List ByteArray → Nat
  | [] => 0
  | s :: t => if chk s.data.toList ≠ 0 then chk s.data.toList else ferr t
/-- The sum of texts. -/
def sumz : List ByteArray → Int
  | [] => 0
  | s :: t => parse s.data.toList + sumz t

theorem ferr_append (l m : List ByteArray) : ferr (l ++ m) = if ferr l ≠ 0 then ferr l else ferr m := by
  induction l with
  | nil => simp [ferr]
  | cons s t ih =>
    rw [List.cons_append, ferr, ferr]
    by_cases h : chk s.data.toList ≠ 0
    · rw [if_pos h, if_pos h, if_pos h]
    · rw [if_neg h, if_neg h, ih]
theorem sumz_append (l m : List ByteArray) : sumz (l ++ m) = sumz l + sumz m := by
  induction l with
  | nil => simp [sumz]
  | cons s t ih => rw [List.cons_append, sumz, sumz, ih]; omega

theorem sat_get (ss : List ByteArray) (i : Nat) (hi : i < ss.length) : sat ss i = ss[i] := by simp [sat, List.getD, hi]
theorem take_sat (ss : List ByteArray) (i : Nat) (hi : i < ss.length) : ss.take (i + 1) = ss.take i ++ [sat ss i] := by
  rw [sat_get ss i hi, List.take_succ_eq_append_getElem hi]
theorem split_sat (ss : List ByteArray) (i : Nat) (hi : i < ss.length) : ss = ss.take i ++ (sat ss i :: ss.drop (i + 1)) := by
  rw [sat_get ss i hi, ← List.drop_eq_getElem_cons hi, List.take_append_drop]

theorem ferr_bad {ss : List ByteArray} {i : Nat} (hi : i < ss.length) (h : ferr (ss.take i) = 0) (hc : chk (sat ss i).data.toList ≠ 0) : ferr ss = chk (sat ss i).data.toList := by
  conv => lhs; rw [split_sat ss i hi]
  rw [ferr_append, h, if_neg (by simp), ferr, if_pos hc]
theorem ferr_next {ss : List ByteArray} {i : Nat} (hi : i < ss.length) (h : ferr (ss.take i) = 0) (hc : chk (sat ss i).data.toList = 0) : ferr (ss.take (i + 1)) = 0 := by
  rw [take_sat ss i hi, ferr_append, h, if_neg (by simp), ferr, if_neg (by rw [hc]; simp), ferr]
theorem sumz_next {ss : List ByteArray} {i : Nat} (hi : i < ss.length) : sumz (ss.take (i + 1)) = sumz (ss.take i) + parse (sat ss i).data.toList := by
  rw [take_sat ss i hi, sumz_append, sumz, sumz, Int.add_zero]
theorem ferr_take {ss : List ByteArray} (h : ferr ss = 0) (i : Nat) : ferr (ss.take i) = 0 := by
  have h2 := ferr_append (ss.take i) (ss.drop i)
  rw [List.take_append_drop, h] at h2
  apply Classical.byContradiction
  intro hn
  rw [if_pos hn] at h2
  exact hn h2.symm
theorem ferr_at {ss : List ByteArray} (h : ferr ss = 0) (i : Nat) (hi : i < ss.length) : chk (sat ss i).data.toList = 0 := by
  apply Classical.byContradiction
  intro hn
  rw [ferr_bad hi (ferr_take h i) hn] at h
  exact hn h

theorem few_sumz (d : Nat) (hd : d = 1024) (ss : List ByteArray) : ∀ i, i ≤ ss.length → ferr (ss.take i) = 0 → Few (d + i) (sumz (ss.take i)) := by
  intro i
  induction i with
  | zero =>
    intro _ _
    rw [List.take_zero]
    show (0 : Int).natAbs < _
    exact Nat.pow_pos (by omega)
  | succ i ih =>
    intro hi h
    have hlt : i < ss.length := by omega
    have h1 : ferr (ss.take i) = 0 := by
      have := ferr_take h i
      rwa [List.take_take, Nat.min_eq_left (by omega)] at this
    have h2 : chk (sat ss i).data.toList = 0 := by
      rw [take_sat ss i hlt, ferr_append, h1, if_neg (by simp), ferr] at h
      apply Classical.byContradiction
      intro hn
      rw [if_pos hn] at h
      exact hn h
    rw [sumz_next hlt]
    have hp : Few (d + i) (parse (sat ss i).data.toList) := Few.le (chk_lt _ h2 d hd) (by omega)
    exact Few.add (ih (by omega) h1) hp

/-- The sum of a list of texts, or the error. -/
def totS (ss : List ByteArray) : List UInt8 × Nat := if 4096 < ss.length then ([], 5) else if ferr ss ≠ 0 then ([], ferr ss) else (tx (sumz ss), te (sumz ss))

def fewAllB (ss : List ByteArray) : Bool := if 40 < ss.length then decide (4096 < ss.length) && decide (ss.length < 8192) else ss.all fewB

set_option maxHeartbeats 1600000 in
set_option maxRecDepth 100000 in
theorem rfewall_any (a : Option Addr) (cap : Nat) (ss : List ByteArray) (hsz : ∀ j, j < ss.length → (sat ss j).size ≤ 9223372036854775807) (hn : ss.length ≤ 9223372036854775807) (w : World) (h : TsAt w a ss) :
    Calls Tryd.prog 32 #[.slice a ss.length cap] w fun e w' => e = .returned (.bool (fewAllB ss)) ∧ w = w' := by
  have HF := Lib.hid (fun (j : Nat) (hj : j < ss.length) (w : World) => rfew_any (sat ss j) (hsz j hj) w)
  have H := Lib.hid h
  clear h hsz
  unfold fewAllB
  by_cases h40 : 40 < ss.length
  · rw [if_pos h40]
    have hd : decide ((40 : Int) < ((ss.length : Nat) : Int)) = true := decide_eq_true (by omega)
    rcases (show 4096 < ss.length ∨ ¬ 4096 < ss.length by omega) with h1 | h1
    · have hd1 : decide ((4096 : Int) < ((ss.length : Nat) : Int)) = true := decide_eq_true (by omega)
      rw [decide_eq_true h1, Bool.true_and]
      have hd2 : decide (((ss.length : Nat) : Int) < 8192) = decide (ss.length < 8192) := by
        by_cases h2 : ss.length < 8192
        · rw [decide_eq_true h2]; exact decide_eq_true (by omega)
        · rw [decide_eq_false h2]; exact decide_eq_false (by omega)
      have HD2 := Lib.hid hd2
      clear hd2
      go_enter Tryd.func32, Tryd.ntmps32
      go_wp2
      go_ret
      exact ⟨by rw [← HD2.out]; rfl, rfl⟩
    · have hd1 : decide ((4096 : Int) < ((ss.length : Nat) : Int)) = false := decide_eq_false (by omega)
      rw [decide_eq_false h1, Bool.false_and]
      go_enter Tryd.func32, Tryd.ntmps32
      go_wp2
      go_ret
      exact ⟨rfl, rfl⟩
  · rw [if_neg h40]
    go_enter Tryd.func32, Tryd.ntmps32
    go_wp2
    go_loop [3] (fun v => ∃ i : Nat, i ≤ ss.length ∧ v = .int .i64 i ∧ (ss.take i).all fewB = true) (fun v => ss.length - (intOf v).toNat)
    case atStart => exact ⟨0, Nat.zero_le _, rfl, by rw [List.take_zero]; rfl⟩
    case round =>
      obtain ⟨i, hi, rfl, hall⟩ := hrel
      by_cases hlt : i < ss.length
      · obtain ⟨b, off, rfl, hb, hc⟩ := H.out i hlt
        have C := Lib.hid (fun w => HF.out i hlt w)
        by_cases hf : fewB (sat ss i) = true
        · have HN : Hid ((ss.take (i + 1)).all fewB = true) := by unfold Hid; rw [take_sat ss i hlt, List.all_append, hall]; simp [hf]
          rw [hf] at C
          clear hall hf
          go_wp2_with fail
          refine (C.out _).mono ?_
          rintro e w1 ⟨rfl, rfl⟩
          go_wp2
          go_round
          case rel => exact ⟨i + 1, by omega, by go_num, HN.out⟩
          case measure => simp [intOf]; omega
        · have hf' : fewB (sat ss i) = false := by simpa using hf
          have HN : Hid (ss.all fewB = false) := by
            unfold Hid
            conv => lhs; rw [split_sat ss i hlt]
            rw [List.all_append, List.all_cons, hf']; simp
          rw [hf'] at C
          clear hall hf hf'
          go_wp2_with fail
          refine (C.out _).mono ?_
          rintro e w1 ⟨rfl, rfl⟩
          go_wp2
          go_ret
          exact ⟨by rw [HN.out]; rfl, rfl⟩
      · obtain rfl : i = ss.length := by omega
        rw [List.take_length] at hall
        have HN := Lib.hid hall
        clear hall
        go_wp2
        go_ret
        exact ⟨by rw [HN.out]; rfl, rfl⟩

set_option maxHeartbeats 1600000 in
set_option maxRecDepth 100000 in
theorem rtotal_any (d : Nat) (hd : d = 1024) (a : Option Addr) (cap : Nat) (ss : List ByteArray) (hn : ss.length ≤ 4096) (h0 : ferr ss = 0) (w : World) (h : TsAt w a ss) :
    Calls Tryd.prog 69 #[.slice a ss.length cap] w (OutR w (T (sumz ss))) := by
  have HP : Hid (∀ i, i < ss.length → ∀ w, Calls Tryd.prog 61 #[.string (T (sumz (ss.take i))), .string (sat ss i)] w (OutR w (T (sumz (ss.take (i + 1)))))) := by
    intro i hi w
    have hc := ferr_at h0 i hi
    have f1 := few_sumz d hd ss i (by omega) (ferr_take h0 i)
    have f2 : Few (d + i) (parse (sat ss i).data.toList) := Few.le (chk_lt _ hc d hd) (by omega)
    have := rplus_any _ _ f1 f2 (by omega) (by omega) w
    rw [← of_chk _ hc, ← sumz_next hi] at this
    exact this
  have H := Lib.hid h
  have H0 : Hid (T (sumz (ss.take 0)) = ⟨#[48]⟩) := by unfold Hid; rw [List.take_zero]; exact T_naught
  have HE : Hid (sumz (ss.take ss.length) = sumz ss) := by unfold Hid; rw [List.take_length]
  clear h h0 hd
  go_enter Tryd.func69, Tryd.ntmps69
  go_wp2
  go_loopw [3, 4] (fun out si wr => ∃ i : Nat, i ≤ ss.length ∧ si = .int .i64 i ∧ out = .string (T (sumz (ss.take i))) ∧ Below w.heap.size w wr) (fun _ i _ => ss.length - (intOf i).toNat)
  case atStart => exact ⟨0, Nat.zero_le _, rfl, by rw [H0.out], Below.refl _ _⟩
  case round =>
    obtain ⟨i, hi, rfl, rfl, hB⟩ := hrel
    by_cases hlt : i < ss.length
    · obtain ⟨b, off, rfl, hb, hc⟩ := (H.out.keep hB) i hlt
      have C := Lib.hid (fun w => HP.out i hlt w)
      obtain ⟨X, hX⟩ : ∃ X, X = T (sumz (ss.take i)) := ⟨_, rfl⟩
      rw [← hX] at C ⊢
      clear hX
      go_wp2_with fail
      refine (C.out _).mono ?_
      rintro e w1 ⟨rfl, hb1⟩
      have hB1 : Below w.heap.size w w1 := hB.trans (hb1.mono hB.size)
      go_wp2
      go_roundw
      case rel => exact ⟨i + 1, by omega, by go_num, rfl, hB1⟩
      case measure => simp [intOf]; omega
    · obtain rfl : i = ss.length := by omega
      go_wp2
      go_ret
      exact ⟨by rw [HE.out]; rfl, hB⟩

set_option maxHeartbeats 1600000 in
set_option maxRecDepth 100000 in
/-- Sum of the reference. -/
theorem rsum_any (a : Option Addr) (cap : Nat) (ss : List ByteArray) (hsz : ∀ j, j < ss.length → (sat ss j).size ≤ 9223372036854775807) (w : World) (h : TsAt w a ss) :
    Calls Tryd.prog 34 #[.slice a ss.length cap] w (TextOut w (totS ss).1 (totS ss).2) := by
  unfold totS
  by_cases h4 : 4096 < ss.length
  · rw [if_pos h4]
    unfold TextOut
    clear h hsz
    go_enter Tryd.func34, Tryd.ntmps34
    go_wp2
    go_ret2
    exact ⟨rfl, Below.refl _ _⟩
  · rw [if_neg h4]
    obtain ⟨q, hq⟩ : ∃ q, q = (if ferr ss ≠ 0 then (([] : List UInt8), ferr ss) else (tx (sumz ss), te (sumz ss))) := ⟨_, rfl⟩
    rw [← hq]
    have HBAD : Hid (∀ c, c ≠ 0 → ferr ss = c → q = ([], c)) := by
      intro c h1 h2
      rw [hq, h2, if_pos h1]
    have HGOOD : Hid (ferr ss = 0 → q = (tx (sumz ss), te (sumz ss))) := by
      intro h1
      rw [hq, h1, if_neg (by simp)]
    clear hq
    have HC := Lib.hid (fun (j : Nat) (hj : j < ss.length) (w : World) => rcheck_any (sat ss j) w (hsz j hj))
    have H := Lib.hid h
    obtain ⟨d, hd⟩ : ∃ d : Nat, d = 1024 := ⟨_, rfl⟩
    have HT : Hid (ferr ss = 0 → ∀ w, TsAt w a ss → Calls Tryd.prog 69 #[.slice a ss.length cap] w (OutR w (T (sumz ss)))) := fun h0 w h => rtotal_any d hd a cap ss (by omega) h0 w h
    have HB : Hid (ferr ss = 0 → ∀ w, Calls Tryd.prog 60 #[.string (T (sumz ss))] w (TextOut w (tx (sumz ss)) (te (sumz ss)))) := fun h0 w => by
      have hf := few_sumz d hd ss ss.length (Nat.le_refl _) (ferr_take h0 _)
      rw [List.take_length] at hf
      exact rbounded _ hf (by omega) (by omega) w
    have HN : Hid (∀ i, i < ss.length → ferr (ss.take i) = 0 → chk (sat ss i).data.toList = 0 → ferr (ss.take (i + 1)) = 0) := fun i hi h hc => ferr_next hi h hc
    have HX : Hid (∀ i, i < ss.length → ferr (ss.take i) = 0 → chk (sat ss i).data.toList ≠ 0 → ferr ss = chk (sat ss i).data.toList) := fun i hi h hc => ferr_bad hi h hc
    have H0 : Hid (ferr (ss.take 0) = 0) := by unfold Hid; rw [List.take_zero]; rfl
    have HL : Hid (ss.take ss.length = ss) := List.take_length
    have hd4 : decide ((4096 : Int) < ((ss.length : Nat) : Int)) = false := decide_eq_false (by omega)
    clear h hsz hd
    unfold TextOut
    go_enter Tryd.func34, Tryd.ntmps34
    go_wp2
    go_loop [4] (fun v => ∃ i : Nat, i ≤ ss.length ∧ v = .int .i64 i ∧ ferr (ss.take i) = 0) (fun v => ss.length - (intOf v).toNat)
    case atStart => exact ⟨0, Nat.zero_le _, rfl, H0.out⟩
    case round =>
      obtain ⟨i, hi, rfl, hf⟩ := hrel
      by_cases hlt : i < ss.length
      · obtain ⟨b, off, rfl, hb, hc⟩ := H.out i hlt
        have C := Lib.hid (fun w => HC.out i hlt w)
        have N := Lib.hid (HN.out i hlt hf)
        have X := Lib.hid (HX.out i hlt hf)
        generalize chk (sat ss i).data.toList = c at *
        clear hf
        by_cases h0 : c = 0
        · subst h0
          have NN := Lib.hid (N.out rfl)
          go_wp2_with fail
          refine (C.out _).mono ?_
          rintro e w1 ⟨rfl, rfl⟩
          go_wp2
          go_round
          case rel => exact ⟨i + 1, by omega, by go_num, NN.out⟩
          case measure => simp [intOf]; omega
        · have hx : ¬ ((c : Nat) : Int) = 0 := by omega
          have hx1 : ((c : Int) == 0) = false := beq_eq_false_iff_ne.2 hx
          have XX := Lib.hid (X.out h0)
          have H00 : Hid (¬ c = 0) := h0
          clear h0
          go_wp2_with fail
          refine (C.out _).mono ?_
          rintro e w1 ⟨rfl, rfl⟩
          go_wp2
          go_ret2
          exact ⟨by rw [HBAD.out c H00.out XX.out]; rfl, Below.refl _ _⟩
      · obtain rfl : i = ss.length := by omega
        rw [HL.out] at hf
        have B := Lib.hid (HB.out hf)
        have C := Lib.hid (HT.out hf)
        have HF := Lib.hid hf
        clear hf
        unfold TextOut at B
        obtain ⟨S, hS⟩ : ∃ S, S = T (sumz ss) := ⟨_, rfl⟩
        rw [← hS] at B C
        clear hS
        go_wp2_with fail
        refine (C.out _ H.out).mono ?_
        rintro e w1 ⟨rfl, hb1⟩
        go_wp2_with fail
        refine (B.out _).mono ?_
        rintro e w2 ⟨rfl, hb2⟩
        go_wp2
        go_ret2
        exact ⟨by rw [HGOOD.out HF.out]; rfl, hb1.trans (hb2.mono hb1.size)⟩

set_option maxHeartbeats 3200000 in
set_option maxRecDepth 100000 in
/-- Sum of the program. -/
theorem sum_any (a : Option Addr) (cap : Nat) (ss : List ByteArray) (hsz : ∀ j, j < ss.length → (sat ss j).size ≤ 9223372036854775807) (w : World) (h : TsAt w a ss) (hT : Tab w) :
    Calls Tryd.prog 33 #[.slice a ss.length cap] w (TextOut w (totS ss).1 (totS ss).2) := by
  unfold totS
  by_cases h4 : 4096 < ss.length
  · rw [if_pos h4]
    unfold TextOut
    clear h hsz hT
    go_enter Tryd.func33, Tryd.ntmps33
    go_wp2
    go_ret2
    exact ⟨rfl, Below.refl _ _⟩
  · rw [if_neg h4]
    obtain ⟨q, hq⟩ : ∃ q, q = (if ferr ss ≠ 0 then (([] : List UInt8), ferr ss) else (tx (sumz ss), te (sumz ss))) := ⟨_, rfl⟩
    rw [← hq]
    have HBAD : Hid (∀ c, c ≠ 0 → ferr ss = c → q = ([], c)) := by
      intro c h1 h2
      rw [hq, h2, if_pos h1]
    have HGOOD : Hid (ferr ss = 0 → q = (tx (sumz ss), te (sumz ss))) := by
      intro h1
      rw [hq, h1, if_neg (by simp)]
    clear hq
    have HC := Lib.hid (fun (j : Nat) (hj : j < ss.length) (w : World) => read_any (sat ss j) (hsz j hj) w)
    have H := Lib.hid h
    have HT := Lib.hid hT
    obtain ⟨d, hd⟩ : ∃ d : Nat, d = 1024 := ⟨_, rfl⟩
    have HS : Hid (∀ i, i ≤ ss.length → ferr (ss.take i) = 0 → Sm (sumz (ss.take i)) 4294967295) := fun i hi h0 => Sm.le (sm_of_lt (k := 1000) (few_sumz d hd ss i hi h0) (by omega)) (by omega)
    have HS2 : Hid (∀ i, chk (sat ss i).data.toList = 0 → Sm (parse (sat ss i).data.toList) 4294967295) := fun i h0 => Sm.le (sm_of_lt (k := 114) (chk_lt _ h0 d hd) (by omega)) (by omega)
    have HN : Hid (∀ i, i < ss.length → ferr (ss.take i) = 0 → chk (sat ss i).data.toList = 0 → ferr (ss.take (i + 1)) = 0) := fun i hi h hc => ferr_next hi h hc
    have HX : Hid (∀ i, i < ss.length → ferr (ss.take i) = 0 → chk (sat ss i).data.toList ≠ 0 → ferr ss = chk (sat ss i).data.toList) := fun i hi h hc => ferr_bad hi h hc
    have HZ : Hid (∀ i, i < ss.length → sumz (ss.take (i + 1)) = sumz (ss.take i) + parse (sat ss i).data.toList) := fun i hi => sumz_next hi
    have H0 : Hid (ferr (ss.take 0) = 0 ∧ sumz (ss.take 0) = 0) := by unfold Hid; rw [List.take_zero]; exact ⟨rfl, rfl⟩
    have HL : Hid (ss.take ss.length = ss) := List.take_length
    have hd4 : decide ((4096 : Int) < ((ss.length : Nat) : Int)) = false := decide_eq_false (by omega)
    obtain ⟨W, hW⟩ : ∃ W, W = w.alloc (.cells #[.bool false, .slice none 0 0] 73) := ⟨_, rfl⟩
    have hR : Box 73 W w.heap.size (.bool false) (.slice none 0 0) := by rw [hW]; exact Box.new 73 w _ _
    have hBW : Below w.heap.size w W := by rw [hW]; exact below1 _ _
    have HW := Lib.hid hW
    have HR := Lib.hid hR
    have HBW := Lib.hid hBW
    have hK0 : Kept [w.heap.size] W W := Kept.start (by intro r hr; simp at hr; subst hr; exact ⟨_, _, hR⟩)
    have HK0 := Lib.hid hK0
    clear h hsz hd hT hW hR hBW hK0
    unfold TextOut
    go_enter Tryd.func33, Tryd.ntmps33
    go_wp2
    rw [← HW.out]
    go_loopw [15] (fun si wr => ∃ (i : Nat) (b : Bool) (p : Option Addr) (k c : Nat), i ≤ ss.length ∧ si = .int .i64 i ∧ ferr (ss.take i) = 0 ∧ Box 73 wr w.heap.size (.bool b) (.slice p k c) ∧ Nm wr (.agg #[.bool b, .slice p k c]) (sumz (ss.take i)) ∧ Kept [w.heap.size] W wr)
      (fun i _ => ss.length - (intOf i).toNat)
    case atStart => exact ⟨0, false, none, 0, 0, Nat.zero_le _, rfl, H0.out.1, HR.out, by rw [H0.out.2]; exact nm_zero _ _ _, HK0.out⟩
    case round =>
      obtain ⟨i, b, p, k, c, hi, rfl, hf, hbox, hnm, hK⟩ := hrel
      have hB : Below w.heap.size w wr := hK.from HBW.out (by simp)
      have HBOX := Lib.hid hbox
      have HNM := Lib.hid hnm
      have HK := Lib.hid hK
      by_cases hlt : i < ss.length
      · obtain ⟨b1, off, rfl, hb1, hc1⟩ := (H.out.keep hB) i hlt
        have C := Lib.hid (fun w => HC.out i hlt w)
        have N := Lib.hid (HN.out i hlt hf)
        have X := Lib.hid (HX.out i hlt hf)
        have Z := Lib.hid (HZ.out i hlt)
        have S1 := Lib.hid (HS.out i hi hf)
        have S2 := Lib.hid (HS2.out i)
        clear hf hbox hnm hK
        go_wp2_with fail
        refine (C.out _).mono ?_
        rintro e w1 ⟨b', a', k', p', rfl, hb, hok, -⟩
        generalize sat ss i = t at *
        generalize hcc : chk t.data.toList = cc at *
        by_cases h0 : cc = 0
        · have hok2 := hok h0
          clear hok
          subst h0
          have NN := Lib.hid (N.out rfl)
          have SS2 := Lib.hid (S2.out rfl)
          obtain ⟨y, hy⟩ : ∃ y, y = parse t.data.toList := ⟨_, rfl⟩
          rw [← hy] at hok2 SS2 Z
          obtain ⟨W1, hW1⟩ : ∃ W1, W1 = w1.alloc (.cells #[.bool b', .slice a' k' p'] 73) := ⟨_, rfl⟩
          have hbl : Below w1.heap.size w1 W1 := by rw [hW1]; exact below1 _ _
          have hbw : Below wr.heap.size wr W1 := hb.trans (hbl.mono hb.size)
          have HOK := Lib.hid (hok2.keep hbl)
          have HNM1 := Lib.hid (HNM.out.keep hbw)
          have hbx := HBOX.out.keep hbw
          have hnew : Box 73 W1 w1.heap.size (.bool b') (.slice a' k' p') := by rw [hW1]; exact Box.new 73 w1 _ _
          have x0 := hbx.c0; have x1 := hbx.c1; have y0 := hnew.c0; have y1 := hnew.c1
          have HBX := Lib.hid hbx
          have HW1 := Lib.hid hW1
          have HKW := Lib.hid (HK.out.step hbw)
          rw [hW1] at x0 x1 y0 y1
          clear hok2 hy hcc hbx hnew hW1 hbl hbw hb hB hc1 hb1
          go_wp2_with fail
          rw [← HW1.out]
          refine (nplus_any _ _ _ _ _ HNM1.out HOK.out S1.out SS2.out).mono ?_
          rintro en w3 ⟨v3, rfl, hn3, hb3⟩
          obtain ⟨b3, a3, k3, c3, rfl⟩ := hn3.sh
          have hbox3 := HBX.out.keep hb3
          have hk3 := HKW.out.step hb3
          clear x0 x1 y0 y1
          have x0 := hbox3.c0; have x1 := hbox3.c1; have x2 := hbox3.f0 0; have x3 := hbox3.f0 1
          have HBOX3 := Lib.hid hbox3
          have HN3 := Lib.hid hn3
          have HK3 := Lib.hid hk3
          clear hbox3 hk3 hn3 hb3
          go_wp2
          go_roundw
          case rel => exact ⟨i + 1, b3, a3, k3, c3, by omega, by go_num, NN.out, (HBOX3.out.set0 _).set1 _, by rw [Z.out]; exact Nm.stores HN3.out HBOX3.out _ _, Kept.store HK3.out _ _ _ (by simp)⟩
          case measure => simp [intOf]; omega
        · have hne : ((cc : Int) == 0) = false := by simp; omega
          have hne2 : ((cc : Int) != 0) = true := by simp; omega
          have XX := Lib.hid (X.out h0)
          have H00 : Hid (¬ cc = 0) := h0
          have hBB : Below w.heap.size w w1 := hB.trans (hb.mono hB.size)
          clear h0 hok hcc hc1
          go_wp2
          go_ret2
          exact ⟨by rw [HBAD.out cc H00.out XX.out]; rfl, hBB.alloc hBB.size _⟩
      · obtain rfl : i = ss.length := by omega
        have SZ := Lib.hid (HS.out ss.length (Nat.le_refl _) hf)
        rw [HL.out] at hf SZ
        have HF := Lib.hid hf
        have x0 := hbox.c0; have x1 := hbox.c1
        have HNL := HNM.out
        rw [HL.out] at HNL
        have HNMM := Lib.hid HNL
        clear hf hbox hnm hK HNL
        go_wp2_with fail
        refine (text_any _ _ _ HNMM.out SZ.out (HT.out.keep hB)).mono ?_
        rintro e w1 ⟨he, hb1⟩
        obtain ⟨t', ht'⟩ : ∃ t', t' = tx (sumz ss) := ⟨_, rfl⟩
        obtain ⟨c', hc'⟩ : ∃ c', c' = te (sumz ss) := ⟨_, rfl⟩
        rw [← ht', ← hc'] at he
        subst he
        have HTC : Hid (q = (t', c')) := by rw [ht', hc']; exact HGOOD.out HF.out
        clear ht' hc'
        go_wp2
        go_ret2
        exact ⟨by rw [HTC.out]; rfl, hB.trans (hb1.mono hB.size)⟩
end Go.Proofs.YtbmonfbbkmpdhaaDoor

namespace Go.Proofs.YtbmonfbbkmpdhaaDoor
open Go.RowKit Go.Proofs.Num

set_option maxHeartbeats 1600000 in
set_option maxRecDepth 100000 in
theorem totals_any (HA : Awake) (a : Option Addr) (cap : Nat) (ss : List ByteArray) (hsz : ∀ j, j < ss.length → (sat ss j).size ≤ 9223372036854775807) (hn : ss.length ≤ 9223372036854775807) (w : World) (h : TsAt w a ss) (hT : Tab w) :
    Calls Tryd.prog 5 #[.slice a ss.length cap] w fun e w' => e = .returned (.bool true) ∧ Below w.heap.size w w' := by
  have HF := Lib.hid (rfewall_any a cap ss hsz hn w h)
  obtain ⟨S, hS⟩ : ∃ S : ByteArray, S = ⟨(totS ss).1.toArray⟩ := ⟨_, rfl⟩
  obtain ⟨x, hx⟩ : ∃ x, x = (totS ss).2 := ⟨_, rfl⟩
  have c1 : ∀ w, Tab w → TsAt w a ss → Calls Tryd.prog 33 #[.slice a ss.length cap] w (OutE w S x) := fun w hT h => by rw [hS, hx]; exact sum_any a cap ss hsz w h hT
  have c2 : ∀ w, Tab w → TsAt w a ss → Calls Tryd.prog 34 #[.slice a ss.length cap] w (OutE w S x) := fun w _ h => by rw [hS, hx]; exact rsum_any a cap ss hsz w h
  have H1 := Lib.hid c1; have H2 := Lib.hid c2
  have HT := Lib.hid hT
  have HS := Lib.hid h
  have HAW := Lib.hid HA
  clear c1 c2 hS hx hT HA h hsz hn
  generalize ss.length = n at *
  by_cases hb : fewAllB ss = true
  · rw [hb] at HF
    clear hb
    go_enter Tryd.func5, Tryd.ntmps5
    go_wp2_with fail
    refine (HF.out).mono ?_
    rintro e w1 ⟨rfl, rfl⟩
    go_wp2_with fail
    refine (H1.out _ HT.out HS.out).mono ?_
    rintro e w1 ⟨rfl, hb1⟩
    go_wp2_with fail
    refine (H2.out _ (HT.out.keep hb1) (HS.out.keep hb1)).mono ?_
    rintro e w2 ⟨rfl, hc2⟩
    have hb2 : Below w.heap.size w w2 := hb1.trans (hc2.mono hb1.size)
    clear hb1 hc2
    go_wp2_with fail
    refine (HAW.out _ (HT.out.keep hb2)).mono ?_
    rintro e w3 ⟨rfl, hc3⟩
    have hb3 : Below w.heap.size w w3 := hb2.trans (hc3.mono hb2.size)
    clear hb2 hc3
    go_wp2
    go_ret
    exact ⟨rfl, hb3⟩
  · have hb' : fewAllB ss = false := by simpa using hb
    rw [hb'] at HF
    clear hb hb'
    go_enter Tryd.func5, Tryd.ntmps5
    go_wp2_with fail
    refine (HF.out).mono ?_
    rintro e w1 ⟨rfl, rfl⟩
    go_wp2_with fail
    refine (HAW.out _ HT.out).mono ?_
    rintro e w3 ⟨rfl, hb3⟩
    go_wp2
    go_ret
    exact ⟨rfl, hb3⟩
end Go.Proofs.YtbmonfbbkmpdhaaDoor

namespace Go.Proofs.YtbmonfbbkmpdhaaDoor
open Go.RowKit Go.Proofs.Num

/-- The state of the product's outer loop. -/
def ProI (l m : List Nat) (i : Nat) (o : List Nat) : Prop :=
  o.length = l.length + m.length ∧ (∀ x ∈ o, x < 10) ∧ val 10 o = val 10 (l.take i) * val 10 m ∧ ∀ t, i + m.length ≤ t → nth o t = 0

/-- The state of the product's inner loop. -/
def ProJ (l m : List Nat) (i j c : Nat) (o : List Nat) : Prop :=
  o.length = l.length + m.length ∧ (∀ x ∈ o, x < 10) ∧ c < 10 ∧
  val 10 o + c * 10 ^ (i + j) = val 10 (l.take i) * val 10 m + nth l i * 10 ^ i * val 10 (m.take j) ∧
  (∀ t, i + m.length ≤ t → i + j ≤ t → nth o t = 0) ∧ (j ≤ m.length ∨ (j = m.length + 1 ∧ c = 0))

theorem proI_zero (l m : List Nat) : ProI l m 0 (List.replicate (l.length + m.length) 0) :=
  ⟨by simp, fun x hx => by have := List.eq_of_mem_replicate hx; omega, by rw [val_replicate_zero]; simp [val_nil], fun t _ => nth_replicate _ t⟩

theorem proJ_zero {l m : List Nat} {i : Nat} {o : List Nat} (h : ProI l m i o) : ProJ l m i 0 0 o :=
  ⟨h.1, h.2.1, by omega, by rw [h.2.2.1]; simp [val_nil], fun t ht _ => h.2.2.2 t ht, .inl (Nat.zero_le _)⟩

theorem pro_bound {x y : Nat} (hx : x < 10) (hy : y < 10) : x * y ≤ 81 := Nat.mul_le_mul (show x ≤ 9 by omega) (show y ≤ 9 by omega)

theorem proJ_step {l m : List Nat} {i j c : Nat} {o : List Nat} (h : ProJ l m i j c o) (hl : ∀ x ∈ l, x < 10) (hm : ∀ x ∈ m, x < 10) (hi : i < l.length) (hj : j < m.length ∨ 0 < c) :
    i + j < o.length ∧ ProJ l m i (j + 1) ((c + (nth o (i + j) + nth l i * nth m j)) / 10) (o.set (i + j) ((c + (nth o (i + j) + nth l i * nth m j)) % 10)) := by
  obtain ⟨h1, h2, h3, h4, h5, h6⟩ := h
  have hjm : j ≤ m.length := by rcases h6 with h | ⟨h, h'⟩ <;> omega
  have hx := nth_lt (b := 10) (by omega) l hl i
  have hy := nth_lt (b := 10) (by omega) m hm j
  have hz := nth_lt (b := 10) (by omega) o h2 (i + j)
  have hb := pro_bound hx hy
  have hlt : i + j < o.length := by omega
  refine ⟨hlt, by simp [h1], mem_set_lt h2 (Nat.mod_lt _ (by omega)), by omega, ?_, ?_, ?_⟩
  · have h6 := val_set 10 o (i + j) ((c + (nth o (i + j) + nth l i * nth m j)) % 10) hlt
    have h7 := Nat.mod_add_div (c + (nth o (i + j) + nth l i * nth m j)) 10
    generalize hs : (c + (nth o (i + j) + nth l i * nth m j)) = s at *
    have h8 : 10 ^ (i + j) * (s % 10) + s / 10 * 10 ^ (i + (j + 1)) = 10 ^ (i + j) * s := by
      rw [← Nat.add_assoc, Nat.pow_succ, Nat.mul_comm (s / 10), Nat.mul_assoc, ← Nat.mul_add, h7]
    have h9 : 10 ^ (i + j) * s = c * 10 ^ (i + j) + 10 ^ (i + j) * nth o (i + j) + nth l i * 10 ^ i * (10 ^ j * nth m j) := by
      rw [← hs, Nat.mul_add, Nat.mul_add, Nat.mul_comm _ c, Nat.pow_add]
      have : 10 ^ i * 10 ^ j * (nth l i * nth m j) = nth l i * 10 ^ i * (10 ^ j * nth m j) := by
        simp only [Nat.mul_assoc, Nat.mul_comm, Nat.mul_left_comm]
      omega
    rw [val_take_nth, Nat.mul_add]
    omega
  · intro t ht ht2
    rw [nth_set_other _ _ _ _ (by omega)]
    exact h5 t ht (by omega)
  · by_cases hjl : j < m.length
    · exact .inl (by omega)
    · refine .inr ⟨by omega, ?_⟩
      have e1 : nth m j = 0 := nth_past m j (by omega)
      have e2 : nth o (i + j) = 0 := h5 _ (by omega) (Nat.le_refl _)
      rw [e1, e2]; omega

theorem proJ_end {l m : List Nat} {i j : Nat} {o : List Nat} (h : ProJ l m i j 0 o) (hj : m.length ≤ j) : ProI l m (i + 1) o := by
  obtain ⟨h1, h2, h3, h4, h5, h6⟩ := h
  refine ⟨h1, h2, ?_, fun t ht => h5 t (by omega) (by rcases h6 with h | ⟨h, h'⟩ <;> omega)⟩
  rw [List.take_of_length_le hj] at h4
  rw [val_take_nth, Nat.add_mul, Nat.mul_comm (10 ^ i)]
  omega

theorem proI_end {l m : List Nat} {o : List Nat} (h : ProI l m l.length o) : val 10 o = val 10 l * val 10 m := by
  rw [h.2.2.1, List.take_of_length_le (Nat.le_refl _)]

theorem castP1 (c z x y : Nat) : (((c + (z + x * y)) % 10 : Nat) : Int) = ((c : Int) + ((z : Int) + (x : Int) * (y : Int))) % 10 := by
  rw [← Int.natCast_mul]; omega
theorem castP2 (c z x y : Nat) : (((c + (z + x * y)) / 10 : Nat) : Int) = ((c : Int) + ((z : Int) + (x : Int) * (y : Int))) / 10 := by
  rw [← Int.natCast_mul]; omega

set_option maxHeartbeats 6400000 in
set_option maxRecDepth 100000 in
theorem multiplied_at (a1 a2 : Option Addr) (c1 c2 : Nat) (l m : List Nat) (w : World) (h1 : At .i64 w a1 l) (h2 : At .i64 w a2 m) (hl : ∀ x ∈ l, x < 10) (hm : ∀ x ∈ m, x < 10)
    (hsl : l.length ≤ 1073741823) (hsm : m.length ≤ 1073741823) :
    Calls Tryd.prog 99 #[.slice a1 l.length c1, .slice a2 m.length c2] w (GivesDg w (val 10 l * val 10 m)) := by
  obtain ⟨i0, hi, hz0, hz1, hz2⟩ := info_parts info3
  have HST := Lib.hid (fun (i j c : Nat) (o : List Nat) (h : ProJ l m i j c o) (hi : i < l.length) (hj : j < m.length ∨ 0 < c) => proJ_step h hl hm hi hj)
  have HD := Lib.hid (fun (i : Nat) (w' : World) (h : At .i64 w' a2 m) (hi : i ≤ 4294967296) => digit_at a2 c2 m i w' h (by omega) hi)
  have HX := Lib.hid (fun k => nth_lt (b := 10) (by omega) l hl k)
  have HY := Lib.hid (fun k => nth_lt (b := 10) (by omega) m hm k)
  have H1 := Lib.hid h1
  have H2 := Lib.hid h2
  clear h1 h2 hl hm
  go_enter Tryd.func99, Tryd.ntmps99
  go_wp2_with (at_make; refine wpList_make_full _ rfl _ _ 67 rfl w.heap.size 3 i0 (.int .i64 0) 1 Tryd.underlying67 hi hz0 hz1 _ _ _ _ (l.length + m.length) rfl rfl (by omega) (by omega) ?b2 ?b3 (Nat.le_refl _) ?_)
  case b2 => rw [hz2]; omega
  case b3 => unfold maxLen; omega
  intro w0 hown0 hgrow0
  rw [toList_madeCells_one, ← cellsOf_replicate] at hown0
  go_wp2
  go_loopw [6] (fun si wr => ∃ (i : Nat) (o : List Nat), i ≤ l.length ∧ si = .int .i64 i ∧
      wr.ownsRow w.heap.size 3 1 (.slice (some ⟨w.heap.size, 0, none⟩) (l.length + m.length) (l.length + m.length)) (l.length + m.length) (cellsOf .i64 o) ∧ ProI l m i o ∧ Below w.heap.size w wr)
    (fun i _ => l.length - (intOf i).toNat)
  case atStart => exact ⟨0, _, Nat.zero_le _, rfl, hown0, proI_zero l m, (Below.refl _ _).grown hgrow0 (Nat.le_refl _) (fun k h => by cases h)⟩
  case round =>
    obtain ⟨i, o, hil, rfl, hown, hI, hB⟩ := hrel
    by_cases hlt : i < l.length
    · go_wp2
      obtain ⟨wo, rfl⟩ : ∃ wo : World, wo = wr := ⟨_, rfl⟩
      go_loopw [7, 8] (fun car sj wr => ∃ (j c : Nat) (o : List Nat), j ≤ m.length + 1 ∧ sj = .int .i64 j ∧ car = .int .i64 c ∧
          wr.ownsRow w.heap.size 3 1 (.slice (some ⟨w.heap.size, 0, none⟩) (l.length + m.length) (l.length + m.length)) (l.length + m.length) (cellsOf .i64 o) ∧ ProJ l m i j c o ∧ Below w.heap.size w wr)
        (fun _ j _ => m.length + 2 - (intOf j).toNat)
      case atStart => exact ⟨0, 0, o, Nat.zero_le _, rfl, rfl, hown, proJ_zero hI, hB⟩
      case round =>
        obtain ⟨j, c, o, hjm, rfl, rfl, hown, hJ, hB⟩ := hrel
        have hc := hJ.2.2.1
        by_cases hgo : j < m.length ∨ 0 < c
        · obtain ⟨hlo, hJ'⟩ := HST.out i j c o hJ hlt hgo
          have hjb : j ≤ m.length := by rcases hJ.2.2.2.2.2 with h | ⟨h, h'⟩ <;> omega
          obtain ⟨b1, o1, rfl, hb1, hcell1⟩ := H1.out i hlt
          have hx := HX.out i
          have hy := HY.out j
          have hcr : wr.cell? ⟨b1, o1 + i, none⟩ = some (.int .i64 ((nth l i : Nat) : Int)) := (hB.cell (p := ⟨b1, o1 + i, none⟩) hb1).trans hcell1
          have hol := hJ.1
          have hz := nth_lt (b := 10) (by omega) o hJ.2.1 (i + j)
          have hco : wr.cell? ⟨w.heap.size, i + j, none⟩ = some (.int .i64 ((nth o (i + j) : Nat) : Int)) := (hown.cellAt (i + j) (by omega)).trans (cellsOf_at _ _ _ hlo)
          have hfo : wr.frozen? ⟨w.heap.size, i + j, none⟩ = false := hown.frozenAt (i + j)
          have HK2 := Lib.hid (H2.out.keep hB)
          have hD : ∀ n, Calls Tryd.prog 116 #[.slice a2 m.length c2, .int .i64 ((j : Nat) : Int)] (wr.drewN n) fun e w' => e = .returned (.int .i64 ((nth m j : Nat) : Int)) ∧ w' = wr.drewN n := fun n =>
            (HD.out j (wr.drewN n) (HK2.out.keep ⟨rfl, rfl, rfl, Nat.le_refl _, fun _ _ => rfl⟩) (by omega)).mono fun e w' ⟨he, hw⟩ => ⟨he, hw.symm⟩
          have hij : i + j < l.length + m.length := by omega
          have hOW := Lib.hid hown
          clear hcell1 hol hlo hJ hown
          obtain ⟨p, hp⟩ : ∃ p, p = nth l i := ⟨_, rfl⟩
          obtain ⟨q, hq⟩ : ∃ q, q = nth m j := ⟨_, rfl⟩
          obtain ⟨z, hz'⟩ : ∃ z, z = nth o (i + j) := ⟨_, rfl⟩
          rw [← hp] at hx hcr hJ'
          rw [← hq] at hy hD hJ'
          rw [← hz'] at hz hco hJ'
          clear hp hq hz'
          have hbd : (p : Int) * (q : Int) ≤ 81 := by rw [← Int.natCast_mul]; have := pro_bound hx hy; omega
          have hbd0 : 0 ≤ (p : Int) * (q : Int) := by rw [← Int.natCast_mul]; omega
          have D := Lib.hid hD
          clear hD
          have HJ := Lib.hid hJ'
          clear hJ'
          rcases (show j < m.length ∨ (¬ j < m.length ∧ 0 < c) by omega) with t | ⟨t1, t2⟩
          all_goals
            clear hgo
            go_wp2
            go_quiet ((go_at_call 116; exact Calls.quiet_of_same (D.out _)))
            have hownq : (wr.drewN nq).ownsRow w.heap.size 3 1 (.slice (some ⟨w.heap.size, 0, none⟩) (l.length + m.length) (l.length + m.length)) (l.length + m.length) (cellsOf .i64 o) := hOW.out
            have hBq : Below w.heap.size w (wr.drewN nq) := hB.trans ⟨rfl, rfl, rfl, Nat.le_refl _, fun _ _ => rfl⟩
            have hst := hownq.stored (i + j) (.int .i64 ((((c + (z + p * q)) % 10 : Nat)) : Int))
            have HS := Lib.hid hst
            have hfq : (wr.drewN nq).frozen? ⟨w.heap.size, i + j, none⟩ = false := hfo
            have hcq : (wr.drewN nq).cell? ⟨w.heap.size, i + j, none⟩ = some (.int .i64 ((z : Nat) : Int)) := hco
            clear hst hownq
            go_wp2
            go_roundw
            case rel => exact ⟨j + 1, _, _, by omega, by go_num, by rw [castP2], by have := HS.out.1; rw [← cellsOf_set, castP1] at this; exact this, HJ.out, by have := below_own hBq HS.out.2; rw [castP1] at this; exact this⟩
            case measure => simp [intOf]; omega
        · obtain rfl : c = 0 := by omega
          have hjm2 : ¬ j < m.length := by omega
          have hI' := proJ_end hJ (by omega)
          have HI := Lib.hid hI'
          clear hJ hI' hgo
          go_wp2
          go_roundw
          case rel => exact ⟨i + 1, _, by omega, by go_num, hown, HI.out, hB⟩
          case measure => simp [intOf]; omega
    · obtain rfl : i = l.length := by omega
      have hv := proI_end hI
      have hol := hI.1
      have HV := Lib.hid hv
      have hrd : Rd .i64 3 wr (.slice (some ⟨w.heap.size, 0, none⟩) (l.length + m.length) (l.length + m.length)) o := by
        rw [← hol]
        refine Rd.of_own (base := w.heap.size) (T := 3) ?_
        rw [hol]; exact hown
      have hol2 : o.length ≤ 4294967296 := by omega
      have hdg := hI.2.1
      clear hv hol hI
      go_wp2_with fail
      refine (cut_any _ o _ hrd hdg hol2).mono ?_
      rintro e w' ⟨v', rfl, hw, rfl⟩
      obtain ⟨a', k', cap', rfl⟩ := hw.shape
      go_wp2
      go_ret
      exact ⟨_, rfl, by rw [← HV.out]; exact hw, hB⟩

/-- multiplied -/
theorem rmultiplied_any (v1 v2 : Value) (A B : Nat) (w : World) (h1 : Dg w v1 A) (h2 : Dg w v2 B) (hA : (dig 10 A).length ≤ 1073741823) (hB : (dig 10 B).length ≤ 1073741823) :
    Calls Tryd.prog 99 #[v1, v2] w (GivesDg w (A * B)) := by
  obtain ⟨a1, c1, rfl, g1⟩ := Rd.at h1
  obtain ⟨a2, c2, rfl, g2⟩ := Rd.at h2
  have := multiplied_at a1 a2 c1 c2 _ _ w g1 g2 (dig10_lt A) (dig10_lt B) hA hB
  rwa [val_dig10, val_dig10] at this

theorem times_sign (a b : Int) : (if (decide (a < 0) != decide (b < 0)) = true then -((a.natAbs * b.natAbs : Nat) : Int) else ((a.natAbs * b.natAbs : Nat) : Int)) = a * b := by
  rw [← Int.natAbs_mul]
  by_cases h1 : a < 0 <;> by_cases h2 : b < 0
  · have := Int.mul_pos_of_neg_of_neg h1 h2
    simp [h1, h2]; omega
  · have := Int.mul_nonpos_of_nonpos_of_nonneg (show a ≤ 0 by omega) (show 0 ≤ b by omega)
    simp [h1, h2]; omega
  · have := Int.mul_nonpos_of_nonneg_of_nonpos (show 0 ≤ a by omega) (show b ≤ 0 by omega)
    simp [h1, h2]; omega
  · have := Int.mul_nonneg (show 0 ≤ a by omega) (show 0 ≤ b by omega)
    simp [h1, h2]; omega

set_option maxHeartbeats 1600000 in
set_option maxRecDepth 100000 in
theorem rtimes_any {d e : Nat} (a b : Int) (ha : Few d a) (hb : Few e b) (h1 : 1 ≤ d) (hd : d ≤ 100000) (h2 : 1 ≤ e) (he : e ≤ 100000) (w : World) : Calls Tryd.prog 71 #[.string (T a), .string (T b)] w (OutR w (T (a * b))) := by
  have HD1 := Lib.hid (digits_T ha h1 hd)
  have HD2 := Lib.hid (digits_T hb h2 he)
  have HL1 := Lib.hid (few_len ha)
  have HL2 := Lib.hid (few_len hb)
  have HM1 := Lib.hid (minus_any a)
  have HM2 := Lib.hid (minus_any b)
  have HZ := Lib.hid (times_sign a b)
  have hlen : (dig 10 (a.natAbs * b.natAbs)).length ≤ d + e := by
    have := few_len (ha.mul hb)
    rwa [Int.natAbs_mul] at this
  have HLL := Lib.hid hlen
  clear hlen
  generalize hS : T (a * b) = S
  generalize a * b = z at *
  generalize T a = X at *
  generalize T b = Y at *
  generalize decide (a < 0) = p at *
  generalize decide (b < 0) = q at *
  generalize a.natAbs = m at *
  generalize b.natAbs = n at *
  clear ha hb
  subst hS
  go_enter Tryd.func71, Tryd.ntmps71
  go_wp2_with fail
  refine (HD1.out _).mono ?_
  rintro e1 w1 ⟨v1, rfl, hv1, hb1⟩
  obtain ⟨a1, k1, c1, rfl⟩ := hv1.shape
  go_wp2_with fail
  refine (HD2.out _).mono ?_
  rintro e2 w2 ⟨v2, rfl, hv2, hb2⟩
  obtain ⟨a2, k2, c2, rfl⟩ := hv2.shape
  have hv1' := hv1.keep hb2
  have hB2 : Below w.heap.size w w2 := hb1.trans (hb2.mono hb1.size)
  have HV1 := Lib.hid hv1'
  have HV2 := Lib.hid hv2
  clear hv1 hv1' hv2 hb1 hb2
  go_wp2_with fail
  refine (rmultiplied_any _ _ _ _ _ HV1.out HV2.out (by have := HL1.out; omega) (by have := HL2.out; omega)).mono ?_
  rintro e3 w3 ⟨v3, rfl, hv3, hb3⟩
  obtain ⟨a3, k3, c3, rfl⟩ := hv3.shape
  have HV3 := Lib.hid hv3
  have hB3 : Below w.heap.size w w3 := hB2.trans (hb3.mono hB2.size)
  clear hv3 hb3 hB2
  go_wp2_with fail
  refine (HM1.out _).mono ?_
  rintro e w1' ⟨rfl, rfl⟩
  go_wp2_with fail
  refine (HM2.out _).mono ?_
  rintro e w1' ⟨rfl, rfl⟩
  go_wp2_with fail
  refine (text_R _ _ (p != q) _ _ HV3.out (by have := HLL.out; omega) HZ.out).mono ?_
  rintro e4 w4 ⟨rfl, hb4⟩
  go_wp2
  go_ret
  exact ⟨rfl, hB3.trans (hb4.mono hB3.size)⟩

set_option maxRecDepth 100000 in
theorem rmul_any (s r : ByteArray) (hs : s.size ≤ 9223372036854775807) (hr : r.size ≤ 9223372036854775807) (w : World) :
    Calls Tryd.prog 37 #[.string s, .string r] w (TextOut w (op2 (· * ·) s.data.toList r.data.toList).1 (op2 (· * ·) s.data.toList r.data.toList).2) := by
  have HK := Lib.hid (fun w => rchecked s r hs hr w)
  unfold op2
  by_cases h : chk2 s.data.toList r.data.toList = 0
  · obtain ⟨c1, c2⟩ := chk2_zero h
    rw [if_neg (by rw [c1]; simp), if_neg (by rw [c2]; simp)]
    rw [h] at HK
    obtain ⟨x, d, hx1, hx2, hd1, hd2, hx⟩ := canon s c1
    obtain ⟨y, d', hy1, hy2, hd1', hd2', hy⟩ := canon r c2
    obtain rfl : d' = d := by omega
    rw [← hx2, ← hy2]
    have HP := Lib.hid (fun w => rtimes_any x y hx hy hd1 (by omega) hd1 (by omega) w)
    have hz : Few (d' + d') (x * y) := Few.mul hx hy
    have HB := Lib.hid (fun w => rbounded (x * y) hz (by omega) (by omega) w)
    rw [← hx1, ← hy1] at HP
    clear c1 c2 h hx1 hy1 hx2 hy2 hx hy hz
    show Calls _ _ _ _ fun e w' => e = .returned (.tuple #[str (tx (x * y)), .int .i64 ((te (x * y) : Nat) : Int)]) ∧ Below w.heap.size w w'
    unfold TextOut at HB
    generalize x * y = z at *
    generalize T z = Z at *
    generalize tx z = t at *
    generalize te z = c at *
    go_enter Tryd.func37, Tryd.ntmps37
    go_wp2_with fail
    refine (HK.out _).mono ?_
    rintro e w1 ⟨rfl, rfl⟩
    go_wp2_with fail
    refine (HP.out _).mono ?_
    rintro e w1 ⟨rfl, hb1⟩
    go_wp2_with fail
    refine (HB.out _).mono ?_
    rintro e w2 ⟨rfl, hb2⟩
    go_wp2
    go_ret2
    exact ⟨rfl, hb1.trans (hb2.mono hb1.size)⟩
  · have hc : ∀ q : List UInt8 × Nat, (if chk s.data.toList ≠ 0 then (([] : List UInt8), chk s.data.toList) else if chk r.data.toList ≠ 0 then ([], chk r.data.toList) else q) = ([], chk2 s.data.toList r.data.toList) := by
      intro q
      unfold chk2 at h ⊢
      by_cases c1 : chk s.data.toList = 0
      · rw [if_neg (by rw [c1]; simp)] at h
        rw [if_neg (by rw [c1]; simp), if_pos h, if_neg (by rw [c1]; simp)]
      · rw [if_pos c1, if_pos c1]
    rw [hc]
    clear hc
    generalize chk2 s.data.toList r.data.toList = c at *
    have hx : ¬ ((c : Nat) : Int) = 0 := by omega
    have hx1 : ((c : Int) == 0) = false := beq_eq_false_iff_ne.2 hx
    unfold TextOut
    go_enter Tryd.func37, Tryd.ntmps37
    go_wp2_with fail
    refine (HK.out _).mono ?_
    rintro e w1 ⟨rfl, rfl⟩
    go_wp2
    go_ret2
    exact ⟨rfl, Below.refl _ _⟩
end Go.Proofs.YtbmonfbbkmpdhaaDoor

namespace Go.Proofs.YtbmonfbbkmpdhaaDoor
open Go.RowKit Go.Proofs.Num

theorem dig_digit {m N : Nat} {o : List Nat} (h : o ++ dig 10 m = dig 10 N) (hm : m ≠ 0) : (o ++ [m % 10]) ++ dig 10 (m / 10) = dig 10 N := by
  rw [← h, dig_pos (by omega) hm]; simp

set_option maxHeartbeats 1600000 in
set_option maxRecDepth 100000 in
theorem rof_pos (N : Nat) (h : N ≤ 9223372036854775807) (w : World) : Calls Tryd.prog 22 #[.int .i64 (N : Int)] w (OutR w (T (N : Int))) := by
  obtain ⟨i0, hi, hz0, hz1, hz2⟩ := info_parts info3
  have hl : (dig 10 N).length ≤ 19 := dig_length_le (by omega) 19 N (by omega)
  have HX := Lib.hid (fun (v : Value) (w : World) (h : Dg w v N) => text_R v N false (N : Int) w h (by omega) rfl)
  obtain ⟨S, hS⟩ : ∃ S, S = T (N : Int) := ⟨_, rfl⟩
  rw [← hS] at HX ⊢
  clear hS
  have hneg : ¬ ((N : Nat) : Int) < 0 := by omega
  go_enter Tryd.func22, Tryd.ntmps22
  go_wp2
  go_loopw [0, 4] (fun n l wr => ∃ (m : Nat) (o : List Nat), m ≤ N ∧ n = .int .i64 m ∧ wr.ownsRow w.heap.size 3 1 l o.length (cellsOf .i64 o) ∧ o ++ dig 10 m = dig 10 N ∧ Below w.heap.size w wr)
    (fun n _ _ => (intOf n).toNat)
  case atStart => exact ⟨N, [], Nat.le_refl _, rfl, World.ownsRow_nil _ _ _ _, rfl, Below.refl _ _⟩
  case round =>
    obtain ⟨m, o, hm, rfl, hown, hd, hB⟩ := hrel
    have hol : o.length ≤ 19 := by
      have := congrArg List.length hd
      rw [List.length_append] at this; omega
    by_cases h0 : m = 0
    · subst h0
      rw [dig_zero, List.append_nil] at hd
      subst hd
      have hrd := Rd.of_own hown
      obtain ⟨a', c', rfl⟩ := Rd.shape hrd
      go_wp2_with fail
      refine (HX.out _ _ hrd).mono ?_
      rintro e w1 ⟨rfl, hb1⟩
      go_wp2
      go_ret
      exact ⟨rfl, hB.trans (hb1.mono hB.size)⟩
    · have HD := Lib.hid (dig_digit hd h0)
      have hm0 : ¬ ((m : Nat) : Int) = 0 := by omega
      have hd0 : ¬ ((m : Nat) : Int) % 10 < 0 := by omega
      have E1 := Lib.hid (show ((m % 10 : Nat) : Int) = (m : Int) % 10 by omega)
      have E2 := Lib.hid (show ((m / 10 : Nat) : Int) = (m : Int) / 10 by omega)
      clear hd
      go_wp2_with (at_builtin; refine wpList_append_own _ rfl _ _ 67 rfl w.heap.size 3 i0 (.int .i64 0) 1 8 Tryd.underlying67 hi hz0 hz1 hz2 rfl (by decide) u4 o.length _ rfl (hown.alloc _) ⟨wr.heap.size, 0, none⟩ 1 1 [_] rfl rfl (cell_one_new _ _ _) (by simp [Value.oneCell']) (by unfold maxLen; omega) (by omega) (by have := hB.size; rw [World.size_alloc]; omega) ?_; intro v' w1 hown1 hgrow1 _)
      go_roundw
      case rel =>
        refine ⟨m / 10, _, by omega, by rw [E2.out], ?_, HD.out, row_below hB hown hgrow1⟩
        rw [List.length_append, cellsOf_append, cellsOf_one, E1.out]
        exact hown1
      case measure => simp [intOf]; omega

theorem neg_mod (m : Nat) : (-(m : Int)).tmod 10 = -((m % 10 : Nat) : Int) := by
  rw [Int.neg_tmod, Int.tmod_eq_emod_of_nonneg (by omega), Int.natCast_emod]; rfl
theorem neg_div (m : Nat) : (-(m : Int)).tdiv 10 = -((m / 10 : Nat) : Int) := by
  rw [Int.neg_tdiv, Int.tdiv_eq_ediv_of_nonneg (by omega), Int.natCast_ediv]; rfl

set_option maxHeartbeats 1600000 in
set_option maxRecDepth 100000 in
theorem rof_neg (N : Nat) (hN : 0 < N) (h : N ≤ 9223372036854775808) (w : World) : Calls Tryd.prog 22 #[.int .i64 (-(N : Int))] w (OutR w (T (-(N : Int)))) := by
  obtain ⟨i0, hi, hz0, hz1, hz2⟩ := info_parts info3
  have hl : (dig 10 N).length ≤ 19 := dig_length_le (by omega) 19 N (by omega)
  have hne : (dig 10 N).length ≠ 0 := by
    intro h0
    have := (dig_eq_nil (b := 10) (by omega) N).1 (List.length_eq_zero_iff.1 h0)
    omega
  have HX := Lib.hid (fun (v : Value) (w : World) (h : Dg w v N) => text_R v N true (-(N : Int)) w h (by omega) rfl)
  obtain ⟨S, hS⟩ : ∃ S, S = T (-(N : Int)) := ⟨_, rfl⟩
  rw [← hS] at HX ⊢
  clear hS
  obtain ⟨x, hx⟩ : ∃ x : Int, x = -(N : Int) := ⟨_, rfl⟩
  have hneg : x < 0 := by omega
  rw [← hx]
  have HXX := Lib.hid hx
  clear hx
  go_enter Tryd.func22, Tryd.ntmps22
  go_wp2
  go_loopw [0, 4, 5] (fun n l d wr => ∃ (m : Nat) (o : List Nat), m ≤ N ∧ n = .int .i64 (-(m : Int)) ∧ wr.ownsRow w.heap.size 3 1 l o.length (cellsOf .i64 o) ∧ o ++ dig 10 m = dig 10 N ∧ Below w.heap.size w wr)
    (fun n _ _ _ => (-(intOf n)).toNat)
  case atStart => exact ⟨N, [], Nat.le_refl _, by rw [HXX.out], World.ownsRow_nil _ _ _ _, rfl, Below.refl _ _⟩
  case round =>
    obtain ⟨m, o, hm, rfl, hown, hd, hB⟩ := hrel
    have hol : o.length ≤ 19 := by
      have := congrArg List.length hd
      rw [List.length_append] at this; omega
    by_cases h0 : m = 0
    · subst h0
      rw [dig_zero, List.append_nil] at hd
      rw [← hd] at hne
      have hrd0 := Rd.of_own hown
      have hrd := Lib.hid hrd0
      rw [hd] at hrd
      obtain ⟨a', c', rfl⟩ := Rd.shape hrd0
      have hl0 : ((o.length : Int) == 0) = false := beq_eq_false_iff_ne.2 (by omega)
      clear hd hrd0
      go_wp2_with fail
      refine (HX.out _ _ hrd.out).mono ?_
      rintro e w1 ⟨rfl, hb1⟩
      go_wp2
      go_ret
      exact ⟨rfl, hB.trans (hb1.mono hB.size)⟩
    · have HD := Lib.hid (dig_digit hd h0)
      obtain ⟨y, hy⟩ : ∃ y : Int, y = -(m : Int) := ⟨_, rfl⟩
      obtain ⟨q, hq⟩ : ∃ q : Nat, q = m % 10 := ⟨_, rfl⟩
      obtain ⟨p, hp⟩ : ∃ q : Nat, q = m / 10 := ⟨_, rfl⟩
      have t1 : y.tmod 10 = -(q : Int) := by rw [hy, hq]; exact neg_mod m
      have t2 : y.tdiv 10 = -(p : Int) := by rw [hy, hp]; exact neg_div m
      have hy0 : ¬ y = 0 := by omega
      have hyl : -9223372036854775808 ≤ y := by omega
      have hyu : y ≤ 0 := by omega
      have hq9 : q ≤ 9 := by omega
      have hpm : p < m := by omega
      have hM := Lib.hid (show (-(y)).toNat = m by omega)
      rw [← hq, ← hp] at HD
      rw [← hy]
      clear hd hy hq hp
      rcases (show q = 0 ∨ 0 < q by omega) with hq0 | hq0
      · subst hq0
        have t1' : y.tmod 10 = 0 := by rw [t1]; rfl
        clear t1
        go_wp2_with (at_builtin; refine wpList_append_own _ rfl _ _ 67 rfl w.heap.size 3 i0 (.int .i64 0) 1 8 Tryd.underlying67 hi hz0 hz1 hz2 rfl (by decide) u4 o.length _ rfl (hown.alloc _) ⟨wr.heap.size, 0, none⟩ 1 1 [_] rfl rfl (cell_one_new _ _ _) (by simp [Value.oneCell']) (by unfold maxLen; omega) (by omega) (by have := hB.size; rw [World.size_alloc]; omega) ?_; intro v' w1 hown1 hgrow1 _)
        go_roundw
        case rel =>
          refine ⟨p, _, by omega, rfl, ?_, HD.out, row_below hB hown hgrow1⟩
          rw [List.length_append, cellsOf_append, cellsOf_one]
          exact hown1
        case measure => simp [intOf]; have := hM.out; omega
      · have hqn : -(q : Int) < 0 := by omega
        go_wp2_with (at_builtin; refine wpList_append_own _ rfl _ _ 67 rfl w.heap.size 3 i0 (.int .i64 0) 1 8 Tryd.underlying67 hi hz0 hz1 hz2 rfl (by decide) u4 o.length _ rfl (hown.alloc _) ⟨wr.heap.size, 0, none⟩ 1 1 [_] rfl rfl (cell_one_new _ _ _) (by simp [Value.oneCell']) (by unfold maxLen; omega) (by omega) (by have := hB.size; rw [World.size_alloc]; omega) ?_; intro v' w1 hown1 hgrow1 _)
        go_roundw
        case rel =>
          refine ⟨p, _, by omega, rfl, ?_, HD.out, row_below hB hown hgrow1⟩
          rw [List.length_append, cellsOf_append, cellsOf_one]
          exact hown1
        case measure => simp [intOf]; have := hM.out; omega

/-- The reference's Of, for every int. -/
theorem rof_any (n : Int) (h0 : -9223372036854775808 ≤ n) (h1 : n ≤ 9223372036854775807) (w : World) : Calls Tryd.prog 22 #[.int .i64 n] w (OutR w (T n)) := by
  by_cases hn : n < 0
  · have := rof_neg n.natAbs (by omega) (by omega) w
    rwa [show -((n.natAbs : Nat) : Int) = n by omega] at this
  · have := rof_pos n.natAbs (by omega) w
    rwa [show ((n.natAbs : Nat) : Int) = n by omega] at this
end Go.Proofs.YtbmonfbbkmpdhaaDoor

namespace Go.Proofs.YtbmonfbbkmpdhaaDoor
open Go.RowKit Go.Proofs.Num

abbrev maxS : ByteArray := ⟨#[57, 50, 50, 51, 51, 55, 50, 48, 51, 54, 56, 53, 52, 55, 55, 53, 56, 48, 55]⟩
abbrev minS : ByteArray := ⟨#[45, 57, 50, 50, 51, 51, 55, 50, 48, 51, 54, 56, 53, 52, 55, 55, 53, 56, 48, 56]⟩
theorem T_max : T 9223372036854775807 = maxS := by
  have h := of_chk maxS (by decide +kernel)
  rw [show parse maxS.data.toList = 9223372036854775807 by decide +kernel] at h
  exact h.symm
theorem T_min : T (-9223372036854775808) = minS := by
  have h := of_chk minS (by decide +kernel)
  rw [show parse minS.data.toList = -9223372036854775808 by decide +kernel] at h
  exact h.symm

set_option maxRecDepth 100000 in
theorem rsmall_err (s : ByteArray) (hs : s.size ≤ 9223372036854775807) (h0 : chk s.data.toList ≠ 0) (w : World) :
    Calls Tryd.prog 16 #[.string s] w fun e w' => e = .returned (.tuple #[.int .i64 0, .int .i64 ((chk s.data.toList : Nat) : Int)]) ∧ Below w.heap.size w w' := by
  have H := Lib.hid (fun w => rcheck_any s w hs)
  generalize chk s.data.toList = c at *
  have hx : ¬ ((c : Nat) : Int) = 0 := by omega
  have hx1 : ((c : Int) == 0) = false := beq_eq_false_iff_ne.2 hx
  go_enter Tryd.func16, Tryd.ntmps16
  go_wp2_with fail
  refine (H.out _).mono ?_
  rintro e w1 ⟨rfl, rfl⟩
  go_wp2
  go_ret2
  exact ⟨rfl, Below.refl _ _⟩

theorem few_max : Few 19 9223372036854775807 := by unfold Few; decide +kernel
theorem few_min : Few 19 (-9223372036854775808) := by unfold Few; decide +kernel

set_option maxRecDepth 100000 in
theorem rsmall_out (s : ByteArray) (h : parse s.data.toList < -9223372036854775808 ∨ 9223372036854775807 < parse s.data.toList) (hc : chk s.data.toList = 0) (hs : s.size ≤ 9223372036854775807) (w : World) :
    Calls Tryd.prog 16 #[.string s] w fun e w' => e = .returned (.tuple #[.int .i64 0, .int .i64 2]) ∧ Below w.heap.size w w' := by
  have H := Lib.hid (fun w => rcheck_any s w hs)
  obtain ⟨z, d, hz1, hz2, hd1, hd2, hz⟩ := canon s hc
  rw [hc] at H
  rw [← hz2] at h
  have O1 := fun w => rorderT z 9223372036854775807 hz (few_max.le (by omega)) hd1 (by omega) w
  have O2 := fun w => rorderT z (-9223372036854775808) hz (few_min.le (by omega)) hd1 (by omega) w
  rw [← hz1, T_max] at O1
  rw [← hz1, T_min] at O2
  rcases (show 9223372036854775807 < z ∨ (z ≤ 9223372036854775807 ∧ z < -9223372036854775808) by omega) with k | ⟨k1, k2⟩
  · have e1 : cmpZ z 9223372036854775807 = 1 := by unfold cmpZ; rw [if_neg (by omega), if_pos k]
    rw [e1] at O1
    have H1 := Lib.hid O1
    clear O1 O2 e1 h hc hz hz1 hz2 hd1 hd2 k
    go_enter Tryd.func16, Tryd.ntmps16
    go_wp2_with fail
    refine (H.out _).mono ?_
    rintro e w1 ⟨rfl, rfl⟩
    go_wp2_with fail
    refine (H1.out _).mono ?_
    rintro e w1 ⟨rfl, hb1⟩
    go_wp2
    go_ret2
    exact ⟨rfl, hb1⟩
  · obtain ⟨c, hcc⟩ : ∃ c, c = cmpZ z 9223372036854775807 := ⟨_, rfl⟩
    have hc1 : c ≤ 0 := by rw [hcc]; unfold cmpZ; split <;> (try split) <;> omega
    have hc0 : ¬ 0 < c := by omega
    have e2 : cmpZ z (-9223372036854775808) = -1 := by unfold cmpZ; rw [if_pos k2]
    rw [← hcc] at O1
    rw [e2] at O2
    have H1 := Lib.hid O1
    have H2 := Lib.hid O2
    have hd0 : decide (0 < c) = false := decide_eq_false hc0
    clear O1 O2 e2 h hc hz hz1 hz2 hd1 hd2 k1 k2 hcc
    go_enter Tryd.func16, Tryd.ntmps16
    go_wp2_with fail
    refine (H.out _).mono ?_
    rintro e w1 ⟨rfl, rfl⟩
    go_wp2_with fail
    refine (H1.out _).mono ?_
    rintro e w1 ⟨rfl, hb1⟩
    go_wp2_with fail
    refine (H2.out _).mono ?_
    rintro e w2 ⟨rfl, hb2⟩
    go_wp2
    go_ret2
    exact ⟨rfl, hb1.trans (hb2.mono hb1.size)⟩
end Go.Proofs.YtbmonfbbkmpdhaaDoor

namespace Go.Proofs.YtbmonfbbkmpdhaaDoor
open Go.RowKit Go.Proofs.Num

theorem val_drop_le10 (l : List Nat) (k : Nat) : val 10 (l.drop k) ≤ val 10 l := by
  have h := val_append 10 (l.take k) (l.drop k)
  rw [List.take_append_drop] at h
  have h2 : val 10 (l.drop k) ≤ 10 ^ (l.take k).length * val 10 (l.drop k) := Nat.le_mul_of_pos_left _ (Nat.pow_pos (by omega))
  omega

set_option maxHeartbeats 1600000 in
set_option maxRecDepth 100000 in
theorem rsmall_in (s : ByteArray) (h0 : -9223372036854775808 ≤ parse s.data.toList) (h1 : parse s.data.toList ≤ 9223372036854775807) (hc : chk s.data.toList = 0) (hs : s.size ≤ 9223372036854775807) (w : World) :
    Calls Tryd.prog 16 #[.string s] w fun e w' => e = .returned (.tuple #[.int .i64 (parse s.data.toList), .int .i64 0]) ∧ Below w.heap.size w w' := by
  have H := Lib.hid (fun w => rcheck_any s w hs)
  obtain ⟨z, d, hz1, hz2, hd1, hd2, hz⟩ := canon s hc
  rw [hc] at H
  rw [← hz2] at h0 h1 ⊢
  have O1 := fun w => rorderT z 9223372036854775807 hz (few_max.le (by omega)) hd1 (by omega) w
  have O2 := fun w => rorderT z (-9223372036854775808) hz (few_min.le (by omega)) hd1 (by omega) w
  have HD := Lib.hid (fun w => digits_T hz hd1 (by omega) w)
  have HM := Lib.hid (fun w => minus_any z w)
  have HL : Hid ((dig 10 z.natAbs).length ≤ 1024) := by have := few_len hz; unfold Hid; omega
  rw [← hz1, T_max] at O1
  rw [← hz1, T_min] at O2
  rw [← hz1] at HD HM
  obtain ⟨c, hcc⟩ : ∃ c, c = cmpZ z 9223372036854775807 := ⟨_, rfl⟩
  obtain ⟨c', hcc'⟩ : ∃ c, c = cmpZ z (-9223372036854775808) := ⟨_, rfl⟩
  have e1 : ¬ 0 < c := by rw [hcc]; unfold cmpZ; split <;> (try split) <;> omega
  have e2 : ¬ c' < 0 := by rw [hcc']; unfold cmpZ; split <;> (try split) <;> omega
  have d1 : decide (0 < c) = false := decide_eq_false e1
  have d2 : decide (c' < 0) = false := decide_eq_false e2
  rw [← hcc] at O1
  rw [← hcc'] at O2
  have H1 := Lib.hid O1
  have H2 := Lib.hid O2
  have HV := Lib.hid (val_dig10 z.natAbs)
  have HLT := Lib.hid (dig10_lt z.natAbs)
  clear O1 O2 hc hz hz1 hz2 hd1 hd2 hcc hcc'
  obtain ⟨n, hn⟩ : ∃ n, n = z.natAbs := ⟨_, rfl⟩
  unfold GivesDg Dg at HD
  rw [← hn] at HD HL HV HLT
  generalize hLL : dig 10 n = L at *
  by_cases hneg : z < 0
  · rw [decide_eq_true hneg] at HM
    have hzn : z = -(n : Int) := by omega
    have hnb : n ≤ 9223372036854775808 := by omega
    have HZ := Lib.hid hzn
    clear hneg hn h0 h1 hzn
    go_enter Tryd.func16, Tryd.ntmps16
    go_wp2_with fail
    refine (H.out _).mono ?_
    rintro e w1 ⟨rfl, rfl⟩
    go_wp2_with fail
    refine (H1.out _).mono ?_
    rintro e w1 ⟨rfl, hb1⟩
    go_wp2_with fail
    refine (H2.out _).mono ?_
    rintro e w2 ⟨rfl, hb2⟩
    have hB2 : Below w.heap.size w w2 := hb1.trans (hb2.mono hb1.size)
    clear hb1 hb2
    go_wp2_with fail
    refine (HD.out _).mono ?_
    rintro e w3 ⟨v, rfl, hv, hb3⟩
    obtain ⟨a, cap, rfl, hat⟩ := Rd.at hv
    have hB3 : Below w.heap.size w w3 := hB2.trans (hb3.mono hB2.size)
    have HA := Lib.hid hat
    have hLlen := HL.out
    clear hB2 hb3 hv hat
    go_wp2
    go_loopw [5, 7] (fun m i wr => ∃ j : Nat, j ≤ L.length ∧ i = .int .i64 ((j : Int) - 1) ∧ m = .int .i64 (-((val 10 (L.drop j) : Nat) : Int)) ∧ wr = w3) (fun _ i _ => (intOf i + 1).toNat)
    case atStart => exact ⟨L.length, Nat.le_refl _, rfl, by rw [List.drop_length]; rfl, rfl⟩
    case round =>
      obtain ⟨j, hj, rfl, rfl, rfl⟩ := hrel
      rcases j with _ | k
      · rw [show (((0 : Nat) : Int) - 1) = -1 by omega, List.drop_zero, HV.out]
        go_wp2
        go_ret2
        exact ⟨by rw [HZ.out]; rfl, hB3⟩
      · rw [show (((k + 1 : Nat) : Int) - 1) = (k : Int) by omega]
        have hkl : k < L.length := by omega
        obtain ⟨b1, o1, rfl, hb1, hcell⟩ := HA.out k hkl
        have hvd := val_drop 10 L k hkl
        have hle := val_drop_le10 L k
        have hx := nth_lt (b := 10) (by omega) L HLT.out k
        rw [HV.out, hvd] at hle
        have HVD := Lib.hid hvd
        clear hvd
        generalize nth L k = x at *
        generalize val 10 (L.drop (k + 1)) = V at *
        have E := Lib.hid (show -((x + 10 * V : Nat) : Int) = (10 * -(V : Int) - (x : Int)) by omega)
        go_wp2_with fail
        refine (HM.out _).mono ?_
        rintro e w4 ⟨rfl, rfl⟩
        go_wp2
        go_roundw
        case rel => exact ⟨k, by omega, rfl, by rw [HVD.out, E.out], trivial⟩
        case measure => simp [intOf]
  · rw [decide_eq_false hneg] at HM
    have hzn : z = (n : Int) := by omega
    have hnb : n ≤ 9223372036854775807 := by omega
    have HZ := Lib.hid hzn
    clear hneg hn h0 h1 hzn
    go_enter Tryd.func16, Tryd.ntmps16
    go_wp2_with fail
    refine (H.out _).mono ?_
    rintro e w1 ⟨rfl, rfl⟩
    go_wp2_with fail
    refine (H1.out _).mono ?_
    rintro e w1 ⟨rfl, hb1⟩
    go_wp2_with fail
    refine (H2.out _).mono ?_
    rintro e w2 ⟨rfl, hb2⟩
    have hB2 : Below w.heap.size w w2 := hb1.trans (hb2.mono hb1.size)
    clear hb1 hb2
    go_wp2_with fail
    refine (HD.out _).mono ?_
    rintro e w3 ⟨v, rfl, hv, hb3⟩
    obtain ⟨a, cap, rfl, hat⟩ := Rd.at hv
    have hB3 : Below w.heap.size w w3 := hB2.trans (hb3.mono hB2.size)
    have HA := Lib.hid hat
    have hLlen := HL.out
    clear hB2 hb3 hv hat
    go_wp2
    go_loopw [5, 7] (fun m i wr => ∃ j : Nat, j ≤ L.length ∧ i = .int .i64 ((j : Int) - 1) ∧ m = .int .i64 (((val 10 (L.drop j) : Nat) : Int)) ∧ wr = w3) (fun _ i _ => (intOf i + 1).toNat)
    case atStart => exact ⟨L.length, Nat.le_refl _, rfl, by rw [List.drop_length]; rfl, rfl⟩
    case round =>
      obtain ⟨j, hj, rfl, rfl, rfl⟩ := hrel
      rcases j with _ | k
      · rw [show (((0 : Nat) : Int) - 1) = -1 by omega, List.drop_zero, HV.out]
        go_wp2
        go_ret2
        exact ⟨by rw [HZ.out]; rfl, hB3⟩
      · rw [show (((k + 1 : Nat) : Int) - 1) = (k : Int) by omega]
        have hkl : k < L.length := by omega
        obtain ⟨b1, o1, rfl, hb1, hcell⟩ := HA.out k hkl
        have hvd := val_drop 10 L k hkl
        have hle := val_drop_le10 L k
        have hx := nth_lt (b := 10) (by omega) L HLT.out k
        rw [HV.out, hvd] at hle
        have HVD := Lib.hid hvd
        clear hvd
        generalize nth L k = x at *
        generalize val 10 (L.drop (k + 1)) = V at *
        have E := Lib.hid (show ((x + 10 * V : Nat) : Int) = (10 * (V : Int) + (x : Int)) by omega)
        go_wp2_with fail
        refine (HM.out _).mono ?_
        rintro e w4 ⟨rfl, rfl⟩
        go_wp2
        go_roundw
        case rel => exact ⟨k, by omega, rfl, by rw [HVD.out, E.out], trivial⟩
        case measure => simp [intOf]
end Go.Proofs.YtbmonfbbkmpdhaaDoor
