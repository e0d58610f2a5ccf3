/- Walks of the laws of fractions: the law of checks, for all fractions. -/
import Derived.Test.YtolkiimlchfmlaaGreatDoorFx
namespace Go.Proofs.YtolkiimlchfmlaaGreatDoor
open Go.RowKit Go.Proofs.Num

set_option maxHeartbeats 3200000 in
theorem fchecks_any (s r : ByteArray) (hs : s.size ≤ 9223372036854775807) (hr : r.size ≤ 9223372036854775807) (w : World) (hT : Tab w) (hC : CutT w) :
    Calls Tryz.prog 3 #[FrV s r] w fun e w' => e = .returned (.bool true) ∧ Below w.heap.size w w' := by
  have HF := fun w => rfew2_any s r hs hr w
  cases h : (fewB s && fewB r) with
  | false => rw [h] at HF; exact fchecks_no s r (Lib.hid HF) w hT hC
  | true =>
    rw [h] at HF
    have HC1 := fun w hT => fcheck_any s r hs hr w hT
    have HC2 := fun w => rfcheck_any s r hs hr w
    by_cases hk : fchk s.data.toList r.data.toList = 0
    · rw [hk] at HC1 HC2
      obtain ⟨n, m, D, rfl, rfl, h1, hD, hn, hm, hl⟩ := fchk_ok s r hk
      have hD' : D ≤ 1024 := by omega
      have HN1 := fun w hT => fNeg n m hn hm h1 hD' hl w hT
      have HTu := fun w => turned_any n hn h1 (by omega) w
      have HN2 := fun (w : World) (_ : Tab w) => rfNeg_ok (T n) (T m) (T (-n)) (Lib.hid HC2) (Lib.hid fun w => rfTurned (T n) (T m) (T (-n)) (Lib.hid HTu) w) w
      have HF1 := fun w hT => fFloor n m hn hm h1 hD' hl w hT
      have HDo := fun w => rdown_any n m hn hm (by have := hl.1; omega) h1 (by omega) w
      have HF2 := fun (w : World) (_ : Tab w) => rfFloor_ok (T n) (T m) (T (qz n m)) (Lib.hid HC2) (Lib.hid HDo) w
      have HT1 := fun w hT => fText n m hn hm h1 hD' hl w hT
      have hz1 := T_size hn h1
      have hz2 := T_size hm h1
      have HT2 : ∀ w : World, Tab w → Calls Tryz.prog 17 #[FrV (T n) (T m)] w (OutE w (FT n m) 0) := fun w _ => by
        refine rfText_ok (T n) (T m) (FT n m) (Lib.hid HC2) (Lib.hid fun w => ?_) w
        by_cases h5 : m = 1
        · have e := rfWritten_one (T n) (T m) (by rw [T_one_eq, decide_eq_true h5]) w
          rwa [show FT n m = T n by unfold FT; rw [if_pos h5]]
        · have e := rfWritten_two (T n) (T m) (by rw [T_one_eq, decide_eq_false h5]) (by omega) (by omega) w
          rwa [show FT n m = T n ++ ⟨#[47]⟩ ++ T m by unfold FT; rw [if_neg h5]]
      exact fchecks_yes _ _ _ _ _ _ 0 (Lib.hid HF) (Lib.hid HN1) (Lib.hid HN2) (Lib.hid HF1) (Lib.hid HF2) (Lib.hid HT1) (Lib.hid HT2) (Lib.hid HC1) (Lib.hid HC2) w hT hC
    · generalize fchk s.data.toList r.data.toList = k at *
      have HH1 := Lib.hid HC1
      have HH2 := Lib.hid HC2
      exact fchecks_yes _ _ _ _ _ _ k (Lib.hid HF) (Lib.hid fun w hT => fNeg_chk s r k hk HH1 w hT) (Lib.hid fun w hT => rfNeg_chk s r k hk HH2 w hT) (Lib.hid fun w hT => fFloor_chk s r k hk HH1 w hT) (Lib.hid fun w hT => rfFloor_chk s r k hk HH2 w hT)
        (Lib.hid fun w hT => fText_chk s r k hk HH1 w hT) (Lib.hid fun w hT => rfText_chk s r k hk HH2 w hT) HH1 HH2 w hT hC
end Go.Proofs.YtolkiimlchfmlaaGreatDoor
