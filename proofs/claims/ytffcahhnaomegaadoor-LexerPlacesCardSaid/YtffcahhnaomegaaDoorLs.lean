/- Join of the program. -/
import Derived.Test.YtffcahhnaomegaaDoorLr
namespace Go.Proofs.YtffcahhnaomegaaDoor
open Go.RowKit Go.Proofs.Lx

set_option maxHeartbeats 12800000 in
set_option maxRecDepth 100000 in
theorem pjoin_many (a : Option Addr) (cap n : Nat) (hL : 4097 < n) (w : World) :
    Calls Tryd.prog 8 #[.slice a n cap] w (fun e w' => e = .returned (.tuple #[.string ⟨#[]⟩, .int .i64 5]) ∧ w = w') := by
  have hd : decide (4097 < (n : Int)) = true := decide_eq_true (by omega)
  go_enter Tryd.func8, Tryd.ntmps8
  go_wp2
  go_ret2
  exact ⟨rfl, rfl⟩
set_option maxHeartbeats 12800000 in
set_option maxRecDepth 100000 in
theorem pjoin_few (a : Option Addr) (cap : Nat) (L : List Tk) (hL : L.length ≤ 4097) (hT : ∀ j, j < L.length → (tAt L j).text.length ≤ 1099511627776) (w : World) (h : TkAt w a L) :
    Calls Tryd.prog 8 #[.slice a L.length cap] w (GivesS w (joinR L)) := by
  have H := Lib.hid h
  have HTT := Lib.hid hT
  have HJ := Lib.hid (fun w h => joined_any a cap L (by omega) hT w h)
  have hd : decide (4097 < (L.length : Int)) = false := decide_eq_false (by omega)
  unfold GivesS at *
  clear h hT
  go_enter Tryd.func8, Tryd.ntmps8
  go_wp2
  go_loopw [12] (fun v wr => ∃ i : Nat, i ≤ L.length ∧ v = .int .i64 i ∧ Hid (∀ j, j < i → formAt L j = 0) ∧ Below w.heap.size w wr) (fun v _ => L.length - (intOf v).toNat)
  case atStart => exact ⟨0, by omega, rfl, Lib.hid (fun j hj => by omega), Below.refl _ _⟩
  case round =>
    obtain ⟨i, hi, rfl, HE, hb⟩ := hrel
    by_cases hlt : i < L.length
    · obtain ⟨T, hTe⟩ : ∃ T, T = tAt L i := ⟨_, rfl⟩
      have HT := Lib.hid hTe
      have hTs : Hid (T.text.length ≤ 1099511627776) := Lib.hid (by rw [hTe]; exact HTT.out i hlt)
      obtain ⟨b1, o1, rfl, q1, x1, x2, x3⟩ := (H.out.keep hb).three i hlt T (by rw [hTe, tAt_get])
      have Hb := Lib.hid hb
      obtain ⟨q, hq⟩ : ∃ q, q = decide (i + 1 = L.length) := ⟨_, rfl⟩
      have HF : Hid (formAt L i = formE T q) := Lib.hid (by unfold formAt; rw [← hTe, ← hq])
      have HK := Lib.hid (fun w => check_any T q (by have := hTs.out; omega) w)
      have hq2 : ((i : Int) == (L.length : Int) - 1) = q := by
        rw [hq, Bool.eq_iff_iff, beq_iff_eq, decide_eq_true_eq]; omega
      clear hq hb hTe
      by_cases hz : formE T q = 0
      · rw [hz] at HK
        have HE2 : Hid (∀ j, j < i + 1 → formAt L j = 0) := by
          refine Lib.hid fun j hj => ?_
          rcases Nat.lt_or_ge j i with h1 | h1
          · exact HE.out j h1
          · obtain rfl : j = i := by omega
            rw [HF.out, hz]
        clear hz HE
        cases q
        all_goals
          go_wp2_with fail
          refine (HK.out _).mono ?_
          rintro e x1 ⟨rfl, hbz⟩
          have Hb1 := Lib.hid ((Hb.out.alloc Hb.out.size _).trans (hbz.mono (Nat.le_trans Hb.out.size (by rw [World.size_alloc]; omega))))
          clear hbz
          go_wp2
          go_roundw
          case rel => exact ⟨i + 1, by omega, by go_num, HE2, Hb1.out⟩
          case measure => simp [intOf]; omega
      · have HR : Hid (joinR L = ([], formE T q)) := by
          refine Lib.hid ?_
          unfold joinR
          rw [if_neg (by omega), firstE_at HE.out (by rw [HF.out]; exact hz) hlt, HF.out, if_pos hz]
        generalize formE T q = E at *
        have hz1 : ¬ ((E : Nat) : Int) = 0 := by omega
        have hz2 : (((E : Nat) : Int) != 0) = true := by simp; omega
        clear hz HE
        cases q
        all_goals
          go_wp2_with fail
          refine (HK.out _).mono ?_
          rintro e x1 ⟨rfl, hbz⟩
          have Hb1 := Lib.hid ((Hb.out.alloc Hb.out.size _).trans (hbz.mono (Nat.le_trans Hb.out.size (by rw [World.size_alloc]; omega))))
          clear hbz
          go_wp2
          go_ret2
          exact ⟨by rw [HR.out]; rfl, Hb1.out⟩
    · obtain rfl : i = L.length := by omega
      have HZ : Hid (firstE (formAt L) L.length = 0) := Lib.hid (firstE_zero HE.out)
      have Hb := Lib.hid hb
      clear hb HE
      by_cases h0 : L.length = 0
      · have HR : Hid (joinR L = ([], 9)) := by
          refine Lib.hid ?_
          unfold joinR
          rw [if_neg (by omega), HZ.out, if_neg (by simp), if_pos (.inl (List.length_eq_zero_iff.1 h0))]
        have hq : (((L.length : Nat) : Int) == 0) = true := by rw [h0]; rfl
        clear h0
        go_wp2
        go_ret2
        exact ⟨by rw [HR.out]; rfl, Hb.out⟩
      · obtain ⟨m, hm⟩ : ∃ m, L.length = m + 1 := ⟨L.length - 1, by omega⟩
        have hq : (((L.length : Nat) : Int) == 0) = false := by rw [beq_eq_false_iff_ne]; omega
        obtain ⟨T, hTe⟩ : ∃ T, T = tAt L m := ⟨_, rfl⟩
        have HT := Lib.hid hTe
        have HM := Lib.hid hm
        obtain ⟨b1, o1, rfl, q1, x1, x2, x3⟩ := (H.out.keep Hb.out).three m (by omega) T (by rw [hTe, tAt_get])
        have g1 : (0 : Int) ≤ ((L.length : Nat) : Int) - 1 := by omega
        have g2 : ((L.length : Nat) : Int) - 1 < ((L.length : Nat) : Int) := by omega
        have g3 : (((L.length : Nat) : Int) - 1).toNat = m := by omega
        clear hm hTe h0
        by_cases hk : T.kind = 3
        · have hk2 : (T.kind != 3) = false := by rw [hk]; rfl
          have HR : Hid (joinR L = joinedR L) := by
            refine Lib.hid ?_
            unfold joinR joinedR
            rw [if_neg (by omega), HZ.out, if_neg (by simp), if_neg]
            rintro (h | h)
            · have := HM.out; rw [h] at this; simp at this
            · rw [HM.out, Nat.add_sub_cancel, ← HT.out] at h; exact h hk
          clear hk
          generalize T.kind = K at *
          go_wp2_with fail
          refine (HJ.out _ (H.out.keep Hb.out)).mono ?_
          rintro e x1 ⟨rfl, hbz⟩
          have Hb1 := Lib.hid (Hb.out.trans (hbz.mono Hb.out.size))
          clear hbz
          go_wp2
          go_ret2
          exact ⟨by rw [HR.out]; rfl, Hb1.out⟩
        · have hk2 : (T.kind != 3) = true := by rw [bne_iff_ne]; exact hk
          have HR : Hid (joinR L = ([], 9)) := by
            refine Lib.hid ?_
            unfold joinR
            rw [if_neg (by omega), HZ.out, if_neg (by simp), if_pos]
            right
            rw [HM.out, Nat.add_sub_cancel, ← HT.out]; exact hk
          generalize T.kind = K at *
          clear hk
          go_wp2
          go_ret2
          exact ⟨by rw [HR.out]; rfl, Hb.out⟩
end Go.Proofs.YtffcahhnaomegaaDoor
