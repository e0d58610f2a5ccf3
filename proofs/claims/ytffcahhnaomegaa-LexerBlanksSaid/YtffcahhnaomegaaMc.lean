/- The reference's text of tokens; its Join. -/
import Derived.Test.YtffcahhnaomegaaMb
import Derived.Test.YtffcahhnaomegaaLr
namespace Go.Proofs.Ytffcahhnaomegaa
open Go.RowKit Go.Proofs.Lx

theorem bt_append (X Y : List UInt8) : bt X ++ bt Y = bt (X ++ Y) := by
  apply ByteArray.ext
  rw [ByteArray.data_append]
  simp
theorem jl_len (L : List Tk) (m : Nat) (hT : ∀ j, j < L.length → (tAt L j).text.length ≤ m) : ∀ i, i ≤ L.length → (jl L i).length ≤ i * (m + 1)
  | 0, _ => by simp [jl]
  | i + 1, h => by
    have h1 := jl_len L m hT i (by omega)
    have h2 := hT i (by omega)
    have h3 : (sepL L i).length ≤ 1 := by unfold sepL; split <;> simp
    rw [jl, List.length_append, List.length_append, Nat.add_mul]
    omega

set_option maxHeartbeats 12800000 in
set_option maxRecDepth 100000 in
theorem rjoined_any (a : Option Addr) (cap : Nat) (L : List Tk) (hL : L.length ≤ 5000) (hT : ∀ j, j < L.length → (tAt L j).text.length ≤ 5000) (w : World) (h : TkAt w a L) :
    Calls Try.prog 32 #[.slice a L.length cap] w (fun e w' => e = .returned (.string (bt (jl L L.length))) ∧ Below w.heap.size w w') := by
  have H := Lib.hid h
  have HTT := Lib.hid hT
  have HLL := Lib.hid (jl_len L 5000 hT)
  clear h hT
  go_enter Try.func32, Try.ntmps32
  go_wp2
  go_loopw [3, 4] (fun t v wr => ∃ i : Nat, i ≤ L.length ∧ v = .int .i64 i ∧ t = .string (bt (jl L i)) ∧ Below w.heap.size w wr) (fun _ v _ => L.length - (intOf v).toNat)
  case atStart => exact ⟨0, by omega, rfl, rfl, Below.refl _ _⟩
  case round =>
    obtain ⟨i, hi, rfl, rfl, hb⟩ := hrel
    by_cases hlt : i < L.length
    · obtain ⟨T, hTe⟩ : ∃ T, T = tAt L i := ⟨_, rfl⟩
      have HT := Lib.hid hTe
      have hTs : T.text.length ≤ 5000 := by rw [hTe]; exact HTT.out i hlt
      have HKT := Lib.hid (fun w => rplain_any T w)
      obtain ⟨b1, o1, ha, q0, x1, x2, x3⟩ := (H.out.keep hb).three i hlt T (by rw [hTe, tAt_get])
      have Hb0 := Lib.hid hb
      have hlen := HLL.out i (by omega)
      obtain ⟨s1, hs1⟩ : ∃ s1, s1 = bt (jl L i) := ⟨_, rfl⟩
      obtain ⟨s2, hs2⟩ : ∃ s2, s2 = bt T.text := ⟨_, rfl⟩
      have hz1 : s1.size ≤ 30000000 := by
        rw [hs1, tlen]
        have : i * (5000 + 1) ≤ 5000 * 5001 := Nat.mul_le_mul (by omega) (by omega)
        omega
      have hz2 : s2.size ≤ 5000 := by rw [hs2, tlen]; exact hTs
      have HS1 := Lib.hid hs1
      have HS2 := Lib.hid hs2
      rw [← hs1]
      rw [← hs2] at x2
      have HKT' : Hid (∀ w, Calls Try.prog 59 #[.agg #[.int .i64 T.kind, .string s2, .int .i64 T.pos]] w (fun e w' => e = .returned (.bool (plainB T)) ∧ Below w.heap.size w w')) := by rw [hs2]; exact HKT
      clear hb hTe hs1 hs2 hlen hTs HKT
      rcases Nat.eq_zero_or_pos i with h0 | h0
      · subst h0
        have HS : Hid (sepL L 0 = []) := Lib.hid (by simp [sepL])
        subst ha
        simp only [Nat.zero_mul, Nat.add_zero] at x1 x2 x3
        have HJ : Hid (bt (jl L (0 + 1)) = s1 ++ s2) := by
          refine Lib.hid ?_
          show bt (jl L 0 ++ sepL L 0 ++ (tAt L 0).text) = _
          rw [HS.out, ← HT.out, HS1.out, HS2.out, List.append_nil, bt_append]
        go_wp2
        go_roundw
        case rel => exact ⟨0 + 1, by omega, by go_num, by rw [HJ.out], Hb0.out⟩
        case measure => simp [intOf]; omega
      · obtain ⟨m, hm⟩ : ∃ m, i = m + 1 := ⟨i - 1, by omega⟩
        have HM := Lib.hid hm
        have hm1 : (i : Int) - 1 = (m : Int) := by omega
        have hm2 : (m : Int) < ((L.length : Nat) : Int) := by omega
        obtain ⟨S, hSe⟩ : ∃ S, S = tAt L m := ⟨_, rfl⟩
        obtain ⟨b2, o2, ha2, q9, y1, y2, y3⟩ := (H.out.keep Hb0.out).three m (by omega) S (by rw [hSe, tAt_get])
        rw [ha] at ha2
        simp only [Option.some.injEq, Addr.mk.injEq, and_true] at ha2
        obtain ⟨rfl, rfl⟩ := ha2
        subst ha
        have HKS := Lib.hid (fun w => rplain_any S w)
        have HSE : Hid (sepL L i = if plainB S = true ∧ plainB T = true then [32] else []) := by
          refine Lib.hid ?_
          unfold sepL
          rw [HT.out, hSe, hm]
          simp
        clear hSe hm q9
        generalize plainB S = pS at *
        cases pS
        · have HS : Hid (sepL L i = []) := Lib.hid (by rw [HSE.out]; rfl)
          clear HSE
          go_wp2_with fail
          refine (HKS.out _).mono ?_
          rintro e wx1 ⟨rfl, hbz⟩
          have Hb1 := Lib.hid (Hb0.out.trans (hbz.mono Hb0.out.size))
          have y1 := (hbz.cell (p := ⟨b1, o1 + i * 3, none⟩) q0).trans x1
          have y2 := (hbz.cell (p := ⟨b1, o1 + i * 3 + 1, none⟩) q0).trans x2
          have y3 := (hbz.cell (p := ⟨b1, o1 + i * 3 + 2, none⟩) q0).trans x3
          have q1 := Nat.lt_of_lt_of_le q0 hbz.size
          clear hbz x1 x2 x3
          have x1 := y1
          have x2 := y2
          have x3 := y3
          clear y1 y2 y3
          have HJ : Hid (bt (jl L (i + 1)) = s1 ++ s2) := by
            refine Lib.hid ?_
            show bt (jl L i ++ sepL L i ++ (tAt L i).text) = _
            rw [HS.out, ← HT.out, HS1.out, HS2.out, List.append_nil, bt_append]
          go_wp2
          go_roundw
          case rel => exact ⟨i + 1, by omega, by go_num, by rw [HJ.out], Hb1.out⟩
          case measure => simp [intOf]; omega
        · generalize plainB T = pT at *
          cases pT
          · have HS : Hid (sepL L i = []) := Lib.hid (by rw [HSE.out]; rfl)
            clear HSE
            go_wp2_with fail
            refine (HKS.out _).mono ?_
            rintro e wx1 ⟨rfl, hbz⟩
            have Hb1 := Lib.hid (Hb0.out.trans (hbz.mono Hb0.out.size))
            have y1 := (hbz.cell (p := ⟨b1, o1 + i * 3, none⟩) q0).trans x1
            have y2 := (hbz.cell (p := ⟨b1, o1 + i * 3 + 1, none⟩) q0).trans x2
            have y3 := (hbz.cell (p := ⟨b1, o1 + i * 3 + 2, none⟩) q0).trans x3
            have q1 := Nat.lt_of_lt_of_le q0 hbz.size
            clear hbz x1 x2 x3
            have x1 := y1
            have x2 := y2
            have x3 := y3
            clear y1 y2 y3
            go_wp2_with fail
            refine (HKT'.out _).mono ?_
            rintro e wx2 ⟨rfl, hbz⟩
            have Hb2 := Lib.hid (Hb1.out.trans (hbz.mono Hb1.out.size))
            have y1 := (hbz.cell (p := ⟨b1, o1 + i * 3, none⟩) q1).trans x1
            have y2 := (hbz.cell (p := ⟨b1, o1 + i * 3 + 1, none⟩) q1).trans x2
            have y3 := (hbz.cell (p := ⟨b1, o1 + i * 3 + 2, none⟩) q1).trans x3
            have q2 := Nat.lt_of_lt_of_le q1 hbz.size
            clear hbz x1 x2 x3
            have x1 := y1
            have x2 := y2
            have x3 := y3
            clear y1 y2 y3
            have HJ : Hid (bt (jl L (i + 1)) = s1 ++ s2) := by
              refine Lib.hid ?_
              show bt (jl L i ++ sepL L i ++ (tAt L i).text) = _
              rw [HS.out, ← HT.out, HS1.out, HS2.out, List.append_nil, bt_append]
            go_wp2
            go_roundw
            case rel => exact ⟨i + 1, by omega, by go_num, by rw [HJ.out], Hb2.out⟩
            case measure => simp [intOf]; omega
          · have HS : Hid (sepL L i = [32]) := Lib.hid (by rw [HSE.out]; rfl)
            clear HSE
            go_wp2_with fail
            refine (HKS.out _).mono ?_
            rintro e wx1 ⟨rfl, hbz⟩
            have Hb1 := Lib.hid (Hb0.out.trans (hbz.mono Hb0.out.size))
            have y1 := (hbz.cell (p := ⟨b1, o1 + i * 3, none⟩) q0).trans x1
            have y2 := (hbz.cell (p := ⟨b1, o1 + i * 3 + 1, none⟩) q0).trans x2
            have y3 := (hbz.cell (p := ⟨b1, o1 + i * 3 + 2, none⟩) q0).trans x3
            have q1 := Nat.lt_of_lt_of_le q0 hbz.size
            clear hbz x1 x2 x3
            have x1 := y1
            have x2 := y2
            have x3 := y3
            clear y1 y2 y3
            go_wp2_with fail
            refine (HKT'.out _).mono ?_
            rintro e wx2 ⟨rfl, hbz⟩
            have Hb2 := Lib.hid (Hb1.out.trans (hbz.mono Hb1.out.size))
            have y1 := (hbz.cell (p := ⟨b1, o1 + i * 3, none⟩) q1).trans x1
            have y2 := (hbz.cell (p := ⟨b1, o1 + i * 3 + 1, none⟩) q1).trans x2
            have y3 := (hbz.cell (p := ⟨b1, o1 + i * 3 + 2, none⟩) q1).trans x3
            have q2 := Nat.lt_of_lt_of_le q1 hbz.size
            clear hbz x1 x2 x3
            have x1 := y1
            have x2 := y2
            have x3 := y3
            clear y1 y2 y3
            have HJ : Hid (bt (jl L (i + 1)) = (s1 ++ ⟨#[32]⟩) ++ s2) := by
              refine Lib.hid ?_
              show bt (jl L i ++ sepL L i ++ (tAt L i).text) = _
              rw [HS.out, ← HT.out, HS1.out, HS2.out, show (⟨#[32]⟩ : ByteArray) = bt [32] from rfl, bt_append, bt_append]
            go_wp2
            go_roundw
            case rel => exact ⟨i + 1, by omega, by go_num, by rw [HJ.out], Hb2.out⟩
            case measure => simp [intOf]; omega
    · obtain rfl : i = L.length := by omega
      go_wp2
      go_ret
      exact ⟨rfl, hb⟩
set_option maxHeartbeats 12800000 in
set_option maxRecDepth 100000 in
theorem rjoin_many (a : Option Addr) (cap n : Nat) (hL : 4097 < n) (w : World) :
    Calls Try.prog 15 #[.slice a n cap] w (fun e w' => e = .returned (.tuple #[.string ⟨#[]⟩, .int .i64 5]) ∧ w = w') := by
  have hd : decide (4097 < (n : Int)) = true := decide_eq_true (by omega)
  go_enter Try.func15, Try.ntmps15
  go_wp2
  go_ret2
  exact ⟨rfl, rfl⟩
set_option maxHeartbeats 12800000 in
set_option maxRecDepth 100000 in
theorem rjoin_few (a : Option Addr) (cap : Nat) (L : List Tk) (hL : L.length ≤ 4097) (hT : ∀ j, j < L.length → (tAt L j).text.length ≤ 5000) (w : World) (h : TkAt w a L) :
    Calls Try.prog 15 #[.slice a L.length cap] w (GivesS w (joinR L)) := by
  have H := Lib.hid h
  have HTT := Lib.hid hT
  have HJ := Lib.hid (fun w h => rjoined_any a cap L (by omega) hT w h)
  have hd : decide (4097 < (L.length : Int)) = false := decide_eq_false (by omega)
  unfold GivesS
  clear h hT
  go_enter Try.func15, Try.ntmps15
  go_wp2
  go_loopw [4] (fun v wr => ∃ i : Nat, i ≤ L.length ∧ v = .int .i64 i ∧ Hid (∀ j, j < i → formAt L j = 0) ∧ Below w.heap.size w wr) (fun v _ => L.length - (intOf v).toNat)
  case atStart => exact ⟨0, by omega, rfl, Lib.hid (fun j hj => by omega), Below.refl _ _⟩
  case round =>
    obtain ⟨i, hi, rfl, HE, hb⟩ := hrel
    by_cases hlt : i < L.length
    · obtain ⟨T, hTe⟩ : ∃ T, T = tAt L i := ⟨_, rfl⟩
      have HT := Lib.hid hTe
      have hTs : Hid (T.text.length ≤ 5000) := Lib.hid (by rw [hTe]; exact HTT.out i hlt)
      obtain ⟨b1, o1, rfl, q1, x1, x2, x3⟩ := (H.out.keep hb).three i hlt T (by rw [hTe, tAt_get])
      have Hb := Lib.hid hb
      obtain ⟨q, hq⟩ : ∃ q, q = decide (i + 1 = L.length) := ⟨_, rfl⟩
      have HF : Hid (formAt L i = formE T q) := Lib.hid (by unfold formAt; rw [← hTe, ← hq])
      have hq2 : ((i : Int) == (L.length : Int) - 1) = q := by
        rw [hq, Bool.eq_iff_iff, beq_iff_eq, decide_eq_true_eq]; omega
      have HK := Lib.hid (fun w => rform_any T (i : Nat) (L.length : Nat) q hq2 (by omega) (by omega) (by have := hTs.out; omega) w)
      clear hq hb hTe hq2
      by_cases hz : formE T q = 0
      · rw [hz] at HK
        have HE2 : Hid (∀ j, j < i + 1 → formAt L j = 0) := by
          refine Lib.hid fun j hj => ?_
          rcases Nat.lt_or_ge j i with h1 | h1
          · exact HE.out j h1
          · obtain rfl : j = i := by omega
            rw [HF.out, hz]
        clear hz HE
        go_wp2_with fail
        refine (HK.out _).mono ?_
        rintro e x1 ⟨rfl, hbz⟩
        have Hb1 := Lib.hid (Hb.out.trans (hbz.mono Hb.out.size))
        clear hbz
        go_wp2
        go_roundw
        case rel => exact ⟨i + 1, by omega, by go_num, HE2, Hb1.out⟩
        case measure => simp [intOf]; omega
      · have HR : Hid (joinR L = ([], formE T q)) := by
          refine Lib.hid ?_
          unfold joinR
          rw [if_neg (by omega), firstE_at HE.out (by rw [HF.out]; exact hz) hlt, HF.out, if_pos hz]
        generalize formE T q = E at *
        have hz1 : ¬ ((E : Nat) : Int) = 0 := by omega
        have hz2 : (((E : Nat) : Int) != 0) = true := by simp; omega
        clear hz HE
        go_wp2_with fail
        refine (HK.out _).mono ?_
        rintro e x1 ⟨rfl, hbz⟩
        have Hb1 := Lib.hid (Hb.out.trans (hbz.mono Hb.out.size))
        clear hbz
        go_wp2
        go_ret2
        exact ⟨by rw [HR.out]; rfl, Hb1.out⟩
    · obtain rfl : i = L.length := by omega
      have HZ : Hid (firstE (formAt L) L.length = 0) := Lib.hid (firstE_zero HE.out)
      have Hb := Lib.hid hb
      clear hb HE
      by_cases h0 : L.length = 0
      · have HR : Hid (joinR L = ([], 9)) := by
          refine Lib.hid ?_
          unfold joinR
          rw [if_neg (by omega), HZ.out, if_neg (by simp), if_pos (.inl (List.length_eq_zero_iff.1 h0))]
        have hq : (((L.length : Nat) : Int) == 0) = true := by rw [h0]; rfl
        clear h0
        go_wp2
        go_ret2
        exact ⟨by rw [HR.out]; rfl, Hb.out⟩
      · obtain ⟨m, hm⟩ : ∃ m, L.length = m + 1 := ⟨L.length - 1, by omega⟩
        have hq : (((L.length : Nat) : Int) == 0) = false := by rw [beq_eq_false_iff_ne]; omega
        obtain ⟨T, hTe⟩ : ∃ T, T = tAt L m := ⟨_, rfl⟩
        have HT := Lib.hid hTe
        have HM := Lib.hid hm
        obtain ⟨b1, o1, rfl, q1, x1, x2, x3⟩ := (H.out.keep Hb.out).three m (by omega) T (by rw [hTe, tAt_get])
        have g1 : (0 : Int) ≤ ((L.length : Nat) : Int) - 1 := by omega
        have g2 : ((L.length : Nat) : Int) - 1 < ((L.length : Nat) : Int) := by omega
        have g3 : (((L.length : Nat) : Int) - 1).toNat = m := by omega
        clear hm hTe h0
        by_cases hk : T.kind = 3
        · have hk2 : (T.kind != 3) = false := by rw [hk]; rfl
          have HR : Hid (joinR L = joinedR L) := by
            refine Lib.hid ?_
            unfold joinR joinedR
            rw [if_neg (by omega), HZ.out, if_neg (by simp), if_neg]
            rintro (h | h)
            · have := HM.out; rw [h] at this; simp at this
            · rw [HM.out, Nat.add_sub_cancel, ← HT.out] at h; exact h hk
          clear hk
          generalize T.kind = K at *
          have HSZ : Hid ((bt (jl L L.length)).size = (jl L L.length).length) := Lib.hid (tlen _)
          obtain ⟨J, hJ⟩ : ∃ J, J = bt (jl L L.length) := ⟨_, rfl⟩
          have HJ' : Hid (∀ w, TkAt w (some ⟨b1, o1, none⟩) L → Calls Try.prog 32 #[.slice (some ⟨b1, o1, none⟩) L.length cap] w (fun e w' => e = .returned (.string J) ∧ Below w.heap.size w w')) := by rw [hJ]; exact HJ
          have HJE := Lib.hid hJ
          rw [← hJ] at HSZ
          clear hJ HJ
          by_cases hbig : 4096 < J.size
          · have hd2 : decide (4096 < (J.size : Int)) = true := decide_eq_true (by omega)
            have HR2 : Hid (joinR L = ([], 19)) := by
              refine Lib.hid ?_
              rw [HR.out]; unfold joinedR; rw [if_pos (by have := HSZ.out; omega)]
            clear hbig
            go_wp2_with fail
            refine (HJ'.out _ (H.out.keep Hb.out)).mono ?_
            rintro e x1 ⟨rfl, hbz⟩
            have Hb1 := Lib.hid (Hb.out.trans (hbz.mono Hb.out.size))
            clear hbz
            go_wp2
            go_ret2
            exact ⟨by rw [HR2.out]; rfl, Hb1.out⟩
          · have hd2 : decide (4096 < (J.size : Int)) = false := decide_eq_false (by omega)
            have HR2 : Hid (joinR L = (jl L L.length, 0)) := by
              refine Lib.hid ?_
              rw [HR.out]; unfold joinedR; rw [if_neg (by have := HSZ.out; omega)]
            clear hbig
            go_wp2_with fail
            refine (HJ'.out _ (H.out.keep Hb.out)).mono ?_
            rintro e x1 ⟨rfl, hbz⟩
            have Hb1 := Lib.hid (Hb.out.trans (hbz.mono Hb.out.size))
            clear hbz
            go_wp2
            go_ret2
            exact ⟨by rw [HR2.out, ← HJE.out]; rfl, Hb1.out⟩
        · have hk2 : (T.kind != 3) = true := by rw [bne_iff_ne]; exact hk
          have HR : Hid (joinR L = ([], 9)) := by
            refine Lib.hid ?_
            unfold joinR
            rw [if_neg (by omega), HZ.out, if_neg (by simp), if_pos]
            right
            rw [HM.out, Nat.add_sub_cancel, ← HT.out]; exact hk
          generalize T.kind = K at *
          clear hk
          go_wp2
          go_ret2
          exact ⟨by rw [HR.out]; rfl, Hb.out⟩
end Go.Proofs.Ytffcahhnaomegaa
