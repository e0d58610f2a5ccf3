/- LexerNests: between a bracket and the one that closes it all brackets are closed, for all tokens and places. -/
import Derived.Test.YtffcahhnaomegaaMf
import Derived.Test.YtffcahhnaomegaaMd
import Derived.Deep.RegionHeld3
namespace Go.Proofs.Ytffcahhnaomegaa
open Go.RowKit Go.Proofs.Lx

theorem few_len {L : List Tk} (h : fewB L = true) : L.length ≤ 100000 := by
  unfold fewB at h
  by_cases h1 : 200 < L.length
  · rw [if_pos h1, decide_eq_true_eq] at h; omega
  · omega
theorem closeR_ok {L : List Tk} {n : Int} {e : Nat} (h : closeR L n = (e, 0)) : ∃ k, n = (k : Nat) ∧ k < L.length ∧ opn (tAt L k) ≠ 0 ∧ closeF (L.drop (k + 1)) (k + 1) [opn (tAt L k)] = (e, 0) := by
  unfold closeR at h
  by_cases h0 : n < 0 ∨ (L.length : Int) ≤ n
  · rw [if_pos h0] at h; simp at h
  · rw [if_neg h0] at h
    by_cases ho : opn (tAt L n.toNat) = 0
    · rw [if_pos ho] at h; simp at h
    · rw [if_neg ho] at h
      refine ⟨n.toNat, by omega, by omega, ho, ?_⟩
      rw [close_open L n.toNat [] (by omega) ho] at h
      exact h
theorem closeR_open {L : List Tk} {i : Nat} (h : i < L.length) (ho : opn (tAt L i) ≠ 0) : closeR L (i : Int) = closeF (L.drop (i + 1)) (i + 1) [opn (tAt L i)] := by
  unfold closeR
  rw [if_neg (by omega), Int.toNat_natCast, if_neg ho, close_open L i [] h ho]; rfl

set_option maxHeartbeats 6400000 in
set_option maxRecDepth 100000 in
theorem nests_few (a : Option Addr) (cap : Nat) (L : List Tk) (n : Int) (w : World) (h : TkAt w a L) (hf : fewB L = false) :
    Calls Try.prog 8 #[.slice a L.length cap, .int .i64 n] w (fun e w' => e = .returned (.bool true) ∧ Below w.heap.size w w') := by
  have HAW := Lib.hid awake_any
  have HF := Lib.hid (rfew_any a cap L w h)
  rw [hf] at HF
  clear h hf
  go_enter Try.func8, Try.ntmps8
  go_wp2_with fail
  refine HF.out.mono ?_
  rintro e w1 ⟨rfl, rfl⟩
  go_wp2_with fail
  refine (HAW.out _).mono ?_
  rintro e w1 ⟨rfl, hb⟩
  go_wp2
  go_ret
  exact ⟨rfl, hb⟩
set_option maxHeartbeats 6400000 in
set_option maxRecDepth 100000 in
theorem nests_err (a : Option Addr) (cap : Nat) (L : List Tk) (n : Int) (w : World) (h : TkAt w a L) (hf : fewB L = true) (hc : (closeR L n).2 ≠ 0) :
    Calls Try.prog 8 #[.slice a L.length cap, .int .i64 n] w (fun e w' => e = .returned (.bool true) ∧ Below w.heap.size w w') := by
  have HAW := Lib.hid awake_any
  have HF := Lib.hid (rfew_any a cap L w h)
  rw [hf] at HF
  have HC := Lib.hid (pclose_any a cap L (few_len hf) n w h)
  unfold GivesN at HC
  have q0 : (((closeR L n).2 : Int) != 0) = true := by rw [bne_iff_ne]; omega
  generalize (closeR L n).2 = k at *
  generalize (closeR L n).1 = x at *
  clear h hf hc
  go_enter Try.func8, Try.ntmps8
  go_wp2_with fail
  refine HF.out.mono ?_
  rintro e w1 ⟨rfl, rfl⟩
  go_wp2_with fail
  refine HC.out.mono ?_
  rintro e w1 ⟨rfl, hb1⟩
  have Hb1 := Lib.hid hb1
  clear hb1
  go_wp2_with fail
  refine (HAW.out _).mono ?_
  rintro e w2 ⟨rfl, hb⟩
  go_wp2
  go_ret
  exact ⟨rfl, Hb1.out.trans (hb.mono Hb1.out.size)⟩
set_option maxHeartbeats 12800000 in
set_option maxRecDepth 100000 in
theorem nests_ok (a : Option Addr) (cap : Nat) (L : List Tk) (k0 : Nat) (w : World) (h : TkAt w a L) (hf : fewB L = true) (e0 : Nat) (hc : closeR L k0 = (e0, 0)) (hk0 : k0 < L.length) (ho : opn (tAt L k0) ≠ 0) (hr : closeF (L.drop (k0 + 1)) (k0 + 1) [opn (tAt L k0)] = (e0, 0)) :
    Calls Try.prog 8 #[.slice a L.length cap, .int .i64 (k0 : Nat)] w (fun e w' => e = .returned (.bool true) ∧ Below w.heap.size w w') := by
  have HAW := Lib.hid awake_any
  have HF := Lib.hid (rfew_any a cap L w h)
  rw [hf] at HF
  have hlen := few_len hf
  have HC := Lib.hid (pclose_any a cap L hlen k0 w h)
  unfold GivesN at HC
  rw [hc] at HC
  have HCA := Lib.hid (fun (i : Nat) w (h : TkAt w a L) => pclose_any a cap L hlen i w h)
  unfold GivesN at HCA
  obtain ⟨h1, h2, h3, h4⟩ := close_where L e0 L.length (k0 + 1) _ _ (by omega) hr
  obtain ⟨A, hA⟩ : ∃ A, A = tAt L k0 := ⟨_, rfl⟩
  obtain ⟨B, hB⟩ : ∃ B, B = tAt L e0 := ⟨_, rfl⟩
  obtain ⟨c, hcc⟩ : ∃ c, c = opn A := ⟨_, rfl⟩
  obtain ⟨o, hoo⟩ : ∃ o, o = opI A := ⟨_, rfl⟩
  have HO := Lib.hid (fun w => opens_any A w)
  have HK := Lib.hid (fun w => closes_any B w)
  rw [show clI B = o from by rw [hoo, clI_eq, opI_eq, hB, h4, hA]] at HK
  rw [← hoo] at HO
  have ho0 : o ≠ 0 := by
    rw [hoo, opI_eq]
    rcases opn_srt A with e | e
    · rw [hA] at e; exact absurd e ho
    · exact e
  have q0 : ((o : Int) == 0) = false := by rw [beq_eq_false_iff_ne]; omega
  have HR : Hid (closeF (L.drop (k0 + 1)) (k0 + 1) [c] = (e0, 0)) := by rw [hcc, hA]; exact Lib.hid hr
  have H := Lib.hid h
  obtain ⟨b1, o1, rfl, x0, x1, x2, x3⟩ := h.three k0 hk0 A (by rw [hA, tAt_get])
  obtain ⟨b2, o2, ha, y0, y1, y2, y3⟩ := h.three e0 h2 B (by rw [hB, tAt_get])
  simp only [Option.some.injEq, Addr.mk.injEq, and_true] at ha
  obtain ⟨rfl, rfl⟩ := ha
  have HS : Hid (∀ x, Below w.heap.size w x → (Below w.heap.size w x ∧ x.cell? ⟨b1, o1 + k0 * 3, none⟩ = some (.int .i64 A.kind) ∧ x.cell? ⟨b1, o1 + k0 * 3 + 1, none⟩ = some (.string (bt A.text)) ∧ x.cell? ⟨b1, o1 + k0 * 3 + 2, none⟩ = some (.int .i64 A.pos) ∧ x.cell? ⟨b1, o1 + e0 * 3, none⟩ = some (.int .i64 B.kind) ∧ x.cell? ⟨b1, o1 + e0 * 3 + 1, none⟩ = some (.string (bt B.text)) ∧ x.cell? ⟨b1, o1 + e0 * 3 + 2, none⟩ = some (.int .i64 B.pos))) :=
    fun x hx => ⟨hx, (hx.cell (p := ⟨b1, o1 + k0 * 3, none⟩) x0).trans x1, (hx.cell (p := ⟨b1, o1 + k0 * 3 + 1, none⟩) x0).trans x2, (hx.cell (p := ⟨b1, o1 + k0 * 3 + 2, none⟩) x0).trans x3, (hx.cell (p := ⟨b1, o1 + e0 * 3, none⟩) x0).trans y1, (hx.cell (p := ⟨b1, o1 + e0 * 3 + 1, none⟩) x0).trans y2, (hx.cell (p := ⟨b1, o1 + e0 * 3 + 2, none⟩) x0).trans y3⟩
  clear h hf hc hr ho hA hB hcc hoo h3 h4 x0 x1 x2 x3 y0 y1 y2 y3 ho0
  have d0 : decide ((k0 : Int) < 0) = false := decide_eq_false (by omega)
  have d1 : decide ((e0 : Int) ≤ (k0 : Int)) = false := decide_eq_false (by omega)
  have d2 : decide ((L.length : Int) ≤ (e0 : Int)) = false := decide_eq_false (by omega)
  have d3 : decide (e0 ≤ k0) = false := decide_eq_false (by omega)
  have d4 : decide (L.length ≤ e0) = false := decide_eq_false (by omega)
  have g1 : (0 : Int) ≤ (k0 : Int) := by omega
  have g2 : (k0 : Int) < ((L.length : Nat) : Int) := by omega
  have g3 : (0 : Int) ≤ (e0 : Int) := by omega
  have g4 : (e0 : Int) < ((L.length : Nat) : Int) := by omega
  go_enter Try.func8, Try.ntmps8
  go_wp2_with fail
  refine HF.out.mono ?_
  rintro e w1 ⟨rfl, rfl⟩
  go_wp2_with fail
  refine HC.out.mono ?_
  rintro e w1 ⟨rfl, hb1⟩
  go_wp2_with fail
  have hk2 : Below w.heap.size w w1.drew := hb1.drew
  obtain ⟨_, f1, f2, f3, f4, f5, f6⟩ := HS.out _ hk2
  go_region_held3 (fun x => Below w.heap.size w x ∧ x.cell? ⟨b1, o1 + k0 * 3, none⟩ = some (.int .i64 A.kind) ∧ x.cell? ⟨b1, o1 + k0 * 3 + 1, none⟩ = some (.string (bt A.text)) ∧ x.cell? ⟨b1, o1 + k0 * 3 + 2, none⟩ = some (.int .i64 A.pos) ∧ x.cell? ⟨b1, o1 + e0 * 3, none⟩ = some (.int .i64 B.kind) ∧ x.cell? ⟨b1, o1 + e0 * 3 + 1, none⟩ = some (.string (bt B.text)) ∧ x.cell? ⟨b1, o1 + e0 * 3 + 2, none⟩ = some (.int .i64 B.pos))
    (first | exact HS.out _ (by assumption) | exact HS.out _ (Below.drew (by assumption)))
    (first | (go_at_call 24; refine (HO.out _).mono ?_; rintro e wz ⟨rfl, hbz⟩; have hk3 := hk2.trans (hbz.mono hk2.size); clear hbz hk2; have hk2 := hk3; clear hk3) | (go_at_call 25; refine (HK.out _).mono ?_; rintro e wz ⟨rfl, hbz⟩; have hk3 := hk2.trans (hbz.mono hk2.size); clear hbz hk2; have hk2 := hk3; clear hk3))
  rename_i hHeldz
  clear hHeldz
  have Hb3 := Lib.hid hk2
  clear hk2 hb1 f1 f2 f3 f4 f5 f6 HC HF HO HK HS g1 g2 g3 g4 d0 d1 d2 d3 d4 q0
  go_wp2
  go_loopw [7] (fun v wr => ∃ i : Nat, k0 < i ∧ i ≤ e0 ∧ v = .int .i64 i ∧ Hid (closeF (L.drop i) i [c] = (e0, 0)) ∧ Below w.heap.size w wr) (fun v _ => e0 - (intOf v).toNat)
  case atStart => exact ⟨k0 + 1, by omega, by omega, by go_num, HR, Hb3.out⟩
  case round =>
    obtain ⟨i, hi0, hi1, rfl, HE, hb⟩ := hrel
    have Hb := Lib.hid hb
    clear hb
    by_cases hlt : i < e0
    · obtain ⟨T, hTe⟩ : ∃ T, T = tAt L i := ⟨_, rfl⟩
      have HK := Lib.hid (fun w => closes_any T w)
      have HO := Lib.hid (fun w => opens_any T w)
      have hil : i < L.length := by omega
      obtain ⟨b2, o2, ha, x0, x1, x2, x3⟩ := (H.out.keep Hb.out).three i hil T (by rw [hTe, tAt_get])
      simp only [Option.some.injEq, Addr.mk.injEq, and_true] at ha
      obtain ⟨rfl, rfl⟩ := ha
      have hcl : clo T = 0 := by
        by_cases hop : opn T = 0
        · by_cases hcl : clo T = 0
          · exact hcl
          · exfalso
            have hE := HE.out
            by_cases hs : ([c] : List UInt8).getLast? = some (clo (tAt L i))
            · rw [close_done L i [c] hil (by rw [← hTe]; exact hop) (by rw [← hTe]; exact hcl) hs rfl] at hE
              injection hE with hE; omega
            · rw [close_wrong L i [c] hil (by rw [← hTe]; exact hop) (by rw [← hTe]; exact hcl) hs] at hE
              simp at hE
        · exact opn_clo T hop
      rw [show clI T = 0 from by rw [clI_eq, hcl]; rfl] at HK
      have g1 : (0 : Int) ≤ (i : Int) := by omega
      have g2 : (i : Int) < ((L.length : Nat) : Int) := by omega
      by_cases hop : opn T = 0
      · rw [show opI T = 0 from by rw [opI_eq, hop]; rfl] at HO
        have HE2 := Lib.hid ((close_skip L i [c] hil (by rw [← hTe]; exact hop) (by rw [← hTe]; exact hcl)).symm.trans HE.out)
        clear hTe hop hcl HE
        go_wp2_with fail
        refine (HK.out _).mono ?_
        rintro e w3 ⟨rfl, hb3⟩
        have HB3 := Lib.hid (Hb.out.trans (hb3.mono Hb.out.size))
        have y1 := (hb3.cell (p := ⟨b1, o1 + i * 3, none⟩) x0).trans x1
        have y2 := (hb3.cell (p := ⟨b1, o1 + i * 3 + 1, none⟩) x0).trans x2
        have y3 := (hb3.cell (p := ⟨b1, o1 + i * 3 + 2, none⟩) x0).trans x3
        clear hb3 x1 x2 x3
        go_wp2_with fail
        refine (HO.out _).mono ?_
        rintro e w4 ⟨rfl, hb4⟩
        have HB4 := Lib.hid (HB3.out.trans (hb4.mono HB3.out.size))
        clear hb4
        go_wp2
        go_roundw
        case rel => exact ⟨i + 1, by omega, by omega, by go_num, HE2, HB4.out⟩
        case measure => simp [intOf]; omega
      · obtain ⟨k, hk1, hk2, hk3, hk4⟩ := close_split L e0 c L.length (i + 1) (opn T) [] (by omega) (by
          have := close_open L i [c] hil (by rw [← hTe]; exact hop)
          rw [← hTe] at this
          exact this.symm.trans HE.out)
        have HC := Lib.hid (fun w h => HCA.out i w h)
        rw [closeR_open hil (by rw [← hTe]; exact hop), ← hTe, hk1] at HC
        have HE2 := Lib.hid hk4
        obtain ⟨o, ho⟩ : ∃ o, o = opI T := ⟨_, rfl⟩
        rw [← ho] at HO
        have q0 : ((o : Int) == 0) = false := by
          rw [beq_eq_false_iff_ne, ho, opI_eq]
          rcases opn_srt T with e | e
          · exact absurd e hop
          · omega
        have e1 : decide ((k : Int) ≤ (i : Int)) = false := decide_eq_false (by omega)
        have e2 : decide ((e0 : Int) ≤ (k : Int)) = false := decide_eq_false (by omega)
        have e3 : decide (k ≤ i) = false := decide_eq_false (by omega)
        have e4 : decide (e0 ≤ k) = false := decide_eq_false (by omega)
        clear hTe hop hcl HE hk1 hk4 ho
        go_wp2_with fail
        refine (HK.out _).mono ?_
        rintro e w3 ⟨rfl, hb3⟩
        have HB3 := Lib.hid (Hb.out.trans (hb3.mono Hb.out.size))
        have y1 := (hb3.cell (p := ⟨b1, o1 + i * 3, none⟩) x0).trans x1
        have y2 := (hb3.cell (p := ⟨b1, o1 + i * 3 + 1, none⟩) x0).trans x2
        have y3 := (hb3.cell (p := ⟨b1, o1 + i * 3 + 2, none⟩) x0).trans x3
        clear hb3 x1 x2 x3
        go_wp2_with fail
        refine (HO.out _).mono ?_
        rintro e w4 ⟨rfl, hb4⟩
        have HB4 := Lib.hid (HB3.out.trans (hb4.mono HB3.out.size))
        clear hb4 y1 y2 y3
        go_wp2_with fail
        refine (HC.out _ (H.out.keep HB4.out)).mono ?_
        rintro e w5 ⟨rfl, hb5⟩
        have HB5 := Lib.hid (HB4.out.trans (hb5.mono HB4.out.size))
        clear hb5
        go_wp2
        go_roundw
        case rel => exact ⟨k + 1, by omega, by omega, by go_num, HE2, HB5.out⟩
        case measure => simp [intOf]; omega
    · obtain rfl : i = e0 := by omega
      clear HE
      go_wp2_with fail
      refine (HAW.out _).mono ?_
      rintro e w3 ⟨rfl, hb3⟩
      go_wp2
      go_ret
      exact ⟨rfl, Hb.out.trans (hb3.mono Hb.out.size)⟩
/-- The whole law. -/
theorem nests_any (a : Option Addr) (cap : Nat) (L : List Tk) (n : Int) (w : World) (h : TkAt w a L) :
    Calls Try.prog 8 #[.slice a L.length cap, .int .i64 n] w (fun e w' => e = .returned (.bool true) ∧ Below w.heap.size w w') := by
  rcases hf : fewB L with _ | _
  · exact nests_few a cap L n w h hf
  · by_cases hc : (closeR L n).2 = 0
    · obtain ⟨k, rfl, h1, h2, h3⟩ := closeR_ok (e := (closeR L n).1) (by rw [← hc])
      exact nests_ok a cap L k w h hf _ (by rw [← hc]) h1 h2 h3
    · exact nests_err a cap L n w h hf hc
end Go.Proofs.Ytffcahhnaomegaa
