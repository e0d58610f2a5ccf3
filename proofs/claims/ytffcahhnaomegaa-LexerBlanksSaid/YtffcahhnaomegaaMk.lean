/- LexerReturns: the tokens of the normal text of tokens are the same, up to their offsets. -/
import Derived.Test.YtffcahhnaomegaaMj
import Derived.Test.YtffcahhnaomegaaMg
namespace Go.Proofs.Ytffcahhnaomegaa
open Go.RowKit Go.Proofs.Lx

theorem bl_bt (s : List UInt8) : bl (bt s) = s := by simp [bl]
theorem pscan_bt {s : List UInt8} {M : List Tk} {k e : Nat} (h : scanR s = (M, k, e)) (w : World) : Calls Try.prog 10 #[.string (bt s)] w (fun x w' => ∃ a cap, x = .returned (.tuple #[.slice a M.length cap, .int .i64 (k : Nat), .int .i64 (e : Nat)]) ∧ TkAt w' a M ∧ Below w.heap.size w w') := by
  have := pscan_any (bt s) w
  rw [bl_bt, h] at this
  exact this
theorem equal_bare (a b : Option Addr) (c1 c2 : Nat) (L : List Tk) (hl : L.length ≤ 100000) (w : World) (h1 : TkAt w a (L.map bareT)) (h2 : TkAt w b (L.map bareT)) :
    Calls Try.prog 18 #[.slice a L.length c1, .slice b L.length c2] w (fun e w' => e = .returned (.bool true) ∧ Below w.heap.size w w') := by
  have := equal_true a b c1 c2 (L.map bareT) (by rw [List.length_map]; omega) w h1 h2
  rw [List.length_map] at this
  exact this

set_option maxHeartbeats 6400000 in
set_option maxRecDepth 100000 in
theorem returns_few (a : Option Addr) (cap : Nat) (L : List Tk) (w : World) (h : TkAt w a L) (hf : fewB L = false) :
    Calls Try.prog 6 #[.slice a L.length cap] w (fun e w' => e = .returned (.bool true) ∧ Below w.heap.size w w') := by
  have HAW := Lib.hid awake_any
  have HF := Lib.hid (rfew_any a cap L w h)
  rw [hf] at HF
  clear h hf
  go_enter Try.func6, Try.ntmps6
  go_wp2_with fail
  refine HF.out.mono ?_
  rintro e w1 ⟨rfl, rfl⟩
  go_wp2_with fail
  refine (HAW.out _).mono ?_
  rintro e w1 ⟨rfl, hb⟩
  go_wp2
  go_ret
  exact ⟨rfl, hb⟩
set_option maxHeartbeats 6400000 in
set_option maxRecDepth 100000 in
theorem returns_err (a : Option Addr) (cap : Nat) (L : List Tk) (w : World) (h : TkAt w a L) (hf : fewB L = true) (hc : (joinR L).2 ≠ 0) :
    Calls Try.prog 6 #[.slice a L.length cap] w (fun e w' => e = .returned (.bool true) ∧ Below w.heap.size w w') := by
  have HAW := Lib.hid awake_any
  have HF := Lib.hid (rfew_any a cap L w h)
  rw [hf] at HF
  have HC := Lib.hid (pjoin_any a cap L hf w h)
  unfold GivesS at HC
  have q0 : (((joinR L).2 : Int) != 0) = true := by rw [bne_iff_ne]; omega
  generalize (joinR L).2 = k at *
  generalize bt (joinR L).1 = x at *
  clear h hf hc
  go_enter Try.func6, Try.ntmps6
  go_wp2_with fail
  refine HF.out.mono ?_
  rintro e w1 ⟨rfl, rfl⟩
  go_wp2_with fail
  refine HC.out.mono ?_
  rintro e w1 ⟨rfl, hb1⟩
  have Hb1 := Lib.hid hb1
  clear hb1
  go_wp2_with fail
  refine (HAW.out _).mono ?_
  rintro e w2 ⟨rfl, hb⟩
  go_wp2
  go_ret
  exact ⟨rfl, Hb1.out.trans (hb.mono Hb1.out.size)⟩
set_option maxHeartbeats 12800000 in
set_option maxRecDepth 100000 in
theorem returns_ok (a : Option Addr) (cap : Nat) (L : List Tk) (w : World) (h : TkAt w a L) (hf : fewB L = true) (s : List UInt8) (hc : joinR L = (s, 0)) :
    Calls Try.prog 6 #[.slice a L.length cap] w (fun e w' => e = .returned (.bool true) ∧ Below w.heap.size w w') := by
  have HAW := Lib.hid awake_any
  have HF := Lib.hid (rfew_any a cap L w h)
  rw [hf] at HF
  have HC := Lib.hid (pjoin_any a cap L hf w h)
  unfold GivesS at HC
  rw [hc] at HC
  obtain ⟨hfl, h1, rfl, h2⟩ := join_full hc
  obtain ⟨M, hM, hMb⟩ := scan_again hfl h2
  have HSC := Lib.hid (fun w => pscan_bt hM w)
  have hlen : M.length = L.length := by have := congrArg List.length hMb; simpa using this
  have HB1 := Lib.hid (fun w h => bare_any a cap L (full_pos hfl) (by omega) w h)
  have HB2 := Lib.hid (fun a cap w h => bare_any a cap M (by rw [hlen]; exact full_pos hfl) (by omega) w h)
  rw [hlen, hMb] at HB2
  rw [hlen] at HSC
  have HEQ := Lib.hid (fun a b c1 c2 w h1 h2 => equal_bare a b c1 c2 L (by omega) w h1 h2)
  have H := Lib.hid h
  generalize bt (jl L L.length) = x at *
  clear h hf hc hfl hM hMb h2
  go_enter Try.func6, Try.ntmps6
  go_wp2_with fail
  refine HF.out.mono ?_
  rintro e w1 ⟨rfl, rfl⟩
  go_wp2_with fail
  refine HC.out.mono ?_
  rintro e w1 ⟨rfl, hb1⟩
  have Hb1 := Lib.hid hb1
  clear hb1
  go_wp2_with fail
  refine (HSC.out _).mono ?_
  rintro e w2 ⟨a2, c2, rfl, ht2, hb2⟩
  have Hb2 := Lib.hid (Hb1.out.trans (hb2.mono Hb1.out.size))
  have HT2 := Lib.hid ht2
  clear hb2 ht2
  go_wp2_with fail
  refine (HB1.out _ (H.out.keep Hb2.out)).mono ?_
  rintro e w3 ⟨a3, c3, rfl, ht3, hb3⟩
  have Hb3 := Lib.hid (Hb2.out.trans (hb3.mono Hb2.out.size))
  have HT3 := Lib.hid ht3
  have HT2' := Lib.hid (HT2.out.keep hb3)
  clear hb3 ht3
  go_wp2_with fail
  refine (HB2.out _ _ _ HT2'.out).mono ?_
  rintro e w4 ⟨a4, c4, rfl, ht4, hb4⟩
  have Hb4 := Lib.hid (Hb3.out.trans (hb4.mono Hb3.out.size))
  have HT4 := Lib.hid ht4
  have HT3' := Lib.hid (HT3.out.keep hb4)
  clear hb4 ht4
  go_wp2_with fail
  refine (HEQ.out _ _ _ _ _ HT3'.out HT4.out).mono ?_
  rintro e w5 ⟨rfl, hb5⟩
  have Hb5 := Lib.hid (Hb4.out.trans (hb5.mono Hb4.out.size))
  clear hb5
  go_wp2_with fail
  refine (HAW.out _).mono ?_
  rintro e w6 ⟨rfl, hb6⟩
  have Hb6 := Lib.hid (Hb5.out.trans (hb6.mono Hb5.out.size))
  clear hb6
  go_wp2
  go_ret
  exact ⟨rfl, Hb6.out⟩
/-- The whole law. -/
theorem returns_any (a : Option Addr) (cap : Nat) (L : List Tk) (w : World) (h : TkAt w a L) :
    Calls Try.prog 6 #[.slice a L.length cap] w (fun e w' => e = .returned (.bool true) ∧ Below w.heap.size w w') := by
  rcases hf : fewB L with _ | _
  · exact returns_few a cap L w h hf
  · by_cases hc : (joinR L).2 = 0
    · exact returns_ok a cap L w h hf (joinR L).1 (by rw [← hc])
    · exact returns_err a cap L w h hf hc
end Go.Proofs.Ytffcahhnaomegaa
