/- LexerBlanks: more blanks between tokens change nothing but offsets. -/
import Derived.Test.YtffcahhnaomegaaMm
namespace Go.Proofs.Ytffcahhnaomegaa
open Go.RowKit Go.Proofs.Lx

set_option maxHeartbeats 6400000 in
set_option maxRecDepth 100000 in
theorem blanks_long (s : ByteArray) (n : Int) (h : 400 < s.size) (w : World) :
    Calls Try.prog 7 #[.string s, .int .u8 n] w (fun e w' => e = .returned (.bool true) ∧ Below w.heap.size w w') := by
  have HAW := Lib.hid awake_any
  have d1 : decide (400 < (s.size : Int)) = true := decide_eq_true (by omega)
  clear h
  go_enter Try.func7, Try.ntmps7
  go_wp2_with fail
  refine (HAW.out _).mono ?_
  rintro e w1 ⟨rfl, hb⟩
  go_wp2
  go_ret
  exact ⟨rfl, hb⟩
set_option maxHeartbeats 6400000 in
set_option maxRecDepth 100000 in
theorem blanks_err (s : ByteArray) (n : Int) (h : ¬ 400 < s.size) (hk : (scanR (bl s)).2.2 ≠ 0) (w : World) :
    Calls Try.prog 7 #[.string s, .int .u8 n] w (fun e w' => e = .returned (.bool true) ∧ Below w.heap.size w w') := by
  have HAW := Lib.hid awake_any
  have d1 : decide (400 < (s.size : Int)) = false := decide_eq_false (by omega)
  have H1 := Lib.hid (fun w => pscan_any s w)
  unfold GivesTk at H1
  have q0 : (((scanR (bl s)).2.2 : Int) != 0) = true := by rw [bne_iff_ne]; omega
  generalize (scanR (bl s)).2.2 = k at *
  generalize (scanR (bl s)).2.1 = p at *
  generalize (scanR (bl s)).1 = L at *
  clear h hk
  go_enter Try.func7, Try.ntmps7
  go_wp2_with fail
  refine (H1.out _).mono ?_
  rintro e w1 ⟨a, c, rfl, ht, hb1⟩
  have Hb1 := Lib.hid hb1
  clear hb1 ht
  go_wp2_with fail
  refine (HAW.out _).mono ?_
  rintro e w3 ⟨rfl, hb⟩
  go_wp2
  go_ret
  exact ⟨rfl, Hb1.out.trans (hb.mono Hb1.out.size)⟩
theorem repeat_32 (c : Nat) (hc : c ≤ 4) (w : World) : Calls Try.prog 21 #[.string ⟨#[32]⟩, .int .i64 (c : Nat)] w fun e w' => e = .returned (.string (bt (List.replicate c 32))) ∧ Below w.heap.size w w' := by
  have h := Try.strings_Repeat ⟨#[32]⟩ c w (by omega) (by show 1 * c ≤ _; omega)
  have e : ∀ c, Lib.repeatL [32] c = List.replicate c 32 := by
    intro c
    induction c with
    | zero => rfl
    | succ c ih => rw [Lib.repeatL, ih]; rfl
  rw [show (ByteArray.mk #[32]).data.toList = [32] from rfl, e] at h
  exact h

set_option maxHeartbeats 12800000 in
set_option maxRecDepth 100000 in
theorem blanks_ok (s : ByteArray) (n : Nat) (hn : n < 256) (h : ¬ 400 < s.size) (L : List Tk) (p : Nat) (hk : scanR (bl s) = (L, p, 0)) (w : World) :
    Calls Try.prog 7 #[.string s, .int .u8 (n : Nat)] w (fun e w' => e = .returned (.bool true) ∧ Below w.heap.size w w') := by
  have HAW := Lib.hid awake_any
  have d1 : decide (400 < (s.size : Int)) = false := decide_eq_false (by omega)
  have H1 := Lib.hid (fun w => pscan_any s w)
  unfold GivesTk at H1
  rw [hk] at H1
  obtain ⟨-, hfl, -⟩ := scan_full hk
  have hbl : (bl s).length ≤ 400 := by simpa using h
  obtain ⟨hT, hL⟩ := scanR_tot (bl s)
  rw [hk] at hT hL
  simp only at hT hL
  obtain ⟨c, hc⟩ : ∃ c, c = 1 + n % 4 := ⟨_, rfl⟩
  have hc4 : c ≤ 4 := by omega
  have hx := bx_len c L L.length hc4 (by omega) (by omega)
  obtain ⟨M, hM, hMb⟩ := blanks_again hfl c (by omega) (by omega)
  have HSC := Lib.hid (fun w => pscan_bt hM w)
  have hlen : M.length = L.length := by have := congrArg List.length hMb; simpa using this
  have hLp := full_pos hfl
  have HB1 := Lib.hid (fun a cap w h => bare_any a cap L hLp (by omega) w h)
  have HB2 := Lib.hid (fun a cap w h => bare_any a cap M (by rw [hlen]; exact hLp) (by omega) w h)
  rw [hlen, hMb] at HB2
  rw [hlen] at HSC
  have HEQ := Lib.hid (fun a b c1 c2 w h1 h2 => equal_bare a b c1 c2 L (by omega) w h1 h2)
  have hw : IntKind.i64.wrap (1 + (IntKind.i64.wrap (n : Int)).tmod 4) = (c : Int) := by
    rw [show IntKind.i64.wrap (n : Int) = (n : Int) from IntWalk.i64_in _ (by omega), Int.tmod_eq_emod_of_nonneg (by omega)]
    rw [show (1 + (n : Int) % 4) = (c : Int) by omega]
    exact IntWalk.i64_in _ (by omega)
  have HREP := Lib.hid (fun w => repeat_32 c hc4 w)
  rw [← hw] at HREP
  clear hw
  obtain ⟨RB, hRB⟩ : ∃ RB, RB = bt (List.replicate c 32) := ⟨_, rfl⟩
  rw [← hRB] at HREP
  have hRs : RB.size ≤ 4 := by rw [hRB, tlen, List.length_replicate]; exact hc4
  have HRB := Lib.hid hRB
  clear hRB
  have HBX := Lib.hid (fun i (hi : i ≤ 1000000) => bx_len c L i hc4 (by omega) (by omega))
  have HBS := Lib.hid (fun i h => bx_succ c L i h)
  have hL401 : L.length ≤ 401 := by omega
  have hTT : Hid (∀ i, i < L.length → (tAt L i).text.length ≤ 1024) := Lib.hid (fun i hi => full_text hfl i hi)
  have HC : Hid ((1 + (n : Int) % 4) = (c : Int)) := Lib.hid (by omega)
  generalize hxs : bx c L L.length = X at *
  have HXS := Lib.hid hxs
  clear h hk hfl hbl hT hL hx hM hMb hLp hlen hxs hc
  go_enter Try.func7, Try.ntmps7
  go_wp2_with fail
  refine (H1.out _).mono ?_
  rintro e w1 ⟨a, cap, rfl, ht, hb1⟩
  have Hb1 := Lib.hid hb1
  have HT1 := Lib.hid ht
  clear hb1 ht
  go_wp2
  go_loopw [28] (fun v wr => ∃ i : Nat, i ≤ L.length ∧ v = .int .i64 i ∧ Lib.IsBuilder 46 5 w1.heap.size w1.heap.size (Lib.byteCells (bx c L i)) wr ∧ Below w1.heap.size w1 wr) (fun v _ => L.length - (intOf v).toNat)
  case atStart => exact ⟨0, by omega, rfl, by rw [bx_zero]; exact Lib.fresh_isBuilder 46 5 w1, (Below.refl _ _).alloc (Nat.le_refl _) _⟩
  case round =>
    obtain ⟨i, hi, rfl, hI, hb⟩ := hrel
    have hBw := bld_lt hI
    by_cases hlt : i < L.length
    · obtain ⟨T, hTe⟩ : ∃ T, T = tAt L i := ⟨_, rfl⟩
      have HT := Lib.hid hTe
      have hTs : Hid (T.text.length ≤ 1024) := Lib.hid (by rw [hTe]; exact hTT.out i hlt)
      obtain ⟨b1, o1, rfl, q1, x1, x2, x3⟩ := (HT1.out.keep hb).three i hlt T (by rw [hTe, tAt_get])
      have Hb0 := Lib.hid (hb.alloc hb.size (Obj.cells #[.int .i64 T.kind, .string (bt T.text), .int .i64 T.pos] 41))
      have HI0 := Lib.hid (bld_keep hI ((Below.refl _ _).alloc (Nat.le_refl _) (Obj.cells #[.int .i64 T.kind, .string (bt T.text), .int .i64 T.pos] 41)))
      have HQ0 := Lib.hid (Blk.new wr 41 #[.int .i64 T.kind, .string (bt T.text), .int .i64 T.pos])
      have hne : wr.heap.size ≠ w1.heap.size := by omega
      have HLI := Lib.hid (HBX.out i (by omega))
      clear hb hI hTe
      go_wp2
      generalize wr.alloc (Obj.cells #[.int .i64 T.kind, .string (bt T.text), .int .i64 T.pos] 41) = W1 at *
      have hTl : (bt T.text).size ≤ 1024 := by rw [tlen]; exact hTs.out
      have HCAT : Hid (RB ++ bt T.text = bt (List.replicate c 32 ++ T.text)) := Lib.hid (by rw [HRB.out, bt_append])
      have HLN : Hid ((Lib.byteCells (bx c L i)).length + (RB ++ bt T.text).size ≤ 140737488355328) := Lib.hid (by rw [HCAT.out, tlen, Lib.byteCells_length, List.length_append, List.length_replicate]; have h7 := HLI.out; have h8 := hTs.out; omega)
      generalize bt T.text = TB at *
      have HS : Hid (∀ x, Below W1.heap.size W1 x → (Below w1.heap.size w1 x ∧ x.cell? ⟨wr.heap.size, 1, none⟩ = some (.string TB))) := fun x hx => ⟨Hb0.out.trans (hx.mono Hb0.out.size), (HQ0.out.below hx HQ0.out.lt).cell 1⟩
      have hk2 : Below W1.heap.size W1 W1.drew := (Below.refl _ _).drew
      obtain ⟨_, f0⟩ := HS.out _ hk2
      have hcat : ¬ 9223372036854775807 < RB.size + TB.size := by omega
      have hn0 : (0 : Int) ≤ (n : Int) := by omega
      have hn1 : (n : Int) < 256 := by omega
      go_region_held3 (fun x => Below w1.heap.size w1 x ∧ x.cell? ⟨wr.heap.size, 1, none⟩ = some (.string TB))
        (first | exact HS.out _ (by assumption) | exact HS.out _ (Below.drew (by assumption)) | exact HEND.out)
        (first | (go_at_call 21; refine (HREP.out _).mono ?_; rintro e wz ⟨rfl, hbz⟩; have hk3 := hk2.trans (hbz.mono hk2.size); clear hbz hk2; have hk2 := hk3; clear hk3) | (go_at_call 20; refine (bstr_any w1.heap.size w1.heap.size _ _ _ (bld_keep HI0.out hk2) HLN.out (HS.out _ hk2).1.size).mono ?_; rintro e wy ⟨rfl, hi1, hb1, hk1⟩; have HI1 := Lib.hid hi1; have HEND : Hid (Below w1.heap.size w1 wy ∧ wy.cell? ⟨wr.heap.size, 1, none⟩ = some (.string TB)) := Lib.hid ⟨(HS.out _ hk2).1.trans hb1, (oth_cell hk1 (HQ0.out.below hk2 HQ0.out.lt) hne).cell 1⟩; clear hi1 hb1 hk1 hk2))
      rename_i hHeldz
      clear hHeldz f0
      rw [HCAT.out, show Lib.strCells (bt (List.replicate c 32 ++ T.text)) = Lib.byteCells (List.replicate c 32 ++ T.text) from rfl, ← Lib.byteCells_append, HT.out, ← HBS.out i hlt] at HI1
      have HB2 := Lib.hid HEND.out.1
      clear HEND
      go_wp2
      go_roundw
      case rel => exact ⟨i + 1, by omega, by go_num, HI1.out, HB2.out⟩
      case measure => simp [intOf]; omega
    · obtain rfl : i = L.length := by omega
      have HB := Lib.hid (Try.Builder_String_any w1.heap.size w1.heap.size (bx c L L.length) wr hI hb.size)
      rw [HXS.out] at HB
      have Hb := Lib.hid hb
      clear hI hb
      go_wp2_with fail
      refine HB.out.mono ?_
      rintro e x1 ⟨rfl, hb1⟩
      have Hb2 := Lib.hid (Hb1.out.trans ((Hb.out.trans hb1).mono Hb1.out.size))
      have HT2 := Lib.hid (HT1.out.keep (Hb.out.trans hb1))
      clear hb1
      rw [show Value.string { data := X.toArray } = Value.string (bt X) from rfl]
      go_wp2_with fail
      refine (HSC.out _).mono ?_
      rintro e w2 ⟨a2, c2, rfl, ht2, hb2⟩
      have Hb3 := Lib.hid (Hb2.out.trans (hb2.mono Hb2.out.size))
      have HT3 := Lib.hid ht2
      have HT2' := Lib.hid (HT2.out.keep hb2)
      clear hb2 ht2
      go_wp2_with fail
      refine (HB1.out _ _ _ HT2'.out).mono ?_
      rintro e w3 ⟨a3, c3, rfl, ht3, hb3⟩
      have Hb4 := Lib.hid (Hb3.out.trans (hb3.mono Hb3.out.size))
      have HT4 := Lib.hid ht3
      have HT3' := Lib.hid (HT3.out.keep hb3)
      clear hb3 ht3
      go_wp2_with fail
      refine (HB2.out _ _ _ HT3'.out).mono ?_
      rintro e w4 ⟨a4, c4, rfl, ht4, hb4⟩
      have Hb5 := Lib.hid (Hb4.out.trans (hb4.mono Hb4.out.size))
      have HT5 := Lib.hid ht4
      have HT4' := Lib.hid (HT4.out.keep hb4)
      clear hb4 ht4
      go_wp2_with fail
      refine (HEQ.out _ _ _ _ _ HT4'.out HT5.out).mono ?_
      rintro e w5 ⟨rfl, hb5⟩
      have Hb6 := Lib.hid (Hb5.out.trans (hb5.mono Hb5.out.size))
      clear hb5
      go_wp2_with fail
      refine (HAW.out _).mono ?_
      rintro e w6 ⟨rfl, hb6⟩
      have Hb7 := Lib.hid (Hb6.out.trans (hb6.mono Hb6.out.size))
      clear hb6
      go_wp2
      go_ret
      exact ⟨rfl, Hb7.out⟩
theorem u8_ok {n : Int} (h : (Lit.int .u8 n).wf = true) : 0 ≤ n ∧ n < 256 := by
  simp [Lit.wf, IntKind.min, IntKind.max, IntKind.signed, IntKind.bits] at h
  omega
/-- The whole law. -/
theorem blanks_any (s : ByteArray) (_hs : s.size ≤ 9223372036854775807) (n : Int) (h0 : 0 ≤ n) (h1 : n < 256) (w : World) :
    Calls Try.prog 7 #[.string s, .int .u8 n] w (fun e w' => e = .returned (.bool true) ∧ Below w.heap.size w w') := by
  obtain ⟨m, rfl⟩ : ∃ m : Nat, n = m := ⟨n.toNat, by omega⟩
  by_cases h : 400 < s.size
  · exact blanks_long s m h w
  · by_cases hk : (scanR (bl s)).2.2 = 0
    · exact blanks_ok s m (by omega) h (scanR (bl s)).1 (scanR (bl s)).2.1 (by rw [← hk]) w
    · exact blanks_err s m h hk w
end Go.Proofs.Ytffcahhnaomegaa
