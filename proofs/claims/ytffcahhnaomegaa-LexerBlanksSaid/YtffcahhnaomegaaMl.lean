/- LexerNormal: the normal text is the reference's; a normal text is its own one. -/
import Derived.Test.YtffcahhnaomegaaMk
namespace Go.Proofs.Ytffcahhnaomegaa
open Go.RowKit Go.Proofs.Lx

/-- What Normal comes to: a text, an offset, an error's number. -/
def normalR (l : List UInt8) : List UInt8 × Nat × Nat := if (scanR l).2.2 ≠ 0 then ([], (scanR l).2.1, (scanR l).2.2) else ((joinedR (scanR l).1).1, 0, (joinedR (scanR l).1).2)
theorem normal_again {l s : List UInt8} {k : Nat} (h : normalR l = (s, k, 0)) : normalR s = (s, 0, 0) := by
  unfold normalR at h
  by_cases h1 : (scanR l).2.2 = 0
  · rw [if_neg (by simp [h1])] at h
    obtain ⟨h2, h3, h4⟩ := scan_full (l := l) (R := (scanR l).1) (at_ := (scanR l).2.1) (by rw [← h1])
    generalize (scanR l).1 = L at *
    simp only [Prod.mk.injEq] at h
    obtain ⟨e1, e2, e3⟩ := h
    unfold joinedR at e1 e3
    by_cases h5 : 4096 < (jl L L.length).length
    · rw [if_pos h5] at e3; simp at e3
    · rw [if_neg h5] at e1
      simp only at e1
      obtain ⟨M, hM, hb⟩ := scan_again h3 (by omega)
      subst e1
      unfold normalR
      rw [hM, if_neg (by simp)]
      unfold joinedR
      rw [jl_same hb, if_neg h5]
  · rw [if_pos h1] at h
    simp only [Prod.mk.injEq] at h
    exact absurd h.2.2 h1
/-- Hands back a text, an offset and an error's number. -/
def GivesM (w : World) (R : List UInt8 × Nat × Nat) (e : Ending) (w' : World) : Prop := e = .returned (.tuple #[.string (bt R.1), .int .i64 (R.2.1 : Nat), .int .i64 (R.2.2 : Nat)]) ∧ Below w.heap.size w w'

set_option maxHeartbeats 6400000 in
set_option maxRecDepth 100000 in
theorem pnormal_any (s : ByteArray) (w : World) : Calls Try.prog 16 #[.string s] w (GivesM w (normalR (bl s))) := by
  have HS := Lib.hid (pscan_any s w)
  have hl := scanR_len s
  unfold GivesM
  by_cases h1 : (scanR (bl s)).2.2 = 0
  · obtain ⟨h2, h3, h4⟩ := scan_full (l := bl s) (R := (scanR (bl s)).1) (at_ := (scanR (bl s)).2.1) (by rw [← h1])
    have HR : Hid (normalR (bl s) = ((joinedR (scanR (bl s)).1).1, 0, (joinedR (scanR (bl s)).1).2)) := Lib.hid (by unfold normalR; rw [if_neg (by simp [h1])])
    rw [HR.out]
    unfold GivesTk at HS
    rw [h1] at HS
    generalize (scanR (bl s)).1 = L at *
    have HJ := Lib.hid (fun a cap w h => joined_any a cap L (by omega) (fun j hj => by have := full_text h3 j hj; omega) w h)
    unfold GivesS at HJ
    generalize bt (joinedR L).1 = x at *
    generalize (joinedR L).2 = k at *
    generalize (scanR (bl s)).2.1 = p at *
    clear h1 h2 h3 h4 HR
    go_enter Try.func16, Try.ntmps16
    go_wp2_with fail
    refine HS.out.mono ?_
    rintro e w1 ⟨a, c, rfl, ht, hb⟩
    have HB := Lib.hid hb
    have HT := Lib.hid ht
    clear hb ht
    go_wp2_with fail
    refine (HJ.out _ _ _ HT.out).mono ?_
    rintro e w2 ⟨rfl, hb2⟩
    have HB2 := Lib.hid (HB.out.trans (hb2.mono HB.out.size))
    clear hb2
    go_wp2
    refine bodyPost_ret (v := .tuple #[.string x, .int .i64 0, .int .i64 (k : Nat)]) (by simp [results, Try.results16, go_sem]) rfl ⟨rfl, HB2.out⟩
  · have HR : Hid (normalR (bl s) = ([], (scanR (bl s)).2.1, (scanR (bl s)).2.2)) := Lib.hid (by unfold normalR; rw [if_pos h1])
    rw [HR.out]
    unfold GivesTk at HS
    have q0 : (((scanR (bl s)).2.2 : Int) != 0) = true := by rw [bne_iff_ne]; omega
    generalize (scanR (bl s)).1 = L at *
    generalize (scanR (bl s)).2.1 = p at *
    generalize (scanR (bl s)).2.2 = k at *
    clear h1 HR
    go_enter Try.func16, Try.ntmps16
    go_wp2_with fail
    refine HS.out.mono ?_
    rintro e w1 ⟨a, c, rfl, ht, hb⟩
    go_wp2
    refine bodyPost_ret (v := .tuple #[.string (bt []), .int .i64 (p : Nat), .int .i64 (k : Nat)]) (by simp [results, Try.results16, go_sem]) rfl ⟨rfl, hb⟩
set_option maxHeartbeats 6400000 in
set_option maxRecDepth 100000 in
theorem rnormal_any (s : ByteArray) (w : World) : Calls Try.prog 17 #[.string s] w (GivesM w (normalR (bl s))) := by
  have HS := Lib.hid (rscan_any s w)
  have hl := scanR_len s
  unfold GivesM
  by_cases h1 : (scanR (bl s)).2.2 = 0
  · obtain ⟨h2, h3, h4⟩ := scan_full (l := bl s) (R := (scanR (bl s)).1) (at_ := (scanR (bl s)).2.1) (by rw [← h1])
    have HR : Hid (normalR (bl s) = ((joinedR (scanR (bl s)).1).1, 0, (joinedR (scanR (bl s)).1).2)) := Lib.hid (by unfold normalR; rw [if_neg (by simp [h1])])
    rw [HR.out]
    unfold GivesTk at HS
    rw [h1] at HS
    generalize (scanR (bl s)).1 = L at *
    have HJ := Lib.hid (fun a cap w h => rjoin_few a cap L (by omega) (fun j hj => by have := full_text h3 j hj; omega) w h)
    rw [full_join h3 hl] at HJ
    unfold GivesS at HJ
    generalize bt (joinedR L).1 = x at *
    generalize (joinedR L).2 = k at *
    generalize (scanR (bl s)).2.1 = p at *
    clear h1 h2 h3 h4 HR
    go_enter Try.func17, Try.ntmps17
    go_wp2_with fail
    refine HS.out.mono ?_
    rintro e w1 ⟨a, c, rfl, ht, hb⟩
    have HB := Lib.hid hb
    have HT := Lib.hid ht
    clear hb ht
    go_wp2_with fail
    refine (HJ.out _ _ _ HT.out).mono ?_
    rintro e w2 ⟨rfl, hb2⟩
    have HB2 := Lib.hid (HB.out.trans (hb2.mono HB.out.size))
    clear hb2
    go_wp2
    refine bodyPost_ret (v := .tuple #[.string x, .int .i64 0, .int .i64 (k : Nat)]) (by simp [results, Try.results17, go_sem]) rfl ⟨rfl, HB2.out⟩
  · have HR : Hid (normalR (bl s) = ([], (scanR (bl s)).2.1, (scanR (bl s)).2.2)) := Lib.hid (by unfold normalR; rw [if_pos h1])
    rw [HR.out]
    unfold GivesTk at HS
    have q0 : (((scanR (bl s)).2.2 : Int) != 0) = true := by rw [bne_iff_ne]; omega
    generalize (scanR (bl s)).1 = L at *
    generalize (scanR (bl s)).2.1 = p at *
    generalize (scanR (bl s)).2.2 = k at *
    clear h1 HR
    go_enter Try.func17, Try.ntmps17
    go_wp2_with fail
    refine HS.out.mono ?_
    rintro e w1 ⟨a, c, rfl, ht, hb⟩
    go_wp2
    refine bodyPost_ret (v := .tuple #[.string (bt []), .int .i64 (p : Nat), .int .i64 (k : Nat)]) (by simp [results, Try.results17, go_sem]) rfl ⟨rfl, hb⟩
set_option maxHeartbeats 6400000 in
set_option maxRecDepth 100000 in
theorem normal_long (s : ByteArray) (h : 700 < s.size) (w : World) :
    Calls Try.prog 5 #[.string s] w (fun e w' => e = .returned (.bool true) ∧ Below w.heap.size w w') := by
  have HAW := Lib.hid awake_any
  have d1 : decide (700 < (s.size : Int)) = true := decide_eq_true (by omega)
  clear h
  go_enter Try.func5, Try.ntmps5
  go_wp2_with fail
  refine (HAW.out _).mono ?_
  rintro e w1 ⟨rfl, hb⟩
  go_wp2
  go_ret
  exact ⟨rfl, hb⟩
set_option maxHeartbeats 6400000 in
set_option maxRecDepth 100000 in
theorem normal_err (s : ByteArray) (h : ¬ 700 < s.size) (hk : (normalR (bl s)).2.2 ≠ 0) (w : World) :
    Calls Try.prog 5 #[.string s] w (fun e w' => e = .returned (.bool true) ∧ Below w.heap.size w w') := by
  have HAW := Lib.hid awake_any
  have d1 : decide (700 < (s.size : Int)) = false := decide_eq_false (by omega)
  have H1 := Lib.hid (fun w => pnormal_any s w)
  have H2 := Lib.hid (fun w => rnormal_any s w)
  unfold GivesM at H1 H2
  have q0 : (((normalR (bl s)).2.2 : Int) != 0) = true := by rw [bne_iff_ne]; omega
  generalize (normalR (bl s)).2.2 = k at *
  generalize (normalR (bl s)).2.1 = p at *
  generalize bt (normalR (bl s)).1 = x at *
  clear h hk
  go_enter Try.func5, Try.ntmps5
  go_wp2_with fail
  refine (H1.out _).mono ?_
  rintro e w1 ⟨rfl, hb1⟩
  have Hb1 := Lib.hid hb1
  clear hb1
  go_wp2_with fail
  refine (H2.out _).mono ?_
  rintro e w2 ⟨rfl, hb2⟩
  have Hb2 := Lib.hid (Hb1.out.trans (hb2.mono Hb1.out.size))
  clear hb2
  go_wp2_with fail
  refine (HAW.out _).mono ?_
  rintro e w3 ⟨rfl, hb⟩
  go_wp2
  go_ret
  exact ⟨rfl, Hb2.out.trans (hb.mono Hb2.out.size)⟩
set_option maxHeartbeats 6400000 in
set_option maxRecDepth 100000 in
theorem normal_ok (s : ByteArray) (h : ¬ 700 < s.size) (x : List UInt8) (p : Nat) (hk : normalR (bl s) = (x, p, 0)) (w : World) :
    Calls Try.prog 5 #[.string s] w (fun e w' => e = .returned (.bool true) ∧ Below w.heap.size w w') := by
  have HAW := Lib.hid awake_any
  have d1 : decide (700 < (s.size : Int)) = false := decide_eq_false (by omega)
  have H1 := Lib.hid (fun w => pnormal_any s w)
  have H2 := Lib.hid (fun w => rnormal_any s w)
  have H3 := Lib.hid (fun w => pnormal_any (bt x) w)
  rw [bl_bt, normal_again hk] at H3
  unfold GivesM at H1 H2 H3
  rw [hk] at H1 H2
  generalize bt x = y at *
  clear h hk
  go_enter Try.func5, Try.ntmps5
  go_wp2_with fail
  refine (H1.out _).mono ?_
  rintro e w1 ⟨rfl, hb1⟩
  have Hb1 := Lib.hid hb1
  clear hb1
  go_wp2_with fail
  refine (H2.out _).mono ?_
  rintro e w2 ⟨rfl, hb2⟩
  have Hb2 := Lib.hid (Hb1.out.trans (hb2.mono Hb1.out.size))
  clear hb2
  go_wp2_with fail
  refine (H3.out _).mono ?_
  rintro e w3 ⟨rfl, hb3⟩
  have Hb3 := Lib.hid (Hb2.out.trans (hb3.mono Hb2.out.size))
  clear hb3
  go_wp2_with fail
  refine (HAW.out _).mono ?_
  rintro e w4 ⟨rfl, hb⟩
  go_wp2
  go_ret
  exact ⟨rfl, Hb3.out.trans (hb.mono Hb3.out.size)⟩
/-- The whole law. -/
theorem normal_any (s : ByteArray) (_hs : s.size ≤ 9223372036854775807) (w : World) :
    Calls Try.prog 5 #[.string s] w (fun e w' => e = .returned (.bool true) ∧ Below w.heap.size w w') := by
  by_cases h : 700 < s.size
  · exact normal_long s h w
  · by_cases hk : (normalR (bl s)).2.2 = 0
    · exact normal_ok s h (normalR (bl s)).1 (normalR (bl s)).2.1 (by rw [← hk]) w
    · exact normal_err s h hk w
end Go.Proofs.Ytffcahhnaomegaa
