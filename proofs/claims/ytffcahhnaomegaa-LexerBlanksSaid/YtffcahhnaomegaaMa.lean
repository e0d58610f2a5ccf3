/- LexerScans: the tokens, the offset and the error of Scan are the reference's, for all texts. -/
import Derived.Test.YtffcahhnaomegaaLw
import Derived.Test.YtffcahhnaomegaaLk
namespace Go.Proofs.Ytffcahhnaomegaa
open Go.RowKit Go.Proofs.Lx

theorem scanF_len (f : Nat) (l : List UInt8) (k : Nat) (acc : List Tk) : (scanF f l k acc).1.length ≤ acc.length + l.length + 1 := by
  induction f generalizing l k acc with
  | zero => simp [scanF]
  | succ f ih =>
    rw [scanF]
    by_cases h0 : l = []
    · rw [if_pos h0]; simp
    rw [if_neg h0]
    by_cases h1 : stepE l ≠ 0
    · rw [if_pos h1]; simp
    rw [if_neg h1]
    refine Nat.le_trans (ih _ _ _) ?_
    have h2 := stepN_pos h0
    have h3 := stepN_le l
    have h4 : (Lx.stepT l k).length ≤ 1 := by
      cases l with
      | nil => exact absurd rfl h0
      | cons c r => simp only [Lx.stepT]; split; simp; split; simp; split; simp; split <;> simp
    rw [List.length_append, List.length_drop]; omega
theorem scanR_len (s : ByteArray) : (scanR (bl s)).1.length ≤ 4097 := by
  unfold scanR
  by_cases h : 4096 < (bl s).length
  · rw [if_pos h]; simp
  · rw [if_neg h]
    have := scanF_len ((bl s).length + 1) (bl s) 0 []
    simp at this h ⊢
    omega
theorem pscan_any (s : ByteArray) (w : World) : Calls Try.prog 10 #[.string s] w (GivesTk w (scanR (bl s))) := by
  have hl : (bl s).length = s.size := by simp
  unfold scanR
  by_cases h : 4096 < (bl s).length
  · rw [if_pos h]
    refine (pscan_long s (by omega) w).mono ?_
    rintro e w' ⟨rfl, rfl⟩
    exact ⟨none, 0, rfl, TkAt.nil _ _, Below.refl _ _⟩
  · rw [if_neg h, hl]
    exact pscan_ok s (by omega) w
theorem rscan_any (s : ByteArray) (w : World) : Calls Try.prog 11 #[.string s] w (GivesTk w (scanR (bl s))) := by
  have hl : (bl s).length = s.size := by simp
  unfold scanR
  by_cases h : 4096 < (bl s).length
  · rw [if_pos h]
    refine (rscan_long s (by omega) w).mono ?_
    rintro e w' ⟨rfl, rfl⟩
    exact ⟨none, 0, rfl, TkAt.nil _ _, Below.refl _ _⟩
  · rw [if_neg h, hl]
    exact rscan_ok s (by omega) w

set_option maxHeartbeats 6400000 in
set_option maxRecDepth 100000 in
theorem scans_no (HA : Awake) (s : ByteArray) (hs : s.size ≤ 9223372036854775807) (h : (1500 < s.size ∧ s.size ≤ 4096) ∨ 8192 < s.size) (w : World) :
    Calls Try.prog 3 #[.string s] w (fun e w' => e = .returned (.bool true) ∧ Below w.heap.size w w') := by
  have HAW := Lib.hid HA
  clear HA
  have d1 : decide (1500 < (s.size : Int)) = true := decide_eq_true (by omega)
  rcases h with h | h
  · have d2 : decide ((s.size : Int) ≤ 4096) = true := decide_eq_true (by omega)
    clear h
    go_enter Try.func3, Try.ntmps3
    go_wp2_with fail
    refine (HAW.out _).mono ?_
    rintro e w1 ⟨rfl, hb⟩
    go_wp2
    go_ret
    exact ⟨rfl, hb⟩
  · have d2 : decide ((s.size : Int) ≤ 4096) = false := decide_eq_false (by omega)
    have d3 : decide (8192 < (s.size : Int)) = true := decide_eq_true (by omega)
    clear h
    go_enter Try.func3, Try.ntmps3
    go_wp2_with fail
    refine (HAW.out _).mono ?_
    rintro e w1 ⟨rfl, hb⟩
    go_wp2
    go_ret
    exact ⟨rfl, hb⟩

set_option maxHeartbeats 6400000 in
set_option maxRecDepth 100000 in
theorem scans_yes (HA : Awake) (s : ByteArray) (q1 q2 q3 : Bool) (d1 : decide (1500 < (s.size : Int)) = q1) (d2 : decide ((s.size : Int) ≤ 4096) = q2) (d3 : decide (8192 < (s.size : Int)) = q3) (hq : (q1 && q2 || q3) = false) (w : World) :
    Calls Try.prog 3 #[.string s] w (fun e w' => e = .returned (.bool true) ∧ Below w.heap.size w w') := by
  have HAW := Lib.hid HA
  have H1 := Lib.hid (fun w => pscan_any s w)
  have H2 := Lib.hid (fun w => rscan_any s w)
  have hl := scanR_len s
  unfold GivesTk at H1 H2
  generalize (scanR (bl s)).1 = A at *
  generalize (scanR (bl s)).2.1 = p at *
  generalize (scanR (bl s)).2.2 = k at *
  have HS := Lib.hid (fun a b c1 c2 w h1 h2 => same_true a b c1 c2 A (by omega) w h1 h2)
  clear HA
  cases q1 <;> cases q2 <;> cases q3 <;> first | (exact absurd hq (by decide)) | skip
  all_goals
    clear hq
    go_enter Try.func3, Try.ntmps3
    go_wp2_with fail
    refine (H1.out _).mono ?_
    rintro e w1 ⟨a1, c1, rfl, ht1, hb1⟩
    have HT1 := Lib.hid ht1
    have Hb1 := Lib.hid hb1
    clear ht1 hb1
    go_wp2_with fail
    refine (H2.out _).mono ?_
    rintro e w2 ⟨a2, c2, rfl, ht2, hb2⟩
    have HT2 := Lib.hid ht2
    have HT3 := Lib.hid (HT1.out.keep hb2)
    have Hb2 := Lib.hid (Hb1.out.trans (hb2.mono Hb1.out.size))
    clear ht2 hb2
    go_wp2_with fail
    refine (HS.out _ _ _ _ _ HT3.out HT2.out).mono ?_
    rintro e w3 ⟨rfl, hb3⟩
    have Hb3 := Lib.hid (Hb2.out.trans (hb3.mono Hb2.out.size))
    clear hb3
    go_wp2_with fail
    refine (HAW.out _).mono ?_
    rintro e w4 ⟨rfl, hb4⟩
    have Hb4 := Lib.hid (Hb3.out.trans (hb4.mono Hb3.out.size))
    clear hb4
    go_wp2
    go_ret
    exact ⟨rfl, Hb4.out⟩

/-- The whole law. -/
theorem scans_any (s : ByteArray) (hs : s.size ≤ 9223372036854775807) (w : World) :
    Calls Try.prog 3 #[.string s] w (fun e w' => e = .returned (.bool true) ∧ Below w.heap.size w w') := by
  by_cases h : (1500 < s.size ∧ s.size ≤ 4096) ∨ 8192 < s.size
  · exact scans_no awake_any s hs h w
  · refine scans_yes awake_any s _ _ _ rfl rfl rfl ?_ w
    rw [Bool.or_eq_false_iff, Bool.and_eq_false_iff]
    simp only [decide_eq_false_iff_not]
    omega
end Go.Proofs.Ytffcahhnaomegaa
