/- LexerScans: the tokens, the offset and the error of Scan are the reference's, for all texts. -/
import Derived.Test.YtffcahhnaomegaaDoorLw
namespace Go.Proofs.YtffcahhnaomegaaDoor
open Go.RowKit Go.Proofs.Lx

theorem scanF_len (f : Nat) (l : List UInt8) (k : Nat) (acc : List Tk) : (scanF f l k acc).1.length ≤ acc.length + l.length + 1 := by
  induction f generalizing l k acc with
  | zero => simp [scanF]
  | succ f ih =>
    rw [scanF]
    by_cases h0 : l = []
    · rw [if_pos h0]; simp
    rw [if_neg h0]
    by_cases h1 : stepE l ≠ 0
    · rw [if_pos h1]; simp
    rw [if_neg h1]
    refine Nat.le_trans (ih _ _ _) ?_
    have h2 := stepN_pos h0
    have h3 := stepN_le l
    have h4 : (Lx.stepT l k).length ≤ 1 := by
      cases l with
      | nil => exact absurd rfl h0
      | cons c r => simp only [Lx.stepT]; split; simp; split; simp; split; simp; split <;> simp
    rw [List.length_append, List.length_drop]; omega
theorem scanR_len (s : ByteArray) : (scanR (bl s)).1.length ≤ 4097 := by
  unfold scanR
  by_cases h : 4096 < (bl s).length
  · rw [if_pos h]; simp
  · rw [if_neg h]
    have := scanF_len ((bl s).length + 1) (bl s) 0 []
    simp at this h ⊢
    omega
theorem pscan_any (s : ByteArray) (w : World) : Calls Tryd.prog 5 #[.string s] w (GivesTk w (scanR (bl s))) := by
  have hl : (bl s).length = s.size := by simp
  unfold scanR
  by_cases h : 4096 < (bl s).length
  · rw [if_pos h]
    refine (pscan_long s (by omega) w).mono ?_
    rintro e w' ⟨rfl, rfl⟩
    exact ⟨none, 0, rfl, TkAt.nil _ _, Below.refl _ _⟩
  · rw [if_neg h, hl]
    exact pscan_ok s (by omega) w
end Go.Proofs.YtffcahhnaomegaaDoor
