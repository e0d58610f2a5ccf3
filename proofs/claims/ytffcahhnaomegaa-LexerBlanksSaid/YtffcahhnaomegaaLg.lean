/- Walks of the reference's leaves: letters, digits, signs. -/
import Derived.Test.YtffcahhnaomegaaLe
namespace Go.Proofs.Ytffcahhnaomegaa
open Go.RowKit Go.Proofs.Lx
/-- All bytes have a property, and there are some. -/
def allB (p : UInt8 → Bool) (l : List UInt8) : Bool := l.all p && decide (0 < l.length)

theorem rlet_yes (c : UInt8) (h : isLet c = true) (w : World) : Calls Try.prog 50 #[.int .u8 c.toNat] w (fun e w' => e = .returned (.bool true) ∧ w = w') := by
  simp only [isLet, Bool.and_eq_true, decide_eq_true_eq] at h
  have h1 : (97 : Int) ≤ (c.toNat : Int) := by omega
  have h2 : (c.toNat : Int) ≤ 122 := by omega
  clear h
  go_enter Try.func50, Try.ntmps50
  go_wp2
  go_ret
  exact ⟨rfl, rfl⟩
theorem rlet_no (c : UInt8) (h : isLet c = false) (w : World) : Calls Try.prog 50 #[.int .u8 c.toNat] w (fun e w' => e = .returned (.bool false) ∧ w = w') := by
  have h0 : (c.toNat : Int) < 97 ∨ 97 ≤ (c.toNat : Int) ∧ 122 < (c.toNat : Int) := by
    simp only [isLet, Bool.and_eq_false_iff, decide_eq_false_iff_not] at h
    omega
  clear h
  rcases h0 with h1 | ⟨h1, h2⟩
  · go_enter Try.func50, Try.ntmps50
    go_wp2
    go_ret
    exact ⟨rfl, rfl⟩
  · have h3 : decide ((c.toNat : Int) ≤ 122) = false := decide_eq_false (by omega)
    clear h2
    go_enter Try.func50, Try.ntmps50
    go_wp2
    go_ret
    exact ⟨rfl, rfl⟩
theorem rlet_any (c : UInt8) (w : World) : Calls Try.prog 50 #[.int .u8 c.toNat] w (fun e w' => e = .returned (.bool (isLet c)) ∧ w = w') := by
  rcases h : isLet c with _ | _
  · exact rlet_no c h w
  · exact rlet_yes c h w

theorem rdig_yes (c : UInt8) (h : isDig c = true) (w : World) : Calls Try.prog 52 #[.int .u8 c.toNat] w (fun e w' => e = .returned (.bool true) ∧ w = w') := by
  simp only [isDig, Bool.and_eq_true, decide_eq_true_eq] at h
  have h1 : (48 : Int) ≤ (c.toNat : Int) := by omega
  have h2 : (c.toNat : Int) ≤ 57 := by omega
  clear h
  go_enter Try.func52, Try.ntmps52
  go_wp2
  go_ret
  exact ⟨rfl, rfl⟩
theorem rdig_no (c : UInt8) (h : isDig c = false) (w : World) : Calls Try.prog 52 #[.int .u8 c.toNat] w (fun e w' => e = .returned (.bool false) ∧ w = w') := by
  have h0 : (c.toNat : Int) < 48 ∨ 48 ≤ (c.toNat : Int) ∧ 57 < (c.toNat : Int) := by
    simp only [isDig, Bool.and_eq_false_iff, decide_eq_false_iff_not] at h
    omega
  clear h
  rcases h0 with h1 | ⟨h1, h2⟩
  · go_enter Try.func52, Try.ntmps52
    go_wp2
    go_ret
    exact ⟨rfl, rfl⟩
  · have h3 : decide ((c.toNat : Int) ≤ 57) = false := decide_eq_false (by omega)
    clear h2
    go_enter Try.func52, Try.ntmps52
    go_wp2
    go_ret
    exact ⟨rfl, rfl⟩
theorem rdig_any (c : UInt8) (w : World) : Calls Try.prog 52 #[.int .u8 c.toNat] w (fun e w' => e = .returned (.bool (isDig c)) ∧ w = w') := by
  rcases h : isDig c with _ | _
  · exact rdig_no c h w
  · exact rdig_yes c h w

theorem all_upto {p : UInt8 → Bool} {l : List UInt8} {k : Nat} (hk : k < l.length) : (l.take (k + 1)).all p = ((l.take k).all p && p l[k]) := by
  rw [List.take_succ_eq_append_getElem hk, List.all_append]; simp

set_option maxHeartbeats 3200000 in
set_option maxRecDepth 100000 in
theorem letters_any (s : ByteArray) (hs : s.size ≤ 4611686018427387904) (w : World) :
    Calls Try.prog 69 #[.string s] w (fun e w' => e = .returned (.bool (allB isLet (bl s))) ∧ w = w') := by
  go_enter Try.func69, Try.ntmps69
  go_wp2
  go_loop [3] (fun v => ∃ j : Nat, j ≤ s.size ∧ v = .int .i64 j ∧ Hid (((bl s).take j).all isLet = true)) (fun v => s.size - (intOf v).toNat)
  case atStart => exact ⟨0, by omega, rfl, Lib.hid rfl⟩
  case round =>
    obtain ⟨j, hj, rfl, HE⟩ := hrel
    by_cases hlt : j < s.size
    · have hl : j < (bl s).length := by simpa using hlt
      rcases hc : isLet s[j] with _ | _
      · have HC := Lib.hid (fun w => rlet_no s[j] hc w)
        have HN : Hid (allB isLet (bl s) = false) := by
          refine Lib.hid ?_
          unfold allB
          rw [Bool.and_eq_false_iff]
          left
          rw [List.all_eq_false]
          exact ⟨s[j], List.getElem_mem hl, by rw [hc]; simp⟩
        clear hc
        go_wp2_with fail
        refine (HC.out _).mono ?_
        rintro e w1 ⟨rfl, rfl⟩
        go_wp2
        go_ret
        exact ⟨by rw [HN.out]; rfl, rfl⟩
      · have HC := Lib.hid (fun w => rlet_yes s[j] hc w)
        have HN : Hid (((bl s).take (j + 1)).all isLet = true) := by
          refine Lib.hid ?_
          rw [all_upto hl, HE.out]
          exact hc
        clear hc
        go_wp2_with fail
        refine (HC.out _).mono ?_
        rintro e w1 ⟨rfl, rfl⟩
        go_wp2
        go_round
        case rel => exact ⟨j + 1, by omega, by go_num, HN⟩
        case measure => simp [intOf]; omega
    · obtain rfl : j = s.size := by omega
      have HN : Hid (allB isLet (bl s) = decide (0 < s.size)) := by
        refine Lib.hid ?_
        have := HE.out
        rw [List.take_of_length_le (by simp)] at this
        unfold allB
        rw [this, Bool.true_and]
        simp
      clear HE
      go_wp2
      go_ret
      exact ⟨by rw [HN.out]; rfl, rfl⟩

set_option maxHeartbeats 3200000 in
set_option maxRecDepth 100000 in
theorem digits_any (s : ByteArray) (hs : s.size ≤ 4611686018427387904) (w : World) :
    Calls Try.prog 70 #[.string s] w (fun e w' => e = .returned (.bool (allB isDig (bl s))) ∧ w = w') := by
  go_enter Try.func70, Try.ntmps70
  go_wp2
  go_loop [3] (fun v => ∃ j : Nat, j ≤ s.size ∧ v = .int .i64 j ∧ Hid (((bl s).take j).all isDig = true)) (fun v => s.size - (intOf v).toNat)
  case atStart => exact ⟨0, by omega, rfl, Lib.hid rfl⟩
  case round =>
    obtain ⟨j, hj, rfl, HE⟩ := hrel
    by_cases hlt : j < s.size
    · have hl : j < (bl s).length := by simpa using hlt
      rcases hc : isDig s[j] with _ | _
      · have HC := Lib.hid (fun w => rdig_no s[j] hc w)
        have HN : Hid (allB isDig (bl s) = false) := by
          refine Lib.hid ?_
          unfold allB
          rw [Bool.and_eq_false_iff]
          left
          rw [List.all_eq_false]
          exact ⟨s[j], List.getElem_mem hl, by rw [hc]; simp⟩
        clear hc
        go_wp2_with fail
        refine (HC.out _).mono ?_
        rintro e w1 ⟨rfl, rfl⟩
        go_wp2
        go_ret
        exact ⟨by rw [HN.out]; rfl, rfl⟩
      · have HC := Lib.hid (fun w => rdig_yes s[j] hc w)
        have HN : Hid (((bl s).take (j + 1)).all isDig = true) := by
          refine Lib.hid ?_
          rw [all_upto hl, HE.out]
          exact hc
        clear hc
        go_wp2_with fail
        refine (HC.out _).mono ?_
        rintro e w1 ⟨rfl, rfl⟩
        go_wp2
        go_round
        case rel => exact ⟨j + 1, by omega, by go_num, HN⟩
        case measure => simp [intOf]; omega
    · obtain rfl : j = s.size := by omega
      have HN : Hid (allB isDig (bl s) = decide (0 < s.size)) := by
        refine Lib.hid ?_
        have := HE.out
        rw [List.take_of_length_le (by simp)] at this
        unfold allB
        rw [this, Bool.true_and]
        simp
      clear HE
      go_wp2
      go_ret
      exact ⟨by rw [HN.out]; rfl, rfl⟩

theorem sb_index (j : Nat) (hp : j < SB.size) (w : World) : (Instr.index 9 (.string ⟨#[44, 59, 58, 40, 41, 123, 125, 91, 93, 61, 43, 45, 42, 47, 60, 62, 46]⟩) (.int .i64 (j : Nat))).run Try.prog w = .ok (.int .u8 (((SB[j]'hp).toNat : Nat) : Int)) w := by
  have hj : j < 17 := hp
  have h := @run_index_string Try.prog w 9 SB .i64 (j : Nat) Try.underlying9
  refine h.trans ?_
  have h1 : (0 : Int) ≤ ((j : Nat) : Int) := by omega
  have h2 : ((j : Nat) : Int) < ((SB.size : Nat) : Int) := by show ((j : Nat) : Int) < 17; omega
  simp [h1, hp]
set_option maxHeartbeats 3200000 in
set_option maxRecDepth 100000 in
theorem sign_any (c : UInt8) (w : World) : Calls Try.prog 48 #[.int .u8 c.toNat] w (fun e w' => e = .returned (.bool (isSig c)) ∧ w = w') := by
  have hc : (c.toNat : Int) < 256 := by have := c.toNat_lt; omega
  go_enter Try.func48, Try.ntmps48
  go_wp2
  go_loop [4] (fun v => ∃ j : Nat, j ≤ 17 ∧ v = .int .i64 j ∧ Hid (∀ m, m < j → sigs.getD m 0 ≠ c)) (fun v => 17 - (intOf v).toNat)
  case atStart => exact ⟨0, by omega, rfl, Lib.hid (fun m h => by omega)⟩
  case round =>
    obtain ⟨j, hj, rfl, HE⟩ := hrel
    by_cases hlt : j < 17
    · have hp : j < SB.size := hlt
      have hv : Hid (SB[j]'hp = sigs.getD j 0) := Lib.hid (UInt8.toNat_inj.1 (sb_sigs j hlt))
      have hx : (((SB[j]'hp).toNat : Nat) : Int) < 256 := by have := (SB[j]'hp).toNat_lt; omega
      rcases Classical.em (sigs.getD j 0 = c) with e | e
      · have HN : Hid (isSig c = true) := by
          refine Lib.hid ?_
          unfold isSig
          rw [List.contains_iff_mem, ← e, List.getD_eq_getElem?_getD, List.getElem?_eq_getElem (by exact hlt)]
          exact List.getElem_mem _
        have hq : (((SB[j]'hp).toNat : Int) == (c.toNat : Int)) = true := by rw [hv.out, e]; simp
        have hs : ∀ w, (Instr.index 9 (.string ⟨#[44, 59, 58, 40, 41, 123, 125, 91, 93, 61, 43, 45, 42, 47, 60, 62, 46]⟩) (.int .i64 (j : Nat))).run Try.prog w = .ok (.int .u8 (((SB[j]'hp).toNat : Nat) : Int)) w := fun w => sb_index j hp w
        clear hv e
        generalize (SB[j]'hp).toNat = x at *
        go_wp2
        go_ret
        exact ⟨by rw [HN.out]; rfl, rfl⟩
      · have hq : (((SB[j]'hp).toNat : Int) == (c.toNat : Int)) = false := by
          rw [beq_eq_false_iff_ne, hv.out]
          intro h
          exact e (UInt8.toNat_inj.1 (by omega))
        have HN : Hid (∀ m, m < j + 1 → sigs.getD m 0 ≠ c) := by
          refine Lib.hid fun m hm => ?_
          rcases Nat.lt_or_ge m j with h1 | h1
          · exact HE.out m h1
          · obtain rfl : m = j := by omega
            exact e
        have hs : ∀ w, (Instr.index 9 (.string ⟨#[44, 59, 58, 40, 41, 123, 125, 91, 93, 61, 43, 45, 42, 47, 60, 62, 46]⟩) (.int .i64 (j : Nat))).run Try.prog w = .ok (.int .u8 (((SB[j]'hp).toNat : Nat) : Int)) w := fun w => sb_index j hp w
        clear hv e
        generalize (SB[j]'hp).toNat = x at *
        go_wp2
        go_round
        case rel => exact ⟨j + 1, by omega, by go_num, HN⟩
        case measure => simp [intOf]; omega
    · obtain rfl : j = 17 := by omega
      have HN : Hid (isSig c = false) := by
        refine Lib.hid ?_
        rcases h : isSig c with _ | _
        · rfl
        · obtain ⟨m, hm, e⟩ := sig_place c h
          exact absurd e (HE.out m hm)
      go_wp2
      go_ret
      exact ⟨by rw [HN.out]; rfl, rfl⟩
end Go.Proofs.Ytffcahhnaomegaa
