/- Walks of the reference: Check. -/
import Derived.Test.YtnfmcdfdbipeoaaGreatDoorQ05
import Derived.WalkKit
namespace Go.Proofs.YtnfmcdfdbipeoaaGreatDoor
open Go.RowKit Go.Proofs.Num

theorem body_no (l : List UInt8) (h : l.head? ≠ some 45) : body l = l := by
  unfold body Lib.trimPrefix
  rw [hasPrefix_one, if_neg (by simpa using h)]

theorem body_yes (l : List UInt8) (h : l.head? = some 45) : body l = l.drop 1 := by
  unfold body Lib.trimPrefix
  rw [hasPrefix_one, if_pos (by simpa using h)]; rfl

set_option maxHeartbeats 3200000 in
set_option maxRecDepth 100000 in
/-- Without a sign. -/
theorem rcheck_no (s : ByteArray) (w : World) (hs : s.size ≤ 9223372036854775807) (h45 : s.data.toList.head? ≠ some 45) :
    Calls Tryz.prog 44 #[.string s] w fun e w' => e = .returned (.int .i64 ((chk s.data.toList : Nat) : Int)) ∧ w = w' := by
  have HDL := Lib.hid (body_no _ h45).symm
  rcases Nat.eq_zero_or_pos s.size with h0 | hpos
  · have hnil : s.data.toList = [] := by rw [← List.length_eq_zero_iff, size_toList]; exact h0
    have HCH := Lib.hid (chk_three (l := s.data.toList) (.inl (by rw [hnil]; rfl)))
    clear hnil h45
    go_enter Tryz.func44, Tryz.ntmps44
    go_wp2
    go_ret
    exact ⟨by rw [HCH.out]; rfl, rfl⟩
  · have hh := head_str s hpos
    have hn45 : s[0].toNat ≠ 45 := by
      intro h; rw [hh] at h45; exact h45 (by rw [UInt8.toNat_inj.1 (show s[0].toNat = (45 : UInt8).toNat by rw [h]; rfl)])
    have hn45i : (((s[0].toNat : Nat) : Int) == 45) = false := by simp; omega
    by_cases h48 : s[0].toNat = 48
    · have h48' : s[0] = 48 := UInt8.toNat_inj.1 (by rw [h48]; rfl)
      rw [h48'] at hh
      have h48i : (((s[0].toNat : Nat) : Int) == 48) = true := by simp [h48]
      rcases Nat.lt_or_ge 1 s.size with h1 | h1
      · have HCH := Lib.hid (chk_three (l := s.data.toList) (.inr ⟨by rw [← HDL.out]; exact hh, by intro e; rw [← size_toList, e] at h1; simp at h1⟩))
        clear hh h45 h48 h48' hn45
        go_enter Tryz.func44, Tryz.ntmps44
        go_wp2
        go_ret
        exact ⟨by rw [HCH.out]; rfl, rfl⟩
      · have HLEAD : Hid (¬(true = false ∨ (s.data.toList.head? = some 48 ∧ s.data.toList ≠ [48]))) := by
          unfold Hid
          have hone : s.data.toList = [48] := by
            have hl : s.data.toList.length = 1 := by rw [size_toList]; omega
            obtain ⟨x, hx⟩ := List.length_eq_one_iff.1 hl
            rw [hx] at hh ⊢
            simp at hh; rw [hh]
          rw [hone]; simp
        clear hh h45 h48 h48' hn45
        have hz0 : (((s.size : Nat) : Int) == 0) = false := beq_eq_false_iff_ne.2 (by omega)
        have hz1 : decide (1 < ((s.size : Nat) : Int)) = false := by simp; omega
        go_enter Tryz.func44, Tryz.ntmps44
        go_wp2
        go_loop [4] (fun i => ∃ k : Nat, k ≤ s.size ∧ i = .int .i64 k ∧ (s.data.toList.take k).all isDig = true) (fun i => s.size - (intOf i).toNat)
        case atStart => exact ⟨0, Nat.zero_le _, rfl, rfl⟩
        case round =>
          obtain ⟨k, hk, rfl, hall⟩ := hrel
          have HA := Lib.hid hall
          clear hall
          by_cases hlt : k < s.size
          · have hts := take_succ_str s k hlt
            have HT := Lib.hid hts
            clear hts
            rcases (show s[k].toNat < 48 ∨ 57 < s[k].toNat ∨ (48 ≤ s[k].toNat ∧ s[k].toNat ≤ 57) by omega) with h | h | h
            · have hno : okDig s.data.toList = false := okDig_no (mem_str s k hlt) (by unfold isDig; simp; omega)
              have HN := Lib.hid (chk_three (l := s.data.toList) (.inl (by rw [← HDL.out]; exact hno)))
              have h' : ((s[k].toNat : Nat) : Int) < 48 := by omega
              clear hno h
              go_wp2
              go_ret
              exact ⟨by rw [HN.out]; rfl, rfl⟩
            · have hno : okDig s.data.toList = false := okDig_no (mem_str s k hlt) (by unfold isDig; simp; omega)
              have HN := Lib.hid (chk_three (l := s.data.toList) (.inl (by rw [← HDL.out]; exact hno)))
              have h' : 57 < ((s[k].toNat : Nat) : Int) := by omega
              clear hno h
              go_wp2
              go_ret
              exact ⟨by rw [HN.out]; rfl, rfl⟩
            · have hyes : isDig s[k] = true := by unfold isDig; simp; omega
              have HN := Lib.hid hyes
              obtain ⟨h1, h2⟩ := h
              clear hyes
              go_wp2
              go_round
              case rel => exact ⟨k + 1, by omega, by go_num, by rw [HT.out, List.all_append, HA.out]; simp [HN.out]⟩
              case measure => simp [intOf]; omega
          · have hall : s.data.toList.all isDig = true := by
              have := HA.out
              rwa [show k = s.size by omega, ← size_toList, List.take_length] at this
            have hok : okDig s.data.toList = true := by
              unfold okDig; rw [hall, Bool.true_and]
              cases hl : s.data.toList with
              | nil => rw [← size_toList, hl] at hpos; simp at hpos
              | cons x xs => rfl
            have hch := chk_size (l := s.data.toList) (by rw [← HDL.out, hok]; exact HLEAD.out)
            rcases Nat.lt_or_ge 1024 s.size with hd1 | hd1
            · rw [if_pos (by rw [← HDL.out, size_toList]; omega)] at hch
              have HCH := Lib.hid hch
              clear hch hall hok HA
              go_wp2
              all_goals go_ret
              all_goals exact ⟨by rw [HCH.out]; rfl, rfl⟩
            · rw [if_neg (by rw [← HDL.out, size_toList]; omega)] at hch
              have HCH := Lib.hid hch
              clear hch hall hok HA
              go_wp2
              all_goals go_ret
              all_goals exact ⟨by rw [HCH.out]; rfl, rfl⟩
    · have h48i : (((s[0].toNat : Nat) : Int) == 48) = false := by simp; omega
      have HLEAD : Hid (¬(true = false ∨ (s.data.toList.head? = some 48 ∧ s.data.toList ≠ [48]))) := by
        unfold Hid
        rintro (h | ⟨h, _⟩)
        · cases h
        · rw [hh] at h; exact h48 (by rw [Option.some.inj h]; rfl)
      clear hh h45 h48 hn45
      go_enter Tryz.func44, Tryz.ntmps44
      go_wp2
      go_loop [4] (fun i => ∃ k : Nat, k ≤ s.size ∧ i = .int .i64 k ∧ (s.data.toList.take k).all isDig = true) (fun i => s.size - (intOf i).toNat)
      case atStart => exact ⟨0, Nat.zero_le _, rfl, rfl⟩
      case round =>
        obtain ⟨k, hk, rfl, hall⟩ := hrel
        have HA := Lib.hid hall
        clear hall
        by_cases hlt : k < s.size
        · have hts := take_succ_str s k hlt
          have HT := Lib.hid hts
          clear hts
          rcases (show s[k].toNat < 48 ∨ 57 < s[k].toNat ∨ (48 ≤ s[k].toNat ∧ s[k].toNat ≤ 57) by omega) with h | h | h
          · have hno : okDig s.data.toList = false := okDig_no (mem_str s k hlt) (by unfold isDig; simp; omega)
            have HN := Lib.hid (chk_three (l := s.data.toList) (.inl (by rw [← HDL.out]; exact hno)))
            have h' : ((s[k].toNat : Nat) : Int) < 48 := by omega
            clear hno h
            go_wp2
            go_ret
            exact ⟨by rw [HN.out]; rfl, rfl⟩
          · have hno : okDig s.data.toList = false := okDig_no (mem_str s k hlt) (by unfold isDig; simp; omega)
            have HN := Lib.hid (chk_three (l := s.data.toList) (.inl (by rw [← HDL.out]; exact hno)))
            have h' : 57 < ((s[k].toNat : Nat) : Int) := by omega
            clear hno h
            go_wp2
            go_ret
            exact ⟨by rw [HN.out]; rfl, rfl⟩
          · have hyes : isDig s[k] = true := by unfold isDig; simp; omega
            have HN := Lib.hid hyes
            obtain ⟨h1, h2⟩ := h
            clear hyes
            go_wp2
            go_round
            case rel => exact ⟨k + 1, by omega, by go_num, by rw [HT.out, List.all_append, HA.out]; simp [HN.out]⟩
            case measure => simp [intOf]; omega
        · have hall : s.data.toList.all isDig = true := by
            have := HA.out
            rwa [show k = s.size by omega, ← size_toList, List.take_length] at this
          have hok : okDig s.data.toList = true := by
            unfold okDig; rw [hall, Bool.true_and]
            cases hl : s.data.toList with
            | nil => rw [← size_toList, hl] at hpos; simp at hpos
            | cons x xs => rfl
          have hch := chk_size (l := s.data.toList) (by rw [← HDL.out, hok]; exact HLEAD.out)
          rcases Nat.lt_or_ge 1024 s.size with hd1 | hd1
          · rw [if_pos (by rw [← HDL.out, size_toList]; omega)] at hch
            have HCH := Lib.hid hch
            clear hch hall hok HA
            go_wp2
            all_goals go_ret
            all_goals exact ⟨by rw [HCH.out]; rfl, rfl⟩
          · rw [if_neg (by rw [← HDL.out, size_toList]; omega)] at hch
            have HCH := Lib.hid hch
            clear hch hall hok HA
            go_wp2
            all_goals go_ret
            all_goals exact ⟨by rw [HCH.out]; rfl, rfl⟩
set_option maxHeartbeats 3200000 in
set_option maxRecDepth 100000 in
/-- With a sign. -/
theorem rcheck_yes (s d : ByteArray) (w : World) (hs : s.size ≤ 9223372036854775807) (hsp : 0 < s.size) (h45 : s[0].toNat = 45) (hd : s.extract 1 s.size = d) (HDL : Hid (d.data.toList = body s.data.toList)) :
    Calls Tryz.prog 44 #[.string s] w fun e w' => e = .returned (.int .i64 ((chk s.data.toList : Nat) : Int)) ∧ w = w' := by
  have h45i : (((s[0].toNat : Nat) : Int) == 45) = true := by simp [h45]
  have hne : s.data.toList ≠ [48] := by
    intro e
    have := head_str s hsp
    rw [e] at this
    simp at this
    rw [← this] at h45; cases h45
  have hds : d.size + 1 = s.size := by
    rw [← hd, ByteArray.size_extract]; omega
  have HC1 : Hid (∀ t : ByteArray, (t.toList == [48]) = true ↔ t.data.toList = [48]) := fun t => by rw [Lib.toList_data]; simp
  rcases Nat.eq_zero_or_pos d.size with h0 | hpos
  · have hnil : d.data.toList = [] := by rw [← List.length_eq_zero_iff, size_toList]; exact h0
    have HCH := Lib.hid (chk_three (l := s.data.toList) (.inl (by rw [← HDL.out, hnil]; rfl)))
    have hn : (d.toList == [48]) = false := by rw [Lib.toList_data, hnil]; rfl
    clear hnil h45 hne
    go_enter Tryz.func44, Tryz.ntmps44
    go_wp2
    go_ret
    exact ⟨by rw [HCH.out]; rfl, rfl⟩
  · have hh := head_str d hpos
    by_cases h48 : d[0].toNat = 48
    · have h48' : d[0] = 48 := UInt8.toNat_inj.1 (by rw [h48]; rfl)
      rw [h48'] at hh
      have h48i : (((d[0].toNat : Nat) : Int) == 48) = true := by simp [h48]
      have HCH := Lib.hid (chk_three (l := s.data.toList) (.inr ⟨by rw [← HDL.out]; exact hh, hne⟩))
      by_cases hz : d.data.toList = [48]
      · have hz' : (d.toList == [48]) = true := (HC1.out d).2 hz
        clear hh h45 h48 h48' hne hz
        go_enter Tryz.func44, Tryz.ntmps44
        go_wp2
        go_ret
        exact ⟨by rw [HCH.out]; rfl, rfl⟩
      · have hz' : (d.toList == [48]) = false := by
          cases h : (d.toList == [48]) with
          | false => rfl
          | true => exact absurd ((HC1.out d).1 h) hz
        have h1 : 1 < d.size := by
          rcases Nat.lt_or_ge 1 d.size with h | h
          · exact h
          · exfalso; apply hz
            have hl : d.data.toList.length = 1 := by rw [size_toList]; omega
            obtain ⟨x, hx⟩ := List.length_eq_one_iff.1 hl
            rw [hx] at hh ⊢
            simp at hh; rw [hh]
        have hg : decide (1 < ((d.size : Nat) : Int)) = true := by simp; omega
        clear hh h45 h48 h48' hne hz
        go_enter Tryz.func44, Tryz.ntmps44
        go_wp2
        all_goals (go_ret; exact ⟨by rw [HCH.out]; rfl, rfl⟩)
    · have h48i : (((d[0].toNat : Nat) : Int) == 48) = false := by simp; omega
      have hz' : (d.toList == [48]) = false := by
        cases h : (d.toList == [48]) with
        | false => rfl
        | true =>
          have := (HC1.out d).1 h
          rw [this] at hh; simp at hh; rw [← hh] at h48; exact absurd rfl h48
      have HLEAD : Hid (¬(true = false ∨ (d.data.toList.head? = some 48 ∧ s.data.toList ≠ [48]))) := by
        unfold Hid
        rintro (h | ⟨h, _⟩)
        · cases h
        · rw [hh] at h; exact h48 (by rw [Option.some.inj h]; rfl)
      have hz0 : (((d.size : Nat) : Int) == 0) = false := beq_eq_false_iff_ne.2 (by omega)
      clear hh h45 h48 hne
      go_enter Tryz.func44, Tryz.ntmps44
      go_wp2
      go_loop [4] (fun i => ∃ k : Nat, k ≤ d.size ∧ i = .int .i64 k ∧ (d.data.toList.take k).all isDig = true) (fun i => d.size - (intOf i).toNat)
      case atStart => exact ⟨0, Nat.zero_le _, rfl, rfl⟩
      case round =>
        obtain ⟨k, hk, rfl, hall⟩ := hrel
        have HA := Lib.hid hall
        clear hall
        by_cases hlt : k < d.size
        · have hts := take_succ_str d k hlt
          have HT := Lib.hid hts
          clear hts
          rcases (show d[k].toNat < 48 ∨ 57 < d[k].toNat ∨ (48 ≤ d[k].toNat ∧ d[k].toNat ≤ 57) by omega) with h | h | h
          · have hno : okDig d.data.toList = false := okDig_no (mem_str d k hlt) (by unfold isDig; simp; omega)
            have HN := Lib.hid (chk_three (l := s.data.toList) (.inl (by rw [← HDL.out]; exact hno)))
            have h' : ((d[k].toNat : Nat) : Int) < 48 := by omega
            clear hno h
            go_wp2
            go_ret
            exact ⟨by rw [HN.out]; rfl, rfl⟩
          · have hno : okDig d.data.toList = false := okDig_no (mem_str d k hlt) (by unfold isDig; simp; omega)
            have HN := Lib.hid (chk_three (l := s.data.toList) (.inl (by rw [← HDL.out]; exact hno)))
            have h' : 57 < ((d[k].toNat : Nat) : Int) := by omega
            clear hno h
            go_wp2
            go_ret
            exact ⟨by rw [HN.out]; rfl, rfl⟩
          · have hyes : isDig d[k] = true := by unfold isDig; simp; omega
            have HN := Lib.hid hyes
            obtain ⟨h1, h2⟩ := h
            clear hyes
            go_wp2
            go_round
            case rel => exact ⟨k + 1, by omega, by go_num, by rw [HT.out, List.all_append, HA.out]; simp [HN.out]⟩
            case measure => simp [intOf]; omega
        · have hall : d.data.toList.all isDig = true := by
            have := HA.out
            rwa [show k = d.size by omega, ← size_toList, List.take_length] at this
          have hok : okDig d.data.toList = true := by
            unfold okDig; rw [hall, Bool.true_and]
            cases hl : d.data.toList with
            | nil => rw [← size_toList, hl] at hpos; simp at hpos
            | cons x xs => rfl
          have hch := chk_size (l := s.data.toList) (by rw [← HDL.out, hok]; exact HLEAD.out)
          rcases Nat.lt_or_ge 1024 d.size with hd1 | hd1
          · rw [if_pos (by rw [← HDL.out, size_toList]; omega)] at hch
            have HCH := Lib.hid hch
            clear hch hall hok HA
            go_wp2
            all_goals go_ret
            all_goals exact ⟨by rw [HCH.out]; rfl, rfl⟩
          · rw [if_neg (by rw [← HDL.out, size_toList]; omega)] at hch
            have HCH := Lib.hid hch
            clear hch hall hok HA
            go_wp2
            all_goals go_ret
            all_goals exact ⟨by rw [HCH.out]; rfl, rfl⟩

/-- The reference's Check is the program's. -/
theorem rcheck_any (s : ByteArray) (w : World) (hs : s.size ≤ 9223372036854775807) :
    Calls Tryz.prog 44 #[.string s] w fun e w' => e = .returned (.int .i64 ((chk s.data.toList : Nat) : Int)) ∧ w = w' := by
  by_cases h : s.data.toList.head? = some 45
  · have hp : 0 < s.size := by
      rcases Nat.eq_zero_or_pos s.size with h0 | h0
      · have : s.data.toList = [] := by rw [← List.length_eq_zero_iff, size_toList]; exact h0
        rw [this] at h; cases h
      · exact h0
    refine rcheck_yes s (s.extract 1 s.size) w hs hp ?_ rfl ?_
    · rw [head_str s hp] at h; rw [Option.some.inj h]; rfl
    · show _ = _
      rw [body_yes _ h, Lib.extract_data, ← size_toList]
      exact List.take_of_length_le (by rw [List.length_drop]; exact Nat.le_refl _)
  · exact rcheck_no s w hs h

end Go.Proofs.YtnfmcdfdbipeoaaGreatDoor
