/- Walks of the functions on texts: digits, checks, values of groups. -/
import Derived.Test.YtnfmcdfdbipeoaaGreatDoorQ04
import Derived.Test.YtnfmcdfdbipeoaaGreatDoorQ03
import Derived.Test.YtnfmcdfdbipeoaaGreatDoorQ00
import Derived.Deep.QuietTactic
import Derived.BigQuiet
import Derived.BigGuardPart
import Derived.WalkLawsBesides
import Derived.WalkSpells
import Derived.Outline
namespace Go.Proofs.YtnfmcdfdbipeoaaGreatDoor
open Go.RowKit Go.Proofs.Num

theorem take_succ_str (s : ByteArray) (k : Nat) (h : k < s.size) : s.data.toList.take (k + 1) = s.data.toList.take k ++ [s[k]] := by
  rw [List.take_succ_eq_append_getElem (by simpa using h)]; rfl

theorem mem_str (s : ByteArray) (k : Nat) (h : k < s.size) : s[k] ∈ s.data.toList := by
  have : s[k] = s.data.toList[k]'(by simpa using h) := rfl
  rw [this]; exact List.getElem_mem _

theorem okDig_no {l : List UInt8} {c : UInt8} (h : c ∈ l) (hc : isDig c = false) : okDig l = false := by
  cases h1 : l.all isDig with
  | false => simp [okDig, h1]
  | true => rw [List.all_eq_true] at h1; rw [h1 c h] at hc; cases hc

theorem size_toList (s : ByteArray) : s.data.toList.length = s.size := by simp

set_option maxHeartbeats 1600000 in
set_option maxRecDepth 100000 in
/-- value: at most nine digits. -/
theorem value_any (s : ByteArray) (w : World) (hs : s.size ≤ 9) (hd : ∀ c ∈ s.data.toList, isDig c = true) :
    Calls Tryz.prog 151 #[.string s] w fun e w' => e = .returned (.int .u64 ((dv s.data.toList : Nat) : Int)) ∧ w = w' := by
  go_enter Tryz.func151, Tryz.ntmps151
  go_wp2
  go_loop [3, 7] (fun v i => ∃ k : Nat, k ≤ s.size ∧ i = .int .i64 k ∧ v = .int .u64 ((dv (s.data.toList.take k) : Nat) : Int)) (fun _ i => s.size - (intOf i).toNat)
  case atStart => exact ⟨0, Nat.zero_le _, rfl, rfl⟩
  case round =>
    obtain ⟨k, hk, rfl, rfl⟩ := hrel
    have hlt9 : dv (s.data.toList.take k) < 1000000000 := by
      have h1 := dv_lt (s.data.toList.take k) (fun c hc => hd c (List.mem_of_mem_take hc))
      have h2 : 10 ^ (s.data.toList.take k).length ≤ 10 ^ 9 := Nat.pow_le_pow_right (by omega) (by rw [List.length_take, size_toList]; omega)
      omega
    by_cases hlt : k < s.size
    · have hb := dig_bound (hd s[k] (mem_str s k hlt))
      have hsn := dv_snoc (s.data.toList.take k) s[k]
      rw [← take_succ_str s k hlt] at hsn
      have HS := Lib.hid hsn
      obtain ⟨hb1, hb2⟩ := hb
      clear hsn hd
      go_wp2
      go_round
      case rel => exact ⟨k + 1, by omega, by go_num, by rw [HS.out]; go_num⟩
      case measure => simp [intOf]; omega
    · go_wp2
      go_ret
      exact ⟨by rw [show k = s.size by omega, ← size_toList, List.take_length]; rfl, rfl⟩

set_option maxHeartbeats 1600000 in
set_option maxRecDepth 100000 in
/-- allDigits -/
theorem allDigits_any (s : ByteArray) (w : World) (hs : s.size ≤ 9223372036854775807) :
    Calls Tryz.prog 122 #[.string s] w fun e w' => e = .returned (.bool (okDig s.data.toList)) ∧ w = w' := by
  go_enter Tryz.func122, Tryz.ntmps122
  go_wp2
  go_loop [6] (fun i => ∃ k : Nat, k ≤ s.size ∧ i = .int .i64 k ∧ (s.data.toList.take k).all isDig = true) (fun i => s.size - (intOf i).toNat)
  case atStart => exact ⟨0, Nat.zero_le _, rfl, rfl⟩
  case round =>
    obtain ⟨k, hk, rfl, hall⟩ := hrel
    have HA := Lib.hid hall
    clear hall
    by_cases hlt : k < s.size
    · have hts := take_succ_str s k hlt
      have HT := Lib.hid hts
      clear hts
      rcases (show s[k].toNat < 48 ∨ 57 < s[k].toNat ∨ (48 ≤ s[k].toNat ∧ s[k].toNat ≤ 57) by omega) with h | h | h
      · have hno : okDig s.data.toList = false := okDig_no (mem_str s k hlt) (by unfold isDig; simp; omega)
        have HN := Lib.hid hno
        have h' : ((s[k].toNat : Nat) : Int) < 48 := by omega
        clear hno h
        go_wp2
        go_ret
        exact ⟨by rw [HN.out]; rfl, rfl⟩
      · have hno : okDig s.data.toList = false := okDig_no (mem_str s k hlt) (by unfold isDig; simp; omega)
        have HN := Lib.hid hno
        have h' : 57 < ((s[k].toNat : Nat) : Int) := by omega
        clear hno h
        go_wp2
        go_ret
        exact ⟨by rw [HN.out]; rfl, rfl⟩
      · have hyes : isDig s[k] = true := by unfold isDig; simp; omega
        have HN := Lib.hid hyes
        obtain ⟨h1, h2⟩ := h
        clear hyes
        go_wp2
        go_round
        case rel => exact ⟨k + 1, by omega, by go_num, by rw [HT.out, List.all_append, HA.out]; simp [HN.out]⟩
        case measure => simp [intOf]; omega
    · have hk' : k = s.size := by omega
      have hall : s.data.toList.all isDig = true := by
        have := HA.out
        rwa [hk', ← size_toList, List.take_length] at this
      have HA2 := Lib.hid hall
      clear hk' hall HA
      go_wp2
      go_ret
      exact ⟨by rw [show okDig s.data.toList = !s.toList.isEmpty by unfold okDig; rw [HA2.out, Bool.true_and, Lib.toList_data]]; rfl, rfl⟩

/-- A string of bytes. -/
def str (l : List UInt8) : Value := .string ⟨l.toArray⟩

theorem body_length (l : List UInt8) : (body l).length ≤ l.length := by
  unfold body Lib.trimPrefix; split
  · rw [List.length_drop]; omega
  · exact Nat.le_refl _

theorem chk_three {l : List UInt8} (h : okDig (body l) = false ∨ ((body l).head? = some 48 ∧ l ≠ [48])) : chk l = 3 := by unfold chk; rw [if_pos h]
theorem chk_size {l : List UInt8} (h : ¬(okDig (body l) = false ∨ ((body l).head? = some 48 ∧ l ≠ [48]))) : chk l = if 1024 < (body l).length then 11 else 0 := by unfold chk; rw [if_neg h]

theorem head_str (d : ByteArray) (h : 0 < d.size) : d.data.toList.head? = some d[0] := by
  have e : d[0] = d.data.toList[0]'(by simpa using h) := rfl
  rw [e, List.head?_eq_getElem?, List.getElem?_eq_getElem]

set_option maxHeartbeats 3200000 in
set_option maxRecDepth 100000 in
/-- Check -/
theorem check_any (s : ByteArray) (w : World) (hs : s.size ≤ 9223372036854775807) :
    Calls Tryz.prog 84 #[.string s] w fun e w' => e = .returned (.int .i64 ((chk s.data.toList : Nat) : Int)) ∧ w = w' := by
  have hbl := body_length s.data.toList
  rw [size_toList] at hbl
  obtain ⟨d, hd⟩ : ∃ d : ByteArray, d = ⟨(body s.data.toList).toArray⟩ := ⟨_, rfl⟩
  have hdl : d.data.toList = body s.data.toList := by rw [hd]
  have hds : d.size ≤ 9223372036854775807 := by rw [← size_toList, hdl]; omega
  have HD := Lib.hid hd
  have HDL := Lib.hid hdl
  have HC1 : Hid (∀ t : ByteArray, (t.toList == [48]) = true ↔ t.data.toList = [48]) := fun t => by rw [Lib.toList_data]; simp
  clear hd hbl hdl
  -- which way the tests go
  by_cases hok : okDig d.data.toList = true
  · have h0 : 0 < d.size := by
      rcases Nat.eq_zero_or_pos d.size with h | h
      · have : d.data.toList = [] := by rw [← List.length_eq_zero_iff, size_toList]; exact h
        rw [this] at hok; cases hok
      · exact h
    have hh := head_str d h0
    rw [HDL.out] at hok hh
    by_cases h48 : d[0].toNat = 48
    · have h48' : d[0] = 48 := UInt8.toNat_inj.1 (by rw [h48]; rfl)
      rw [h48'] at hh
      have h48i : (((d[0].toNat : Nat) : Int) == 48) = true := by simp [h48]
      by_cases hz : s.data.toList = [48]
      · have hz' : (s.toList == [48]) = true := (HC1.out s).2 hz
        have hch := chk_size (l := s.data.toList) (by rw [hok]; simp [hz])
        rcases Nat.lt_or_ge 1024 d.size with hd1 | hd1
        · rw [if_pos (by rw [← HDL.out, size_toList]; omega)] at hch
          have HOK := Lib.hid hok
          have HCH := Lib.hid hch
          clear hok hch hh h48 h48' hz
          go_enter Tryz.func84, Tryz.ntmps84
          go_wp2_with (first
            | (go_at_call 121; refine (Tryz.strings_TrimPrefix s ⟨#[45]⟩ w).mono ?_; rintro e w' ⟨he, rfl⟩; rw [show e = .returned (.string d) from by rw [HD.out]; exact he])
            | (go_at_call 122; refine (allDigits_any _ _ hds).mono ?_; rintro e w' ⟨he, rfl⟩; rw [HDL.out, HOK.out] at he; subst he))
          go_ret
          exact ⟨by rw [HCH.out]; rfl, rfl⟩
        · rw [if_neg (by rw [← HDL.out, size_toList]; omega)] at hch
          have HOK := Lib.hid hok
          have HCH := Lib.hid hch
          clear hok hch hh h48 h48' hz
          go_enter Tryz.func84, Tryz.ntmps84
          go_wp2_with (first
            | (go_at_call 121; refine (Tryz.strings_TrimPrefix s ⟨#[45]⟩ w).mono ?_; rintro e w' ⟨he, rfl⟩; rw [show e = .returned (.string d) from by rw [HD.out]; exact he])
            | (go_at_call 122; refine (allDigits_any _ _ hds).mono ?_; rintro e w' ⟨he, rfl⟩; rw [HDL.out, HOK.out] at he; subst he))
          go_ret
          exact ⟨by rw [HCH.out]; rfl, rfl⟩
      · have hz' : (s.toList == [48]) = false := by
          cases h : (s.toList == [48]) with
          | false => rfl
          | true => exact absurd ((HC1.out s).1 h) hz
        have hch := chk_three (l := s.data.toList) (.inr ⟨hh, hz⟩)
        have HOK := Lib.hid hok
        have HCH := Lib.hid hch
        clear hok hch hh h48 h48' hz
        go_enter Tryz.func84, Tryz.ntmps84
        go_wp2_with (first
          | (go_at_call 121; refine (Tryz.strings_TrimPrefix s ⟨#[45]⟩ w).mono ?_; rintro e w' ⟨he, rfl⟩; rw [show e = .returned (.string d) from by rw [HD.out]; exact he])
          | (go_at_call 122; refine (allDigits_any _ _ hds).mono ?_; rintro e w' ⟨he, rfl⟩; rw [HDL.out, HOK.out] at he; subst he))
        go_ret
        exact ⟨by rw [HCH.out]; rfl, rfl⟩
    · have h48i : (((d[0].toNat : Nat) : Int) == 48) = false := by simp; omega
      have hch := chk_size (l := s.data.toList) (by
        rw [hok, hh]
        rintro (h | ⟨h, _⟩)
        · cases h
        · exact h48 (by rw [Option.some.inj h]; rfl))
      rcases Nat.lt_or_ge 1024 d.size with hd1 | hd1
      · rw [if_pos (by rw [← HDL.out, size_toList]; omega)] at hch
        have HOK := Lib.hid hok
        have HCH := Lib.hid hch
        clear hok hch hh h48
        go_enter Tryz.func84, Tryz.ntmps84
        go_wp2_with (first
          | (go_at_call 121; refine (Tryz.strings_TrimPrefix s ⟨#[45]⟩ w).mono ?_; rintro e w' ⟨he, rfl⟩; rw [show e = .returned (.string d) from by rw [HD.out]; exact he])
          | (go_at_call 122; refine (allDigits_any _ _ hds).mono ?_; rintro e w' ⟨he, rfl⟩; rw [HDL.out, HOK.out] at he; subst he))
        go_ret
        exact ⟨by rw [HCH.out]; rfl, rfl⟩
      · rw [if_neg (by rw [← HDL.out, size_toList]; omega)] at hch
        have HOK := Lib.hid hok
        have HCH := Lib.hid hch
        clear hok hch hh h48
        go_enter Tryz.func84, Tryz.ntmps84
        go_wp2_with (first
          | (go_at_call 121; refine (Tryz.strings_TrimPrefix s ⟨#[45]⟩ w).mono ?_; rintro e w' ⟨he, rfl⟩; rw [show e = .returned (.string d) from by rw [HD.out]; exact he])
          | (go_at_call 122; refine (allDigits_any _ _ hds).mono ?_; rintro e w' ⟨he, rfl⟩; rw [HDL.out, HOK.out] at he; subst he))
        go_ret
        exact ⟨by rw [HCH.out]; rfl, rfl⟩
  · have hok' : okDig d.data.toList = false := by simpa using hok
    rw [HDL.out] at hok'
    have hch := chk_three (l := s.data.toList) (.inl hok')
    have HOK := Lib.hid hok'
    have HCH := Lib.hid hch
    clear hok hok' hch
    go_enter Tryz.func84, Tryz.ntmps84
    go_wp2_with (first
      | (go_at_call 121; refine (Tryz.strings_TrimPrefix s ⟨#[45]⟩ w).mono ?_; rintro e w' ⟨he, rfl⟩; rw [show e = .returned (.string d) from by rw [HD.out]; exact he])
      | (go_at_call 122; refine (allDigits_any _ _ hds).mono ?_; rintro e w' ⟨he, rfl⟩; rw [HDL.out, HOK.out] at he; subst he))
    go_ret
    exact ⟨by rw [HCH.out]; rfl, rfl⟩
end Go.Proofs.YtnfmcdfdbipeoaaGreatDoor
