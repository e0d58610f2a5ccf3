/- The program's tests of single tokens: words, numbers, signs. -/
import Derived.Test.YtffcahhnaomegaaDoorLp
import Derived.Test.YtffcahhnaomegaaDoorShelf
namespace Go.Proofs.YtffcahhnaomegaaDoor
open Go.RowKit Go.Proofs.Lx

set_option maxHeartbeats 3200000 in
set_option maxRecDepth 100000 in
theorem isRun_dig (s : ByteArray) (hs : s.size ≤ 4611686018427387904) (w : World) :
    Calls Tryd.prog 50 #[.string s, (.func (.func 46) #[] #[])] w (fun e w' => e = .returned (.bool (allB isDig (bl s))) ∧ w = w') := by
  have HR := Lib.hid (fun w => runEnd_dig s 0 (by omega) hs w)
  have hle := runTo_le' isDig s 0 (by omega)
  have hA : Hid (allB isDig (bl s) = decide (0 < s.size ∧ runTo isDig (bl s) 0 = s.size)) := Lib.hid (allB_runTo isDig s)
  generalize runTo isDig (bl s) 0 = m at *
  generalize allB isDig (bl s) = A at *
  by_cases h0 : s.size = 0
  · have he : s.toList = [] := size0_toList s h0
    have hA' : Hid (A = false) := Lib.hid (by rw [hA.out]; simp [h0])
    clear hA
    go_enter Tryd.func50, Tryd.ntmps50
    go_wp2
    go_ret
    exact ⟨by rw [hA'.out]; rfl, rfl⟩
  · have he : ¬ s.toList = [] := size_toList_ne s h0
    have he2 : s.toList.isEmpty = false := by simp [he]
    by_cases h1 : m = s.size
    · have hd : ((m : Int) == (s.size : Int)) = true := by rw [h1]; simp
      have hA' : Hid (A = true) := Lib.hid (by rw [hA.out]; simp [h1]; omega)
      clear hA h1
      go_enter Tryd.func50, Tryd.ntmps50
      go_wp2_with fail
      refine (HR.out _).mono ?_
      rintro e w1 ⟨rfl, rfl⟩
      go_wp2
      go_ret
      exact ⟨by rw [hA'.out]; rfl, rfl⟩
    · have hd : ((m : Int) == (s.size : Int)) = false := by rw [beq_eq_false_iff_ne]; omega
      have hA' : Hid (A = false) := Lib.hid (by rw [hA.out]; simp [h1])
      clear hA h1
      go_enter Tryd.func50, Tryd.ntmps50
      go_wp2_with fail
      refine (HR.out _).mono ?_
      rintro e w1 ⟨rfl, rfl⟩
      go_wp2
      go_ret
      exact ⟨by rw [hA'.out]; rfl, rfl⟩
set_option maxHeartbeats 3200000 in
set_option maxRecDepth 100000 in
theorem pword_any (s : ByteArray) (hs : s.size ≤ 4611686018427387904) (w : World) :
    Calls Tryd.prog 35 #[.string s] w (fun e w' => e = .returned (.int .i64 (wordE (bl s) : Nat)) ∧ w = w') := by
  have H := Lib.hid (fun w => isRun_let s hs w)
  have hE : Hid (wordE (bl s) = if allB isLet (bl s) then (if 24 < s.size then 19 else 0) else 3) := Lib.hid (by unfold wordE; simp)
  generalize wordE (bl s) = E at *
  rcases hq : allB isLet (bl s) with _ | _
  · rw [hq] at H hE
    have hE' : Hid (E = 3) := Lib.hid (by rw [hE.out]; rfl)
    clear hE hq
    go_enter Tryd.func35, Tryd.ntmps35
    go_wp2_with fail
    refine (H.out _).mono ?_
    rintro e w1 ⟨rfl, rfl⟩
    go_wp2
    go_ret
    exact ⟨by rw [hE'.out]; rfl, rfl⟩
  · rw [hq] at H hE
    by_cases h24 : 24 < s.size
    · have hE' : Hid (E = 19) := Lib.hid (by rw [hE.out, if_pos rfl, if_pos h24])
      have hd : decide (24 < (s.size : Int)) = true := decide_eq_true (by omega)
      clear hE hq h24
      go_enter Tryd.func35, Tryd.ntmps35
      go_wp2_with fail
      refine (H.out _).mono ?_
      rintro e w1 ⟨rfl, rfl⟩
      go_wp2
      go_ret
      exact ⟨by rw [hE'.out]; rfl, rfl⟩
    · have hE' : Hid (E = 0) := Lib.hid (by rw [hE.out, if_pos rfl, if_neg h24])
      have hd : decide (24 < (s.size : Int)) = false := decide_eq_false (by omega)
      clear hE hq h24
      go_enter Tryd.func35, Tryd.ntmps35
      go_wp2_with fail
      refine (H.out _).mono ?_
      rintro e w1 ⟨rfl, rfl⟩
      go_wp2
      go_ret
      exact ⟨by rw [hE'.out]; rfl, rfl⟩

/-- A natural number, of any length. -/
def numB (l : List UInt8) : Bool := allB isDig l && (!decide (l[0]? = some 48) || decide (l = [48]))
theorem str_48 (s : ByteArray) : (s.toList == [48]) = decide (bl s = [48]) := by
  have h3 : s.toList = bl s := by rw [ByteArray.toList_eq]
  rw [h3]
  by_cases h : bl s = [48]
  · rw [h]; rfl
  · rw [decide_eq_false h]; simpa using h
set_option maxHeartbeats 3200000 in
set_option maxRecDepth 100000 in
theorem isNumber_any (s : ByteArray) (hs : s.size ≤ 4611686018427387904) (w : World) :
    Calls Tryd.prog 36 #[.string s] w (fun e w' => e = .returned (.bool (numB (bl s))) ∧ w = w') := by
  have H := Lib.hid (fun w => isRun_dig s hs w)
  have hE : Hid (numB (bl s) = (allB isDig (bl s) && (!decide ((bl s)[0]? = some 48) || decide (bl s = [48])))) := Lib.hid rfl
  generalize numB (bl s) = E at *
  rcases hq : allB isDig (bl s) with _ | _
  · rw [hq] at H hE
    have hE' : Hid (E = false) := Lib.hid (by rw [hE.out]; rfl)
    clear hE hq
    go_enter Tryd.func36, Tryd.ntmps36
    go_wp2_with fail
    refine (H.out _).mono ?_
    rintro e w1 ⟨rfl, rfl⟩
    go_wp2
    go_ret
    exact ⟨by rw [hE'.out]; rfl, rfl⟩
  · have h0 : 0 < s.size := by
      unfold allB at hq
      rw [Bool.and_eq_true, decide_eq_true_eq] at hq
      have := hq.2
      simpa using this
    rw [hq] at H hE
    have h8 := head_48 s h0
    have h9 := str_48 s
    rcases hz : ((s[0].toNat : Int) == 48) with _ | _
    · have hz1 : ((s[0].toNat : Int) != 48) = true := by rw [bne, hz]; rfl
      have hE' : Hid (E = true) := Lib.hid (by rw [hE.out, decide_eq_false (fun h => by rw [h8, hz] at h; cases h)]; rfl)
      clear hE hq h8 h9
      go_enter Tryd.func36, Tryd.ntmps36
      go_wp2_with fail
      refine (H.out _).mono ?_
      rintro e w1 ⟨rfl, rfl⟩
      go_wp2
      go_ret
      exact ⟨by rw [hE'.out]; rfl, rfl⟩
    · have hz1 : ((s[0].toNat : Int) != 48) = false := by rw [bne, hz]; rfl
      have hE' : Hid (E = decide (bl s = [48])) := Lib.hid (by rw [hE.out, decide_eq_true (h8.2 hz)]; rfl)
      rw [← h9] at hE'
      clear hE hq h8 h9
      generalize hy : (s.toList == [48]) = y at *
      cases y
      all_goals
        go_enter Tryd.func36, Tryd.ntmps36
        go_wp2_with fail
        refine (H.out _).mono ?_
        rintro e w1 ⟨rfl, rfl⟩
        go_wp2
        go_ret
        exact ⟨by rw [hE'.out]; rfl, rfl⟩

/-- A sign. -/
def signB (l : List UInt8) : Bool := decide (l.length = 1) && isSig (l.headD 0)
theorem contains_sig (c : UInt8) : decide (0 ≤ Lib.indexByte SB.data.toList c) = isSig c := by
  have := all_bytes (fun c => decide (0 ≤ Lib.indexByte SB.data.toList c) == isSig c) (by decide +kernel) c
  simpa using this
set_option maxHeartbeats 3200000 in
set_option maxRecDepth 100000 in
theorem isSign_any (s : ByteArray) (hs : s.size ≤ 4611686018427387904) (w : World) :
    Calls Tryd.prog 37 #[.string s] w (fun e w' => e = .returned (.bool (signB (bl s))) ∧ w = w') := by
  by_cases h1 : s.size = 1
  · obtain ⟨c, rfl⟩ : ∃ c, s = ⟨#[c]⟩ := by
      obtain ⟨⟨l⟩⟩ := s
      match l, h1 with
      | [c], _ => exact ⟨c, rfl⟩
    have HC := Lib.hid (fun w => (Tryd.strings_Contains_one SB c w))
    rw [contains_sig] at HC
    have hE : Hid (signB (bl ⟨#[c]⟩) = isSig c) := Lib.hid (by simp [signB, bl])
    generalize isSig c = q at *
    go_enter Tryd.func37, Tryd.ntmps37
    go_wp2_with fail
    refine (HC.out _).mono ?_
    rintro e w1 ⟨rfl, rfl⟩
    go_wp2
    go_ret
    exact ⟨by rw [hE.out]; rfl, rfl⟩
  · have hd : ((s.size : Int) == 1) = false := by rw [beq_eq_false_iff_ne]; omega
    have hE : Hid (signB (bl s) = false) := Lib.hid (by unfold signB; rw [decide_eq_false (by simpa using h1)]; rfl)
    go_enter Tryd.func37, Tryd.ntmps37
    go_wp2
    go_ret
    exact ⟨by rw [hE.out]; rfl, rfl⟩
end Go.Proofs.YtffcahhnaomegaaDoor
