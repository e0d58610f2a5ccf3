/- Walks of the exported functions: one text. -/
import Derived.Test.YtbmonfbbkmpdhaaDoorUa
namespace Go.Proofs.YtbmonfbbkmpdhaaDoor
open Go.RowKit Go.Proofs.Num

def IntOut (w : World) (z : Int) (c : Nat) (e : Ending) (w' : World) : Prop := e = .returned (.tuple #[.int .i64 z, .int .i64 ((c : Nat) : Int)]) ∧ Below w.heap.size w w'

set_option maxRecDepth 100000 in
set_option maxHeartbeats 1600000 in
theorem neg_err (s : ByteArray) (hs : s.size ≤ 9223372036854775807) (h0 : chk s.data.toList ≠ 0) (w : World) :
    Calls Tryd.prog 28 #[.string s] w (TextOut w [] (chk s.data.toList)) := by
  obtain ⟨c, hcc⟩ : ∃ c, c = chk s.data.toList := ⟨_, rfl⟩
  have hne : ((c : Int) == 0) = false := by simp; omega
  have hne2 : ((c : Int) != 0) = true := by simp; omega
  rw [← hcc]
  have HC := Lib.hid hcc
  have H0 := Lib.hid h0
  clear hcc h0
  go_enter Tryd.func28, Tryd.ntmps28
  go_wp2_with fail
  refine (read_any s hs _).mono ?_
  rintro e w1 ⟨b, a, k, p, rfl, hb, -, -⟩
  rw [← HC.out]
  go_wp2
  go_ret2
  exact ⟨rfl, hb.alloc hb.size _⟩

set_option maxRecDepth 100000 in
set_option maxHeartbeats 1600000 in
theorem abs_err (s : ByteArray) (hs : s.size ≤ 9223372036854775807) (h0 : chk s.data.toList ≠ 0) (w : World) :
    Calls Tryd.prog 29 #[.string s] w (TextOut w [] (chk s.data.toList)) := by
  obtain ⟨c, hcc⟩ : ∃ c, c = chk s.data.toList := ⟨_, rfl⟩
  have hne : ((c : Int) == 0) = false := by simp; omega
  have hne2 : ((c : Int) != 0) = true := by simp; omega
  rw [← hcc]
  have HC := Lib.hid hcc
  have H0 := Lib.hid h0
  clear hcc h0
  go_enter Tryd.func29, Tryd.ntmps29
  go_wp2_with fail
  refine (read_any s hs _).mono ?_
  rintro e w1 ⟨b, a, k, p, rfl, hb, -, -⟩
  rw [← HC.out]
  go_wp2
  go_ret2
  exact ⟨rfl, hb.alloc hb.size _⟩

set_option maxRecDepth 100000 in
set_option maxHeartbeats 1600000 in
theorem sgn_err (s : ByteArray) (hs : s.size ≤ 9223372036854775807) (h0 : chk s.data.toList ≠ 0) (w : World) :
    Calls Tryd.prog 17 #[.string s] w (IntOut w 0 (chk s.data.toList)) := by
  obtain ⟨c, hcc⟩ : ∃ c, c = chk s.data.toList := ⟨_, rfl⟩
  have hne : ((c : Int) == 0) = false := by simp; omega
  have hne2 : ((c : Int) != 0) = true := by simp; omega
  rw [← hcc]
  have HC := Lib.hid hcc
  have H0 := Lib.hid h0
  clear hcc h0
  go_enter Tryd.func17, Tryd.ntmps17
  go_wp2_with fail
  refine (read_any s hs _).mono ?_
  rintro e w1 ⟨b, a, k, p, rfl, hb, -, -⟩
  rw [← HC.out]
  go_wp2
  go_ret2
  exact ⟨rfl, hb.alloc hb.size _⟩

set_option maxRecDepth 100000 in
set_option maxHeartbeats 1600000 in
theorem abs_ok (s : ByteArray) (hs : s.size ≤ 9223372036854775807) (h0 : chk s.data.toList = 0) (w : World) (hT : Tab w) :
    Calls Tryd.prog 29 #[.string s] w (TextOut w (tx (((parse s.data.toList).natAbs : Nat) : Int)) (te (((parse s.data.toList).natAbs : Nat) : Int))) := by
  have HT := Lib.hid hT
  obtain ⟨y, hy⟩ : ∃ y, y = (((parse s.data.toList).natAbs : Nat) : Int) := ⟨_, rfl⟩
  obtain ⟨t, ht⟩ : ∃ t, t = tx y := ⟨_, rfl⟩
  obtain ⟨c, hc⟩ : ∃ c, c = te y := ⟨_, rfl⟩
  rw [← hy, ← ht, ← hc]
  have HSM : Hid (Sm y 4294967295) := (by unfold Hid; exact Sm.le (by have := chk_sm _ h0; unfold Sm at *; rw [hy]; simpa using this) (by omega))
  have HC := Lib.hid h0
  clear hT h0
  generalize hz : parse s.data.toList = z at *
  have HZ := Lib.hid hz
  have HY := Lib.hid hy
  have HTX := Lib.hid ht
  have HTE := Lib.hid hc
  clear hz ht hc hy
  go_enter Tryd.func29, Tryd.ntmps29
  go_wp2_with fail
  refine (read_any s hs _).mono ?_
  rintro e w1 ⟨b, a, k, p, rfl, hb, hok, -⟩
  have hok := hok HC.out
  rw [HZ.out] at hok
  rw [HC.out]
  have HOK : Hid (Nm (w1.alloc (.cells #[.bool b, .slice a k p] 73)) (.agg #[.bool false, .slice a k p]) y) := by
    have h5 := (hok.keep (below1 w1 (.cells #[.bool b, .slice a k p] 73))).parts.2.1
    refine Nm.mk' (by rw [HY.out]; simp) ?_
    rw [HY.out, Int.natAbs_natCast]
    exact h5
  clear hok
  go_wp2_with fail
  refine (text_any _ _ _ HOK.out HSM.out (HT.out.keep (hb.alloc hb.size _))).mono ?_
  rintro e w3 ⟨he, hb3⟩
  rw [← HTX.out, ← HTE.out] at he
  subst he
  go_wp2
  go_ret2
  exact ⟨rfl, (hb.alloc hb.size _).trans (hb3.mono (hb.alloc hb.size _).size)⟩

set_option maxRecDepth 100000 in
set_option maxHeartbeats 1600000 in
theorem sgn_ok (s : ByteArray) (hs : s.size ≤ 9223372036854775807) (h0 : chk s.data.toList = 0) (w : World) :
    Calls Tryd.prog 17 #[.string s] w (IntOut w (sgn (parse s.data.toList)) 0) := by
  have HC := Lib.hid h0
  clear h0
  generalize hz : parse s.data.toList = z at *
  have HZ := Lib.hid hz
  clear hz
  go_enter Tryd.func17, Tryd.ntmps17
  go_wp2_with fail
  refine (read_any s hs _).mono ?_
  rintro e w1 ⟨b, a, k, p, rfl, hb, hok, -⟩
  have hok := hok HC.out
  rw [HZ.out] at hok
  rw [HC.out]
  have HOK : Hid (Nm (w1.alloc (.cells #[.bool b, .slice a k p] 73)) (.agg #[.bool b, .slice a k p]) z) := hok.keep (below1 _ _)
  clear hok
  go_wp2_with fail
  refine (nsign_any _ z _ HOK.out).mono ?_
  rintro e w2 ⟨rfl, hb2⟩
  go_wp2
  go_ret2
  exact ⟨rfl, (hb.alloc hb.size _).trans (hb2.mono (hb.alloc hb.size _).size)⟩

end Go.Proofs.YtbmonfbbkmpdhaaDoor
