/- Walks of the exported functions: Pow. -/
import Derived.Test.YtbmonfbbkmpdhaaDoorPb
import Derived.Test.YtbmonfbbkmpdhaaDoorUd
namespace Go.Proofs.YtbmonfbbkmpdhaaDoor
open Go.RowKit Go.Proofs.Num

set_option maxRecDepth 100000 in
set_option maxHeartbeats 1600000 in
theorem pow_ok (s : ByteArray) (hs : s.size ≤ 9223372036854775807) (h0 : chk s.data.toList = 0) (n : Nat) (hn : n ≤ 4096) (hte : te ((parse s.data.toList) ^ n) = 0) (w : World) (hT : Tab w) :
    Calls Tryd.prog 38 #[.string s, .int .i64 n] w (TextOut w (tx ((parse s.data.toList) ^ n)) 0) := by
  have HT := Lib.hid hT
  have HX : Hid (∃ d : Nat, d = 1024 ∧ (parse s.data.toList).natAbs < 10 ^ d) := chk_ex _ h0
  have HC := Lib.hid h0
  clear hT h0
  generalize hz : parse s.data.toList = z at *
  obtain ⟨t, ht⟩ : ∃ t, t = tx (z ^ n) := ⟨_, rfl⟩
  rw [← ht]
  have HZ := Lib.hid hz
  have HTX := Lib.hid ht
  have HTE := Lib.hid hte
  have hn1 : decide (((n : Nat) : Int) < 0) = false := by simp
  have hn2 : decide (4096 < ((n : Nat) : Int)) = false := by simp; omega
  have hn3 : n < 4611686018427387904 := by omega
  clear hz ht hte
  go_enter Tryd.func38, Tryd.ntmps38
  go_wp2_with fail
  refine (read_any s hs _).mono ?_
  rintro e w1 ⟨b, a, k, p, rfl, hb, hok, -⟩
  have hok := hok HC.out
  rw [HZ.out] at hok
  rw [HC.out]
  have HOK : Hid (Nm (w1.alloc (.cells #[.bool b, .slice a k p] 73)) (.agg #[.bool b, .slice a k p]) z) := hok.keep (below1 _ _)
  have hbl1 : Below w.heap.size w (w1.alloc (.cells #[.bool b, .slice a k p] 73)) := hb.alloc hb.size _
  clear hok
  go_wp2_with fail
  refine (power_any _ z n _ HOK.out HX.out hn3).mono ?_
  rintro e w2 ⟨v, rfl, hb2, ⟨b', a', k', p', rfl⟩, hnm⟩
  have hbl2 : Below w.heap.size w w2 := hbl1.trans (hb2.mono hbl1.size)
  rw [HTE.out] at hnm ⊢
  have hnm := hnm rfl
  have HNM : Hid (Nm (w2.alloc (.cells #[.bool b', .slice a' k' p'] 73)) (.agg #[.bool b', .slice a' k' p']) (z ^ n)) := hnm.keep (below1 _ _)
  have hbl3 : Below w.heap.size w (w2.alloc (.cells #[.bool b', .slice a' k' p'] 73)) := hbl2.alloc hbl2.size _
  have HSM : Hid (Sm (z ^ n) 4294967295) := by
    unfold Hid
    refine Sm.le (sm_of_lt (k := 114) (Lib.lt_pow_nDigits _) ?_) (by omega)
    have h := HTE.out
    unfold te at h
    split at h
    · cases h
    · omega
  clear hnm
  go_wp2_with fail
  refine (text_any _ _ _ HNM.out HSM.out (HT.out.keep hbl3)).mono ?_
  rintro e w3 ⟨he, hb3⟩
  rw [← HTX.out, HTE.out] at he
  subst he
  go_wp2
  go_ret2
  exact ⟨rfl, hbl3.trans (hb3.mono hbl3.size)⟩


set_option maxRecDepth 100000 in
set_option maxHeartbeats 1600000 in
theorem pow_long (s : ByteArray) (hs : s.size ≤ 9223372036854775807) (h0 : chk s.data.toList = 0) (n : Nat) (hn : n ≤ 4096) (hte : te ((parse s.data.toList) ^ n) = 11) (w : World) (hT : Tab w) :
    Calls Tryd.prog 38 #[.string s, .int .i64 n] w (TextOut w (tx ((parse s.data.toList) ^ n)) 11) := by
  have HT := Lib.hid hT
  have HX : Hid (∃ d : Nat, d = 1024 ∧ (parse s.data.toList).natAbs < 10 ^ d) := chk_ex _ h0
  have HC := Lib.hid h0
  clear hT h0
  generalize hz : parse s.data.toList = z at *
  obtain ⟨t, ht⟩ : ∃ t, t = tx (z ^ n) := ⟨_, rfl⟩
  rw [← ht]
  have HZ := Lib.hid hz
  have HTX := Lib.hid ht
  have HTE := Lib.hid hte
  have hn1 : decide (((n : Nat) : Int) < 0) = false := by simp
  have hn2 : decide (4096 < ((n : Nat) : Int)) = false := by simp; omega
  have hn3 : n < 4611686018427387904 := by omega
  clear hz ht hte
  go_enter Tryd.func38, Tryd.ntmps38
  go_wp2_with fail
  refine (read_any s hs _).mono ?_
  rintro e w1 ⟨b, a, k, p, rfl, hb, hok, -⟩
  have hok := hok HC.out
  rw [HZ.out] at hok
  rw [HC.out]
  have HOK : Hid (Nm (w1.alloc (.cells #[.bool b, .slice a k p] 73)) (.agg #[.bool b, .slice a k p]) z) := hok.keep (below1 _ _)
  have hbl1 : Below w.heap.size w (w1.alloc (.cells #[.bool b, .slice a k p] 73)) := hb.alloc hb.size _
  clear hok
  go_wp2_with fail
  refine (power_any _ z n _ HOK.out HX.out hn3).mono ?_
  rintro e w2 ⟨v, rfl, hb2, ⟨b', a', k', p', rfl⟩, hnm⟩
  have hbl2 : Below w.heap.size w w2 := hbl1.trans (hb2.mono hbl1.size)
  rw [HTE.out] at hnm ⊢
  have htn : t = [] := by
    have h := HTE.out
    rw [HTX.out]
    unfold te at h
    unfold tx
    split at h
    · rename_i h1; rw [if_pos h1]
    · cases h
  have HTN := Lib.hid htn
  clear htn hnm
  go_wp2
  go_ret2
  refine ⟨?_, hbl2.alloc hbl2.size _⟩
  rw [HTN.out]; rfl


theorem te_ways (z : Int) : te z = 0 ∨ te z = 11 := by unfold te; split <;> simp

/-- Pow: canonical texts, exponents that may be. -/
theorem pow_any (s : ByteArray) (hs : s.size ≤ 9223372036854775807) (h0 : chk s.data.toList = 0) (n : Nat) (hn : n ≤ 4096) (w : World) (hT : Tab w) :
    Calls Tryd.prog 38 #[.string s, .int .i64 n] w (TextOut w (tx ((parse s.data.toList) ^ n)) (te ((parse s.data.toList) ^ n))) := by
  rcases te_ways ((parse s.data.toList) ^ n) with h | h
  · rw [h]; exact pow_ok s hs h0 n hn h w hT
  · rw [h]; exact pow_long s hs h0 n hn h w hT

end Go.Proofs.YtbmonfbbkmpdhaaDoor
