/- Walks of the exported functions: sums, differences, products. -/
import Derived.Test.YtbmonfbbkmpdhaaDoorUb
namespace Go.Proofs.YtbmonfbbkmpdhaaDoor
open Go.RowKit Go.Proofs.Num

theorem chk_ex (l : List UInt8) (h : chk l = 0) : ∃ d : Nat, d = 1024 ∧ (parse l).natAbs < 10 ^ d := by
  obtain ⟨d, hd⟩ : ∃ d : Nat, d = 1024 := ⟨_, rfl⟩
  exact ⟨d, hd, chk_lt _ h d hd⟩

set_option maxRecDepth 100000 in
set_option maxHeartbeats 1600000 in
theorem applied_err (u : Value) (s : ByteArray) (hs : s.size ≤ 9223372036854775807) (h0 : chk s.data.toList ≠ 0) (w : World) :
    Calls Tryd.prog 58 #[u, .string s] w (TextOut w [] (chk s.data.toList)) := by
  obtain ⟨c, hcc⟩ : ∃ c, c = chk s.data.toList := ⟨_, rfl⟩
  have hne : ((c : Int) == 0) = false := by simp; omega
  have hne2 : ((c : Int) != 0) = true := by simp; omega
  rw [← hcc]
  have HC := Lib.hid hcc
  have H0 := Lib.hid h0
  clear hcc h0
  go_enter Tryd.func58, Tryd.ntmps58
  go_wp2_with fail
  refine (read_any s hs _).mono ?_
  rintro e w1 ⟨b, a, k, p, rfl, hb, -, -⟩
  rw [← HC.out]
  go_wp2
  go_ret2
  exact ⟨rfl, hb.alloc hb.size _⟩

set_option maxRecDepth 100000 in
set_option maxHeartbeats 1600000 in
theorem applied_add (v : Value) (x : Int) (s : ByteArray) (hs : s.size ≤ 9223372036854775807) (h0 : chk s.data.toList = 0) (w : World) (hv : Nm w v x) (hx : ∃ d : Nat, d = 1024 ∧ x.natAbs < 10 ^ d) (hT : Tab w) :
    Calls Tryd.prog 58 #[.func (.func 59) #[v] #[], .string s] w (TextOut w (tx (x + parse s.data.toList)) (te (x + parse s.data.toList))) := by
  obtain ⟨d, hd, hx⟩ := hx
  have hy : (parse s.data.toList).natAbs < 10 ^ d := chk_lt _ h0 _ hd
  have HSX : Hid (Sm x 1000) := sm_of_lt hx (by omega)
  have HSY : Hid (Sm (parse s.data.toList) 1000) := sm_of_lt hy (by omega)
  have HSM : Hid (Sm (x + parse s.data.toList) 4294967295) := Sm.le (sm_of_lt (lt_add hx hy) (k := 1000) (by omega)) (by omega)
  have HT := Lib.hid hT
  have HV := Lib.hid hv
  obtain ⟨b0, a0, k0, p0, rfl⟩ := hv.sh
  obtain ⟨t, ht⟩ : ∃ t, t = tx (x + parse s.data.toList) := ⟨_, rfl⟩
  obtain ⟨c, hc⟩ : ∃ c, c = te (x + parse s.data.toList) := ⟨_, rfl⟩
  rw [← ht, ← hc]
  have HC := Lib.hid h0
  clear hT h0 hy hx hd hv
  generalize hz : parse s.data.toList = y at *
  have HZ := Lib.hid hz
  have HTX := Lib.hid ht
  have HTE := Lib.hid hc
  clear hz ht hc
  go_enter Tryd.func58, Tryd.ntmps58
  go_wp2_with fail
  refine (read_any s hs _).mono ?_
  rintro e w1 ⟨b, a, k, p, rfl, hb, hok, -⟩
  have hok := hok HC.out
  rw [HZ.out] at hok
  rw [HC.out]
  have hbl1 : Below w.heap.size w (w1.alloc (.cells #[.bool b, .slice a k p] 73)) := hb.alloc hb.size _
  have HOK : Hid (Nm (w1.alloc (.cells #[.bool b, .slice a k p] 73)) (.agg #[.bool b, .slice a k p]) y) := hok.keep (below1 _ _)
  clear hok
  go_wp2_with fail
  refine (nplus_any _ _ x y _ (HV.out.keep hbl1) HOK.out (Sm.le HSX.out (by omega)) (Sm.le HSY.out (by omega))).mono ?_
  rintro e w2 ⟨v, rfl, hn, hb2⟩
  obtain ⟨b', a', k', p', rfl⟩ := hn.sh
  have hbl : Below w.heap.size w w2 := hbl1.trans (hb2.mono hbl1.size)
  go_wp2_with fail
  refine (text_any _ _ _ hn HSM.out (HT.out.keep hbl)).mono ?_
  rintro e w3 ⟨he, hb3⟩
  rw [← HTX.out, ← HTE.out] at he
  subst he
  go_wp2
  go_ret2
  exact ⟨rfl, hbl.trans (hb3.mono hbl.size)⟩

set_option maxRecDepth 100000 in
set_option maxHeartbeats 1600000 in
theorem add_err1 (s r : ByteArray) (hs : s.size ≤ 9223372036854775807) (h0 : chk s.data.toList ≠ 0) (w : World) :
    Calls Tryd.prog 23 #[.string s, .string r] w (TextOut w [] (chk s.data.toList)) := by
  obtain ⟨c, hcc⟩ : ∃ c, c = chk s.data.toList := ⟨_, rfl⟩
  have hne : ((c : Int) == 0) = false := by simp; omega
  have hne2 : ((c : Int) != 0) = true := by simp; omega
  rw [← hcc]
  have HC := Lib.hid hcc
  have H0 := Lib.hid h0
  clear hcc h0
  go_enter Tryd.func23, Tryd.ntmps23
  go_wp2_with fail
  refine (read_any s hs _).mono ?_
  rintro e w1 ⟨b, a, k, p, rfl, hb, -, -⟩
  rw [← HC.out]
  go_wp2
  go_ret2
  exact ⟨rfl, hb.alloc hb.size _⟩

set_option maxRecDepth 100000 in
set_option maxHeartbeats 1600000 in
theorem add_rest (s r : ByteArray) (hs : s.size ≤ 9223372036854775807) (h0 : chk s.data.toList = 0) (w : World) (t : List UInt8) (c : Nat)
    (hcall : ∀ w1 v, Nm w1 v (parse s.data.toList) → Below w.heap.size w w1 → Calls Tryd.prog 58 #[.func (.func 59) #[v] #[], .string r] w1 (TextOut w1 t c)) :
    Calls Tryd.prog 23 #[.string s, .string r] w (TextOut w t c) := by
  have HC := Lib.hid h0
  clear h0
  generalize hz : parse s.data.toList = z at *
  have HZ := Lib.hid hz
  clear hz
  go_enter Tryd.func23, Tryd.ntmps23
  go_wp2_with fail
  refine (read_any s hs _).mono ?_
  rintro e w1 ⟨b, a, k, p, rfl, hb, hok, -⟩
  have hok := hok HC.out
  rw [HZ.out] at hok
  rw [HC.out]
  have hbl1 : Below w.heap.size w (w1.alloc (.cells #[.bool b, .slice a k p] 73)) := hb.alloc hb.size _
  have HOK : Hid (Nm (w1.alloc (.cells #[.bool b, .slice a k p] 73)) (.agg #[.bool b, .slice a k p]) z) := hok.keep (below1 _ _)
  clear hok
  go_wp2_with fail
  refine (hcall _ _ HOK.out hbl1).mono ?_
  rintro e w3 ⟨rfl, hb3⟩
  go_wp2
  go_ret2
  exact ⟨rfl, hbl1.trans (hb3.mono hbl1.size)⟩

/-- What it hands back for all texts. -/
theorem add_any (s r : ByteArray) (hs : s.size ≤ 9223372036854775807) (hr : r.size ≤ 9223372036854775807) (w : World) (hT : Tab w) :
    Calls Tryd.prog 23 #[.string s, .string r] w (TextOut w (op2 (· + ·) s.data.toList r.data.toList).1 (op2 (· + ·) s.data.toList r.data.toList).2) := by
  unfold op2
  by_cases h1 : chk s.data.toList = 0
  · rw [if_neg (by omega)]
    by_cases h2 : chk r.data.toList = 0
    · rw [if_neg (by omega)]
      exact add_rest s r hs h1 w _ _ fun w1 v hv hb => applied_add v _ r hr h2 w1 hv (chk_ex _ h1) (hT.keep hb)
    · rw [if_pos h2]
      exact add_rest s r hs h1 w _ _ fun w1 v hv hb => applied_err _ r hr h2 w1
  · rw [if_pos h1]
    exact add_err1 s r hs h1 w

set_option maxRecDepth 100000 in
set_option maxHeartbeats 1600000 in
theorem applied_sub (v : Value) (x : Int) (s : ByteArray) (hs : s.size ≤ 9223372036854775807) (h0 : chk s.data.toList = 0) (w : World) (hv : Nm w v x) (hx : ∃ d : Nat, d = 1024 ∧ x.natAbs < 10 ^ d) (hT : Tab w) :
    Calls Tryd.prog 58 #[.func (.func 62) #[v] #[], .string s] w (TextOut w (tx (x - parse s.data.toList)) (te (x - parse s.data.toList))) := by
  obtain ⟨d, hd, hx⟩ := hx
  have hy : (parse s.data.toList).natAbs < 10 ^ d := chk_lt _ h0 _ hd
  have HSX : Hid (Sm x 1000) := sm_of_lt hx (by omega)
  have HSY : Hid (Sm (parse s.data.toList) 1000) := sm_of_lt hy (by omega)
  have HSM : Hid (Sm (x - parse s.data.toList) 4294967295) := Sm.le (sm_of_lt (lt_sub hx hy) (k := 1000) (by omega)) (by omega)
  have HT := Lib.hid hT
  have HV := Lib.hid hv
  obtain ⟨b0, a0, k0, p0, rfl⟩ := hv.sh
  obtain ⟨t, ht⟩ : ∃ t, t = tx (x - parse s.data.toList) := ⟨_, rfl⟩
  obtain ⟨c, hc⟩ : ∃ c, c = te (x - parse s.data.toList) := ⟨_, rfl⟩
  rw [← ht, ← hc]
  have HC := Lib.hid h0
  clear hT h0 hy hx hd hv
  generalize hz : parse s.data.toList = y at *
  have HZ := Lib.hid hz
  have HTX := Lib.hid ht
  have HTE := Lib.hid hc
  clear hz ht hc
  go_enter Tryd.func58, Tryd.ntmps58
  go_wp2_with fail
  refine (read_any s hs _).mono ?_
  rintro e w1 ⟨b, a, k, p, rfl, hb, hok, -⟩
  have hok := hok HC.out
  rw [HZ.out] at hok
  rw [HC.out]
  have hbl1 : Below w.heap.size w (w1.alloc (.cells #[.bool b, .slice a k p] 73)) := hb.alloc hb.size _
  have HOK : Hid (Nm (w1.alloc (.cells #[.bool b, .slice a k p] 73)) (.agg #[.bool b, .slice a k p]) y) := hok.keep (below1 _ _)
  clear hok
  go_wp2_with fail
  refine (nminus_any _ _ x y _ (HV.out.keep hbl1) HOK.out (Sm.le HSX.out (by omega)) (Sm.le HSY.out (by omega))).mono ?_
  rintro e w2 ⟨v, rfl, hn, hb2⟩
  obtain ⟨b', a', k', p', rfl⟩ := hn.sh
  have hbl : Below w.heap.size w w2 := hbl1.trans (hb2.mono hbl1.size)
  go_wp2_with fail
  refine (text_any _ _ _ hn HSM.out (HT.out.keep hbl)).mono ?_
  rintro e w3 ⟨he, hb3⟩
  rw [← HTX.out, ← HTE.out] at he
  subst he
  go_wp2
  go_ret2
  exact ⟨rfl, hbl.trans (hb3.mono hbl.size)⟩

set_option maxRecDepth 100000 in
set_option maxHeartbeats 1600000 in
theorem sub_err1 (s r : ByteArray) (hs : s.size ≤ 9223372036854775807) (h0 : chk s.data.toList ≠ 0) (w : World) :
    Calls Tryd.prog 25 #[.string s, .string r] w (TextOut w [] (chk s.data.toList)) := by
  obtain ⟨c, hcc⟩ : ∃ c, c = chk s.data.toList := ⟨_, rfl⟩
  have hne : ((c : Int) == 0) = false := by simp; omega
  have hne2 : ((c : Int) != 0) = true := by simp; omega
  rw [← hcc]
  have HC := Lib.hid hcc
  have H0 := Lib.hid h0
  clear hcc h0
  go_enter Tryd.func25, Tryd.ntmps25
  go_wp2_with fail
  refine (read_any s hs _).mono ?_
  rintro e w1 ⟨b, a, k, p, rfl, hb, -, -⟩
  rw [← HC.out]
  go_wp2
  go_ret2
  exact ⟨rfl, hb.alloc hb.size _⟩

set_option maxRecDepth 100000 in
set_option maxHeartbeats 1600000 in
theorem sub_rest (s r : ByteArray) (hs : s.size ≤ 9223372036854775807) (h0 : chk s.data.toList = 0) (w : World) (t : List UInt8) (c : Nat)
    (hcall : ∀ w1 v, Nm w1 v (parse s.data.toList) → Below w.heap.size w w1 → Calls Tryd.prog 58 #[.func (.func 62) #[v] #[], .string r] w1 (TextOut w1 t c)) :
    Calls Tryd.prog 25 #[.string s, .string r] w (TextOut w t c) := by
  have HC := Lib.hid h0
  clear h0
  generalize hz : parse s.data.toList = z at *
  have HZ := Lib.hid hz
  clear hz
  go_enter Tryd.func25, Tryd.ntmps25
  go_wp2_with fail
  refine (read_any s hs _).mono ?_
  rintro e w1 ⟨b, a, k, p, rfl, hb, hok, -⟩
  have hok := hok HC.out
  rw [HZ.out] at hok
  rw [HC.out]
  have hbl1 : Below w.heap.size w (w1.alloc (.cells #[.bool b, .slice a k p] 73)) := hb.alloc hb.size _
  have HOK : Hid (Nm (w1.alloc (.cells #[.bool b, .slice a k p] 73)) (.agg #[.bool b, .slice a k p]) z) := hok.keep (below1 _ _)
  clear hok
  go_wp2_with fail
  refine (hcall _ _ HOK.out hbl1).mono ?_
  rintro e w3 ⟨rfl, hb3⟩
  go_wp2
  go_ret2
  exact ⟨rfl, hbl1.trans (hb3.mono hbl1.size)⟩

/-- What it hands back for all texts. -/
theorem sub_any (s r : ByteArray) (hs : s.size ≤ 9223372036854775807) (hr : r.size ≤ 9223372036854775807) (w : World) (hT : Tab w) :
    Calls Tryd.prog 25 #[.string s, .string r] w (TextOut w (op2 (· - ·) s.data.toList r.data.toList).1 (op2 (· - ·) s.data.toList r.data.toList).2) := by
  unfold op2
  by_cases h1 : chk s.data.toList = 0
  · rw [if_neg (by omega)]
    by_cases h2 : chk r.data.toList = 0
    · rw [if_neg (by omega)]
      exact sub_rest s r hs h1 w _ _ fun w1 v hv hb => applied_sub v _ r hr h2 w1 hv (chk_ex _ h1) (hT.keep hb)
    · rw [if_pos h2]
      exact sub_rest s r hs h1 w _ _ fun w1 v hv hb => applied_err _ r hr h2 w1
  · rw [if_pos h1]
    exact sub_err1 s r hs h1 w

set_option maxRecDepth 100000 in
set_option maxHeartbeats 1600000 in
theorem applied_mul (v : Value) (x : Int) (s : ByteArray) (hs : s.size ≤ 9223372036854775807) (h0 : chk s.data.toList = 0) (w : World) (hv : Nm w v x) (hx : ∃ d : Nat, d = 1024 ∧ x.natAbs < 10 ^ d) (hT : Tab w) :
    Calls Tryd.prog 58 #[.func (.func 70) #[v] #[], .string s] w (TextOut w (tx (x * parse s.data.toList)) (te (x * parse s.data.toList))) := by
  obtain ⟨d, hd, hx⟩ := hx
  have hy : (parse s.data.toList).natAbs < 10 ^ d := chk_lt _ h0 _ hd
  have HSX : Hid (Sm x 1000) := sm_of_lt hx (by omega)
  have HSY : Hid (Sm (parse s.data.toList) 1000) := sm_of_lt hy (by omega)
  have HSM : Hid (Sm (x * parse s.data.toList) 4294967295) := Sm.le (sm_of_lt (lt_mul hx hy) (k := 1000) (by omega)) (by omega)
  have HT := Lib.hid hT
  have HV := Lib.hid hv
  obtain ⟨b0, a0, k0, p0, rfl⟩ := hv.sh
  obtain ⟨t, ht⟩ : ∃ t, t = tx (x * parse s.data.toList) := ⟨_, rfl⟩
  obtain ⟨c, hc⟩ : ∃ c, c = te (x * parse s.data.toList) := ⟨_, rfl⟩
  rw [← ht, ← hc]
  have HC := Lib.hid h0
  clear hT h0 hy hx hd hv
  generalize hz : parse s.data.toList = y at *
  have HZ := Lib.hid hz
  have HTX := Lib.hid ht
  have HTE := Lib.hid hc
  clear hz ht hc
  go_enter Tryd.func58, Tryd.ntmps58
  go_wp2_with fail
  refine (read_any s hs _).mono ?_
  rintro e w1 ⟨b, a, k, p, rfl, hb, hok, -⟩
  have hok := hok HC.out
  rw [HZ.out] at hok
  rw [HC.out]
  have hbl1 : Below w.heap.size w (w1.alloc (.cells #[.bool b, .slice a k p] 73)) := hb.alloc hb.size _
  have HOK : Hid (Nm (w1.alloc (.cells #[.bool b, .slice a k p] 73)) (.agg #[.bool b, .slice a k p]) y) := hok.keep (below1 _ _)
  clear hok
  go_wp2_with fail
  refine (ntimes_any _ _ x y _ (HV.out.keep hbl1) HOK.out (Sm.le HSX.out (by omega)) (Sm.le HSY.out (by omega))).mono ?_
  rintro e w2 ⟨v, rfl, hn, hb2⟩
  obtain ⟨b', a', k', p', rfl⟩ := hn.sh
  have hbl : Below w.heap.size w w2 := hbl1.trans (hb2.mono hbl1.size)
  go_wp2_with fail
  refine (text_any _ _ _ hn HSM.out (HT.out.keep hbl)).mono ?_
  rintro e w3 ⟨he, hb3⟩
  rw [← HTX.out, ← HTE.out] at he
  subst he
  go_wp2
  go_ret2
  exact ⟨rfl, hbl.trans (hb3.mono hbl.size)⟩

set_option maxRecDepth 100000 in
set_option maxHeartbeats 1600000 in
theorem mul_err1 (s r : ByteArray) (hs : s.size ≤ 9223372036854775807) (h0 : chk s.data.toList ≠ 0) (w : World) :
    Calls Tryd.prog 36 #[.string s, .string r] w (TextOut w [] (chk s.data.toList)) := by
  obtain ⟨c, hcc⟩ : ∃ c, c = chk s.data.toList := ⟨_, rfl⟩
  have hne : ((c : Int) == 0) = false := by simp; omega
  have hne2 : ((c : Int) != 0) = true := by simp; omega
  rw [← hcc]
  have HC := Lib.hid hcc
  have H0 := Lib.hid h0
  clear hcc h0
  go_enter Tryd.func36, Tryd.ntmps36
  go_wp2_with fail
  refine (read_any s hs _).mono ?_
  rintro e w1 ⟨b, a, k, p, rfl, hb, -, -⟩
  rw [← HC.out]
  go_wp2
  go_ret2
  exact ⟨rfl, hb.alloc hb.size _⟩

set_option maxRecDepth 100000 in
set_option maxHeartbeats 1600000 in
theorem mul_rest (s r : ByteArray) (hs : s.size ≤ 9223372036854775807) (h0 : chk s.data.toList = 0) (w : World) (t : List UInt8) (c : Nat)
    (hcall : ∀ w1 v, Nm w1 v (parse s.data.toList) → Below w.heap.size w w1 → Calls Tryd.prog 58 #[.func (.func 70) #[v] #[], .string r] w1 (TextOut w1 t c)) :
    Calls Tryd.prog 36 #[.string s, .string r] w (TextOut w t c) := by
  have HC := Lib.hid h0
  clear h0
  generalize hz : parse s.data.toList = z at *
  have HZ := Lib.hid hz
  clear hz
  go_enter Tryd.func36, Tryd.ntmps36
  go_wp2_with fail
  refine (read_any s hs _).mono ?_
  rintro e w1 ⟨b, a, k, p, rfl, hb, hok, -⟩
  have hok := hok HC.out
  rw [HZ.out] at hok
  rw [HC.out]
  have hbl1 : Below w.heap.size w (w1.alloc (.cells #[.bool b, .slice a k p] 73)) := hb.alloc hb.size _
  have HOK : Hid (Nm (w1.alloc (.cells #[.bool b, .slice a k p] 73)) (.agg #[.bool b, .slice a k p]) z) := hok.keep (below1 _ _)
  clear hok
  go_wp2_with fail
  refine (hcall _ _ HOK.out hbl1).mono ?_
  rintro e w3 ⟨rfl, hb3⟩
  go_wp2
  go_ret2
  exact ⟨rfl, hbl1.trans (hb3.mono hbl1.size)⟩

/-- What it hands back for all texts. -/
theorem mul_any (s r : ByteArray) (hs : s.size ≤ 9223372036854775807) (hr : r.size ≤ 9223372036854775807) (w : World) (hT : Tab w) :
    Calls Tryd.prog 36 #[.string s, .string r] w (TextOut w (op2 (· * ·) s.data.toList r.data.toList).1 (op2 (· * ·) s.data.toList r.data.toList).2) := by
  unfold op2
  by_cases h1 : chk s.data.toList = 0
  · rw [if_neg (by omega)]
    by_cases h2 : chk r.data.toList = 0
    · rw [if_neg (by omega)]
      exact mul_rest s r hs h1 w _ _ fun w1 v hv hb => applied_mul v _ r hr h2 w1 hv (chk_ex _ h1) (hT.keep hb)
    · rw [if_pos h2]
      exact mul_rest s r hs h1 w _ _ fun w1 v hv hb => applied_err _ r hr h2 w1
  · rw [if_pos h1]
    exact mul_err1 s r hs h1 w

end Go.Proofs.YtbmonfbbkmpdhaaDoor
