/- Walks of the exported functions: reading one and two integers. And: Walks of the exported functions: one text. And: Walks of the exported functions: sums, differences, products. And: Walks of the exported functions: reading two texts. And: Walks of the exported functions: quotients. And: Walks of the exported functions: Quo and Rem. -/
import Derived.Test.YtnfmcdfdbipeoaaGreatDoorQ15
import Derived.Test.YtnfmcdfdbipeoaaGreatDoorQ17
import Derived.Test.YtnfmcdfdbipeoaaGreatDoorQ13
namespace Go.Proofs.YtnfmcdfdbipeoaaGreatDoor
open Go.RowKit Go.Proofs.Num

/-- What read hands back. -/
def RdOut (w : World) (s : ByteArray) (e : Ending) (w' : World) : Prop :=
  ∃ b a k p, e = .returned (.tuple #[.agg #[.bool b, .slice a k p], .int .i64 ((chk s.data.toList : Nat) : Int)]) ∧ Below w.heap.size w w' ∧
    (chk s.data.toList = 0 → Nm w' (.agg #[.bool b, .slice a k p]) (parse s.data.toList)) ∧ (chk s.data.toList ≠ 0 → b = false ∧ a = none ∧ k = 0 ∧ p = 0)

set_option maxRecDepth 100000 in
set_option maxHeartbeats 4000000 in
theorem read_err (s : ByteArray) (hs : s.size ≤ 9223372036854775807) (hc : chk s.data.toList ≠ 0) (w : World) :
    Calls Tryz.prog 96 #[.string s] w fun e w' => e = .returned (.tuple #[.agg #[.bool false, .slice none 0 0], .int .i64 ((chk s.data.toList : Nat) : Int)]) ∧ Below w.heap.size w w' := by
  obtain ⟨c, hcc⟩ : ∃ c, c = chk s.data.toList := ⟨_, rfl⟩
  rw [← hcc] at hc ⊢
  have hne : ((c : Int) == 0) = false := by simp; omega
  have hne2 : ((c : Int) != 0) = true := by simp; omega
  have HC := Lib.hid hcc
  clear hcc hc
  go_enter Tryz.func96, Tryz.ntmps96
  go_wp2_with fail
  refine (check_any s _ hs).mono ?_
  rintro e w' ⟨he, rfl⟩
  rw [← HC.out] at he
  subst he
  have h0 := Box.new 104 w (.bool false) (.slice none 0 0)
  have r0 := h0.c0; have r1 := h0.c1; have r2 := h0.f0 0; have r3 := h0.f0 1; have r4 := h0.lt
  go_wp2
  exact bodyPost_ret (v := .tuple #[.agg #[.bool false, .slice none 0 0], .int .i64 (c : Int)]) (by simp [results, Tryz.results96, go_sem]) rfl ⟨rfl, below1 _ _⟩

theorem chk_cases (l : List UInt8) (h : chk l = 0) : Lib.itoa (parse l) = l ∧ Lib.nDigits (parse l).natAbs ≤ 1024 := by
  obtain ⟨h1, h2⟩ := chk_ok (l := l) (by omega)
  rw [h] at h2
  refine ⟨h1, ?_⟩
  split at h2 <;> omega

/-- Numbers below a power of ten have few words. -/
theorem sm_of_lt {z : Int} {d k : Nat} (h : z.natAbs < 10 ^ d) (hd : d ≤ 9 * k) : Sm z k := by
  unfold Sm
  refine dig_length_le (by omega) k _ ?_
  rw [pow9]
  exact Nat.lt_of_lt_of_le h (Nat.pow_le_pow_right (by omega) (by omega))

theorem chk_lt (l : List UInt8) (h : chk l = 0) (d : Nat) (hd : d = 1024) : (parse l).natAbs < 10 ^ d :=
  Nat.lt_of_lt_of_le (Lib.lt_pow_nDigits _) (Nat.pow_le_pow_right (by omega) (by rw [hd]; exact (chk_cases l h).2))

theorem chk_sm (l : List UInt8) (h : chk l = 0) : Sm (parse l) 114 := sm_of_lt (chk_lt l h _ rfl) (by omega)
theorem Sm.le {z : Int} {k m : Nat} (h : Sm z k) (hk : k ≤ m) : Sm z m := Nat.le_trans h hk

theorem lt_add {x y : Int} {d : Nat} (hx : x.natAbs < 10 ^ d) (hy : y.natAbs < 10 ^ d) : (x + y).natAbs < 10 ^ (d + 1) := by
  rw [Nat.pow_succ]; omega
theorem lt_sub {x y : Int} {d : Nat} (hx : x.natAbs < 10 ^ d) (hy : y.natAbs < 10 ^ d) : (x - y).natAbs < 10 ^ (d + 1) := by
  rw [Nat.pow_succ]; omega
theorem lt_mul {x y : Int} {d e : Nat} (hx : x.natAbs < 10 ^ d) (hy : y.natAbs < 10 ^ e) : (x * y).natAbs < 10 ^ (d + e) := by
  rw [Int.natAbs_mul, Nat.pow_add]
  exact Nat.mul_lt_mul_of_lt_of_lt hx hy

/-- read -/
theorem read_any (s : ByteArray) (hs : s.size ≤ 9223372036854775807) (w : World) : Calls Tryz.prog 96 #[.string s] w (RdOut w s) := by
  by_cases h : chk s.data.toList = 0
  · obtain ⟨h1, h2⟩ := chk_cases _ h
    refine (callsIn_wide.1 (read_ok s (parse s.data.toList) h1.symm h2 w)).mono ?_
    rintro e w' ⟨v, rfl, hn, hb⟩
    obtain ⟨b, a, k, p, rfl⟩ := hn.sh
    exact ⟨b, a, k, p, by rw [h]; rfl, hb, fun _ => hn, fun hh => absurd h hh⟩
  · refine (read_err s hs h w).mono ?_
    rintro e w' ⟨rfl, hb⟩
    exact ⟨false, none, 0, 0, rfl, hb, fun hh => absurd hh h, fun _ => ⟨rfl, rfl, rfl, rfl⟩⟩

/-- What a function with a text and an error hands back. -/
def TextOut (w : World) (t : List UInt8) (c : Nat) (e : Ending) (w' : World) : Prop := e = .returned (.tuple #[str t, .int .i64 ((c : Nat) : Int)]) ∧ Below w.heap.size w w'

/-- The result of an operation on two texts: the first error, or the text of the result. -/
def op2 (f : Int → Int → Int) (l m : List UInt8) : List UInt8 × Nat :=
  if chk l ≠ 0 then ([], chk l) else if chk m ≠ 0 then ([], chk m) else (tx (f (parse l) (parse m)), te (f (parse l) (parse m)))
def op1 (f : Int → Int) (l : List UInt8) : List UInt8 × Nat :=
  if chk l ≠ 0 then ([], chk l) else (tx (f (parse l)), te (f (parse l)))

set_option maxRecDepth 100000 in
set_option maxHeartbeats 1600000 in
theorem neg_ok (s : ByteArray) (hs : s.size ≤ 9223372036854775807) (h0 : chk s.data.toList = 0) (w : World) (hT : Tab w) :
    Calls Tryz.prog 120 #[.string s] w (TextOut w (tx (- (parse s.data.toList))) (te (- (parse s.data.toList)))) := by
  have HT := Lib.hid hT
  obtain ⟨t, ht⟩ : ∃ t, t = tx (- (parse s.data.toList)) := ⟨_, rfl⟩
  obtain ⟨c, hc⟩ : ∃ c, c = te (- (parse s.data.toList)) := ⟨_, rfl⟩
  rw [← ht, ← hc]
  have HSM : Hid (Sm (- (parse s.data.toList)) 4294967295) := (by unfold Hid; exact Sm.le (by have := chk_sm _ h0; unfold Sm at *; rw [Int.natAbs_neg]; exact this) (by omega))
  have HC := Lib.hid h0
  clear hT h0
  generalize hz : parse s.data.toList = z at *
  have HZ := Lib.hid hz
  have HTX := Lib.hid ht
  have HTE := Lib.hid hc
  clear hz ht hc
  go_enter Tryz.func120, Tryz.ntmps120
  go_wp2_with fail
  refine (read_any s hs _).mono ?_
  rintro e w1 ⟨b, a, k, p, rfl, hb, hok, -⟩
  have hok := hok HC.out
  rw [HZ.out] at hok
  rw [HC.out]
  have HOK : Hid (Nm (w1.alloc (.cells #[.bool b, .slice a k p] 104)) (.agg #[.bool b, .slice a k p]) z) := hok.keep (below1 _ _)
  clear hok
  go_wp2_with fail
  refine (nopposite_any _ z _ HOK.out).mono ?_
  rintro e w2 ⟨v, rfl, hn, hb2⟩
  obtain ⟨b', a', k', p', rfl⟩ := hn.sh
  have hbl : Below w.heap.size w w2 := (hb.alloc hb.size _).trans (hb2.mono (by rw [World.size_alloc]; have := hb.size; omega))
  go_wp2_with fail
  refine (text_any _ _ _ hn HSM.out (HT.out.keep hbl)).mono ?_
  rintro e w3 ⟨he, hb3⟩
  rw [← HTX.out, ← HTE.out] at he
  subst he
  go_wp2
  go_ret2
  exact ⟨rfl, hbl.trans (hb3.mono hbl.size)⟩

end Go.Proofs.YtnfmcdfdbipeoaaGreatDoor

namespace Go.Proofs.YtnfmcdfdbipeoaaGreatDoor
open Go.RowKit Go.Proofs.Num

def IntOut (w : World) (z : Int) (c : Nat) (e : Ending) (w' : World) : Prop := e = .returned (.tuple #[.int .i64 z, .int .i64 ((c : Nat) : Int)]) ∧ Below w.heap.size w w'

set_option maxRecDepth 100000 in
set_option maxHeartbeats 1600000 in
theorem neg_err (s : ByteArray) (hs : s.size ≤ 9223372036854775807) (h0 : chk s.data.toList ≠ 0) (w : World) :
    Calls Tryz.prog 120 #[.string s] w (TextOut w [] (chk s.data.toList)) := by
  obtain ⟨c, hcc⟩ : ∃ c, c = chk s.data.toList := ⟨_, rfl⟩
  have hne : ((c : Int) == 0) = false := by simp; omega
  have hne2 : ((c : Int) != 0) = true := by simp; omega
  rw [← hcc]
  have HC := Lib.hid hcc
  have H0 := Lib.hid h0
  clear hcc h0
  go_enter Tryz.func120, Tryz.ntmps120
  go_wp2_with fail
  refine (read_any s hs _).mono ?_
  rintro e w1 ⟨b, a, k, p, rfl, hb, -, -⟩
  rw [← HC.out]
  go_wp2
  go_ret2
  exact ⟨rfl, hb.alloc hb.size _⟩

set_option maxRecDepth 100000 in
set_option maxHeartbeats 1600000 in
theorem sgn_err (s : ByteArray) (hs : s.size ≤ 9223372036854775807) (h0 : chk s.data.toList ≠ 0) (w : World) :
    Calls Tryz.prog 87 #[.string s] w (IntOut w 0 (chk s.data.toList)) := by
  obtain ⟨c, hcc⟩ : ∃ c, c = chk s.data.toList := ⟨_, rfl⟩
  have hne : ((c : Int) == 0) = false := by simp; omega
  have hne2 : ((c : Int) != 0) = true := by simp; omega
  rw [← hcc]
  have HC := Lib.hid hcc
  have H0 := Lib.hid h0
  clear hcc h0
  go_enter Tryz.func87, Tryz.ntmps87
  go_wp2_with fail
  refine (read_any s hs _).mono ?_
  rintro e w1 ⟨b, a, k, p, rfl, hb, -, -⟩
  rw [← HC.out]
  go_wp2
  go_ret2
  exact ⟨rfl, hb.alloc hb.size _⟩

set_option maxRecDepth 100000 in
set_option maxHeartbeats 1600000 in
theorem sgn_ok (s : ByteArray) (hs : s.size ≤ 9223372036854775807) (h0 : chk s.data.toList = 0) (w : World) :
    Calls Tryz.prog 87 #[.string s] w (IntOut w (sgn (parse s.data.toList)) 0) := by
  have HC := Lib.hid h0
  clear h0
  generalize hz : parse s.data.toList = z at *
  have HZ := Lib.hid hz
  clear hz
  go_enter Tryz.func87, Tryz.ntmps87
  go_wp2_with fail
  refine (read_any s hs _).mono ?_
  rintro e w1 ⟨b, a, k, p, rfl, hb, hok, -⟩
  have hok := hok HC.out
  rw [HZ.out] at hok
  rw [HC.out]
  have HOK : Hid (Nm (w1.alloc (.cells #[.bool b, .slice a k p] 104)) (.agg #[.bool b, .slice a k p]) z) := hok.keep (below1 _ _)
  clear hok
  go_wp2_with fail
  refine (nsign_any _ z _ HOK.out).mono ?_
  rintro e w2 ⟨rfl, hb2⟩
  go_wp2
  go_ret2
  exact ⟨rfl, (hb.alloc hb.size _).trans (hb2.mono (hb.alloc hb.size _).size)⟩

end Go.Proofs.YtnfmcdfdbipeoaaGreatDoor

namespace Go.Proofs.YtnfmcdfdbipeoaaGreatDoor
open Go.RowKit Go.Proofs.Num

theorem chk_ex (l : List UInt8) (h : chk l = 0) : ∃ d : Nat, d = 1024 ∧ (parse l).natAbs < 10 ^ d := by
  obtain ⟨d, hd⟩ : ∃ d : Nat, d = 1024 := ⟨_, rfl⟩
  exact ⟨d, hd, chk_lt _ h d hd⟩

set_option maxRecDepth 100000 in
set_option maxHeartbeats 1600000 in
theorem applied_err (u : Value) (s : ByteArray) (hs : s.size ≤ 9223372036854775807) (h0 : chk s.data.toList ≠ 0) (w : World) :
    Calls Tryz.prog 97 #[u, .string s] w (TextOut w [] (chk s.data.toList)) := by
  obtain ⟨c, hcc⟩ : ∃ c, c = chk s.data.toList := ⟨_, rfl⟩
  have hne : ((c : Int) == 0) = false := by simp; omega
  have hne2 : ((c : Int) != 0) = true := by simp; omega
  rw [← hcc]
  have HC := Lib.hid hcc
  have H0 := Lib.hid h0
  clear hcc h0
  go_enter Tryz.func97, Tryz.ntmps97
  go_wp2_with fail
  refine (read_any s hs _).mono ?_
  rintro e w1 ⟨b, a, k, p, rfl, hb, -, -⟩
  rw [← HC.out]
  go_wp2
  go_ret2
  exact ⟨rfl, hb.alloc hb.size _⟩

set_option maxRecDepth 100000 in
set_option maxHeartbeats 1600000 in
theorem applied_add (v : Value) (x : Int) (s : ByteArray) (hs : s.size ≤ 9223372036854775807) (h0 : chk s.data.toList = 0) (w : World) (hv : Nm w v x) (hx : ∃ d : Nat, d = 1024 ∧ x.natAbs < 10 ^ d) (hT : Tab w) :
    Calls Tryz.prog 97 #[.func (.func 144) #[v] #[], .string s] w (TextOut w (tx (x + parse s.data.toList)) (te (x + parse s.data.toList))) := by
  obtain ⟨d, hd, hx⟩ := hx
  have hy : (parse s.data.toList).natAbs < 10 ^ d := chk_lt _ h0 _ hd
  have HSX : Hid (Sm x 1000) := sm_of_lt hx (by omega)
  have HSY : Hid (Sm (parse s.data.toList) 1000) := sm_of_lt hy (by omega)
  have HSM : Hid (Sm (x + parse s.data.toList) 4294967295) := Sm.le (sm_of_lt (lt_add hx hy) (k := 1000) (by omega)) (by omega)
  have HT := Lib.hid hT
  have HV := Lib.hid hv
  obtain ⟨b0, a0, k0, p0, rfl⟩ := hv.sh
  obtain ⟨t, ht⟩ : ∃ t, t = tx (x + parse s.data.toList) := ⟨_, rfl⟩
  obtain ⟨c, hc⟩ : ∃ c, c = te (x + parse s.data.toList) := ⟨_, rfl⟩
  rw [← ht, ← hc]
  have HC := Lib.hid h0
  clear hT h0 hy hx hd hv
  generalize hz : parse s.data.toList = y at *
  have HZ := Lib.hid hz
  have HTX := Lib.hid ht
  have HTE := Lib.hid hc
  clear hz ht hc
  go_enter Tryz.func97, Tryz.ntmps97
  go_wp2_with fail
  refine (read_any s hs _).mono ?_
  rintro e w1 ⟨b, a, k, p, rfl, hb, hok, -⟩
  have hok := hok HC.out
  rw [HZ.out] at hok
  rw [HC.out]
  have hbl1 : Below w.heap.size w (w1.alloc (.cells #[.bool b, .slice a k p] 104)) := hb.alloc hb.size _
  have HOK : Hid (Nm (w1.alloc (.cells #[.bool b, .slice a k p] 104)) (.agg #[.bool b, .slice a k p]) y) := hok.keep (below1 _ _)
  clear hok
  go_wp2_with fail
  refine (nplus_any _ _ x y _ (HV.out.keep hbl1) HOK.out (Sm.le HSX.out (by omega)) (Sm.le HSY.out (by omega))).mono ?_
  rintro e w2 ⟨v, rfl, hn, hb2⟩
  obtain ⟨b', a', k', p', rfl⟩ := hn.sh
  have hbl : Below w.heap.size w w2 := hbl1.trans (hb2.mono hbl1.size)
  go_wp2_with fail
  refine (text_any _ _ _ hn HSM.out (HT.out.keep hbl)).mono ?_
  rintro e w3 ⟨he, hb3⟩
  rw [← HTX.out, ← HTE.out] at he
  subst he
  go_wp2
  go_ret2
  exact ⟨rfl, hbl.trans (hb3.mono hbl.size)⟩

set_option maxRecDepth 100000 in
set_option maxHeartbeats 1600000 in
theorem add_err1 (s r : ByteArray) (hs : s.size ≤ 9223372036854775807) (h0 : chk s.data.toList ≠ 0) (w : World) :
    Calls Tryz.prog 119 #[.string s, .string r] w (TextOut w [] (chk s.data.toList)) := by
  obtain ⟨c, hcc⟩ : ∃ c, c = chk s.data.toList := ⟨_, rfl⟩
  have hne : ((c : Int) == 0) = false := by simp; omega
  have hne2 : ((c : Int) != 0) = true := by simp; omega
  rw [← hcc]
  have HC := Lib.hid hcc
  have H0 := Lib.hid h0
  clear hcc h0
  go_enter Tryz.func119, Tryz.ntmps119
  go_wp2_with fail
  refine (read_any s hs _).mono ?_
  rintro e w1 ⟨b, a, k, p, rfl, hb, -, -⟩
  rw [← HC.out]
  go_wp2
  go_ret2
  exact ⟨rfl, hb.alloc hb.size _⟩

set_option maxRecDepth 100000 in
set_option maxHeartbeats 1600000 in
theorem add_rest (s r : ByteArray) (hs : s.size ≤ 9223372036854775807) (h0 : chk s.data.toList = 0) (w : World) (t : List UInt8) (c : Nat)
    (hcall : ∀ w1 v, Nm w1 v (parse s.data.toList) → Below w.heap.size w w1 → Calls Tryz.prog 97 #[.func (.func 144) #[v] #[], .string r] w1 (TextOut w1 t c)) :
    Calls Tryz.prog 119 #[.string s, .string r] w (TextOut w t c) := by
  have HC := Lib.hid h0
  clear h0
  generalize hz : parse s.data.toList = z at *
  have HZ := Lib.hid hz
  clear hz
  go_enter Tryz.func119, Tryz.ntmps119
  go_wp2_with fail
  refine (read_any s hs _).mono ?_
  rintro e w1 ⟨b, a, k, p, rfl, hb, hok, -⟩
  have hok := hok HC.out
  rw [HZ.out] at hok
  rw [HC.out]
  have hbl1 : Below w.heap.size w (w1.alloc (.cells #[.bool b, .slice a k p] 104)) := hb.alloc hb.size _
  have HOK : Hid (Nm (w1.alloc (.cells #[.bool b, .slice a k p] 104)) (.agg #[.bool b, .slice a k p]) z) := hok.keep (below1 _ _)
  clear hok
  go_wp2_with fail
  refine (hcall _ _ HOK.out hbl1).mono ?_
  rintro e w3 ⟨rfl, hb3⟩
  go_wp2
  go_ret2
  exact ⟨rfl, hbl1.trans (hb3.mono hbl1.size)⟩

/-- What it hands back for all texts. -/
theorem add_any (s r : ByteArray) (hs : s.size ≤ 9223372036854775807) (hr : r.size ≤ 9223372036854775807) (w : World) (hT : Tab w) :
    Calls Tryz.prog 119 #[.string s, .string r] w (TextOut w (op2 (· + ·) s.data.toList r.data.toList).1 (op2 (· + ·) s.data.toList r.data.toList).2) := by
  unfold op2
  by_cases h1 : chk s.data.toList = 0
  · rw [if_neg (by omega)]
    by_cases h2 : chk r.data.toList = 0
    · rw [if_neg (by omega)]
      exact add_rest s r hs h1 w _ _ fun w1 v hv hb => applied_add v _ r hr h2 w1 hv (chk_ex _ h1) (hT.keep hb)
    · rw [if_pos h2]
      exact add_rest s r hs h1 w _ _ fun w1 v hv hb => applied_err _ r hr h2 w1
  · rw [if_pos h1]
    exact add_err1 s r hs h1 w

set_option maxRecDepth 100000 in
set_option maxHeartbeats 1600000 in
theorem applied_sub (v : Value) (x : Int) (s : ByteArray) (hs : s.size ≤ 9223372036854775807) (h0 : chk s.data.toList = 0) (w : World) (hv : Nm w v x) (hx : ∃ d : Nat, d = 1024 ∧ x.natAbs < 10 ^ d) (hT : Tab w) :
    Calls Tryz.prog 97 #[.func (.func 143) #[v] #[], .string s] w (TextOut w (tx (x - parse s.data.toList)) (te (x - parse s.data.toList))) := by
  obtain ⟨d, hd, hx⟩ := hx
  have hy : (parse s.data.toList).natAbs < 10 ^ d := chk_lt _ h0 _ hd
  have HSX : Hid (Sm x 1000) := sm_of_lt hx (by omega)
  have HSY : Hid (Sm (parse s.data.toList) 1000) := sm_of_lt hy (by omega)
  have HSM : Hid (Sm (x - parse s.data.toList) 4294967295) := Sm.le (sm_of_lt (lt_sub hx hy) (k := 1000) (by omega)) (by omega)
  have HT := Lib.hid hT
  have HV := Lib.hid hv
  obtain ⟨b0, a0, k0, p0, rfl⟩ := hv.sh
  obtain ⟨t, ht⟩ : ∃ t, t = tx (x - parse s.data.toList) := ⟨_, rfl⟩
  obtain ⟨c, hc⟩ : ∃ c, c = te (x - parse s.data.toList) := ⟨_, rfl⟩
  rw [← ht, ← hc]
  have HC := Lib.hid h0
  clear hT h0 hy hx hd hv
  generalize hz : parse s.data.toList = y at *
  have HZ := Lib.hid hz
  have HTX := Lib.hid ht
  have HTE := Lib.hid hc
  clear hz ht hc
  go_enter Tryz.func97, Tryz.ntmps97
  go_wp2_with fail
  refine (read_any s hs _).mono ?_
  rintro e w1 ⟨b, a, k, p, rfl, hb, hok, -⟩
  have hok := hok HC.out
  rw [HZ.out] at hok
  rw [HC.out]
  have hbl1 : Below w.heap.size w (w1.alloc (.cells #[.bool b, .slice a k p] 104)) := hb.alloc hb.size _
  have HOK : Hid (Nm (w1.alloc (.cells #[.bool b, .slice a k p] 104)) (.agg #[.bool b, .slice a k p]) y) := hok.keep (below1 _ _)
  clear hok
  go_wp2_with fail
  refine (nminus_any _ _ x y _ (HV.out.keep hbl1) HOK.out (Sm.le HSX.out (by omega)) (Sm.le HSY.out (by omega))).mono ?_
  rintro e w2 ⟨v, rfl, hn, hb2⟩
  obtain ⟨b', a', k', p', rfl⟩ := hn.sh
  have hbl : Below w.heap.size w w2 := hbl1.trans (hb2.mono hbl1.size)
  go_wp2_with fail
  refine (text_any _ _ _ hn HSM.out (HT.out.keep hbl)).mono ?_
  rintro e w3 ⟨he, hb3⟩
  rw [← HTX.out, ← HTE.out] at he
  subst he
  go_wp2
  go_ret2
  exact ⟨rfl, hbl.trans (hb3.mono hbl.size)⟩

set_option maxRecDepth 100000 in
set_option maxHeartbeats 1600000 in
theorem sub_err1 (s r : ByteArray) (hs : s.size ≤ 9223372036854775807) (h0 : chk s.data.toList ≠ 0) (w : World) :
    Calls Tryz.prog 118 #[.string s, .string r] w (TextOut w [] (chk s.data.toList)) := by
  obtain ⟨c, hcc⟩ : ∃ c, c = chk s.data.toList := ⟨_, rfl⟩
  have hne : ((c : Int) == 0) = false := by simp; omega
  have hne2 : ((c : Int) != 0) = true := by simp; omega
  rw [← hcc]
  have HC := Lib.hid hcc
  have H0 := Lib.hid h0
  clear hcc h0
  go_enter Tryz.func118, Tryz.ntmps118
  go_wp2_with fail
  refine (read_any s hs _).mono ?_
  rintro e w1 ⟨b, a, k, p, rfl, hb, -, -⟩
  rw [← HC.out]
  go_wp2
  go_ret2
  exact ⟨rfl, hb.alloc hb.size _⟩

set_option maxRecDepth 100000 in
set_option maxHeartbeats 1600000 in
theorem sub_rest (s r : ByteArray) (hs : s.size ≤ 9223372036854775807) (h0 : chk s.data.toList = 0) (w : World) (t : List UInt8) (c : Nat)
    (hcall : ∀ w1 v, Nm w1 v (parse s.data.toList) → Below w.heap.size w w1 → Calls Tryz.prog 97 #[.func (.func 143) #[v] #[], .string r] w1 (TextOut w1 t c)) :
    Calls Tryz.prog 118 #[.string s, .string r] w (TextOut w t c) := by
  have HC := Lib.hid h0
  clear h0
  generalize hz : parse s.data.toList = z at *
  have HZ := Lib.hid hz
  clear hz
  go_enter Tryz.func118, Tryz.ntmps118
  go_wp2_with fail
  refine (read_any s hs _).mono ?_
  rintro e w1 ⟨b, a, k, p, rfl, hb, hok, -⟩
  have hok := hok HC.out
  rw [HZ.out] at hok
  rw [HC.out]
  have hbl1 : Below w.heap.size w (w1.alloc (.cells #[.bool b, .slice a k p] 104)) := hb.alloc hb.size _
  have HOK : Hid (Nm (w1.alloc (.cells #[.bool b, .slice a k p] 104)) (.agg #[.bool b, .slice a k p]) z) := hok.keep (below1 _ _)
  clear hok
  go_wp2_with fail
  refine (hcall _ _ HOK.out hbl1).mono ?_
  rintro e w3 ⟨rfl, hb3⟩
  go_wp2
  go_ret2
  exact ⟨rfl, hbl1.trans (hb3.mono hbl1.size)⟩

/-- What it hands back for all texts. -/
theorem sub_any (s r : ByteArray) (hs : s.size ≤ 9223372036854775807) (hr : r.size ≤ 9223372036854775807) (w : World) (hT : Tab w) :
    Calls Tryz.prog 118 #[.string s, .string r] w (TextOut w (op2 (· - ·) s.data.toList r.data.toList).1 (op2 (· - ·) s.data.toList r.data.toList).2) := by
  unfold op2
  by_cases h1 : chk s.data.toList = 0
  · rw [if_neg (by omega)]
    by_cases h2 : chk r.data.toList = 0
    · rw [if_neg (by omega)]
      exact sub_rest s r hs h1 w _ _ fun w1 v hv hb => applied_sub v _ r hr h2 w1 hv (chk_ex _ h1) (hT.keep hb)
    · rw [if_pos h2]
      exact sub_rest s r hs h1 w _ _ fun w1 v hv hb => applied_err _ r hr h2 w1
  · rw [if_pos h1]
    exact sub_err1 s r hs h1 w

set_option maxRecDepth 100000 in
set_option maxHeartbeats 1600000 in
theorem applied_mul (v : Value) (x : Int) (s : ByteArray) (hs : s.size ≤ 9223372036854775807) (h0 : chk s.data.toList = 0) (w : World) (hv : Nm w v x) (hx : ∃ d : Nat, d = 1024 ∧ x.natAbs < 10 ^ d) (hT : Tab w) :
    Calls Tryz.prog 97 #[.func (.func 98) #[v] #[], .string s] w (TextOut w (tx (x * parse s.data.toList)) (te (x * parse s.data.toList))) := by
  obtain ⟨d, hd, hx⟩ := hx
  have hy : (parse s.data.toList).natAbs < 10 ^ d := chk_lt _ h0 _ hd
  have HSX : Hid (Sm x 1000) := sm_of_lt hx (by omega)
  have HSY : Hid (Sm (parse s.data.toList) 1000) := sm_of_lt hy (by omega)
  have HSM : Hid (Sm (x * parse s.data.toList) 4294967295) := Sm.le (sm_of_lt (lt_mul hx hy) (k := 1000) (by omega)) (by omega)
  have HT := Lib.hid hT
  have HV := Lib.hid hv
  obtain ⟨b0, a0, k0, p0, rfl⟩ := hv.sh
  obtain ⟨t, ht⟩ : ∃ t, t = tx (x * parse s.data.toList) := ⟨_, rfl⟩
  obtain ⟨c, hc⟩ : ∃ c, c = te (x * parse s.data.toList) := ⟨_, rfl⟩
  rw [← ht, ← hc]
  have HC := Lib.hid h0
  clear hT h0 hy hx hd hv
  generalize hz : parse s.data.toList = y at *
  have HZ := Lib.hid hz
  have HTX := Lib.hid ht
  have HTE := Lib.hid hc
  clear hz ht hc
  go_enter Tryz.func97, Tryz.ntmps97
  go_wp2_with fail
  refine (read_any s hs _).mono ?_
  rintro e w1 ⟨b, a, k, p, rfl, hb, hok, -⟩
  have hok := hok HC.out
  rw [HZ.out] at hok
  rw [HC.out]
  have hbl1 : Below w.heap.size w (w1.alloc (.cells #[.bool b, .slice a k p] 104)) := hb.alloc hb.size _
  have HOK : Hid (Nm (w1.alloc (.cells #[.bool b, .slice a k p] 104)) (.agg #[.bool b, .slice a k p]) y) := hok.keep (below1 _ _)
  clear hok
  go_wp2_with fail
  refine (ntimes_any _ _ x y _ (HV.out.keep hbl1) HOK.out (Sm.le HSX.out (by omega)) (Sm.le HSY.out (by omega))).mono ?_
  rintro e w2 ⟨v, rfl, hn, hb2⟩
  obtain ⟨b', a', k', p', rfl⟩ := hn.sh
  have hbl : Below w.heap.size w w2 := hbl1.trans (hb2.mono hbl1.size)
  go_wp2_with fail
  refine (text_any _ _ _ hn HSM.out (HT.out.keep hbl)).mono ?_
  rintro e w3 ⟨he, hb3⟩
  rw [← HTX.out, ← HTE.out] at he
  subst he
  go_wp2
  go_ret2
  exact ⟨rfl, hbl.trans (hb3.mono hbl.size)⟩

set_option maxRecDepth 100000 in
set_option maxHeartbeats 1600000 in
theorem mul_err1 (s r : ByteArray) (hs : s.size ≤ 9223372036854775807) (h0 : chk s.data.toList ≠ 0) (w : World) :
    Calls Tryz.prog 49 #[.string s, .string r] w (TextOut w [] (chk s.data.toList)) := by
  obtain ⟨c, hcc⟩ : ∃ c, c = chk s.data.toList := ⟨_, rfl⟩
  have hne : ((c : Int) == 0) = false := by simp; omega
  have hne2 : ((c : Int) != 0) = true := by simp; omega
  rw [← hcc]
  have HC := Lib.hid hcc
  have H0 := Lib.hid h0
  clear hcc h0
  go_enter Tryz.func49, Tryz.ntmps49
  go_wp2_with fail
  refine (read_any s hs _).mono ?_
  rintro e w1 ⟨b, a, k, p, rfl, hb, -, -⟩
  rw [← HC.out]
  go_wp2
  go_ret2
  exact ⟨rfl, hb.alloc hb.size _⟩

set_option maxRecDepth 100000 in
set_option maxHeartbeats 1600000 in
theorem mul_rest (s r : ByteArray) (hs : s.size ≤ 9223372036854775807) (h0 : chk s.data.toList = 0) (w : World) (t : List UInt8) (c : Nat)
    (hcall : ∀ w1 v, Nm w1 v (parse s.data.toList) → Below w.heap.size w w1 → Calls Tryz.prog 97 #[.func (.func 98) #[v] #[], .string r] w1 (TextOut w1 t c)) :
    Calls Tryz.prog 49 #[.string s, .string r] w (TextOut w t c) := by
  have HC := Lib.hid h0
  clear h0
  generalize hz : parse s.data.toList = z at *
  have HZ := Lib.hid hz
  clear hz
  go_enter Tryz.func49, Tryz.ntmps49
  go_wp2_with fail
  refine (read_any s hs _).mono ?_
  rintro e w1 ⟨b, a, k, p, rfl, hb, hok, -⟩
  have hok := hok HC.out
  rw [HZ.out] at hok
  rw [HC.out]
  have hbl1 : Below w.heap.size w (w1.alloc (.cells #[.bool b, .slice a k p] 104)) := hb.alloc hb.size _
  have HOK : Hid (Nm (w1.alloc (.cells #[.bool b, .slice a k p] 104)) (.agg #[.bool b, .slice a k p]) z) := hok.keep (below1 _ _)
  clear hok
  go_wp2_with fail
  refine (hcall _ _ HOK.out hbl1).mono ?_
  rintro e w3 ⟨rfl, hb3⟩
  go_wp2
  go_ret2
  exact ⟨rfl, hbl1.trans (hb3.mono hbl1.size)⟩

/-- What it hands back for all texts. -/
theorem mul_any (s r : ByteArray) (hs : s.size ≤ 9223372036854775807) (hr : r.size ≤ 9223372036854775807) (w : World) (hT : Tab w) :
    Calls Tryz.prog 49 #[.string s, .string r] w (TextOut w (op2 (· * ·) s.data.toList r.data.toList).1 (op2 (· * ·) s.data.toList r.data.toList).2) := by
  unfold op2
  by_cases h1 : chk s.data.toList = 0
  · rw [if_neg (by omega)]
    by_cases h2 : chk r.data.toList = 0
    · rw [if_neg (by omega)]
      exact mul_rest s r hs h1 w _ _ fun w1 v hv hb => applied_mul v _ r hr h2 w1 hv (chk_ex _ h1) (hT.keep hb)
    · rw [if_pos h2]
      exact mul_rest s r hs h1 w _ _ fun w1 v hv hb => applied_err _ r hr h2 w1
  · rw [if_pos h1]
    exact mul_err1 s r hs h1 w

end Go.Proofs.YtnfmcdfdbipeoaaGreatDoor

namespace Go.Proofs.YtnfmcdfdbipeoaaGreatDoor
open Go.RowKit Go.Proofs.Num

/-- The first error of two texts. -/
def chk2 (l m : List UInt8) : Nat := if chk l ≠ 0 then chk l else chk m

/-- What reading two texts hands back. -/
def Rd2Out (w : World) (l m : List UInt8) (e : Ending) (w' : World) : Prop :=
  ∃ v1 v2, e = .returned (.tuple #[v1, v2, .int .i64 ((chk2 l m : Nat) : Int)]) ∧ Below w.heap.size w w' ∧ (∃ b a k p, v1 = .agg #[.bool b, .slice a k p]) ∧ (∃ b a k p, v2 = .agg #[.bool b, .slice a k p]) ∧
    (chk2 l m = 0 → Nm w' v1 (parse l) ∧ Nm w' v2 (parse m))

set_option maxRecDepth 100000 in
set_option maxHeartbeats 3200000 in
theorem readTwo_err1 (s r : ByteArray) (hs : s.size ≤ 9223372036854775807) (h0 : chk s.data.toList ≠ 0) (w : World) :
    Calls Tryz.prog 99 #[.string s, .string r] w fun e w' => e = .returned (.tuple #[.agg #[.bool false, .slice none 0 0], .agg #[.bool false, .slice none 0 0], .int .i64 ((chk s.data.toList : Nat) : Int)]) ∧ Below w.heap.size w w' := by
  obtain ⟨c, hcc⟩ : ∃ c, c = chk s.data.toList := ⟨_, rfl⟩
  have hne : ((c : Int) == 0) = false := by simp; omega
  have hne2 : ((c : Int) != 0) = true := by simp; omega
  rw [← hcc]
  obtain ⟨W, hW, hA, hB, hBl, hsz⟩ := boxes2 w (.bool false) (.slice none 0 0) (.bool false) (.slice none 0 0)
  have HC := Lib.hid hcc
  have H0 := Lib.hid h0
  have HW := Lib.hid hW
  have HA := Lib.hid hA
  have HB := Lib.hid hB
  have HZ := Lib.hid hsz
  clear hcc h0 hA hB hW hsz
  go_enter Tryz.func99, Tryz.ntmps99
  go_wp2_with fail
  rw [← HW.out]
  refine (read_any s hs _).mono ?_
  rintro e w1 ⟨b, a, k, p, rfl, hb, -, -⟩
  rw [← HC.out]
  have hA1 := HA.out.keep (hb.alloc hb.size (.cells #[.bool b, .slice a k p] 104))
  have hB1 := HB.out.keep (hb.alloc hb.size (.cells #[.bool b, .slice a k p] 104))
  have a0 := hA1.c0; have a1 := hA1.c1; have b0 := hB1.c0; have b1 := hB1.c1; have a2 := hA1.f0 0; have a3 := hA1.f0 1; have b2 := hB1.f0 0; have b3 := hB1.f0 1
  have hK : Kept [w.heap.size, w.heap.size + 1] (w1.alloc (.cells #[.bool b, .slice a k p] 104)) (w1.alloc (.cells #[.bool b, .slice a k p] 104)) := Kept.start (by intro r hr; simp at hr; rcases hr with rfl | rfl; exact ⟨_, _, hA1⟩; exact ⟨_, _, hB1⟩)
  have HK := Lib.hid hK
  clear hA1 hB1 hK
  go_wp2
  exact bodyPost_ret (v := .tuple #[.agg #[.bool false, .slice none 0 0], .agg #[.bool false, .slice none 0 0], .int .i64 (c : Int)]) (by simp [results, Tryz.results99, go_sem, a0, a1, b0, b1]) rfl
    ⟨rfl, (Kept.store (Kept.store HK.out _ _ _ (by simp)) _ _ _ (by simp)).from (hBl.trans ((hb.alloc hb.size _).mono hBl.size)) (by simp)⟩

set_option maxRecDepth 100000 in
set_option maxHeartbeats 3200000 in
theorem readTwo_err2 (s r : ByteArray) (hs : s.size ≤ 9223372036854775807) (hr : r.size ≤ 9223372036854775807) (h0 : chk s.data.toList = 0) (h1 : chk r.data.toList ≠ 0) (w : World) :
    Calls Tryz.prog 99 #[.string s, .string r] w fun e w' => e = .returned (.tuple #[.agg #[.bool false, .slice none 0 0], .agg #[.bool false, .slice none 0 0], .int .i64 ((chk r.data.toList : Nat) : Int)]) ∧ Below w.heap.size w w' := by
  obtain ⟨c, hcc⟩ : ∃ c, c = chk r.data.toList := ⟨_, rfl⟩
  have hne : ((c : Int) == 0) = false := by simp; omega
  have hne2 : ((c : Int) != 0) = true := by simp; omega
  rw [← hcc]
  obtain ⟨W, hW, hA, hB, hBl, hsz⟩ := boxes2 w (.bool false) (.slice none 0 0) (.bool false) (.slice none 0 0)
  have HC := Lib.hid hcc
  have H0 := Lib.hid h0
  have HW := Lib.hid hW
  have HA := Lib.hid hA
  have HB := Lib.hid hB
  have HZ := Lib.hid hsz
  clear hcc h0 h1 hA hB hW hsz
  go_enter Tryz.func99, Tryz.ntmps99
  go_wp2_with fail
  rw [← HW.out]
  refine (read_any s hs _).mono ?_
  rintro e w1 ⟨b, a, k, p, rfl, hb, -, -⟩
  rw [H0.out]
  have hb1 : Below W.heap.size W (w1.alloc (.cells #[.bool b, .slice a k p] 104)) := hb.alloc hb.size _
  go_wp2_with fail
  refine (read_any r hr _).mono ?_
  rintro e w2 ⟨b', a', k', p', rfl, hb2, -, -⟩
  rw [← HC.out]
  have hb3 : Below W.heap.size W (w2.alloc (.cells #[.bool b', .slice a' k' p'] 104)) := hb1.trans ((hb2.alloc hb2.size _).mono hb1.size)
  have hA1 := HA.out.keep hb3
  have hB1 := HB.out.keep hb3
  have a0 := hA1.c0; have a1 := hA1.c1; have b0 := hB1.c0; have b1 := hB1.c1; have a2 := hA1.f0 0; have a3 := hA1.f0 1; have b2 := hB1.f0 0; have b3 := hB1.f0 1
  have hK : Kept [w.heap.size, w.heap.size + 1] (w2.alloc (.cells #[.bool b', .slice a' k' p'] 104)) (w2.alloc (.cells #[.bool b', .slice a' k' p'] 104)) := Kept.start (by intro r hr; simp at hr; rcases hr with rfl | rfl; exact ⟨_, _, hA1⟩; exact ⟨_, _, hB1⟩)
  have HK := Lib.hid hK
  clear hA1 hB1 hK
  go_wp2
  exact bodyPost_ret (v := .tuple #[.agg #[.bool false, .slice none 0 0], .agg #[.bool false, .slice none 0 0], .int .i64 (c : Int)]) (by simp [results, Tryz.results99, go_sem, a0, a1, b0, b1]) rfl
    ⟨rfl, (Kept.store (Kept.store HK.out _ _ _ (by simp)) _ _ _ (by simp)).from (hBl.trans (hb3.mono hBl.size)) (by simp)⟩

set_option maxRecDepth 100000 in
set_option maxHeartbeats 3200000 in
theorem readTwo_ok (s r : ByteArray) (hs : s.size ≤ 9223372036854775807) (hr : r.size ≤ 9223372036854775807) (h0 : chk s.data.toList = 0) (h1 : chk r.data.toList = 0) (w : World) :
    Calls Tryz.prog 99 #[.string s, .string r] w fun e w' => ∃ b1 a1 k1 p1 b2 a2 k2 p2, e = .returned (.tuple #[.agg #[.bool b1, .slice a1 k1 p1], .agg #[.bool b2, .slice a2 k2 p2], .int .i64 0]) ∧ Below w.heap.size w w' ∧
      Nm w' (.agg #[.bool b1, .slice a1 k1 p1]) (parse s.data.toList) ∧ Nm w' (.agg #[.bool b2, .slice a2 k2 p2]) (parse r.data.toList) := by
  obtain ⟨W, hW, hA, hB, hBl, hsz⟩ := boxes2 w (.bool false) (.slice none 0 0) (.bool false) (.slice none 0 0)
  have HC := Lib.hid h1
  have H0 := Lib.hid h0
  have HW := Lib.hid hW
  have HA := Lib.hid hA
  have HB := Lib.hid hB
  have HZ := Lib.hid hsz
  clear h0 h1 hA hB hW hsz
  generalize hx : parse s.data.toList = x at *
  generalize hy : parse r.data.toList = y at *
  have HX := Lib.hid hx
  have HY := Lib.hid hy
  clear hx hy
  go_enter Tryz.func99, Tryz.ntmps99
  go_wp2_with fail
  rw [← HW.out]
  refine (read_any s hs _).mono ?_
  rintro e w1 ⟨b, a, k, p, rfl, hb, hok, -⟩
  have hok := hok H0.out
  rw [HX.out] at hok
  rw [H0.out]
  have hb1 : Below W.heap.size W (w1.alloc (.cells #[.bool b, .slice a k p] 104)) := hb.alloc hb.size _
  have hX : Nm (w1.alloc (.cells #[.bool b, .slice a k p] 104)) (.agg #[.bool b, .slice a k p]) x := hok.keep (below1 _ _)
  have hC : Box 104 (w1.alloc (.cells #[.bool b, .slice a k p] 104)) w1.heap.size (.bool b) (.slice a k p) := Box.new _ _ _ _
  have HXN := Lib.hid hX
  have HCB := Lib.hid hC
  clear hX hC hok
  go_wp2_with fail
  refine (read_any r hr _).mono ?_
  rintro e w2 ⟨b', a', k', p', rfl, hb2, hok, -⟩
  have hok := hok HC.out
  rw [HY.out] at hok
  rw [HC.out]
  obtain ⟨W3, hW3⟩ : ∃ W3, W3 = w2.alloc (.cells #[.bool b', .slice a' k' p'] 104) := ⟨_, rfl⟩
  have hb23 : Below (w1.alloc (.cells #[.bool b, .slice a k p] 104)).heap.size (w1.alloc (.cells #[.bool b, .slice a k p] 104)) W3 := by rw [hW3]; exact hb2.alloc hb2.size _
  have hb3 : Below W.heap.size W W3 := hb1.trans (hb23.mono hb1.size)
  have hY : Nm W3 (.agg #[.bool b', .slice a' k' p']) y := by rw [hW3]; exact hok.keep (below1 _ _)
  have hX3 : Nm W3 (.agg #[.bool b, .slice a k p]) x := HXN.out.keep hb23
  have hA1 := HA.out.keep hb3
  have hB1 := HB.out.keep hb3
  have hC1 := HCB.out.keep hb23
  have hD1 : Box 104 W3 w2.heap.size (.bool b') (.slice a' k' p') := by rw [hW3]; exact Box.new _ _ _ _
  have hs2 : w.heap.size + 1 + 1 ≤ w1.heap.size := by rw [← HZ.out]; exact hb.size
  have hs3 : w.heap.size + 1 + 1 ≤ w2.heap.size := by have := hb2.size; rw [World.size_alloc] at this; omega
  have hK : Kept [w.heap.size, w.heap.size + 1] W3 W3 := Kept.start (by intro r hr; simp at hr; rcases hr with rfl | rfl; exact ⟨_, _, hA1⟩; exact ⟨_, _, hB1⟩)
  have HS : Hid (∀ u, Kept [w.heap.size, w.heap.size + 1] W3 u → (Kept [w.heap.size, w.heap.size + 1] W3 u ∧ u.cell? ⟨w1.heap.size, 0, none⟩ = some (.bool b) ∧ u.cell? ⟨w1.heap.size, 1, none⟩ = some (.slice a k p) ∧ u.cell? ⟨w2.heap.size, 0, none⟩ = some (.bool b') ∧ u.cell? ⟨w2.heap.size, 1, none⟩ = some (.slice a' k' p'))) :=
    fun u hu => ⟨hu, (hu.box hC1 (by simp; omega)).c0, (hu.box hC1 (by simp; omega)).c1, (hu.box hD1 (by simp; omega)).c0, (hu.box hD1 (by simp; omega)).c1⟩
  have HW3 := Lib.hid hW3
  have HN : Hid (Nm W3 (.agg #[.bool b, .slice a k p]) x ∧ Nm W3 (.agg #[.bool b', .slice a' k' p']) y ∧ Box 104 W3 w.heap.size (.bool false) (.slice none 0 0) ∧ Box 104 W3 (w.heap.size + 1) (.bool false) (.slice none 0 0)) := ⟨hX3, hY, hA1, hB1⟩
  have HK := Lib.hid hK
  clear hW3 hY hX3 hA1 hB1 hC1 hD1 hK hok
  go_wp2_with fail
  rw [← HW3.out]
  have hK1 := HK.out.drew
  obtain ⟨_, d1, d2, d3, d4⟩ := HS.out _ HK.out
  have a0 := HN.out.2.2.1.c0; have a1 := HN.out.2.2.1.c1; have b0 := HN.out.2.2.2.c0; have b1 := HN.out.2.2.2.c1; have a2 := HN.out.2.2.1.f0 0; have a3 := HN.out.2.2.1.f0 1; have b2 := HN.out.2.2.2.f0 0; have b3 := HN.out.2.2.2.f0 1
  have q1 : ¬ (w.heap.size = w1.heap.size) := by omega
  have q2 : ¬ (w.heap.size = w2.heap.size) := by omega
  have q3 : ¬ (w.heap.size + 1 = w1.heap.size) := by omega
  have q4 : ¬ (w.heap.size + 1 = w2.heap.size) := by omega
  have q5 : ¬ (w1.heap.size = w.heap.size) := by omega
  have q6 : ¬ (w2.heap.size = w.heap.size) := by omega
  have q7 : ¬ (w1.heap.size = w.heap.size + 1) := by omega
  have q8 : ¬ (w2.heap.size = w.heap.size + 1) := by omega
  go_region
  go_wp2
  have hB2 := (HN.out.2.2.2.other ⟨w.heap.size, 0, none⟩ (.bool b) (by simp)).other ⟨w.heap.size, 1, none⟩ (.slice a k p) (by simp)
  exact bodyPost_ret (v := .tuple #[.agg #[.bool b, .slice a k p], .agg #[.bool b', .slice a' k' p'], .int .i64 0]) (by simp [results, Tryz.results99, go_sem, a0, a1, b0, b1]) rfl
    ⟨_, _, _, _, _, _, _, _, rfl, ((Kept.store (Kept.store HK.out _ _ _ (by simp)) _ _ _ (by simp)).drew).from (hBl.trans (hb3.mono hBl.size)) (by simp),
      (Nm.stores (Nm.stores HN.out.1 HN.out.2.2.1 _ _) hB2 _ _).keep (Below.refl _ _).drew, (Nm.stores (Nm.stores HN.out.2.1 HN.out.2.2.1 _ _) hB2 _ _).keep (Below.refl _ _).drew⟩

/-- readTwo -/
theorem readTwo_any (s r : ByteArray) (hs : s.size ≤ 9223372036854775807) (hr : r.size ≤ 9223372036854775807) (w : World) : Calls Tryz.prog 99 #[.string s, .string r] w (Rd2Out w s.data.toList r.data.toList) := by
  unfold Rd2Out chk2
  by_cases h1 : chk s.data.toList = 0
  · rw [if_neg (by omega)]
    by_cases h2 : chk r.data.toList = 0
    · refine (readTwo_ok s r hs hr h1 h2 w).mono ?_
      rintro e w' ⟨b1, a1, k1, p1, b2, a2, k2, p2, rfl, hb, hx, hy⟩
      exact ⟨_, _, by rw [h2]; rfl, hb, ⟨_, _, _, _, rfl⟩, ⟨_, _, _, _, rfl⟩, fun _ => ⟨hx, hy⟩⟩
    · refine (readTwo_err2 s r hs hr h1 h2 w).mono ?_
      rintro e w' ⟨rfl, hb⟩
      exact ⟨_, _, rfl, hb, ⟨_, _, _, _, rfl⟩, ⟨_, _, _, _, rfl⟩, fun h => absurd h h2⟩
  · rw [if_pos h1]
    refine (readTwo_err1 s r hs h1 w).mono ?_
    rintro e w' ⟨rfl, hb⟩
    exact ⟨_, _, rfl, hb, ⟨_, _, _, _, rfl⟩, ⟨_, _, _, _, rfl⟩, fun h => absurd h h1⟩

set_option maxRecDepth 100000 in
set_option maxHeartbeats 1600000 in
theorem cmp_err (s r : ByteArray) (hs : s.size ≤ 9223372036854775807) (hr : r.size ≤ 9223372036854775807) (h0 : chk2 s.data.toList r.data.toList ≠ 0) (w : World) :
    Calls Tryz.prog 52 #[.string s, .string r] w (IntOut w 0 (chk2 s.data.toList r.data.toList)) := by
  obtain ⟨c, hcc⟩ : ∃ c, c = chk2 s.data.toList r.data.toList := ⟨_, rfl⟩
  have hne : ((c : Int) == 0) = false := by simp; omega
  have hne2 : ((c : Int) != 0) = true := by simp; omega
  rw [← hcc]
  have HC := Lib.hid hcc
  clear hcc h0
  go_enter Tryz.func52, Tryz.ntmps52
  go_wp2_with fail
  refine (readTwo_any s r hs hr _).mono ?_
  rintro e w1 ⟨v1, v2, rfl, hb, ⟨b, a, k, p, rfl⟩, ⟨b', a', k', p', rfl⟩, -⟩
  rw [← HC.out]
  go_wp2
  go_ret2
  exact ⟨rfl, (hb.alloc hb.size _).alloc (by have := hb.size; simp; omega) _⟩

set_option maxRecDepth 100000 in
set_option maxHeartbeats 1600000 in
theorem cmp_ok (s r : ByteArray) (hs : s.size ≤ 9223372036854775807) (hr : r.size ≤ 9223372036854775807) (h1 : chk s.data.toList = 0) (h2 : chk r.data.toList = 0) (w : World) :
    Calls Tryz.prog 52 #[.string s, .string r] w (IntOut w (cmpZ (parse s.data.toList) (parse r.data.toList)) 0) := by
  have hc : chk2 s.data.toList r.data.toList = 0 := by unfold chk2; rw [if_neg (by omega)]; exact h2
  have HC := Lib.hid hc
  have HSX : Hid (Sm (parse s.data.toList) 4294967295 ∧ Sm (parse r.data.toList) 4294967295) := ⟨Sm.le (chk_sm _ h1) (by omega), Sm.le (chk_sm _ h2) (by omega)⟩
  clear hc h1 h2
  generalize hx : parse s.data.toList = x at *
  generalize hy : parse r.data.toList = y at *
  have HX := Lib.hid hx
  have HY := Lib.hid hy
  clear hx hy
  go_enter Tryz.func52, Tryz.ntmps52
  go_wp2_with fail
  refine (readTwo_any s r hs hr _).mono ?_
  rintro e w1 ⟨v1, v2, rfl, hb, ⟨b, a, k, p, rfl⟩, ⟨b', a', k', p', rfl⟩, hok⟩
  have hok := hok HC.out
  rw [HX.out, HY.out] at hok
  rw [HC.out]
  obtain ⟨W, hW, hA, hB, hBl, hsz⟩ := boxes2 w1 (.bool b) (.slice a k p) (.bool b') (.slice a' k' p')
  have HN : Hid (Nm W (.agg #[.bool b, .slice a k p]) x ∧ Nm W (.agg #[.bool b', .slice a' k' p']) y) := ⟨hok.1.keep hBl, hok.2.keep hBl⟩
  have hbW : Below w.heap.size w W := hb.trans (hBl.mono hb.size)
  have a0 := hA.c0; have a1 := hA.c1; have b0 := hB.c0; have b1 := hB.c1
  have HW := Lib.hid hW
  rw [hW] at a0 a1 b0 b1
  clear hok hA hB hW hBl hsz
  go_wp2_with fail
  rw [← HW.out]
  refine (ncompare_any _ _ x y _ HN.out.1 HN.out.2 HSX.out.1 HSX.out.2).mono ?_
  rintro e w2 ⟨rfl, hb2⟩
  go_wp2
  go_ret2
  exact ⟨rfl, hbW.trans (hb2.mono hbW.size)⟩

end Go.Proofs.YtnfmcdfdbipeoaaGreatDoor

namespace Go.Proofs.YtnfmcdfdbipeoaaGreatDoor
open Go.RowKit Go.Proofs.Num

set_option maxRecDepth 100000 in
set_option maxHeartbeats 3200000 in
theorem divided_err (s r : ByteArray) (hs : s.size ≤ 9223372036854775807) (hr : r.size ≤ 9223372036854775807) (h0 : chk2 s.data.toList r.data.toList ≠ 0) (w : World) :
    Calls Tryz.prog 94 #[.string s, .string r] w fun e w' => e = .returned (.tuple #[.agg #[.bool false, .slice none 0 0], .agg #[.bool false, .slice none 0 0], .int .i64 ((chk2 s.data.toList r.data.toList : Nat) : Int)]) ∧ Below w.heap.size w w' := by
  obtain ⟨c, hcc⟩ : ∃ c, c = chk2 s.data.toList r.data.toList := ⟨_, rfl⟩
  have hne : ((c : Int) == 0) = false := by simp; omega
  have hne2 : ((c : Int) != 0) = true := by simp; omega
  rw [← hcc]
  obtain ⟨W, hW, hA, hB, hBl, hsz⟩ := boxes2 w (.bool false) (.slice none 0 0) (.bool false) (.slice none 0 0)
  have HC := Lib.hid hcc
  have H0 := Lib.hid h0
  have HW := Lib.hid hW
  have HA := Lib.hid hA
  have HB := Lib.hid hB
  have HZ := Lib.hid hsz
  clear hcc h0 hA hB hW hsz
  go_enter Tryz.func94, Tryz.ntmps94
  go_wp2_with fail
  rw [← HW.out]
  refine (readTwo_any s r hs hr _).mono ?_
  rintro e w1 ⟨v1, v2, rfl, hb, ⟨b, a, k, p, rfl⟩, ⟨b', a', k', p', rfl⟩, -⟩
  rw [← HC.out]
  have hb1 : Below W.heap.size W ((w1.alloc (.cells #[.bool b, .slice a k p] 104)).alloc (.cells #[.bool b', .slice a' k' p'] 104)) := (hb.alloc hb.size _).alloc (by have := hb.size; simp; omega) _
  have hA1 := HA.out.keep hb1
  have hB1 := HB.out.keep hb1
  have a0 := hA1.c0; have a1 := hA1.c1; have b0 := hB1.c0; have b1 := hB1.c1; have a2 := hA1.f0 0; have a3 := hA1.f0 1; have b2 := hB1.f0 0; have b3 := hB1.f0 1
  have hK : Kept [w.heap.size, w.heap.size + 1] ((w1.alloc (.cells #[.bool b, .slice a k p] 104)).alloc (.cells #[.bool b', .slice a' k' p'] 104)) ((w1.alloc (.cells #[.bool b, .slice a k p] 104)).alloc (.cells #[.bool b', .slice a' k' p'] 104)) := Kept.start (by intro r hr; simp at hr; rcases hr with rfl | rfl; exact ⟨_, _, hA1⟩; exact ⟨_, _, hB1⟩)
  have HK := Lib.hid hK
  clear hA1 hB1 hK
  go_wp2
  exact bodyPost_ret (v := .tuple #[.agg #[.bool false, .slice none 0 0], .agg #[.bool false, .slice none 0 0], .int .i64 (c : Int)]) (by simp [results, Tryz.results94, go_sem, a0, a1, b0, b1]) rfl
    ⟨rfl, (Kept.store (Kept.store HK.out _ _ _ (by simp)) _ _ _ (by simp)).from (hBl.trans (hb1.mono hBl.size)) (by simp)⟩

theorem chk2_zero {l m : List UInt8} (h : chk2 l m = 0) : chk l = 0 ∧ chk m = 0 := by
  unfold chk2 at h
  split at h <;> omega

set_option maxRecDepth 100000 in
set_option maxHeartbeats 3200000 in
theorem divided_ok (M : Nat) (hD : DivTo M) (s r : ByteArray) (hs : s.size ≤ 9223372036854775807) (hr : r.size ≤ 9223372036854775807) (h0 : chk2 s.data.toList r.data.toList = 0) (hy0 : parse r.data.toList ≠ 0) (hyM : (parse r.data.toList).natAbs ≤ M) (w : World) :
    Calls Tryz.prog 94 #[.string s, .string r] w fun e w' => ∃ b1 a1 k1 p1 b2 a2 k2 p2, e = .returned (.tuple #[.agg #[.bool b1, .slice a1 k1 p1], .agg #[.bool b2, .slice a2 k2 p2], .int .i64 0]) ∧ Below w.heap.size w w' ∧
      Nm w' (.agg #[.bool b1, .slice a1 k1 p1]) (qz (parse s.data.toList) (parse r.data.toList)) ∧ Nm w' (.agg #[.bool b2, .slice a2 k2 p2]) (rz (parse s.data.toList) (parse r.data.toList)) := by
  obtain ⟨W, hW, hA, hB, hBl, hsz⟩ := boxes2 w (.bool false) (.slice none 0 0) (.bool false) (.slice none 0 0)
  obtain ⟨h1, h2⟩ := chk2_zero h0
  have HL : Hid (parse r.data.toList ≠ 0 ∧ (parse r.data.toList).natAbs ≤ M ∧ Sm (parse s.data.toList) 1073741823 ∧ Sm (parse r.data.toList) 1073741823) := ⟨hy0, hyM, Sm.le (chk_sm _ h1) (by omega), Sm.le (chk_sm _ h2) (by omega)⟩
  have HC := Lib.hid h0
  have HD := Lib.hid hD
  have HW := Lib.hid hW
  have HA := Lib.hid hA
  have HB := Lib.hid hB
  have HZ := Lib.hid hsz
  clear h0 h1 h2 hA hB hW hsz hy0 hyM hD
  generalize hx : parse s.data.toList = x at *
  generalize hy : parse r.data.toList = y at *
  have HX := Lib.hid hx
  have HY := Lib.hid hy
  have hsg : (sgn y == 0) = false := by
    have := HL.out.1
    unfold sgn
    by_cases h1 : y < 0
    · rw [if_pos h1]; decide
    · rw [if_neg h1, if_pos (by omega)]; decide
  clear hx hy
  go_enter Tryz.func94, Tryz.ntmps94
  go_wp2_with fail
  rw [← HW.out]
  refine (readTwo_any s r hs hr _).mono ?_
  rintro e w1 ⟨v1, v2, rfl, hb, ⟨b, a, k, p, rfl⟩, ⟨b', a', k', p', rfl⟩, hok⟩
  have hok := hok HC.out
  rw [HX.out, HY.out] at hok
  rw [HC.out]
  obtain ⟨W1, hW1, hA1, hB1, hBl1, hsz1⟩ := boxes2 w1 (.bool b) (.slice a k p) (.bool b') (.slice a' k' p')
  have HN : Hid (Nm W1 (.agg #[.bool b, .slice a k p]) x ∧ Nm W1 (.agg #[.bool b', .slice a' k' p']) y) := ⟨hok.1.keep hBl1, hok.2.keep hBl1⟩
  have hbW : Below W.heap.size W W1 := hb.trans (hBl1.mono hb.size)
  have a0 := hA1.c0; have a1 := hA1.c1; have b0 := hB1.c0; have b1 := hB1.c1
  have HW1 := Lib.hid hW1
  rw [hW1] at a0 a1 b0 b1
  have HAB : Hid (Box 104 W1 w1.heap.size (.bool b) (.slice a k p) ∧ Box 104 W1 (w1.heap.size + 1) (.bool b') (.slice a' k' p')) := ⟨hA1, hB1⟩
  clear hok hA1 hB1 hW1 hBl1 hsz1
  go_wp2_with fail
  rw [← HW1.out]
  refine (nsign_any _ y _ HN.out.2).mono ?_
  rintro e w2 ⟨rfl, hb2⟩
  clear a0 a1 b0 b1
  have a0 := (HAB.out.1.keep hb2).c0; have a1 := (HAB.out.1.keep hb2).c1; have b0 := (HAB.out.2.keep hb2).c0; have b1 := (HAB.out.2.keep hb2).c1
  go_wp2_with fail
  refine (ndivide_any M HD.out _ _ x y _ (HN.out.1.keep hb2) (HN.out.2.keep hb2) HL.out.1 HL.out.2.1 HL.out.2.2.1 HL.out.2.2.2).mono ?_
  rintro e w3 ⟨v1, v2, rfl, hq, hrm, hb3⟩
  obtain ⟨c, d, n, o, rfl⟩ := hq.sh
  obtain ⟨c', d', n', o', rfl⟩ := hrm.sh
  obtain ⟨W3, hW3, hC1, hD1, hBl3, hsz3⟩ := boxes2 w3 (.bool c) (.slice d n o) (.bool c') (.slice d' n' o')
  have hbW3 : Below W.heap.size W W3 := by
    have h5 := hb2.trans (hb3.mono hb2.size)
    have h6 := hbW.trans (h5.mono hbW.size)
    exact h6.trans (hBl3.mono h6.size)
  have hs3 : w.heap.size + 1 + 1 ≤ w3.heap.size := by
    rw [← HZ.out]
    exact Nat.le_trans (Nat.le_trans hbW.size hb2.size) hb3.size
  have hA3 := HA.out.keep hbW3
  have hB3 := HB.out.keep hbW3
  have a4 := hA3.c0; have a5 := hA3.c1; have b4 := hB3.c0; have b5 := hB3.c1; have a6 := hA3.f0 0; have a7 := hA3.f0 1; have b6 := hB3.f0 0; have b7 := hB3.f0 1
  have c0 := hC1.c0; have c1 := hC1.c1; have d0 := hD1.c0; have d1 := hD1.c1
  have hK : Kept [w.heap.size, w.heap.size + 1] W3 W3 := Kept.start (by intro r hr; simp at hr; rcases hr with rfl | rfl; exact ⟨_, _, hA3⟩; exact ⟨_, _, hB3⟩)
  have HR : Hid (Nm W3 (.agg #[.bool c, .slice d n o]) (qz x y) ∧ Nm W3 (.agg #[.bool c', .slice d' n' o']) (rz x y) ∧ Box 104 W3 w.heap.size (.bool false) (.slice none 0 0) ∧ Box 104 W3 (w.heap.size + 1) (.bool false) (.slice none 0 0)) := ⟨hq.keep hBl3, hrm.keep hBl3, hA3, hB3⟩
  have HK := Lib.hid hK
  have HW3 := Lib.hid hW3
  clear hA3 hB3 hK hW3 hC1 hD1 hq hrm a0 a1 b0 b1
  go_wp2_with fail
  rw [← HW3.out]
  have q1 : ¬ (w.heap.size = w3.heap.size) := by omega
  have q2 : ¬ (w.heap.size = w3.heap.size + 1) := by omega
  have q3 : ¬ (w.heap.size + 1 = w3.heap.size) := by omega
  have q4 : ¬ (w.heap.size + 1 = w3.heap.size + 1) := by omega
  have q5 : ¬ (w3.heap.size = w.heap.size) := by omega
  have q6 : ¬ (w3.heap.size + 1 = w.heap.size) := by omega
  have q7 : ¬ (w3.heap.size = w.heap.size + 1) := by omega
  have q8 : ¬ (w3.heap.size + 1 = w.heap.size + 1) := by omega
  go_region
  go_wp2
  have hB2 := (HR.out.2.2.2.other ⟨w.heap.size, 0, none⟩ (.bool c) (by simp)).other ⟨w.heap.size, 1, none⟩ (.slice d n o) (by simp)
  exact bodyPost_ret (v := .tuple #[.agg #[.bool c, .slice d n o], .agg #[.bool c', .slice d' n' o'], .int .i64 0]) (by simp [results, Tryz.results94, go_sem, a4, a5, b4, b5]) rfl
    ⟨_, _, _, _, _, _, _, _, rfl, ((Kept.store (Kept.store HK.out _ _ _ (by simp)) _ _ _ (by simp)).drew).from (hBl.trans (hbW3.mono hBl.size)) (by simp),
      (Nm.stores (Nm.stores HR.out.1 HR.out.2.2.1 _ _) hB2 _ _).keep (Below.refl _ _).drew, (Nm.stores (Nm.stores HR.out.2.1 HR.out.2.2.1 _ _) hB2 _ _).keep (Below.refl _ _).drew⟩

end Go.Proofs.YtnfmcdfdbipeoaaGreatDoor

namespace Go.Proofs.YtnfmcdfdbipeoaaGreatDoor
open Go.RowKit Go.Proofs.Num

set_option maxRecDepth 100000 in
set_option maxHeartbeats 3200000 in
theorem divided_zero (s r : ByteArray) (hs : s.size ≤ 9223372036854775807) (hr : r.size ≤ 9223372036854775807) (h0 : chk2 s.data.toList r.data.toList = 0) (hy0 : parse r.data.toList = 0) (w : World) :
    Calls Tryz.prog 94 #[.string s, .string r] w fun e w' => e = .returned (.tuple #[.agg #[.bool false, .slice none 0 0], .agg #[.bool false, .slice none 0 0], .int .i64 10]) ∧ Below w.heap.size w w' := by
  obtain ⟨W, hW, hA, hB, hBl, hsz⟩ := boxes2 w (.bool false) (.slice none 0 0) (.bool false) (.slice none 0 0)
  have HC := Lib.hid h0
  have HW := Lib.hid hW
  have HA := Lib.hid hA
  have HB := Lib.hid hB
  have HZ := Lib.hid hsz
  have HY := Lib.hid hy0
  clear h0 hA hB hW hsz hy0
  go_enter Tryz.func94, Tryz.ntmps94
  go_wp2_with fail
  rw [← HW.out]
  refine (readTwo_any s r hs hr _).mono ?_
  rintro e w1 ⟨v1, v2, rfl, hb, ⟨b, a, k, p, rfl⟩, ⟨b', a', k', p', rfl⟩, hok⟩
  have hok := hok HC.out
  rw [HY.out] at hok
  rw [HC.out]
  obtain ⟨W1, hW1, hA1, hB1, hBl1, hsz1⟩ := boxes2 w1 (.bool b) (.slice a k p) (.bool b') (.slice a' k' p')
  have HN : Hid (Nm W1 (.agg #[.bool b', .slice a' k' p']) 0) := hok.2.keep hBl1
  have hbW : Below W.heap.size W W1 := hb.trans (hBl1.mono hb.size)
  have a0 := hA1.c0; have a1 := hA1.c1; have b0 := hB1.c0; have b1 := hB1.c1
  have HW1 := Lib.hid hW1
  rw [hW1] at a0 a1 b0 b1
  clear hok hA1 hB1 hW1 hBl1 hsz1
  go_wp2_with fail
  rw [← HW1.out]
  refine (nsign_any _ 0 _ HN.out).mono ?_
  rintro e w2 ⟨he, hb2⟩
  rw [sgn_zero] at he
  subst he
  clear a0 a1 b0 b1
  have hb3 : Below W.heap.size W w2 := hbW.trans (hb2.mono hbW.size)
  have hA1 := HA.out.keep hb3
  have hB1 := HB.out.keep hb3
  have a0 := hA1.c0; have a1 := hA1.c1; have b0 := hB1.c0; have b1 := hB1.c1; have a2 := hA1.f0 0; have a3 := hA1.f0 1; have b2 := hB1.f0 0; have b3 := hB1.f0 1
  have hK : Kept [w.heap.size, w.heap.size + 1] w2 w2 := Kept.start (by intro r hr; simp at hr; rcases hr with rfl | rfl; exact ⟨_, _, hA1⟩; exact ⟨_, _, hB1⟩)
  have HK := Lib.hid hK
  clear hA1 hB1 hK
  go_wp2
  exact bodyPost_ret (v := .tuple #[.agg #[.bool false, .slice none 0 0], .agg #[.bool false, .slice none 0 0], .int .i64 10]) (by simp [results, Tryz.results94, go_sem, a0, a1, b0, b1]) rfl
    ⟨rfl, (Kept.store (Kept.store HK.out _ _ _ (by simp)) _ _ _ (by simp)).from (hBl.trans (hb3.mono hBl.size)) (by simp)⟩

/-- The error of a quotient. -/
def chkD (l m : List UInt8) : Nat := if chk2 l m ≠ 0 then chk2 l m else if parse m = 0 then 10 else 0

theorem divided_any (M : Nat) (hD : DivTo M) (s r : ByteArray) (hs : s.size ≤ 9223372036854775807) (hr : r.size ≤ 9223372036854775807) (hyM : chkD s.data.toList r.data.toList = 0 → (parse r.data.toList).natAbs ≤ M) (w : World) :
    Calls Tryz.prog 94 #[.string s, .string r] w fun e w' => ∃ v1 v2, e = .returned (.tuple #[v1, v2, .int .i64 ((chkD s.data.toList r.data.toList : Nat) : Int)]) ∧ Below w.heap.size w w' ∧ (∃ b a k p, v1 = .agg #[.bool b, .slice a k p]) ∧ (∃ b a k p, v2 = .agg #[.bool b, .slice a k p]) ∧
      (chkD s.data.toList r.data.toList = 0 → Nm w' v1 (qz (parse s.data.toList) (parse r.data.toList)) ∧ Nm w' v2 (rz (parse s.data.toList) (parse r.data.toList))) := by
  unfold chkD at *
  by_cases h1 : chk2 s.data.toList r.data.toList = 0
  · rw [if_neg (by omega)] at hyM ⊢
    by_cases h2 : parse r.data.toList = 0
    · rw [if_pos h2]
      refine (divided_zero s r hs hr h1 h2 w).mono ?_
      rintro e w' ⟨rfl, hb⟩
      exact ⟨_, _, rfl, hb, ⟨_, _, _, _, rfl⟩, ⟨_, _, _, _, rfl⟩, fun h => by omega⟩
    · rw [if_neg h2] at hyM ⊢
      refine (divided_ok M hD s r hs hr h1 h2 (hyM rfl) w).mono ?_
      rintro e w' ⟨b1, a1, k1, p1, b2, a2, k2, p2, rfl, hb, hx, hy⟩
      exact ⟨_, _, rfl, hb, ⟨_, _, _, _, rfl⟩, ⟨_, _, _, _, rfl⟩, fun _ => ⟨hx, hy⟩⟩
  · rw [if_pos h1]
    refine (divided_err s r hs hr h1 w).mono ?_
    rintro e w' ⟨rfl, hb⟩
    exact ⟨_, _, rfl, hb, ⟨_, _, _, _, rfl⟩, ⟨_, _, _, _, rfl⟩, fun h => absurd h h1⟩

set_option maxRecDepth 100000 in
set_option maxHeartbeats 1600000 in
theorem quo_err (M : Nat) (hD : DivTo M) (s r : ByteArray) (hs : s.size ≤ 9223372036854775807) (hr : r.size ≤ 9223372036854775807) (h0 : chkD s.data.toList r.data.toList ≠ 0) (w : World) :
    Calls Tryz.prog 48 #[.string s, .string r] w (TextOut w [] (chkD s.data.toList r.data.toList)) := by
  have hcall := divided_any M hD s r hs hr (fun h => absurd h h0)
  obtain ⟨c, hcc⟩ : ∃ c, c = chkD s.data.toList r.data.toList := ⟨_, rfl⟩
  have hne : ((c : Int) == 0) = false := by simp; omega
  have hne2 : ((c : Int) != 0) = true := by simp; omega
  rw [← hcc]
  have HC := Lib.hid hcc
  have HD := Lib.hid hcall
  clear hcc h0 hcall
  go_enter Tryz.func48, Tryz.ntmps48
  go_wp2_with fail
  refine (HD.out _).mono ?_
  rintro e w1 ⟨v1, v2, rfl, hb, ⟨b, a, k, p, rfl⟩, ⟨b', a', k', p', rfl⟩, -⟩
  rw [← HC.out]
  go_wp2
  go_ret2
  exact ⟨rfl, (hb.alloc hb.size _).alloc (by have := hb.size; simp; omega) _⟩

set_option maxRecDepth 100000 in
set_option maxHeartbeats 1600000 in
theorem quo_ok (M : Nat) (hD : DivTo M) (s r : ByteArray) (hs : s.size ≤ 9223372036854775807) (hr : r.size ≤ 9223372036854775807) (h0 : chkD s.data.toList r.data.toList = 0) (hyM : (parse r.data.toList).natAbs ≤ M)
    (hsm : Sm (qz (parse s.data.toList) (parse r.data.toList)) 4294967295) (w : World) (hT : Tab w) :
    Calls Tryz.prog 48 #[.string s, .string r] w (TextOut w (tx (qz (parse s.data.toList) (parse r.data.toList))) (te (qz (parse s.data.toList) (parse r.data.toList)))) := by
  have hcall := divided_any M hD s r hs hr (fun _ => hyM)
  obtain ⟨z, hz⟩ : ∃ z, z = qz (parse s.data.toList) (parse r.data.toList) := ⟨_, rfl⟩
  rw [← hz] at hsm ⊢
  obtain ⟨t, ht⟩ : ∃ t, t = tx z := ⟨_, rfl⟩
  obtain ⟨c, hc⟩ : ∃ c, c = te z := ⟨_, rfl⟩
  rw [← ht, ← hc]
  have HSM := Lib.hid hsm
  have HT := Lib.hid hT
  have HD := Lib.hid hcall
  have HC := Lib.hid h0
  have HZ := Lib.hid hz
  have HTX := Lib.hid ht
  have HTE := Lib.hid hc
  clear hcall hT h0 hyM hz ht hc hsm
  go_enter Tryz.func48, Tryz.ntmps48
  go_wp2_with fail
  refine (HD.out _).mono ?_
  rintro e w1 ⟨v1, v2, rfl, hb, ⟨b, a, k, p, rfl⟩, ⟨b', a', k', p', rfl⟩, hok⟩
  have hok := hok HC.out
  rw [← HZ.out] at hok
  rw [HC.out]
  obtain ⟨W, hW, hA, hB, hBl, hsz⟩ := boxes2 w1 (.bool b) (.slice a k p) (.bool b') (.slice a' k' p')
  have HN : Hid (Nm W (.agg #[.bool b, .slice a k p]) z) := hok.1.keep hBl
  have hbW : Below w.heap.size w W := hb.trans (hBl.mono hb.size)
  have a0 := hA.c0; have a1 := hA.c1; have b0 := hB.c0; have b1 := hB.c1
  have HW := Lib.hid hW
  rw [hW] at a0 a1 b0 b1
  clear hok hA hB hW hBl hsz
  go_wp2_with fail
  rw [← HW.out]
  refine (text_any _ z _ HN.out HSM.out (HT.out.keep hbW)).mono ?_
  rintro e w3 ⟨he, hb3⟩
  rw [← HTX.out, ← HTE.out] at he
  subst he
  go_wp2
  go_ret2
  exact ⟨rfl, hbW.trans (hb3.mono hbW.size)⟩

set_option maxRecDepth 100000 in
set_option maxHeartbeats 1600000 in
theorem rem_err (M : Nat) (hD : DivTo M) (s r : ByteArray) (hs : s.size ≤ 9223372036854775807) (hr : r.size ≤ 9223372036854775807) (h0 : chkD s.data.toList r.data.toList ≠ 0) (w : World) :
    Calls Tryz.prog 46 #[.string s, .string r] w (TextOut w [] (chkD s.data.toList r.data.toList)) := by
  have hcall := divided_any M hD s r hs hr (fun h => absurd h h0)
  obtain ⟨c, hcc⟩ : ∃ c, c = chkD s.data.toList r.data.toList := ⟨_, rfl⟩
  have hne : ((c : Int) == 0) = false := by simp; omega
  have hne2 : ((c : Int) != 0) = true := by simp; omega
  rw [← hcc]
  have HC := Lib.hid hcc
  have HD := Lib.hid hcall
  clear hcc h0 hcall
  go_enter Tryz.func46, Tryz.ntmps46
  go_wp2_with fail
  refine (HD.out _).mono ?_
  rintro e w1 ⟨v1, v2, rfl, hb, ⟨b, a, k, p, rfl⟩, ⟨b', a', k', p', rfl⟩, -⟩
  rw [← HC.out]
  go_wp2
  go_ret2
  exact ⟨rfl, (hb.alloc hb.size _).alloc (by have := hb.size; simp; omega) _⟩

set_option maxRecDepth 100000 in
set_option maxHeartbeats 1600000 in
theorem rem_ok (M : Nat) (hD : DivTo M) (s r : ByteArray) (hs : s.size ≤ 9223372036854775807) (hr : r.size ≤ 9223372036854775807) (h0 : chkD s.data.toList r.data.toList = 0) (hyM : (parse r.data.toList).natAbs ≤ M)
    (hsm : Sm (rz (parse s.data.toList) (parse r.data.toList)) 4294967295) (w : World) (hT : Tab w) :
    Calls Tryz.prog 46 #[.string s, .string r] w (TextOut w (tx (rz (parse s.data.toList) (parse r.data.toList))) (te (rz (parse s.data.toList) (parse r.data.toList)))) := by
  have hcall := divided_any M hD s r hs hr (fun _ => hyM)
  obtain ⟨z, hz⟩ : ∃ z, z = rz (parse s.data.toList) (parse r.data.toList) := ⟨_, rfl⟩
  rw [← hz] at hsm ⊢
  obtain ⟨t, ht⟩ : ∃ t, t = tx z := ⟨_, rfl⟩
  obtain ⟨c, hc⟩ : ∃ c, c = te z := ⟨_, rfl⟩
  rw [← ht, ← hc]
  have HSM := Lib.hid hsm
  have HT := Lib.hid hT
  have HD := Lib.hid hcall
  have HC := Lib.hid h0
  have HZ := Lib.hid hz
  have HTX := Lib.hid ht
  have HTE := Lib.hid hc
  clear hcall hT h0 hyM hz ht hc hsm
  go_enter Tryz.func46, Tryz.ntmps46
  go_wp2_with fail
  refine (HD.out _).mono ?_
  rintro e w1 ⟨v1, v2, rfl, hb, ⟨b, a, k, p, rfl⟩, ⟨b', a', k', p', rfl⟩, hok⟩
  have hok := hok HC.out
  rw [← HZ.out] at hok
  rw [HC.out]
  obtain ⟨W, hW, hA, hB, hBl, hsz⟩ := boxes2 w1 (.bool b) (.slice a k p) (.bool b') (.slice a' k' p')
  have HN : Hid (Nm W (.agg #[.bool b', .slice a' k' p']) z) := hok.2.keep hBl
  have hbW : Below w.heap.size w W := hb.trans (hBl.mono hb.size)
  have a0 := hA.c0; have a1 := hA.c1; have b0 := hB.c0; have b1 := hB.c1
  have HW := Lib.hid hW
  rw [hW] at a0 a1 b0 b1
  clear hok hA hB hW hBl hsz
  go_wp2_with fail
  rw [← HW.out]
  refine (text_any _ z _ HN.out HSM.out (HT.out.keep hbW)).mono ?_
  rintro e w3 ⟨he, hb3⟩
  rw [← HTX.out, ← HTE.out] at he
  subst he
  go_wp2
  go_ret2
  exact ⟨rfl, hbW.trans (hb3.mono hbW.size)⟩

end Go.Proofs.YtnfmcdfdbipeoaaGreatDoor
