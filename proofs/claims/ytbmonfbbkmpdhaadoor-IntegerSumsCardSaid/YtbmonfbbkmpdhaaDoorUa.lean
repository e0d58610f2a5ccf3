/- Walks of the exported functions: reading one and two integers. -/
import Derived.Test.YtbmonfbbkmpdhaaDoorTc
import Derived.Test.YtbmonfbbkmpdhaaDoorTe
namespace Go.Proofs.YtbmonfbbkmpdhaaDoor
open Go.RowKit Go.Proofs.Num

/-- What read hands back. -/
def RdOut (w : World) (s : ByteArray) (e : Ending) (w' : World) : Prop :=
  ∃ b a k p, e = .returned (.tuple #[.agg #[.bool b, .slice a k p], .int .i64 ((chk s.data.toList : Nat) : Int)]) ∧ Below w.heap.size w w' ∧
    (chk s.data.toList = 0 → Nm w' (.agg #[.bool b, .slice a k p]) (parse s.data.toList)) ∧ (chk s.data.toList ≠ 0 → b = false ∧ a = none ∧ k = 0 ∧ p = 0)

set_option maxRecDepth 100000 in
set_option maxHeartbeats 4000000 in
theorem read_err (s : ByteArray) (hs : s.size ≤ 9223372036854775807) (hc : chk s.data.toList ≠ 0) (w : World) :
    Calls Tryd.prog 51 #[.string s] w fun e w' => e = .returned (.tuple #[.agg #[.bool false, .slice none 0 0], .int .i64 ((chk s.data.toList : Nat) : Int)]) ∧ Below w.heap.size w w' := by
  obtain ⟨c, hcc⟩ : ∃ c, c = chk s.data.toList := ⟨_, rfl⟩
  rw [← hcc] at hc ⊢
  have hne : ((c : Int) == 0) = false := by simp; omega
  have hne2 : ((c : Int) != 0) = true := by simp; omega
  have HC := Lib.hid hcc
  clear hcc hc
  go_enter Tryd.func51, Tryd.ntmps51
  go_wp2_with fail
  refine (check_any s _ hs).mono ?_
  rintro e w' ⟨he, rfl⟩
  rw [← HC.out] at he
  subst he
  have h0 := Box.new 73 w (.bool false) (.slice none 0 0)
  have r0 := h0.c0; have r1 := h0.c1; have r2 := h0.f0 0; have r3 := h0.f0 1; have r4 := h0.lt
  go_wp2
  exact bodyPost_ret (v := .tuple #[.agg #[.bool false, .slice none 0 0], .int .i64 (c : Int)]) (by simp [results, Tryd.results51, go_sem]) rfl ⟨rfl, below1 _ _⟩

theorem chk_cases (l : List UInt8) (h : chk l = 0) : Lib.itoa (parse l) = l ∧ Lib.nDigits (parse l).natAbs ≤ 1024 := by
  obtain ⟨h1, h2⟩ := chk_ok (l := l) (by omega)
  rw [h] at h2
  refine ⟨h1, ?_⟩
  split at h2 <;> omega

/-- Numbers below a power of ten have few words. -/
theorem sm_of_lt {z : Int} {d k : Nat} (h : z.natAbs < 10 ^ d) (hd : d ≤ 9 * k) : Sm z k := by
  unfold Sm
  refine dig_length_le (by omega) k _ ?_
  rw [pow9]
  exact Nat.lt_of_lt_of_le h (Nat.pow_le_pow_right (by omega) (by omega))

theorem chk_lt (l : List UInt8) (h : chk l = 0) (d : Nat) (hd : d = 1024) : (parse l).natAbs < 10 ^ d :=
  Nat.lt_of_lt_of_le (Lib.lt_pow_nDigits _) (Nat.pow_le_pow_right (by omega) (by rw [hd]; exact (chk_cases l h).2))

theorem chk_sm (l : List UInt8) (h : chk l = 0) : Sm (parse l) 114 := sm_of_lt (chk_lt l h _ rfl) (by omega)
theorem Sm.le {z : Int} {k m : Nat} (h : Sm z k) (hk : k ≤ m) : Sm z m := Nat.le_trans h hk

theorem lt_add {x y : Int} {d : Nat} (hx : x.natAbs < 10 ^ d) (hy : y.natAbs < 10 ^ d) : (x + y).natAbs < 10 ^ (d + 1) := by
  rw [Nat.pow_succ]; omega
theorem lt_sub {x y : Int} {d : Nat} (hx : x.natAbs < 10 ^ d) (hy : y.natAbs < 10 ^ d) : (x - y).natAbs < 10 ^ (d + 1) := by
  rw [Nat.pow_succ]; omega
theorem lt_mul {x y : Int} {d e : Nat} (hx : x.natAbs < 10 ^ d) (hy : y.natAbs < 10 ^ e) : (x * y).natAbs < 10 ^ (d + e) := by
  rw [Int.natAbs_mul, Nat.pow_add]
  exact Nat.mul_lt_mul_of_lt_of_lt hx hy

/-- read -/
theorem read_any (s : ByteArray) (hs : s.size ≤ 9223372036854775807) (w : World) : Calls Tryd.prog 51 #[.string s] w (RdOut w s) := by
  by_cases h : chk s.data.toList = 0
  · obtain ⟨h1, h2⟩ := chk_cases _ h
    refine (callsIn_wide.1 (read_ok s (parse s.data.toList) h1.symm h2 w)).mono ?_
    rintro e w' ⟨v, rfl, hn, hb⟩
    obtain ⟨b, a, k, p, rfl⟩ := hn.sh
    exact ⟨b, a, k, p, by rw [h]; rfl, hb, fun _ => hn, fun hh => absurd h hh⟩
  · refine (read_err s hs h w).mono ?_
    rintro e w' ⟨rfl, hb⟩
    exact ⟨false, none, 0, 0, rfl, hb, fun hh => absurd hh h, fun _ => ⟨rfl, rfl, rfl, rfl⟩⟩

/-- What a function with a text and an error hands back. -/
def TextOut (w : World) (t : List UInt8) (c : Nat) (e : Ending) (w' : World) : Prop := e = .returned (.tuple #[str t, .int .i64 ((c : Nat) : Int)]) ∧ Below w.heap.size w w'

/-- The result of an operation on two texts: the first error, or the text of the result. -/
def op2 (f : Int → Int → Int) (l m : List UInt8) : List UInt8 × Nat :=
  if chk l ≠ 0 then ([], chk l) else if chk m ≠ 0 then ([], chk m) else (tx (f (parse l) (parse m)), te (f (parse l) (parse m)))
def op1 (f : Int → Int) (l : List UInt8) : List UInt8 × Nat :=
  if chk l ≠ 0 then ([], chk l) else (tx (f (parse l)), te (f (parse l)))

set_option maxRecDepth 100000 in
set_option maxHeartbeats 1600000 in
theorem neg_ok (s : ByteArray) (hs : s.size ≤ 9223372036854775807) (h0 : chk s.data.toList = 0) (w : World) (hT : Tab w) :
    Calls Tryd.prog 28 #[.string s] w (TextOut w (tx (- (parse s.data.toList))) (te (- (parse s.data.toList)))) := by
  have HT := Lib.hid hT
  obtain ⟨t, ht⟩ : ∃ t, t = tx (- (parse s.data.toList)) := ⟨_, rfl⟩
  obtain ⟨c, hc⟩ : ∃ c, c = te (- (parse s.data.toList)) := ⟨_, rfl⟩
  rw [← ht, ← hc]
  have HSM : Hid (Sm (- (parse s.data.toList)) 4294967295) := (by unfold Hid; exact Sm.le (by have := chk_sm _ h0; unfold Sm at *; rw [Int.natAbs_neg]; exact this) (by omega))
  have HC := Lib.hid h0
  clear hT h0
  generalize hz : parse s.data.toList = z at *
  have HZ := Lib.hid hz
  have HTX := Lib.hid ht
  have HTE := Lib.hid hc
  clear hz ht hc
  go_enter Tryd.func28, Tryd.ntmps28
  go_wp2_with fail
  refine (read_any s hs _).mono ?_
  rintro e w1 ⟨b, a, k, p, rfl, hb, hok, -⟩
  have hok := hok HC.out
  rw [HZ.out] at hok
  rw [HC.out]
  have HOK : Hid (Nm (w1.alloc (.cells #[.bool b, .slice a k p] 73)) (.agg #[.bool b, .slice a k p]) z) := hok.keep (below1 _ _)
  clear hok
  go_wp2_with fail
  refine (nopposite_any _ z _ HOK.out).mono ?_
  rintro e w2 ⟨v, rfl, hn, hb2⟩
  obtain ⟨b', a', k', p', rfl⟩ := hn.sh
  have hbl : Below w.heap.size w w2 := (hb.alloc hb.size _).trans (hb2.mono (by rw [World.size_alloc]; have := hb.size; omega))
  go_wp2_with fail
  refine (text_any _ _ _ hn HSM.out (HT.out.keep hbl)).mono ?_
  rintro e w3 ⟨he, hb3⟩
  rw [← HTX.out, ← HTE.out] at he
  subst he
  go_wp2
  go_ret2
  exact ⟨rfl, hbl.trans (hb3.mono hbl.size)⟩

end Go.Proofs.YtbmonfbbkmpdhaaDoor
