/- What joining tokens comes to; the program's tests of single tokens. -/
import Derived.Test.YtffcahhnaomegaaDoorLh
import Derived.Test.YtffcahhnaomegaaDoorLm
namespace Go.Proofs.YtffcahhnaomegaaDoor
open Go.RowKit Go.Proofs.Lx

/-- The error of a token by itself. -/
def formE (t : Tk) (last : Bool) : Nat :=
  if t.kind = 0 then (if wordE t.text = 0 then 0 else 3)
  else if t.kind = 1 then (if numE t.text = 0 then 0 else 3)
  else if t.kind = 2 then (if t.text.length = 1 ∧ isSig (t.text.headD 0) = true then 0 else 3)
  else if t.kind = 3 then (if last then (if t.text = [] then 0 else 3) else 9)
  else 1
def tk0 : Tk := ⟨0, [], 0⟩
def tAt (L : List Tk) (j : Nat) : Tk := L.getD j tk0
theorem tAt_get (L : List Tk) (j : Nat) (h : j < L.length) : L[j] = tAt L j := by
  unfold tAt; rw [List.getD_eq_getElem?_getD, List.getElem?_eq_getElem h]; rfl
def formAt (L : List Tk) (j : Nat) : Nat := formE (tAt L j) (decide (j + 1 = L.length))
/-- The first of some errors. -/
def firstE (f : Nat → Nat) : Nat → Nat
  | 0 => 0
  | n + 1 => if firstE f n ≠ 0 then firstE f n else f n
theorem firstE_zero {f : Nat → Nat} {n : Nat} (h : ∀ j, j < n → f j = 0) : firstE f n = 0 := by
  induction n with
  | zero => rfl
  | succ n ih =>
    have h1 := ih (fun j hj => h j (by omega))
    rw [firstE, h1]
    simpa using h n (by omega)
theorem firstE_at {f : Nat → Nat} {n i : Nat} (h : ∀ j, j < i → f j = 0) (hi : f i ≠ 0) (hn : i < n) : firstE f n = f i := by
  induction n with
  | zero => omega
  | succ n ih =>
    rw [firstE]
    by_cases e : i = n
    · subst e
      rw [firstE_zero h]; simp
    · have h1 := ih (by omega)
      rw [h1, if_pos hi]
theorem firstE_all {f : Nat → Nat} {n : Nat} (h : firstE f n = 0) : ∀ j, j < n → f j = 0 := by
  induction n with
  | zero => intro j hj; omega
  | succ n ih =>
    intro j hj
    rw [firstE] at h
    by_cases e : firstE f n = 0
    · rw [e] at h
      rcases Nat.lt_or_ge j n with h1 | h1
      · exact ih e j h1
      · obtain rfl : j = n := by omega
        simpa using h
    · rw [if_pos e] at h; exact absurd h e
def plainB (t : Tk) : Bool := decide (t.kind = 0) || decide (t.kind = 1)
/-- What stands before a token: a blank, or nothing. -/
def sepL (L : List Tk) (n : Nat) : List UInt8 := if 0 < n ∧ plainB (tAt L (n - 1)) = true ∧ plainB (tAt L n) = true then [32] else []
/-- The text of the first tokens. -/
def jl (L : List Tk) : Nat → List UInt8
  | 0 => []
  | n + 1 => jl L n ++ sepL L n ++ (tAt L n).text
theorem jl_mono (L : List Tk) (n m : Nat) (h : n ≤ m) : (jl L n).length ≤ (jl L m).length := by
  induction m with
  | zero => obtain rfl : n = 0 := by omega
            exact Nat.le_refl _
  | succ m ih =>
    by_cases e : n = m + 1
    · subst e; exact Nat.le_refl _
    · have := ih (by omega)
      rw [jl, List.length_append, List.length_append]; omega
/-- What Join comes to. -/
def joinR (L : List Tk) : List UInt8 × Nat :=
  if 4097 < L.length then ([], 5)
  else if firstE (formAt L) L.length ≠ 0 then ([], firstE (formAt L) L.length)
  else if L = [] ∨ (tAt L (L.length - 1)).kind ≠ 3 then ([], 9)
  else if 4096 < (jl L L.length).length then ([], 19)
  else (jl L L.length, 0)

theorem allB_runTo (p : UInt8 → Bool) (s : ByteArray) : allB p (bl s) = decide (0 < s.size ∧ runTo p (bl s) 0 = s.size) := by
  have hsz : (bl s).length = s.size := by simp
  unfold allB runTo
  rw [hsz, List.drop_zero, Nat.zero_add]
  have h : ∀ l : List UInt8, l.all p = decide (runLen p l = l.length) := by
    intro l
    induction l with
    | nil => rfl
    | cons c r ih =>
      unfold runLen at ih ⊢
      rw [List.takeWhile_cons]
      rcases hc : p c with _ | _
      · simp [hc]
      · simp only [List.all_cons, hc, Bool.true_and, if_true, List.length_cons, ih]
        simp
  rw [h, hsz, Bool.and_comm, ← Bool.decide_and]
theorem size0_toList (s : ByteArray) (h : s.size = 0) : s.toList = [] := by
  have : (bl s).length = 0 := by simpa using h
  have h2 := List.length_eq_zero_iff.1 this
  have h3 : s.toList = bl s := by rw [ByteArray.toList_eq]
  rw [h3]; exact h2
theorem size_toList_ne (s : ByteArray) (h : s.size ≠ 0) : ¬ s.toList = [] := by
  have h3 : s.toList = bl s := by rw [ByteArray.toList_eq]
  rw [h3]
  intro e
  exact h (by have := congrArg List.length e; simpa using this)

set_option maxHeartbeats 3200000 in
set_option maxRecDepth 100000 in
theorem isRun_let (s : ByteArray) (hs : s.size ≤ 4611686018427387904) (w : World) :
    Calls Tryd.prog 50 #[.string s, (.func (.func 45) #[] #[])] w (fun e w' => e = .returned (.bool (allB isLet (bl s))) ∧ w = w') := by
  have HR := Lib.hid (fun w => runEnd_let s 0 (by omega) hs w)
  have hle := runTo_le' isLet s 0 (by omega)
  have hA : Hid (allB isLet (bl s) = decide (0 < s.size ∧ runTo isLet (bl s) 0 = s.size)) := Lib.hid (allB_runTo isLet s)
  generalize runTo isLet (bl s) 0 = m at *
  generalize allB isLet (bl s) = A at *
  by_cases h0 : s.size = 0
  · have he : s.toList = [] := size0_toList s h0
    have hA' : Hid (A = false) := Lib.hid (by rw [hA.out]; simp [h0])
    clear hA
    go_enter Tryd.func50, Tryd.ntmps50
    go_wp2
    go_ret
    exact ⟨by rw [hA'.out]; rfl, rfl⟩
  · have he : ¬ s.toList = [] := size_toList_ne s h0
    have he2 : s.toList.isEmpty = false := by simp [he]
    by_cases h1 : m = s.size
    · have hd : ((m : Int) == (s.size : Int)) = true := by rw [h1]; simp
      have hA' : Hid (A = true) := Lib.hid (by rw [hA.out]; simp [h1]; omega)
      clear hA h1
      go_enter Tryd.func50, Tryd.ntmps50
      go_wp2_with fail
      refine (HR.out _).mono ?_
      rintro e w1 ⟨rfl, rfl⟩
      go_wp2
      go_ret
      exact ⟨by rw [hA'.out]; rfl, rfl⟩
    · have hd : ((m : Int) == (s.size : Int)) = false := by rw [beq_eq_false_iff_ne]; omega
      have hA' : Hid (A = false) := Lib.hid (by rw [hA.out]; simp [h1])
      clear hA h1
      go_enter Tryd.func50, Tryd.ntmps50
      go_wp2_with fail
      refine (HR.out _).mono ?_
      rintro e w1 ⟨rfl, rfl⟩
      go_wp2
      go_ret
      exact ⟨by rw [hA'.out]; rfl, rfl⟩
end Go.Proofs.YtffcahhnaomegaaDoor
