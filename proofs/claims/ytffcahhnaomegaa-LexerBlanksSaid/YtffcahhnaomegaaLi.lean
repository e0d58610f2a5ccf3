/- Walks of the reference: the first token of a text. -/
import Derived.Test.YtffcahhnaomegaaLh
import Derived.Deep.RegionHeld3
namespace Go.Proofs.Ytffcahhnaomegaa
open Go.RowKit Go.Proofs.Lx
set_option maxHeartbeats 3200000 in
set_option maxRecDepth 100000 in
theorem first_sig (s : ByteArray) (h0 : 0 < s.size) (hs : s.size ≤ 4611686018427387904) (hp : isSig s[0] = true) (k : Int) (w : World) :
    Calls Try.prog 28 #[.string s, .int .i64 k] w (fun e w' => e = .returned (.tuple #[.agg #[.int .i64 2, .string (s.extract 0 1), .int .i64 k], .int .i64 0]) ∧ Below w.heap.size w w') := by
  have HS := Lib.hid (fun w => sign_any s[0] w)
  rw [hp] at HS
  clear hp
  go_enter Try.func28, Try.ntmps28
  go_wp2_with fail
  refine (HS.out _).mono ?_
  rintro e w1 ⟨rfl, rfl⟩
  go_wp2
  refine bodyPost_ret (v := .tuple #[.agg #[.int .i64 2, .string (s.extract 0 1), .int .i64 k], .int .i64 0]) (by simp [results, Try.results28, go_sem]) rfl ⟨rfl, ?_⟩
  exact (Below.refl _ _).alloc (Nat.le_refl _) _

set_option maxHeartbeats 3200000 in
set_option maxRecDepth 100000 in
theorem first_let (s : ByteArray) (h0 : 0 < s.size) (hs : s.size ≤ 4611686018427387904) (hp : isLet s[0] = true) (k : Int) (w : World) :
    Calls Try.prog 28 #[.string s, .int .i64 k] w (fun e w' => e = .returned (.tuple #[.agg #[.int .i64 0, .string (s.extract 0 (runTo isLet (bl s) 0)), .int .i64 k], .int .i64 (wordE (bl (s.extract 0 (runTo isLet (bl s) 0))) : Nat)]) ∧ Below w.heap.size w w') := by
  have HS := Lib.hid (fun w => sign_any s[0] w)
  rw [(let_not _ hp).2] at HS
  have HR := Lib.hid (fun w => run_let s h0 hs hp w)
  have HA := Lib.hid (fun w => rlet_yes s[0] hp w)
  have hx : (s.extract 0 (runTo isLet (bl s) 0)).size ≤ 4611686018427387904 := by simp; omega
  generalize s.extract 0 (runTo isLet (bl s) 0) = X at *
  have HW := Lib.hid (fun w => rword_any X hx w)
  clear hp hx
  go_enter Try.func28, Try.ntmps28
  go_wp2_with fail
  refine (HS.out _).mono ?_
  rintro e w1 ⟨rfl, rfl⟩
  go_wp2_with fail
  refine (HR.out _).mono ?_
  rintro e w1 ⟨rfl, rfl⟩
  go_wp2_with fail
  refine (HA.out _).mono ?_
  rintro e w1 ⟨rfl, rfl⟩
  go_wp2
  go_region_held3 (fun x => x.cell? ⟨w.heap.size + 1, 0, none⟩ = some (.int .i64 0) ∧ x.cell? ⟨w.heap.size + 1, 1, none⟩ = some (.string X) ∧ x.cell? ⟨w.heap.size + 1, 2, none⟩ = some (.int .i64 k))
    (go_keep)
    (first | (go_at_call 51; refine (HW.out _).mono ?_; rintro e wz ⟨rfl, rfl⟩))
  rename_i hHeldz
  clear hHeldz
  go_wp2
  refine bodyPost_ret (v := .tuple #[.agg #[.int .i64 0, .string X, .int .i64 k], .int .i64 (wordE (bl X) : Nat)]) (by simp [results, Try.results28, go_sem]) rfl ⟨rfl, ?_⟩
  exact (((Below.refl _ _).alloc (Nat.le_refl _) _).alloc (by simp) _).drew

set_option maxHeartbeats 3200000 in
set_option maxRecDepth 100000 in
theorem first_dig (s : ByteArray) (h0 : 0 < s.size) (hs : s.size ≤ 4611686018427387904) (hp : isDig s[0] = true) (k : Int) (w : World) :
    Calls Try.prog 28 #[.string s, .int .i64 k] w (fun e w' => e = .returned (.tuple #[.agg #[.int .i64 1, .string (s.extract 0 (runTo isDig (bl s) 0)), .int .i64 k], .int .i64 (numE (bl (s.extract 0 (runTo isDig (bl s) 0))) : Nat)]) ∧ Below w.heap.size w w') := by
  have HS := Lib.hid (fun w => sign_any s[0] w)
  rw [(dig_not _ hp).2.1] at HS
  have HR := Lib.hid (fun w => run_dig s h0 hs hp w)
  have HA := Lib.hid (fun w => rlet_no s[0] (dig_not _ hp).2.2 w)
  have HB := Lib.hid (fun w => rdig_yes s[0] hp w)
  have hx : (s.extract 0 (runTo isDig (bl s) 0)).size ≤ 4611686018427387904 := by simp; omega
  generalize s.extract 0 (runTo isDig (bl s) 0) = X at *
  have HW := Lib.hid (fun w => rnum_any X hx w)
  clear hp hx
  go_enter Try.func28, Try.ntmps28
  go_wp2_with fail
  refine (HS.out _).mono ?_
  rintro e w1 ⟨rfl, rfl⟩
  go_wp2_with fail
  refine (HR.out _).mono ?_
  rintro e w1 ⟨rfl, rfl⟩
  go_wp2_with fail
  refine (HA.out _).mono ?_
  rintro e w1 ⟨rfl, rfl⟩
  go_wp2_with fail
  refine (HB.out _).mono ?_
  rintro e w1 ⟨rfl, rfl⟩
  go_wp2
  go_region_held3 (fun x => x.cell? ⟨w.heap.size + 1, 0, none⟩ = some (.int .i64 1) ∧ x.cell? ⟨w.heap.size + 1, 1, none⟩ = some (.string X) ∧ x.cell? ⟨w.heap.size + 1, 2, none⟩ = some (.int .i64 k))
    (go_keep)
    (first | (go_at_call 53; refine (HW.out _).mono ?_; rintro e wz ⟨rfl, rfl⟩))
  rename_i hHeldz
  clear hHeldz
  go_wp2
  refine bodyPost_ret (v := .tuple #[.agg #[.int .i64 1, .string X, .int .i64 k], .int .i64 (numE (bl X) : Nat)]) (by simp [results, Try.results28, go_sem]) rfl ⟨rfl, ?_⟩
  exact (((Below.refl _ _).alloc (Nat.le_refl _) _).alloc (by simp) _).drew

set_option maxHeartbeats 3200000 in
set_option maxRecDepth 100000 in
theorem first_bad (s : ByteArray) (h0 : 0 < s.size) (h1 : isSig s[0] = false) (h2 : isLet s[0] = false) (h3 : isDig s[0] = false) (k : Int) (w : World) :
    Calls Try.prog 28 #[.string s, .int .i64 k] w (fun e w' => e = .returned (.tuple #[.agg #[.int .i64 0, .string ⟨#[]⟩, .int .i64 0], .int .i64 4]) ∧ Below w.heap.size w w') := by
  have HS := Lib.hid (fun w => sign_any s[0] w)
  rw [h1] at HS
  have HR := Lib.hid (fun w => run_none s h0 h2 h3 w)
  have HA := Lib.hid (fun w => rlet_no s[0] h2 w)
  have HB := Lib.hid (fun w => rdig_no s[0] h3 w)
  clear h1 h2 h3
  go_enter Try.func28, Try.ntmps28
  go_wp2_with fail
  refine (HS.out _).mono ?_
  rintro e w1 ⟨rfl, rfl⟩
  go_wp2_with fail
  refine (HR.out _).mono ?_
  rintro e w1 ⟨rfl, rfl⟩
  go_wp2_with fail
  refine (HA.out _).mono ?_
  rintro e w1 ⟨rfl, rfl⟩
  go_wp2_with fail
  refine (HB.out _).mono ?_
  rintro e w1 ⟨rfl, rfl⟩
  go_wp2
  refine bodyPost_ret (v := .tuple #[.agg #[.int .i64 0, .string ⟨#[]⟩, .int .i64 0], .int .i64 4]) (by simp [results, Try.results28, go_sem]) rfl ⟨rfl, ?_⟩
  exact ((Below.refl _ _).alloc (Nat.le_refl _) _).alloc (by simp) _

theorem take_tw (p : UInt8 → Bool) (l : List UInt8) : l.take (l.takeWhile p).length = l.takeWhile p := by
  induction l with
  | nil => rfl
  | cons c r ih =>
    rw [List.takeWhile_cons]
    rcases h : p c with _ | _
    · rfl
    · simp [ih]
theorem all_tw (p : UInt8 → Bool) (l : List UInt8) : (l.takeWhile p).all p = true := by
  induction l with
  | nil => rfl
  | cons c r ih =>
    rw [List.takeWhile_cons]
    rcases h : p c with _ | _
    · rfl
    · simp only [if_true, List.all_cons, h, ih, Bool.and_self]
theorem len_run {p : UInt8 → Bool} {l : List UInt8} {k m : Nat} (hk : k < l.length) (hm : m = runTo p l k) : ((l.drop k).take (m - k)).length = m - k := by
  have := runTo_le p l k (by omega)
  rw [List.length_take, List.length_drop]; omega
theorem allB_run {p : UInt8 → Bool} {l : List UInt8} {k m : Nat} (hk : k < l.length) (hc : p l[k] = true) (hm : m = runTo p l k) : allB p ((l.drop k).take (m - k)) = true := by
  have h1 := runTo_gt hk hc
  have h2 := len_run hk hm
  unfold allB
  rw [Bool.and_eq_true, decide_eq_true_eq]
  refine ⟨?_, by omega⟩
  have h3 : (l.drop k).take (m - k) = (l.drop k).takeWhile p := by
    have h4 : m - k = ((l.drop k).takeWhile p).length := by rw [hm]; unfold runTo runLen; omega
    rw [h4]
    exact take_tw _ _
  rw [h3]
  exact all_tw _ _
theorem word_take {l : List UInt8} {k m : Nat} (hk : k < l.length) (hc : isLet l[k] = true) (hm : m = runTo isLet l k) : wordE ((l.drop k).take (m - k)) = if 24 < m - k then 19 else 0 := by
  have h1 : allB isLet ((l.drop k).take (m - k)) = true := allB_run hk hc hm
  have h2 : ((l.drop k).take (m - k)).length = m - k := len_run hk hm
  unfold wordE
  rw [h1, h2, if_pos rfl]
theorem num_take {l : List UInt8} {k m : Nat} (hk : k < l.length) (hc : isDig l[k] = true) (hm : m = runTo isDig l k) : numE ((l.drop k).take (m - k)) = if 1024 < m - k then 11 else if 1 < m - k ∧ l[k] = 48 then 3 else 0 := by
  have h1 : allB isDig ((l.drop k).take (m - k)) = true := allB_run hk hc hm
  have h2 : ((l.drop k).take (m - k)).length = m - k := len_run hk hm
  have h3 : ((l.drop k).take (m - k))[0]? = some l[k] := by
    have := runTo_gt hk hc
    rw [← hm] at this
    rw [List.getElem?_take_of_lt (by omega), List.getElem?_drop, Nat.add_zero, List.getElem?_eq_getElem hk]
  unfold numE
  rw [h1, h2, h3, if_pos rfl]
  simp
end Go.Proofs.Ytffcahhnaomegaa
