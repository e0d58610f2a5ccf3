/- The first token of what is left of a text, by the reference. -/
import Derived.Test.YtffcahhnaomegaaLi
namespace Go.Proofs.Ytffcahhnaomegaa
open Go.RowKit Go.Proofs.Lx

theorem rest_size (s : ByteArray) (k : Nat) : (s.extract k s.size).size = s.size - k := by simp
theorem rest_bl (s : ByteArray) (k : Nat) : bl (s.extract k s.size) = (bl s).drop k := by
  rw [ext_eq]
  have : ((bl s).drop k).length = s.size - k := by simp
  rw [← this, List.take_length]
theorem rest_head (s : ByteArray) (k : Nat) (hk : k < s.size) (h0 : 0 < (s.extract k s.size).size) : (s.extract k s.size)[0] = s[k] := by
  have h1 : k < (bl s).length := by simpa using hk
  have h2 : 0 < (bl (s.extract k s.size)).length := by simpa using h0
  have h3 : (s.extract k s.size)[0] = (bl (s.extract k s.size))[0]'h2 := rfl
  have h4 : s[k] = (bl s)[k]'h1 := rfl
  rw [h3, h4]
  simp only [rest_bl]
  simp
theorem rest_run (p : UInt8 → Bool) (s : ByteArray) (k : Nat) : runTo p (bl (s.extract k s.size)) 0 = runTo p (bl s) k - k := by
  rw [rest_bl]
  unfold runTo
  simp
theorem rest_cut (s : ByteArray) (k m : Nat) : (s.extract k s.size).extract 0 m = bt (((bl s).drop k).take m) := by
  rw [ext_eq, rest_bl]; simp

section
variable (s : ByteArray) (k : Nat) (hk : k < s.size) (hs : s.size ≤ 4611686018427387904) (w : World)
include hs
theorem rf_sig (hp : isSig s[k] = true) : Calls Try.prog 28 #[.string (s.extract k s.size), .int .i64 (k : Nat)] w (fun e w' => e = .returned (.tuple #[.agg #[.int .i64 2, .string (bt [s[k]]), .int .i64 (k : Nat)], .int .i64 0]) ∧ Below w.heap.size w w') := by
  have h0 : 0 < (s.extract k s.size).size := by rw [rest_size]; omega
  have h := first_sig (s.extract k s.size) h0 (by rw [rest_size]; omega) (by rw [rest_head s k hk h0]; exact hp) (k : Nat) w
  rw [rest_cut, List.drop_eq_getElem_cons (show k < (bl s).length by simpa using hk)] at h
  exact h
theorem rf_let (hp : isLet s[k] = true) : Calls Try.prog 28 #[.string (s.extract k s.size), .int .i64 (k : Nat)] w (fun e w' => e = .returned (.tuple #[.agg #[.int .i64 0, .string (bt (((bl s).drop k).take (runTo isLet (bl s) k - k))), .int .i64 (k : Nat)], .int .i64 ((if 24 < runTo isLet (bl s) k - k then 19 else 0 : Nat) : Nat)]) ∧ Below w.heap.size w w') := by
  have h0 : 0 < (s.extract k s.size).size := by rw [rest_size]; omega
  have h := first_let (s.extract k s.size) h0 (by rw [rest_size]; omega) (by rw [rest_head s k hk h0]; exact hp) (k : Nat) w
  rw [rest_run, rest_cut] at h
  have he := word_take (l := bl s) (k := k) (by simpa using hk) hp rfl
  rw [show bl (bt (((bl s).drop k).take (runTo isLet (bl s) k - k))) = ((bl s).drop k).take (runTo isLet (bl s) k - k) from rfl, he] at h
  exact h
theorem rf_dig (hp : isDig s[k] = true) : Calls Try.prog 28 #[.string (s.extract k s.size), .int .i64 (k : Nat)] w (fun e w' => e = .returned (.tuple #[.agg #[.int .i64 1, .string (bt (((bl s).drop k).take (runTo isDig (bl s) k - k))), .int .i64 (k : Nat)], .int .i64 ((if 1024 < runTo isDig (bl s) k - k then 11 else if 1 < runTo isDig (bl s) k - k ∧ s[k] = 48 then 3 else 0 : Nat) : Nat)]) ∧ Below w.heap.size w w') := by
  have h0 : 0 < (s.extract k s.size).size := by rw [rest_size]; omega
  have h := first_dig (s.extract k s.size) h0 (by rw [rest_size]; omega) (by rw [rest_head s k hk h0]; exact hp) (k : Nat) w
  rw [rest_run, rest_cut] at h
  have he := num_take (l := bl s) (k := k) (by simpa using hk) hp rfl
  rw [show bl (bt (((bl s).drop k).take (runTo isDig (bl s) k - k))) = ((bl s).drop k).take (runTo isDig (bl s) k - k) from rfl, he] at h
  exact h
omit hs in
theorem rf_bad (h1 : isSig s[k] = false) (h2 : isLet s[k] = false) (h3 : isDig s[k] = false) : Calls Try.prog 28 #[.string (s.extract k s.size), .int .i64 (k : Nat)] w (fun e w' => e = .returned (.tuple #[.agg #[.int .i64 0, .string ⟨#[]⟩, .int .i64 0], .int .i64 4]) ∧ Below w.heap.size w w') := by
  have h0 : 0 < (s.extract k s.size).size := by rw [rest_size]; omega
  exact first_bad (s.extract k s.size) h0 (by rw [rest_head s k hk h0]; exact h1) (by rw [rest_head s k hk h0]; exact h2) (by rw [rest_head s k hk h0]; exact h3) (k : Nat) w
end
theorem lit3' (w : World) (o : Obj) (a b c : Value) : ∀ (j : Nat) (u : Value), [a, b, c][j]? = some u → ((w.alloc o).alloc (.cells #[a, b, c] 41)).cell? ((⟨w.heap.size + 1, 0, none⟩ : Addr).add j) = some u := by
  intro j u hj
  have := lit3 (w.alloc o) a b c j u hj
  rwa [World.size_alloc] at this
theorem box_far {wr w3 w5 : World} {v : Value} {base n : Nat} {xs : List Value} {o : Obj} {a c : Value} {X : ByteArray} (hown : wr.ownsRow base 41 3 v n xs) (hb : Below wr.heap.size wr w3)
    (hg : ((w3.alloc (.cells #[a, .string X, c] 41)).alloc o).grownBy w5 v.ownBlock) : w5.cell? ⟨w3.heap.size, 1, none⟩ = some (.string X) := by
  refine hg.cell ?_ ?_
  · rw [World.cell?_alloc_lt _ _ _ (by rw [World.size_alloc]; simp)]
    exact cell_of_row _ _ 1 _ 41 (0, 0) (heap_alloc_new w3 _)
  · intro h
    have h1 := (hown.lt _ h.symm).2
    have h2 := hb.size
    simp at h1
    omega
end Go.Proofs.Ytffcahhnaomegaa
