/- Lists of divisors in memory, blocks of their own, copies, the error of several divisors. -/
import Derived.Test.YtgejkgeojjgclaaCb
namespace Go.Proofs.Ytgejkgeojjgclaa
open Go.RowKit Go.Proofs.Gr Go.Proofs.Cp
attribute [local go_sem] Oper.semAt_some

/-- A divisor's slice. -/
structure DX where
  a : Option Addr
  b : List Int
  c : Nat
def encD (x : DX) : List Value := [.slice x.a x.b.length x.c]
theorem encD_len (x : DX) : (encD x).length = 1 := rfl
def xAt (X : List DX) (j : Nat) : DX := X.getD j ⟨none, [], 0⟩
theorem xAt_get (X : List DX) (j : Nat) (h : j < X.length) : X[j] = xAt X j := by
  unfold xAt; rw [List.getD_eq_getElem?_getD, List.getElem?_eq_getElem h]; rfl
/-- A list of divisors in memory. -/
def LsAt (w : World) (a : Option Addr) (M : List (List Int)) : Prop := ∃ X : List DX, X.map DX.b = M ∧ RowAt 1 encD w a X ∧ ∀ x ∈ X, IsAt w x.a x.b
theorem LsAt.keep {w w' : World} {a : Option Addr} {M : List (List Int)} (h : LsAt w a M) (hb : Below w.heap.size w w') : LsAt w' a M := by
  obtain ⟨X, h1, h2, h3⟩ := h
  exact ⟨X, h1, h2.keep hb, fun x hx => (h3 x hx).keep hb⟩
theorem RowAt.div {w : World} {a : Option Addr} {X : List DX} (h : RowAt 1 encD w a X) (j : Nat) (hj : j < X.length) : ∃ b off, a = some ⟨b, off, none⟩ ∧ b < w.heap.size ∧ w.cell? ⟨b, off + j, none⟩ = some (.slice (xAt X j).a (xAt X j).b.length (xAt X j).c) := by
  obtain ⟨b, off, h1, h2, h3⟩ := h j hj
  rw [xAt_get X j hj] at h3
  exact ⟨b, off, h1, h2, by have := h3 0 (by omega); simpa [encD] using this⟩
theorem IsAt.ne {w : World} {a : Option Addr} {L : List Int} (h : IsAt w a L) (h1 : 1 ≤ L.length) : ∃ b o, a = some ⟨b, o, none⟩ := by
  obtain ⟨b, o, e, _⟩ := h 0 h1
  exact ⟨b, o, e⟩
/-- A block that begins with a list. -/
def PB (w : World) (g : Nat) (L : List Int) : Prop := ∃ cs : Array Value, Blk w g 3 cs ∧ cs.toList.take L.length = flat encI L
theorem PB.of_row {w : World} {g : Nat} {L : List Int} (h : RowB encI 3 w g L) : PB w g L := ⟨_, h, by rw [← flatI_len, List.take_length]⟩
theorem PB.lt {w : World} {g : Nat} {L : List Int} (h : PB w g L) : g < w.heap.size := by obtain ⟨cs, h1, -⟩ := h; exact h1.lt
theorem PB.cell {w : World} {g : Nat} {L : List Int} (h : PB w g L) (i : Nat) (hi : i < L.length) : w.cell? ⟨g, i, none⟩ = some (.int .i64 (iAt L i)) := by
  obtain ⟨cs, h1, h2⟩ := h
  have h3 := flat_at (k := 1) (enc := encI) encI_len L i 0 hi (by decide)
  rw [Nat.mul_one, Nat.add_zero, ← h2, List.getElem?_take_of_lt hi, iAt_get L i hi] at h3
  rw [Blk.cell h1 i, ← Array.getElem?_toList, h3]; rfl
theorem PB.frozen {w : World} {g : Nat} {L : List Int} (h : PB w g L) (i : Nat) : w.frozen? ⟨g, i, none⟩ = false := by obtain ⟨cs, h1, -⟩ := h; exact h1.frozen i
theorem PB.keep {w w' : World} {g : Nat} {L : List Int} (h : PB w g L) (hb : Below w.heap.size w w') : PB w' g L := by obtain ⟨cs, h1, h2⟩ := h; exact ⟨cs, h1.below hb h1.lt, h2⟩
theorem PB.far {w : World} {g : Nat} {L : List Int} (h : PB w g L) {p : Addr} (hp : g ≠ p.block) (u : Value) : PB (w.setCell p u) g L := by obtain ⟨cs, h1, h2⟩ := h; exact ⟨cs, h1.far hp u, h2⟩
theorem PB.set {w : World} {g : Nat} {L : List Int} (h : PB w g L) (i : Nat) (v : Int) : PB (w.setCell ⟨g, i, none⟩ (.int .i64 v)) g (L.set i v) := by
  obtain ⟨cs, h1, h2⟩ := h
  refine ⟨_, h1.set_ i _, ?_⟩
  rw [List.length_set, flatI_map, List.map_set, ← flatI_map, ← h2, Array.toList_setIfInBounds, List.take_set]
theorem PB.row {w : World} {g : Nat} {L : List Int} (h : PB w g L) : IsAt w (some ⟨g, 0, none⟩) L := by
  intro j hj
  refine ⟨g, 0, rfl, h.lt, fun i hi => ?_⟩
  obtain rfl : i = 0 := by omega
  rw [Nat.mul_one, Nat.add_zero, Nat.zero_add, h.cell j hj, iAt_get L j hj]; rfl
theorem PB.of_own {w : World} {base : Nat} {v : Value} {L : List Int} (h : w.ownsRow base 3 1 v L.length (flat encI L)) (h1 : 1 ≤ L.length) : ∃ g cap, v = .slice (some ⟨g, 0, none⟩) L.length cap ∧ base ≤ g ∧ PB w g L := by
  rcases h.2 with ⟨-, h0⟩ | ⟨g, cap, cur, rfl, hb, hg, -, -, -, ht⟩
  · omega
  · exact ⟨g, cap, rfl, hb, cur, hg, by rw [← ht, Nat.mul_one]⟩
theorem boneI (P : List Int) : ∀ u ∈ flat encI P, u.oneCell' = true := fun u hu => by
  obtain ⟨x, _, hx⟩ := List.mem_flatMap.1 hu
  simp only [encI, List.mem_cons, List.not_mem_nil, or_false] at hx
  rcases hx with rfl; rfl
set_option maxHeartbeats 12800000 in
set_option maxRecDepth 100000 in
theorem clone_any (ad : Option Addr) (c : Nat) (D : List Int) (h0 : 1 ≤ D.length) (hD : D.length ≤ 1000) (w : World) (h : IsAt w ad D) :
    Calls Try.prog 67 #[.slice ad D.length c] w (fun e w' => ∃ g cap, e = .returned (.slice (some ⟨g, 0, none⟩) D.length cap) ∧ w.heap.size ≤ g ∧ PB w' g D ∧ Below w.heap.size w w') := by
  have q31 : ∀ (w : World) (a : Option Addr) (n c n' c' : Nat), (binOp .eql 28 (.slice a n c) (.slice none n' c')).run Try.prog w = .ok (.bool a.isNone) w := fun w a n c n' c' => Lib.run_eql_slice_nil w _ _ a n c n' c' Try.underlying28
  obtain ⟨i0, hi0, hz0, hz1, hz2⟩ := info_parts infoI
  obtain ⟨b1, o1, rfl⟩ := IsAt.ne h h0
  have hnews : ∀ (W : World), Below w.heap.size w W → ∀ j u, (flat encI D)[j]? = some u → W.cell? ((⟨b1, o1, none⟩ : Addr).add j) = some u := by
    intro W hb j u hj
    exact RowAt.cells (k := 1) (enc := encI) (by decide) (fun _ => rfl) (h.keep hb) j u hj
  have HNW := Lib.hid hnews
  have HB1 : Hid (Below w.heap.size w (w.alloc (Obj.cells #[] 3))) := Lib.hid ((Below.refl _ _).alloc (Nat.le_refl _) _)
  have HO : Hid ((w.alloc (Obj.cells #[] 3)).ownsRow w.heap.size 3 1 (.slice (some ⟨w.heap.size, 0, none⟩) 0 0) 0 []) := Lib.hid (World.ownsRow_lit w #[] 0 (Nat.le_refl _) (by decide) rfl)
  have HFL : Hid ((flat encI D).length = D.length * 1) := Lib.hid (flat_len encI_len D)
  have H1 := Lib.hid (boneI D)
  have HPB : Hid (∀ (w' : World) v, w'.ownsRow w.heap.size 3 1 v D.length (flat encI D) → ∃ g cap, v = .slice (some ⟨g, 0, none⟩) D.length cap ∧ w.heap.size ≤ g ∧ PB w' g D) := Lib.hid fun w' v h => PB.of_own h h0
  clear hnews h h0
  generalize flat encI D = fl at *
  go_enter Try.func67, Try.ntmps67
  go_wp2_with (at_builtin; refine wpList_append_own _ rfl _ _ 28 rfl w.heap.size 3 i0 (.int .i64 0) 1 8 Try.underlying28 hi0 hz0 hz1 hz2 rfl (by decide) _ _ _ rfl HO.out ⟨b1, o1, none⟩ D.length c fl rfl HFL.out (HNW.out _ HB1.out) H1.out (by unfold maxLen; omega) (by omega) (by rw [World.size_alloc]; omega) ?_; intro v1 w3 hown1 hgrow1 _; have hB3 : Below w.heap.size w w3 := below_push (w := w) (Below.refl _ w) (fun k hk => (HO.out.lt k hk).1) hgrow1)
  rw [Nat.zero_add, List.nil_append] at hown1
  have HO1 := Lib.hid (HPB.out _ _ hown1)
  have HB3 := Lib.hid hB3
  clear hown1 hgrow1 hB3
  go_wp2
  go_ret
  obtain ⟨g, cap, e, h1, h2⟩ := HO1.out
  exact ⟨g, cap, congrArg _ e, h1, h2, HB3.out⟩
/-- One divisor, two divisors, in a new list. -/
theorem lits_row (w : World) (X : List DX) : RowAt 1 encD (w.alloc (.cells (flat encD X).toArray 28)) (some ⟨w.heap.size, 0, none⟩) X := by
  intro j hj
  refine ⟨w.heap.size, 0, rfl, by rw [World.size_alloc]; omega, fun i hi => ?_⟩
  rw [Nat.zero_add, cell_of_row _ _ _ _ _ (0, 0) (heap_alloc_new w _), List.getElem?_toArray, flat_at encD_len X j i hj hi]
end Go.Proofs.Ytgejkgeojjgclaa
