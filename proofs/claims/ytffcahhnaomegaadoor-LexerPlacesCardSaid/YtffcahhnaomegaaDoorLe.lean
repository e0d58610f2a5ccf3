/- What the table of classes holds; tokens in memory. -/
import Derived.Test.YtffcahhnaomegaaDoorLd
import Derived.Laws.AppendOwn
import Derived.OwnWalk
namespace Go.Proofs.YtffcahhnaomegaaDoor
open Go.RowKit Go.Proofs.Lx

def ent (cs : Array Value) (j : Nat) : List (Option Value) := [cs[j * 3]?, cs[j * 3 + 1]?, cs[j * 3 + 2]?]
def clsV (kind : Int) (blank : Bool) (f : Nat) : List (Option Value) := [some (.int .i64 kind), some (.bool blank), some (.func (.func f) #[] #[])]
theorem ent_put3_same (cs : Array Value) (k : Nat) (kind : Int) (blank : Bool) (f : Nat) (h : k * 3 + 2 < cs.size) : ent (put3 cs k kind blank f) k = clsV kind blank f := by
  have h1 : k * 3 < cs.size := by omega
  have h2 : k * 3 + 1 < cs.size := by omega
  simp [ent, put3, clsV, h, h1, h2]
theorem ent_put3_other (cs : Array Value) (k j : Nat) (kind : Int) (blank : Bool) (f : Nat) (h : j ≠ k) : ent (put3 cs k kind blank f) j = ent cs j := by
  have a1 : ¬ k * 3 + 2 = j * 3 := by omega
  have a2 : ¬ k * 3 + 1 = j * 3 := by omega
  have a3 : ¬ k * 3 = j * 3 := by omega
  have b1 : ¬ k * 3 + 2 = j * 3 + 1 := by omega
  have b2 : ¬ k * 3 + 1 = j * 3 + 1 := by omega
  have b3 : ¬ k * 3 = j * 3 + 1 := by omega
  have c1 : ¬ k * 3 + 2 = j * 3 + 2 := by omega
  have c2 : ¬ k * 3 + 1 = j * 3 + 2 := by omega
  have c3 : ¬ k * 3 = j * 3 + 2 := by omega
  simp only [ent, put3, Array.getElem?_setIfInBounds, if_neg a1, if_neg a2, if_neg a3, if_neg b1, if_neg b2, if_neg b3, if_neg c1, if_neg c2, if_neg c3]
theorem ent_putN_in (kind : Int) (blank : Bool) (f base : Nat) (cs : Array Value) (n j : Nat) (h1 : base ≤ j) (h2 : j < base + n) (h : (base + n) * 3 ≤ cs.size) : ent (putN kind blank f base cs n) j = clsV kind blank f := by
  induction n with
  | zero => omega
  | succ n ih =>
    rw [putN]
    by_cases e : j = base + n
    · subst e
      exact ent_put3_same _ _ _ _ _ (by rw [size_putN]; omega)
    · rw [ent_put3_other _ _ _ _ _ _ e]
      exact ih (by omega) (by omega)
theorem ent_putN_out (kind : Int) (blank : Bool) (f base : Nat) (cs : Array Value) (n j : Nat) (h : j < base ∨ base + n ≤ j) : ent (putN kind blank f base cs n) j = ent cs j := by
  induction n with
  | zero => rfl
  | succ n ih =>
    rw [putN, ent_put3_other _ _ _ _ _ _ (by omega)]
    exact ih (by omega)
theorem ent_putS_out (j : Nat) (h : ∀ n, n < 17 → (sigs.getD n 0).toNat ≠ j) : ∀ n, n ≤ 17 → ent (putS n) j = ent T3 j
  | 0, _ => rfl
  | n + 1, hn => by rw [putS, ent_put3_other _ _ _ _ _ _ (h n (by omega)).symm]; exact ent_putS_out j h n (by omega)
theorem ent_putS_in (m : Nat) (hm : m < 17) : ∀ n, m < n → n ≤ 17 → ent (putS n) (sigs.getD m 0).toNat = clsV 2 false 30
  | 0, h, _ => by omega
  | n + 1, h, hn => by
    rw [putS]
    by_cases e : (sigs.getD m 0).toNat = (sigs.getD n 0).toNat
    · rw [e]
      exact ent_put3_same _ _ _ _ _ (by rw [size_putS]; have : ∀ n, n < 17 → (sigs.getD n 0).toNat < 128 := by decide
                                        have := this n (by omega); omega)
    · rw [ent_put3_other _ _ _ _ _ _ e]
      exact ent_putS_in m hm n (by rcases Nat.lt_or_ge m n with h1 | h1; exact h1; exact absurd (by rw [show m = n by omega]) e) (by omega)

theorem tab_blank (c : UInt8) (h : c = 32) : ent T5 c.toNat = clsV 0 true 30 := by
  subst h
  exact ent_put3_same _ _ _ _ _ (by rw [size_putS]; decide)
theorem toNat_ne {c : UInt8} (h : c ≠ 32) : c.toNat ≠ 32 := fun e => h (UInt8.toNat_inj.1 (by rw [e]; rfl))
theorem sig_place (c : UInt8) (h : isSig c = true) : ∃ m, m < 17 ∧ sigs.getD m 0 = c := by
  have := all_bytes (fun c => !isSig c || (List.range 17).any (fun m => sigs.getD m 0 == c)) (by decide +kernel) c
  simp only [h, Bool.not_true, Bool.false_or, List.any_eq_true, List.mem_range, beq_iff_eq] at this
  exact this
theorem tab_sig (c : UInt8) (h : isSig c = true) : ent T5 c.toNat = clsV 2 false 30 := by
  rw [T5, ent_put3_other _ _ _ _ _ _ (toNat_ne (sig_not c h).1)]
  obtain ⟨m, hm, rfl⟩ := sig_place c h
  exact ent_putS_in m hm 17 hm (by omega)
theorem nosig (c : UInt8) (h : isSig c = false) : ∀ n, n < 17 → (sigs.getD n 0).toNat ≠ c.toNat := by
  intro n hn e
  have h1 : sigs.getD n 0 = c := UInt8.toNat_inj.1 e
  have h2 : ∀ n, n < 17 → isSig (sigs.getD n 0) = true := by decide
  have := h2 n hn
  rw [h1, h] at this
  cases this
theorem tab_T3 (c : UInt8) (h0 : c ≠ 32) (h : isSig c = false) : ent T5 c.toNat = ent T3 c.toNat := by
  rw [T5, ent_put3_other _ _ _ _ _ _ (toNat_ne h0)]
  exact ent_putS_out _ (nosig c h) 17 (by omega)
theorem tab_let (c : UInt8) (h : isLet c = true) : ent T5 c.toNat = clsV 0 false 28 := by
  obtain ⟨h1, h2⟩ := let_not c h
  simp only [isLet, Bool.and_eq_true, decide_eq_true_eq] at h
  rw [tab_T3 c h1 h2, T3, ent_putN_out _ _ _ _ _ _ _ (by omega), T2, ent_putN_in _ _ _ _ _ _ _ (by omega) (by omega) (by rw [size_T1]; omega)]
theorem tab_dig (c : UInt8) (h : isDig c = true) : ent T5 c.toNat = clsV 1 false 29 := by
  obtain ⟨h1, h2, h3⟩ := dig_not c h
  simp only [isDig, Bool.and_eq_true, decide_eq_true_eq] at h
  rw [tab_T3 c h1 h2, T3, ent_putN_in _ _ _ _ _ _ _ (by omega) (by omega) (by rw [size_T2]; omega)]
theorem tab_bad (c : UInt8) (h0 : c ≠ 32) (h1 : isSig c = false) (h2 : isLet c = false) (h3 : isDig c = false) : ent T5 c.toNat = clsV 0 false 27 := by
  rw [tab_T3 c h0 h1]
  have hl : c.toNat < 256 := c.toNat_lt
  simp only [isLet, isDig, Bool.and_eq_false_iff, decide_eq_false_iff_not] at h2 h3
  rw [T3, ent_putN_out _ _ _ _ _ _ _ (by omega), T2, ent_putN_out _ _ _ _ _ _ _ (by omega), T1, ent_putN_in _ _ _ _ _ _ _ (by omega) (by omega) (by rw [size_T0]; omega)]
/-- The three cells of a class. -/
theorem tab_cells {w : World} {g : Nat} (h : Blk w g 42 T5) {c : UInt8} {kind : Int} {blank : Bool} {f : Nat} (he : ent T5 c.toNat = clsV kind blank f) :
    w.cell? ⟨g, c.toNat * 3, none⟩ = some (.int .i64 kind) ∧ w.cell? ⟨g, c.toNat * 3 + 1, none⟩ = some (.bool blank) ∧ w.cell? ⟨g, c.toNat * 3 + 2, none⟩ = some (.func (.func f) #[] #[]) := by
  simp only [ent, clsV, List.cons.injEq, and_true] at he
  rw [h.cell, h.cell, h.cell]
  exact he

/-- A text of a list of bytes. -/
abbrev bt (l : List UInt8) : ByteArray := ⟨l.toArray⟩
theorem bt_bl (s : ByteArray) : bt (bl s) = s := by simp [bt, bl]
/-- A token as cells. -/
def tkv (t : Tk) : List Value := [.int .i64 t.kind, .string (bt t.text), .int .i64 t.pos]
/-- Tokens as cells. -/
def tks (L : List Tk) : List Value := L.flatMap tkv
theorem tks_append (L M : List Tk) : tks (L ++ M) = tks L ++ tks M := by simp [tks]
theorem tks_one (t : Tk) : tks [t] = tkv t := by simp [tks]
theorem tks_len (L : List Tk) : (tks L).length = L.length * 3 := by
  induction L with
  | nil => rfl
  | cons t L ih =>
    have : tks (t :: L) = tkv t ++ tks L := by simp [tks]
    rw [this, List.length_append, ih]; simp [tkv]; omega
theorem tks_at (L : List Tk) (j i : Nat) (hj : j < L.length) (hi : i < 3) : (tks L)[j * 3 + i]? = (tkv L[j])[i]? := by
  induction L generalizing j with
  | nil => simp at hj
  | cons t L ih =>
    have hc : tks (t :: L) = tkv t ++ tks L := by simp [tks]
    rw [hc]
    rcases j with _ | j
    · rw [List.getElem?_append_left (by simp [tkv]; omega)]; simp
    · rw [List.getElem?_append_right (by simp [tkv]; omega)]
      have := ih j (by simpa using hj)
      simp only [tkv, List.length_cons, List.length_nil]
      rw [show (j + 1) * 3 + i - (0 + 1 + 1 + 1) = j * 3 + i by omega, this]
      simp [tkv]
/-- At an address the tokens lie. -/
def TkAt (w : World) (a : Option Addr) (L : List Tk) : Prop :=
  ∀ j (hj : j < L.length), ∃ b off, a = some ⟨b, off, none⟩ ∧ b < w.heap.size ∧ w.cell? ⟨b, off + j * 3, none⟩ = some (.int .i64 L[j].kind) ∧ w.cell? ⟨b, off + j * 3 + 1, none⟩ = some (.string (bt L[j].text)) ∧ w.cell? ⟨b, off + j * 3 + 2, none⟩ = some (.int .i64 L[j].pos)
theorem TkAt.keep {w w' : World} {a : Option Addr} {L : List Tk} (h : TkAt w a L) (hb : Below w.heap.size w w') : TkAt w' a L := by
  intro j hj
  obtain ⟨b, off, rfl, hlt, h1, h2, h3⟩ := h j hj
  exact ⟨b, off, rfl, Nat.lt_of_lt_of_le hlt hb.size, (hb.cell (p := ⟨b, off + j * 3, none⟩) hlt).trans h1, (hb.cell (p := ⟨b, off + j * 3 + 1, none⟩) hlt).trans h2, (hb.cell (p := ⟨b, off + j * 3 + 2, none⟩) hlt).trans h3⟩
theorem TkAt.nil (w : World) (a : Option Addr) : TkAt w a [] := fun j hj => by simp at hj
theorem own_keep {w w' : World} {base : Nat} {e : TypeId} {size : Nat} {v : Value} {n : Nat} {xs : List Value} (h : w.ownsRow base e size v n xs) (hb : Below w.heap.size w w') : w'.ownsRow base e size v n xs :=
  h.kept (w' := w') (row := none) ⟨hb.os, hb.tape, hb.output, hb.size, fun k hk _ => hb.block k hk⟩ (by cases v.ownBlock <;> simp)
theorem TkAt.of_own {w : World} {base : Nat} {v : Value} {L : List Tk} (h : w.ownsRow base 28 3 v L.length (tks L)) : ∃ a cap, v = .slice a L.length cap ∧ TkAt w a L := by
  rcases h.2 with ⟨rfl, h0⟩ | ⟨g, cap, cur, rfl, -, hg, -⟩
  · rw [h0]; exact ⟨none, 0, rfl, fun j hj => by omega⟩
  · refine ⟨some ⟨g, 0, none⟩, cap, rfl, fun j hj => ⟨g, 0, rfl, (Array.getElem?_eq_some_iff.1 hg).1, ?_, ?_, ?_⟩⟩
    · rw [Nat.zero_add, h.cellAt (j * 3) (by rw [Nat.mul_comm]; omega), show j * 3 = j * 3 + 0 from rfl, tks_at L j 0 hj (by omega)]; rfl
    · rw [Nat.zero_add, h.cellAt (j * 3 + 1) (by omega), tks_at L j 1 hj (by omega)]; rfl
    · rw [Nat.zero_add, h.cellAt (j * 3 + 2) (by omega), tks_at L j 2 hj (by omega)]; rfl
theorem below_push {w wr w1 : World} {o : Obj} {v : Value} (hB : Below w.heap.size w wr) (hv : ∀ k, v.ownBlock = some k → w.heap.size ≤ k) (hg : (wr.alloc o).grownBy w1 v.ownBlock) : Below w.heap.size w w1 :=
  (hB.alloc hB.size _).grown hg (by rw [World.size_alloc]; have := hB.size; omega) (fun k hk => hv k hk)
theorem lit_tk (w : World) (t : Tk) : ∀ (j : Nat) (u : Value), (tkv t)[j]? = some u → (w.alloc (.cells #[.int .i64 t.kind, .string (bt t.text), .int .i64 t.pos] 28)).cell? ((⟨w.heap.size, 0, none⟩ : Addr).add j) = some u := by
  intro j u hj
  have h1 : ((⟨w.heap.size, 0, none⟩ : Addr).add j) = ⟨w.heap.size, j, none⟩ := by unfold Addr.add; split <;> simp_all
  rw [h1, cell_of_row _ _ j _ 28 (0, 0) (heap_alloc_new w _)]
  simpa [tkv] using hj
theorem info41 : (Tryd.prog.info? 28).map (fun i => (i.zero, i.size, i.bytes)) = some (some (.agg #[.int .i64 0, .string ⟨#[]⟩, .int .i64 0]), 3, 32) := by kernel_rfl
theorem Blk.grown {w w' : World} {g : Nat} {t : TypeId} {cs : Array Value} {row : Option Nat} (h : Blk w g t cs) (hb : w.grownBy w' row) (hg : some g ≠ row) : Blk w' g t cs := (hb.block g h.lt hg).trans h
theorem own_blk_ne {w : World} {g : Nat} {t : TypeId} {cs : Array Value} {base : Nat} {e : TypeId} {size n : Nat} {v : Value} {xs : List Value} (h : w.ownsRow base e size v n xs) (hg : Blk w g t cs) (hne : e ≠ t) : some g ≠ v.ownBlock := by
  rcases h.2 with ⟨rfl, _⟩ | ⟨g', cap, cur, rfl, _, hh, _⟩
  · simp [Value.ownBlock]
  · intro he
    have h1 : g = g' := by simpa [Value.ownBlock] using he
    subst h1
    unfold Blk at hg
    rw [hg] at hh
    injection hh with hh
    injection hh with _ ht
    exact hne ht.symm
theorem lit3 (w : World) (a b c : Value) : ∀ (j : Nat) (u : Value), [a, b, c][j]? = some u → (w.alloc (.cells #[a, b, c] 28)).cell? ((⟨w.heap.size, 0, none⟩ : Addr).add j) = some u := by
  intro j u hj
  have h1 : ((⟨w.heap.size, 0, none⟩ : Addr).add j) = ⟨w.heap.size, j, none⟩ := by unfold Addr.add; split <;> simp_all
  rw [h1, cell_of_row _ _ j _ 28 (0, 0) (heap_alloc_new w _)]
  simpa using hj
theorem push_all {W W1 w3 : World} {o : Obj} {v : Value} {n g q : Nat} {xs : List Value} {cs bx : Array Value} (hb : Below W.heap.size W W1) (hB : Blk W1 g 42 cs) (hQ : Blk W1 q 41 bx) (hown : W1.ownsRow W.heap.size 28 3 v n xs) (hg : ((W1.alloc o).drew).grownBy w3 v.ownBlock) :
    Below W.heap.size W w3 ∧ Blk w3 g 42 cs ∧ w3.cell? ⟨q, 0, none⟩ = bx[0]? :=
  ⟨(hb.alloc hb.size o).drew.grown hg (by show _ ≤ (W1.alloc o).heap.size; rw [World.size_alloc]; have := hb.size; omega) (fun k hk => (hown.lt k hk).1),
   Blk.grown (w := (W1.alloc o).drew) (hB.alloc o) hg (own_blk_ne hown hB (by decide)),
   (Blk.grown (w := (W1.alloc o).drew) (hQ.alloc o) hg (own_blk_ne hown hQ (by decide))).cell 0⟩
/-- A cut of a text. -/
theorem ext_eq (s : ByteArray) (k m : Nat) : s.extract k m = bt (((bl s).drop k).take (m - k)) := by
  apply ByteArray.ext
  show (s.extract k m).data = (((bl s).drop k).take (m - k)).toArray
  rw [ByteArray.data_extract, ← Array.toList_inj, Array.toList_extract]
/-- Hands back tokens, an offset and an error's number. -/
def GivesTk (w : World) (R : List Tk × Nat × Nat) (e : Ending) (w' : World) : Prop :=
  ∃ a cap, e = .returned (.tuple #[.slice a R.1.length cap, .int .i64 (R.2.1 : Nat), .int .i64 (R.2.2 : Nat)]) ∧ TkAt w' a R.1 ∧ Below w.heap.size w w'
end Go.Proofs.YtffcahhnaomegaaDoor
