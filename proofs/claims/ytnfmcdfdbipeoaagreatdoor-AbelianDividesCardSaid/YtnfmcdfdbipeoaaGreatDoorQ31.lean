/- Abelian groups: lists that a call makes; what two lists have at the same places. And: Abelian groups: residues, orders and opposites at the same places of two lists. And: Abelian groups: what is done at one place. -/
import Derived.Test.YtnfmcdfdbipeoaaGreatDoorQ30
import Derived.Laws.AppendOwn
import Derived.OwnWalk
namespace Go.Proofs.YtnfmcdfdbipeoaaGreatDoor
open Go.RowKit Go.Proofs.Num

theorem info31 : (Tryz.prog.info? 31).map (fun i => (i.zero, i.size, i.bytes)) = some (some (.string ⟨#[]⟩), 1, 16) := by kernel_rfl
/-- Texts as cells. -/
def strs (l : List ByteArray) : List Value := l.map Value.string
theorem strs_len (l : List ByteArray) : (strs l).length = l.length := by simp [strs]
theorem strs_append (l m : List ByteArray) : strs (l ++ m) = strs l ++ strs m := by simp [strs]
theorem strs_one (s : ByteArray) : strs [s] = [.string s] := rfl
theorem strs_at (l : List ByteArray) (j : Nat) (hj : j < l.length) : (strs l)[j]? = some (.string (sat l j)) := by
  unfold strs
  rw [List.getElem?_map, List.getElem?_eq_getElem hj, sat_get l j hj]
  rfl
theorem own_keep {w w' : World} {base : Nat} {e : TypeId} {size : Nat} {v : Value} {n : Nat} {xs : List Value} (h : w.ownsRow base e size v n xs) (hb : Below w.heap.size w w') : w'.ownsRow base e size v n xs :=
  h.kept (w' := w') (row := none) ⟨hb.os, hb.tape, hb.output, hb.size, fun k hk _ => hb.block k hk⟩ (by cases v.ownBlock <;> simp)
/-- A list that a call has made lies in memory. -/
theorem TsAt.of_own {w : World} {base : Nat} {v : Value} {R : List ByteArray} (h : w.ownsRow base 31 1 v R.length (strs R)) : ∃ a cap, v = .slice a R.length cap ∧ TsAt w a R := by
  rcases h.2 with ⟨rfl, h0⟩ | ⟨g, cap, cur, rfl, -, hg, -⟩
  · rw [h0]; exact ⟨none, 0, rfl, fun j hj => by omega⟩
  · refine ⟨some ⟨g, 0, none⟩, cap, rfl, fun j hj => ⟨g, 0, rfl, (Array.getElem?_eq_some_iff.1 hg).1, ?_⟩⟩
    rw [Nat.zero_add, h.cellAt j (by omega), strs_at R j hj]
/-- Hands back a list of texts and an error's number. -/
def GivesTs (w : World) (R : List ByteArray) (c : Int) (e : Ending) (w' : World) : Prop :=
  ∃ a cap, e = .returned (.tuple #[.slice a R.length cap, .int .i64 c]) ∧ TsAt w' a R ∧ Below w.heap.size w w'
/-- Hands back a list of texts. -/
def GivesL (w : World) (R : List ByteArray) (e : Ending) (w' : World) : Prop :=
  ∃ a cap, e = .returned (.slice a R.length cap) ∧ TsAt w' a R ∧ Below w.heap.size w w'
/-- The first texts of a series. -/
def upto (f : Nat → ByteArray) (n : Nat) : List ByteArray := (List.range n).map f
theorem upto_len (f : Nat → ByteArray) (n : Nat) : (upto f n).length = n := by simp [upto]
theorem upto_succ (f : Nat → ByteArray) (n : Nat) : upto f (n + 1) = upto f n ++ [f n] := by simp [upto, List.range_succ]
theorem upto_zero (f : Nat → ByteArray) : upto f 0 = [] := rfl
theorem sat_upto (f : Nat → ByteArray) (n j : Nat) (hj : j < n) : sat (upto f n) j = f j := by
  rw [sat_get _ j (by rw [upto_len]; exact hj)]
  simp [upto]
theorem lit_one (w : World) (s : ByteArray) : ∀ (j : Nat) (u : Value), [Value.string s][j]? = some u → (w.alloc (.cells #[.string s] 31)).cell? ((⟨w.heap.size, 0, none⟩ : Addr).add j) = some u := by
  intro j u hj
  rcases j with _ | j
  · simp at hj; subst hj; exact (cell_of_row _ _ 0 _ 31 (0, 0) (heap_alloc_new w _))
  · simp at hj
theorem below_push {w wr w1 : World} {o : Obj} {v : Value} (hB : Below w.heap.size w wr) (hv : ∀ k, v.ownBlock = some k → w.heap.size ≤ k) (hg : (wr.alloc o).grownBy w1 v.ownBlock) : Below w.heap.size w w1 :=
  (hB.alloc hB.size _).grown hg (by rw [World.size_alloc]; have := hB.size; omega) (fun k hk => hv k hk)

set_option maxHeartbeats 3200000 in
set_option maxRecDepth 100000 in
theorem comb_rem_shape (a b : Option Addr) (n m c1 c2 : Nat) (hn : n ≠ m) (w : World) :
    Calls Tryz.prog 65 #[.slice a n c1, .slice b m c2, (.func (.func 46) #[] #[])] w (fun e w' => e = .returned (.tuple #[.slice none 0 0, .int .i64 8]) ∧ Below w.heap.size w w') := by
  have d0 : (((n : Nat) : Int) != ((m : Nat) : Int)) = true := by simp; omega
  have d1 : ¬ ((n : Nat) : Int) = ((m : Nat) : Int) := by omega
  clear hn
  go_enter Tryz.func65, Tryz.ntmps65
  go_wp2
  go_ret2
  exact ⟨rfl, Below.refl _ _⟩

set_option maxHeartbeats 3200000 in
set_option maxRecDepth 100000 in
theorem comb_rem_ok (a b : Option Addr) (c1 c2 : Nat) (L G : List ByteArray) (hL : L.length = G.length) (hl : G.length ≤ 4096) (f : Nat → ByteArray) (HO : Hid (∀ j, j < G.length → ∀ w, Tab w → Calls Tryz.prog 46 #[.string (sat L j), .string (sat G j)] w (fun e w' => e = .returned (.tuple #[.string (f j), .int .i64 0]) ∧ Below w.heap.size w w'))) (w : World) (h1 : TsAt w a L) (h2 : TsAt w b G) (hT : Tab w) :
    Calls Tryz.prog 65 #[.slice a L.length c1, .slice b G.length c2, (.func (.func 46) #[] #[])] w (GivesTs w (upto f G.length) 0) := by
  rw [hL]
  have H1 := Lib.hid h1
  have H2 := Lib.hid h2
  have HT := Lib.hid hT
  obtain ⟨i0, hi, hz0, hz1, hz2⟩ := info_parts info31
  have HL := Lib.hid hL
  clear h1 h2 hT hL
  go_enter Tryz.func65, Tryz.ntmps65
  go_wp2_with (at_make; refine wpList_make_own _ rfl _ _ 22 rfl w.heap.size 31 i0 (.string ⟨#[]⟩) 1 Tryz.underlying22 hi hz0 hz1 _ _ _ G.length rfl rfl (by omega) ?b2 ?b3 (Nat.le_refl _) ?_)
  case b2 => rw [hz2]; omega
  case b3 => unfold maxLen; omega
  intro w0 hown0 hgrow0
  have hB0 : Below w.heap.size w w0 := (Below.refl _ _).grown hgrow0 (Nat.le_refl _) (fun k h => by cases h)
  have HB0 := Lib.hid hB0
  clear hgrow0 hB0
  go_wp2
  go_loopw [8, 22] (fun v l wr => ∃ i : Nat, i ≤ G.length ∧ l = .int .i64 i ∧ v = .slice (some ⟨w.heap.size, 0, none⟩) i G.length ∧ wr.ownsRow w.heap.size 31 1 (.slice (some ⟨w.heap.size, 0, none⟩) i G.length) i (strs (upto f i)) ∧ Below w.heap.size w wr) (fun _ l _ => G.length - (intOf l).toNat)
  case atStart => exact ⟨0, Nat.zero_le _, rfl, rfl, hown0, HB0.out⟩
  case round =>
    clear hown0
    obtain ⟨i, hi', rfl, rfl, hown, hB⟩ := hrel
    have HOW := Lib.hid hown
    clear hown
    by_cases hlt : i < G.length
    · obtain ⟨b1, o1, rfl, hb1, hc1⟩ := (H1.out.keep hB) i (by rw [HL.out]; omega)
      obtain ⟨b2, o2, rfl, hb2, hc2⟩ := (H2.out.keep hB) i (by omega)
      have hiG : i < G.length := by omega
      have HS : Hid (∀ x, Below wr.heap.size wr x → (Below wr.heap.size wr x ∧ x.cell? ⟨b1, o1 + i, none⟩ = some (.string (sat L i)) ∧ x.cell? ⟨b2, o2 + i, none⟩ = some (.string (sat G i)))) := fun x hx => ⟨hx, (hx.cell (p := ⟨b1, o1 + i, none⟩) hb1).trans hc1, (hx.cell (p := ⟨b2, o2 + i, none⟩) hb2).trans hc2⟩
      clear hb1 hb2 hc1 hc2
      have C := Lib.hid (fun w => HO.out i hlt w)
      go_wp2
      have hk2 : Below wr.heap.size wr wr.drew := (Below.refl _ _).drew
      have HTr := Lib.hid (HT.out.keep hB)
      obtain ⟨_, f0, f1⟩ := HS.out _ hk2
      go_region_held3 (fun x => Below wr.heap.size wr x ∧ x.cell? ⟨b1, o1 + i, none⟩ = some (.string (sat L i)) ∧ x.cell? ⟨b2, o2 + i, none⟩ = some (.string (sat G i)))
    (first | exact HS.out _ (by assumption) | exact HS.out _ (Below.drew (by assumption)) | (refine HS.out _ ?_; exact Below.alloc hk2 hk2.size _))
    (first | (go_at_call 46; refine (C.out _ (HTr.out.keep hk2)).mono ?_; rintro e wz ⟨rfl, hbz⟩; have hk3 := hk2.trans (hbz.mono hk2.size); clear hbz hk2; have hk2 := hk3; clear hk3))
      rename_i hHeldz
      clear hHeldz
      have hB1 : Below w.heap.size w wz := hB.trans (hk2.mono hB.size)
      have HOW1 := Lib.hid (own_keep HOW.out hk2)
      clear f0 f1 hk2 HTr
      have hbs := hB1.size
      go_wp2_with (at_builtin; refine wpList_append_fits _ rfl _ _ 22 rfl w.heap.size 31 i0 1 Tryz.underlying22 hi hz1 w.heap.size i G.length _ rfl (HOW1.out.alloc _) ⟨wz.heap.size, 0, none⟩ 1 1 [.string (f i)] rfl rfl (lit_one _ _) (by simp [Value.oneCell']) (by omega) ?_; intro w1 hown1 hgrow1)
      rw [← strs_one, ← strs_append, ← upto_succ] at hown1
      have HOW2 := Lib.hid hown1
      have hB2 : Below w.heap.size w w1 := below_push (v := .slice (some ⟨w.heap.size, 0, none⟩) i G.length) hB1 (fun k hk => by simp [Value.ownBlock] at hk; omega) hgrow1
      clear hown1 hgrow1
      go_wp2
      go_roundw
      case rel => exact ⟨i + 1, by omega, by go_num, rfl, HOW2.out, hB2⟩
      case measure => simp [intOf]; omega
    · obtain rfl : i = G.length := by omega
      have HE : Hid (∃ a' c', Value.slice (some ⟨w.heap.size, 0, none⟩) G.length G.length = .slice a' (upto f G.length).length c' ∧ TsAt wr a' (upto f G.length)) := by
        have := HOW.out
        rw [← upto_len f G.length] at this
        rw [upto_len] at this
        exact TsAt.of_own (by rw [upto_len]; exact this)
      go_wp2
      go_ret2
      obtain ⟨a', c', e1, e2⟩ := HE.out
      exact ⟨a', c', by rw [e1]; rfl, e2, hB⟩

set_option maxHeartbeats 3200000 in
set_option maxRecDepth 100000 in
theorem comb_rem_bad (a b : Option Addr) (c1 c2 : Nat) (L G : List ByteArray) (hL : L.length = G.length) (hl : G.length ≤ 4096) (p : Nat) (hp : p < G.length) (k : Nat) (hk : k ≠ 0) (X : ByteArray) (f : Nat → ByteArray) (HO : Hid (∀ j, j < p → ∀ w, Tab w → Calls Tryz.prog 46 #[.string (sat L j), .string (sat G j)] w (fun e w' => e = .returned (.tuple #[.string (f j), .int .i64 0]) ∧ Below w.heap.size w w')))
    (HB : Hid (∀ w, Tab w → Calls Tryz.prog 46 #[.string (sat L p), .string (sat G p)] w (fun e w' => e = .returned (.tuple #[.string X, .int .i64 ((k : Nat) : Int)]) ∧ Below w.heap.size w w'))) (w : World) (h1 : TsAt w a L) (h2 : TsAt w b G) (hT : Tab w) :
    Calls Tryz.prog 65 #[.slice a L.length c1, .slice b G.length c2, (.func (.func 46) #[] #[])] w (fun e w' => e = .returned (.tuple #[.slice none 0 0, .int .i64 ((k : Nat) : Int)]) ∧ Below w.heap.size w w') := by
  rw [hL]
  have H1 := Lib.hid h1
  have H2 := Lib.hid h2
  have HT := Lib.hid hT
  obtain ⟨i0, hi, hz0, hz1, hz2⟩ := info_parts info31
  have HL := Lib.hid hL
  have hk0 : ¬ ((k : Nat) : Int) = 0 := by omega
  have hk1 : (((k : Nat) : Int) != 0) = true := by simp; omega
  clear hk
  clear h1 h2 hT hL
  go_enter Tryz.func65, Tryz.ntmps65
  go_wp2_with (at_make; refine wpList_make_own _ rfl _ _ 22 rfl w.heap.size 31 i0 (.string ⟨#[]⟩) 1 Tryz.underlying22 hi hz0 hz1 _ _ _ G.length rfl rfl (by omega) ?b2 ?b3 (Nat.le_refl _) ?_)
  case b2 => rw [hz2]; omega
  case b3 => unfold maxLen; omega
  intro w0 hown0 hgrow0
  have hB0 : Below w.heap.size w w0 := (Below.refl _ _).grown hgrow0 (Nat.le_refl _) (fun k h => by cases h)
  have HB0 := Lib.hid hB0
  clear hgrow0 hB0
  go_wp2
  go_loopw [8, 22] (fun v l wr => ∃ i : Nat, i ≤ p ∧ l = .int .i64 i ∧ v = .slice (some ⟨w.heap.size, 0, none⟩) i G.length ∧ wr.ownsRow w.heap.size 31 1 (.slice (some ⟨w.heap.size, 0, none⟩) i G.length) i (strs (upto f i)) ∧ Below w.heap.size w wr) (fun _ l _ => p - (intOf l).toNat)
  case atStart => exact ⟨0, Nat.zero_le _, rfl, rfl, hown0, HB0.out⟩
  case round =>
    clear hown0
    obtain ⟨i, hi', rfl, rfl, hown, hB⟩ := hrel
    have HOW := Lib.hid hown
    clear hown
    by_cases hlt : i < p
    · obtain ⟨b1, o1, rfl, hb1, hc1⟩ := (H1.out.keep hB) i (by rw [HL.out]; omega)
      obtain ⟨b2, o2, rfl, hb2, hc2⟩ := (H2.out.keep hB) i (by omega)
      have hiG : i < G.length := by omega
      have HS : Hid (∀ x, Below wr.heap.size wr x → (Below wr.heap.size wr x ∧ x.cell? ⟨b1, o1 + i, none⟩ = some (.string (sat L i)) ∧ x.cell? ⟨b2, o2 + i, none⟩ = some (.string (sat G i)))) := fun x hx => ⟨hx, (hx.cell (p := ⟨b1, o1 + i, none⟩) hb1).trans hc1, (hx.cell (p := ⟨b2, o2 + i, none⟩) hb2).trans hc2⟩
      clear hb1 hb2 hc1 hc2
      have C := Lib.hid (fun w => HO.out i hlt w)
      go_wp2
      have hk2 : Below wr.heap.size wr wr.drew := (Below.refl _ _).drew
      have HTr := Lib.hid (HT.out.keep hB)
      obtain ⟨_, f0, f1⟩ := HS.out _ hk2
      go_region_held3 (fun x => Below wr.heap.size wr x ∧ x.cell? ⟨b1, o1 + i, none⟩ = some (.string (sat L i)) ∧ x.cell? ⟨b2, o2 + i, none⟩ = some (.string (sat G i)))
    (first | exact HS.out _ (by assumption) | exact HS.out _ (Below.drew (by assumption)) | (refine HS.out _ ?_; exact Below.alloc hk2 hk2.size _))
    (first | (go_at_call 46; refine (C.out _ (HTr.out.keep hk2)).mono ?_; rintro e wz ⟨rfl, hbz⟩; have hk3 := hk2.trans (hbz.mono hk2.size); clear hbz hk2; have hk2 := hk3; clear hk3))
      rename_i hHeldz
      clear hHeldz
      have hB1 : Below w.heap.size w wz := hB.trans (hk2.mono hB.size)
      have HOW1 := Lib.hid (own_keep HOW.out hk2)
      clear f0 f1 hk2 HTr
      have hbs := hB1.size
      go_wp2_with (at_builtin; refine wpList_append_fits _ rfl _ _ 22 rfl w.heap.size 31 i0 1 Tryz.underlying22 hi hz1 w.heap.size i G.length _ rfl (HOW1.out.alloc _) ⟨wz.heap.size, 0, none⟩ 1 1 [.string (f i)] rfl rfl (lit_one _ _) (by simp [Value.oneCell']) (by omega) ?_; intro w1 hown1 hgrow1)
      rw [← strs_one, ← strs_append, ← upto_succ] at hown1
      have HOW2 := Lib.hid hown1
      have hB2 : Below w.heap.size w w1 := below_push (v := .slice (some ⟨w.heap.size, 0, none⟩) i G.length) hB1 (fun k hk => by simp [Value.ownBlock] at hk; omega) hgrow1
      clear hown1 hgrow1
      go_wp2
      go_roundw
      case rel => exact ⟨i + 1, by omega, by go_num, rfl, HOW2.out, hB2⟩
      case measure => simp [intOf]; omega
    · obtain rfl : i = p := by omega
      obtain ⟨b1, o1, rfl, hb1, hc1⟩ := (H1.out.keep hB) i (by rw [HL.out]; omega)
      obtain ⟨b2, o2, rfl, hb2, hc2⟩ := (H2.out.keep hB) i (by omega)
      have hiG : i < G.length := by omega
      have HS : Hid (∀ x, Below wr.heap.size wr x → (Below wr.heap.size wr x ∧ x.cell? ⟨b1, o1 + i, none⟩ = some (.string (sat L i)) ∧ x.cell? ⟨b2, o2 + i, none⟩ = some (.string (sat G i)))) := fun x hx => ⟨hx, (hx.cell (p := ⟨b1, o1 + i, none⟩) hb1).trans hc1, (hx.cell (p := ⟨b2, o2 + i, none⟩) hb2).trans hc2⟩
      clear hb1 hb2 hc1 hc2
      go_wp2
      have hk2 : Below wr.heap.size wr wr.drew := (Below.refl _ _).drew
      have HTr := Lib.hid (HT.out.keep hB)
      obtain ⟨_, f0, f1⟩ := HS.out _ hk2
      go_region_held3 (fun x => Below wr.heap.size wr x ∧ x.cell? ⟨b1, o1 + i, none⟩ = some (.string (sat L i)) ∧ x.cell? ⟨b2, o2 + i, none⟩ = some (.string (sat G i)))
    (first | exact HS.out _ (by assumption) | exact HS.out _ (Below.drew (by assumption)) | (refine HS.out _ ?_; exact Below.alloc hk2 hk2.size _))
    (first | (go_at_call 46; refine (HB.out _ (HTr.out.keep hk2)).mono ?_; rintro e wz ⟨rfl, hbz⟩; have hk3 := hk2.trans (hbz.mono hk2.size); clear hbz hk2; have hk2 := hk3; clear hk3))
      rename_i hHeldz
      clear hHeldz
      have hB1 : Below w.heap.size w wz := hB.trans (hk2.mono hB.size)
      have HOW1 := Lib.hid (own_keep HOW.out hk2)
      clear f0 f1 hk2 HTr
      go_wp2
      go_ret2
      exact ⟨rfl, hB1⟩

end Go.Proofs.YtnfmcdfdbipeoaaGreatDoor

namespace Go.Proofs.YtnfmcdfdbipeoaaGreatDoor
open Go.RowKit Go.Proofs.Num

set_option maxHeartbeats 3200000 in
set_option maxRecDepth 100000 in
theorem comb_residue_shape (a b : Option Addr) (n m c1 c2 : Nat) (hn : n ≠ m) (w : World) :
    Calls Tryz.prog 65 #[.slice a n c1, .slice b m c2, (.func (.func 117) #[] #[])] w (fun e w' => e = .returned (.tuple #[.slice none 0 0, .int .i64 8]) ∧ Below w.heap.size w w') := by
  have d0 : (((n : Nat) : Int) != ((m : Nat) : Int)) = true := by simp; omega
  have d1 : ¬ ((n : Nat) : Int) = ((m : Nat) : Int) := by omega
  clear hn
  go_enter Tryz.func65, Tryz.ntmps65
  go_wp2
  go_ret2
  exact ⟨rfl, Below.refl _ _⟩

set_option maxHeartbeats 3200000 in
set_option maxRecDepth 100000 in
theorem comb_residue_ok (a b : Option Addr) (c1 c2 : Nat) (L G : List ByteArray) (hL : L.length = G.length) (hl : G.length ≤ 4096) (f : Nat → ByteArray) (HO : Hid (∀ j, j < G.length → ∀ w, Tab w → Calls Tryz.prog 117 #[.string (sat L j), .string (sat G j)] w (fun e w' => e = .returned (.tuple #[.string (f j), .int .i64 0]) ∧ Below w.heap.size w w'))) (w : World) (h1 : TsAt w a L) (h2 : TsAt w b G) (hT : Tab w) :
    Calls Tryz.prog 65 #[.slice a L.length c1, .slice b G.length c2, (.func (.func 117) #[] #[])] w (GivesTs w (upto f G.length) 0) := by
  rw [hL]
  have H1 := Lib.hid h1
  have H2 := Lib.hid h2
  have HT := Lib.hid hT
  obtain ⟨i0, hi, hz0, hz1, hz2⟩ := info_parts info31
  have HL := Lib.hid hL
  clear h1 h2 hT hL
  go_enter Tryz.func65, Tryz.ntmps65
  go_wp2_with (at_make; refine wpList_make_own _ rfl _ _ 22 rfl w.heap.size 31 i0 (.string ⟨#[]⟩) 1 Tryz.underlying22 hi hz0 hz1 _ _ _ G.length rfl rfl (by omega) ?b2 ?b3 (Nat.le_refl _) ?_)
  case b2 => rw [hz2]; omega
  case b3 => unfold maxLen; omega
  intro w0 hown0 hgrow0
  have hB0 : Below w.heap.size w w0 := (Below.refl _ _).grown hgrow0 (Nat.le_refl _) (fun k h => by cases h)
  have HB0 := Lib.hid hB0
  clear hgrow0 hB0
  go_wp2
  go_loopw [8, 22] (fun v l wr => ∃ i : Nat, i ≤ G.length ∧ l = .int .i64 i ∧ v = .slice (some ⟨w.heap.size, 0, none⟩) i G.length ∧ wr.ownsRow w.heap.size 31 1 (.slice (some ⟨w.heap.size, 0, none⟩) i G.length) i (strs (upto f i)) ∧ Below w.heap.size w wr) (fun _ l _ => G.length - (intOf l).toNat)
  case atStart => exact ⟨0, Nat.zero_le _, rfl, rfl, hown0, HB0.out⟩
  case round =>
    clear hown0
    obtain ⟨i, hi', rfl, rfl, hown, hB⟩ := hrel
    have HOW := Lib.hid hown
    clear hown
    by_cases hlt : i < G.length
    · obtain ⟨b1, o1, rfl, hb1, hc1⟩ := (H1.out.keep hB) i (by rw [HL.out]; omega)
      obtain ⟨b2, o2, rfl, hb2, hc2⟩ := (H2.out.keep hB) i (by omega)
      have hiG : i < G.length := by omega
      have HS : Hid (∀ x, Below wr.heap.size wr x → (Below wr.heap.size wr x ∧ x.cell? ⟨b1, o1 + i, none⟩ = some (.string (sat L i)) ∧ x.cell? ⟨b2, o2 + i, none⟩ = some (.string (sat G i)))) := fun x hx => ⟨hx, (hx.cell (p := ⟨b1, o1 + i, none⟩) hb1).trans hc1, (hx.cell (p := ⟨b2, o2 + i, none⟩) hb2).trans hc2⟩
      clear hb1 hb2 hc1 hc2
      have C := Lib.hid (fun w => HO.out i hlt w)
      go_wp2
      have hk2 : Below wr.heap.size wr wr.drew := (Below.refl _ _).drew
      have HTr := Lib.hid (HT.out.keep hB)
      obtain ⟨_, f0, f1⟩ := HS.out _ hk2
      go_region_held3 (fun x => Below wr.heap.size wr x ∧ x.cell? ⟨b1, o1 + i, none⟩ = some (.string (sat L i)) ∧ x.cell? ⟨b2, o2 + i, none⟩ = some (.string (sat G i)))
    (first | exact HS.out _ (by assumption) | exact HS.out _ (Below.drew (by assumption)) | (refine HS.out _ ?_; exact Below.alloc hk2 hk2.size _))
    (first | (go_at_call 117; refine (C.out _ (HTr.out.keep hk2)).mono ?_; rintro e wz ⟨rfl, hbz⟩; have hk3 := hk2.trans (hbz.mono hk2.size); clear hbz hk2; have hk2 := hk3; clear hk3))
      rename_i hHeldz
      clear hHeldz
      have hB1 : Below w.heap.size w wz := hB.trans (hk2.mono hB.size)
      have HOW1 := Lib.hid (own_keep HOW.out hk2)
      clear f0 f1 hk2 HTr
      have hbs := hB1.size
      go_wp2_with (at_builtin; refine wpList_append_fits _ rfl _ _ 22 rfl w.heap.size 31 i0 1 Tryz.underlying22 hi hz1 w.heap.size i G.length _ rfl (HOW1.out.alloc _) ⟨wz.heap.size, 0, none⟩ 1 1 [.string (f i)] rfl rfl (lit_one _ _) (by simp [Value.oneCell']) (by omega) ?_; intro w1 hown1 hgrow1)
      rw [← strs_one, ← strs_append, ← upto_succ] at hown1
      have HOW2 := Lib.hid hown1
      have hB2 : Below w.heap.size w w1 := below_push (v := .slice (some ⟨w.heap.size, 0, none⟩) i G.length) hB1 (fun k hk => by simp [Value.ownBlock] at hk; omega) hgrow1
      clear hown1 hgrow1
      go_wp2
      go_roundw
      case rel => exact ⟨i + 1, by omega, by go_num, rfl, HOW2.out, hB2⟩
      case measure => simp [intOf]; omega
    · obtain rfl : i = G.length := by omega
      have HE : Hid (∃ a' c', Value.slice (some ⟨w.heap.size, 0, none⟩) G.length G.length = .slice a' (upto f G.length).length c' ∧ TsAt wr a' (upto f G.length)) := by
        have := HOW.out
        rw [← upto_len f G.length] at this
        rw [upto_len] at this
        exact TsAt.of_own (by rw [upto_len]; exact this)
      go_wp2
      go_ret2
      obtain ⟨a', c', e1, e2⟩ := HE.out
      exact ⟨a', c', by rw [e1]; rfl, e2, hB⟩

set_option maxHeartbeats 3200000 in
set_option maxRecDepth 100000 in
theorem comb_residue_bad (a b : Option Addr) (c1 c2 : Nat) (L G : List ByteArray) (hL : L.length = G.length) (hl : G.length ≤ 4096) (p : Nat) (hp : p < G.length) (k : Nat) (hk : k ≠ 0) (X : ByteArray) (f : Nat → ByteArray) (HO : Hid (∀ j, j < p → ∀ w, Tab w → Calls Tryz.prog 117 #[.string (sat L j), .string (sat G j)] w (fun e w' => e = .returned (.tuple #[.string (f j), .int .i64 0]) ∧ Below w.heap.size w w')))
    (HB : Hid (∀ w, Tab w → Calls Tryz.prog 117 #[.string (sat L p), .string (sat G p)] w (fun e w' => e = .returned (.tuple #[.string X, .int .i64 ((k : Nat) : Int)]) ∧ Below w.heap.size w w'))) (w : World) (h1 : TsAt w a L) (h2 : TsAt w b G) (hT : Tab w) :
    Calls Tryz.prog 65 #[.slice a L.length c1, .slice b G.length c2, (.func (.func 117) #[] #[])] w (fun e w' => e = .returned (.tuple #[.slice none 0 0, .int .i64 ((k : Nat) : Int)]) ∧ Below w.heap.size w w') := by
  rw [hL]
  have H1 := Lib.hid h1
  have H2 := Lib.hid h2
  have HT := Lib.hid hT
  obtain ⟨i0, hi, hz0, hz1, hz2⟩ := info_parts info31
  have HL := Lib.hid hL
  have hk0 : ¬ ((k : Nat) : Int) = 0 := by omega
  have hk1 : (((k : Nat) : Int) != 0) = true := by simp; omega
  clear hk
  clear h1 h2 hT hL
  go_enter Tryz.func65, Tryz.ntmps65
  go_wp2_with (at_make; refine wpList_make_own _ rfl _ _ 22 rfl w.heap.size 31 i0 (.string ⟨#[]⟩) 1 Tryz.underlying22 hi hz0 hz1 _ _ _ G.length rfl rfl (by omega) ?b2 ?b3 (Nat.le_refl _) ?_)
  case b2 => rw [hz2]; omega
  case b3 => unfold maxLen; omega
  intro w0 hown0 hgrow0
  have hB0 : Below w.heap.size w w0 := (Below.refl _ _).grown hgrow0 (Nat.le_refl _) (fun k h => by cases h)
  have HB0 := Lib.hid hB0
  clear hgrow0 hB0
  go_wp2
  go_loopw [8, 22] (fun v l wr => ∃ i : Nat, i ≤ p ∧ l = .int .i64 i ∧ v = .slice (some ⟨w.heap.size, 0, none⟩) i G.length ∧ wr.ownsRow w.heap.size 31 1 (.slice (some ⟨w.heap.size, 0, none⟩) i G.length) i (strs (upto f i)) ∧ Below w.heap.size w wr) (fun _ l _ => p - (intOf l).toNat)
  case atStart => exact ⟨0, Nat.zero_le _, rfl, rfl, hown0, HB0.out⟩
  case round =>
    clear hown0
    obtain ⟨i, hi', rfl, rfl, hown, hB⟩ := hrel
    have HOW := Lib.hid hown
    clear hown
    by_cases hlt : i < p
    · obtain ⟨b1, o1, rfl, hb1, hc1⟩ := (H1.out.keep hB) i (by rw [HL.out]; omega)
      obtain ⟨b2, o2, rfl, hb2, hc2⟩ := (H2.out.keep hB) i (by omega)
      have hiG : i < G.length := by omega
      have HS : Hid (∀ x, Below wr.heap.size wr x → (Below wr.heap.size wr x ∧ x.cell? ⟨b1, o1 + i, none⟩ = some (.string (sat L i)) ∧ x.cell? ⟨b2, o2 + i, none⟩ = some (.string (sat G i)))) := fun x hx => ⟨hx, (hx.cell (p := ⟨b1, o1 + i, none⟩) hb1).trans hc1, (hx.cell (p := ⟨b2, o2 + i, none⟩) hb2).trans hc2⟩
      clear hb1 hb2 hc1 hc2
      have C := Lib.hid (fun w => HO.out i hlt w)
      go_wp2
      have hk2 : Below wr.heap.size wr wr.drew := (Below.refl _ _).drew
      have HTr := Lib.hid (HT.out.keep hB)
      obtain ⟨_, f0, f1⟩ := HS.out _ hk2
      go_region_held3 (fun x => Below wr.heap.size wr x ∧ x.cell? ⟨b1, o1 + i, none⟩ = some (.string (sat L i)) ∧ x.cell? ⟨b2, o2 + i, none⟩ = some (.string (sat G i)))
    (first | exact HS.out _ (by assumption) | exact HS.out _ (Below.drew (by assumption)) | (refine HS.out _ ?_; exact Below.alloc hk2 hk2.size _))
    (first | (go_at_call 117; refine (C.out _ (HTr.out.keep hk2)).mono ?_; rintro e wz ⟨rfl, hbz⟩; have hk3 := hk2.trans (hbz.mono hk2.size); clear hbz hk2; have hk2 := hk3; clear hk3))
      rename_i hHeldz
      clear hHeldz
      have hB1 : Below w.heap.size w wz := hB.trans (hk2.mono hB.size)
      have HOW1 := Lib.hid (own_keep HOW.out hk2)
      clear f0 f1 hk2 HTr
      have hbs := hB1.size
      go_wp2_with (at_builtin; refine wpList_append_fits _ rfl _ _ 22 rfl w.heap.size 31 i0 1 Tryz.underlying22 hi hz1 w.heap.size i G.length _ rfl (HOW1.out.alloc _) ⟨wz.heap.size, 0, none⟩ 1 1 [.string (f i)] rfl rfl (lit_one _ _) (by simp [Value.oneCell']) (by omega) ?_; intro w1 hown1 hgrow1)
      rw [← strs_one, ← strs_append, ← upto_succ] at hown1
      have HOW2 := Lib.hid hown1
      have hB2 : Below w.heap.size w w1 := below_push (v := .slice (some ⟨w.heap.size, 0, none⟩) i G.length) hB1 (fun k hk => by simp [Value.ownBlock] at hk; omega) hgrow1
      clear hown1 hgrow1
      go_wp2
      go_roundw
      case rel => exact ⟨i + 1, by omega, by go_num, rfl, HOW2.out, hB2⟩
      case measure => simp [intOf]; omega
    · obtain rfl : i = p := by omega
      obtain ⟨b1, o1, rfl, hb1, hc1⟩ := (H1.out.keep hB) i (by rw [HL.out]; omega)
      obtain ⟨b2, o2, rfl, hb2, hc2⟩ := (H2.out.keep hB) i (by omega)
      have hiG : i < G.length := by omega
      have HS : Hid (∀ x, Below wr.heap.size wr x → (Below wr.heap.size wr x ∧ x.cell? ⟨b1, o1 + i, none⟩ = some (.string (sat L i)) ∧ x.cell? ⟨b2, o2 + i, none⟩ = some (.string (sat G i)))) := fun x hx => ⟨hx, (hx.cell (p := ⟨b1, o1 + i, none⟩) hb1).trans hc1, (hx.cell (p := ⟨b2, o2 + i, none⟩) hb2).trans hc2⟩
      clear hb1 hb2 hc1 hc2
      go_wp2
      have hk2 : Below wr.heap.size wr wr.drew := (Below.refl _ _).drew
      have HTr := Lib.hid (HT.out.keep hB)
      obtain ⟨_, f0, f1⟩ := HS.out _ hk2
      go_region_held3 (fun x => Below wr.heap.size wr x ∧ x.cell? ⟨b1, o1 + i, none⟩ = some (.string (sat L i)) ∧ x.cell? ⟨b2, o2 + i, none⟩ = some (.string (sat G i)))
    (first | exact HS.out _ (by assumption) | exact HS.out _ (Below.drew (by assumption)) | (refine HS.out _ ?_; exact Below.alloc hk2 hk2.size _))
    (first | (go_at_call 117; refine (HB.out _ (HTr.out.keep hk2)).mono ?_; rintro e wz ⟨rfl, hbz⟩; have hk3 := hk2.trans (hbz.mono hk2.size); clear hbz hk2; have hk2 := hk3; clear hk3))
      rename_i hHeldz
      clear hHeldz
      have hB1 : Below w.heap.size w wz := hB.trans (hk2.mono hB.size)
      have HOW1 := Lib.hid (own_keep HOW.out hk2)
      clear f0 f1 hk2 HTr
      go_wp2
      go_ret2
      exact ⟨rfl, hB1⟩

set_option maxHeartbeats 3200000 in
set_option maxRecDepth 100000 in
theorem comb_order_shape (a b : Option Addr) (n m c1 c2 : Nat) (hn : n ≠ m) (w : World) :
    Calls Tryz.prog 65 #[.slice a n c1, .slice b m c2, (.func (.func 90) #[] #[])] w (fun e w' => e = .returned (.tuple #[.slice none 0 0, .int .i64 8]) ∧ Below w.heap.size w w') := by
  have d0 : (((n : Nat) : Int) != ((m : Nat) : Int)) = true := by simp; omega
  have d1 : ¬ ((n : Nat) : Int) = ((m : Nat) : Int) := by omega
  clear hn
  go_enter Tryz.func65, Tryz.ntmps65
  go_wp2
  go_ret2
  exact ⟨rfl, Below.refl _ _⟩

set_option maxHeartbeats 3200000 in
set_option maxRecDepth 100000 in
theorem comb_order_ok (a b : Option Addr) (c1 c2 : Nat) (L G : List ByteArray) (hL : L.length = G.length) (hl : G.length ≤ 4096) (f : Nat → ByteArray) (HO : Hid (∀ j, j < G.length → ∀ w, Tab w → Calls Tryz.prog 90 #[.string (sat L j), .string (sat G j)] w (fun e w' => e = .returned (.tuple #[.string (f j), .int .i64 0]) ∧ Below w.heap.size w w'))) (w : World) (h1 : TsAt w a L) (h2 : TsAt w b G) (hT : Tab w) :
    Calls Tryz.prog 65 #[.slice a L.length c1, .slice b G.length c2, (.func (.func 90) #[] #[])] w (GivesTs w (upto f G.length) 0) := by
  rw [hL]
  have H1 := Lib.hid h1
  have H2 := Lib.hid h2
  have HT := Lib.hid hT
  obtain ⟨i0, hi, hz0, hz1, hz2⟩ := info_parts info31
  have HL := Lib.hid hL
  clear h1 h2 hT hL
  go_enter Tryz.func65, Tryz.ntmps65
  go_wp2_with (at_make; refine wpList_make_own _ rfl _ _ 22 rfl w.heap.size 31 i0 (.string ⟨#[]⟩) 1 Tryz.underlying22 hi hz0 hz1 _ _ _ G.length rfl rfl (by omega) ?b2 ?b3 (Nat.le_refl _) ?_)
  case b2 => rw [hz2]; omega
  case b3 => unfold maxLen; omega
  intro w0 hown0 hgrow0
  have hB0 : Below w.heap.size w w0 := (Below.refl _ _).grown hgrow0 (Nat.le_refl _) (fun k h => by cases h)
  have HB0 := Lib.hid hB0
  clear hgrow0 hB0
  go_wp2
  go_loopw [8, 22] (fun v l wr => ∃ i : Nat, i ≤ G.length ∧ l = .int .i64 i ∧ v = .slice (some ⟨w.heap.size, 0, none⟩) i G.length ∧ wr.ownsRow w.heap.size 31 1 (.slice (some ⟨w.heap.size, 0, none⟩) i G.length) i (strs (upto f i)) ∧ Below w.heap.size w wr) (fun _ l _ => G.length - (intOf l).toNat)
  case atStart => exact ⟨0, Nat.zero_le _, rfl, rfl, hown0, HB0.out⟩
  case round =>
    clear hown0
    obtain ⟨i, hi', rfl, rfl, hown, hB⟩ := hrel
    have HOW := Lib.hid hown
    clear hown
    by_cases hlt : i < G.length
    · obtain ⟨b1, o1, rfl, hb1, hc1⟩ := (H1.out.keep hB) i (by rw [HL.out]; omega)
      obtain ⟨b2, o2, rfl, hb2, hc2⟩ := (H2.out.keep hB) i (by omega)
      have hiG : i < G.length := by omega
      have HS : Hid (∀ x, Below wr.heap.size wr x → (Below wr.heap.size wr x ∧ x.cell? ⟨b1, o1 + i, none⟩ = some (.string (sat L i)) ∧ x.cell? ⟨b2, o2 + i, none⟩ = some (.string (sat G i)))) := fun x hx => ⟨hx, (hx.cell (p := ⟨b1, o1 + i, none⟩) hb1).trans hc1, (hx.cell (p := ⟨b2, o2 + i, none⟩) hb2).trans hc2⟩
      clear hb1 hb2 hc1 hc2
      have C := Lib.hid (fun w => HO.out i hlt w)
      go_wp2
      have hk2 : Below wr.heap.size wr wr.drew := (Below.refl _ _).drew
      have HTr := Lib.hid (HT.out.keep hB)
      obtain ⟨_, f0, f1⟩ := HS.out _ hk2
      go_region_held3 (fun x => Below wr.heap.size wr x ∧ x.cell? ⟨b1, o1 + i, none⟩ = some (.string (sat L i)) ∧ x.cell? ⟨b2, o2 + i, none⟩ = some (.string (sat G i)))
    (first | exact HS.out _ (by assumption) | exact HS.out _ (Below.drew (by assumption)) | (refine HS.out _ ?_; exact Below.alloc hk2 hk2.size _))
    (first | (go_at_call 90; refine (C.out _ (HTr.out.keep hk2)).mono ?_; rintro e wz ⟨rfl, hbz⟩; have hk3 := hk2.trans (hbz.mono hk2.size); clear hbz hk2; have hk2 := hk3; clear hk3))
      rename_i hHeldz
      clear hHeldz
      have hB1 : Below w.heap.size w wz := hB.trans (hk2.mono hB.size)
      have HOW1 := Lib.hid (own_keep HOW.out hk2)
      clear f0 f1 hk2 HTr
      have hbs := hB1.size
      go_wp2_with (at_builtin; refine wpList_append_fits _ rfl _ _ 22 rfl w.heap.size 31 i0 1 Tryz.underlying22 hi hz1 w.heap.size i G.length _ rfl (HOW1.out.alloc _) ⟨wz.heap.size, 0, none⟩ 1 1 [.string (f i)] rfl rfl (lit_one _ _) (by simp [Value.oneCell']) (by omega) ?_; intro w1 hown1 hgrow1)
      rw [← strs_one, ← strs_append, ← upto_succ] at hown1
      have HOW2 := Lib.hid hown1
      have hB2 : Below w.heap.size w w1 := below_push (v := .slice (some ⟨w.heap.size, 0, none⟩) i G.length) hB1 (fun k hk => by simp [Value.ownBlock] at hk; omega) hgrow1
      clear hown1 hgrow1
      go_wp2
      go_roundw
      case rel => exact ⟨i + 1, by omega, by go_num, rfl, HOW2.out, hB2⟩
      case measure => simp [intOf]; omega
    · obtain rfl : i = G.length := by omega
      have HE : Hid (∃ a' c', Value.slice (some ⟨w.heap.size, 0, none⟩) G.length G.length = .slice a' (upto f G.length).length c' ∧ TsAt wr a' (upto f G.length)) := by
        have := HOW.out
        rw [← upto_len f G.length] at this
        rw [upto_len] at this
        exact TsAt.of_own (by rw [upto_len]; exact this)
      go_wp2
      go_ret2
      obtain ⟨a', c', e1, e2⟩ := HE.out
      exact ⟨a', c', by rw [e1]; rfl, e2, hB⟩

set_option maxHeartbeats 3200000 in
set_option maxRecDepth 100000 in
theorem comb_order_bad (a b : Option Addr) (c1 c2 : Nat) (L G : List ByteArray) (hL : L.length = G.length) (hl : G.length ≤ 4096) (p : Nat) (hp : p < G.length) (k : Nat) (hk : k ≠ 0) (X : ByteArray) (f : Nat → ByteArray) (HO : Hid (∀ j, j < p → ∀ w, Tab w → Calls Tryz.prog 90 #[.string (sat L j), .string (sat G j)] w (fun e w' => e = .returned (.tuple #[.string (f j), .int .i64 0]) ∧ Below w.heap.size w w')))
    (HB : Hid (∀ w, Tab w → Calls Tryz.prog 90 #[.string (sat L p), .string (sat G p)] w (fun e w' => e = .returned (.tuple #[.string X, .int .i64 ((k : Nat) : Int)]) ∧ Below w.heap.size w w'))) (w : World) (h1 : TsAt w a L) (h2 : TsAt w b G) (hT : Tab w) :
    Calls Tryz.prog 65 #[.slice a L.length c1, .slice b G.length c2, (.func (.func 90) #[] #[])] w (fun e w' => e = .returned (.tuple #[.slice none 0 0, .int .i64 ((k : Nat) : Int)]) ∧ Below w.heap.size w w') := by
  rw [hL]
  have H1 := Lib.hid h1
  have H2 := Lib.hid h2
  have HT := Lib.hid hT
  obtain ⟨i0, hi, hz0, hz1, hz2⟩ := info_parts info31
  have HL := Lib.hid hL
  have hk0 : ¬ ((k : Nat) : Int) = 0 := by omega
  have hk1 : (((k : Nat) : Int) != 0) = true := by simp; omega
  clear hk
  clear h1 h2 hT hL
  go_enter Tryz.func65, Tryz.ntmps65
  go_wp2_with (at_make; refine wpList_make_own _ rfl _ _ 22 rfl w.heap.size 31 i0 (.string ⟨#[]⟩) 1 Tryz.underlying22 hi hz0 hz1 _ _ _ G.length rfl rfl (by omega) ?b2 ?b3 (Nat.le_refl _) ?_)
  case b2 => rw [hz2]; omega
  case b3 => unfold maxLen; omega
  intro w0 hown0 hgrow0
  have hB0 : Below w.heap.size w w0 := (Below.refl _ _).grown hgrow0 (Nat.le_refl _) (fun k h => by cases h)
  have HB0 := Lib.hid hB0
  clear hgrow0 hB0
  go_wp2
  go_loopw [8, 22] (fun v l wr => ∃ i : Nat, i ≤ p ∧ l = .int .i64 i ∧ v = .slice (some ⟨w.heap.size, 0, none⟩) i G.length ∧ wr.ownsRow w.heap.size 31 1 (.slice (some ⟨w.heap.size, 0, none⟩) i G.length) i (strs (upto f i)) ∧ Below w.heap.size w wr) (fun _ l _ => p - (intOf l).toNat)
  case atStart => exact ⟨0, Nat.zero_le _, rfl, rfl, hown0, HB0.out⟩
  case round =>
    clear hown0
    obtain ⟨i, hi', rfl, rfl, hown, hB⟩ := hrel
    have HOW := Lib.hid hown
    clear hown
    by_cases hlt : i < p
    · obtain ⟨b1, o1, rfl, hb1, hc1⟩ := (H1.out.keep hB) i (by rw [HL.out]; omega)
      obtain ⟨b2, o2, rfl, hb2, hc2⟩ := (H2.out.keep hB) i (by omega)
      have hiG : i < G.length := by omega
      have HS : Hid (∀ x, Below wr.heap.size wr x → (Below wr.heap.size wr x ∧ x.cell? ⟨b1, o1 + i, none⟩ = some (.string (sat L i)) ∧ x.cell? ⟨b2, o2 + i, none⟩ = some (.string (sat G i)))) := fun x hx => ⟨hx, (hx.cell (p := ⟨b1, o1 + i, none⟩) hb1).trans hc1, (hx.cell (p := ⟨b2, o2 + i, none⟩) hb2).trans hc2⟩
      clear hb1 hb2 hc1 hc2
      have C := Lib.hid (fun w => HO.out i hlt w)
      go_wp2
      have hk2 : Below wr.heap.size wr wr.drew := (Below.refl _ _).drew
      have HTr := Lib.hid (HT.out.keep hB)
      obtain ⟨_, f0, f1⟩ := HS.out _ hk2
      go_region_held3 (fun x => Below wr.heap.size wr x ∧ x.cell? ⟨b1, o1 + i, none⟩ = some (.string (sat L i)) ∧ x.cell? ⟨b2, o2 + i, none⟩ = some (.string (sat G i)))
    (first | exact HS.out _ (by assumption) | exact HS.out _ (Below.drew (by assumption)) | (refine HS.out _ ?_; exact Below.alloc hk2 hk2.size _))
    (first | (go_at_call 90; refine (C.out _ (HTr.out.keep hk2)).mono ?_; rintro e wz ⟨rfl, hbz⟩; have hk3 := hk2.trans (hbz.mono hk2.size); clear hbz hk2; have hk2 := hk3; clear hk3))
      rename_i hHeldz
      clear hHeldz
      have hB1 : Below w.heap.size w wz := hB.trans (hk2.mono hB.size)
      have HOW1 := Lib.hid (own_keep HOW.out hk2)
      clear f0 f1 hk2 HTr
      have hbs := hB1.size
      go_wp2_with (at_builtin; refine wpList_append_fits _ rfl _ _ 22 rfl w.heap.size 31 i0 1 Tryz.underlying22 hi hz1 w.heap.size i G.length _ rfl (HOW1.out.alloc _) ⟨wz.heap.size, 0, none⟩ 1 1 [.string (f i)] rfl rfl (lit_one _ _) (by simp [Value.oneCell']) (by omega) ?_; intro w1 hown1 hgrow1)
      rw [← strs_one, ← strs_append, ← upto_succ] at hown1
      have HOW2 := Lib.hid hown1
      have hB2 : Below w.heap.size w w1 := below_push (v := .slice (some ⟨w.heap.size, 0, none⟩) i G.length) hB1 (fun k hk => by simp [Value.ownBlock] at hk; omega) hgrow1
      clear hown1 hgrow1
      go_wp2
      go_roundw
      case rel => exact ⟨i + 1, by omega, by go_num, rfl, HOW2.out, hB2⟩
      case measure => simp [intOf]; omega
    · obtain rfl : i = p := by omega
      obtain ⟨b1, o1, rfl, hb1, hc1⟩ := (H1.out.keep hB) i (by rw [HL.out]; omega)
      obtain ⟨b2, o2, rfl, hb2, hc2⟩ := (H2.out.keep hB) i (by omega)
      have hiG : i < G.length := by omega
      have HS : Hid (∀ x, Below wr.heap.size wr x → (Below wr.heap.size wr x ∧ x.cell? ⟨b1, o1 + i, none⟩ = some (.string (sat L i)) ∧ x.cell? ⟨b2, o2 + i, none⟩ = some (.string (sat G i)))) := fun x hx => ⟨hx, (hx.cell (p := ⟨b1, o1 + i, none⟩) hb1).trans hc1, (hx.cell (p := ⟨b2, o2 + i, none⟩) hb2).trans hc2⟩
      clear hb1 hb2 hc1 hc2
      go_wp2
      have hk2 : Below wr.heap.size wr wr.drew := (Below.refl _ _).drew
      have HTr := Lib.hid (HT.out.keep hB)
      obtain ⟨_, f0, f1⟩ := HS.out _ hk2
      go_region_held3 (fun x => Below wr.heap.size wr x ∧ x.cell? ⟨b1, o1 + i, none⟩ = some (.string (sat L i)) ∧ x.cell? ⟨b2, o2 + i, none⟩ = some (.string (sat G i)))
    (first | exact HS.out _ (by assumption) | exact HS.out _ (Below.drew (by assumption)) | (refine HS.out _ ?_; exact Below.alloc hk2 hk2.size _))
    (first | (go_at_call 90; refine (HB.out _ (HTr.out.keep hk2)).mono ?_; rintro e wz ⟨rfl, hbz⟩; have hk3 := hk2.trans (hbz.mono hk2.size); clear hbz hk2; have hk2 := hk3; clear hk3))
      rename_i hHeldz
      clear hHeldz
      have hB1 : Below w.heap.size w wz := hB.trans (hk2.mono hB.size)
      have HOW1 := Lib.hid (own_keep HOW.out hk2)
      clear f0 f1 hk2 HTr
      go_wp2
      go_ret2
      exact ⟨rfl, hB1⟩

set_option maxHeartbeats 3200000 in
set_option maxRecDepth 100000 in
theorem comb_opposite_shape (a b : Option Addr) (n m c1 c2 : Nat) (hn : n ≠ m) (w : World) :
    Calls Tryz.prog 65 #[.slice a n c1, .slice b m c2, (.func (.func 82) #[] #[])] w (fun e w' => e = .returned (.tuple #[.slice none 0 0, .int .i64 8]) ∧ Below w.heap.size w w') := by
  have d0 : (((n : Nat) : Int) != ((m : Nat) : Int)) = true := by simp; omega
  have d1 : ¬ ((n : Nat) : Int) = ((m : Nat) : Int) := by omega
  clear hn
  go_enter Tryz.func65, Tryz.ntmps65
  go_wp2
  go_ret2
  exact ⟨rfl, Below.refl _ _⟩

set_option maxHeartbeats 3200000 in
set_option maxRecDepth 100000 in
theorem comb_opposite_ok (a b : Option Addr) (c1 c2 : Nat) (L G : List ByteArray) (hL : L.length = G.length) (hl : G.length ≤ 4096) (f : Nat → ByteArray) (HO : Hid (∀ j, j < G.length → ∀ w, Tab w → Calls Tryz.prog 82 #[.string (sat L j), .string (sat G j)] w (fun e w' => e = .returned (.tuple #[.string (f j), .int .i64 0]) ∧ Below w.heap.size w w'))) (w : World) (h1 : TsAt w a L) (h2 : TsAt w b G) (hT : Tab w) :
    Calls Tryz.prog 65 #[.slice a L.length c1, .slice b G.length c2, (.func (.func 82) #[] #[])] w (GivesTs w (upto f G.length) 0) := by
  rw [hL]
  have H1 := Lib.hid h1
  have H2 := Lib.hid h2
  have HT := Lib.hid hT
  obtain ⟨i0, hi, hz0, hz1, hz2⟩ := info_parts info31
  have HL := Lib.hid hL
  clear h1 h2 hT hL
  go_enter Tryz.func65, Tryz.ntmps65
  go_wp2_with (at_make; refine wpList_make_own _ rfl _ _ 22 rfl w.heap.size 31 i0 (.string ⟨#[]⟩) 1 Tryz.underlying22 hi hz0 hz1 _ _ _ G.length rfl rfl (by omega) ?b2 ?b3 (Nat.le_refl _) ?_)
  case b2 => rw [hz2]; omega
  case b3 => unfold maxLen; omega
  intro w0 hown0 hgrow0
  have hB0 : Below w.heap.size w w0 := (Below.refl _ _).grown hgrow0 (Nat.le_refl _) (fun k h => by cases h)
  have HB0 := Lib.hid hB0
  clear hgrow0 hB0
  go_wp2
  go_loopw [8, 22] (fun v l wr => ∃ i : Nat, i ≤ G.length ∧ l = .int .i64 i ∧ v = .slice (some ⟨w.heap.size, 0, none⟩) i G.length ∧ wr.ownsRow w.heap.size 31 1 (.slice (some ⟨w.heap.size, 0, none⟩) i G.length) i (strs (upto f i)) ∧ Below w.heap.size w wr) (fun _ l _ => G.length - (intOf l).toNat)
  case atStart => exact ⟨0, Nat.zero_le _, rfl, rfl, hown0, HB0.out⟩
  case round =>
    clear hown0
    obtain ⟨i, hi', rfl, rfl, hown, hB⟩ := hrel
    have HOW := Lib.hid hown
    clear hown
    by_cases hlt : i < G.length
    · obtain ⟨b1, o1, rfl, hb1, hc1⟩ := (H1.out.keep hB) i (by rw [HL.out]; omega)
      obtain ⟨b2, o2, rfl, hb2, hc2⟩ := (H2.out.keep hB) i (by omega)
      have hiG : i < G.length := by omega
      have HS : Hid (∀ x, Below wr.heap.size wr x → (Below wr.heap.size wr x ∧ x.cell? ⟨b1, o1 + i, none⟩ = some (.string (sat L i)) ∧ x.cell? ⟨b2, o2 + i, none⟩ = some (.string (sat G i)))) := fun x hx => ⟨hx, (hx.cell (p := ⟨b1, o1 + i, none⟩) hb1).trans hc1, (hx.cell (p := ⟨b2, o2 + i, none⟩) hb2).trans hc2⟩
      clear hb1 hb2 hc1 hc2
      have C := Lib.hid (fun w => HO.out i hlt w)
      go_wp2
      have hk2 : Below wr.heap.size wr wr.drew := (Below.refl _ _).drew
      have HTr := Lib.hid (HT.out.keep hB)
      obtain ⟨_, f0, f1⟩ := HS.out _ hk2
      go_region_held3 (fun x => Below wr.heap.size wr x ∧ x.cell? ⟨b1, o1 + i, none⟩ = some (.string (sat L i)) ∧ x.cell? ⟨b2, o2 + i, none⟩ = some (.string (sat G i)))
    (first | exact HS.out _ (by assumption) | exact HS.out _ (Below.drew (by assumption)) | (refine HS.out _ ?_; exact Below.alloc hk2 hk2.size _))
    (first | (go_at_call 82; refine (C.out _ (HTr.out.keep hk2)).mono ?_; rintro e wz ⟨rfl, hbz⟩; have hk3 := hk2.trans (hbz.mono hk2.size); clear hbz hk2; have hk2 := hk3; clear hk3))
      rename_i hHeldz
      clear hHeldz
      have hB1 : Below w.heap.size w wz := hB.trans (hk2.mono hB.size)
      have HOW1 := Lib.hid (own_keep HOW.out hk2)
      clear f0 f1 hk2 HTr
      have hbs := hB1.size
      go_wp2_with (at_builtin; refine wpList_append_fits _ rfl _ _ 22 rfl w.heap.size 31 i0 1 Tryz.underlying22 hi hz1 w.heap.size i G.length _ rfl (HOW1.out.alloc _) ⟨wz.heap.size, 0, none⟩ 1 1 [.string (f i)] rfl rfl (lit_one _ _) (by simp [Value.oneCell']) (by omega) ?_; intro w1 hown1 hgrow1)
      rw [← strs_one, ← strs_append, ← upto_succ] at hown1
      have HOW2 := Lib.hid hown1
      have hB2 : Below w.heap.size w w1 := below_push (v := .slice (some ⟨w.heap.size, 0, none⟩) i G.length) hB1 (fun k hk => by simp [Value.ownBlock] at hk; omega) hgrow1
      clear hown1 hgrow1
      go_wp2
      go_roundw
      case rel => exact ⟨i + 1, by omega, by go_num, rfl, HOW2.out, hB2⟩
      case measure => simp [intOf]; omega
    · obtain rfl : i = G.length := by omega
      have HE : Hid (∃ a' c', Value.slice (some ⟨w.heap.size, 0, none⟩) G.length G.length = .slice a' (upto f G.length).length c' ∧ TsAt wr a' (upto f G.length)) := by
        have := HOW.out
        rw [← upto_len f G.length] at this
        rw [upto_len] at this
        exact TsAt.of_own (by rw [upto_len]; exact this)
      go_wp2
      go_ret2
      obtain ⟨a', c', e1, e2⟩ := HE.out
      exact ⟨a', c', by rw [e1]; rfl, e2, hB⟩

set_option maxHeartbeats 3200000 in
set_option maxRecDepth 100000 in
theorem comb_opposite_bad (a b : Option Addr) (c1 c2 : Nat) (L G : List ByteArray) (hL : L.length = G.length) (hl : G.length ≤ 4096) (p : Nat) (hp : p < G.length) (k : Nat) (hk : k ≠ 0) (X : ByteArray) (f : Nat → ByteArray) (HO : Hid (∀ j, j < p → ∀ w, Tab w → Calls Tryz.prog 82 #[.string (sat L j), .string (sat G j)] w (fun e w' => e = .returned (.tuple #[.string (f j), .int .i64 0]) ∧ Below w.heap.size w w')))
    (HB : Hid (∀ w, Tab w → Calls Tryz.prog 82 #[.string (sat L p), .string (sat G p)] w (fun e w' => e = .returned (.tuple #[.string X, .int .i64 ((k : Nat) : Int)]) ∧ Below w.heap.size w w'))) (w : World) (h1 : TsAt w a L) (h2 : TsAt w b G) (hT : Tab w) :
    Calls Tryz.prog 65 #[.slice a L.length c1, .slice b G.length c2, (.func (.func 82) #[] #[])] w (fun e w' => e = .returned (.tuple #[.slice none 0 0, .int .i64 ((k : Nat) : Int)]) ∧ Below w.heap.size w w') := by
  rw [hL]
  have H1 := Lib.hid h1
  have H2 := Lib.hid h2
  have HT := Lib.hid hT
  obtain ⟨i0, hi, hz0, hz1, hz2⟩ := info_parts info31
  have HL := Lib.hid hL
  have hk0 : ¬ ((k : Nat) : Int) = 0 := by omega
  have hk1 : (((k : Nat) : Int) != 0) = true := by simp; omega
  clear hk
  clear h1 h2 hT hL
  go_enter Tryz.func65, Tryz.ntmps65
  go_wp2_with (at_make; refine wpList_make_own _ rfl _ _ 22 rfl w.heap.size 31 i0 (.string ⟨#[]⟩) 1 Tryz.underlying22 hi hz0 hz1 _ _ _ G.length rfl rfl (by omega) ?b2 ?b3 (Nat.le_refl _) ?_)
  case b2 => rw [hz2]; omega
  case b3 => unfold maxLen; omega
  intro w0 hown0 hgrow0
  have hB0 : Below w.heap.size w w0 := (Below.refl _ _).grown hgrow0 (Nat.le_refl _) (fun k h => by cases h)
  have HB0 := Lib.hid hB0
  clear hgrow0 hB0
  go_wp2
  go_loopw [8, 22] (fun v l wr => ∃ i : Nat, i ≤ p ∧ l = .int .i64 i ∧ v = .slice (some ⟨w.heap.size, 0, none⟩) i G.length ∧ wr.ownsRow w.heap.size 31 1 (.slice (some ⟨w.heap.size, 0, none⟩) i G.length) i (strs (upto f i)) ∧ Below w.heap.size w wr) (fun _ l _ => p - (intOf l).toNat)
  case atStart => exact ⟨0, Nat.zero_le _, rfl, rfl, hown0, HB0.out⟩
  case round =>
    clear hown0
    obtain ⟨i, hi', rfl, rfl, hown, hB⟩ := hrel
    have HOW := Lib.hid hown
    clear hown
    by_cases hlt : i < p
    · obtain ⟨b1, o1, rfl, hb1, hc1⟩ := (H1.out.keep hB) i (by rw [HL.out]; omega)
      obtain ⟨b2, o2, rfl, hb2, hc2⟩ := (H2.out.keep hB) i (by omega)
      have hiG : i < G.length := by omega
      have HS : Hid (∀ x, Below wr.heap.size wr x → (Below wr.heap.size wr x ∧ x.cell? ⟨b1, o1 + i, none⟩ = some (.string (sat L i)) ∧ x.cell? ⟨b2, o2 + i, none⟩ = some (.string (sat G i)))) := fun x hx => ⟨hx, (hx.cell (p := ⟨b1, o1 + i, none⟩) hb1).trans hc1, (hx.cell (p := ⟨b2, o2 + i, none⟩) hb2).trans hc2⟩
      clear hb1 hb2 hc1 hc2
      have C := Lib.hid (fun w => HO.out i hlt w)
      go_wp2
      have hk2 : Below wr.heap.size wr wr.drew := (Below.refl _ _).drew
      have HTr := Lib.hid (HT.out.keep hB)
      obtain ⟨_, f0, f1⟩ := HS.out _ hk2
      go_region_held3 (fun x => Below wr.heap.size wr x ∧ x.cell? ⟨b1, o1 + i, none⟩ = some (.string (sat L i)) ∧ x.cell? ⟨b2, o2 + i, none⟩ = some (.string (sat G i)))
    (first | exact HS.out _ (by assumption) | exact HS.out _ (Below.drew (by assumption)) | (refine HS.out _ ?_; exact Below.alloc hk2 hk2.size _))
    (first | (go_at_call 82; refine (C.out _ (HTr.out.keep hk2)).mono ?_; rintro e wz ⟨rfl, hbz⟩; have hk3 := hk2.trans (hbz.mono hk2.size); clear hbz hk2; have hk2 := hk3; clear hk3))
      rename_i hHeldz
      clear hHeldz
      have hB1 : Below w.heap.size w wz := hB.trans (hk2.mono hB.size)
      have HOW1 := Lib.hid (own_keep HOW.out hk2)
      clear f0 f1 hk2 HTr
      have hbs := hB1.size
      go_wp2_with (at_builtin; refine wpList_append_fits _ rfl _ _ 22 rfl w.heap.size 31 i0 1 Tryz.underlying22 hi hz1 w.heap.size i G.length _ rfl (HOW1.out.alloc _) ⟨wz.heap.size, 0, none⟩ 1 1 [.string (f i)] rfl rfl (lit_one _ _) (by simp [Value.oneCell']) (by omega) ?_; intro w1 hown1 hgrow1)
      rw [← strs_one, ← strs_append, ← upto_succ] at hown1
      have HOW2 := Lib.hid hown1
      have hB2 : Below w.heap.size w w1 := below_push (v := .slice (some ⟨w.heap.size, 0, none⟩) i G.length) hB1 (fun k hk => by simp [Value.ownBlock] at hk; omega) hgrow1
      clear hown1 hgrow1
      go_wp2
      go_roundw
      case rel => exact ⟨i + 1, by omega, by go_num, rfl, HOW2.out, hB2⟩
      case measure => simp [intOf]; omega
    · obtain rfl : i = p := by omega
      obtain ⟨b1, o1, rfl, hb1, hc1⟩ := (H1.out.keep hB) i (by rw [HL.out]; omega)
      obtain ⟨b2, o2, rfl, hb2, hc2⟩ := (H2.out.keep hB) i (by omega)
      have hiG : i < G.length := by omega
      have HS : Hid (∀ x, Below wr.heap.size wr x → (Below wr.heap.size wr x ∧ x.cell? ⟨b1, o1 + i, none⟩ = some (.string (sat L i)) ∧ x.cell? ⟨b2, o2 + i, none⟩ = some (.string (sat G i)))) := fun x hx => ⟨hx, (hx.cell (p := ⟨b1, o1 + i, none⟩) hb1).trans hc1, (hx.cell (p := ⟨b2, o2 + i, none⟩) hb2).trans hc2⟩
      clear hb1 hb2 hc1 hc2
      go_wp2
      have hk2 : Below wr.heap.size wr wr.drew := (Below.refl _ _).drew
      have HTr := Lib.hid (HT.out.keep hB)
      obtain ⟨_, f0, f1⟩ := HS.out _ hk2
      go_region_held3 (fun x => Below wr.heap.size wr x ∧ x.cell? ⟨b1, o1 + i, none⟩ = some (.string (sat L i)) ∧ x.cell? ⟨b2, o2 + i, none⟩ = some (.string (sat G i)))
    (first | exact HS.out _ (by assumption) | exact HS.out _ (Below.drew (by assumption)) | (refine HS.out _ ?_; exact Below.alloc hk2 hk2.size _))
    (first | (go_at_call 82; refine (HB.out _ (HTr.out.keep hk2)).mono ?_; rintro e wz ⟨rfl, hbz⟩; have hk3 := hk2.trans (hbz.mono hk2.size); clear hbz hk2; have hk2 := hk3; clear hk3))
      rename_i hHeldz
      clear hHeldz
      have hB1 : Below w.heap.size w wz := hB.trans (hk2.mono hB.size)
      have HOW1 := Lib.hid (own_keep HOW.out hk2)
      clear f0 f1 hk2 HTr
      go_wp2
      go_ret2
      exact ⟨rfl, hB1⟩

end Go.Proofs.YtnfmcdfdbipeoaaGreatDoor

namespace Go.Proofs.YtnfmcdfdbipeoaaGreatDoor
open Go.RowKit Go.Proofs.Num

set_option maxHeartbeats 3200000 in
set_option maxRecDepth 100000 in
theorem residue_err (s r : ByteArray) (k : Nat) (hk : k ≠ 0) (X : ByteArray) (H1 : Hid (∀ w, Tab w → Calls Tryz.prog 46 #[.string s, .string r] w (fun e w' => e = .returned (.tuple #[.string X, .int .i64 ((k : Nat) : Int)]) ∧ Below w.heap.size w w'))) (w : World) (hT : Tab w) :
    Calls Tryz.prog 117 #[.string s, .string r] w (fun e w' => e = .returned (.tuple #[.string ⟨#[]⟩, .int .i64 ((k : Nat) : Int)]) ∧ Below w.heap.size w w') := by
  have HT := Lib.hid hT
  clear hT
  have hk0 : ¬ ((k : Nat) : Int) = 0 := by omega
  have hk1 : (((k : Nat) : Int) != 0) = true := by simp; omega
  clear hk
  go_enter Tryz.func117, Tryz.ntmps117
  have hB0 : Below w.heap.size w w := Below.refl _ _
  go_wp2_with fail
  refine (H1.out _ (HT.out.keep hB0)).mono ?_
  rintro e w1 ⟨rfl, hb1⟩
  have hB1 : Below w.heap.size w w1 := hB0.trans (hb1.mono hB0.size)
  clear hb1
  go_wp2
  go_ret2
  exact ⟨rfl, hB1⟩

set_option maxHeartbeats 3200000 in
set_option maxRecDepth 100000 in
theorem residue_other (s r : ByteArray) (X : ByteArray) (hx : X ≠ s) (H1 : Hid (∀ w, Tab w → Calls Tryz.prog 46 #[.string s, .string r] w (fun e w' => e = .returned (.tuple #[.string X, .int .i64 0]) ∧ Below w.heap.size w w'))) (w : World) (hT : Tab w) :
    Calls Tryz.prog 117 #[.string s, .string r] w (fun e w' => e = .returned (.tuple #[.string ⟨#[]⟩, .int .i64 2]) ∧ Below w.heap.size w w') := by
  have hx1 : (X.toList == s.toList) = false := by simp; intro h; exact hx (ByteArray.ext (Array.ext' (by rw [← Lib.toList_data, ← Lib.toList_data, h])))
  have HT := Lib.hid hT
  clear hT
  go_enter Tryz.func117, Tryz.ntmps117
  have hB0 : Below w.heap.size w w := Below.refl _ _
  go_wp2_with fail
  refine (H1.out _ (HT.out.keep hB0)).mono ?_
  rintro e w1 ⟨rfl, hb1⟩
  have hB1 : Below w.heap.size w w1 := hB0.trans (hb1.mono hB0.size)
  clear hb1
  go_wp2
  go_ret2
  exact ⟨rfl, hB1⟩

set_option maxHeartbeats 3200000 in
set_option maxRecDepth 100000 in
theorem residue_ok (s r : ByteArray) (H1 : Hid (∀ w, Tab w → Calls Tryz.prog 46 #[.string s, .string r] w (fun e w' => e = .returned (.tuple #[.string s, .int .i64 0]) ∧ Below w.heap.size w w'))) (w : World) (hT : Tab w) :
    Calls Tryz.prog 117 #[.string s, .string r] w (fun e w' => e = .returned (.tuple #[.string s, .int .i64 0]) ∧ Below w.heap.size w w') := by
  have HT := Lib.hid hT
  clear hT
  go_enter Tryz.func117, Tryz.ntmps117
  have hB0 : Below w.heap.size w w := Below.refl _ _
  go_wp2_with fail
  refine (H1.out _ (HT.out.keep hB0)).mono ?_
  rintro e w1 ⟨rfl, hb1⟩
  have hB1 : Below w.heap.size w w1 := hB0.trans (hb1.mono hB0.size)
  clear hb1
  go_wp2
  go_ret2
  exact ⟨rfl, hB1⟩

set_option maxHeartbeats 3200000 in
set_option maxRecDepth 100000 in
theorem order_walk (s r : ByteArray) (D X : ByteArray) (c1 c : Int) (H1 : Hid (∀ w, Tab w → Calls Tryz.prog 88 #[.string s, .string r] w (fun e w' => e = .returned (.tuple #[.string D, .int .i64 c1]) ∧ Below w.heap.size w w'))) (H2 : Hid (∀ w, Tab w → Calls Tryz.prog 48 #[.string r, .string D] w (fun e w' => e = .returned (.tuple #[.string X, .int .i64 c]) ∧ Below w.heap.size w w'))) (w : World) (hT : Tab w) :
    Calls Tryz.prog 90 #[.string s, .string r] w (fun e w' => e = .returned (.tuple #[.string X, .int .i64 c]) ∧ Below w.heap.size w w') := by
  have HT := Lib.hid hT
  clear hT
  go_enter Tryz.func90, Tryz.ntmps90
  have hB0 : Below w.heap.size w w := Below.refl _ _
  go_wp2_with fail
  refine (H1.out _ (HT.out.keep hB0)).mono ?_
  rintro e w1 ⟨rfl, hb1⟩
  have hB1 : Below w.heap.size w w1 := hB0.trans (hb1.mono hB0.size)
  clear hb1
  go_wp2_with fail
  refine (H2.out _ (HT.out.keep hB1)).mono ?_
  rintro e w2 ⟨rfl, hb2⟩
  have hB2 : Below w.heap.size w w2 := hB1.trans (hb2.mono hB1.size)
  clear hb2
  go_wp2
  go_ret2
  exact ⟨rfl, hB2⟩

set_option maxHeartbeats 3200000 in
set_option maxRecDepth 100000 in
theorem opposite_walk (s r : ByteArray) (D X : ByteArray) (c1 c : Int) (H1 : Hid (∀ w, Tab w → Calls Tryz.prog 120 #[.string s] w (fun e w' => e = .returned (.tuple #[.string D, .int .i64 c1]) ∧ Below w.heap.size w w'))) (H2 : Hid (∀ w, Tab w → Calls Tryz.prog 46 #[.string D, .string r] w (fun e w' => e = .returned (.tuple #[.string X, .int .i64 c]) ∧ Below w.heap.size w w'))) (w : World) (hT : Tab w) :
    Calls Tryz.prog 82 #[.string s, .string r] w (fun e w' => e = .returned (.tuple #[.string X, .int .i64 c]) ∧ Below w.heap.size w w') := by
  have HT := Lib.hid hT
  clear hT
  go_enter Tryz.func82, Tryz.ntmps82
  have hB0 : Below w.heap.size w w := Below.refl _ _
  go_wp2_with fail
  refine (H1.out _ (HT.out.keep hB0)).mono ?_
  rintro e w1 ⟨rfl, hb1⟩
  have hB1 : Below w.heap.size w w1 := hB0.trans (hb1.mono hB0.size)
  clear hb1
  go_wp2_with fail
  refine (H2.out _ (HT.out.keep hB1)).mono ?_
  rintro e w2 ⟨rfl, hb2⟩
  have hB2 : Below w.heap.size w w2 := hB1.trans (hb2.mono hB1.size)
  clear hb2
  go_wp2
  go_ret2
  exact ⟨rfl, hB2⟩

set_option maxHeartbeats 3200000 in
set_option maxRecDepth 100000 in
theorem multiple_walk (k s r : ByteArray) (D Y X : ByteArray) (c1 c : Int) (H1 : Hid (∀ w, Tab w → Calls Tryz.prog 46 #[.string k, .string r] w (fun e w' => e = .returned (.tuple #[.string D, .int .i64 c1]) ∧ Below w.heap.size w w'))) (H2 : Hid (∀ w, Tab w → Calls Tryz.prog 49 #[.string D, .string s] w (fun e w' => e = .returned (.tuple #[.string Y, .int .i64 0]) ∧ Below w.heap.size w w'))) (H3 : Hid (∀ w, Tab w → Calls Tryz.prog 46 #[.string Y, .string r] w (fun e w' => e = .returned (.tuple #[.string X, .int .i64 c]) ∧ Below w.heap.size w w'))) (w : World) (hT : Tab w) :
    Calls Tryz.prog 86 #[.string k, .string s, .string r] w (fun e w' => e = .returned (.tuple #[.string X, .int .i64 c]) ∧ Below w.heap.size w w') := by
  have HT := Lib.hid hT
  clear hT
  go_enter Tryz.func86, Tryz.ntmps86
  have hB0 : Below w.heap.size w w := Below.refl _ _
  go_wp2_with fail
  refine (H1.out _ (HT.out.keep hB0)).mono ?_
  rintro e w1 ⟨rfl, hb1⟩
  have hB1 : Below w.heap.size w w1 := hB0.trans (hb1.mono hB0.size)
  clear hb1
  go_wp2_with fail
  refine (H2.out _ (HT.out.keep hB1)).mono ?_
  rintro e w2 ⟨rfl, hb2⟩
  have hB2 : Below w.heap.size w w2 := hB1.trans (hb2.mono hB1.size)
  clear hb2
  go_wp2_with fail
  refine (H3.out _ (HT.out.keep hB2)).mono ?_
  rintro e w3 ⟨rfl, hb3⟩
  have hB3 : Below w.heap.size w w3 := hB2.trans (hb3.mono hB2.size)
  clear hb3
  go_wp2
  go_ret2
  exact ⟨rfl, hB3⟩

set_option maxHeartbeats 3200000 in
set_option maxRecDepth 100000 in
theorem least_walk (s r : ByteArray) (D Y X : ByteArray) (c1 c2 c : Int) (H1 : Hid (∀ w, Tab w → Calls Tryz.prog 88 #[.string s, .string r] w (fun e w' => e = .returned (.tuple #[.string D, .int .i64 c1]) ∧ Below w.heap.size w w'))) (H2 : Hid (∀ w, Tab w → Calls Tryz.prog 48 #[.string s, .string D] w (fun e w' => e = .returned (.tuple #[.string Y, .int .i64 c2]) ∧ Below w.heap.size w w'))) (H3 : Hid (∀ w, Tab w → Calls Tryz.prog 49 #[.string Y, .string r] w (fun e w' => e = .returned (.tuple #[.string X, .int .i64 c]) ∧ Below w.heap.size w w'))) (w : World) (hT : Tab w) :
    Calls Tryz.prog 91 #[.string s, .string r] w (fun e w' => e = .returned (.string X) ∧ Below w.heap.size w w') := by
  have HT := Lib.hid hT
  clear hT
  go_enter Tryz.func91, Tryz.ntmps91
  have hB0 : Below w.heap.size w w := Below.refl _ _
  go_wp2_with fail
  refine (H1.out _ (HT.out.keep hB0)).mono ?_
  rintro e w1 ⟨rfl, hb1⟩
  have hB1 : Below w.heap.size w w1 := hB0.trans (hb1.mono hB0.size)
  clear hb1
  go_wp2_with fail
  refine (H2.out _ (HT.out.keep hB1)).mono ?_
  rintro e w2 ⟨rfl, hb2⟩
  have hB2 : Below w.heap.size w w2 := hB1.trans (hb2.mono hB1.size)
  clear hb2
  go_wp2_with fail
  refine (H3.out _ (HT.out.keep hB2)).mono ?_
  rintro e w3 ⟨rfl, hb3⟩
  have hB3 : Below w.heap.size w w3 := hB2.trans (hb3.mono hB2.size)
  clear hb3
  go_wp2
  go_ret
  exact ⟨rfl, hB3⟩

set_option maxHeartbeats 3200000 in
set_option maxRecDepth 100000 in
theorem inck_bad (a b : Option Addr) (cap cap2 : Nat) (L G : List ByteArray) (c : Int) (HP : Hid (∀ w, TsAt w b L → TsAt w a G → Tab w → Calls Tryz.prog 65 #[.slice b L.length cap2, .slice a G.length cap, (.func (.func 117) #[] #[])] w (fun e w' => e = .returned (.tuple #[.slice none 0 0, .int .i64 c]) ∧ Below w.heap.size w w'))) (w : World) (h : TsAt w a G) (h2 : TsAt w b L) (hT : Tab w) :
    Calls Tryz.prog 75 #[.slice a G.length cap, .slice b L.length cap2] w (fun e w' => e = .returned (.int .i64 c) ∧ Below w.heap.size w w') := by
  have H := Lib.hid h
  have H2 := Lib.hid h2
  have HT := Lib.hid hT
  clear h h2 hT
  go_enter Tryz.func75, Tryz.ntmps75
  have hB0 : Below w.heap.size w w := Below.refl _ _
  go_wp2_with fail
  refine (HP.out _ (H2.out.keep hB0) (H.out.keep hB0) (HT.out.keep hB0)).mono ?_
  rintro e w1 ⟨rfl, hb1⟩
  have hB1 : Below w.heap.size w w1 := hB0.trans (hb1.mono hB0.size)
  clear hb1
  go_wp2
  go_ret
  exact ⟨rfl, hB1⟩

set_option maxHeartbeats 3200000 in
set_option maxRecDepth 100000 in
theorem inck_ok (a b : Option Addr) (cap cap2 : Nat) (L G : List ByteArray) (Z : List ByteArray) (HP : Hid (∀ w, TsAt w b L → TsAt w a G → Tab w → Calls Tryz.prog 65 #[.slice b L.length cap2, .slice a G.length cap, (.func (.func 117) #[] #[])] w (GivesTs w Z 0))) (w : World) (h : TsAt w a G) (h2 : TsAt w b L) (hT : Tab w) :
    Calls Tryz.prog 75 #[.slice a G.length cap, .slice b L.length cap2] w (fun e w' => e = .returned (.int .i64 0) ∧ Below w.heap.size w w') := by
  have H := Lib.hid h
  have H2 := Lib.hid h2
  have HT := Lib.hid hT
  clear h h2 hT
  go_enter Tryz.func75, Tryz.ntmps75
  go_wp2_with fail
  refine (HP.out _ H2.out H.out HT.out).mono ?_
  rintro e w2 ⟨a', c', rfl, hz, hB2⟩
  clear hz
  go_wp2
  go_ret
  exact ⟨rfl, hB2⟩

set_option maxHeartbeats 3200000 in
set_option maxRecDepth 100000 in
theorem equal_true (a b : Option Addr) (c1 c2 : Nat) (L : List ByteArray) (hl : L.length ≤ 100000) (w : World) (h1 : TsAt w a L) (h2 : TsAt w b L) :
    Calls Tryz.prog 45 #[.slice a L.length c1, .slice b L.length c2] w (fun e w' => e = .returned (.bool true) ∧ Below w.heap.size w w') := by
  have H1 := Lib.hid h1
  have H2 := Lib.hid h2
  clear h1 h2
  go_enter Tryz.func45, Tryz.ntmps45
  go_wp2
  go_loopw [13] (fun v wr => ∃ i : Nat, i ≤ L.length ∧ v = .int .i64 i ∧ Below w.heap.size w wr) (fun v _ => L.length - (intOf v).toNat)
  case atStart => exact ⟨0, Nat.zero_le _, rfl, Below.refl _ _⟩
  case round =>
    obtain ⟨i, hi, rfl, hB⟩ := hrel
    by_cases hlt : i < L.length
    · obtain ⟨b1, o1, rfl, hb1, hc1⟩ := (H1.out.keep hB.drew) i hlt
      obtain ⟨b2, o2, rfl, hb2, hc2⟩ := (H2.out.keep hB.drew) i hlt
      go_wp2
      go_region
      all_goals (try go_wp2)
      go_roundw
      case rel => exact ⟨i + 1, by omega, by go_num, hB.drew⟩
      case measure => simp [intOf]; omega
    · obtain rfl : i = L.length := by omega
      go_wp2
      go_ret
      exact ⟨rfl, hB⟩

set_option maxHeartbeats 3200000 in
set_option maxRecDepth 100000 in
theorem same_true (a b : Option Addr) (c1 c2 : Nat) (L : List ByteArray) (hl : L.length ≤ 100000) (w : World) (h1 : TsAt w a L) (h2 : TsAt w b L) :
    Calls Tryz.prog 24 #[.slice a L.length c1, .slice b L.length c2] w (fun e w' => e = .returned (.bool true) ∧ Below w.heap.size w w') := by
  have H1 := Lib.hid h1
  have H2 := Lib.hid h2
  clear h1 h2
  go_enter Tryz.func24, Tryz.ntmps24
  go_wp2
  go_loopw [5] (fun v wr => ∃ i : Nat, i ≤ L.length ∧ v = .int .i64 i ∧ Below w.heap.size w wr) (fun v _ => L.length - (intOf v).toNat)
  case atStart => exact ⟨0, Nat.zero_le _, rfl, Below.refl _ _⟩
  case round =>
    obtain ⟨i, hi, rfl, hB⟩ := hrel
    by_cases hlt : i < L.length
    · obtain ⟨b1, o1, rfl, hb1, hc1⟩ := (H1.out.keep hB.drew) i hlt
      obtain ⟨b2, o2, rfl, hb2, hc2⟩ := (H2.out.keep hB.drew) i hlt
      go_wp2
      go_region
      all_goals (try go_wp2)
      go_roundw
      case rel => exact ⟨i + 1, by omega, by go_num, hB.drew⟩
      case measure => simp [intOf]; omega
    · obtain rfl : i = L.length := by omega
      go_wp2
      go_ret
      exact ⟨rfl, hB⟩

end Go.Proofs.YtnfmcdfdbipeoaaGreatDoor
