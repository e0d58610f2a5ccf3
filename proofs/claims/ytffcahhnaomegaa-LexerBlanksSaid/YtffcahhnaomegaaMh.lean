/- Tokens without offsets: slices.Clone at tokens, and bare. -/
import Derived.Test.YtffcahhnaomegaaLp
import Derived.Lib.SliceRun
namespace Go.Proofs.Ytffcahhnaomegaa
open Go.RowKit Go.Proofs.Lx

def bareT (t : Tk) : Tk := ⟨t.kind, t.text, 0⟩
def bareN : List Tk → Nat → List Tk
  | L, 0 => L
  | [], _ + 1 => []
  | t :: r, i + 1 => bareT t :: bareN r i
theorem bareN_zero (L : List Tk) : bareN L 0 = L := by cases L <;> rfl
theorem bareN_len (L : List Tk) (i : Nat) : (bareN L i).length = L.length := by
  induction L generalizing i with
  | nil => cases i <;> rfl
  | cons t r ih =>
    cases i with
    | zero => rfl
    | succ i => simp [bareN, ih]
theorem bareN_all (L : List Tk) : bareN L L.length = L.map bareT := by
  induction L with
  | nil => rfl
  | cons t r ih => simp [bareN, ih]
theorem tks_cons (t : Tk) (L : List Tk) : tks (t :: L) = tkv t ++ tks L := by simp [tks]
theorem bareN_set (L : List Tk) (i : Nat) (h : i < L.length) : (tks (bareN L i)).set (i * 3 + 2) (.int .i64 0) = tks (bareN L (i + 1)) := by
  induction L generalizing i with
  | nil => simp at h
  | cons t r ih =>
    cases i with
    | zero =>
      rw [bareN_zero, bareN, bareN_zero, tks_cons, tks_cons]
      simp [tkv, bareT]
    | succ i =>
      rw [bareN, bareN, tks_cons, tks_cons, ← ih i (by simpa using h)]
      simp only [tkv, List.cons_append, List.nil_append]
      rw [show (i + 1) * 3 + 2 = (i * 3 + 2) + 3 by omega]
      simp
theorem tks_one_cell (L : List Tk) : ∀ u ∈ tks L, u.oneCell' = true := by
  intro u hu
  unfold tks at hu
  rw [List.mem_flatMap] at hu
  obtain ⟨t, -, hu⟩ := hu
  simp only [tkv, List.mem_cons, List.not_mem_nil, or_false] at hu
  rcases hu with rfl | rfl | rfl <;> rfl
theorem TkAt.cells {w : World} {b off : Nat} {L : List Tk} (h : TkAt w (some ⟨b, off, none⟩) L) (j : Nat) (u : Value) (hj : (tks L)[j]? = some u) : w.cell? ⟨b, off + j, none⟩ = some u := by
  have hlt : j < L.length * 3 := by
    rw [← tks_len]; exact (List.getElem?_eq_some_iff.1 hj).1
  obtain ⟨k, r, hr, rfl⟩ : ∃ k r, r < 3 ∧ j = k * 3 + r := ⟨j / 3, j % 3, by omega, by omega⟩
  have hk : k < L.length := by omega
  rw [tks_at L k r hk hr] at hj
  obtain ⟨b', off', he, -, h0, h1, h2⟩ := h k hk
  simp only [Option.some.injEq, Addr.mk.injEq, and_true] at he
  obtain ⟨rfl, rfl⟩ := he
  rcases r with _ | _ | _ | r
  · simp only [tkv] at hj
    rw [← hj]; simpa using h0
  · simp only [tkv] at hj
    rw [← hj, ← Nat.add_assoc]; simpa using h1
  · simp only [tkv] at hj
    rw [← hj, ← Nat.add_assoc]; simpa using h2
  · omega

set_option maxHeartbeats 3200000 in
set_option maxRecDepth 100000 in
theorem clone_any (b off cap : Nat) (L : List Tk) (hl : L.length ≤ 100000) (w : World) (h : TkAt w (some ⟨b, off, none⟩) L) :
    Calls Try.prog 33 #[.slice (some ⟨b, off, none⟩) L.length cap] w (fun e w' => ∃ v', e = .returned v' ∧ w'.ownsRow w.heap.size 41 3 v' L.length (tks L) ∧ Below w.heap.size w w') := by
  obtain ⟨i0, hi, hz0, hz1, hz2⟩ := info_parts info41
  have H := Lib.hid h
  clear h
  have q0 : ∀ (w : World) (a : Option Addr) (n c n' c' : Nat), (binOp .eql 23 (.slice a n c) (.slice none n' c')).run Try.prog w = .ok (.bool a.isNone) w := fun w a n c n' c' => Lib.run_eql_slice_nil w _ _ a n c n' c' Try.underlying23
  go_enter Try.func33, Try.ntmps33
  go_wp2_with (at_builtin; refine wpList_append_own _ rfl _ _ 23 rfl w.heap.size 41 i0 _ 3 32 Try.underlying23 hi hz0 hz1 hz2 rfl (by decide) _ _ _ rfl (World.ownsRow_made w #[] 0 (Nat.le_refl _) (Nat.zero_le _) (by simp)) ⟨b, off, none⟩ L.length cap (tks L) rfl ?qc1 ?qc2 ?qc3 ?qc4 ?qc5 ?qc6 ?_)
  case qc1 => exact tks_len L
  case qc2 =>
    intro j u hj
    rw [Addr.add_lit]
    exact Lib.cell?_alloc_some _ (H.out.cells j u hj)
  case qc3 => exact tks_one_cell L
  case qc4 => rw [Nat.zero_add]; unfold maxLen; omega
  case qc5 => rw [Nat.zero_add]; omega
  case qc6 => simp
  intro v' w1 hown hgrow hnil
  go_wp2
  go_ret
  exact ⟨v', rfl, by simpa using hown, ((Below.refl _ w).alloc (Nat.le_refl _) _).grown hgrow (by simp) (by intro k hk; simp [Value.ownBlock] at hk; omega)⟩

set_option maxHeartbeats 3200000 in
set_option maxRecDepth 100000 in
theorem bare_any (a : Option Addr) (cap : Nat) (L : List Tk) (hL : 0 < L.length) (hl : L.length ≤ 100000) (w : World) (h : TkAt w a L) :
    Calls Try.prog 19 #[.slice a L.length cap] w (fun e w' => ∃ b c, e = .returned (.slice b L.length c) ∧ TkAt w' b (L.map bareT) ∧ Below w.heap.size w w') := by
  obtain ⟨b0, o0, rfl, -⟩ := h 0 hL
  have HC := Lib.hid (clone_any b0 o0 cap L hl w h)
  clear h
  go_enter Try.func19, Try.ntmps19
  go_wp2_with fail
  refine HC.out.mono ?_
  rintro e w1 ⟨v', rfl, hown, hb⟩
  rw [show tks L = tks (bareN L 0) by rw [bareN_zero]] at hown
  obtain ⟨g, c, rfl⟩ : ∃ g c, v' = .slice (some ⟨g, 0, none⟩) L.length c := by
    rcases hown.2 with ⟨_, h0⟩ | ⟨g, c, cur, hv, _⟩
    · omega
    · exact ⟨g, c, hv⟩
  have HOW := Lib.hid hown
  have HB := Lib.hid hb
  clear hown hb
  go_wp2
  go_loopw [9] (fun v wr => ∃ i : Nat, i ≤ L.length ∧ v = .int .i64 i ∧ wr.ownsRow w.heap.size 41 3 (.slice (some ⟨g, 0, none⟩) L.length c) L.length (tks (bareN L i)) ∧ Below w.heap.size w wr) (fun v _ => L.length - (intOf v).toNat)
  case atStart => exact ⟨0, by omega, rfl, HOW.out, HB.out⟩
  case round =>
    obtain ⟨i, hi, rfl, hown, hb⟩ := hrel
    by_cases hlt : i < L.length
    · have hs := (hown.stored (i * 3 + 2) (.int .i64 0)).1
      rw [bareN_set L i hlt] at hs
      have hbs : Below w.heap.size w (wr.setCell ⟨g, i * 3 + 2, none⟩ (.int .i64 0)) := hb.setCell (hown.lt g rfl).1 _
      have HS := Lib.hid hs
      have HBS := Lib.hid hbs
      have hc2 := hown.cellAt (i * 3 + 2) (by omega)
      rw [tks_at (bareN L i) i 2 (by rw [bareN_len]; exact hlt) (by omega)] at hc2
      have hc3 : wr.cell? ⟨g, i * 3 + 2, none⟩ = some (.int .i64 ((bareN L i)[i]'(by rw [bareN_len]; exact hlt)).pos) := hc2
      have hf := hown.frozenAt (i * 3 + 2)
      generalize ((bareN L i)[i]'(by rw [bareN_len]; exact hlt)).pos = p at hc3
      clear hc2 hs hbs hown hb
      have g1 : (0 : Int) ≤ (i : Int) := by omega
      have g2 : (i : Int) < ((L.length : Nat) : Int) := by omega
      go_wp2
      go_roundw
      case rel => exact ⟨i + 1, by omega, by go_num, HS.out, HBS.out⟩
      case measure => simp [intOf]; omega
    · obtain rfl : i = L.length := by omega
      have HOW := Lib.hid hown
      have HB := Lib.hid hb
      clear hown hb
      go_wp2
      go_ret
      have h1 := HOW.out
      rw [bareN_all] at h1
      have h2 : wr.ownsRow w.heap.size 41 3 (.slice (some ⟨g, 0, none⟩) L.length c) (L.map bareT).length (tks (L.map bareT)) := by rw [List.length_map]; exact h1
      obtain ⟨b, c', he, ht⟩ := TkAt.of_own h2
      rw [List.length_map] at he
      exact ⟨b, c', he ▸ rfl, ht, HB.out⟩
end Go.Proofs.Ytffcahhnaomegaa
