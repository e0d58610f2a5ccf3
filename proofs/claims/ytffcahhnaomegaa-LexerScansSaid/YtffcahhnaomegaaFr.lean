/- The rows' frame: the last step of a row whose walk knows what lies below its own memory. -/
import Derived.Test.YtffcahhnaomegaaRows
import Derived.Test.YtffcahhnaomegaaLe
import Derived.ProofKit
import Derived.OpenShut
import Derived.ChangeSame
import Derived.Below
import Derived.Carry
import Derived.ChangeMaps5
import Derived.Deep.Slices
import Derived.Deep.Fields
import Derived.Lib.SmallJoins
namespace Go.Proofs.Ytffcahhnaomegaa
open Go.ChangeShapes Go.WideShapes Go.ChangeAt Go.RowKit Go.Deep Go.Proofs.Lx

theorem own : ownKnob Try.prog.godebug = none := by kernel_rfl
theorem laidOut : laidOutB Try.prog = true := by kernel_rfl

section
variable {H : Type} {enc : TypeId × Value → H} {P : Program}
/-- The last step of a row whose walk knows what is below its own memory. -/
theorem post_below {f : Func} {s : ChangeSpec} {apart fresh handsOn again : Bool} {W W' : World} {args : Array Value} {v : Value} {ds gs : List (DataW H)} {before pa pv : List MemPlace}
    (hW : DataW.Whole enc P f.params.toList s.vars apart W args.toList ds gs before)
    (hres : ∀ (b : Nat) (sp : Nat → Bool) (hd : Bool), DataW.TrodAll enc P W' b sp hd f.resultTypes.toList (v.resultList f.resultTypes.size) (s.fn H (ds ++ gs)).results [])
    (hargs : ∀ sp : Nat → Bool, (∀ p ∈ before, sp p.block = true) → DataW.TrodAll enc P W' 0 sp true f.params.toList args.toList (s.fn H (ds ++ gs)).args pa)
    (hvars : ∀ sp : Nat → Bool, (∀ p ∈ before, sp p.block = true) → DataW.TrodVars enc P W' sp s.vars (s.fn H (ds ++ gs)).vars pv)
    (hps : before = pa ++ pv) (hb : Below W.heap.size W W')
    (hok : ∀ (j : Nat) (t : TypeId) (r : Value), f.resultTypes[j]? = some t → (v.resultList f.resultTypes.size)[j]? = some r → Value.okWide P W' .any 0 t r) :
    s.post enc P f apart fresh handsOn again W args v W' := by
  have lt : ∀ p ∈ before, p.block < W.heap.size := fun p hp => hW.lt p hp
  have old : ∀ p ∈ before, (fun b => decide (b < W.heap.size)) p.block = true := fun p hp => by simpa using lt p hp
  have mem : ∀ p ∈ before, p ∈ pa ++ pv := fun p hp => hps ▸ hp
  refine ⟨ds, gs, before, [], pa, pv, hW, hres _ _ _, hargs _ old, hvars _ old, World.keptBut_mono (fun p hp => ⟨hp, .inr (List.mem_append.1 (mem p hp))⟩) (hb.frame (· ∈ before)), fun _ => ?_⟩
  have hW2 := hW
  obtain ⟨_, _, _, _, _, hz, hn⟩ := hW2
  refine ⟨hok, _, _, ([] ++ pa) ++ pv, ⟨[] ++ pa, pv, trodAll_append (hargs _ (fun _ _ => rfl)) (hres _ _ _), hvars _ (fun _ _ => rfl), rfl, ?_, ?_⟩, ?_⟩
  · intro b off hp
    have hin : MemPlace.cell b off ∈ before := by rw [hps]; simpa using hp
    rw [hb.frozen (lt _ hin)]
    exact hz b off hin
  · intro ha
    have h1 := hn ha
    rw [hps] at h1
    simpa using h1
  · intro p hp _
    rw [hps]
    simpa using hp
end

set_option maxRecDepth 100000 in
/-- A slice of tokens among the arguments: its cells. -/
theorem open_tk {H : Type} {enc : TypeId × Value → H} {w : World} {base : Nat} {spare : Nat → Bool} {held : Bool} {fuel : Nat} {cs : List Value} {x : DataW H × List MemPlace} (h : DataW.trod enc Try.prog w base spare held fuel 23 cs = some x) :
    cs = [.slice none 0 0] ∨ ∃ (a : Addr) (len cap : Nat), cs = [.slice (some a) len cap] ∧ len ≤ cap ∧ cap ≤ maxLen ∧
      ∀ i, i < len → ∃ (k p : Int) (s : ByteArray), w.cell? (a.add (i * 3)) = some (.int .i64 k) ∧ w.cell? (a.add (i * 3 + 1)) = some (.string s) ∧ w.cell? (a.add (i * 3 + 2)) = some (.int .i64 p) := by
  rcases DataW.trod_slice Try.underlying23 h with ⟨h0, -⟩ | ⟨a, len, cap, elems, rest, n, -, hcs, -, -, hl, hm, hlen, hel, -, -⟩
  · exact .inl h0
  · refine .inr ⟨a, len, cap, hcs, hl, hm, fun i hi => ?_⟩
    have h1 := hel i hi
    rw [List.getElem?_eq_getElem (by omega), show Try.prog.cellsOf 41 = 3 by kernel_rfl, Option.bind_eq_some_iff] at h1
    obtain ⟨cs', hc, ht⟩ := h1
    obtain ⟨-, hcl, hat⟩ := World.cells?_some hc
    obtain ⟨xs, n', -, -, -, hxl, hg⟩ := DataW.trod_struct Try.underlying41 ht
    match cs', hcl, xs, hxl with
    | [c0, c1, c2], _, [y0, y1, y2], _ =>
      have e3 : Try.prog.cellsOf 3 = 1 := by kernel_rfl
      have e9 : Try.prog.cellsOf 9 = 1 := by kernel_rfl
      have g0 := hg 0 _ rfl
      have g1 := hg 1 _ rfl
      have g2 := hg 2 _ rfl
      rw [show (Field.type _) = 3 from rfl, e3] at g0
      rw [show (Field.type _) = 9 from rfl, e9] at g1
      rw [show (Field.type _) = 3 from rfl, e3] at g2
      have g0' : DataW.trod enc Try.prog w base spare held n' 3 [c0] = some y0 := g0
      have g1' : DataW.trod enc Try.prog w base spare held n' 9 [c1] = some y1 := g1
      have g2' : DataW.trod enc Try.prog w base spare held n' 3 [c2] = some y2 := g2
      obtain ⟨k, ek, -, -⟩ := DataW.trod_int Try.underlying3 g0'
      obtain ⟨s, es, -, -⟩ := DataW.trod_string Try.underlying9 g1'
      obtain ⟨q, eq, -, -⟩ := DataW.trod_int Try.underlying3 g2'
      simp only [List.cons.injEq, and_true] at ek es eq
      subst ek es eq
      have k0 := hat 0 (by omega)
      have k1 := hat 1 (by omega)
      have k2 := hat 2 (by omega)
      refine ⟨k, q, s, ?_, ?_, ?_⟩
      · simpa [Addr.add] using k0
      · by_cases e2 : i * 3 = 0
        · simpa [Addr.add, e2] using k1
        · simpa [Addr.add, e2, Nat.add_assoc] using k1
      · by_cases e2 : i * 3 = 0
        · simpa [Addr.add, e2] using k2
        · simpa [Addr.add, e2, Nat.add_assoc] using k2
set_option maxRecDepth 100000 in
/-- An argument that is a list of tokens. -/
theorem open_toks {H : Type} {enc : TypeId × Value → H} {W : World} {b : Nat} {d : DataW H} {p : List MemPlace} {v : Value} (hv : Value.okWide Try.prog W .any b 23 v) (h0 : DataW.Trod enc Try.prog W 0 (fun _ => true) true 23 v d p) :
    ∃ a cap L, v = .slice a (List.length L) cap ∧ TkAt W a L ∧ List.length L ≤ 9223372036854775807 := by
  obtain ⟨a0, len, cap, rfl⟩ := okWide_slice Try.underlying23 hv
  obtain ⟨fuel, hf⟩ := h0
  rcases open_tk hf with hcs | ⟨a, len', cap', hcs, hl, hm, hx⟩
  · simp [Value.cells] at hcs
    obtain ⟨rfl, rfl, rfl⟩ := hcs
    exact ⟨none, 0, [], rfl, TkAt.nil _ _, by simp⟩
  · simp [Value.cells] at hcs
    obtain ⟨rfl, rfl, rfl⟩ := hcs
    have hch : ∀ i : Nat, ∃ t : Tk, i < len → W.cell? (a.add (i * 3)) = some (.int .i64 t.kind) ∧ W.cell? (a.add (i * 3 + 1)) = some (.string (bt t.text)) ∧ W.cell? (a.add (i * 3 + 2)) = some (.int .i64 t.pos) := fun i => by
      by_cases hi : i < len
      · obtain ⟨k, q, s, g⟩ := hx i hi
        exact ⟨⟨k, bl s, q⟩, fun _ => by rw [show bt (Tk.text ⟨k, bl s, q⟩) = s from bt_bl s]; exact g⟩
      · exact ⟨⟨0, [], 0⟩, fun g => absurd g hi⟩
    obtain ⟨f, hf'⟩ := Classical.axiomOfChoice hch
    refine ⟨some a, cap, (List.range len).map f, by simp, ?_, by simp; unfold maxLen at hm; omega⟩
    intro j hj
    simp only [List.length_map, List.length_range] at hj
    have hget : ((List.range len).map f)[j]'(by simpa using hj) = f j := by simp
    rw [hget]
    obtain ⟨c0, c1, c2⟩ := hf' j hj
    obtain ⟨b, off, spot⟩ := a
    have hspot : spot = none := by simpa [Addr.add] using World.cell?_spot (hf' 0 (by omega)).1
    subst hspot
    have d0 : W.cell? ⟨b, off + j * 3, none⟩ = some (.int .i64 (f j).kind) := by
      by_cases e0 : j = 0
      · subst e0; simpa [Addr.add] using c0
      · have e2 : ¬ j * 3 = 0 := by omega
        simpa only [Addr.add, e2, if_false] using c0
    exact ⟨b, off, rfl, World.block_lt_of_cell? W _ d0, d0, by simpa [Addr.add, Nat.add_assoc] using c1, by simpa [Addr.add, Nat.add_assoc] using c2⟩
end Go.Proofs.Ytffcahhnaomegaa
