/- The rows' frame: the last step of a row whose walk knows what lies below its own memory. -/
import Derived.Test.YtlnaahkheankoaaRows
import Derived.Test.YtlnaahkheankoaaQ15
import Derived.ProofKit
import Derived.OpenShut
import Derived.ChangeSame
import Derived.Below
import Derived.Carry
import Derived.ChangeMaps5
import Derived.Deep.Slices
import Derived.Deep.Fields
import Derived.Lib.SmallJoins
namespace Go.Proofs.Ytlnaahkheankoaa
open Go.ChangeShapes Go.WideShapes Go.ChangeAt Go.RowKit Go.Deep Go.Proofs.Gr

theorem own : ownKnob Try.prog.godebug = none := by kernel_rfl

section
variable {H : Type} {enc : TypeId × Value → H} {P : Program}
/-- The last step of a row whose walk knows what is below its own memory. -/
theorem post_below {f : Func} {s : ChangeSpec} {apart fresh handsOn again : Bool} {W W' : World} {args : Array Value} {v : Value} {ds gs : List (DataW H)} {before pa pv : List MemPlace}
    (hW : DataW.Whole enc P f.params.toList s.vars apart W args.toList ds gs before)
    (hres : ∀ (b : Nat) (sp : Nat → Bool) (hd : Bool), DataW.TrodAll enc P W' b sp hd f.resultTypes.toList (v.resultList f.resultTypes.size) (s.fn H (ds ++ gs)).results [])
    (hargs : ∀ sp : Nat → Bool, (∀ p ∈ before, sp p.block = true) → DataW.TrodAll enc P W' 0 sp true f.params.toList args.toList (s.fn H (ds ++ gs)).args pa)
    (hvars : ∀ sp : Nat → Bool, (∀ p ∈ before, sp p.block = true) → DataW.TrodVars enc P W' sp s.vars (s.fn H (ds ++ gs)).vars pv)
    (hps : before = pa ++ pv) (hb : Below W.heap.size W W')
    (hok : ∀ (j : Nat) (t : TypeId) (r : Value), f.resultTypes[j]? = some t → (v.resultList f.resultTypes.size)[j]? = some r → Value.okWide P W' .any 0 t r) :
    s.post enc P f apart fresh handsOn again W args v W' := by
  have lt : ∀ p ∈ before, p.block < W.heap.size := fun p hp => hW.lt p hp
  have old : ∀ p ∈ before, (fun b => decide (b < W.heap.size)) p.block = true := fun p hp => by simpa using lt p hp
  have mem : ∀ p ∈ before, p ∈ pa ++ pv := fun p hp => hps ▸ hp
  refine ⟨ds, gs, before, [], pa, pv, hW, hres _ _ _, hargs _ old, hvars _ old, World.keptBut_mono (fun p hp => ⟨hp, .inr (List.mem_append.1 (mem p hp))⟩) (hb.frame (· ∈ before)), fun _ => ?_⟩
  have hW2 := hW
  obtain ⟨_, _, _, _, _, hz, hn⟩ := hW2
  refine ⟨hok, _, _, ([] ++ pa) ++ pv, ⟨[] ++ pa, pv, trodAll_append (hargs _ (fun _ _ => rfl)) (hres _ _ _), hvars _ (fun _ _ => rfl), rfl, ?_, ?_⟩, ?_⟩
  · intro b off hp
    have hin : MemPlace.cell b off ∈ before := by rw [hps]; simpa using hp
    rw [hb.frozen (lt _ hin)]
    exact hz b off hin
  · intro ha
    have h1 := hn ha
    rw [hps] at h1
    simpa using h1
  · intro p hp _
    rw [hps]
    simpa using hp
end

set_option maxRecDepth 100000 in
/-- A slice of edges: its cells. -/
theorem open_es {H : Type} {enc : TypeId × Value → H} {w : World} {base : Nat} {spare : Nat → Bool} {held : Bool} {fuel : Nat} {cs : List Value} {x : DataW H × List MemPlace} (h : DataW.trod enc Try.prog w base spare held fuel 22 cs = some x) :
    cs = [.slice none 0 0] ∨ ∃ (a : Addr) (len cap : Nat), cs = [.slice (some a) len cap] ∧ len ≤ cap ∧ cap ≤ maxLen ∧
      ∀ i, i < len → ∃ (p q m : Int), w.cell? (a.add (i * 3)) = some (.int .i64 p) ∧ w.cell? (a.add (i * 3 + 1)) = some (.int .i64 q) ∧ w.cell? (a.add (i * 3 + 2)) = some (.int .i64 m) := by
  rcases DataW.trod_slice Try.underlying22 h with ⟨h0, -⟩ | ⟨a, len, cap, elems, rest, n, -, hcs, -, -, hl, hm, hlen, hel, -, -⟩
  · exact .inl h0
  · refine .inr ⟨a, len, cap, hcs, hl, hm, fun i hi => ?_⟩
    have h1 := hel i hi
    rw [List.getElem?_eq_getElem (by omega), show Try.prog.cellsOf 79 = 3 by kernel_rfl, Option.bind_eq_some_iff] at h1
    obtain ⟨cs', hc, ht⟩ := h1
    obtain ⟨-, hcl, hat⟩ := World.cells?_some hc
    obtain ⟨xs, n', -, -, -, hxl, hg⟩ := DataW.trod_struct Try.underlying79 ht
    match cs', hcl, xs, hxl with
    | [c0, c1, c2], _, [y0, y1, y2], _ =>
      have e3 : Try.prog.cellsOf 3 = 1 := by kernel_rfl
      have g0 := hg 0 _ rfl
      have g1 := hg 1 _ rfl
      have g2 := hg 2 _ rfl
      rw [show (Field.type _) = 3 from rfl, e3] at g0
      rw [show (Field.type _) = 3 from rfl, e3] at g1
      rw [show (Field.type _) = 3 from rfl, e3] at g2
      have g0' : DataW.trod enc Try.prog w base spare held n' 3 [c0] = some y0 := g0
      have g1' : DataW.trod enc Try.prog w base spare held n' 3 [c1] = some y1 := g1
      have g2' : DataW.trod enc Try.prog w base spare held n' 3 [c2] = some y2 := g2
      obtain ⟨k, ek, -, -⟩ := DataW.trod_int Try.underlying3 g0'
      obtain ⟨s, es, -, -⟩ := DataW.trod_int Try.underlying3 g1'
      obtain ⟨q, eq, -, -⟩ := DataW.trod_int Try.underlying3 g2'
      simp only [List.cons.injEq, and_true] at ek es eq
      subst ek es eq
      have k0 := hat 0 (by omega)
      have k1 := hat 1 (by omega)
      have k2 := hat 2 (by omega)
      refine ⟨k, s, q, ?_, ?_, ?_⟩
      · simpa [Addr.add] using k0
      · by_cases e2 : i * 3 = 0
        · simpa [Addr.add, e2] using k1
        · simpa [Addr.add, e2, Nat.add_assoc] using k1
      · by_cases e2 : i * 3 = 0
        · simpa [Addr.add, e2] using k2
        · simpa [Addr.add, e2, Nat.add_assoc] using k2
/-- Rows of k cells out of their cells. -/
theorem row_of {α : Type} {k : Nat} (hk0 : 0 < k) {enc : α → List Value} (hk : ∀ x, (enc x).length = k) (dflt : α) {W : World} {a : Addr} {len : Nat} (hx : ∀ i, i < len → ∃ t : α, ∀ c, c < k → W.cell? (a.add (i * k + c)) = (enc t)[c]?) :
    ∃ L : List α, L.length = len ∧ RowAt k enc W (some a) L := by
  have hch : ∀ i : Nat, ∃ t : α, i < len → ∀ c, c < k → W.cell? (a.add (i * k + c)) = (enc t)[c]? := fun i => by
    by_cases hi : i < len
    · obtain ⟨t, g⟩ := hx i hi
      exact ⟨t, fun _ => g⟩
    · exact ⟨dflt, fun g => absurd g hi⟩
  obtain ⟨f, hf'⟩ := Classical.axiomOfChoice hch
  refine ⟨(List.range len).map f, by simp, fun j hj => ?_⟩
  simp only [List.length_map, List.length_range] at hj
  have hget : ((List.range len).map f)[j]'(by simpa using hj) = f j := by simp
  rw [hget]
  obtain ⟨b, off, spot⟩ := a
  have hone : ∀ i (hi : i < len), ∃ u, (enc (f i))[0]? = some u := fun i hi => ⟨_, List.getElem?_eq_getElem (by rw [hk]; exact hk0)⟩
  have hspot : spot = none := by
    obtain ⟨u, hu⟩ := hone 0 (by omega)
    have h0 := hf' 0 (by omega) 0 hk0
    rw [hu] at h0
    simpa [Addr.add] using World.cell?_spot h0
  subst hspot
  have key : ∀ c, c < k → W.cell? ⟨b, off + j * k + c, none⟩ = (enc (f j))[c]? := fun c hc => by
    have h1 := hf' j hj c hc
    rw [← h1, Nat.add_assoc]
    generalize j * k + c = q
    have e2 : Addr.add ⟨b, off, none⟩ q = ⟨b, off + q, none⟩ := by unfold Addr.add; split <;> simp_all
    rw [e2]
  obtain ⟨u, hu⟩ := hone j hj
  have h2 := key 0 hk0
  rw [hu] at h2
  exact ⟨b, off, rfl, World.block_lt_of_cell? W _ h2, key⟩
set_option maxRecDepth 100000 in
/-- An argument that is a graph. -/
theorem open_graph {H : Type} {enc : TypeId × Value → H} {W : World} {b : Nat} {d : DataW H} {p : List MemPlace} {v : Value} (hv : Value.okWide Try.prog W .any b 24 v) (h0 : DataW.Trod enc Try.prog W 0 (fun _ => true) true 24 v d p) :
    ∃ n a cap L, v = gv n a (List.length L) cap ∧ EsAt W a L := by
  obtain ⟨v0, v1, y0, y1, n, rfl, -, -, h1, h2⟩ := Joins.open_agg2 Try.underlying24 (by kernel_rfl) (by kernel_rfl) hv h0
  obtain ⟨z, ez, -, -⟩ := DataW.trod_int Try.underlying3 h1
  simp only [List.cons.injEq, and_true] at ez
  subst ez
  rcases open_es h2 with hcs | ⟨a, len, cap, hcs, hl, hm, hx⟩
  · simp only [List.cons.injEq, and_true] at hcs
    subst hcs
    exact ⟨z, none, 0, [], rfl, RowAt.nil _ _ _ _⟩
  · simp only [List.cons.injEq, and_true] at hcs
    subst hcs
    obtain ⟨L, hL, hR⟩ := row_of (k := 3) (by decide) (enc := encE) (fun _ => rfl) e0 (W := W) (a := a) (len := len) (fun i hi => by
      obtain ⟨p, q, m, g0, g1, g2⟩ := hx i hi
      refine ⟨⟨p, q, m⟩, fun c hc => ?_⟩
      match c, hc with
      | 0, _ => exact g0
      | 1, _ => exact g1
      | 2, _ => exact g2)
    exact ⟨z, some a, cap, L, by rw [hL]; rfl, hR⟩
set_option maxRecDepth 100000 in
/-- An argument that is a list of ints. -/
theorem open_il {H : Type} {enc : TypeId × Value → H} {W : World} {b : Nat} {d : DataW H} {p : List MemPlace} {v : Value} (hv : Value.okWide Try.prog W .any b 28 v) (h0 : DataW.Trod enc Try.prog W 0 (fun _ => true) true 28 v d p) :
    ∃ a cap L, v = .slice a (List.length L) cap ∧ List.length L ≤ cap ∧ IsAt W a L := by
  obtain ⟨a0, len, cap, rfl⟩ := okWide_slice Try.underlying28 hv
  obtain ⟨fuel, hf⟩ := h0
  rcases ChangeShapes.open_ints Try.underlying28 Try.underlying3 (by kernel_rfl) hf with ⟨hcs, -⟩ | ⟨a, len', cap', zs, hcs, -, hl, hm, hz, hx⟩
  · simp [Value.cells] at hcs
    obtain ⟨rfl, rfl, rfl⟩ := hcs
    exact ⟨none, 0, [], rfl, Nat.le_refl _, RowAt.nil _ _ _ _⟩
  · simp [Value.cells] at hcs
    obtain ⟨rfl, rfl, rfl⟩ := hcs
    rw [if_pos rfl] at hz
    obtain ⟨L, hL, hR⟩ := row_of (k := 1) (by decide) (enc := encI) (fun _ => rfl) 0 (W := W) (a := a) (len := len) (fun i hi => by
      refine ⟨zs.getD i 0, fun c hc => ?_⟩
      obtain rfl : c = 0 := by omega
      rw [Nat.mul_one, Nat.add_zero, hx.2.1 i (by omega)]; rfl)
    exact ⟨some a, cap, L, by rw [hL], by rw [hL]; exact hl, hR⟩
set_option maxRecDepth 100000 in
/-- A pair's cells. -/
theorem open_pr {H : Type} {enc : TypeId × Value → H} {w : World} {base : Nat} {spare : Nat → Bool} {held : Bool} {fuel : Nat} {cs : List Value} {x : DataW H × List MemPlace} (h : DataW.trod enc Try.prog w base spare held fuel 85 cs = some x) :
    ∃ p q : Int, cs = [.int .i64 p, .int .i64 q] := by
  cases fuel with
  | zero => simp [DataW.trod] at h
  | succ n =>
    rw [DataW.trod_step] at h
    unfold DataW.trodStep at h
    rw [arrK.hu] at h
    simp only [arrK.size, arrK.one] at h
    split at h
    · rename_i hlen
      simp only [Option.map_eq_some_iff] at h
      obtain ⟨xs, hx, -⟩ := h
      rw [show List.range 2 = [0, 1] from rfl, List.mapM_cons, List.mapM_cons, List.mapM_nil] at hx
      simp only [bind, Option.bind_eq_some_iff, pure, Option.some.injEq] at hx
      obtain ⟨y0, h0, _, ⟨y1, h1, _, -, -⟩, -⟩ := hx
      obtain ⟨a, ea, -, -⟩ := DataW.trod_int Try.underlying3 h0
      obtain ⟨b, eb, -, -⟩ := DataW.trod_int Try.underlying3 h1
      match cs, hlen with
      | [c0, c1], _ =>
        simp at ea eb
        exact ⟨a, b, by rw [ea, eb]⟩
    · cases h
set_option maxRecDepth 100000 in
/-- An argument that is a list of pairs. -/
theorem open_pl {H : Type} {enc : TypeId × Value → H} {W : World} {b : Nat} {d : DataW H} {p : List MemPlace} {v : Value} (hv : Value.okWide Try.prog W .any b 83 v) (h0 : DataW.Trod enc Try.prog W 0 (fun _ => true) true 83 v d p) :
    ∃ a cap L, v = .slice a (List.length L) cap ∧ List.length L ≤ cap ∧ PsAt W a L := by
  obtain ⟨a0, len, cap, rfl⟩ := okWide_slice Try.underlying83 hv
  obtain ⟨fuel, hf⟩ := h0
  rcases DataW.trod_slice Try.underlying83 hf with ⟨hcs, -⟩ | ⟨a, len', cap', elems, rest, n, -, hcs, -, -, hl, hm, hlen, hel, -, -⟩
  · simp [Value.cells] at hcs
    obtain ⟨rfl, rfl, rfl⟩ := hcs
    exact ⟨none, 0, [], rfl, Nat.le_refl _, RowAt.nil _ _ _ _⟩
  · simp [Value.cells] at hcs
    obtain ⟨rfl, rfl, rfl⟩ := hcs
    obtain ⟨L, hL, hR⟩ := row_of (k := 2) (by decide) (enc := encP) (fun _ => rfl) (0, 0) (W := W) (a := a) (len := len) (fun i hi => by
      have h1 := hel i hi
      rw [List.getElem?_eq_getElem (by omega), arrK.size, Option.bind_eq_some_iff] at h1
      obtain ⟨cs', hc, ht⟩ := h1
      obtain ⟨-, hcl, hat⟩ := World.cells?_some hc
      obtain ⟨p, q, rfl⟩ := open_pr ht
      refine ⟨(p, q), fun c hc => ?_⟩
      have k0 := hat c (by simpa using hc)
      by_cases e2 : i * 2 = 0
      · match c, hc with
        | 0, _ => simpa [Addr.add, e2, encP] using k0
        | 1, _ => simpa [Addr.add, e2, encP] using k0
      · match c, hc with
        | 0, _ => simpa [Addr.add, e2, encP] using k0
        | 1, _ => simpa [Addr.add, e2, encP, Nat.add_assoc] using k0)
    exact ⟨some a, cap, L, by rw [hL], by rw [hL]; exact hl, hR⟩
end Go.Proofs.Ytlnaahkheankoaa
