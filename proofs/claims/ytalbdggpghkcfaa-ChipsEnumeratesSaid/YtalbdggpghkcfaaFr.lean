/- The rows' frame: the last step of a row whose walk knows what lies below its own memory. -/
import Derived.Test.YtalbdggpghkcfaaRows
import Derived.Test.YtalbdggpghkcfaaCa
import Derived.ProofKit
import Derived.OpenShut
import Derived.ChangeSame
import Derived.Below
import Derived.Carry
import Derived.ChangeMaps5
import Derived.Deep.Slices
import Derived.Deep.Fields
import Derived.Lib.SmallJoins
namespace Go.Proofs.Ytalbdggpghkcfaa
open Go.ChangeShapes Go.WideShapes Go.ChangeAt Go.RowKit Go.Deep Go.Proofs.Gr

theorem laidOut : laidOutB Try.prog = true := by kernel_rfl
theorem own : ownKnob Try.prog.godebug = none := by kernel_rfl

section
variable {H : Type} {enc : TypeId × Value → H} {P : Program}
/-- The last step of a row whose walk knows what is below its own memory. -/
theorem post_below {f : Func} {s : ChangeSpec} {apart fresh handsOn again : Bool} {W W' : World} {args : Array Value} {v : Value} {ds gs : List (DataW H)} {before pa pv : List MemPlace}
    (hW : DataW.Whole enc P f.params.toList s.vars apart W args.toList ds gs before)
    (hres : ∀ (b : Nat) (sp : Nat → Bool) (hd : Bool), DataW.TrodAll enc P W' b sp hd f.resultTypes.toList (v.resultList f.resultTypes.size) (s.fn H (ds ++ gs)).results [])
    (hargs : ∀ sp : Nat → Bool, (∀ p ∈ before, sp p.block = true) → DataW.TrodAll enc P W' 0 sp true f.params.toList args.toList (s.fn H (ds ++ gs)).args pa)
    (hvars : ∀ sp : Nat → Bool, (∀ p ∈ before, sp p.block = true) → DataW.TrodVars enc P W' sp s.vars (s.fn H (ds ++ gs)).vars pv)
    (hps : before = pa ++ pv) (hb : Below W.heap.size W W')
    (hok : ∀ (j : Nat) (t : TypeId) (r : Value), f.resultTypes[j]? = some t → (v.resultList f.resultTypes.size)[j]? = some r → Value.okWide P W' .any 0 t r) :
    s.post enc P f apart fresh handsOn again W args v W' := by
  have lt : ∀ p ∈ before, p.block < W.heap.size := fun p hp => hW.lt p hp
  have old : ∀ p ∈ before, (fun b => decide (b < W.heap.size)) p.block = true := fun p hp => by simpa using lt p hp
  have mem : ∀ p ∈ before, p ∈ pa ++ pv := fun p hp => hps ▸ hp
  refine ⟨ds, gs, before, [], pa, pv, hW, hres _ _ _, hargs _ old, hvars _ old, World.keptBut_mono (fun p hp => ⟨hp, .inr (List.mem_append.1 (mem p hp))⟩) (hb.frame (· ∈ before)), fun _ => ?_⟩
  have hW2 := hW
  obtain ⟨_, _, _, _, _, hz, hn⟩ := hW2
  refine ⟨hok, _, _, ([] ++ pa) ++ pv, ⟨[] ++ pa, pv, trodAll_append (hargs _ (fun _ _ => rfl)) (hres _ _ _), hvars _ (fun _ _ => rfl), rfl, ?_, ?_⟩, ?_⟩
  · intro b off hp
    have hin : MemPlace.cell b off ∈ before := by rw [hps]; simpa using hp
    rw [hb.frozen (lt _ hin)]
    exact hz b off hin
  · intro ha
    have h1 := hn ha
    rw [hps] at h1
    simpa using h1
  · intro p hp _
    rw [hps]
    simpa using hp
end

/-- Rows of k cells out of their cells. -/
theorem row_of {α : Type} {k : Nat} (hk0 : 0 < k) {enc : α → List Value} (hk : ∀ x, (enc x).length = k) (dflt : α) {W : World} {a : Addr} {len : Nat} (hx : ∀ i, i < len → ∃ t : α, ∀ c, c < k → W.cell? (a.add (i * k + c)) = (enc t)[c]?) :
    ∃ L : List α, L.length = len ∧ RowAt k enc W (some a) L := by
  have hch : ∀ i : Nat, ∃ t : α, i < len → ∀ c, c < k → W.cell? (a.add (i * k + c)) = (enc t)[c]? := fun i => by
    by_cases hi : i < len
    · obtain ⟨t, g⟩ := hx i hi
      exact ⟨t, fun _ => g⟩
    · exact ⟨dflt, fun g => absurd g hi⟩
  obtain ⟨f, hf'⟩ := Classical.axiomOfChoice hch
  refine ⟨(List.range len).map f, by simp, fun j hj => ?_⟩
  simp only [List.length_map, List.length_range] at hj
  have hget : ((List.range len).map f)[j]'(by simpa using hj) = f j := by simp
  rw [hget]
  obtain ⟨b, off, spot⟩ := a
  have hone : ∀ i (hi : i < len), ∃ u, (enc (f i))[0]? = some u := fun i hi => ⟨_, List.getElem?_eq_getElem (by rw [hk]; exact hk0)⟩
  have hspot : spot = none := by
    obtain ⟨u, hu⟩ := hone 0 (by omega)
    have h0 := hf' 0 (by omega) 0 hk0
    rw [hu] at h0
    simpa [Addr.add] using World.cell?_spot h0
  subst hspot
  have key : ∀ c, c < k → W.cell? ⟨b, off + j * k + c, none⟩ = (enc (f j))[c]? := fun c hc => by
    have h1 := hf' j hj c hc
    rw [← h1, Nat.add_assoc]
    generalize j * k + c = q
    have e2 : Addr.add ⟨b, off, none⟩ q = ⟨b, off + q, none⟩ := by unfold Addr.add; split <;> simp_all
    rw [e2]
  obtain ⟨u, hu⟩ := hone j hj
  have h2 := key 0 hk0
  rw [hu] at h2
  exact ⟨b, off, rfl, World.block_lt_of_cell? W _ h2, key⟩
set_option maxRecDepth 100000 in
/-- An argument that is a divisor. -/
theorem open_dl {H : Type} {enc : TypeId × Value → H} {W : World} {b : Nat} {d : DataW H} {p : List MemPlace} {v : Value} (hv : Value.okWide Try.prog W .any b 23 v) (h0 : DataW.Trod enc Try.prog W 0 (fun _ => true) true 23 v d p) :
    ∃ a cap L, v = .slice a (List.length L) cap ∧ List.length L ≤ cap ∧ IsAt W a L := by
  obtain ⟨a0, len, cap, rfl⟩ := okWide_slice Try.underlying23 hv
  obtain ⟨fuel, hf⟩ := h0
  rcases ChangeShapes.open_ints Try.underlying23 Try.underlying3 (by kernel_rfl) hf with ⟨hcs, -⟩ | ⟨a, len', cap', zs, hcs, -, hl, hm, hz, hx⟩
  · simp [Value.cells] at hcs
    obtain ⟨rfl, rfl, rfl⟩ := hcs
    exact ⟨none, 0, [], rfl, Nat.le_refl _, RowAt.nil _ _ _ _⟩
  · simp [Value.cells] at hcs
    obtain ⟨rfl, rfl, rfl⟩ := hcs
    rw [if_pos rfl] at hz
    obtain ⟨L, hL, hR⟩ := row_of (k := 1) (by decide) (enc := encI) (fun _ => rfl) 0 (W := W) (a := a) (len := len) (fun i hi => by
      refine ⟨zs.getD i 0, fun c hc => ?_⟩
      obtain rfl : c = 0 := by omega
      rw [Nat.mul_one, Nat.add_zero, hx.2.1 i (by omega)]; rfl)
    exact ⟨some a, cap, L, by rw [hL], by rw [hL]; exact hl, hR⟩
end Go.Proofs.Ytalbdggpghkcfaa
