/- The rows' frame: what the listed tables give, a world that holds them, the last step of a row. -/
import Derived.Test.YtnfmcdfdbipeoaaGreatDoorCards
import Derived.Test.YtnfmcdfdbipeoaaGreatDoorTie
import Derived.Test.YtnfmcdfdbipeoaaGreatDoorQ17
import Derived.Test.YtnfmcdfdbipeoaaGreatDoorQ29
import Derived.Shelf.Vars
import Derived.Lib.SmallJoins
import Derived.WalkKit
import Derived.ProofKit
import Derived.OpenShut
import Derived.ChangeMaps5
import Derived.ChangeSame
import Derived.Below
import Derived.Deep.DeepHandedRow
import Derived.Lib.LaidTab
import Derived.SliceStrings
import Derived.Carry
namespace Go.Proofs.YtnfmcdfdbipeoaaGreatDoor
open Go.ChangeShapes Go.WideShapes Go.ChangeAt Go.RowKit

theorem own : ownKnob Tryz.prog.godebug = none := by kernel_rfl
theorem gTabType : (Tryz.prog.globals[0]?).map (·.type) = some 186 := by kernel_rfl
theorem under154 : Tryz.prog.underlying 186 = some (.array 20 135) := by kernel_rfl
theorem under102 : Tryz.prog.underlying 135 = some (.int .u64) := by kernel_rfl
theorem cells154 : Tryz.prog.cellsOf 186 = 20 := by kernel_rfl
theorem cells102 : Tryz.prog.cellsOf 135 = 1 := by kernel_rfl

theorem laidMet_tail {P : Program} {W : World} {x : String × DataW Unit} {rest : List (String × DataW Unit)} (h : laidMet P (x :: rest) W) : laidMet P rest W := by
  obtain ⟨ps, ⟨g, t, cs, fuel, p, q, h1, h2, h3, h4, h5, h6⟩, hn, hc⟩ := h
  refine ⟨q, h5, ?_, fun b off hm => hc b off ?_⟩
  · rw [h6] at hn; exact (List.nodup_append.1 hn).2.1
  · rw [h6]; exact List.mem_append.2 (.inr hm)

def laid3 : List (String × DataW Unit) := [("math/bits.deBruijn32tab", Rows.laid_math_bits_deBruijn32tab), ("math/bits.deBruijn64tab", Rows.laid_math_bits_deBruijn64tab), ("internal/strconv.uint64pow10", Rows.laid_internal_strconv_uint64pow10)]

/-- What the row's list gives. -/
theorem table3 {W : World} (h : laidMet Tryz.prog laid3 W) : Tab W :=
  Lib.tabIs_of_head (rest := []) (zs := Lib.pow10Tab) tabGlobal gTabType under154 under102 cells102 cells154 (laidMet_tail (laidMet_tail h))

def litCell : DataW Unit → Option Value
  | .lit (.int k n) => some (.int k n)
  | _ => none
def litsOf : DataW Unit → Array Value
  | .agg l => (l.filterMap litCell).toArray
  | _ => #[]
def setBlock (a : Array Value) : Obj → Obj
  | .cells _ t frozen => .cells a t frozen
  | o => o
/-- A world for the witness: the settled one, the tables holding what their initialisers lay. -/
noncomputable def laidWorld (os : Os) : World :=
  { World.holding Tryz.prog os ⟨#[], #[], []⟩ with heap := (((World.holding Tryz.prog os ⟨#[], #[], []⟩).heap.modify 0 (setBlock (litsOf Rows.laid_internal_strconv_uint64pow10))).modify 3 (setBlock (litsOf Rows.laid_math_bits_deBruijn32tab))).modify 4 (setBlock (litsOf Rows.laid_math_bits_deBruijn64tab)) }

section
variable {H : Type} {enc : TypeId × Value → H} {P : Program}
/-- The last step of a row whose walk knows what is below its own memory. -/
theorem post_below {f : Func} {s : ChangeSpec} {apart fresh handsOn again : Bool} {W W' : World} {args : Array Value} {v : Value} {ds gs : List (DataW H)} {before pa pv : List MemPlace}
    (hW : DataW.Whole enc P f.params.toList s.vars apart W args.toList ds gs before)
    (hres : ∀ (b : Nat) (sp : Nat → Bool) (hd : Bool), DataW.TrodAll enc P W' b sp hd f.resultTypes.toList (v.resultList f.resultTypes.size) (s.fn H (ds ++ gs)).results [])
    (hargs : ∀ sp : Nat → Bool, (∀ p ∈ before, sp p.block = true) → DataW.TrodAll enc P W' 0 sp true f.params.toList args.toList (s.fn H (ds ++ gs)).args pa)
    (hvars : ∀ sp : Nat → Bool, (∀ p ∈ before, sp p.block = true) → DataW.TrodVars enc P W' sp s.vars (s.fn H (ds ++ gs)).vars pv)
    (hps : before = pa ++ pv) (hb : Below W.heap.size W W')
    (hok : ∀ (j : Nat) (t : TypeId) (r : Value), f.resultTypes[j]? = some t → (v.resultList f.resultTypes.size)[j]? = some r → Value.okWide P W' .any 0 t r) :
    s.post enc P f apart fresh handsOn again W args v W' := by
  have lt : ∀ p ∈ before, p.block < W.heap.size := fun p hp => hW.lt p hp
  have old : ∀ p ∈ before, (fun b => decide (b < W.heap.size)) p.block = true := fun p hp => by simpa using lt p hp
  have mem : ∀ p ∈ before, p ∈ pa ++ pv := fun p hp => hps ▸ hp
  refine ⟨ds, gs, before, [], pa, pv, hW, hres _ _ _, hargs _ old, hvars _ old, World.keptBut_mono (fun p hp => ⟨hp, .inr (List.mem_append.1 (mem p hp))⟩) (hb.frame (· ∈ before)), fun _ => ?_⟩
  have hW2 := hW
  obtain ⟨_, _, _, _, _, hz, hn⟩ := hW2
  refine ⟨hok, _, _, ([] ++ pa) ++ pv, ⟨[] ++ pa, pv, trodAll_append (hargs _ (fun _ _ => rfl)) (hres _ _ _), hvars _ (fun _ _ => rfl), rfl, ?_, ?_⟩, ?_⟩
  · intro b off hp
    have hin : MemPlace.cell b off ∈ before := by rw [hps]; simpa using hp
    rw [hb.frozen (lt _ hin)]
    exact hz b off hin
  · intro ha
    have h1 := hn ha
    rw [hps] at h1
    simpa using h1
  · intro p hp _
    rw [hps]
    simpa using hp
end
theorem laidOut : laidOutB Tryz.prog = true := by kernel_rfl
set_option maxRecDepth 100000 in
/-- An argument that is a list of texts. -/
theorem open_list {H : Type} {enc : TypeId × Value → H} {W : World} {b : Nat} {d : DataW H} {p : List MemPlace} {v : Value} (hv : Value.okWide Tryz.prog W .any b 22 v) (h0 : DataW.Trod enc Tryz.prog W 0 (fun _ => true) true 22 v d p) :
    ∃ a cap L, v = .slice a (List.length L) cap ∧ TsAt W a L ∧ (∀ j, j < List.length L → (sat L j).size ≤ 9223372036854775807) ∧ List.length L ≤ 9223372036854775807 := by
  obtain ⟨a0, len, cap, rfl⟩ := okWide_slice Tryz.underlying22 hv
  obtain ⟨fuel, hf⟩ := h0
  rcases open_strings Tryz.underlying22 Tryz.underlying31 (show Tryz.prog.cellsOf 31 = 1 by kernel_rfl) hf with ⟨hcs, hx⟩ | ⟨a, len', cap', ss, hcs, _, hl, hm, hz, hx, hcell, hws⟩
  · simp [Value.cells] at hcs
    obtain ⟨rfl, rfl, rfl⟩ := hcs
    exact ⟨none, 0, [], rfl, fun j hj => by simp at hj, fun j hj => by simp at hj, by simp⟩
  · simp [Value.cells] at hcs
    obtain ⟨rfl, rfl, rfl⟩ := hcs
    simp only [if_true] at hz
    have hle : len ≤ ss.length := by omega
    have hlen : (ss.take len).length = len := by rw [List.length_take, Nat.min_eq_left hle]
    have hget : ∀ j, j < len → sat (ss.take len) j = ss.getD j ByteArray.empty := by
      intro j hj
      unfold sat
      simp [List.getD, hj]
    refine ⟨some a, cap, ss.take len, by rw [hlen], ?_, ?_, by rw [hlen]; unfold maxLen at hm; omega⟩
    · intro j hj
      rw [hlen] at hj
      obtain ⟨b, off, spot⟩ := a
      have hspot : spot = none := by simpa [Addr.add] using World.cell?_spot (hcell 0 (by omega))
      subst hspot
      refine ⟨b, off, rfl, World.block_lt_of_cell? W _ (hcell 0 (by omega)), ?_⟩
      rw [hget j hj]
      have := hcell j (by omega)
      by_cases e0 : j = 0
      · subst e0; simpa [Addr.add] using this
      · simpa [Addr.add, e0] using this
    · intro j hj
      rw [hlen] at hj
      rw [hget j hj]
      have h1 : ss.getD j ByteArray.empty ∈ ss := by
        have h2 : ss.getD j ByteArray.empty = ss[j]'(by omega) := by simp [List.getD, show j < ss.length by omega]
        rw [h2]
        exact List.getElem_mem _
      have := hws _ h1
      unfold maxLen at this
      omega
end Go.Proofs.YtnfmcdfdbipeoaaGreatDoor
