/- The rows' frame: what the listed tables give, a world that holds them, the last step of a row. -/
import Derived.Test.YtolkiimlchfmlaaGreatDoorCards
import Derived.Test.YtolkiimlchfmlaaGreatDoorTie
import Derived.Test.YtolkiimlchfmlaaGreatDoorQ17
import Derived.Test.YtolkiimlchfmlaaGreatDoorQ28
import Derived.Shelf.Vars
import Derived.Lib.SmallJoins
import Derived.WalkKit
import Derived.ProofKit
import Derived.OpenShut
import Derived.ChangeMaps5
import Derived.ChangeSame
import Derived.Below
import Derived.Deep.DeepHandedRow
import Derived.Lib.LaidTab
namespace Go.Proofs.YtolkiimlchfmlaaGreatDoor
open Go.ChangeShapes Go.WideShapes Go.ChangeAt Go.RowKit

theorem own : ownKnob Tryz.prog.godebug = none := by kernel_rfl
theorem gTabType : (Tryz.prog.globals[1]?).map (·.type) = some 168 := by kernel_rfl
theorem under154 : Tryz.prog.underlying 168 = some (.array 20 137) := by kernel_rfl
theorem under102 : Tryz.prog.underlying 137 = some (.int .u64) := by kernel_rfl
theorem cells154 : Tryz.prog.cellsOf 168 = 20 := by kernel_rfl
theorem cells102 : Tryz.prog.cellsOf 137 = 1 := by kernel_rfl

theorem laidMet_tail {P : Program} {W : World} {x : String × DataW Unit} {rest : List (String × DataW Unit)} (h : laidMet P (x :: rest) W) : laidMet P rest W := by
  obtain ⟨ps, ⟨g, t, cs, fuel, p, q, h1, h2, h3, h4, h5, h6⟩, hn, hc⟩ := h
  refine ⟨q, h5, ?_, fun b off hm => hc b off ?_⟩
  · rw [h6] at hn; exact (List.nodup_append.1 hn).2.1
  · rw [h6]; exact List.mem_append.2 (.inr hm)

def laid3 : List (String × DataW Unit) := [("math/bits.deBruijn32tab", Rows.laid_math_bits_deBruijn32tab), ("math/bits.deBruijn64tab", Rows.laid_math_bits_deBruijn64tab), ("internal/strconv.uint64pow10", Rows.laid_internal_strconv_uint64pow10)]

/-- What the row's list gives. -/
theorem table3 {W : World} (h : laidMet Tryz.prog laid3 W) : Tab W :=
  Lib.tabIs_of_head (rest := []) (zs := Lib.pow10Tab) tabGlobal gTabType under154 under102 cells102 cells154 (laidMet_tail (laidMet_tail h))

def litCell : DataW Unit → Option Value
  | .lit (.int k n) => some (.int k n)
  | _ => none
def litsOf : DataW Unit → Array Value
  | .agg l => (l.filterMap litCell).toArray
  | _ => #[]
def setBlock (a : Array Value) : Obj → Obj
  | .cells _ t frozen => .cells a t frozen
  | o => o
/-- A world for the witness: the settled one, the tables holding what their initialisers lay. -/
noncomputable def laidWorld (os : Os) : World :=
  { World.holding Tryz.prog os ⟨#[], #[], []⟩ with heap := (((World.holding Tryz.prog os ⟨#[], #[], []⟩).heap.modify 1 (setBlock (litsOf Rows.laid_internal_strconv_uint64pow10))).modify 2 (setBlock (litsOf Rows.laid_math_bits_deBruijn32tab))).modify 3 (setBlock (litsOf Rows.laid_math_bits_deBruijn64tab)) }

section
variable {H : Type} {enc : TypeId × Value → H} {P : Program}
/-- The last step of a row whose walk knows what is below its own memory. -/
theorem post_below {f : Func} {s : ChangeSpec} {apart fresh handsOn again : Bool} {W W' : World} {args : Array Value} {v : Value} {ds gs : List (DataW H)} {before pa pv : List MemPlace}
    (hW : DataW.Whole enc P f.params.toList s.vars apart W args.toList ds gs before)
    (hres : ∀ (b : Nat) (sp : Nat → Bool) (hd : Bool), DataW.TrodAll enc P W' b sp hd f.resultTypes.toList (v.resultList f.resultTypes.size) (s.fn H (ds ++ gs)).results [])
    (hargs : ∀ sp : Nat → Bool, (∀ p ∈ before, sp p.block = true) → DataW.TrodAll enc P W' 0 sp true f.params.toList args.toList (s.fn H (ds ++ gs)).args pa)
    (hvars : ∀ sp : Nat → Bool, (∀ p ∈ before, sp p.block = true) → DataW.TrodVars enc P W' sp s.vars (s.fn H (ds ++ gs)).vars pv)
    (hps : before = pa ++ pv) (hb : Below W.heap.size W W')
    (hok : ∀ (j : Nat) (t : TypeId) (r : Value), f.resultTypes[j]? = some t → (v.resultList f.resultTypes.size)[j]? = some r → Value.okWide P W' .any 0 t r) :
    s.post enc P f apart fresh handsOn again W args v W' := by
  have lt : ∀ p ∈ before, p.block < W.heap.size := fun p hp => hW.lt p hp
  have old : ∀ p ∈ before, (fun b => decide (b < W.heap.size)) p.block = true := fun p hp => by simpa using lt p hp
  have mem : ∀ p ∈ before, p ∈ pa ++ pv := fun p hp => hps ▸ hp
  refine ⟨ds, gs, before, [], pa, pv, hW, hres _ _ _, hargs _ old, hvars _ old, World.keptBut_mono (fun p hp => ⟨hp, .inr (List.mem_append.1 (mem p hp))⟩) (hb.frame (· ∈ before)), fun _ => ?_⟩
  have hW2 := hW
  obtain ⟨_, _, _, _, _, hz, hn⟩ := hW2
  refine ⟨hok, _, _, ([] ++ pa) ++ pv, ⟨[] ++ pa, pv, trodAll_append (hargs _ (fun _ _ => rfl)) (hres _ _ _), hvars _ (fun _ _ => rfl), rfl, ?_, ?_⟩, ?_⟩
  · intro b off hp
    have hin : MemPlace.cell b off ∈ before := by rw [hps]; simpa using hp
    rw [hb.frozen (lt _ hin)]
    exact hz b off hin
  · intro ha
    have h1 := hn ha
    rw [hps] at h1
    simpa using h1
  · intro p hp _
    rw [hps]
    simpa using hp
end
open Go.Joins
theorem under24 : Tryz.prog.underlying 24 = some (.struct #[{ name := "Num", type := 22, offset := 0, embedded := false, tag := "", pkgPath := "", byteOffset := 0 }, { name := "Den", type := 22, offset := 1, embedded := false, tag := "", pkgPath := "", byteOffset := 16 }]) := Tryz.underlying24
theorem cells24 : Tryz.prog.cellsOf 24 = 2 := by kernel_rfl
theorem shutF {H : Type} {enc : TypeId × Value → H} {W' : World} {sp : Nat → Bool} {b : Nat} {hd : Bool} {s r : ByteArray} (m : s.size ≤ maxLen) (n : r.size ≤ maxLen) :
    DataW.Trod enc Tryz.prog W' b sp hd 24 (.agg #[.string s, .string r]) (.agg [.lit (.string s.data.toList), .lit (.string r.data.toList)]) [] :=
  shut_agg2 (y0 := (.lit (.string s.data.toList), [])) (y1 := (.lit (.string r.data.toList), [])) under24 (by kernel_rfl) cells24 ⟨1, by simp [DataW.trod, Tryz.underlying22, m]⟩ ⟨1, by simp [DataW.trod, Tryz.underlying22, n]⟩
theorem cut_of_shape {W : World} (h : W.ShapedOpen Tryz.prog) : CutT W := by
  obtain ⟨m, hm⟩ := cell_of_shapedOpen_int (P := Tryz.prog) (g := 0) (t := 3) (zero := #[.int .i64 0]) (k := .i64) h (of_decide_eq_true (by kernel_rfl)) (by kernel_rfl) rfl (by kernel_rfl) (by kernel_rfl) Tryz.underlying3
  exact ⟨World.block_lt_of_cell? W _ hm, m, hm⟩
theorem wf_u16 {n : Int} (h : (Lit.int .u16 n).wf = true) : 0 ≤ n ∧ n ≤ 65535 := by
  simpa [Lit.wf, show IntKind.u16.min = 0 from rfl, show IntKind.u16.max = 65535 from rfl] using h
end Go.Proofs.YtolkiimlchfmlaaGreatDoor
