/-
  NARROWER THAN 'FOR EVERY INPUT', by the rows' own cells (each row's printed sentence says how): AbelianChecks: laid · AbelianLists: laid · AbelianSums: laid · AbelianOrders: laid · AbelianGroups: laid · AbelianDivides: laid · AbelianCounts: laid · AbelianReduces: laid.
  DERIVED. THE GIVEN ROWS OF THIS SEAT. 8 by the template 'for every input the law returns true; each argument reads behind the call as it read before'; 0 by the template 'total and deterministic' (their statements: YtnfmcdfdbipeoaaGreatDoorTotals.lean).
  GIVEN WITH THE SEED: the statements are not yours to turn. If you find one false, say at which input.
  Laid BY PROGRAM, IN A SANDBOX (cutbox-rows.mjs): the forced cells as the released guide's own fill.sh prints them over the translation c5dc737ebfa37bf5… (all of the seat's roots in one cut). By AI agents, Wed Nov 11 2026. No macro, syntax, notation, axiom, sorry.
-/
import Derived.Test.YtnfmcdfdbipeoaaGreatDoorChecked
import GoSem.Claim
import GoSem.ClaimJoined
import GoSem.ClaimMapViews
import Derived.JoinedTies
import Derived.KernelRfl
namespace Go.Proofs.YtnfmcdfdbipeoaaGreatDoor
/- THE CELL 'sum', in the pinned program and in every row, IS THE sha256 OF THE DUMP (.gsa) THAT YtnfmcdfdbipeoaaGreatDoorProg.lean LOADS. Nothing in Lean hashes anything: it is a label: what it is worth is what the hold of that sum in a sandbox is worth. -/
noncomputable def Tryz.pinned : Pinned := { name := "ytnfmcdfdbipeoaagreatdoor", sum := "c5dc737ebfa37bf5f401d88045f6d7f5788757721a7cb2136a0ff7d471d0d6e1", checked := Tryz.checked }
namespace Rows
def none {H : Type} : Left H := { results := [], args := [] }

/- WHAT THE LISTED PACKAGE-LEVEL VARIABLES READ AS WHEN THE CALL BEGINS. Each datum BY PROGRAM (the guide's laid-datum.mjs) off the statement by which the dump's own 'gosem.cut.vars' lays the variable. In a bare row this is a premise. The card (YtnfmcdfdbipeoaaGreatDoorCards.lean) ties it to the program's text. -/
def laid_math_bits_deBruijn32tab {H : Type} : DataW H := .agg [.lit (.int .u8 0), .lit (.int .u8 1), .lit (.int .u8 28), .lit (.int .u8 2), .lit (.int .u8 29), .lit (.int .u8 14), .lit (.int .u8 24), .lit (.int .u8 3), .lit (.int .u8 30), .lit (.int .u8 22), .lit (.int .u8 20), .lit (.int .u8 15), .lit (.int .u8 25), .lit (.int .u8 17), .lit (.int .u8 4), .lit (.int .u8 8), .lit (.int .u8 31), .lit (.int .u8 27), .lit (.int .u8 13), .lit (.int .u8 23), .lit (.int .u8 21), .lit (.int .u8 19), .lit (.int .u8 16), .lit (.int .u8 7), .lit (.int .u8 26), .lit (.int .u8 12), .lit (.int .u8 18), .lit (.int .u8 6), .lit (.int .u8 11), .lit (.int .u8 5), .lit (.int .u8 10), .lit (.int .u8 9)]
def laid_math_bits_deBruijn64tab {H : Type} : DataW H := .agg [.lit (.int .u8 0), .lit (.int .u8 1), .lit (.int .u8 56), .lit (.int .u8 2), .lit (.int .u8 57), .lit (.int .u8 49), .lit (.int .u8 28), .lit (.int .u8 3), .lit (.int .u8 61), .lit (.int .u8 58), .lit (.int .u8 42), .lit (.int .u8 50), .lit (.int .u8 38), .lit (.int .u8 29), .lit (.int .u8 17), .lit (.int .u8 4), .lit (.int .u8 62), .lit (.int .u8 47), .lit (.int .u8 59), .lit (.int .u8 36), .lit (.int .u8 45), .lit (.int .u8 43), .lit (.int .u8 51), .lit (.int .u8 22), .lit (.int .u8 53), .lit (.int .u8 39), .lit (.int .u8 33), .lit (.int .u8 30), .lit (.int .u8 24), .lit (.int .u8 18), .lit (.int .u8 12), .lit (.int .u8 5), .lit (.int .u8 63), .lit (.int .u8 55), .lit (.int .u8 48), .lit (.int .u8 27), .lit (.int .u8 60), .lit (.int .u8 41), .lit (.int .u8 37), .lit (.int .u8 16), .lit (.int .u8 46), .lit (.int .u8 35), .lit (.int .u8 44), .lit (.int .u8 21), .lit (.int .u8 52), .lit (.int .u8 32), .lit (.int .u8 23), .lit (.int .u8 11), .lit (.int .u8 54), .lit (.int .u8 26), .lit (.int .u8 40), .lit (.int .u8 15), .lit (.int .u8 34), .lit (.int .u8 20), .lit (.int .u8 31), .lit (.int .u8 10), .lit (.int .u8 25), .lit (.int .u8 14), .lit (.int .u8 19), .lit (.int .u8 9), .lit (.int .u8 13), .lit (.int .u8 8), .lit (.int .u8 7), .lit (.int .u8 6)]
def laid_internal_strconv_uint64pow10 {H : Type} : DataW H := .agg [.lit (.int .u64 1), .lit (.int .u64 10), .lit (.int .u64 100), .lit (.int .u64 1000), .lit (.int .u64 10000), .lit (.int .u64 100000), .lit (.int .u64 1000000), .lit (.int .u64 10000000), .lit (.int .u64 100000000), .lit (.int .u64 1000000000), .lit (.int .u64 10000000000), .lit (.int .u64 100000000000), .lit (.int .u64 1000000000000), .lit (.int .u64 10000000000000), .lit (.int .u64 100000000000000), .lit (.int .u64 1000000000000000), .lit (.int .u64 10000000000000000), .lit (.int .u64 100000000000000000), .lit (.int .u64 1000000000000000000), .lit (.int .u64 10000000000000000000)]
def laid_strconv_ErrRange {H : Type} : DataW H := .iface "*errors.errorString" (.ptr (.agg [.lit (.string [118, 97, 108, 117, 101, 32, 111, 117, 116, 32, 111, 102, 32, 114, 97, 110, 103, 101])]))
def laid_strconv_ErrSyntax {H : Type} : DataW H := .iface "*errors.errorString" (.ptr (.agg [.lit (.string [105, 110, 118, 97, 108, 105, 100, 32, 115, 121, 110, 116, 97, 120])]))

/-- 'sandpilelaw05.AbelianChecks': WHATEVER THE INPUT: true; the input reads as it did. -/
def abelianChecksSpec : ChangeSpec := { name := "abelianChecks", fn := fun _ => fun
  | [d1, d2] => { results := [.lit (.bool true)], args := [d1, d2] }
  | _ => none }
def abelianChecksRow : OpenClaim := { program := "ytnfmcdfdbipeoaagreatdoor", sum := "c5dc737ebfa37bf5f401d88045f6d7f5788757721a7cb2136a0ff7d471d0d6e1", func := "sandpile/sandpilelaw05.AbelianChecks", spec := "abelianChecks", unfollowed := true, recurses := true, named := ["internal/strconv.uint64pow10", "math/bits.deBruijn32tab", "math/bits.deBruijn64tab"], apart := false, laid := [("math/bits.deBruijn32tab", laid_math_bits_deBruijn32tab), ("math/bits.deBruijn64tab", laid_math_bits_deBruijn64tab), ("internal/strconv.uint64pow10", laid_internal_strconv_uint64pow10)] }
def AbelianChecksSaid : Prop := abelianChecksRow.holds Tryz.pinned (OpenSpec.ofChange abelianChecksSpec)

/-- ITS FALSE NEIGHBOUR: 'it returns false'. Refute it at one input. -/
def abelianChecksWrong : ChangeSpec := { name := "abelianChecks", fn := fun _ => fun
  | [d1, d2] => { results := [.lit (.bool false)], args := [d1, d2] }
  | _ => none }
def AbelianChecksWrongFalsely : Prop := abelianChecksRow.holds Tryz.pinned (OpenSpec.ofChange abelianChecksWrong)

/-- 'sandpilelaw05.AbelianLists': WHATEVER THE INPUT: true; the input reads as it did. -/
def abelianListsSpec : ChangeSpec := { name := "abelianLists", fn := fun _ => fun
  | [d] => { results := [.lit (.bool true)], args := [d] }
  | _ => none }
def abelianListsRow : OpenClaim := { program := "ytnfmcdfdbipeoaagreatdoor", sum := "c5dc737ebfa37bf5f401d88045f6d7f5788757721a7cb2136a0ff7d471d0d6e1", func := "sandpile/sandpilelaw05.AbelianLists", spec := "abelianLists", unfollowed := true, recurses := true, named := ["internal/strconv.uint64pow10", "math/bits.deBruijn32tab", "math/bits.deBruijn64tab", "strconv.ErrSyntax", "strconv.ErrRange"], apart := false, laid := [("math/bits.deBruijn32tab", laid_math_bits_deBruijn32tab), ("math/bits.deBruijn64tab", laid_math_bits_deBruijn64tab), ("internal/strconv.uint64pow10", laid_internal_strconv_uint64pow10), ("strconv.ErrRange", laid_strconv_ErrRange), ("strconv.ErrSyntax", laid_strconv_ErrSyntax)] }
def AbelianListsSaid : Prop := abelianListsRow.holds Tryz.pinned (OpenSpec.ofChange abelianListsSpec)

/-- ITS FALSE NEIGHBOUR: 'it returns false'. Refute it at one input. -/
def abelianListsWrong : ChangeSpec := { name := "abelianLists", fn := fun _ => fun
  | [d] => { results := [.lit (.bool false)], args := [d] }
  | _ => none }
def AbelianListsWrongFalsely : Prop := abelianListsRow.holds Tryz.pinned (OpenSpec.ofChange abelianListsWrong)

/-- 'sandpilelaw05.AbelianSums': WHATEVER THE INPUT: true; the input reads as it did. -/
def abelianSumsSpec : ChangeSpec := { name := "abelianSums", fn := fun _ => fun
  | [d1, d2] => { results := [.lit (.bool true)], args := [d1, d2] }
  | _ => none }
def abelianSumsRow : OpenClaim := { program := "ytnfmcdfdbipeoaagreatdoor", sum := "c5dc737ebfa37bf5f401d88045f6d7f5788757721a7cb2136a0ff7d471d0d6e1", func := "sandpile/sandpilelaw05.AbelianSums", spec := "abelianSums", unfollowed := true, recurses := true, named := ["internal/strconv.uint64pow10", "math/bits.deBruijn32tab", "math/bits.deBruijn64tab"], apart := false, laid := [("math/bits.deBruijn32tab", laid_math_bits_deBruijn32tab), ("math/bits.deBruijn64tab", laid_math_bits_deBruijn64tab), ("internal/strconv.uint64pow10", laid_internal_strconv_uint64pow10)] }
def AbelianSumsSaid : Prop := abelianSumsRow.holds Tryz.pinned (OpenSpec.ofChange abelianSumsSpec)

/-- ITS FALSE NEIGHBOUR: 'it returns false'. Refute it at one input. -/
def abelianSumsWrong : ChangeSpec := { name := "abelianSums", fn := fun _ => fun
  | [d1, d2] => { results := [.lit (.bool false)], args := [d1, d2] }
  | _ => none }
def AbelianSumsWrongFalsely : Prop := abelianSumsRow.holds Tryz.pinned (OpenSpec.ofChange abelianSumsWrong)

/-- 'sandpilelaw05.AbelianOrders': WHATEVER THE INPUT: true; the input reads as it did. -/
def abelianOrdersSpec : ChangeSpec := { name := "abelianOrders", fn := fun _ => fun
  | [d1, d2] => { results := [.lit (.bool true)], args := [d1, d2] }
  | _ => none }
def abelianOrdersRow : OpenClaim := { program := "ytnfmcdfdbipeoaagreatdoor", sum := "c5dc737ebfa37bf5f401d88045f6d7f5788757721a7cb2136a0ff7d471d0d6e1", func := "sandpile/sandpilelaw05.AbelianOrders", spec := "abelianOrders", unfollowed := true, recurses := true, named := ["internal/strconv.uint64pow10", "math/bits.deBruijn32tab", "math/bits.deBruijn64tab"], apart := false, laid := [("math/bits.deBruijn32tab", laid_math_bits_deBruijn32tab), ("math/bits.deBruijn64tab", laid_math_bits_deBruijn64tab), ("internal/strconv.uint64pow10", laid_internal_strconv_uint64pow10)] }
def AbelianOrdersSaid : Prop := abelianOrdersRow.holds Tryz.pinned (OpenSpec.ofChange abelianOrdersSpec)

/-- ITS FALSE NEIGHBOUR: 'it returns false'. Refute it at one input. -/
def abelianOrdersWrong : ChangeSpec := { name := "abelianOrders", fn := fun _ => fun
  | [d1, d2] => { results := [.lit (.bool false)], args := [d1, d2] }
  | _ => none }
def AbelianOrdersWrongFalsely : Prop := abelianOrdersRow.holds Tryz.pinned (OpenSpec.ofChange abelianOrdersWrong)

/-- 'sandpilelaw05.AbelianGroups': WHATEVER THE INPUT: true; the input reads as it did. -/
def abelianGroupsSpec : ChangeSpec := { name := "abelianGroups", fn := fun _ => fun
  | [d1, d2, d3] => { results := [.lit (.bool true)], args := [d1, d2, d3] }
  | _ => none }
def abelianGroupsRow : OpenClaim := { program := "ytnfmcdfdbipeoaagreatdoor", sum := "c5dc737ebfa37bf5f401d88045f6d7f5788757721a7cb2136a0ff7d471d0d6e1", func := "sandpile/sandpilelaw05.AbelianGroups", spec := "abelianGroups", unfollowed := true, recurses := true, named := ["internal/strconv.uint64pow10", "math/bits.deBruijn32tab", "math/bits.deBruijn64tab"], apart := false, laid := [("math/bits.deBruijn32tab", laid_math_bits_deBruijn32tab), ("math/bits.deBruijn64tab", laid_math_bits_deBruijn64tab), ("internal/strconv.uint64pow10", laid_internal_strconv_uint64pow10)] }
def AbelianGroupsSaid : Prop := abelianGroupsRow.holds Tryz.pinned (OpenSpec.ofChange abelianGroupsSpec)

/-- ITS FALSE NEIGHBOUR: 'it returns false'. Refute it at one input. -/
def abelianGroupsWrong : ChangeSpec := { name := "abelianGroups", fn := fun _ => fun
  | [d1, d2, d3] => { results := [.lit (.bool false)], args := [d1, d2, d3] }
  | _ => none }
def AbelianGroupsWrongFalsely : Prop := abelianGroupsRow.holds Tryz.pinned (OpenSpec.ofChange abelianGroupsWrong)

/-- 'sandpilelaw05.AbelianDivides': WHATEVER THE INPUT: true; the input reads as it did. -/
def abelianDividesSpec : ChangeSpec := { name := "abelianDivides", fn := fun _ => fun
  | [d1, d2] => { results := [.lit (.bool true)], args := [d1, d2] }
  | _ => none }
def abelianDividesRow : OpenClaim := { program := "ytnfmcdfdbipeoaagreatdoor", sum := "c5dc737ebfa37bf5f401d88045f6d7f5788757721a7cb2136a0ff7d471d0d6e1", func := "sandpile/sandpilelaw05.AbelianDivides", spec := "abelianDivides", unfollowed := true, recurses := true, named := ["internal/strconv.uint64pow10", "math/bits.deBruijn32tab", "math/bits.deBruijn64tab"], apart := false, laid := [("math/bits.deBruijn32tab", laid_math_bits_deBruijn32tab), ("math/bits.deBruijn64tab", laid_math_bits_deBruijn64tab), ("internal/strconv.uint64pow10", laid_internal_strconv_uint64pow10)] }
def AbelianDividesSaid : Prop := abelianDividesRow.holds Tryz.pinned (OpenSpec.ofChange abelianDividesSpec)

/-- ITS FALSE NEIGHBOUR: 'it returns false'. Refute it at one input. -/
def abelianDividesWrong : ChangeSpec := { name := "abelianDivides", fn := fun _ => fun
  | [d1, d2] => { results := [.lit (.bool false)], args := [d1, d2] }
  | _ => none }
def AbelianDividesWrongFalsely : Prop := abelianDividesRow.holds Tryz.pinned (OpenSpec.ofChange abelianDividesWrong)

/-- 'sandpilelaw05.AbelianCounts': WHATEVER THE INPUT: true; the input reads as it did. -/
def abelianCountsSpec : ChangeSpec := { name := "abelianCounts", fn := fun _ => fun
  | [d1, d2] => { results := [.lit (.bool true)], args := [d1, d2] }
  | _ => none }
def abelianCountsRow : OpenClaim := { program := "ytnfmcdfdbipeoaagreatdoor", sum := "c5dc737ebfa37bf5f401d88045f6d7f5788757721a7cb2136a0ff7d471d0d6e1", func := "sandpile/sandpilelaw05.AbelianCounts", spec := "abelianCounts", unfollowed := true, recurses := true, named := ["internal/strconv.uint64pow10", "math/bits.deBruijn32tab", "math/bits.deBruijn64tab", "strconv.ErrSyntax", "strconv.ErrRange"], apart := false, laid := [("math/bits.deBruijn32tab", laid_math_bits_deBruijn32tab), ("math/bits.deBruijn64tab", laid_math_bits_deBruijn64tab), ("internal/strconv.uint64pow10", laid_internal_strconv_uint64pow10), ("strconv.ErrRange", laid_strconv_ErrRange), ("strconv.ErrSyntax", laid_strconv_ErrSyntax)] }
def AbelianCountsSaid : Prop := abelianCountsRow.holds Tryz.pinned (OpenSpec.ofChange abelianCountsSpec)

/-- ITS FALSE NEIGHBOUR: 'it returns false'. Refute it at one input. -/
def abelianCountsWrong : ChangeSpec := { name := "abelianCounts", fn := fun _ => fun
  | [d1, d2] => { results := [.lit (.bool false)], args := [d1, d2] }
  | _ => none }
def AbelianCountsWrongFalsely : Prop := abelianCountsRow.holds Tryz.pinned (OpenSpec.ofChange abelianCountsWrong)

/-- 'sandpilelaw05.AbelianReduces': WHATEVER THE INPUT: true; the input reads as it did. -/
def abelianReducesSpec : ChangeSpec := { name := "abelianReduces", fn := fun _ => fun
  | [d1, d2, d3] => { results := [.lit (.bool true)], args := [d1, d2, d3] }
  | _ => none }
def abelianReducesRow : OpenClaim := { program := "ytnfmcdfdbipeoaagreatdoor", sum := "c5dc737ebfa37bf5f401d88045f6d7f5788757721a7cb2136a0ff7d471d0d6e1", func := "sandpile/sandpilelaw05.AbelianReduces", spec := "abelianReduces", unfollowed := true, recurses := true, named := ["internal/strconv.uint64pow10", "math/bits.deBruijn32tab", "math/bits.deBruijn64tab"], apart := false, laid := [("math/bits.deBruijn32tab", laid_math_bits_deBruijn32tab), ("math/bits.deBruijn64tab", laid_math_bits_deBruijn64tab), ("internal/strconv.uint64pow10", laid_internal_strconv_uint64pow10)] }
def AbelianReducesSaid : Prop := abelianReducesRow.holds Tryz.pinned (OpenSpec.ofChange abelianReducesSpec)

/-- ITS FALSE NEIGHBOUR: 'it returns false'. Refute it at one input. -/
def abelianReducesWrong : ChangeSpec := { name := "abelianReduces", fn := fun _ => fun
  | [d1, d2, d3] => { results := [.lit (.bool false)], args := [d1, d2, d3] }
  | _ => none }
def AbelianReducesWrongFalsely : Prop := abelianReducesRow.holds Tryz.pinned (OpenSpec.ofChange abelianReducesWrong)

/- THE SECOND FORM. 'bulk': how many values and letters a reading holds, each counted each time it is reached (what is shared counts as often as it is met; a slice's spare places count too). A statement '..UptoSaid' is the law's where the arguments, and the package variables that the reading takes, are together of bulk at most 1048576: NARROWER than '..Said'. Prove '..Said' where nothing that the law and all that it calls make is longer than what came in: it says more and counts as full. Else prove '..UptoSaid'. A law counts once. -/
mutual
def uptoBulk {H : Type} : DataW H → Nat
  | .lit (.string bytes) => bytes.length + 1
  | .lit _ => 1
  | .nil => 1
  | .ptr d => uptoBulk d + 1
  | .slice elems spare => uptoBulkAll elems + uptoBulkAll spare + 1
  | .agg parts => uptoBulkAll parts + 1
  | .iface _ d => uptoBulk d + 1
  | .map entries => uptoBulkEntries entries + 1
  | .held _ => 1
def uptoBulkAll {H : Type} : List (DataW H) → Nat
  | [] => 0
  | d :: r => uptoBulk d + uptoBulkAll r
def uptoBulkEntries {H : Type} : List (Lit × DataW H) → Nat
  | [] => 0
  | x :: r => uptoBulkEntry x + uptoBulkEntries r
def uptoBulkEntry {H : Type} : Lit × DataW H → Nat
  | (.string bytes, d) => bytes.length + uptoBulk d + 1
  | (_, d) => uptoBulk d + 1
 end
def uptoSmall : (H : Type) → List (DataW H) → Bool := fun _ ds => decide (uptoBulkAll ds ≤ 1048576)
def OpenSpec.upto (s : _root_.Go.ChangeSpec) : _root_.Go.OpenSpec := { _root_.Go.OpenSpec.ofChange s with cond := some uptoSmall }

/-- 'sandpilelaw05.AbelianChecks', WHERE WHAT IT READS IS OF BULK AT MOST 1048576: true; the input reads as it did. -/
def abelianChecksUptoRow : OpenClaim := { program := "ytnfmcdfdbipeoaagreatdoor", sum := "c5dc737ebfa37bf5f401d88045f6d7f5788757721a7cb2136a0ff7d471d0d6e1", func := "sandpile/sandpilelaw05.AbelianChecks", spec := "abelianChecks", unfollowed := true, recurses := true, named := ["internal/strconv.uint64pow10", "math/bits.deBruijn32tab", "math/bits.deBruijn64tab"], apart := false, laid := [("math/bits.deBruijn32tab", laid_math_bits_deBruijn32tab), ("math/bits.deBruijn64tab", laid_math_bits_deBruijn64tab), ("internal/strconv.uint64pow10", laid_internal_strconv_uint64pow10)], narrowed := true }
def AbelianChecksUptoSaid : Prop := abelianChecksUptoRow.holds Tryz.pinned (OpenSpec.upto abelianChecksSpec)

/-- 'sandpilelaw05.AbelianLists', WHERE WHAT IT READS IS OF BULK AT MOST 1048576: true; the input reads as it did. -/
def abelianListsUptoRow : OpenClaim := { program := "ytnfmcdfdbipeoaagreatdoor", sum := "c5dc737ebfa37bf5f401d88045f6d7f5788757721a7cb2136a0ff7d471d0d6e1", func := "sandpile/sandpilelaw05.AbelianLists", spec := "abelianLists", unfollowed := true, recurses := true, named := ["internal/strconv.uint64pow10", "math/bits.deBruijn32tab", "math/bits.deBruijn64tab", "strconv.ErrSyntax", "strconv.ErrRange"], apart := false, laid := [("math/bits.deBruijn32tab", laid_math_bits_deBruijn32tab), ("math/bits.deBruijn64tab", laid_math_bits_deBruijn64tab), ("internal/strconv.uint64pow10", laid_internal_strconv_uint64pow10), ("strconv.ErrRange", laid_strconv_ErrRange), ("strconv.ErrSyntax", laid_strconv_ErrSyntax)], narrowed := true }
def AbelianListsUptoSaid : Prop := abelianListsUptoRow.holds Tryz.pinned (OpenSpec.upto abelianListsSpec)

/-- 'sandpilelaw05.AbelianSums', WHERE WHAT IT READS IS OF BULK AT MOST 1048576: true; the input reads as it did. -/
def abelianSumsUptoRow : OpenClaim := { program := "ytnfmcdfdbipeoaagreatdoor", sum := "c5dc737ebfa37bf5f401d88045f6d7f5788757721a7cb2136a0ff7d471d0d6e1", func := "sandpile/sandpilelaw05.AbelianSums", spec := "abelianSums", unfollowed := true, recurses := true, named := ["internal/strconv.uint64pow10", "math/bits.deBruijn32tab", "math/bits.deBruijn64tab"], apart := false, laid := [("math/bits.deBruijn32tab", laid_math_bits_deBruijn32tab), ("math/bits.deBruijn64tab", laid_math_bits_deBruijn64tab), ("internal/strconv.uint64pow10", laid_internal_strconv_uint64pow10)], narrowed := true }
def AbelianSumsUptoSaid : Prop := abelianSumsUptoRow.holds Tryz.pinned (OpenSpec.upto abelianSumsSpec)

/-- 'sandpilelaw05.AbelianOrders', WHERE WHAT IT READS IS OF BULK AT MOST 1048576: true; the input reads as it did. -/
def abelianOrdersUptoRow : OpenClaim := { program := "ytnfmcdfdbipeoaagreatdoor", sum := "c5dc737ebfa37bf5f401d88045f6d7f5788757721a7cb2136a0ff7d471d0d6e1", func := "sandpile/sandpilelaw05.AbelianOrders", spec := "abelianOrders", unfollowed := true, recurses := true, named := ["internal/strconv.uint64pow10", "math/bits.deBruijn32tab", "math/bits.deBruijn64tab"], apart := false, laid := [("math/bits.deBruijn32tab", laid_math_bits_deBruijn32tab), ("math/bits.deBruijn64tab", laid_math_bits_deBruijn64tab), ("internal/strconv.uint64pow10", laid_internal_strconv_uint64pow10)], narrowed := true }
def AbelianOrdersUptoSaid : Prop := abelianOrdersUptoRow.holds Tryz.pinned (OpenSpec.upto abelianOrdersSpec)

/-- 'sandpilelaw05.AbelianGroups', WHERE WHAT IT READS IS OF BULK AT MOST 1048576: true; the input reads as it did. -/
def abelianGroupsUptoRow : OpenClaim := { program := "ytnfmcdfdbipeoaagreatdoor", sum := "c5dc737ebfa37bf5f401d88045f6d7f5788757721a7cb2136a0ff7d471d0d6e1", func := "sandpile/sandpilelaw05.AbelianGroups", spec := "abelianGroups", unfollowed := true, recurses := true, named := ["internal/strconv.uint64pow10", "math/bits.deBruijn32tab", "math/bits.deBruijn64tab"], apart := false, laid := [("math/bits.deBruijn32tab", laid_math_bits_deBruijn32tab), ("math/bits.deBruijn64tab", laid_math_bits_deBruijn64tab), ("internal/strconv.uint64pow10", laid_internal_strconv_uint64pow10)], narrowed := true }
def AbelianGroupsUptoSaid : Prop := abelianGroupsUptoRow.holds Tryz.pinned (OpenSpec.upto abelianGroupsSpec)

/-- 'sandpilelaw05.AbelianDivides', WHERE WHAT IT READS IS OF BULK AT MOST 1048576: true; the input reads as it did. -/
def abelianDividesUptoRow : OpenClaim := { program := "ytnfmcdfdbipeoaagreatdoor", sum := "c5dc737ebfa37bf5f401d88045f6d7f5788757721a7cb2136a0ff7d471d0d6e1", func := "sandpile/sandpilelaw05.AbelianDivides", spec := "abelianDivides", unfollowed := true, recurses := true, named := ["internal/strconv.uint64pow10", "math/bits.deBruijn32tab", "math/bits.deBruijn64tab"], apart := false, laid := [("math/bits.deBruijn32tab", laid_math_bits_deBruijn32tab), ("math/bits.deBruijn64tab", laid_math_bits_deBruijn64tab), ("internal/strconv.uint64pow10", laid_internal_strconv_uint64pow10)], narrowed := true }
def AbelianDividesUptoSaid : Prop := abelianDividesUptoRow.holds Tryz.pinned (OpenSpec.upto abelianDividesSpec)

/-- 'sandpilelaw05.AbelianCounts', WHERE WHAT IT READS IS OF BULK AT MOST 1048576: true; the input reads as it did. -/
def abelianCountsUptoRow : OpenClaim := { program := "ytnfmcdfdbipeoaagreatdoor", sum := "c5dc737ebfa37bf5f401d88045f6d7f5788757721a7cb2136a0ff7d471d0d6e1", func := "sandpile/sandpilelaw05.AbelianCounts", spec := "abelianCounts", unfollowed := true, recurses := true, named := ["internal/strconv.uint64pow10", "math/bits.deBruijn32tab", "math/bits.deBruijn64tab", "strconv.ErrSyntax", "strconv.ErrRange"], apart := false, laid := [("math/bits.deBruijn32tab", laid_math_bits_deBruijn32tab), ("math/bits.deBruijn64tab", laid_math_bits_deBruijn64tab), ("internal/strconv.uint64pow10", laid_internal_strconv_uint64pow10), ("strconv.ErrRange", laid_strconv_ErrRange), ("strconv.ErrSyntax", laid_strconv_ErrSyntax)], narrowed := true }
def AbelianCountsUptoSaid : Prop := abelianCountsUptoRow.holds Tryz.pinned (OpenSpec.upto abelianCountsSpec)

/-- 'sandpilelaw05.AbelianReduces', WHERE WHAT IT READS IS OF BULK AT MOST 1048576: true; the input reads as it did. -/
def abelianReducesUptoRow : OpenClaim := { program := "ytnfmcdfdbipeoaagreatdoor", sum := "c5dc737ebfa37bf5f401d88045f6d7f5788757721a7cb2136a0ff7d471d0d6e1", func := "sandpile/sandpilelaw05.AbelianReduces", spec := "abelianReduces", unfollowed := true, recurses := true, named := ["internal/strconv.uint64pow10", "math/bits.deBruijn32tab", "math/bits.deBruijn64tab"], apart := false, laid := [("math/bits.deBruijn32tab", laid_math_bits_deBruijn32tab), ("math/bits.deBruijn64tab", laid_math_bits_deBruijn64tab), ("internal/strconv.uint64pow10", laid_internal_strconv_uint64pow10)], narrowed := true }
def AbelianReducesUptoSaid : Prop := abelianReducesUptoRow.holds Tryz.pinned (OpenSpec.upto abelianReducesSpec)

end Rows
end Go.Proofs.YtnfmcdfdbipeoaaGreatDoor
