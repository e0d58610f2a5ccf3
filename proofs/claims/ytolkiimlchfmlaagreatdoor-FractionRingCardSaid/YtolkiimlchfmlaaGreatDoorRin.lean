/- FractionRing returns true for every three fractions, in whatever memory that holds the listed tables; they read as before. -/
import Derived.Test.YtolkiimlchfmlaaGreatDoorQ34
import Derived.Test.YtolkiimlchfmlaaGreatDoorFy
namespace Go.Proofs.YtolkiimlchfmlaaGreatDoor.lawFractionRing
open Go.ChangeShapes Go.WideShapes Go.ChangeAt Go.ChangeMaps Go.RowKit Go.Joins

set_option maxRecDepth 100000 in
theorem contract (H : Type) (enc : TypeId × Value → H) (W : World) (base : Nat) (args : Array Value) (ds gs : List (DataW H)) (before : List MemPlace)
    (hval : ∀ (j : Nat) t v, Tryz.f7.params[j]? = some t → args[j]? = some v → Value.okWide Tryz.prog W .any base t v)
    (hW : DataW.Whole enc Tryz.prog Tryz.f7.params.toList Rows.fractionRingSpec.vars false W args.toList ds gs before) (hTab : Tab W) (hCut : CutT W) :
    Calls Tryz.prog 7 args W fun e W' => ∃ v, e = .returned v ∧ Rows.fractionRingSpec.post enc Tryz.prog Tryz.f7 false true false false W args v W' := by
  have hW' := hW
  obtain ⟨p, q, hA0, hV, rfl, hfz, hnd⟩ := hW
  have hA : DataW.TrodAll enc Tryz.prog W 0 (fun _ => true) true Tryz.f7.params.toList args.toList ds p := hA0
  rw [Tryz.params7] at hA hval
  obtain ⟨v0, vs0, d0, ds0, p0, q0, hargs, rfl, rfl, h0, r_0⟩ := trodAll_cons hA
  obtain ⟨v1, vs1, d1, ds1, p1, q1, rfl, rfl, rfl, h1, r_1⟩ := trodAll_cons r_0
  obtain ⟨v2, vs2, d2, ds2, p2, q2, rfl, rfl, rfl, h2, r_2⟩ := trodAll_cons r_1
  obtain ⟨rfl, rfl, rfl⟩ := trodAll_nil r_2
  obtain rfl : args = #[v0, v1, v2] := by cases args; simp_all
  obtain ⟨rfl, rfl⟩ := trodVars_none hV
  obtain ⟨c00, c01, y00, y01, k0, rfl, rfl, rfl, hy00, hy01⟩ := open_agg2 under24 (by kernel_rfl) cells24 (hval 0 24 v0 rfl rfl) h0
  obtain ⟨s0, e00, rfl, m0⟩ := DataW.trod_string Tryz.underlying22 hy00
  obtain ⟨r0, e01, rfl, n0⟩ := DataW.trod_string Tryz.underlying22 hy01
  simp at e00 e01
  subst e00 e01
  have hs0 : s0.size ≤ 9223372036854775807 := by unfold maxLen at m0; omega
  have hr0 : r0.size ≤ 9223372036854775807 := by unfold maxLen at n0; omega
  obtain ⟨c10, c11, y10, y11, k1, rfl, rfl, rfl, hy10, hy11⟩ := open_agg2 under24 (by kernel_rfl) cells24 (hval 1 24 v1 rfl rfl) h1
  obtain ⟨s1, e10, rfl, m1⟩ := DataW.trod_string Tryz.underlying22 hy10
  obtain ⟨r1, e11, rfl, n1⟩ := DataW.trod_string Tryz.underlying22 hy11
  simp at e10 e11
  subst e10 e11
  have hs1 : s1.size ≤ 9223372036854775807 := by unfold maxLen at m1; omega
  have hr1 : r1.size ≤ 9223372036854775807 := by unfold maxLen at n1; omega
  obtain ⟨c20, c21, y20, y21, k2, rfl, rfl, rfl, hy20, hy21⟩ := open_agg2 under24 (by kernel_rfl) cells24 (hval 2 24 v2 rfl rfl) h2
  obtain ⟨s2, e20, rfl, m2⟩ := DataW.trod_string Tryz.underlying22 hy20
  obtain ⟨r2, e21, rfl, n2⟩ := DataW.trod_string Tryz.underlying22 hy21
  simp at e20 e21
  subst e20 e21
  have hs2 : s2.size ≤ 9223372036854775807 := by unfold maxLen at m2; omega
  have hr2 : r2.size ≤ 9223372036854775807 := by unfold maxLen at n2; omega
  clear hA0
  simp only [List.append_nil] at hW'
  refine (ring_any s0 r0 s1 r1 s2 r2 hs0 hr0 hs1 hr1 hs2 hr2 W hTab hCut).mono fun e W' ⟨he, hb⟩ => ?_
  subst he
  exact ⟨_, rfl, post_below (pa := []) (pv := []) hW' (fun _ _ _ => trodAll_cons_mk (shut_bool Tryz.underlying4 _) trodAll_mk0)
    (fun _ _ => (trodAll_cons_mk (shutF m0 n0) (trodAll_cons_mk (shutF m1 n1) (trodAll_cons_mk (shutF m2 n2) trodAll_mk0))))
    (fun _ _ => rfl) rfl hb (ok_one (by kernel_rfl) rfl (okWide_bool_mk Tryz.underlying4 _))⟩

def wit : Array Value := #[.agg #[.string ⟨#[]⟩, .string ⟨#[]⟩], .agg #[.string ⟨#[]⟩, .string ⟨#[]⟩], .agg #[.string ⟨#[]⟩, .string ⟨#[]⟩]]
theorem laid_met (os : Os) : laidMet Tryz.prog Rows.fractionRingRow.laid ((laidWorld os).forCall (fun _ _ => 0) ⟨#[], wit, []⟩).memory :=
  laidMet_of_run' 100 (by kernel_rfl) (by kernel_rfl)
theorem reads (os : Os) {H : Type} (enc : TypeId × Value → H) : ∃ places, DataW.whole enc Tryz.prog ((laidWorld os).forCall (fun _ _ => 0) ⟨#[], wit, []⟩).memory Tryz.f7.params.toList Rows.fractionRingSpec.vars false wit.toList 8 = some ([.agg [.lit (.string []), .lit (.string [])], .agg [.lit (.string []), .lit (.string [])], .agg [.lit (.string []), .lit (.string [])]], [], places) :=
  ⟨[], by kernel_rfl⟩

set_option maxRecDepth 100000 in
theorem lifted (os : Os) (started : os.Started) (H : Type) (enc : TypeId × Value → H) (F : Stop.Interp) :
    ReturnsInHanded {} Tryz.checked os 7 .any ((OpenSpec.ofChange Rows.fractionRingSpec).preRow enc Tryz.prog Tryz.f7 Rows.fractionRingRow.domain false Rows.fractionRingRow.laid) (((OpenSpec.ofChange Rows.fractionRingSpec).at F).post enc Tryz.prog Tryz.f7 false true false false) := by
  obtain ⟨places, hx⟩ := reads os enc
  refine returnsInHanded_of_row (C := Tryz.checked) (s := OpenSpec.ofChange Rows.fractionRingSpec) own started (by kernel_rfl) Tryz.func7
    (witness_row_at (enc := enc) (C := Tryz.checked) false (laidWorld os) wit rfl (by kernel_rfl) (by kernel_rfl) (by kernel_rfl)
      (OpenSpec.preRow_of_cond 8 hx (by kernel_rfl) (fun k hk => by cases hk) (by kernel_rfl) (laid_met os))) ?_
  intro W base args ds gs before hval hW _ _ _ hL hS _
  exact contract H enc W base args ds gs before hval hW (table3 hL) (cut_of_shape hS)

theorem said : Rows.FractionRingSaid :=
  OpenClaim.holds_of_cond 7 Tryz.f7 rfl rfl rfl rfl rfl rfl rfl ⟨rfl, rfl, rfl, rfl, rfl⟩ rfl rfl rfl rfl rfl (by kernel_rfl) Tryz.func7 (by kernel_rfl)
    (of_decide_eq_true (by kernel_rfl)) (by unfold Func.isWrapper; first | (rw [if_pos (by decide +kernel)]; kernel_rfl) | (rw [if_neg (by decide +kernel)]; exact ⟨rfl, rfl⟩))
    (fun os started H enc _ F => by rw [OpenClaim.pre_eq_preRow]; exact lifted os started H enc F)

/-- No parameter wants a stand-in; the program's own looks are off. -/
theorem plain (f : FuncId) (fn : Func) (hf : Tryz.pinned.checked.prog.funcNamed "sandpile/sandpilelaw02.FractionRing" = some f) (hfn : Tryz.pinned.checked.prog.funcs[f]? = some fn) :
    false = Tryz.pinned.checked.prog.looks [] ∧ ∀ (j : Nat) t, fn.params[j]? = some t → Tryz.pinned.checked.prog.wantsStandIn t = false := by
  obtain rfl : f = 7 := Option.some.inj ((show Tryz.prog.funcNamed "sandpile/sandpilelaw02.FractionRing" = some 7 by kernel_rfl).symm.trans hf) |>.symm
  obtain rfl : fn = Tryz.f7 := (Option.some.inj (Tryz.func7.symm.trans hfn)).symm
  refine ⟨by kernel_rfl, fun j t ht => ?_⟩
  rw [Tryz.params7] at ht
  obtain rfl : t = 24 := by simpa using Array.mem_of_getElem? ht
  exact (show Tryz.prog.wantsStandIn 24 = false by kernel_rfl)

theorem card : Rows.FractionRingCardSaid :=
  Claim7.holds_tied_plain_at .later [] _ _ _ _ said (fun _ h => by cases h) (by kernel_rfl) (fun _ h => by cases h) fractionRing_row_tie rfl ⟨rfl, rfl⟩ (by kernel_rfl) rfl plain (by kernel_rfl)
end Go.Proofs.YtolkiimlchfmlaaGreatDoor.lawFractionRing
