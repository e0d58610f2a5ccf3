/- Late's laws, with the place named. -/
import Derived.Test.YtgejkgeojjgclaaLate
namespace Go.Proofs.Ytgejkgeojjgclaa

section
variable {P : Program} {ops : Array Oper} {Q : Exit → Act → World → Prop} {md : Region.Mode} {X : List Nat} {V : World}

/-- One of several comes up. -/
theorem wpAnyL_some {S : World → Prop} {rs : List Nat} {fuel : Nat} {listed : Array Bool} {a : Act} {w : World} (hr : Region.ready md ops listed = rs) (hne : rs ≠ [])
    (h : ∀ i ∈ rs, ∃ o, ops[i]? = some o ∧ ∀ K' : Act → World → Prop, Shut (∀ a w', (S w → S w') → wpAnyL P md ops Q S X fuel (listed.setIfInBounds i true) a w' → K' a w') → if Region.wanted o (yielded ops a.tmps) = true then Oper.wp P o a w K' Q else K' (a.put o.dst undef) w) :
    wpAnyL P md ops Q S X (fuel + 1) listed a w := by
  refine ⟨fun h0 => absurd (hr ▸ h0) hne, fun j hj => ?_⟩
  rw [hr] at hj
  obtain ⟨o, ho, hh⟩ := h j hj
  exact wpOp_step ho (fun K' hK => hh K' (fun a w hS hW => hK a w ⟨fun _ => hS, hW⟩))

/-- Number i is taken first; its place is named. -/
theorem wpAnyL_takeD {S : World → Prop} {i : Nat} (d : Nat) (v : Value) {oi : Oper} {fuel : Nat} {listed : Array Bool} {a : Act} {w : World} (hi : ops[i]? = some oi) (hd : oi.dst = some d)
    (hs : Region.noSelect ops = true) (hsh : shutBelowB md ops listed = true) (hX : X.all (fun j => waitsB md ops ops.size j i) = true) (hf : Region.free md ops listed i = true) (hr : (Region.ready md ops listed).contains i = true)
    (hQ : ∀ c a w, Q (.panic c) (a.put oi.dst v) w → Q (.panic c) a w) (hS : S w) (hy : YieldsIf P ops S oi v a)
    (h : wpAnyL P md ops Q S X fuel (listed.setIfInBounds i true) (a.put (some d) v) w) : wpAnyL P md ops Q S X (fuel + 1) listed a w :=
  wpAnyL_take hi hs hsh hX hf hr hQ hS hy (by rw [hd]; exact h)
theorem wpAnyL_pureD {S : World → Prop} {i : Nat} (d : Nat) (v : Value) {oi : Oper} {fuel : Nat} {listed : Array Bool} {a : Act} {w : World} (hi : ops[i]? = some oi) (hd : oi.dst = some d)
    (hs : Region.noSelect ops = true) (hf : Region.free md ops listed i = true) (hr : (Region.ready md ops listed).contains i = true)
    (hQ : ∀ c a w, Q (.panic c) (a.put oi.dst v) w → Q (.panic c) a w) (hy : YieldsIf P ops (fun _ => True) oi v a)
    (h : wpAnyL P md ops Q S X fuel (listed.setIfInBounds i true) (a.put (some d) v) w) : wpAnyL P md ops Q S X (fuel + 1) listed a w :=
  wpAnyL_pure hi hs hf hr hQ hy (by rw [hd]; exact h)

end
end Go.Proofs.Ytgejkgeojjgclaa
