/- FractionSums returns true for every list of fractions, in whatever memory that holds the listed tables; they read as before. -/
import Derived.Test.YtolkiimlchfmlaaGreatDoorQ34
import Derived.Test.YtolkiimlchfmlaaGreatDoorHz
import Derived.Carry
namespace Go.Proofs.YtolkiimlchfmlaaGreatDoor.lawFractionSums
open Go.ChangeShapes Go.WideShapes Go.ChangeAt Go.ChangeMaps Go.RowKit Go.Joins

set_option maxRecDepth 100000 in
/-- A slice of fractions among the arguments: its cells are texts. -/
theorem open_fracs {H : Type} {enc : TypeId × Value → H} {w : World} {base : Nat} {spare : Nat → Bool} {held : Bool} {fuel : Nat} {cs : List Value} {x : DataW H × List MemPlace} (h : DataW.trod enc Tryz.prog w base spare held fuel 57 cs = some x) :
    cs = [.slice none 0 0] ∨ ∃ (a : Addr) (len cap : Nat), cs = [.slice (some a) len cap] ∧ len ≤ cap ∧ cap ≤ maxLen ∧
      ∀ i, i < len → ∃ s r : ByteArray, w.cell? (a.add (i * 2)) = some (.string s) ∧ w.cell? (a.add (i * 2 + 1)) = some (.string r) ∧ s.size ≤ maxLen ∧ r.size ≤ maxLen := by
  rcases DataW.trod_slice Tryz.underlying57 h with ⟨h0, -⟩ | ⟨a, len, cap, elems, rest, n, -, hcs, -, -, hl, hm, hlen, hel, -, -⟩
  · exact .inl h0
  · refine .inr ⟨a, len, cap, hcs, hl, hm, fun i hi => ?_⟩
    have h1 := hel i hi
    rw [List.getElem?_eq_getElem (by omega), cells24, Option.bind_eq_some_iff] at h1
    obtain ⟨cs', hc, ht⟩ := h1
    obtain ⟨-, hcl, hat⟩ := World.cells?_some hc
    obtain ⟨y0, y1, n', -, -, g0, g1⟩ := trod_struct2 under24 ht
    obtain ⟨s, e0, -, z0⟩ := DataW.trod_string Tryz.underlying22 g0
    obtain ⟨r, e1, -, z1⟩ := DataW.trod_string Tryz.underlying22 g1
    match cs', hcl with
    | [c0, c1], _ =>
      rw [show Tryz.prog.cellsOf 22 = 1 by kernel_rfl] at e0 e1
      simp at e0 e1
      have k0 := hat 0 (by omega)
      have k1 := hat 1 (by omega)
      refine ⟨s, r, ?_, ?_, z0, z1⟩
      · simpa [Addr.add, e0] using k0
      · by_cases e2 : i * 2 = 0
        · simpa [Addr.add, e1, e2] using k1
        · simpa [Addr.add, e1, e2, Nat.add_assoc] using k1

theorem laidOut : laidOutB Tryz.prog = true := by kernel_rfl

set_option maxRecDepth 100000 in
theorem contract (H : Type) (enc : TypeId × Value → H) (W : World) (base : Nat) (args : Array Value) (ds gs : List (DataW H)) (before : List MemPlace)
    (hval : ∀ (j : Nat) t v, Tryz.f6.params[j]? = some t → args[j]? = some v → Value.okWide Tryz.prog W .any base t v)
    (hW : DataW.Whole enc Tryz.prog Tryz.f6.params.toList Rows.fractionSumsSpec.vars false W args.toList ds gs before) (hTab : Tab W) (hCut : CutT W) :
    Calls Tryz.prog 6 args W fun e W' => ∃ v, e = .returned v ∧ Rows.fractionSumsSpec.post enc Tryz.prog Tryz.f6 false true false false W args v W' := by
  have hW' := hW
  obtain ⟨p, q, hA0, hV, rfl, hfz, hnd⟩ := hW
  have hA : DataW.TrodAll enc Tryz.prog W 0 (fun _ => true) true Tryz.f6.params.toList args.toList ds p := hA0
  rw [Tryz.params6] at hA hval
  obtain ⟨v0, vs0, d0, ds0, p0, q0, hargs, rfl, rfl, h0, r0⟩ := trodAll_cons hA
  obtain ⟨rfl, rfl, rfl⟩ := trodAll_nil r0
  obtain rfl : args = #[v0] := by cases args; simp_all
  obtain ⟨rfl, rfl⟩ := trodVars_none hV
  clear hA0
  simp only [List.append_nil] at hW'
  have hlt : ∀ x ∈ p0, x.block < W.heap.size := fun x hx => by simpa using hW'.lt x hx
  obtain ⟨a0, len, cap, rfl⟩ := okWide_slice Tryz.underlying57 (hval 0 57 v0 rfl rfl)
  have h0k := h0
  obtain ⟨fuel, hf⟩ := h0
  have fin : ∀ (e : Ending) (W' : World), (e = .returned (.bool true) ∧ Below W.heap.size W W') → ∃ v, e = .returned v ∧ Rows.fractionSumsSpec.post enc Tryz.prog Tryz.f6 false true false false W #[.slice a0 len cap] v W' := by
    intro e W' ⟨he, hb⟩
    subst he
    refine ⟨_, rfl, post_below (pa := p0) (pv := []) hW' (fun _ _ _ => trodAll_cons_mk (shut_bool Tryz.underlying4 _) trodAll_mk0) (fun sp hsp => ?_)
      (fun _ _ => rfl) (by rw [List.append_nil]) hb (ok_one (by kernel_rfl) rfl (okWide_bool_mk Tryz.underlying4 _))⟩
    have h9 := trodAll_cons_mk (WideElems.Trod_stays laidOut (by kernel_rfl) (of_decide_eq_true (by kernel_rfl)) h0k (fun x hx => hb.same (hlt x hx)) (fun x hx => hsp x hx)) trodAll_mk0
    rw [List.append_nil] at h9
    exact h9
  rcases open_fracs hf with hcs | ⟨a, len', cap', hcs, hl, hm, hx⟩
  · simp [Value.cells] at hcs
    obtain ⟨rfl, rfl, rfl⟩ := hcs
    exact (sums_any none 0 [] (fun j hj => by simp at hj) W (fun j hj => by simp at hj) hTab hCut).mono fin
  · simp [Value.cells] at hcs
    obtain ⟨rfl, rfl, rfl⟩ := hcs
    have hch : ∀ i : Nat, ∃ p : ByteArray × ByteArray, i < len → W.cell? (a.add (i * 2)) = some (.string p.1) ∧ W.cell? (a.add (i * 2 + 1)) = some (.string p.2) ∧ p.1.size ≤ maxLen ∧ p.2.size ≤ maxLen := fun i => by
      by_cases hi : i < len
      · obtain ⟨s, r, g⟩ := hx i hi
        exact ⟨(s, r), fun _ => g⟩
      · exact ⟨(ByteArray.empty, ByteArray.empty), fun g => absurd g hi⟩
    obtain ⟨f, hf'⟩ := Classical.axiomOfChoice hch
    obtain ⟨L, hL⟩ : ∃ L, L = (List.range len).map f := ⟨_, rfl⟩
    have hlen : L.length = len := by rw [hL]; simp
    have hget : ∀ j, j < len → fat L j = f j := fun j hj => by
      unfold fat
      rw [hL]
      simp [List.getD, hj]
    have hts : FsAt W (some a) L := by
      intro j hj
      rw [hlen] at hj
      obtain ⟨c0, c1, -, -⟩ := hf' j hj
      obtain ⟨b, off, spot⟩ := a
      have hspot : spot = none := by simpa [Addr.add] using World.cell?_spot (hf' 0 (by omega)).1
      subst hspot
      rw [hget j hj]
      have d0 : W.cell? ⟨b, off + j * 2, none⟩ = some (.string (f j).1) := by
        by_cases e0 : j = 0
        · subst e0; simpa [Addr.add] using c0
        · have e2 : ¬ j * 2 = 0 := by omega
          simpa only [Addr.add, e2, if_false] using c0
      exact ⟨b, off, rfl, World.block_lt_of_cell? W _ d0, d0, by simpa [Addr.add, Nat.add_assoc] using c1⟩
    have hszs : ∀ j, j < L.length → (fat L j).1.size ≤ 9223372036854775807 ∧ (fat L j).2.size ≤ 9223372036854775807 := by
      intro j hj
      rw [hlen] at hj
      obtain ⟨-, -, s0, s1⟩ := hf' j hj
      rw [hget j hj]
      unfold maxLen at s0 s1
      omega
    have hmain := sums_any (some a) cap L hszs W hts hTab hCut
    rw [hlen] at hmain
    exact hmain.mono fin

def wit : Array Value := #[.slice none 0 0]
theorem laid_met (os : Os) : laidMet Tryz.prog Rows.fractionSumsRow.laid ((laidWorld os).forCall (fun _ _ => 0) ⟨#[], wit, []⟩).memory :=
  laidMet_of_run' 100 (by kernel_rfl) (by kernel_rfl)
theorem reads (os : Os) {H : Type} (enc : TypeId × Value → H) : ∃ places, DataW.whole enc Tryz.prog ((laidWorld os).forCall (fun _ _ => 0) ⟨#[], wit, []⟩).memory Tryz.f6.params.toList Rows.fractionSumsSpec.vars false wit.toList 8 = some ([.nil], [], places) :=
  ⟨[], by kernel_rfl⟩

set_option maxRecDepth 100000 in
theorem lifted (os : Os) (started : os.Started) (H : Type) (enc : TypeId × Value → H) (F : Stop.Interp) :
    ReturnsInHanded {} Tryz.checked os 6 .any ((OpenSpec.ofChange Rows.fractionSumsSpec).preRow enc Tryz.prog Tryz.f6 Rows.fractionSumsRow.domain false Rows.fractionSumsRow.laid) (((OpenSpec.ofChange Rows.fractionSumsSpec).at F).post enc Tryz.prog Tryz.f6 false true false false) := by
  obtain ⟨places, hx⟩ := reads os enc
  refine returnsInHanded_of_row (C := Tryz.checked) (s := OpenSpec.ofChange Rows.fractionSumsSpec) own started (by kernel_rfl) Tryz.func6
    (witness_row_at (enc := enc) (C := Tryz.checked) false (laidWorld os) wit rfl (by kernel_rfl) (by kernel_rfl) (by kernel_rfl)
      (OpenSpec.preRow_of_cond 8 hx (by kernel_rfl) (fun k hk => by cases hk) (by kernel_rfl) (laid_met os))) ?_
  intro W base args ds gs before hval hW _ _ _ hL hS _
  exact contract H enc W base args ds gs before hval hW (table3 hL) (cut_of_shape hS)

theorem said : Rows.FractionSumsSaid :=
  OpenClaim.holds_of_cond 6 Tryz.f6 rfl rfl rfl rfl rfl rfl rfl ⟨rfl, rfl, rfl, rfl, rfl⟩ rfl rfl rfl rfl rfl (by kernel_rfl) Tryz.func6 (by kernel_rfl)
    (of_decide_eq_true (by kernel_rfl)) (by unfold Func.isWrapper; first | (rw [if_pos (by decide +kernel)]; kernel_rfl) | (rw [if_neg (by decide +kernel)]; exact ⟨rfl, rfl⟩))
    (fun os started H enc _ F => by rw [OpenClaim.pre_eq_preRow]; exact lifted os started H enc F)

/-- No parameter wants a stand-in; the program's own looks are off. -/
theorem plain (f : FuncId) (fn : Func) (hf : Tryz.pinned.checked.prog.funcNamed "sandpile/sandpilelaw02.FractionSums" = some f) (hfn : Tryz.pinned.checked.prog.funcs[f]? = some fn) :
    false = Tryz.pinned.checked.prog.looks [] ∧ ∀ (j : Nat) t, fn.params[j]? = some t → Tryz.pinned.checked.prog.wantsStandIn t = false := by
  obtain rfl : f = 6 := Option.some.inj ((show Tryz.prog.funcNamed "sandpile/sandpilelaw02.FractionSums" = some 6 by kernel_rfl).symm.trans hf) |>.symm
  obtain rfl : fn = Tryz.f6 := (Option.some.inj (Tryz.func6.symm.trans hfn)).symm
  refine ⟨by kernel_rfl, fun j t ht => ?_⟩
  rw [Tryz.params6] at ht
  obtain rfl : t = 57 := by simpa using Array.mem_of_getElem? ht
  exact (show Tryz.prog.wantsStandIn 57 = false by kernel_rfl)

theorem card : Rows.FractionSumsCardSaid :=
  Claim7.holds_tied_plain_at .later [] _ _ _ _ said (fun _ h => by cases h) (by kernel_rfl) (fun _ h => by cases h) fractionSums_row_tie rfl ⟨rfl, rfl⟩ (by kernel_rfl) rfl plain (by kernel_rfl)
end Go.Proofs.YtolkiimlchfmlaaGreatDoor.lawFractionSums
