/- A compound assignment to an entry of a map. -/
import Derived.Test.YtjaafneoinidkaaHe
import Derived.WideKeyEntry
namespace Go.Proofs.Ytjaafneoinidkaa
open Go.RowKit Go.Shelf Go.Proofs.Gr Go.Maps Go.WideMaps Go.ChangeMaps Go.MapKept
open Go.WideElems (Fit rg)

theorem setBlock_twice (w : World) (b : Nat) (o o' : Obj) : setBlock (setBlock w b o) b o' = setBlock w b o' := by
  unfold setBlock
  simp
theorem setBlock_self {w : World} {b : Nat} {o : Obj} (h : w.heap[b]? = some o) : setBlock w b o = w := by
  unfold setBlock
  obtain ⟨h1, h2⟩ := Array.getElem?_eq_some_iff.1 h
  have : w.heap.setIfInBounds b o = w.heap := by
    rw [← h2]
    refine Array.ext (by simp) fun i h3 h4 => ?_
    rw [Array.getElem_setIfInBounds h4]
    split
    · subst_vars; rfl
    · rfl
  rw [this]
section
variable {P : Program} {t k e : TypeId}
theorem entry_laws (K : KeyLaw P k) (ht : P.underlying t = some (.map k e)) (he : P.underlying e = some (.int .i64)) (hz : ∀ u : World, (zeroValue e).run P u = .ok (.int .i64 0) u) {w : World} {b n : Nat} {D : DataW Unit}
    (h : w.ownsMap P k (plainElem P e) b n D) (hn : n < maxLen) {key : Value} {l : Lit} (hkey : keyOf P k key = some l) :
    ∃ (c : Int) (v0 : Value) (st : Nat) (w1 : World), D.atKey l (.lit (.int .i64 0)) = .lit (.int .i64 c) ∧ W64 c ∧ (Instr.lookup t (.map (some b)) key false).run P w = .ok (.int .i64 c) w ∧
      (Instr.mapEntry t (.map (some b)) key).run P w = .ok (.tuple #[v0, goInt st]) w1 ∧ (Instr.lookup t (.map (some b)) key false).run P w1 = .ok (.int .i64 c) w1 ∧
      ∀ z : Int, W64 z → ∃ w2, (Instr.entryStore t (.map (some b)) (goInt st) (.int .i64 z)).run P w1 = .ok () w2 ∧ w2.ownsMap P k (plainElem P e) b (n + 1) (D.put l (.lit (.int .i64 z))) ∧ w.grownBy w2 (some b) := by
  have hown := h
  obtain ⟨es, clock, hb, F, hs, hD⟩ := h
  obtain ⟨c, hl, hat, hwc⟩ := hown.lookup_int (Keyed.of_law K) ht he (hz w) hkey
  obtain ⟨v0, st, es1, clock1, hme, hv, hst⟩ := WideElems.entry_then_store K ht hz hb F hkey
  refine ⟨c, v0, st, setBlock w b (.map es1 clock1), hat, hwc, hl, hme, ?_, fun z hwz => ?_⟩
  · rcases K.find w hkey es.toList F.keys with ⟨h1, h2⟩ | ⟨j, e0, h1, h2, h3⟩
    · have hm2 : (Instr.mapEntry t (.map (some b)) key).run P w = .ok (.tuple #[.int .i64 0, goInt clock]) (setBlock w b (.map (es.push ⟨key, .int .i64 0, clock⟩) (clock + 1))) := by
        simp [Instr.mapEntry, run_underlying ht, MapKept.run_getObj_map hb, K.check w false hkey, h1, hz, MapKept.run_setObj_map _ hb, Result.andThen, setBlock]
      have hu2 : (Instr.mapUpdate t (.map (some b)) key (.int .i64 0)).run P w = .ok () (setBlock w b (.map (es.push ⟨key, .int .i64 0, clock⟩) (clock + 1))) := by
        simp [Instr.mapUpdate, run_underlying ht, MapKept.run_getObj_map hb, K.check w false hkey, h1, MapKept.run_setObj_map _ hb, Result.andThen, setBlock]
      have hl2 : (Instr.lookup t (.map (some b)) key false).run P w = .ok (.int .i64 0) w := by
        simp [Instr.lookup, run_underlying ht, MapKept.run_getObj_map hb, K.check w _ hkey, h1, hz, Result.andThen]
      rw [hl] at hl2
      obtain rfl : c = 0 := by simpa using hl2
      rw [hm2] at hme
      simp only [Result.ok.injEq] at hme
      rw [← hme.2]
      obtain ⟨w', hu, ho, hg⟩ := hown.update (Keyed.of_law K) ht hn hkey (plainElem_int he (a := 0) (by decide))
      rw [hu2] at hu
      simp only [Result.ok.injEq, true_and] at hu
      rw [hu]
      obtain ⟨c', hl', hat', -⟩ := ho.lookup_int (Keyed.of_law K) ht he (hz w') hkey
      rw [atKey_put_same ⟨_, hD⟩ ((Keyed.of_law K).key hkey)] at hat'
      have : c' = 0 := by
        injection hat' with hat'
        injection hat' with _ hat'
        exact hat'.symm
      rw [hl', this]
    · have hj : es[j]? = some e0 := by simpa using h2
      have hsame : es.modify j (fun e => { e with key := key }) = es := by
        apply Array.ext'
        rw [Array.toList_modify, modify_eq_set _ _ _ _ h2]
        have : ({ e0 with key := key } : MapEntry) = e0 := by rw [← h3]
        rw [this]
        exact WideElems.set_self _ _ _ h2
      have hm2 : (Instr.mapEntry t (.map (some b)) key).run P w = .ok (.tuple #[e0.val, goInt e0.born]) (setBlock w b (.map es clock)) := by
        simp [Instr.mapEntry, run_underlying ht, MapKept.run_getObj_map hb, K.check w false hkey, h1, hj, h3, K.stays w hkey, hsame, MapKept.run_setObj_map _ hb, Result.andThen, setBlock]
      rw [hm2] at hme
      simp only [Result.ok.injEq] at hme
      rw [← hme.2, setBlock_self hb]
      exact hl
  · obtain ⟨es', clock', h1, h2⟩ := hst (setBlock w b (.map es1 clock1)) (.int .i64 z) (heap_setBlock_same hb _)
    obtain ⟨w', hu, ho, hg⟩ := hown.update (Keyed.of_law K) ht hn hkey (plainElem_int he hwz)
    rw [h2] at hu
    simp only [Result.ok.injEq, true_and] at hu
    refine ⟨_, h1, ?_⟩
    rw [setBlock_twice, hu]
    exact ⟨ho, hg⟩
end
end Go.Proofs.Ytjaafneoinidkaa
