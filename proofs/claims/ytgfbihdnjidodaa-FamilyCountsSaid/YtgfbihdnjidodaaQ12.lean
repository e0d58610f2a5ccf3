/- A compound assignment to an entry of a map. And: Adding to a collection. -/
import Derived.Test.YtgfbihdnjidodaaQ09
import Derived.WideKeyEntry
import Derived.Test.YtgfbihdnjidodaaQ06
import Derived.Test.YtgfbihdnjidodaaQ01
namespace Go.Proofs.Ytgfbihdnjidodaa
open Go.RowKit Go.Shelf Go.Proofs.Gr Go.Maps Go.WideMaps Go.ChangeMaps Go.MapKept
open Go.WideElems (Fit rg)

theorem setBlock_twice (w : World) (b : Nat) (o o' : Obj) : setBlock (setBlock w b o) b o' = setBlock w b o' := by
  unfold setBlock
  simp
theorem setBlock_self {w : World} {b : Nat} {o : Obj} (h : w.heap[b]? = some o) : setBlock w b o = w := by
  unfold setBlock
  obtain ⟨h1, h2⟩ := Array.getElem?_eq_some_iff.1 h
  have : w.heap.setIfInBounds b o = w.heap := by
    rw [← h2]
    refine Array.ext (by simp) fun i h3 h4 => ?_
    rw [Array.getElem_setIfInBounds h4]
    split
    · subst_vars; rfl
    · rfl
  rw [this]
section
variable {P : Program} {t k e : TypeId}
theorem entry_laws (K : KeyLaw P k) (ht : P.underlying t = some (.map k e)) (he : P.underlying e = some (.int .i64)) (hz : ∀ u : World, (zeroValue e).run P u = .ok (.int .i64 0) u) {w : World} {b n : Nat} {D : DataW Unit}
    (h : w.ownsMap P k (plainElem P e) b n D) (hn : n < maxLen) {key : Value} {l : Lit} (hkey : keyOf P k key = some l) :
    ∃ (c : Int) (v0 : Value) (st : Nat) (w1 : World), D.atKey l (.lit (.int .i64 0)) = .lit (.int .i64 c) ∧ W64 c ∧ (Instr.lookup t (.map (some b)) key false).run P w = .ok (.int .i64 c) w ∧
      (Instr.mapEntry t (.map (some b)) key).run P w = .ok (.tuple #[v0, goInt st]) w1 ∧ (Instr.lookup t (.map (some b)) key false).run P w1 = .ok (.int .i64 c) w1 ∧
      ∀ z : Int, W64 z → ∃ w2, (Instr.entryStore t (.map (some b)) (goInt st) (.int .i64 z)).run P w1 = .ok () w2 ∧ w2.ownsMap P k (plainElem P e) b (n + 1) (D.put l (.lit (.int .i64 z))) ∧ w.grownBy w2 (some b) := by
  have hown := h
  obtain ⟨es, clock, hb, F, hs, hD⟩ := h
  obtain ⟨c, hl, hat, hwc⟩ := hown.lookup_int (Keyed.of_law K) ht he (hz w) hkey
  obtain ⟨v0, st, es1, clock1, hme, hv, hst⟩ := WideElems.entry_then_store K ht hz hb F hkey
  refine ⟨c, v0, st, setBlock w b (.map es1 clock1), hat, hwc, hl, hme, ?_, fun z hwz => ?_⟩
  · rcases K.find w hkey es.toList F.keys with ⟨h1, h2⟩ | ⟨j, e0, h1, h2, h3⟩
    · have hm2 : (Instr.mapEntry t (.map (some b)) key).run P w = .ok (.tuple #[.int .i64 0, goInt clock]) (setBlock w b (.map (es.push ⟨key, .int .i64 0, clock⟩) (clock + 1))) := by
        simp [Instr.mapEntry, run_underlying ht, MapKept.run_getObj_map hb, K.check w false hkey, h1, hz, MapKept.run_setObj_map _ hb, Result.andThen, setBlock]
      have hu2 : (Instr.mapUpdate t (.map (some b)) key (.int .i64 0)).run P w = .ok () (setBlock w b (.map (es.push ⟨key, .int .i64 0, clock⟩) (clock + 1))) := by
        simp [Instr.mapUpdate, run_underlying ht, MapKept.run_getObj_map hb, K.check w false hkey, h1, MapKept.run_setObj_map _ hb, Result.andThen, setBlock]
      have hl2 : (Instr.lookup t (.map (some b)) key false).run P w = .ok (.int .i64 0) w := by
        simp [Instr.lookup, run_underlying ht, MapKept.run_getObj_map hb, K.check w _ hkey, h1, hz, Result.andThen]
      rw [hl] at hl2
      obtain rfl : c = 0 := by simpa using hl2
      rw [hm2] at hme
      simp only [Result.ok.injEq] at hme
      rw [← hme.2]
      obtain ⟨w', hu, ho, hg⟩ := hown.update (Keyed.of_law K) ht hn hkey (plainElem_int he (a := 0) (by decide))
      rw [hu2] at hu
      simp only [Result.ok.injEq, true_and] at hu
      rw [hu]
      obtain ⟨c', hl', hat', -⟩ := ho.lookup_int (Keyed.of_law K) ht he (hz w') hkey
      rw [atKey_put_same ⟨_, hD⟩ ((Keyed.of_law K).key hkey)] at hat'
      have : c' = 0 := by
        injection hat' with hat'
        injection hat' with _ hat'
        exact hat'.symm
      rw [hl', this]
    · have hj : es[j]? = some e0 := by simpa using h2
      have hsame : es.modify j (fun e => { e with key := key }) = es := by
        apply Array.ext'
        rw [Array.toList_modify, modify_eq_set _ _ _ _ h2]
        have : ({ e0 with key := key } : MapEntry) = e0 := by rw [← h3]
        rw [this]
        exact WideElems.set_self _ _ _ h2
      have hm2 : (Instr.mapEntry t (.map (some b)) key).run P w = .ok (.tuple #[e0.val, goInt e0.born]) (setBlock w b (.map es clock)) := by
        simp [Instr.mapEntry, run_underlying ht, MapKept.run_getObj_map hb, K.check w false hkey, h1, hj, h3, K.stays w hkey, hsame, MapKept.run_setObj_map _ hb, Result.andThen, setBlock]
      rw [hm2] at hme
      simp only [Result.ok.injEq] at hme
      rw [← hme.2, setBlock_self hb]
      exact hl
  · obtain ⟨es', clock', h1, h2⟩ := hst (setBlock w b (.map es1 clock1)) (.int .i64 z) (heap_setBlock_same hb _)
    obtain ⟨w', hu, ho, hg⟩ := hown.update (Keyed.of_law K) ht hn hkey (plainElem_int he hwz)
    rw [h2] at hu
    simp only [Result.ok.injEq, true_and] at hu
    refine ⟨_, h1, ?_⟩
    rw [setBlock_twice, hu]
    exact ⟨ho, hg⟩
end
end Go.Proofs.Ytgfbihdnjidodaa

namespace Go.Proofs.Ytgfbihdnjidodaa
open Go.RowKit Go.Shelf Go.Proofs.Gr Go.Maps
attribute [local go_sem] Oper.semAt_some

theorem zeroInt (w : World) : (zeroValue 3).run Try.prog w = .ok (.int .i64 0) w := by kernel_rfl
theorem mnP_w {x y : Int} (hx : W64 x) (hy : W64 y) : W64 (mnP (x, y)) := by unfold mnP; split <;> assumption
theorem mxP_w {x y : Int} (hx : W64 x) (hy : W64 y) : W64 (mxP (x, y)) := by unfold mxP; split <;> assumption
set_option maxHeartbeats 12800000 in
set_option maxRecDepth 100000 in
theorem padd_any (b m : Nat) (hm : m < 1000000) (A : List ((Int × Int) × Int)) (hA : ∀ x ∈ A, 1 ≤ x.2) (x y c : Int) (hx : W64 x) (hy : W64 y) (hc : 1 ≤ c) (hbd : accF A (mnP (x, y), mxP (x, y)) + c ≤ 9223372036854775807) (w : World) (h : Coll w b m (accF A)) :
    Calls Try.prog 69 #[.map (some b), .int .i64 x, .int .i64 y, .int .i64 c] w (fun e w' => e = .returned (.tuple #[]) ∧ Coll w' b (m + 1) (accF (A ++ [((mnP (x, y), mxP (x, y)), c)])) ∧ w.grownBy w' (some b)) := by
  obtain ⟨D, ho, hs⟩ := h
  obtain ⟨p, hp⟩ : ∃ p, p = (mnP (x, y), mxP (x, y)) := ⟨_, rfl⟩
  rw [← hp] at hbd
  have hp1 : W64 p.1 := by rw [hp]; exact mnP_w hx hy
  have hp2 : W64 p.2 := by rw [hp]; exact mxP_w hx hy
  have h0 := accF_nonneg A hA p
  obtain ⟨c0, v0, st, w1, hat, hwc, hl, hme, hl1, hst⟩ := entry_laws (w := w.drew) lawK0 Try.underlying89 Try.underlying3 zeroInt ho.drew (by unfold maxLen; omega) (key_pv p hp1 hp2)
  rw [(hs p hp1 hp2).2] at hat
  obtain rfl : accF A p = c0 := by injection hat with hat; injection hat
  obtain ⟨w2, hst1, hst2, hst3⟩ := hst (accF A p + c) (w64_of (by omega) (by omega))
  have HEND : Hid (Coll w2 b (m + 1) (accF (A ++ [((mnP (x, y), mxP (x, y)), c)])) ∧ w.grownBy w2 (some b)) := Lib.hid (by
    refine ⟨⟨_, hst2, ?_⟩, ⟨hst3.os, hst3.tape, hst3.output, hst3.size, hst3.block⟩⟩
    rw [← hp]
    have h9 := hs.put ho.isMap hp1 hp2 (accF A p + c) (by omega)
    rw [show accF (A ++ [(p, c)]) = fun q => if q = p then accF A p + c else accF A q from funext fun q => by
      rw [accF_snoc]
      by_cases e : q = p
      · subst e; rw [if_pos rfl, if_pos rfl]
      · rw [if_neg (fun e' => e e'.symm), if_neg e]; omega]
    exact h9)
  have hmn : (if y < x then y else x) = p.1 := by rw [hp]; rfl
  have hmx : (if x < y then y else x) = p.2 := by rw [hp]; rfl
  have hwr : IntKind.i64.wrap (accF A p + c) = accF A p + c := by simp [IntKind.wrap, IntKind.bits, IntKind.signed]; omega
  generalize accF (A ++ [((mnP (x, y), mxP (x, y)), c)]) = F' at *
  generalize accF A p = z at *
  clear hst hst2 hst3 hs ho hat hbd h0 hp hp1 hp2 hA hwc hm hx hy hc
  obtain ⟨p1, p2⟩ := p
  unfold pv at *
  simp only at hmn hmx hl hme hl1
  have hme' : (Instr.mapEntry 89 (.map (some b)) (.agg #[.int .i64 p1, .int .i64 p2])).run Try.prog w.drew = .ok (.tuple #[v0, .int .i64 (st : Int)]) w1 := hme
  have hst1' : (Instr.entryStore 89 (.map (some b)) (.int .i64 (st : Int)) (.int .i64 (z + c))).run Try.prog w1 = .ok () w2 := hst1
  clear hme hst1
  have hSd : (Instr.lookup 89 (.map (some b)) (.agg #[.int .i64 p1, .int .i64 p2]) false).run Try.prog w.drew = .ok (.int .i64 z) w.drew := hl
  go_enter Try.func69, Try.ntmps69
  refine wp_region_late (S := fun u => (Instr.lookup 89 (.map (some b)) (.agg #[.int .i64 p1, .int .i64 p2]) false).run Try.prog u = .ok (.int .i64 z) u) (X := [13]) (by kernel_rfl) ?_
  refine wpAnyL_pureD (i := 0) 8 (.map (some b)) rfl rfl (by kernel_rfl) (by kernel_rfl) (by kernel_rfl) (fun _ _ _ h => h) (Or.inl ⟨by rfl, fun u _ => ?_⟩) ?_
  · go_simp
  try simp only [Act.put, List.setIfInBounds_toArray, List.set_cons_zero, List.set_cons_succ]
  refine wpAnyL_pureD (i := 1) 9 (.int .i64 x) rfl rfl (by kernel_rfl) (by kernel_rfl) (by kernel_rfl) (fun _ _ _ h => h) (Or.inl ⟨by rfl, fun u _ => ?_⟩) ?_
  · go_simp
  try simp only [Act.put, List.setIfInBounds_toArray, List.set_cons_zero, List.set_cons_succ]
  refine wpAnyL_pureD (i := 2) 10 (.int .i64 y) rfl rfl (by kernel_rfl) (by kernel_rfl) (by kernel_rfl) (fun _ _ _ h => h) (Or.inl ⟨by rfl, fun u _ => ?_⟩) ?_
  · go_simp
  try simp only [Act.put, List.setIfInBounds_toArray, List.set_cons_zero, List.set_cons_succ]
  refine wpAnyL_pureD (i := 3) 11 (.int .i64 p1) rfl rfl (by kernel_rfl) (by kernel_rfl) (by kernel_rfl) (fun _ _ _ h => h) (Or.inl ⟨by rfl, fun u _ => ?_⟩) ?_
  · go_simp
  try simp only [Act.put, List.setIfInBounds_toArray, List.set_cons_zero, List.set_cons_succ]
  refine wpAnyL_pureD (i := 4) 12 (.int .i64 x) rfl rfl (by kernel_rfl) (by kernel_rfl) (by kernel_rfl) (fun _ _ _ h => h) (Or.inl ⟨by rfl, fun u _ => ?_⟩) ?_
  · go_simp
  try simp only [Act.put, List.setIfInBounds_toArray, List.set_cons_zero, List.set_cons_succ]
  refine wpAnyL_pureD (i := 5) 13 (.int .i64 y) rfl rfl (by kernel_rfl) (by kernel_rfl) (by kernel_rfl) (fun _ _ _ h => h) (Or.inl ⟨by rfl, fun u _ => ?_⟩) ?_
  · go_simp
  try simp only [Act.put, List.setIfInBounds_toArray, List.set_cons_zero, List.set_cons_succ]
  refine wpAnyL_pureD (i := 6) 14 (.int .i64 p2) rfl rfl (by kernel_rfl) (by kernel_rfl) (by kernel_rfl) (fun _ _ _ h => h) (Or.inl ⟨by rfl, fun u _ => ?_⟩) ?_
  · go_simp
  try simp only [Act.put, List.setIfInBounds_toArray, List.set_cons_zero, List.set_cons_succ]
  refine wpAnyL_pureD (i := 7) 15 (.agg #[.int .i64 p1, .int .i64 p2]) rfl rfl (by kernel_rfl) (by kernel_rfl) (by kernel_rfl) (fun _ _ _ h => h) (Or.inl ⟨by rfl, fun u _ => ?_⟩) ?_
  · go_simp
  try simp only [Act.put, List.setIfInBounds_toArray, List.set_cons_zero, List.set_cons_succ]
  refine wpAnyL_takeD (i := 8) 16 (.int .i64 z) rfl rfl (by kernel_rfl) (by kernel_rfl) (by kernel_rfl) (by kernel_rfl) (by kernel_rfl) (fun _ _ _ h => h) hSd (Or.inl ⟨by rfl, fun u hu => ?_⟩) ?_
  · go_simp
  try simp only [Act.put, List.setIfInBounds_toArray, List.set_cons_zero, List.set_cons_succ]
  refine wpAnyL_pureD (i := 9) 17 (.int .i64 c) rfl rfl (by kernel_rfl) (by kernel_rfl) (by kernel_rfl) (fun _ _ _ h => h) (Or.inl ⟨by rfl, fun u _ => ?_⟩) ?_
  · go_simp
  try simp only [Act.put, List.setIfInBounds_toArray, List.set_cons_zero, List.set_cons_succ]
  refine wpAnyL_pureD (i := 10) 18 (.int .i64 (z + c)) rfl rfl (by kernel_rfl) (by kernel_rfl) (by kernel_rfl) (fun _ _ _ h => h) (Or.inl ⟨by rfl, fun u _ => ?_⟩) ?_
  · go_simp
  try simp only [Act.put, List.setIfInBounds_toArray, List.set_cons_zero, List.set_cons_succ]
  refine wpAnyL_one (i := 11) (by kernel_rfl) rfl (fun K hK => ?_)
  go_simp
  refine hK.out _ _ (fun _ _ => hl1) ?_
  clear hK K
  try simp only [Act.put, List.setIfInBounds_toArray, List.set_cons_zero, List.set_cons_succ]
  refine wpAnyL_one (i := 12) (by kernel_rfl) rfl (fun K hK => ?_)
  go_simp
  refine hK.out _ _ (fun _ h => h) ?_
  clear hK K
  try simp only [Act.put, List.setIfInBounds_toArray, List.set_cons_zero, List.set_cons_succ]
  refine wpAnyL_one (i := 13) (by kernel_rfl) rfl (fun K hK => ?_)
  go_simp
  refine hK.out _ _ (fun h => absurd (by decide) h) ?_
  clear hK K
  refine wpAnyL_done (by kernel_rfl) ?_ _
  go_wp2
  go_end0
  exact ⟨rfl, HEND.out⟩
end Go.Proofs.Ytgfbihdnjidodaa
