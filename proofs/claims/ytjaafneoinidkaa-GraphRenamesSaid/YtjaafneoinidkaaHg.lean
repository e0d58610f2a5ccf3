/- Adding to a collection. -/
import Derived.Test.YtjaafneoinidkaaHc
import Derived.Test.YtjaafneoinidkaaHf
import Derived.Test.YtjaafneoinidkaaLateD
namespace Go.Proofs.Ytjaafneoinidkaa
open Go.RowKit Go.Shelf Go.Proofs.Gr Go.Maps
attribute [local go_sem] Oper.semAt_some

theorem zeroInt (w : World) : (zeroValue 3).run Try.prog w = .ok (.int .i64 0) w := by kernel_rfl
theorem mnP_w {x y : Int} (hx : W64 x) (hy : W64 y) : W64 (mnP (x, y)) := by unfold mnP; split <;> assumption
theorem mxP_w {x y : Int} (hx : W64 x) (hy : W64 y) : W64 (mxP (x, y)) := by unfold mxP; split <;> assumption
set_option maxHeartbeats 12800000 in
set_option maxRecDepth 100000 in
theorem padd_any (b m : Nat) (hm : m < 1000000) (A : List ((Int × Int) × Int)) (hA : ∀ x ∈ A, 1 ≤ x.2) (x y c : Int) (hx : W64 x) (hy : W64 y) (hc : 1 ≤ c) (hbd : accF A (mnP (x, y), mxP (x, y)) + c ≤ 9223372036854775807) (w : World) (h : Coll w b m (accF A)) :
    Calls Try.prog 59 #[.map (some b), .int .i64 x, .int .i64 y, .int .i64 c] w (fun e w' => e = .returned (.tuple #[]) ∧ Coll w' b (m + 1) (accF (A ++ [((mnP (x, y), mxP (x, y)), c)])) ∧ w.grownBy w' (some b)) := by
  obtain ⟨D, ho, hs⟩ := h
  obtain ⟨p, hp⟩ : ∃ p, p = (mnP (x, y), mxP (x, y)) := ⟨_, rfl⟩
  rw [← hp] at hbd
  have hp1 : W64 p.1 := by rw [hp]; exact mnP_w hx hy
  have hp2 : W64 p.2 := by rw [hp]; exact mxP_w hx hy
  have h0 := accF_nonneg A hA p
  obtain ⟨c0, v0, st, w1, hat, hwc, hl, hme, hl1, hst⟩ := entry_laws (w := w.drew) lawK0 Try.underlying77 Try.underlying3 zeroInt ho.drew (by unfold maxLen; omega) (key_pv p hp1 hp2)
  rw [(hs p hp1 hp2).2] at hat
  obtain rfl : accF A p = c0 := by injection hat with hat; injection hat
  obtain ⟨w2, hst1, hst2, hst3⟩ := hst (accF A p + c) (w64_of (by omega) (by omega))
  have HEND : Hid (Coll w2 b (m + 1) (accF (A ++ [((mnP (x, y), mxP (x, y)), c)])) ∧ w.grownBy w2 (some b)) := Lib.hid (by
    refine ⟨⟨_, hst2, ?_⟩, ⟨hst3.os, hst3.tape, hst3.output, hst3.size, hst3.block⟩⟩
    rw [← hp]
    have h9 := hs.put ho.isMap hp1 hp2 (accF A p + c) (by omega)
    rw [show accF (A ++ [(p, c)]) = fun q => if q = p then accF A p + c else accF A q from funext fun q => by
      rw [accF_snoc]
      by_cases e : q = p
      · subst e; rw [if_pos rfl, if_pos rfl]
      · rw [if_neg (fun e' => e e'.symm), if_neg e]; omega]
    exact h9)
  have hmn : (if y < x then y else x) = p.1 := by rw [hp]; rfl
  have hmx : (if x < y then y else x) = p.2 := by rw [hp]; rfl
  have hwr : IntKind.i64.wrap (accF A p + c) = accF A p + c := by simp [IntKind.wrap, IntKind.bits, IntKind.signed]; omega
  generalize accF (A ++ [((mnP (x, y), mxP (x, y)), c)]) = F' at *
  generalize accF A p = z at *
  clear hst hst2 hst3 hs ho hat hbd h0 hp hp1 hp2 hA hwc hm hx hy hc
  obtain ⟨p1, p2⟩ := p
  unfold pv at *
  simp only at hmn hmx hl hme hl1
  have hme' : (Instr.mapEntry 77 (.map (some b)) (.agg #[.int .i64 p1, .int .i64 p2])).run Try.prog w.drew = .ok (.tuple #[v0, .int .i64 (st : Int)]) w1 := hme
  have hst1' : (Instr.entryStore 77 (.map (some b)) (.int .i64 (st : Int)) (.int .i64 (z + c))).run Try.prog w1 = .ok () w2 := hst1
  clear hme hst1
  have hSd : (Instr.lookup 77 (.map (some b)) (.agg #[.int .i64 p1, .int .i64 p2]) false).run Try.prog w.drew = .ok (.int .i64 z) w.drew := hl
  go_enter Try.func59, Try.ntmps59
  refine wp_region_late (S := fun u => (Instr.lookup 77 (.map (some b)) (.agg #[.int .i64 p1, .int .i64 p2]) false).run Try.prog u = .ok (.int .i64 z) u) (X := [13]) (by kernel_rfl) ?_
  refine wpAnyL_pureD (i := 0) 8 (.map (some b)) rfl rfl (by kernel_rfl) (by kernel_rfl) (by kernel_rfl) (fun _ _ _ h => h) (Or.inl ⟨by rfl, fun u _ => ?_⟩) ?_
  · go_simp
  try simp only [Act.put, List.setIfInBounds_toArray, List.set_cons_zero, List.set_cons_succ]
  refine wpAnyL_pureD (i := 1) 9 (.int .i64 x) rfl rfl (by kernel_rfl) (by kernel_rfl) (by kernel_rfl) (fun _ _ _ h => h) (Or.inl ⟨by rfl, fun u _ => ?_⟩) ?_
  · go_simp
  try simp only [Act.put, List.setIfInBounds_toArray, List.set_cons_zero, List.set_cons_succ]
  refine wpAnyL_pureD (i := 2) 10 (.int .i64 y) rfl rfl (by kernel_rfl) (by kernel_rfl) (by kernel_rfl) (fun _ _ _ h => h) (Or.inl ⟨by rfl, fun u _ => ?_⟩) ?_
  · go_simp
  try simp only [Act.put, List.setIfInBounds_toArray, List.set_cons_zero, List.set_cons_succ]
  refine wpAnyL_pureD (i := 3) 11 (.int .i64 p1) rfl rfl (by kernel_rfl) (by kernel_rfl) (by kernel_rfl) (fun _ _ _ h => h) (Or.inl ⟨by rfl, fun u _ => ?_⟩) ?_
  · go_simp
  try simp only [Act.put, List.setIfInBounds_toArray, List.set_cons_zero, List.set_cons_succ]
  refine wpAnyL_pureD (i := 4) 12 (.int .i64 x) rfl rfl (by kernel_rfl) (by kernel_rfl) (by kernel_rfl) (fun _ _ _ h => h) (Or.inl ⟨by rfl, fun u _ => ?_⟩) ?_
  · go_simp
  try simp only [Act.put, List.setIfInBounds_toArray, List.set_cons_zero, List.set_cons_succ]
  refine wpAnyL_pureD (i := 5) 13 (.int .i64 y) rfl rfl (by kernel_rfl) (by kernel_rfl) (by kernel_rfl) (fun _ _ _ h => h) (Or.inl ⟨by rfl, fun u _ => ?_⟩) ?_
  · go_simp
  try simp only [Act.put, List.setIfInBounds_toArray, List.set_cons_zero, List.set_cons_succ]
  refine wpAnyL_pureD (i := 6) 14 (.int .i64 p2) rfl rfl (by kernel_rfl) (by kernel_rfl) (by kernel_rfl) (fun _ _ _ h => h) (Or.inl ⟨by rfl, fun u _ => ?_⟩) ?_
  · go_simp
  try simp only [Act.put, List.setIfInBounds_toArray, List.set_cons_zero, List.set_cons_succ]
  refine wpAnyL_pureD (i := 7) 15 (.agg #[.int .i64 p1, .int .i64 p2]) rfl rfl (by kernel_rfl) (by kernel_rfl) (by kernel_rfl) (fun _ _ _ h => h) (Or.inl ⟨by rfl, fun u _ => ?_⟩) ?_
  · go_simp
  try simp only [Act.put, List.setIfInBounds_toArray, List.set_cons_zero, List.set_cons_succ]
  refine wpAnyL_takeD (i := 8) 16 (.int .i64 z) rfl rfl (by kernel_rfl) (by kernel_rfl) (by kernel_rfl) (by kernel_rfl) (by kernel_rfl) (fun _ _ _ h => h) hSd (Or.inl ⟨by rfl, fun u hu => ?_⟩) ?_
  · go_simp
  try simp only [Act.put, List.setIfInBounds_toArray, List.set_cons_zero, List.set_cons_succ]
  refine wpAnyL_pureD (i := 9) 17 (.int .i64 c) rfl rfl (by kernel_rfl) (by kernel_rfl) (by kernel_rfl) (fun _ _ _ h => h) (Or.inl ⟨by rfl, fun u _ => ?_⟩) ?_
  · go_simp
  try simp only [Act.put, List.setIfInBounds_toArray, List.set_cons_zero, List.set_cons_succ]
  refine wpAnyL_pureD (i := 10) 18 (.int .i64 (z + c)) rfl rfl (by kernel_rfl) (by kernel_rfl) (by kernel_rfl) (fun _ _ _ h => h) (Or.inl ⟨by rfl, fun u _ => ?_⟩) ?_
  · go_simp
  try simp only [Act.put, List.setIfInBounds_toArray, List.set_cons_zero, List.set_cons_succ]
  refine wpAnyL_one (i := 11) (by kernel_rfl) rfl (fun K hK => ?_)
  go_simp
  refine hK.out _ _ (fun _ _ => hl1) ?_
  clear hK K
  try simp only [Act.put, List.setIfInBounds_toArray, List.set_cons_zero, List.set_cons_succ]
  refine wpAnyL_one (i := 12) (by kernel_rfl) rfl (fun K hK => ?_)
  go_simp
  refine hK.out _ _ (fun _ h => h) ?_
  clear hK K
  try simp only [Act.put, List.setIfInBounds_toArray, List.set_cons_zero, List.set_cons_succ]
  refine wpAnyL_one (i := 13) (by kernel_rfl) rfl (fun K hK => ?_)
  go_simp
  refine hK.out _ _ (fun h => absurd (by decide) h) ?_
  clear hK K
  refine wpAnyL_done (by kernel_rfl) ?_ _
  go_wp2
  go_end0
  exact ⟨rfl, HEND.out⟩
end Go.Proofs.Ytjaafneoinidkaa
