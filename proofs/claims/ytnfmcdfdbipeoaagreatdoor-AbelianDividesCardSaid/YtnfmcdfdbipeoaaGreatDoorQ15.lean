/- Walks of the functions on texts: reading. -/
import Derived.RangeFuncNested
import Derived.Test.YtnfmcdfdbipeoaaGreatDoorQ11
import Derived.Test.YtnfmcdfdbipeoaaGreatDoorQ12
namespace Go.Proofs.YtnfmcdfdbipeoaaGreatDoor
open Go.RowKit Go.Shelf Go.Proofs.Num
attribute [local go_sem] Oper.semAt_some

theorem hasPrefix_itoa (z : Int) : Lib.hasPrefix (Lib.itoa z) [45] = decide (z < 0) := by
  rw [hasPrefix_one]
  unfold Lib.itoa
  by_cases h : z < 0
  · rw [if_pos h]; simp [h]
  · rw [if_neg h]
    obtain ⟨_, h2, h3, _⟩ := decDigits_facts z.toNat
    cases hl : Lib.decDigits z.toNat with
    | nil => exact absurd hl h3
    | cons x xs =>
      have := h2 x (by rw [hl]; simp)
      simp only [List.head?_cons, h, decide_false, beq_eq_false_iff_ne, ne_eq, Option.some.injEq]
      rintro rfl
      simp [isDig] at this

/-- A turn of a block that is no cells turns no slice. -/
theorem Rd.grown {q : IntKind} {T : TypeId} {w w' : World} {v : Value} {l : List Nat} {D : Nat} (h : Rd q T w v l) (hg : w.grownBy w' (some D)) (hD : w.heap[D]? = some (.deferred (some []))) : Rd q T w' v l := by
  rcases h with h | ⟨b, off, cap, rfl, h⟩
  · exact .inl h
  · obtain ⟨cur, fr, ht⟩ := h.ty
    have hbD : b ≠ D := by rintro rfl; rw [ht] at hD; cases hD
    have hb := hg.block b h.lt (fun e => hbD (by cases e; rfl))
    refine .inr ⟨b, off, cap, rfl, h.fits, Nat.lt_of_lt_of_le h.lt hg.size, ⟨cur, fr, hb.trans ht⟩, fun k hk => ?_⟩
    exact (World.cell?_of_block (w := w) (a := ⟨b, off + k, none⟩) hb).trans (h.cell k hk)

set_option maxRecDepth 100000 in
set_option maxHeartbeats 4000000 in
/-- read: a canonical text that is not too long. -/
theorem read_ok (s : ByteArray) (z : Int) (hz : s.data.toList = Lib.itoa z) (hn : Lib.nDigits z.natAbs ≤ 1024) (w : World) :
    CallsIn Fence.wide 3 Tryz.prog 96 #[.string s] w fun e w' => ∃ v, e = .returned (.tuple #[v, .int .i64 0]) ∧ Nm w' v z ∧ Below w.heap.size w w' := by
  obtain ⟨i0, hi, hz0, hz1, hz2⟩ := info_parts info102
  have hs : s.size ≤ 2000 := by
    rw [← size_toList, hz]
    have hb := itoa_body z
    have hl := Lib.decDigits_length z.natAbs
    unfold Lib.itoa
    split
    · rw [List.length_cons, hl]; omega
    · rw [show z.toNat = z.natAbs by omega, hl]; omega
  have hchk : chk s.data.toList = 0 := by rw [hz, chk_itoa, if_neg (by omega)]
  obtain ⟨d, hd⟩ : ∃ d : ByteArray, d = ⟨(Lib.decDigits z.natAbs).toArray⟩ := ⟨_, rfl⟩
  have hdl : d.data.toList = Lib.decDigits z.natAbs := by rw [hd]
  obtain ⟨f1, f2, f3, _⟩ := decDigits_facts z.natAbs
  have hdd : ∀ c ∈ d.data.toList, isDig c = true := by rw [hdl]; exact f2
  have hds : d.size ≤ 1024 := by rw [← size_toList, hdl, Lib.decDigits_length]; exact hn
  have HCUT : Hid (∀ e : Ending, e = .returned (.tuple #[.string ⟨(Lib.trimPrefix s.data.toList [45]).toArray⟩, .bool (Lib.hasPrefix s.data.toList [45])]) → e = .returned (.tuple #[.string d, .bool (decide (z < 0))])) := by
    intro e he
    rw [he, hz, hasPrefix_itoa, hd, show Lib.trimPrefix (Lib.itoa z) [45] = Lib.decDigits z.natAbs from itoa_body z]
  have HCHK := Lib.hid hchk
  have HDL := Lib.hid hdl
  have HDD := Lib.hid hdd
  generalize hb : decide (z < 0) = b at HCUT
  have HB := Lib.hid hb
  have HZ := Lib.hid hz
  have HV : Hid (dv d.data.toList = z.natAbs) := by rw [hdl]; exact f1
  clear hchk hd hdl hdd f1 f2 f3 hz hb
  refine callsIn_of_wp_marks Tryz.func96 rfl trivial ?_ rfl
  simp only [Tryz.ntmps96, List.size_toArray, List.length_cons, List.length_nil, Nat.reduceAdd, Nat.reduceSub, Array.replicate_succ, Array.replicate_zero, List.push_toArray, List.append_toArray, List.nil_append, List.cons_append]
  gi_wp2_with fail
  refine ⟨trivial, ?_⟩
  refine (callsIn_wide.2 (check_any s _ (by omega))).mono ?_
  rintro e w' ⟨he, rfl⟩
  rw [HCHK.out] at he
  subst he
  gi_wp2_with fail
  refine ⟨trivial, ?_⟩
  refine (callsIn_wide.2 (Tryz.strings_CutPrefix s ⟨#[45]⟩ _)).mono ?_
  rintro e w' ⟨he, rfl⟩
  have he2 := HCUT.out e he
  clear he
  subst he2
  gi_wp2_with (gi_at_make; refine wpListIn_make_own _ rfl _ _ 102 rfl (w.heap.size + 1) 135 i0 (.int .u64 0) 1 Tryz.underlying102 hi hz0 hz1 _ _ _ (d.size / 9 + 1) rfl rfl (by omega) ?b2 ?b3 (by simp) ?_)
  case b2 => rw [hz2]; omega
  case b3 => unfold maxLen; omega
  intro w0 hown0 hgrow0
  gi_wp2_with fail
  refine ⟨trivial, ?_⟩
  refine (groups_in 2 d _).mono ?_
  rintro e w' ⟨rfl, rfl⟩
  obtain ⟨Bz, hBz⟩ : ∃ Bz, Bz = w0.heap.size := ⟨_, rfl⟩
  have hsz0 : w.heap.size + 1 ≤ w0.heap.size := by have := hgrow0.size; rwa [World.size_alloc] at this
  have bZ := (Boxed.new w0 102 (.slice (some ⟨w.heap.size + 1, 0, none⟩) 0 (d.size / 9 + 1))).alloc (.cells #[.string d] 9)
  have bS := Boxed.new (w0.alloc (.cells #[.slice (some ⟨w.heap.size + 1, 0, none⟩) 0 (d.size / 9 + 1)] 102)) 9 (.string d)
  rw [World.size_alloc] at bS
  have hrow0 := (hown0.alloc (.cells #[.slice (some ⟨w.heap.size + 1, 0, none⟩) 0 (d.size / 9 + 1)] 102)).alloc (.cells #[.string d] 9)
  have hBR : Below (w.heap.size + 1) (w.alloc (.cells #[.bool false, .slice none 0 0] 104)) ((w0.alloc (.cells #[.slice (some ⟨w.heap.size + 1, 0, none⟩) 0 (d.size / 9 + 1)] 102)).alloc (.cells #[.string d] 9)) :=
    (((Below.refl _ _).grown hgrow0 (by simp) (fun k h => by cases h)).alloc hsz0 _).alloc (by simp; omega) _
  have hgn : gn d.data.toList ≤ 114 + 1 := by unfold gn; rw [size_toList]; omega
  gi_wp2_with fail
  refine wpIn_rangeFunc_ownG rfl (by omega) (gf := 150) (lb := #[.pointer (some ⟨w0.heap.size + 1, 0, none⟩)]) rfl trivial (enters_of Tryz.func150 (by kernel_rfl) rfl)
    (groups_stops 2 (by omega) (w0.heap.size + 1) (w.heap.size + 1) d (by omega) HDD.out _ (by simp) bS.cell) KpS.t (KpS.b (by simp; omega) (by simp)) (Below.refl _ _) (fun _ => rfl)
    (fun pre W => (∃ v, Boxed W w0.heap.size 102 v ∧ W.ownsRow (w.heap.size + 1) 135 1 v pre.length (cellsOf .u64 pre) ∧ True) ∧ Boxed W (w0.heap.size + 1) 9 (.string d) ∧ Below (w.heap.size + 1) (w.alloc (.cells #[.bool false, .slice none 0 0] 104)) W)
    (fun _ _ _ => False)
    (OwnFrom.and (Own.from (holdsRow_own (w.heap.size + 1) w0.heap.size 102 135 1 (fun pre : List Nat => pre.length) (fun pre => cellsOf .u64 pre) (fun _ _ => True)) _) (OwnFrom.and (Own.from (boxed_own _ _ _) _) (ownFrom_below (by simp) (by simp; omega))))
    (fun _ _ _ _ _ hs _ _ => hs)
    ⟨⟨_, bZ, hrow0, trivial⟩, bS, hBR⟩
    (fun x => { tmps := #[.string s, undef, .pointer (some ⟨w.heap.size, 0, none⟩), .int .i64 0, .int .i64 0, .string d, .bool b, .pointer (some ⟨w0.heap.size, 0, none⟩),
        .int .u64 ((x : Nat) : Int), .string s, .int .i64 0, .int .i64 0, .bool false, undef, undef, .tuple #[.string d, .bool b], .string s, .tuple #[.string d, .bool b],
        .string d, .bool b, .string d, .int .i64 d.size, .int .i64 (d.size / 9), .int .i64 (d.size / 9 + 1), .slice (some ⟨w.heap.size + 1, 0, none⟩) 0 (d.size / 9 + 1), .string d,
        .func (.func 150) #[] #[.pointer (some ⟨w0.heap.size + 1, 0, none⟩)], .int .u64 ((x : Nat) : Int), undef, undef, undef, undef, undef, undef, undef, undef], defers := [] }) ?assign ?body ?done ?stop
  case assign =>
    intro l x W K hK
    gi_wp2
    exact hK
  case body =>
    rintro l pre x W ⟨⟨v, hv, hrow, -⟩, hbs, hB⟩ hlt
    have hc := hv.cell
    gi_wp2_with (gi_at_builtin; refine wpListIn_append_own _ rfl _ _ 102 rfl (w.heap.size + 1) 135 i0 (.int .u64 0) 1 8 Tryz.underlying102 hi hz0 hz1 hz2 rfl (by decide) _ _ _ rfl (hrow.alloc _) ⟨W.heap.size, 0, none⟩ 1 1 [.int .u64 ((x : Nat) : Int)] rfl rfl (cell_one_new _ _ _) (by simp [Value.oneCell']) (by unfold maxLen; omega) (by omega) (by have := hB.size; simp at this ⊢; omega) ?_; intro v' w1 hown' hgrow _; obtain ⟨g', cap', rfl⟩ := ownsRow_succ hown'; obtain ⟨hv1, hv2, hr2, hk2, hb2⟩ := hv.appended (by decide) hrow (by have := hB.size; simp at this; omega) hsz0 hown' hgrow; have hbs1 := (hbs.alloc (.cells #[.int .u64 ((x : Nat) : Int)] 135)).kept hgrow (hbs.not_row (by decide) hrow); have hc1 := hv1.cell; have hf1 := hv1.frozen)
    have hbs2 := hbs1.other (B' := w0.heap.size) (by omega) (.slice (some ⟨g', 0, none⟩) (pre.length + 1) cap')
    exact ⟨hk2.from _, ⟨hb2, fun _ => hbs2.cell⟩, ⟨_, hv2, by rw [cellsOf_append, List.length_append]; exact hr2, trivial⟩, hbs2, hB.trans hb2⟩
  case done =>
    rintro D ys W hD rfl ⟨⟨v, hv, hrow, -⟩, hbs, hB⟩ hK
    have hc := hv.cell
    rw [gs_length] at hrow
    have hrd : Rd .u64 135 W v (gs d.data.toList (gn d.data.toList)) := Rd.of_own (base := w.heap.size + 1) (by rw [gs_length]; exact hrow)
    have hgl := gk_lt d.data.toList HDD.out
    have hR : Box 104 W w.heap.size (.bool false) (.slice none 0 0) := (hB.block w.heap.size (by omega)).trans (Box.new 104 w _ _)
    have HR := Lib.hid hR
    have r0 := hR.c0; have r1 := hR.c1; have r2 := hR.f0 0; have r3 := hR.f0 1; have r4 := hR.lt
    obtain ⟨a', k', cap', rfl⟩ := Rd.sh hrd
    clear hR
    gi_wp2_with fail
    refine ⟨trivial, ?_⟩
    refine (callsIn_wide.2 (trim_any _ _ _ hrd (fun x hx => by unfold gs at hx; obtain ⟨j, _, rfl⟩ := List.mem_map.1 hx; exact hgl j) (by rw [gs_length]; omega))).mono ?_
    rintro e w' ⟨v', rfl, hw, rfl⟩
    obtain ⟨a2, k2, cap2, rfl⟩ := Rd.sh hw
    rw [gs_all, HV.out] at hw
    have hK2 : (((W.setCell ⟨w.heap.size, 0, none⟩ (.bool b)).setCell ⟨w.heap.size, 1, none⟩ (.slice a2 k2 cap2))).heap[D]? = some (.deferred (some [])) := by
      exact ((KeepsOthers.setCell W ⟨w.heap.size, 0, none⟩ (.bool b)).trans (KeepsOthers.setCell _ ⟨w.heap.size, 1, none⟩ (.slice a2 k2 cap2))).same D _ hK rfl
    have hBX : Box 104 ((W.setCell ⟨w.heap.size, 0, none⟩ (.bool b)).setCell ⟨w.heap.size, 1, none⟩ (.slice a2 k2 cap2)) w.heap.size (.bool b) (.slice a2 k2 cap2) := (HR.out.set0 _).set1 _
    have hWX : Wd ((W.setCell ⟨w.heap.size, 0, none⟩ (.bool b)).setCell ⟨w.heap.size, 1, none⟩ (.slice a2 k2 cap2)) (.slice a2 k2 cap2) z.natAbs := Rd.stores hw HR.out (by decide) _ _
    have hBlX : Below w.heap.size w ((W.setCell ⟨w.heap.size, 0, none⟩ (.bool b)).setCell ⟨w.heap.size, 1, none⟩ (.slice a2 k2 cap2)) :=
      (((below1 w _).trans (hB.mono (by omega))).setCell (by simp) _).setCell (by simp) _
    have HBX := Lib.hid hBX
    have HWX := Lib.hid hWX
    have HBLX := Lib.hid hBlX
    clear hBX hWX hBlX hw
    gi_wp2
    generalize (W.setCell ⟨w.heap.size, 0, none⟩ (.bool b)).setCell ⟨w.heap.size, 1, none⟩ (.slice a2 k2 cap2) = X at *
    refine ⟨by simp, .inl ⟨_, _, rfl, run_takeDeferred hK2, ?_⟩⟩
    have hg := grownBy_putObj' X D (.deferred none)
    have hDne : w.heap.size ≠ D := by simp at hD; omega
    have hbY : Box 104 (X.putObj D (.deferred none)) w.heap.size (.bool b) (.slice a2 k2 cap2) := (hg.block _ HBX.out.lt (fun e => hDne (by cases e; rfl))).trans HBX.out
    have y0 := hbY.c0; have y1 := hbY.c1
    refine ⟨.tuple #[.agg #[.bool b, .slice a2 k2 cap2], .int .i64 0], by simp [results, Tryz.results96, go_sem, y0, y1], _, rfl, ?_, ?_⟩
    · exact Nm.mk' HB.out.symm (Rd.grown HWX.out hg hK2)
    · exact HBLX.out.grown hg HBLX.out.size (fun k e => by cases e; simp at hD; omega)
  case stop =>
    rintro D c pre W _ _ h _
    exact h.elim
end Go.Proofs.YtnfmcdfdbipeoaaGreatDoor
