/- Cut of the program. -/
import Derived.Test.YtjaafneoinidkaaGp
namespace Go.Proofs.Ytjaafneoinidkaa
open Go.RowKit Go.Shelf Go.Proofs.Gr
attribute [local go_sem] Oper.semAt_some

theorem Blk.set_ {w : World} {g : Nat} {t : TypeId} {cs : Array Value} (h : Blk w g t cs) (i : Nat) (u : Value) : Blk (w.setCell ⟨g, i, none⟩ u) g t (cs.setIfInBounds i u) := by
  unfold Blk at *
  obtain ⟨hlt, hk⟩ := Array.getElem?_eq_some_iff.1 h
  show (w.heap.modify g _)[g]? = _
  rw [Array.getElem?_eq_getElem (by rw [Array.size_modify]; exact hlt), Array.getElem_modify_self, hk]
  rfl
/-- The table of a set. -/
def inA (S : List Int) : Array Value := ((List.range 12).map fun v : Nat => Value.bool (S.contains (v : Int))).toArray
theorem inA_at (S : List Int) (v : Nat) (h : v < 12) : (inA S)[v]? = some (.bool (S.contains (v : Int))) := by
  unfold inA
  rw [List.getElem?_toArray, List.getElem?_map, List.getElem?_range h]; rfl
theorem inA_set (S : List Int) (m : Nat) : (inA S).setIfInBounds m (.bool true) = inA (S ++ [(m : Int)]) := by
  unfold inA
  rw [List.setIfInBounds_toArray]
  congr 1
  refine List.ext_getElem (by simp) fun j h1 h2 => ?_
  rw [List.getElem_set]
  simp only [List.getElem_map, List.getElem_range]
  by_cases e : m = j
  · subst e; simp
  · rw [if_neg e]
    congr 1
    have : ¬ ((j : Int) = (m : Int)) := by omega
    simp [this]
theorem inA_nil : inA [] = Array.replicate 12 (.bool false) := by kernel_rfl
/-- The numbers of the single edges that lead out of a set. -/
def cutS (S : List Int) (pre : List SE) : List Int := pre.filterMap fun x => if outB S x.1.2 then some (x.1.1 : Int) else none
theorem cutS_snoc (S : List Int) (pre : List SE) (x : SE) : cutS S (pre ++ [x]) = cutS S pre ++ (if outB S x.1.2 then [(x.1.1 : Int)] else []) := by
  unfold cutS
  rw [List.filterMap_append]
  congr 1
  cases h : outB S x.1.2 <;> simp [h]
theorem cutS_le (S : List Int) (pre : List SE) : (cutS S pre).length ≤ pre.length := List.length_filterMap_le _ _
theorem cutS_all (S : List Int) (P : List (Int × Int)) (ys : List SE) (h : ys.map Subtype.val = sg P P.length) : cutS S ys = cutI (fun e => outB S (pAt P e)) P.length := by
  have h1 : cutS S ys = (ys.map Subtype.val).filterMap fun x => if outB S x.2 then some (x.1 : Int) else none := by
    unfold cutS; rw [List.filterMap_map]; rfl
  rw [h1, h]
  generalize P.length = n
  induction n with
  | zero => rfl
  | succ n ih =>
    rw [sg_succ, List.filterMap_append, ih, cutI]
    congr 1
    cases h : outB S (pAt P n) <;> simp [h]

theorem subE_at {n : Int} {S : List Int} (h : subE n S = 0) (i : Nat) (hi : i < S.length) : 0 ≤ iAt S i ∧ iAt S i < n := by
  have h1 := firstE_all h i hi
  unfold sErr at h1
  by_cases h2 : isV n (iAt S i) = false
  · rw [if_pos h2] at h1; omega
  · simpa [isV] using h2
set_option maxRecDepth 100000 in
set_option maxHeartbeats 16000000 in
theorem pcut_ok (nv : Int) (a : Option Addr) (cap : Nat) (L : List E) (hL : L.length ≤ 100000) (b : Option Addr) (c : Nat) (S : List Int) (hS : S.length ≤ 100000) (h0 : chkS nv L S = 0) (w : World) (h : EsAt w a L) (hv : IsAt w b S) :
    CallsIn Fence.wide 3 Try.prog 37 #[gv nv a L.length cap, .slice b S.length c] w (GivesIE w (cutG L S) 0) := by
  obtain ⟨i0, hi0, hz0, hz1, hz2⟩ := info_parts infoI
  have HC := Lib.hid (fun w h hv => psubset_any nv a cap L hL b c S hS w h hv)
  rw [h0] at HC
  have hg0 : chkG nv L = 0 := by
    unfold chkS at h0
    by_cases e : chkG nv L = 0
    · exact e
    · rw [if_pos e] at h0; exact absurd h0 e
  have hs0 : subE nv S = 0 := by
    unfold chkS at h0
    rw [if_neg (by rw [hg0]; simp)] at h0; exact h0
  have HSR : Hid (∀ i, i < S.length → 0 ≤ iAt S i ∧ iAt S i < 12) := Lib.hid fun i hi => by
    have := subE_at hs0 i hi
    have := (right_of hg0).hi
    omega
  have HM := Lib.hid (right_of hg0)
  have HLN : Hid ((endsG L).length ≤ 5000000) := Lib.hid (by have := ends_all (right_of hg0); omega)
  have HCG : Hid (cutG L S = cutI (fun e => outB S (pAt (endsG L) e)) (endsG L).length) := Lib.hid rfl
  obtain ⟨W, hW⟩ : ∃ W, W = w.alloc (Obj.cells #[.int .i64 nv, .slice a L.length cap] 24) := ⟨_, rfl⟩
  have hB0 : Below w.heap.size w W := by rw [hW]; exact (Below.refl _ w).alloc (Nat.le_refl _) _
  have hG : Blk W w.heap.size 24 #[.int .i64 nv, .slice a L.length cap] := by rw [hW]; exact Blk.new _ _ _
  have HW := Lib.hid hW
  have HB0 := Lib.hid hB0
  have HG := Lib.hid hG
  have HE := Lib.hid (h.keep hB0)
  have HVs := Lib.hid (hv.keep hB0)
  unfold GivesIE
  unfold GivesN gv at *
  clear h hv hB0 hG hW h0 hg0 hs0
  refine callsIn_of_wp_marks Try.func37 rfl trivial ?_ rfl
  simp only [Try.ntmps37, List.size_toArray, List.length_cons, List.length_nil, Nat.reduceAdd, Nat.reduceSub, Array.replicate_succ, Array.replicate_zero, List.push_toArray, List.append_toArray, List.nil_append, List.cons_append]
  gi_wp2_with fail
  rw [← HW.out]
  refine ⟨trivial, ?_⟩
  refine (callsIn_wide.2 (HC.out _ HE.out HVs.out)).mono ?_
  rintro e w1 ⟨rfl, hb⟩
  have HB1 := Lib.hid (HB0.out.trans (hb.mono HB0.out.size))
  have HE1 := Lib.hid (HE.out.keep hb)
  have HV1 := Lib.hid (HVs.out.keep hb)
  have HG1 := Lib.hid (HG.out.below hb HG.out.lt)
  have HT0 : Hid (Blk (w1.alloc (Obj.cells (Array.replicate 12 (.bool false)) 86)) w1.heap.size 86 (inA [])) := Lib.hid (by rw [inA_nil]; exact Blk.new _ _ _)
  clear hb
  gi_wp2
  gi_loopw [21] (fun v wr => ∃ i : Nat, i ≤ S.length ∧ v = .int .i64 i ∧ Blk wr w1.heap.size 86 (inA (S.take i)) ∧ Below w1.heap.size w1 wr) (fun v _ => S.length - (intOf v).toNat)
  case atStart => exact ⟨0, by omega, rfl, HT0.out, (Below.refl _ _).alloc (Nat.le_refl _) _⟩
  case round =>
    obtain ⟨i, hi, rfl, hT, hb⟩ := hrel
    by_cases hlt : i < S.length
    · obtain ⟨b1, o1, hbb, q1, x1⟩ := (HV1.out.keep hb).one i hlt
      subst hbb
      have hsr := HSR.out i hlt
      have HTK : Hid (S.take (i + 1) = S.take i ++ [iAt S i]) := Lib.hid (by rw [List.take_succ_eq_append_getElem hlt, iAt_get])
      generalize iAt S i = z at *
      obtain ⟨m, rfl⟩ : ∃ m : Nat, z = m := ⟨z.toNat, by omega⟩
      have hm : m < 12 := by omega
      have y1 : wr.cell? ⟨w1.heap.size, m, none⟩ = some (.bool ((S.take i).contains (m : Int))) := (hT.cell m).trans (inA_at _ m hm)
      have y2 : wr.frozen? ⟨w1.heap.size, m, none⟩ = false := hT.frozen m
      have i1 : (i : Int) < ((S.length : Nat) : Int) := by omega
      have i2 : (0 : Int) ≤ (m : Int) := by omega
      have i3 : (m : Int) < 12 := by omega
      have HN : Hid (Blk (wr.setCell ⟨w1.heap.size, m, none⟩ (.bool true)) w1.heap.size 86 (inA (S.take (i + 1)))) := Lib.hid (by rw [HTK.out, ← inA_set]; exact hT.set_ m _)
      have HB2 : Hid (Below w1.heap.size w1 (wr.setCell ⟨w1.heap.size, m, none⟩ (.bool true))) := Lib.hid (hb.setCell (p := ⟨w1.heap.size, m, none⟩) (Nat.le_refl _) _)
      clear hT hb hsr
      gi_wp2
      go_roundw
      case rel => exact ⟨i + 1, by omega, by go_num, HN.out, HB2.out⟩
      case measure => simp [intOf]; omega
    · obtain rfl : i = S.length := by omega
      rw [List.take_length] at hT
      have HT := Lib.hid hT
      have HB2 := Lib.hid hb
      have hG2 : Blk (wr.alloc (Obj.cells #[.slice none 0 0] 46)) w.heap.size 24 #[.int .i64 nv, .slice a L.length cap] := (HG1.out.below hb HG1.out.lt).alloc _
      have g2' : (wr.alloc (Obj.cells #[.slice none 0 0] 46)).cell? ⟨w.heap.size, 0, none⟩ = some (.int .i64 nv) := hG2.cell 0
      have g3' : (wr.alloc (Obj.cells #[.slice none 0 0] 46)).cell? ⟨w.heap.size, 1, none⟩ = some (.slice a L.length cap) := hG2.cell 1
      clear hT hb hG2
      gi_wp2_with fail
      refine ⟨trivial, ?_⟩
      refine (singles_in 2 nv a L.length cap _).mono ?_
      rintro e w' ⟨rfl, rfl⟩
      gi_wp2_with fail
      have hbW : Below wr.heap.size wr ((wr.alloc (Obj.cells #[.slice none 0 0] 46)).alloc (Obj.cells #[.int .i64 nv, .slice a L.length cap] 24)) := (((Below.refl _ wr).alloc (Nat.le_refl _) _).alloc (by simp) _)
      have bS := (Boxed.new wr 46 (.slice none 0 0)).alloc (.cells #[.int .i64 nv, .slice a L.length cap] 24)
      have bG : Blk ((wr.alloc (Obj.cells #[.slice none 0 0] 46)).alloc (Obj.cells #[.int .i64 nv, .slice a L.length cap] 24)) (wr.heap.size + 1) 24 #[.int .i64 nv, .slice a L.length cap] := by
        have h9 := Blk.new (wr.alloc (Obj.cells #[.slice none 0 0] 46)) 24 #[.int .i64 nv, .slice a L.length cap]
        rwa [World.size_alloc] at h9
      have hsz : ((wr.alloc (Obj.cells #[.slice none 0 0] 46)).alloc (Obj.cells #[.int .i64 nv, .slice a L.length cap] 24)).heap.size = wr.heap.size + 2 := by simp
      obtain ⟨W0, hW0⟩ : ∃ W0, (wr.alloc (Obj.cells #[.slice none 0 0] 46)).alloc (Obj.cells #[.int .i64 nv, .slice a L.length cap] 24) = W0 := ⟨_, rfl⟩
      rw [hW0] at hbW bS bG hsz ⊢
      clear hW0 g2' g3'
      have hown0 : W0.ownsRow wr.heap.size 3 1 (.slice none 0 0) 0 [] := World.ownsRow_nil _ _ _ _
      have HEr := Lib.hid (HE1.out.keep HB2.out)
      refine wpIn_rangeFunc_ownH rfl (by omega) (gf := 67) (lb := #[.pointer (some ⟨wr.heap.size + 1, 0, none⟩)]) rfl trivial (enters_of Try.func67 (by kernel_rfl) rfl)
        (singles_stops 2 (by omega) (wr.heap.size + 1) wr.heap.size nv a cap L hL HM.out W0 (by omega) (by omega) bG (fun x hx => HEr.out.keep (hbW.trans hx))) KpE.t (KpE.b (by omega)) (Below.refl _ _) (fun _ => rfl)
        (fun pre W => (∃ v, Boxed W wr.heap.size 46 v ∧ W.ownsRow wr.heap.size 3 1 v (cutS S pre).length (flat encI (cutS S pre)) ∧ True) ∧ Below wr.heap.size wr W)
        (fun _ _ _ => False)
        (OwnFrom.and (Own.from (holdsRow_own wr.heap.size wr.heap.size 46 3 1 (fun pre : List SE => (cutS S pre).length) (fun pre => flat encI (cutS S pre)) (fun _ _ => True)) _) (ownFrom_below (Nat.le_refl _) (by omega)))
        (fun _ _ _ _ _ hs _ _ => hs)
        ⟨⟨_, bS, hown0, trivial⟩, hbW⟩
        (fun x a' W => ∃ Bx, wr.heap.size ≤ Bx ∧ Blk W Bx 37 #[.int .i64 x.1.2.1, .int .i64 x.1.2.2] ∧ a' = { tmps := #[.agg #[.int .i64 nv, .slice a L.length cap], .slice b S.length c, .pointer (some ⟨w.heap.size, 0, none⟩), undef, .slice none 0 0, .int .i64 0, .int .i64 0, .pointer (some ⟨w1.heap.size, 0, none⟩), undef, u9, .pointer (some ⟨wr.heap.size, 0, none⟩), .int .i64 (x.1.1 : Nat), .pointer (some ⟨Bx, 0, none⟩), .agg #[.int .i64 nv, .slice a L.length cap], .slice b S.length c, .int .i64 0, .int .i64 0, .bool false, undef, .slice b S.length c, .int .i64 (S.length : Nat), .int .i64 (S.length : Nat), .bool false, u23, u24, u25, u26, u27, .agg #[.int .i64 nv, .slice a L.length cap], .func (.func 67) #[] #[.pointer (some ⟨wr.heap.size + 1, 0, none⟩)], .int .i64 (x.1.1 : Nat), .agg #[.int .i64 x.1.2.1, .int .i64 x.1.2.2], undef, undef, undef, undef, undef, undef, undef, undef, undef, undef, undef, undef, undef, undef], defers := [] })
        (fun x a' _ X Y row hs hg hr => by
          obtain ⟨Bx, h1, h2, h3⟩ := hs
          refine ⟨Bx, h1, h2.grown hg (fun e => ?_), h3⟩
          obtain ⟨-, o, ho, hc⟩ := hr Bx e.symm
          unfold Blk at h2
          rw [h2] at ho; cases ho; cases hc)
        ?assign ?body ?done ?stop
      case assign =>
        rintro l pre x W K ⟨⟨v, hv, hrow, -⟩, hB⟩ hK
        gi_wp2
        exact hK _ _ ((KeepsOthers.alloc _ _).from _) (KpE.alloc hB.size _) ⟨⟨v, hv.alloc _, hrow.alloc _, trivial⟩, hB.alloc hB.size _⟩ ⟨W.heap.size, hB.size, Blk.new W _ _, rfl⟩
      case body =>
        rintro l pre x a' W hl ⟨r, hr⟩ ⟨⟨v, hv, hrow, -⟩, hB⟩ ⟨Bx, hBx, bX, rfl⟩ hlt
        have hc := hv.cell
        have x0 : W.cell? ⟨Bx, 0, none⟩ = some (.int .i64 x.1.2.1) := bX.cell 0
        have x1 : W.cell? ⟨Bx, 1, none⟩ = some (.int .i64 x.1.2.2) := bX.cell 1
        have hcs := cutS_snoc S pre x
        have hcl := cutS_le S pre
        have hln := HLN.out
        obtain ⟨⟨xk, xa, xb⟩, hxr⟩ := x
        simp only [InR] at x0 x1 hxr
        obtain ⟨p1, rfl⟩ : ∃ p1 : Nat, xa = p1 := ⟨xa.toNat, by omega⟩
        obtain ⟨p2, rfl⟩ : ∃ p2 : Nat, xb = p2 := ⟨xb.toNat, by omega⟩
        have hTW : Blk W w1.heap.size 86 (inA S) := HT.out.below hB HT.out.lt
        have z1 : W.cell? ⟨w1.heap.size, p1, none⟩ = some (.bool (S.contains (p1 : Int))) := (hTW.cell p1).trans (inA_at S p1 (by omega))
        have z2 : W.cell? ⟨w1.heap.size, p2, none⟩ = some (.bool (S.contains (p2 : Int))) := (hTW.cell p2).trans (inA_at S p2 (by omega))
        have n1 : (p1 : Int) < 12 := by omega
        have n2 : (p2 : Int) < 12 := by omega
        have n3 : (0 : Int) ≤ (p1 : Int) := by omega
        have n4 : (0 : Int) ≤ (p2 : Int) := by omega
        have hob : outB S ((p1 : Int), (p2 : Int)) = (S.contains (p1 : Int) != S.contains (p2 : Int)) := rfl
        generalize S.contains (p1 : Int) = r1 at *
        generalize S.contains (p2 : Int) = r2 at *
        gi_wp2
        refine wpIn_mono (Q := fun e a' w' => e = .normal ∧ a' = { tmps := #[.agg #[.int .i64 nv, .slice a L.length cap], .slice b S.length c, .pointer (some ⟨w.heap.size, 0, none⟩), undef, .slice none 0 0, .int .i64 0, .int .i64 0, .pointer (some ⟨w1.heap.size, 0, none⟩), undef, u9, .pointer (some ⟨wr.heap.size, 0, none⟩), .int .i64 (xk : Nat), .pointer (some ⟨Bx, 0, none⟩), .agg #[.int .i64 nv, .slice a L.length cap], .slice b S.length c, .int .i64 0, .int .i64 0, .bool false, undef, .slice b S.length c, .int .i64 (S.length : Nat), .int .i64 (S.length : Nat), .bool false, u23, u24, u25, u26, u27, .agg #[.int .i64 nv, .slice a L.length cap], .func (.func 67) #[] #[.pointer (some ⟨wr.heap.size + 1, 0, none⟩)], .int .i64 (xk : Nat), .agg #[.int .i64 (p1 : Nat), .int .i64 (p2 : Nat)], .pointer (some ⟨Bx, 0, none⟩), .int .i64 (p1 : Nat), .pointer (some ⟨w1.heap.size, p1, none⟩), .bool r1, .pointer (some ⟨Bx, 1, none⟩), .int .i64 (p2 : Nat), .pointer (some ⟨w1.heap.size, p2, none⟩), .bool r2, .bool (!(r1 == r2)), undef, undef, undef, undef, undef], defers := [] } ∧ w' = W.drew) ?reg ?_
        case reg =>
          gi_region
          all_goals exact ⟨rfl, rfl, rfl⟩
        rintro e a2 w2 ⟨rfl, rfl, rfl⟩
        cases r1
        · cases r2
          · have ho : outB S ((p1 : Int), (p2 : Int)) = false := hob
            rw [ho] at hcs
            obtain ⟨V, hV⟩ : ∃ V, V = W.drew := ⟨_, rfl⟩
            have hkV : Below W.heap.size W V := by rw [hV]; exact (Below.refl _ _).drew
            have hKV : KeepsOthers W V := by rw [hV]; exact KeepsOthers.drew _
            have hvV : Boxed V wr.heap.size 46 v := by rw [hV]; exact hv
            have hrowV := own_keep hrow hkV
            have hBV : Below wr.heap.size wr V := hB.trans (hkV.mono hB.size)
            have hEV : ∀ g cs, Blk W g 71 cs → Blk V g 71 cs := fun g cs hA => hA.below hkV hA.lt
            have hcV := hvV.cell
            have hWV := hkV.size
            rw [← hV]
            clear hV
            have hcs2 : cutS S (pre ++ [⟨(xk, (p1 : Int), (p2 : Int)), hxr⟩]) = cutS S pre := by rw [hcs]; simp
            gi_wp2
            exact ⟨hKV.from _, ⟨hkV.mono hB.size, hEV⟩, ⟨v, hvV, by rw [hcs2]; exact ⟨hrowV, trivial⟩⟩, hBV⟩
          · have ho : outB S ((p1 : Int), (p2 : Int)) = true := hob
            rw [ho] at hcs
            obtain ⟨V, hV⟩ : ∃ V, V = W.drew := ⟨_, rfl⟩
            have hkV : Below W.heap.size W V := by rw [hV]; exact (Below.refl _ _).drew
            have hKV : KeepsOthers W V := by rw [hV]; exact KeepsOthers.drew _
            have hvV : Boxed V wr.heap.size 46 v := by rw [hV]; exact hv
            have hrowV := own_keep hrow hkV
            have hBV : Below wr.heap.size wr V := hB.trans (hkV.mono hB.size)
            have hEV : ∀ g cs, Blk W g 71 cs → Blk V g 71 cs := fun g cs hA => hA.below hkV hA.lt
            have hcV := hvV.cell
            have hWV := hkV.size
            rw [← hV]
            clear hV
            have hcs2 : cutS S (pre ++ [⟨(xk, (p1 : Int), (p2 : Int)), hxr⟩]) = cutS S pre ++ [(xk : Int)] := hcs
            gi_wp2_with (gi_at_builtin; refine wpListIn_append_own _ rfl _ _ 46 rfl wr.heap.size 3 i0 (.int .i64 0) 1 8 Try.underlying46 hi0 hz0 hz1 hz2 rfl (by decide) _ _ _ rfl (hrowV.alloc _) ⟨V.heap.size, 0, none⟩ 1 1 [.int .i64 (xk : Nat)] rfl rfl (lit_row _ _ _) (by simp [Value.oneCell']) (by unfold maxLen; omega) (by omega) (by have := hBV.size; simp; omega) ?_; intro v' w2 hown' hgrow _; obtain ⟨g', cap', rfl⟩ := own_succ hown'; obtain ⟨hv1, hv2, hr2, hk2, hb2⟩ := hvV.appended (by decide) hrowV hBV.size (Nat.le_refl _) hown' hgrow; have hKE := ke_push hrowV (by decide) hgrow; have hc1 := hv1.cell; have hf1 := hv1.frozen)
            refine ⟨(hKV.trans hk2).from _, ⟨(hkV.mono hB.size).trans hb2, fun g cs hA => (hKE g cs (hEV g cs hA)).far (ke_ne hv1 (by decide) (hKE g cs (hEV g cs hA))) _⟩, ⟨_, hv2, ?_⟩, hBV.trans hb2⟩
            rw [hcs2, List.length_append, flatI_snoc]
            exact hr2
        · cases r2
          · have ho : outB S ((p1 : Int), (p2 : Int)) = true := hob
            rw [ho] at hcs
            obtain ⟨V, hV⟩ : ∃ V, V = W.drew := ⟨_, rfl⟩
            have hkV : Below W.heap.size W V := by rw [hV]; exact (Below.refl _ _).drew
            have hKV : KeepsOthers W V := by rw [hV]; exact KeepsOthers.drew _
            have hvV : Boxed V wr.heap.size 46 v := by rw [hV]; exact hv
            have hrowV := own_keep hrow hkV
            have hBV : Below wr.heap.size wr V := hB.trans (hkV.mono hB.size)
            have hEV : ∀ g cs, Blk W g 71 cs → Blk V g 71 cs := fun g cs hA => hA.below hkV hA.lt
            have hcV := hvV.cell
            have hWV := hkV.size
            rw [← hV]
            clear hV
            have hcs2 : cutS S (pre ++ [⟨(xk, (p1 : Int), (p2 : Int)), hxr⟩]) = cutS S pre ++ [(xk : Int)] := hcs
            gi_wp2_with (gi_at_builtin; refine wpListIn_append_own _ rfl _ _ 46 rfl wr.heap.size 3 i0 (.int .i64 0) 1 8 Try.underlying46 hi0 hz0 hz1 hz2 rfl (by decide) _ _ _ rfl (hrowV.alloc _) ⟨V.heap.size, 0, none⟩ 1 1 [.int .i64 (xk : Nat)] rfl rfl (lit_row _ _ _) (by simp [Value.oneCell']) (by unfold maxLen; omega) (by omega) (by have := hBV.size; simp; omega) ?_; intro v' w2 hown' hgrow _; obtain ⟨g', cap', rfl⟩ := own_succ hown'; obtain ⟨hv1, hv2, hr2, hk2, hb2⟩ := hvV.appended (by decide) hrowV hBV.size (Nat.le_refl _) hown' hgrow; have hKE := ke_push hrowV (by decide) hgrow; have hc1 := hv1.cell; have hf1 := hv1.frozen)
            refine ⟨(hKV.trans hk2).from _, ⟨(hkV.mono hB.size).trans hb2, fun g cs hA => (hKE g cs (hEV g cs hA)).far (ke_ne hv1 (by decide) (hKE g cs (hEV g cs hA))) _⟩, ⟨_, hv2, ?_⟩, hBV.trans hb2⟩
            rw [hcs2, List.length_append, flatI_snoc]
            exact hr2
          · have ho : outB S ((p1 : Int), (p2 : Int)) = false := hob
            rw [ho] at hcs
            obtain ⟨V, hV⟩ : ∃ V, V = W.drew := ⟨_, rfl⟩
            have hkV : Below W.heap.size W V := by rw [hV]; exact (Below.refl _ _).drew
            have hKV : KeepsOthers W V := by rw [hV]; exact KeepsOthers.drew _
            have hvV : Boxed V wr.heap.size 46 v := by rw [hV]; exact hv
            have hrowV := own_keep hrow hkV
            have hBV : Below wr.heap.size wr V := hB.trans (hkV.mono hB.size)
            have hEV : ∀ g cs, Blk W g 71 cs → Blk V g 71 cs := fun g cs hA => hA.below hkV hA.lt
            have hcV := hvV.cell
            have hWV := hkV.size
            rw [← hV]
            clear hV
            have hcs2 : cutS S (pre ++ [⟨(xk, (p1 : Int), (p2 : Int)), hxr⟩]) = cutS S pre := by rw [hcs]; simp
            gi_wp2
            exact ⟨hKV.from _, ⟨hkV.mono hB.size, hEV⟩, ⟨v, hvV, by rw [hcs2]; exact ⟨hrowV, trivial⟩⟩, hBV⟩
      case done =>
        rintro D ys W hD hys ⟨⟨v, hv, hrow, -⟩, hB⟩ hK
        have hc := hv.cell
        have HE2 : Hid (∃ a' c', v = .slice a' (cutG L S).length c' ∧ IsAt W a' (cutG L S)) := by
          rw [HCG.out, ← cutS_all S (endsG L) ys hys]
          exact RowAt.of_own encI_len hrow
        obtain ⟨a', c', hv2, hp⟩ := HE2.out
        subst hv2
        gi_wp2
        have hg := grownBy_putObj' W D (.deferred none)
        refine ⟨by simp, .inl ⟨_, _, rfl, run_takeDeferred hK, ?_⟩⟩
        refine ⟨.tuple #[.slice a' (cutG L S).length c', .int .i64 0], by simp [results, Try.results37, go_sem], a', c', rfl, ?_, ?_⟩
        · exact RowAt.putObj encI_len hp hK rfl
        · exact HB1.out.trans (((HB2.out.trans ((hB.grown hg hB.size (fun k e => by cases e; omega)).mono HB2.out.size))).mono HB1.out.size)
      case stop =>
        rintro D c pre W _ _ h _
        exact h.elim

set_option maxRecDepth 100000 in
set_option maxHeartbeats 8000000 in
theorem pcut_err (nv : Int) (a : Option Addr) (cap : Nat) (L : List E) (hL : L.length ≤ 100000) (b : Option Addr) (c : Nat) (S : List Int) (hS : S.length ≤ 100000) (h0 : chkS nv L S ≠ 0) (w : World) (h : EsAt w a L) (hv : IsAt w b S) :
    Calls Try.prog 37 #[gv nv a L.length cap, .slice b S.length c] w (GivesIE w [] (chkS nv L S)) := by
  have HC := Lib.hid (psubset_any nv a cap L hL b c S hS (w.alloc (Obj.cells #[.int .i64 nv, .slice a L.length cap] 24)) (h.keep ((Below.refl _ w).alloc (Nat.le_refl _) _)) (hv.keep ((Below.refl _ w).alloc (Nat.le_refl _) _)))
  have HB0 := Lib.hid ((Below.refl _ w).alloc (Nat.le_refl _) (Obj.cells #[.int .i64 nv, .slice a L.length cap] 24))
  unfold GivesIE
  unfold GivesN gv at *
  have q0 : (((chkS nv L S : Nat) : Int) != 0) = true := by rw [bne_iff_ne]; omega
  generalize chkS nv L S = k at *
  clear h hv h0
  go_enter Try.func37, Try.ntmps37
  go_wp2_with fail
  refine HC.out.mono ?_
  rintro e w1 ⟨rfl, hb⟩
  have HB1 := Lib.hid (HB0.out.trans (hb.mono HB0.out.size))
  clear hb
  go_wp2
  go_ret2
  exact ⟨none, 0, rfl, RowAt.nil _ _ _ _, HB1.out⟩
theorem pcut_any (nv : Int) (a : Option Addr) (cap : Nat) (L : List E) (hL : L.length ≤ 100000) (b : Option Addr) (c : Nat) (S : List Int) (hS : S.length ≤ 100000) (w : World) (h : EsAt w a L) (hv : IsAt w b S) :
    Calls Try.prog 37 #[gv nv a L.length cap, .slice b S.length c] w (GivesIE w (if chkS nv L S = 0 then cutG L S else []) (chkS nv L S)) := by
  by_cases h0 : chkS nv L S = 0
  · rw [if_pos h0, h0]
    exact callsIn_wide.1 (pcut_ok nv a cap L hL b c S hS h0 w h hv)
  · rw [if_neg h0]
    exact pcut_err nv a cap L hL b c S hS h0 w h hv
end Go.Proofs.Ytjaafneoinidkaa
