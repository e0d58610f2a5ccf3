/- Ends of the program. -/
import Derived.Test.YtjaafneoinidkaaGo
namespace Go.Proofs.Ytjaafneoinidkaa
open Go.RowKit Go.Shelf Go.Proofs.Gr
attribute [local go_sem] Oper.semAt_some

theorem KpE.alloc {n₀ : Nat} {W : World} (h : n₀ ≤ W.heap.size) (o : Obj) : KpE n₀ W (W.alloc o) := ⟨(Below.refl _ W).alloc h _, fun _ _ hA => hA.alloc _⟩
theorem own_succ {w : World} {base : Nat} {e : TypeId} {size : Nat} {v : Value} {n : Nat} {xs : List Value} (h : w.ownsRow base e size v (n + 1) xs) : ∃ g c, v = .slice (some ⟨g, 0, none⟩) (n + 1) c := by
  rcases h.2 with ⟨_, h0⟩ | ⟨g, c, cur, hv, _⟩
  · omega
  · exact ⟨g, c, hv⟩
theorem ke_push {W w2 : World} {o : Obj} {v : Value} {base n k : Nat} {xs : List Value} {e : TypeId} (hrow : W.ownsRow base e k v n xs) (he : e ≠ 71) (hg : (W.alloc o).grownBy w2 v.ownBlock) (g : Nat) (cs : Array Value) (hA : Blk W g 71 cs) : Blk w2 g 71 cs :=
  (hA.alloc o).grown hg (own_blk_ne (hrow.alloc o) (hA.alloc o) he)
theorem ke_ne {w2 : World} {B g : Nat} {t : TypeId} {v : Value} {cs : Array Value} (h9 : Boxed w2 B t v) (ht : t ≠ 71) (h8 : Blk w2 g 71 cs) : g ≠ B := by
  rintro rfl
  unfold Blk at h8
  have h9' : w2.heap[g]? = some (.cells #[v] t (0, 0)) := h9
  rw [h9'] at h8
  injection h8 with h8
  injection h8 with _ h8
  exact ht h8
theorem RowAt.putObj {α : Type} {k : Nat} {enc : α → List Value} (hk : ∀ x, (enc x).length = k) {W : World} {a : Option Addr} {L : List α} (h : RowAt k enc W a L) {D : Nat} {o o' : Obj} (hD : W.heap[D]? = some o) (hc : o.isCells = false) : RowAt k enc (W.putObj D o') a L := by
  intro j hj
  obtain ⟨b, off, h1, h2, h3⟩ := h j hj
  refine ⟨b, off, h1, by simpa [World.putObj] using h2, fun i hi => ?_⟩
  have h4 := h3 i hi
  have h5 : i < (enc L[j]).length := by rw [hk]; exact hi
  rw [List.getElem?_eq_getElem h5] at h4 ⊢
  exact cell_kept h4 (grownBy_putObj' W D o') (fun r e => by cases e; exact ⟨_, hD, hc⟩)
/-- Hands back pairs and an error's number. -/
def GivesPE (w : World) (l : List (Int × Int)) (k : Nat) (e : Ending) (w' : World) : Prop := ∃ a c, e = .returned (.tuple #[.slice a l.length c, .int .i64 (k : Nat)]) ∧ PsAt w' a l ∧ Below w.heap.size w w'

set_option maxRecDepth 100000 in
set_option maxHeartbeats 8000000 in
theorem pends_ok (nv : Int) (a : Option Addr) (cap : Nat) (L : List E) (hL : L.length ≤ 100000) (h0 : chkG nv L = 0) (w : World) (h : EsAt w a L) :
    CallsIn Fence.wide 3 Try.prog 16 #[gv nv a L.length cap] w (GivesPE w (endsG L) 0) := by
  obtain ⟨i0, hi0, hz0, hz1, hz2⟩ := info_parts infoP
  have HC := Lib.hid (fun w h => check_any nv a cap L (by omega) w h)
  rw [h0] at HC
  have HM := Lib.hid (right_of h0)
  have HLN : Hid ((endsG L).length ≤ 5000000) := Lib.hid (by have := ends_all (right_of h0); omega)
  obtain ⟨W, hW⟩ : ∃ W, W = w.alloc (Obj.cells #[.int .i64 nv, .slice a L.length cap] 24) := ⟨_, rfl⟩
  have hB0 : Below w.heap.size w W := by rw [hW]; exact (Below.refl _ w).alloc (Nat.le_refl _) _
  have hG : Blk W w.heap.size 24 #[.int .i64 nv, .slice a L.length cap] := by rw [hW]; exact Blk.new _ _ _
  have HW := Lib.hid hW
  have HB0 := Lib.hid hB0
  have HG := Lib.hid hG
  have HE := Lib.hid (h.keep hB0)
  unfold GivesPE
  unfold GivesN gv at *
  clear h hB0 hG hW h0
  refine callsIn_of_wp_marks Try.func16 rfl trivial ?_ rfl
  simp only [Try.ntmps16, List.size_toArray, List.length_cons, List.length_nil, Nat.reduceAdd, Nat.reduceSub, Array.replicate_succ, Array.replicate_zero, List.push_toArray, List.append_toArray, List.nil_append, List.cons_append]
  gi_wp2_with fail
  rw [← HW.out]
  refine ⟨trivial, ?_⟩
  refine (callsIn_wide.2 (HC.out _ HE.out)).mono ?_
  rintro e w1 ⟨rfl, hb⟩
  have g0' : w1.cell? ⟨w.heap.size, 0, none⟩ = some (.int .i64 nv) := (HG.out.below hb HG.out.lt).cell 0
  have g1' : w1.cell? ⟨w.heap.size, 1, none⟩ = some (.slice a L.length cap) := (HG.out.below hb HG.out.lt).cell 1
  have HB1 := Lib.hid (HB0.out.trans (hb.mono HB0.out.size))
  have HE1 := Lib.hid (HE.out.keep hb)
  have hG1 : Blk (w1.alloc (Obj.cells #[.slice none 0 0] 31)) w.heap.size 24 #[.int .i64 nv, .slice a L.length cap] := (HG.out.below hb HG.out.lt).alloc _
  have g2' : (w1.alloc (Obj.cells #[.slice none 0 0] 31)).cell? ⟨w.heap.size, 0, none⟩ = some (.int .i64 nv) := hG1.cell 0
  have g3' : (w1.alloc (Obj.cells #[.slice none 0 0] 31)).cell? ⟨w.heap.size, 1, none⟩ = some (.slice a L.length cap) := hG1.cell 1
  clear hb hG1
  gi_wp2_with fail
  refine ⟨trivial, ?_⟩
  refine (singles_in 2 nv a L.length cap _).mono ?_
  rintro e w' ⟨rfl, rfl⟩
  gi_wp2_with fail
  -- the world where the loop begins
  have hbW : Below w1.heap.size w1 ((w1.alloc (Obj.cells #[.slice none 0 0] 31)).alloc (Obj.cells #[.int .i64 nv, .slice a L.length cap] 24)) := (((Below.refl _ w1).alloc (Nat.le_refl _) _).alloc (by simp) _)
  have bS := (Boxed.new w1 31 (.slice none 0 0)).alloc (.cells #[.int .i64 nv, .slice a L.length cap] 24)
  have bG : Blk ((w1.alloc (Obj.cells #[.slice none 0 0] 31)).alloc (Obj.cells #[.int .i64 nv, .slice a L.length cap] 24)) (w1.heap.size + 1) 24 #[.int .i64 nv, .slice a L.length cap] := by
    have h9 := Blk.new (w1.alloc (Obj.cells #[.slice none 0 0] 31)) 24 #[.int .i64 nv, .slice a L.length cap]
    rwa [World.size_alloc] at h9
  have hsz : ((w1.alloc (Obj.cells #[.slice none 0 0] 31)).alloc (Obj.cells #[.int .i64 nv, .slice a L.length cap] 24)).heap.size = w1.heap.size + 2 := by simp
  obtain ⟨W0, hW0⟩ : ∃ W0, (w1.alloc (Obj.cells #[.slice none 0 0] 31)).alloc (Obj.cells #[.int .i64 nv, .slice a L.length cap] 24) = W0 := ⟨_, rfl⟩
  rw [hW0] at hbW bS bG hsz ⊢
  clear hW0 g0' g1' g2' g3'
  have hown0 : W0.ownsRow w1.heap.size 37 2 (.slice none 0 0) 0 [] := World.ownsRow_nil _ _ _ _
  refine wpIn_rangeFunc_ownH rfl (by omega) (gf := 67) (lb := #[.pointer (some ⟨w1.heap.size + 1, 0, none⟩)]) rfl trivial (enters_of Try.func67 (by kernel_rfl) rfl)
    (singles_stops 2 (by omega) (w1.heap.size + 1) w1.heap.size nv a cap L hL HM.out W0 (by omega) (by omega) bG (fun x hx => HE1.out.keep (hbW.trans hx))) KpE.t (KpE.b (by omega)) (Below.refl _ _) (fun _ => rfl)
    (fun pre W => (∃ v, Boxed W w1.heap.size 31 v ∧ W.ownsRow w1.heap.size 37 2 v pre.length (flat encP (pre.map fun x => x.1.2)) ∧ True) ∧ Below w1.heap.size w1 W)
    (fun _ _ _ => False)
    (OwnFrom.and (Own.from (holdsRow_own w1.heap.size w1.heap.size 31 37 2 (fun pre : List SE => pre.length) (fun pre => flat encP (pre.map fun x => x.1.2)) (fun _ _ => True)) _) (ownFrom_below (Nat.le_refl _) (by omega)))
    (fun _ _ _ _ _ hs _ _ => hs)
    ⟨⟨_, bS, hown0, trivial⟩, hbW⟩
    (fun x a' W => ∃ Bx, w1.heap.size ≤ Bx ∧ Blk W Bx 37 #[.int .i64 x.1.2.1, .int .i64 x.1.2.2] ∧ a' = { tmps := #[.agg #[.int .i64 nv, .slice a L.length cap], .pointer (some ⟨w.heap.size, 0, none⟩), .slice none 0 0, .int .i64 0, .int .i64 0, .pointer (some ⟨w1.heap.size, 0, none⟩), undef, .pointer (some ⟨Bx, 0, none⟩), .agg #[.int .i64 nv, .slice a L.length cap], .int .i64 0, .int .i64 0, .bool false, undef, .agg #[.int .i64 nv, .slice a L.length cap], .func (.func 67) #[] #[.pointer (some ⟨w1.heap.size + 1, 0, none⟩)], .int .i64 (x.1.1 : Nat), .agg #[.int .i64 x.1.2.1, .int .i64 x.1.2.2], undef, undef, undef, undef, undef], defers := [] })
    (fun x a' _ X Y row hs hg hr => by
      obtain ⟨Bx, h1, h2, h3⟩ := hs
      refine ⟨Bx, h1, h2.grown hg (fun e => ?_), h3⟩
      obtain ⟨-, o, ho, hc⟩ := hr Bx e.symm
      unfold Blk at h2
      rw [h2] at ho; cases ho; cases hc)
    ?assign ?body ?done ?stop
  case assign =>
    rintro l pre x W K ⟨⟨v, hv, hrow, -⟩, hB⟩ hK
    gi_wp2
    exact hK _ _ ((KeepsOthers.alloc _ _).from _) (KpE.alloc hB.size _) ⟨⟨v, hv.alloc _, hrow.alloc _, trivial⟩, hB.alloc hB.size _⟩ ⟨W.heap.size, hB.size, Blk.new W _ _, rfl⟩
  case body =>
    rintro l pre x a' W hl ⟨r, hr⟩ ⟨⟨v, hv, hrow, -⟩, hB⟩ ⟨Bx, hBx, bX, rfl⟩ hlt
    have hc := hv.cell
    have x0 : W.cell? ⟨Bx, 0, none⟩ = some (.int .i64 x.1.2.1) := bX.cell 0
    have x1 : W.cell? ⟨Bx, 1, none⟩ = some (.int .i64 x.1.2.2) := bX.cell 1
    have hln := HLN.out
    obtain ⟨⟨xk, xa, xb⟩, hxr⟩ := x
    simp only at x0 x1
    gi_wp2_with (gi_at_builtin; refine wpListIn_append_own _ rfl _ _ 31 rfl w1.heap.size 37 i0 (.agg #[.int .i64 0, .int .i64 0]) 2 16 Try.underlying31 hi0 hz0 hz1 hz2 rfl (by decide) _ _ _ rfl (hrow.alloc _) ⟨W.heap.size, 0, none⟩ 1 1 [.int .i64 xa, .int .i64 xb] rfl rfl (lit_row _ _ _) (by simp [Value.oneCell']) (by unfold maxLen; omega) (by omega) (by have := hB.size; simp; omega) ?_; intro v' w2 hown' hgrow _; obtain ⟨g', cap', rfl⟩ := own_succ hown'; obtain ⟨hv1, hv2, hr2, hk2, hb2⟩ := hv.appended (by decide) hrow hB.size (Nat.le_refl _) hown' hgrow; have hKE := ke_push hrow (by decide) hgrow; have hc1 := hv1.cell; have hf1 := hv1.frozen)
    refine ⟨hk2.from _, ⟨hb2, fun g cs hA => (hKE g cs hA).far (ke_ne hv1 (by decide) (hKE g cs hA)) _⟩, ⟨_, hv2, ?_⟩, hB.trans hb2⟩
    · rw [List.map_append, List.length_append]
      show World.ownsRow _ _ _ _ _ _ (flat encP ((pre.map fun x => x.1.2) ++ [(xa, xb)]))
      rw [flatP_snoc]
      exact hr2
  case done =>
    rintro D ys W hD hys ⟨⟨v, hv, hrow, -⟩, hB⟩ hK
    have hc := hv.cell
    have HE2 : Hid (∃ a' c', v = .slice a' (endsG L).length c' ∧ PsAt W a' (endsG L)) := by
      have h1 : (sg (endsG L) (endsG L).length).map Prod.snd = endsG L := by
        unfold sg
        rw [List.map_map]
        refine List.ext_getElem (by simp) fun j h1 h2 => ?_
        simp only [List.getElem_map, List.getElem_range, Function.comp]
        rw [pAt_get _ j h2]
      have h2 : (ys.map fun x => x.1.2) = endsG L := by
        rw [← h1, ← hys, List.map_map]; rfl
      have h3 : ys.length = (endsG L).length := by rw [← h2, List.length_map]
      rw [h2, h3] at hrow
      exact RowAt.of_own encP_len hrow
    obtain ⟨a', c', hv2, hp⟩ := HE2.out
    subst hv2
    gi_wp2
    have hg := grownBy_putObj' W D (.deferred none)
    refine ⟨by simp, .inl ⟨_, _, rfl, run_takeDeferred hK, ?_⟩⟩
    refine ⟨.tuple #[.slice a' (endsG L).length c', .int .i64 0], by simp [results, Try.results16, go_sem], a', c', rfl, ?_, ?_⟩
    · exact RowAt.putObj encP_len hp hK rfl
    · exact HB1.out.trans ((hB.grown hg hB.size (fun k e => by cases e; omega)).mono HB1.out.size)
  case stop =>
    rintro D c pre W _ _ h _
    exact h.elim

set_option maxRecDepth 100000 in
set_option maxHeartbeats 8000000 in
theorem pends_err (nv : Int) (a : Option Addr) (cap : Nat) (L : List E) (hL : L.length ≤ 100000) (h0 : chkG nv L ≠ 0) (w : World) (h : EsAt w a L) :
    Calls Try.prog 16 #[gv nv a L.length cap] w (GivesPE w [] (chkG nv L)) := by
  have HC := Lib.hid (check_any nv a cap L (by omega) (w.alloc (Obj.cells #[.int .i64 nv, .slice a L.length cap] 24)) (h.keep ((Below.refl _ w).alloc (Nat.le_refl _) _)))
  have HB0 := Lib.hid ((Below.refl _ w).alloc (Nat.le_refl _) (Obj.cells #[.int .i64 nv, .slice a L.length cap] 24))
  unfold GivesPE
  unfold GivesN gv at *
  have q0 : (((chkG nv L : Nat) : Int) != 0) = true := by rw [bne_iff_ne]; omega
  generalize chkG nv L = k at *
  clear h h0
  go_enter Try.func16, Try.ntmps16
  go_wp2_with fail
  refine HC.out.mono ?_
  rintro e w1 ⟨rfl, hb⟩
  have HB1 := Lib.hid (HB0.out.trans (hb.mono HB0.out.size))
  clear hb
  go_wp2
  go_ret2
  exact ⟨none, 0, rfl, RowAt.nil _ _ _ _, HB1.out⟩
theorem pends_any (nv : Int) (a : Option Addr) (cap : Nat) (L : List E) (hL : L.length ≤ 100000) (w : World) (h : EsAt w a L) :
    Calls Try.prog 16 #[gv nv a L.length cap] w (GivesPE w (if chkG nv L = 0 then endsG L else []) (chkG nv L)) := by
  by_cases h0 : chkG nv L = 0
  · rw [if_pos h0, h0]
    exact callsIn_wide.1 (pends_ok nv a cap L hL h0 w h)
  · rw [if_neg h0]
    exact pends_err nv a cap L hL h0 w h
end Go.Proofs.Ytjaafneoinidkaa
