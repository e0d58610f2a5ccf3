/- Sizes, the edges around a vertex, checks of vertices. -/
import Derived.Test.YtjaafneoinidkaaGh
namespace Go.Proofs.Ytjaafneoinidkaa
open Go.RowKit Go.Proofs.Gr

theorem sum_bound {f : E → Int} {L : List E} (h : ∀ e ∈ L, 0 ≤ f e ∧ f e ≤ 50) (i : Nat) : 0 ≤ sumL f (L.take i) ∧ sumL f (L.take i) ≤ 50 * i := by
  induction L generalizing i with
  | nil => simp [sumL]; omega
  | cons e r ih =>
    cases i with
    | zero => simp [sumL]
    | succ i =>
      rw [List.take_succ_cons, sumL]
      have h1 := h e List.mem_cons_self
      have h2 := ih (fun x hx => h x (List.mem_cons_of_mem _ hx)) i
      omega
theorem take_all {f : E → Int} (L : List E) : sumL f (L.take L.length) = sumL f L := by rw [List.take_length]
/-- Hands back a number and an error's number. -/
def GivesNE (w : World) (z : Int) (k : Nat) (e : Ending) (w' : World) : Prop := e = .returned (.tuple #[.int .i64 z, .int .i64 (k : Nat)]) ∧ Below w.heap.size w w'

set_option maxHeartbeats 12800000 in
set_option maxRecDepth 100000 in
theorem psize_any (n : Int) (a : Option Addr) (cap : Nat) (L : List E) (hL : L.length ≤ 100000) (hr : ∀ e ∈ L, 0 ≤ e.m ∧ e.m ≤ 50) (w : World) (h : EsAt w a L) :
    Calls Try.prog 53 #[gv n a L.length cap] w (GivesN w (sizeG L)) := by
  unfold GivesN gv
  have HSB := Lib.hid (fun i => sum_bound (f := fun e => e.m) hr i)
  have HST := Lib.hid (fun i h => sumL_take (fun e => e.m) L i h)
  have hR : Hid (sizeG L = sumL (fun e => e.m) (L.take L.length)) := Lib.hid (take_all L).symm
  generalize sizeG L = R at *
  obtain ⟨W, hW⟩ : ∃ W, W = w.alloc (Obj.cells #[.int .i64 n, .slice a L.length cap] 24) := ⟨_, rfl⟩
  have hB0 : Below w.heap.size w W := by rw [hW]; exact (Below.refl _ w).alloc (Nat.le_refl _) _
  have hG : Blk W w.heap.size 24 #[.int .i64 n, .slice a L.length cap] := by rw [hW]; exact Blk.new _ _ _
  have hWs : W.heap.size = w.heap.size + 1 := by rw [hW]; simp
  have HWS := Lib.hid hWs
  have HW := Lib.hid hW
  have HB0 := Lib.hid hB0
  have HG := Lib.hid hG
  have HE := Lib.hid (h.keep hB0)
  have g0 : W.cell? ⟨w.heap.size, 0, none⟩ = some (.int .i64 n) := hG.cell 0
  have g1 : W.cell? ⟨w.heap.size, 1, none⟩ = some (.slice a L.length cap) := hG.cell 1
  clear hB0 hG hW hWs
  clear h hr
  go_enter Try.func53, Try.ntmps53
  go_wp2
  rw [← HW.out]
  go_loopw [3, 9] (fun u v wr => ∃ i : Nat, i ≤ L.length ∧ v = .int .i64 i ∧ u = .int .i64 (sumL (fun e => e.m) (L.take i)) ∧ Below W.heap.size W wr) (fun _ v _ => L.length - (intOf v).toNat)
  case atStart => exact ⟨0, by omega, rfl, by simp [sumL], Below.refl _ _⟩
  case round =>
    obtain ⟨i, hi, rfl, rfl, hb⟩ := hrel
    have hsb := HSB.out i
    by_cases hlt : i < L.length
    · have hst := HST.out i hlt
      have hsb2 := HSB.out (i + 1)
      rw [hst] at hsb2
      obtain ⟨T, hTe⟩ : ∃ T, T = eAt L i := ⟨_, rfl⟩
      have HT := Lib.hid hTe
      have g0' : wr.cell? ⟨w.heap.size, 0, none⟩ = some (.int .i64 n) := (HG.out.below hb HG.out.lt).cell 0
      have g1' : wr.cell? ⟨w.heap.size, 1, none⟩ = some (.slice a L.length cap) := (HG.out.below hb HG.out.lt).cell 1
      obtain ⟨b1, o1, ha, q1, x1, x2, x3⟩ := (HE.out.keep hb).three i hlt
      subst ha
      rw [← hTe] at x1 x2 x3
      obtain ⟨ta, tb, tm⟩ := T
      simp only at x1 x2 x3
      have i1 : (i : Int) < ((L.length : Nat) : Int) := by omega
      have HBr := Lib.hid hb
      have HBV : Hid (Below W.heap.size W (wr.alloc (Obj.cells #[.int .i64 ta, .int .i64 tb, .int .i64 tm] 71))) := Lib.hid (hb.alloc hb.size _)
      have g2' : (wr.alloc (Obj.cells #[.int .i64 ta, .int .i64 tb, .int .i64 tm] 71)).cell? ⟨w.heap.size, 0, none⟩ = some (.int .i64 n) := (HG.out.below HBV.out HG.out.lt).cell 0
      have g3' : (wr.alloc (Obj.cells #[.int .i64 ta, .int .i64 tb, .int .i64 tm] 71)).cell? ⟨w.heap.size, 1, none⟩ = some (.slice (some ⟨b1, o1, none⟩) L.length cap) := (HG.out.below HBV.out HG.out.lt).cell 1
      clear hb hTe
      have htm : (eAt L i).m = tm := by rw [← HT.out]
      rw [htm] at hst hsb2
      generalize sumL (fun e => e.m) (L.take i) = S at *
      have HS2 := Lib.hid hst
      have c1 : IntKind.i64.wrap (S + tm) = S + tm := IntWalk.i64_in _ (by omega)
      clear hst hsb hsb2 htm
      go_wp2
      go_roundw
      case rel => exact ⟨i + 1, by omega, by go_num, by rw [HS2.out], HBV.out⟩
      case measure => simp [intOf]; omega
    · obtain rfl : i = L.length := by omega
      have HBr := Lib.hid hb
      rw [← hR.out]
      clear hb hsb
      go_wp2
      go_ret
      exact ⟨rfl, HB0.out.trans (HBr.out.mono HB0.out.size)⟩
set_option maxHeartbeats 12800000 in
set_option maxRecDepth 100000 in
theorem pSize_any (n : Int) (a : Option Addr) (cap : Nat) (L : List E) (hL : L.length ≤ 100000) (w : World) (h : EsAt w a L) :
    Calls Try.prog 15 #[gv n a L.length cap] w (GivesNE w (if chkG n L = 0 then sizeG L else 0) (chkG n L)) := by
  have HC := Lib.hid (fun w h => check_any n a cap L (by omega) w h)
  have HSZ : Hid (chkG n L = 0 → ∀ w, EsAt w a L → Calls Try.prog 53 #[gv n a L.length cap] w (GivesN w (sizeG L))) :=
    Lib.hid (fun h0 w h => psize_any n a cap L hL (fun e he => by have := (right_of h0).rng e he; omega) w h)
  unfold GivesNE
  unfold GivesN gv at *
  obtain ⟨W, hW⟩ : ∃ W, W = w.alloc (Obj.cells #[.int .i64 n, .slice a L.length cap] 24) := ⟨_, rfl⟩
  have hB0 : Below w.heap.size w W := by rw [hW]; exact (Below.refl _ w).alloc (Nat.le_refl _) _
  have hG : Blk W w.heap.size 24 #[.int .i64 n, .slice a L.length cap] := by rw [hW]; exact Blk.new _ _ _
  have hWs : W.heap.size = w.heap.size + 1 := by rw [hW]; simp
  have HWS := Lib.hid hWs
  have HW := Lib.hid hW
  have HB0 := Lib.hid hB0
  have HG := Lib.hid hG
  have HE := Lib.hid (h.keep hB0)
  have g0 : W.cell? ⟨w.heap.size, 0, none⟩ = some (.int .i64 n) := hG.cell 0
  have g1 : W.cell? ⟨w.heap.size, 1, none⟩ = some (.slice a L.length cap) := hG.cell 1
  clear hB0 hG hW hWs
  generalize sizeG L = S at *
  generalize chkG n L = k at *
  clear h
  by_cases hk : k = 0
  · subst hk
    have HSZ2 := Lib.hid (HSZ.out rfl)
    go_enter Try.func15, Try.ntmps15
    go_wp2_with fail
    rw [← HW.out]
    refine (HC.out _ HE.out).mono ?_
    rintro e w1 ⟨rfl, hb⟩
    have HE1 := Lib.hid (HE.out.keep hb)
    have HB1 := Lib.hid (HB0.out.trans (hb.mono HB0.out.size))
    have g0' : w1.cell? ⟨w.heap.size, 0, none⟩ = some (.int .i64 n) := (HG.out.below hb HG.out.lt).cell 0
    have g1' : w1.cell? ⟨w.heap.size, 1, none⟩ = some (.slice a L.length cap) := (HG.out.below hb HG.out.lt).cell 1
    clear hb
    go_wp2_with fail
    refine (HSZ2.out _ HE1.out).mono ?_
    rintro e w2 ⟨rfl, hb2⟩
    have HB2 := Lib.hid (HB1.out.trans (hb2.mono HB1.out.size))
    clear hb2
    go_wp2
    go_ret2
    exact ⟨rfl, HB2.out⟩
  · have q0 : (((k : Nat) : Int) != 0) = true := by rw [bne_iff_ne]; omega
    go_enter Try.func15, Try.ntmps15
    go_wp2_with fail
    rw [← HW.out]
    refine (HC.out _ HE.out).mono ?_
    rintro e w1 ⟨rfl, hb⟩
    have HB1 := Lib.hid (HB0.out.trans (hb.mono HB0.out.size))
    clear hb
    go_wp2
    go_ret2
    exact ⟨rfl, HB1.out⟩
set_option maxHeartbeats 12800000 in
set_option maxRecDepth 100000 in
theorem around_any (n : Int) (a : Option Addr) (cap : Nat) (L : List E) (hL : L.length ≤ 100000) (hr : ∀ e ∈ L, 0 ≤ e.m ∧ e.m ≤ 50) (v : Int) (w : World) (h : EsAt w a L) :
    Calls Try.prog 64 #[gv n a L.length cap, .int .i64 v] w (fun e w' => e = .returned (.tuple #[.int .i64 (sumL (othE v) L), .int .i64 (sumL (loopE v) L)]) ∧ Below w.heap.size w w') := by
  unfold gv
  have HSO := Lib.hid (fun i => sum_bound (f := othE v) (fun e he => by have := hr e he; unfold othE; split <;> (try split) <;> omega) i)
  have HSL := Lib.hid (fun i => sum_bound (f := loopE v) (fun e he => by have := hr e he; unfold loopE; split <;> omega) i)
  have HTO := Lib.hid (fun i h => sumL_take (othE v) L i h)
  have HTL := Lib.hid (fun i h => sumL_take (loopE v) L i h)
  have hRo : Hid (sumL (othE v) L = sumL (othE v) (L.take L.length)) := Lib.hid (take_all L).symm
  have hRl : Hid (sumL (loopE v) L = sumL (loopE v) (L.take L.length)) := Lib.hid (take_all L).symm
  generalize sumL (othE v) L = Ro at *
  generalize sumL (loopE v) L = Rl at *
  obtain ⟨W, hW⟩ : ∃ W, W = w.alloc (Obj.cells #[.int .i64 n, .slice a L.length cap] 24) := ⟨_, rfl⟩
  have hB0 : Below w.heap.size w W := by rw [hW]; exact (Below.refl _ w).alloc (Nat.le_refl _) _
  have hG : Blk W w.heap.size 24 #[.int .i64 n, .slice a L.length cap] := by rw [hW]; exact Blk.new _ _ _
  have hWs : W.heap.size = w.heap.size + 1 := by rw [hW]; simp
  have HWS := Lib.hid hWs
  have HW := Lib.hid hW
  have HB0 := Lib.hid hB0
  have HG := Lib.hid hG
  have HE := Lib.hid (h.keep hB0)
  have g0 : W.cell? ⟨w.heap.size, 0, none⟩ = some (.int .i64 n) := hG.cell 0
  have g1 : W.cell? ⟨w.heap.size, 1, none⟩ = some (.slice a L.length cap) := hG.cell 1
  clear hB0 hG hW hWs
  clear h hr
  go_enter Try.func64, Try.ntmps64
  go_wp2
  rw [← HW.out]
  go_loopw [6, 7, 13] (fun u1 u2 x wr => ∃ i : Nat, i ≤ L.length ∧ x = .int .i64 i ∧ u1 = .int .i64 (sumL (othE v) (L.take i)) ∧ u2 = .int .i64 (sumL (loopE v) (L.take i)) ∧ Below W.heap.size W wr) (fun _ _ x _ => L.length - (intOf x).toNat)
  case atStart => exact ⟨0, by omega, rfl, by simp [sumL], by simp [sumL], Below.refl _ _⟩
  case round =>
    obtain ⟨i, hi, rfl, rfl, rfl, hb⟩ := hrel
    have hso := HSO.out i
    have hsl := HSL.out i
    by_cases hlt : i < L.length
    · have hto := HTO.out i hlt
      have htl := HTL.out i hlt
      have hso2 := HSO.out (i + 1)
      have hsl2 := HSL.out (i + 1)
      rw [hto] at hso2
      rw [htl] at hsl2
      obtain ⟨T, hTe⟩ : ∃ T, T = eAt L i := ⟨_, rfl⟩
      have HT := Lib.hid hTe
      have g0' : wr.cell? ⟨w.heap.size, 0, none⟩ = some (.int .i64 n) := (HG.out.below hb HG.out.lt).cell 0
      have g1' : wr.cell? ⟨w.heap.size, 1, none⟩ = some (.slice a L.length cap) := (HG.out.below hb HG.out.lt).cell 1
      obtain ⟨b1, o1, ha, q1, x1, x2, x3⟩ := (HE.out.keep hb).three i hlt
      subst ha
      rw [← hTe] at x1 x2 x3
      obtain ⟨ta, tb, tm⟩ := T
      simp only at x1 x2 x3
      have i1 : (i : Int) < ((L.length : Nat) : Int) := by omega
      have HBr := Lib.hid hb
      have HBV : Hid (Below W.heap.size W (wr.alloc (Obj.cells #[.int .i64 ta, .int .i64 tb, .int .i64 tm] 71))) := Lib.hid (hb.alloc hb.size _)
      have g2' : (wr.alloc (Obj.cells #[.int .i64 ta, .int .i64 tb, .int .i64 tm] 71)).cell? ⟨w.heap.size, 0, none⟩ = some (.int .i64 n) := (HG.out.below HBV.out HG.out.lt).cell 0
      have g3' : (wr.alloc (Obj.cells #[.int .i64 ta, .int .i64 tb, .int .i64 tm] 71)).cell? ⟨w.heap.size, 1, none⟩ = some (.slice (some ⟨b1, o1, none⟩) L.length cap) := (HG.out.below HBV.out HG.out.lt).cell 1
      clear hb hTe
      rw [← HT.out] at hto htl hso2 hsl2
      generalize sumL (othE v) (L.take i) = So at *
      generalize sumL (loopE v) (L.take i) = Sl at *
      have HTo := Lib.hid hto
      have HTl := Lib.hid htl
      have HSo2 := Lib.hid hso2
      have HSl2 := Lib.hid hsl2
      have EO : Hid (othE v ⟨ta, tb, tm⟩ = if ta = v ∧ tb = v then 0 else if ta = v ∨ tb = v then tm else 0) := Lib.hid rfl
      have EL : Hid (loopE v ⟨ta, tb, tm⟩ = if ta = v ∧ tb = v then tm else 0) := Lib.hid rfl
      generalize othE v ⟨ta, tb, tm⟩ = eo at *
      generalize loopE v ⟨ta, tb, tm⟩ = el at *
      clear hto htl hso2 hsl2
      by_cases k1 : ta = v
      · have d1 : (ta == v) = true := by rw [beq_iff_eq]; exact k1
        by_cases k2 : tb = v
        · have d2 : (tb == v) = true := by rw [beq_iff_eq]; exact k2
          have e1 : eo = 0 := by rw [EO.out, if_pos ⟨k1, k2⟩]
          have e2 : el = tm := by rw [EL.out, if_pos ⟨k1, k2⟩]
          have c1 : IntKind.i64.wrap (Sl + tm) = Sl + tm := IntWalk.i64_in _ (by have := HSl2.out; omega)
          clear k1 k2 hso hsl
          go_wp2
          go_roundw
          case rel => exact ⟨i + 1, by omega, by go_num, by rw [HTo.out, e1, Int.add_zero], by rw [HTl.out, e2], HBV.out⟩
          case measure => simp [intOf]; omega
        · have d2 : (tb == v) = false := by rw [beq_eq_false_iff_ne]; exact k2
          have e1 : eo = tm := by rw [EO.out, if_neg (fun h => k2 h.2), if_pos (.inl k1)]
          have e2 : el = 0 := by rw [EL.out, if_neg (fun h => k2 h.2)]
          have c1 : IntKind.i64.wrap (So + tm) = So + tm := IntWalk.i64_in _ (by have := HSo2.out; omega)
          clear k1 k2 hso hsl
          go_wp2
          go_roundw
          case rel => exact ⟨i + 1, by omega, by go_num, by rw [HTo.out, e1], by rw [HTl.out, e2, Int.add_zero], HBV.out⟩
          case measure => simp [intOf]; omega
      · have d1 : (ta == v) = false := by rw [beq_eq_false_iff_ne]; exact k1
        by_cases k2 : tb = v
        · have d2 : (tb == v) = true := by rw [beq_iff_eq]; exact k2
          have e1 : eo = tm := by rw [EO.out, if_neg (fun h => k1 h.1), if_pos (.inr k2)]
          have e2 : el = 0 := by rw [EL.out, if_neg (fun h => k1 h.1)]
          have c1 : IntKind.i64.wrap (So + tm) = So + tm := IntWalk.i64_in _ (by have := HSo2.out; omega)
          clear k1 k2 hso hsl
          go_wp2
          go_roundw
          case rel => exact ⟨i + 1, by omega, by go_num, by rw [HTo.out, e1], by rw [HTl.out, e2, Int.add_zero], HBV.out⟩
          case measure => simp [intOf]; omega
        · have d2 : (tb == v) = false := by rw [beq_eq_false_iff_ne]; exact k2
          have e1 : eo = 0 := by rw [EO.out, if_neg (fun h => k1 h.1), if_neg (fun h => h.elim k1 k2)]
          have e2 : el = 0 := by rw [EL.out, if_neg (fun h => k1 h.1)]
          clear k1 k2 hso hsl
          go_wp2
          go_roundw
          case rel => exact ⟨i + 1, by omega, by go_num, by rw [HTo.out, e1, Int.add_zero], by rw [HTl.out, e2, Int.add_zero], HBV.out⟩
          case measure => simp [intOf]; omega
    · obtain rfl : i = L.length := by omega
      have HBr := Lib.hid hb
      rw [← hRo.out, ← hRl.out]
      clear hb hso hsl
      go_wp2
      go_ret2
      exact ⟨rfl, HB0.out.trans (HBr.out.mono HB0.out.size)⟩
/-- The error of a graph and some vertices. -/
def chkV (n : Int) (L : List E) (Vs : List Int) : Nat := if chkG n L ≠ 0 then chkG n L else if Vs.all (isV n) then 0 else 2
theorem all_split (n : Int) (Vs : List Int) (i : Nat) (hi : i < Vs.length) (hz : isV n (iAt Vs i) = false) : Vs.all (isV n) = false := by
  rw [List.all_eq_false]
  exact ⟨Vs[i], List.getElem_mem hi, by rw [iAt_get Vs i hi, hz]; simp⟩
theorem all_full (n : Int) (Vs : List Int) (h : ∀ j, j < Vs.length → isV n (iAt Vs j) = true) : Vs.all (isV n) = true := by
  rw [List.all_eq_true]
  intro x hx
  obtain ⟨i, hi, rfl⟩ := List.mem_iff_getElem.1 hx
  rw [iAt_get Vs i hi]; exact h i hi
set_option maxHeartbeats 12800000 in
set_option maxRecDepth 100000 in
theorem checkV_any (n : Int) (a : Option Addr) (cap : Nat) (L : List E) (hL : L.length ≤ 100000) (b : Option Addr) (c : Nat) (Vs : List Int) (hV : Vs.length ≤ 100000) (w : World) (h : EsAt w a L) (hv : IsAt w b Vs) :
    Calls Try.prog 63 #[gv n a L.length cap, .slice b Vs.length c] w (GivesN w (chkV n L Vs : Nat)) := by
  have HC := Lib.hid (fun w h => check_any n a cap L (by omega) w h)
  have HIV := Lib.hid (fun v w => isVertex_any n a L.length cap v w)
  have hE : Hid (chkV n L Vs = if chkG n L ≠ 0 then chkG n L else if Vs.all (isV n) then 0 else 2) := Lib.hid rfl
  unfold GivesN gv at *
  generalize chkV n L Vs = R at *
  obtain ⟨W, hW⟩ : ∃ W, W = w.alloc (Obj.cells #[.int .i64 n, .slice a L.length cap] 24) := ⟨_, rfl⟩
  have hB0 : Below w.heap.size w W := by rw [hW]; exact (Below.refl _ w).alloc (Nat.le_refl _) _
  have hG : Blk W w.heap.size 24 #[.int .i64 n, .slice a L.length cap] := by rw [hW]; exact Blk.new _ _ _
  have hWs : W.heap.size = w.heap.size + 1 := by rw [hW]; simp
  have HWS := Lib.hid hWs
  have HW := Lib.hid hW
  have HB0 := Lib.hid hB0
  have HG := Lib.hid hG
  have HE := Lib.hid (h.keep hB0)
  have g0 : W.cell? ⟨w.heap.size, 0, none⟩ = some (.int .i64 n) := hG.cell 0
  have g1 : W.cell? ⟨w.heap.size, 1, none⟩ = some (.slice a L.length cap) := hG.cell 1
  clear hB0 hG hW hWs
  have HVs := Lib.hid (hv.keep HB0.out)
  generalize chkG n L = k at *
  clear h hv
  by_cases hk : k = 0
  · subst hk
    have hE2 : Hid (R = if Vs.all (isV n) then 0 else 2) := Lib.hid (by rw [hE.out, if_neg (by simp)])
    clear hE
    go_enter Try.func63, Try.ntmps63
    go_wp2_with fail
    rw [← HW.out]
    refine (HC.out _ HE.out).mono ?_
    rintro e w1 ⟨rfl, hb⟩
    have HB1 := Lib.hid hb
    have g0' : w1.cell? ⟨w.heap.size, 0, none⟩ = some (.int .i64 n) := (HG.out.below hb HG.out.lt).cell 0
    have g1' : w1.cell? ⟨w.heap.size, 1, none⟩ = some (.slice a L.length cap) := (HG.out.below hb HG.out.lt).cell 1
    clear hb
    go_wp2
    go_loopw [15] (fun v wr => ∃ i : Nat, i ≤ Vs.length ∧ v = .int .i64 i ∧ (∀ j, j < i → isV n (iAt Vs j) = true) ∧ Below W.heap.size W wr) (fun v _ => Vs.length - (intOf v).toNat)
    case atStart => exact ⟨0, by omega, rfl, fun j hj => by omega, HB1.out⟩
    case round =>
      obtain ⟨i, hi, rfl, hz, hb⟩ := hrel
      have HBr := Lib.hid hb
      have HZ := Lib.hid hz
      by_cases hlt : i < Vs.length
      · obtain ⟨b1, o1, rfl, q1, x1⟩ := (HVs.out.keep hb).one i hlt
        have g0'' : wr.cell? ⟨w.heap.size, 0, none⟩ = some (.int .i64 n) := (HG.out.below hb HG.out.lt).cell 0
        have g1'' : wr.cell? ⟨w.heap.size, 1, none⟩ = some (.slice a L.length cap) := (HG.out.below hb HG.out.lt).cell 1
        have HV1 := Lib.hid (HIV.out (iAt Vs i) wr)
        have i1 : (i : Int) < ((Vs.length : Nat) : Int) := by omega
        have HALL : Hid (isV n (iAt Vs i) = false → R = 2) := Lib.hid (fun hf => by rw [hE2.out, all_split n Vs i hlt hf]; rfl)
        have HNX : Hid (isV n (iAt Vs i) = true → ∀ j, j < i + 1 → isV n (iAt Vs j) = true) := Lib.hid (fun hf j hj => by
          by_cases e : j = i
          · subst e; exact hf
          · exact HZ.out j (by omega))
        generalize isV n (iAt Vs i) = q at *
        generalize iAt Vs i = z at *
        clear hb hz
        cases q
        · go_wp2_with fail
          refine HV1.out.mono ?_
          rintro e w2 ⟨rfl, hb2⟩
          have HB2 := Lib.hid (HBr.out.trans (hb2.mono HBr.out.size))
          clear hb2
          go_wp2
          go_ret
          exact ⟨by rw [HALL.out (by first | rfl | trivial)]; rfl, HB0.out.trans (HB2.out.mono HB0.out.size)⟩
        · go_wp2_with fail
          refine HV1.out.mono ?_
          rintro e w2 ⟨rfl, hb2⟩
          have HB2 := Lib.hid (HBr.out.trans (hb2.mono HBr.out.size))
          clear hb2
          go_wp2
          go_roundw
          case rel => exact ⟨i + 1, by omega, by go_num, (by first | exact HNX.out rfl | exact HNX.out trivial), HB2.out⟩
          case measure => simp [intOf]; omega
      · obtain rfl : i = Vs.length := by omega
        have HF : Hid (R = 0) := Lib.hid (by rw [hE2.out, all_full n Vs hz]; rfl)
        clear hb hz
        go_wp2
        go_ret
        exact ⟨by rw [HF.out]; rfl, HB0.out.trans (HBr.out.mono HB0.out.size)⟩
  · have hE2 : Hid (R = k) := Lib.hid (by rw [hE.out, if_pos hk])
    have q0 : (((k : Nat) : Int) != 0) = true := by rw [bne_iff_ne]; omega
    clear hE
    go_enter Try.func63, Try.ntmps63
    go_wp2_with fail
    rw [← HW.out]
    refine (HC.out _ HE.out).mono ?_
    rintro e w1 ⟨rfl, hb⟩
    have HB1 := Lib.hid hb
    clear hb
    go_wp2
    go_ret
    exact ⟨by rw [hE2.out]; rfl, HB0.out.trans (HB1.out.mono HB0.out.size)⟩
end Go.Proofs.Ytjaafneoinidkaa
