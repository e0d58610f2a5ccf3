/- Directed sets, by the reference. -/
import Derived.Test.YtlnaahkheankoaaQ09
import Derived.Test.YtlnaahkheankoaaQ00
namespace Go.Proofs.Ytlnaahkheankoaa
open Go.RowKit Go.Shelf Go.Proofs.Gr
attribute [local go_sem] Oper.semAt_some

theorem cut_at (f : Nat → Bool) (m j : Nat) (hj : j < (cutI f m).length) : ∃ e : Nat, iAt (cutI f m) j = e ∧ e < m := by
  induction m with
  | zero => simp [cutI] at hj
  | succ m ih =>
    unfold cutI at hj ⊢
    by_cases h : j < (cutI f m).length
    · obtain ⟨e, h1, h2⟩ := ih h
      refine ⟨e, ?_, by omega⟩
      unfold iAt at *
      rw [List.getD_eq_getElem?_getD] at h1 ⊢
      rw [List.getElem?_append_left h]
      exact h1
    · by_cases hf : f m = true
      · rw [if_pos hf] at hj ⊢
        simp at hj
        have : j = (cutI f m).length := by omega
        refine ⟨m, ?_, by omega⟩
        unfold iAt
        rw [List.getD_eq_getElem?_getD, List.getElem?_append_right (by omega), this]
        simp
      · rw [if_neg hf] at hj
        simp at hj
        omega
/-- How many of a list's first ones are so. -/
def outN (t : Int → Bool) (C : List Int) (i : Nat) : Nat := (C.take i).countP t
theorem outN_succ (t : Int → Bool) (C : List Int) (i : Nat) (h : i < C.length) : outN t C (i + 1) = outN t C i + (if t (iAt C i) = true then 1 else 0) := by
  unfold outN
  rw [List.take_succ_eq_append_getElem h, List.countP_append, List.countP_singleton]
  have : C[i] = iAt C i := by unfold iAt; rw [List.getD_eq_getElem?_getD, List.getElem?_eq_getElem h]; rfl
  rw [this]
theorem outN_le (t : Int → Bool) (C : List Int) (i : Nat) : outN t C i ≤ i := by
  unfold outN
  exact Nat.le_trans List.countP_le_length (by rw [List.length_take]; omega)
def wayR (l o : Nat) : Int := if l = 0 ∨ (0 < o ∧ o < l) then 0 else if 0 < o then 1 else -1
theorem way_eq (o i : Nat) : wayR (o + i) o = wayN o i := by
  unfold wayR wayN
  by_cases h1 : 0 < o <;> by_cases h2 : 0 < i <;> simp [h1, h2] <;> omega
def tailS (P : List (Int × Int)) (O : List Bool) (S : List Int) (e : Int) : Bool := S.contains (arcP P O e.toNat).1
theorem cut_cnt (P : List (Int × Int)) (O : List Bool) (S : List Int) (m : Nat) (hm : m ≤ P.length) :
    (cutI (fun e => outB S (pAt P e)) m).length = cntB (outB2 S) (arcs P O) m + cntB (intB2 S) (arcs P O) m ∧ (cutI (fun e => outB S (pAt P e)) m).countP (tailS P O S) = cntB (outB2 S) (arcs P O) m := by
  induction m with
  | zero => exact ⟨rfl, rfl⟩
  | succ m ih =>
    obtain ⟨h1, h2⟩ := ih (by omega)
    have ha : pAt (arcs P O) m = arcP P O m := arcs_at _ _ _ (by omega)
    unfold cutI cntB
    rw [List.length_append, List.countP_append, h1, h2, ha]
    have ht : tailS P O S (m : Int) = S.contains (arcP P O m).1 := by unfold tailS; rw [Int.toNat_natCast]
    have hb : outB S (pAt P m) = (S.contains (arcP P O m).1 != S.contains (arcP P O m).2) := by
      unfold outB arcP
      split
      · rfl
      · simp only; cases S.contains (pAt P m).1 <;> cases S.contains (pAt P m).2 <;> rfl
    have ho : outB2 S (arcP P O m) = (S.contains (arcP P O m).1 && !S.contains (arcP P O m).2) := rfl
    have hi : intB2 S (arcP P O m) = (S.contains (arcP P O m).2 && !S.contains (arcP P O m).1) := rfl
    rw [hb, ho, hi]
    generalize cntB (outB2 S) (arcs P O) m = A
    generalize cntB (intB2 S) (arcs P O) m = B
    generalize S.contains (arcP P O m).1 = x at *
    generalize S.contains (arcP P O m).2 = y at *
    cases x <;> cases y <;> simp [ht] <;> omega
theorem way_dir (n : Int) (L : List E) (O : List Bool) (S : List Int) : wayR (cutG L S).length (outN (tailS (endsG L) O S) (cutG L S) (cutG L S).length) = dirV n L O S := by
  unfold dirV outN cutG
  rw [List.take_length]
  obtain ⟨h1, h2⟩ := cut_cnt (endsG L) O S (endsG L).length (Nat.le_refl _)
  rw [h1, h2, arcs_len, way_eq]
set_option maxHeartbeats 12800000 in
set_option maxRecDepth 100000 in
theorem rway_any (n : Int) (a : Option Addr) (cap : Nat) (L : List E) (hL : L.length ≤ 100000) (b : Option Addr) (c : Nat) (O : List Bool) (s : Option Addr) (d : Nat) (S : List Int) (hS : S.length ≤ 100000) (hk : chkO n L O = 0) (w : World) (h : EsAt w a L) (ho : BsAt w b O) (hs : IsAt w s S) :
    Calls Try.prog 78 #[gv n a L.length cap, .slice b O.length c, .slice s S.length d] w (GivesN w (dirV n L O S)) := by
  have hR := right_of (chkO_zero hk).1
  have HCU := Lib.hid (fun w h hs => rcut_any n a cap L hL hR s d S hS w h hs)
  have HEN := Lib.hid (fun w h => rends_any n a cap L hL hR w h)
  have HTL := Lib.hid (fun p q x w => rtail_any p q x w)
  have HHO := Lib.hid (fun v w h => holds_any s d S hS v w h)
  have hln := ends_all hR
  have HOL : Hid (O.length = (endsG L).length) := Lib.hid (chkO_len hk).symm
  have hcl : (cutG L S).length ≤ (endsG L).length := cutI_le _ _
  have HWD := Lib.hid (way_dir n L O S)
  have HCA : Hid (∀ j, j < (cutG L S).length → ∃ e : Nat, iAt (cutG L S) j = e ∧ e < (endsG L).length) := Lib.hid (fun j hj => cut_at _ _ j hj)
  have HTS : Hid (∀ e : Nat, tailS (endsG L) O S (e : Int) = S.contains (hdV (pAt (endsG L) e).1 (pAt (endsG L) e).2 (!bAt O e))) := Lib.hid (fun e => by unfold tailS; rw [Int.toNat_natCast, tlV_arc])
  have HNS := Lib.hid (fun i hi => outN_succ (tailS (endsG L) O S) (cutG L S) i hi)
  have HN0 : Hid (outN (tailS (endsG L) O S) (cutG L S) 0 = 0) := Lib.hid rfl
  have HNL := Lib.hid (fun i => outN_le (tailS (endsG L) O S) (cutG L S) i)
  unfold GivesN at *
  unfold GivesI GivesP at *
  unfold gv at *
  generalize tailS (endsG L) O S = TS at *
  generalize cutG L S = C at *
  generalize endsG L = P at *
  generalize outN TS C = ON at *
  generalize dirV n L O S = R at *
  obtain ⟨W, hW⟩ : ∃ W, W = w.alloc (Obj.cells #[.int .i64 n, .slice a L.length cap] 24) := ⟨_, rfl⟩
  have hb0 : Below w.heap.size w W := by rw [hW]; exact (Below.refl _ _).alloc (Nat.le_refl _) _
  have hg : Blk W w.heap.size 24 #[.int .i64 n, .slice a L.length cap] := by rw [hW]; exact Blk.new _ _ _
  have HB0 := Lib.hid hb0
  have HE := Lib.hid (h.keep hb0)
  have HO := Lib.hid (ho.keep hb0)
  have HS := Lib.hid (hs.keep hb0)
  have HG := Lib.hid hg
  have HW := Lib.hid hW
  have g0 : (w.alloc (Obj.cells #[.int .i64 n, .slice a L.length cap] 24)).cell? ⟨w.heap.size, 0, none⟩ = some (.int .i64 n) := by rw [← hW]; exact hg.cell 0
  have g1 : (w.alloc (Obj.cells #[.int .i64 n, .slice a L.length cap] 24)).cell? ⟨w.heap.size, 1, none⟩ = some (.slice a L.length cap) := by rw [← hW]; exact hg.cell 1
  clear hb0 hg hW h ho hs hk hR
  go_enter Try.func78, Try.ntmps78
  go_wp2_with fail
  rw [← HW.out]
  refine (HCU.out W HE.out HS.out).mono ?_
  rintro e x1 ⟨c1, cc, rfl, hc, hb⟩
  have HB1 := Lib.hid hb
  have HC1 := Lib.hid hc
  clear g0 g1 hc hb
  have g0 : x1.cell? ⟨w.heap.size, 0, none⟩ = some (.int .i64 n) := (HG.out.below HB1.out HG.out.lt).cell 0
  have g1 : x1.cell? ⟨w.heap.size, 1, none⟩ = some (.slice a L.length cap) := (HG.out.below HB1.out HG.out.lt).cell 1
  go_wp2_with fail
  refine (HEN.out x1 (HE.out.keep HB1.out)).mono ?_
  rintro e x2 ⟨p1, pc, rfl, hp, hb⟩
  have HP := Lib.hid hp
  have HC := Lib.hid (HC1.out.keep hb)
  have HB2 := Lib.hid (HB1.out.trans (hb.mono HB1.out.size))
  clear g0 g1 hp hb
  go_wp2
  go_loopw [9, 10] (fun x y wr => ∃ i : Nat, i ≤ C.length ∧ x = .int .i64 (ON i) ∧ y = .int .i64 i ∧ Below x2.heap.size x2 wr) (fun _ y _ => C.length - (intOf y).toNat)
  case atStart => exact ⟨0, by omega, by rw [HN0.out]; rfl, rfl, Below.refl _ _⟩
  case round =>
    obtain ⟨i, hi, rfl, rfl, hb⟩ := hrel
    by_cases hlt : i < C.length
    · have i1 : (i : Int) < (C.length : Int) := by omega
      have i2 : (0 : Int) ≤ (i : Int) := by omega
      obtain ⟨e, hce, hel⟩ := HCA.out i hlt
      have e1 : (e : Int) < (P.length : Int) := by omega
      have e2 : (0 : Int) ≤ (e : Int) := by omega
      have heo : e < O.length := by rw [HOL.out]; exact hel
      have e3 : (e : Int) < (O.length : Int) := by omega
      obtain ⟨b1, o1, hb1, q1, y1⟩ := (HC.out.keep hb).one i hlt
      obtain ⟨b2, o2, hb2, q2, y2, y3⟩ := (HP.out.keep hb).two e hel
      obtain ⟨b3, o3, hb3, q3, y4⟩ := ((HO.out.keep HB2.out).keep hb).bit e heo
      rw [hce] at y1
      subst hb1 hb2 hb3
      have HXY : Hid (∀ u, Below wr.heap.size wr u → u.cell? ⟨b1, o1 + i, none⟩ = some (.int .i64 e) ∧ u.cell? ⟨b2, o2 + e * 2, none⟩ = some (.int .i64 (pAt P e).1) ∧ u.cell? ⟨b2, o2 + e * 2 + 1, none⟩ = some (.int .i64 (pAt P e).2) ∧ u.cell? ⟨b3, o3 + e, none⟩ = some (.bool (bAt O e))) :=
        Lib.hid fun u hu => ⟨(hu.cell (p := ⟨b1, o1 + i, none⟩) q1).trans y1, (hu.cell (p := ⟨b2, o2 + e * 2, none⟩) q2).trans y2, (hu.cell (p := ⟨b2, o2 + e * 2 + 1, none⟩) q2).trans y3, (hu.cell (p := ⟨b3, o3 + e, none⟩) q3).trans y4⟩
      have HSW := Lib.hid ((HS.out.keep HB2.out).keep hb)
      have HBr := Lib.hid hb
      have HN := Lib.hid (HNS.out i hlt)
      have HTe := Lib.hid (HTS.out e)
      rw [hce] at HN
      have HNI := Lib.hid (HNL.out i)
      clear hb y1 y2 y3 y4 hce
      generalize (pAt P e).1 = pa at *
      generalize (pAt P e).2 = pb at *
      generalize bAt O e = bo at *
      go_wp2
      have hj0 : Below wr.heap.size wr wr.drew := (Below.refl _ _).drew
      refine wp_region_late (S := fun u => Below wr.heap.size wr u) (X := []) (by kernel_rfl) ?_
      refine wpAnyL_pureD (i := 0) 22 (.slice s S.length d) rfl rfl (by kernel_rfl) (by kernel_rfl) (by kernel_rfl) (fun _ _ _ h => h) (Or.inl ⟨by rfl, fun u _ => ?_⟩) ?_
      · go_simp
      try simp only [Act.put, List.setIfInBounds_toArray, List.set_cons_zero, List.set_cons_succ]
      refine wpAnyL_pureD (i := 1) 23 (.slice (some ⟨b2, o2, none⟩) P.length pc) rfl rfl (by kernel_rfl) (by kernel_rfl) (by kernel_rfl) (fun _ _ _ h => h) (Or.inl ⟨by rfl, fun u _ => ?_⟩) ?_
      · go_simp
      try simp only [Act.put, List.setIfInBounds_toArray, List.set_cons_zero, List.set_cons_succ]
      refine wpAnyL_pureD (i := 2) 24 (.slice (some ⟨b1, o1, none⟩) C.length cc) rfl rfl (by kernel_rfl) (by kernel_rfl) (by kernel_rfl) (fun _ _ _ h => h) (Or.inl ⟨by rfl, fun u _ => ?_⟩) ?_
      · go_simp
      try simp only [Act.put, List.setIfInBounds_toArray, List.set_cons_zero, List.set_cons_succ]
      refine wpAnyL_pureD (i := 3) 25 (.int .i64 i) rfl rfl (by kernel_rfl) (by kernel_rfl) (by kernel_rfl) (fun _ _ _ h => h) (Or.inl ⟨by rfl, fun u _ => ?_⟩) ?_
      · go_simp
      try simp only [Act.put, List.setIfInBounds_toArray, List.set_cons_zero, List.set_cons_succ]
      refine wpAnyL_pureD (i := 4) 26 (.pointer (some ⟨b1, o1 + i, none⟩)) rfl rfl (by kernel_rfl) (by kernel_rfl) (by kernel_rfl) (fun _ _ _ h => h) (Or.inl ⟨by rfl, fun u _ => ?_⟩) ?_
      · go_simp
      try simp only [Act.put, List.setIfInBounds_toArray, List.set_cons_zero, List.set_cons_succ]
      refine wpAnyL_takeD (i := 5) 27 (.int .i64 e) rfl rfl (by kernel_rfl) (by kernel_rfl) (by kernel_rfl) (by kernel_rfl) (by kernel_rfl) (fun _ _ _ h => h) hj0 (Or.inl ⟨by rfl, fun u hu => ?_⟩) ?_
      · obtain ⟨t0, t1, t2, t3⟩ := HXY.out u hu
        go_simp
      try simp only [Act.put, List.setIfInBounds_toArray, List.set_cons_zero, List.set_cons_succ]
      refine wpAnyL_pureD (i := 6) 28 (.pointer (some ⟨b2, o2 + e * 2, none⟩)) rfl rfl (by kernel_rfl) (by kernel_rfl) (by kernel_rfl) (fun _ _ _ h => h) (Or.inl ⟨by rfl, fun u _ => ?_⟩) ?_
      · go_simp
      try simp only [Act.put, List.setIfInBounds_toArray, List.set_cons_zero, List.set_cons_succ]
      refine wpAnyL_takeD (i := 7) 29 (.agg #[.int .i64 pa, .int .i64 pb]) rfl rfl (by kernel_rfl) (by kernel_rfl) (by kernel_rfl) (by kernel_rfl) (by kernel_rfl) (fun _ _ _ h => h) hj0 (Or.inl ⟨by rfl, fun u hu => ?_⟩) ?_
      · obtain ⟨t0, t1, t2, t3⟩ := HXY.out u hu
        go_simp
      try simp only [Act.put, List.setIfInBounds_toArray, List.set_cons_zero, List.set_cons_succ]
      refine wpAnyL_pureD (i := 8) 30 (.slice (some ⟨b3, o3, none⟩) O.length c) rfl rfl (by kernel_rfl) (by kernel_rfl) (by kernel_rfl) (fun _ _ _ h => h) (Or.inl ⟨by rfl, fun u _ => ?_⟩) ?_
      · go_simp
      try simp only [Act.put, List.setIfInBounds_toArray, List.set_cons_zero, List.set_cons_succ]
      refine wpAnyL_pureD (i := 9) 31 (.slice (some ⟨b1, o1, none⟩) C.length cc) rfl rfl (by kernel_rfl) (by kernel_rfl) (by kernel_rfl) (fun _ _ _ h => h) (Or.inl ⟨by rfl, fun u _ => ?_⟩) ?_
      · go_simp
      try simp only [Act.put, List.setIfInBounds_toArray, List.set_cons_zero, List.set_cons_succ]
      refine wpAnyL_pureD (i := 10) 32 (.int .i64 i) rfl rfl (by kernel_rfl) (by kernel_rfl) (by kernel_rfl) (fun _ _ _ h => h) (Or.inl ⟨by rfl, fun u _ => ?_⟩) ?_
      · go_simp
      try simp only [Act.put, List.setIfInBounds_toArray, List.set_cons_zero, List.set_cons_succ]
      refine wpAnyL_pureD (i := 11) 33 (.pointer (some ⟨b1, o1 + i, none⟩)) rfl rfl (by kernel_rfl) (by kernel_rfl) (by kernel_rfl) (fun _ _ _ h => h) (Or.inl ⟨by rfl, fun u _ => ?_⟩) ?_
      · go_simp
      try simp only [Act.put, List.setIfInBounds_toArray, List.set_cons_zero, List.set_cons_succ]
      refine wpAnyL_takeD (i := 12) 34 (.int .i64 e) rfl rfl (by kernel_rfl) (by kernel_rfl) (by kernel_rfl) (by kernel_rfl) (by kernel_rfl) (fun _ _ _ h => h) hj0 (Or.inl ⟨by rfl, fun u hu => ?_⟩) ?_
      · obtain ⟨t0, t1, t2, t3⟩ := HXY.out u hu
        go_simp
      try simp only [Act.put, List.setIfInBounds_toArray, List.set_cons_zero, List.set_cons_succ]
      refine wpAnyL_pureD (i := 13) 35 (.pointer (some ⟨b3, o3 + e, none⟩)) rfl rfl (by kernel_rfl) (by kernel_rfl) (by kernel_rfl) (fun _ _ _ h => h) (Or.inl ⟨by rfl, fun u _ => ?_⟩) ?_
      · go_simp
      try simp only [Act.put, List.setIfInBounds_toArray, List.set_cons_zero, List.set_cons_succ]
      refine wpAnyL_takeD (i := 14) 36 (.bool bo) rfl rfl (by kernel_rfl) (by kernel_rfl) (by kernel_rfl) (by kernel_rfl) (by kernel_rfl) (fun _ _ _ h => h) hj0 (Or.inl ⟨by rfl, fun u hu => ?_⟩) ?_
      · obtain ⟨t0, t1, t2, t3⟩ := HXY.out u hu
        go_simp
      try simp only [Act.put, List.setIfInBounds_toArray, List.set_cons_zero, List.set_cons_succ]
      refine wpAnyL_one (i := 15) (by kernel_rfl) rfl (fun K hK => ?_)
      go_simp
      go_at_call 104
      refine (HTL.out pa pb bo _).mono ?_
      rintro e9 y ⟨rfl, hb⟩
      have hj1 : Below wr.heap.size wr y := hj0.trans (hb.mono hj0.size)
      show K _ _
      refine hK.out _ _ (fun _ _ => hj1) ?_
      clear hK K
      try simp only [Act.put, List.setIfInBounds_toArray, List.set_cons_zero, List.set_cons_succ]
      refine wpAnyL_one (i := 16) (by kernel_rfl) rfl (fun K hK => ?_)
      go_simp
      go_at_call 80
      refine (HHO.out (hdV pa pb (!bo)) _ (HSW.out.keep hj1)).mono ?_
      rintro e9 y9 ⟨rfl, rfl⟩
      show K _ _
      refine hK.out _ _ (fun _ _ => hj1) ?_
      clear hK K
      try simp only [Act.put, List.setIfInBounds_toArray, List.set_cons_zero, List.set_cons_succ]
      refine wpAnyL_done (by kernel_rfl) ?_ _
      try simp only [Act.put, List.setIfInBounds_toArray, List.set_cons_zero, List.set_cons_succ]
      have HBN := Lib.hid (HBr.out.trans (hj1.mono HBr.out.size))
      clear hj0 hj1 hb
      rw [← HTe.out]
      have hni := HNI.out
      cases hq : TS (e : Int) with
      | true =>
        have HX : Hid (ON (i + 1) = ON i + 1) := Lib.hid (by rw [HN.out, hq]; rfl)
        go_wp2
        go_roundw
        case rel => exact ⟨i + 1, by omega, by rw [HX.out]; go_num, by go_num, HBN.out⟩
        case measure => simp [intOf]; omega
      | false =>
        have HX : Hid (ON (i + 1) = ON i) := Lib.hid (by rw [HN.out, hq]; rfl)
        go_wp2
        go_roundw
        case rel => exact ⟨i + 1, by omega, by rw [HX.out], by go_num, HBN.out⟩
        case measure => simp [intOf]; omega
    · obtain rfl : i = C.length := by omega
      have i1 : ¬ (C.length : Int) < (C.length : Int) := by omega
      have HEND := Lib.hid (HB0.out.trans ((HB2.out.trans (hb.mono HB2.out.size)).mono HB0.out.size))
      have hni := HNL.out C.length
      have hwd := HWD.out
      unfold wayR at hwd
      clear hb
      generalize ON C.length = o at *
      by_cases hc0 : C.length = 0
      · have k1 : ((C.length : Int) == 0) = true := by rw [hc0]; rfl
        rw [if_pos (.inl hc0)] at hwd
        have HR := Lib.hid hwd
        clear hwd
        go_wp2
        go_ret
        exact ⟨by rw [← HR.out]; rfl, HEND.out⟩
      · have k1 : ((C.length : Int) == 0) = false := by rw [beq_eq_false_iff_ne]; omega
        by_cases ho0 : 0 < o
        · have k2 : (0 : Int) < (o : Int) := by omega
          by_cases hoc : o < C.length
          · have k3 : (o : Int) < (C.length : Int) := by omega
            rw [if_pos (.inr ⟨ho0, hoc⟩)] at hwd
            have HR := Lib.hid hwd
            clear hwd
            go_wp2
            go_ret
            exact ⟨by rw [← HR.out]; rfl, HEND.out⟩
          · have k3 : ¬ (o : Int) < (C.length : Int) := by omega
            rw [if_neg (by omega), if_pos ho0] at hwd
            have HR := Lib.hid hwd
            clear hwd
            go_wp2
            go_ret
            exact ⟨by rw [← HR.out]; rfl, HEND.out⟩
        · have k2 : ¬ (0 : Int) < (o : Int) := by omega
          rw [if_neg (by omega), if_neg ho0] at hwd
          have HR := Lib.hid hwd
          clear hwd
          go_wp2
          go_ret
          exact ⟨by rw [← HR.out]; rfl, HEND.out⟩
set_option maxHeartbeats 12800000 in
set_option maxRecDepth 100000 in
theorem rdirected_any (n : Int) (a : Option Addr) (cap : Nat) (L : List E) (hL : L.length ≤ 100000) (b : Option Addr) (c : Nat) (O : List Bool) (hO : O.length ≤ 100000000) (s : Option Addr) (d : Nat) (S : List Int) (hS : S.length ≤ 100000) (w : World) (h : EsAt w a L) (ho : BsAt w b O) (hs : IsAt w s S) :
    Calls Try.prog 38 #[gv n a L.length cap, .slice b O.length c, .slice s S.length d] w (GivesNE w (okZ (dirE n L O S) (dirV n L O S)) (dirE n L O S)) := by
  have HCH := Lib.hid (fun w h ho => rcheckO_any n a cap L hL b c O hO w h ho)
  have HSU := Lib.hid (fun w h hs => rsubset_any n a cap L s d S hS w h hs)
  have HWY := Lib.hid (fun hk w h ho hs => rway_any n a cap L hL b c O s d S hS hk w h ho hs)
  have hde : dirE n L O S = if chkO n L O ≠ 0 then chkO n L O else subE n S := rfl
  unfold GivesNE
  unfold GivesN at *
  unfold gv at *
  obtain ⟨W, hW⟩ : ∃ W, W = w.alloc (Obj.cells #[.int .i64 n, .slice a L.length cap] 24) := ⟨_, rfl⟩
  have hb0 : Below w.heap.size w W := by rw [hW]; exact (Below.refl _ _).alloc (Nat.le_refl _) _
  have hg : Blk W w.heap.size 24 #[.int .i64 n, .slice a L.length cap] := by rw [hW]; exact Blk.new _ _ _
  have HB0 := Lib.hid hb0
  have HE := Lib.hid (h.keep hb0)
  have HO := Lib.hid (ho.keep hb0)
  have HS := Lib.hid (hs.keep hb0)
  have HG := Lib.hid hg
  have HW := Lib.hid hW
  have g0 : (w.alloc (Obj.cells #[.int .i64 n, .slice a L.length cap] 24)).cell? ⟨w.heap.size, 0, none⟩ = some (.int .i64 n) := by rw [← hW]; exact hg.cell 0
  have g1 : (w.alloc (Obj.cells #[.int .i64 n, .slice a L.length cap] 24)).cell? ⟨w.heap.size, 1, none⟩ = some (.slice a L.length cap) := by rw [← hW]; exact hg.cell 1
  clear hb0 hg hW h ho hs
  by_cases hk : chkO n L O = 0
  · rw [if_neg (by omega)] at hde
    by_cases hu : subE n S = 0
    · have HDE := Lib.hid (hde.trans hu)
      have HWk := Lib.hid (HWY.out hk)
      rw [hk] at HCH
      rw [hu] at HSU
      clear hde hk hu HWY
      rw [HDE.out, okZ_pos _ rfl]
      go_enter Try.func38, Try.ntmps38
      go_wp2_with fail
      rw [← HW.out]
      refine (HCH.out W HE.out HO.out).mono ?_
      rintro e x1 ⟨rfl, hb⟩
      have HB1 := Lib.hid hb
      clear g0 g1 hb
      have g0 : x1.cell? ⟨w.heap.size, 0, none⟩ = some (.int .i64 n) := (HG.out.below HB1.out HG.out.lt).cell 0
      have g1 : x1.cell? ⟨w.heap.size, 1, none⟩ = some (.slice a L.length cap) := (HG.out.below HB1.out HG.out.lt).cell 1
      go_wp2_with fail
      refine (HSU.out x1 (HE.out.keep HB1.out) (HS.out.keep HB1.out)).mono ?_
      rintro e x2 ⟨rfl, hb⟩
      have HB2 := Lib.hid (HB1.out.trans (hb.mono HB1.out.size))
      clear g0 g1 hb
      have g0 : x2.cell? ⟨w.heap.size, 0, none⟩ = some (.int .i64 n) := (HG.out.below HB2.out HG.out.lt).cell 0
      have g1 : x2.cell? ⟨w.heap.size, 1, none⟩ = some (.slice a L.length cap) := (HG.out.below HB2.out HG.out.lt).cell 1
      go_wp2_with fail
      refine (HWk.out x2 (HE.out.keep HB2.out) (HO.out.keep HB2.out) (HS.out.keep HB2.out)).mono ?_
      rintro e x3 ⟨rfl, hb⟩
      have HEND := Lib.hid (HB0.out.trans ((HB2.out.trans (hb.mono HB2.out.size)).mono HB0.out.size))
      clear g0 g1 hb
      go_wp2
      go_ret2
      exact ⟨rfl, HEND.out⟩
    · have HDE := Lib.hid hde
      rw [hk] at HCH
      have k1 : (((subE n S : Nat) : Int) != 0) = true := by simp; omega
      have HU := Lib.hid hu
      clear hde hk HWY
      rw [HDE.out, okZ_neg _ HU.out]
      generalize subE n S = k at *
      clear HDE hu HU
      go_enter Try.func38, Try.ntmps38
      go_wp2_with fail
      rw [← HW.out]
      refine (HCH.out W HE.out HO.out).mono ?_
      rintro e x1 ⟨rfl, hb⟩
      have HB1 := Lib.hid hb
      clear g0 g1 hb
      have g0 : x1.cell? ⟨w.heap.size, 0, none⟩ = some (.int .i64 n) := (HG.out.below HB1.out HG.out.lt).cell 0
      have g1 : x1.cell? ⟨w.heap.size, 1, none⟩ = some (.slice a L.length cap) := (HG.out.below HB1.out HG.out.lt).cell 1
      go_wp2_with fail
      refine (HSU.out x1 (HE.out.keep HB1.out) (HS.out.keep HB1.out)).mono ?_
      rintro e x2 ⟨rfl, hb⟩
      have HB2 := Lib.hid (HB1.out.trans (hb.mono HB1.out.size))
      clear g0 g1 hb
      have HEND := Lib.hid (HB0.out.trans (HB2.out.mono HB0.out.size))
      go_wp2
      go_ret2
      exact ⟨rfl, HEND.out⟩
  · rw [if_pos hk] at hde
    have HDE := Lib.hid hde
    have k1 : (((chkO n L O : Nat) : Int) != 0) = true := by simp; omega
    have HK := Lib.hid hk
    clear hde HWY HSU
    rw [HDE.out, okZ_neg _ HK.out]
    generalize chkO n L O = k at *
    clear HDE hk HK
    go_enter Try.func38, Try.ntmps38
    go_wp2_with fail
    rw [← HW.out]
    refine (HCH.out W HE.out HO.out).mono ?_
    rintro e x1 ⟨rfl, hb⟩
    have HB1 := Lib.hid hb
    clear g0 g1 hb
    have HEND := Lib.hid (HB0.out.trans (HB1.out.mono HB0.out.size))
    go_wp2
    go_ret2
    exact ⟨rfl, HEND.out⟩
end Go.Proofs.Ytlnaahkheankoaa
