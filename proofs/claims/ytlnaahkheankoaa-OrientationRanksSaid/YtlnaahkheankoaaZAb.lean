/- Turned orientations, by the reference. -/
import Derived.Test.YtlnaahkheankoaaQ09
import Derived.Test.YtlnaahkheankoaaQ07
import Derived.Test.YtlnaahkheankoaaQ00
import Derived.LoopN
namespace Go.Proofs.Ytlnaahkheankoaa
open Go.RowKit Go.Shelf Go.Proofs.Gr
attribute [local go_sem] Oper.semAt_some

/-- Hands back a list of bools. -/
def GivesBL (w : World) (l : List Bool) (e : Ending) (x : World) : Prop := ∃ a c, e = .returned (.slice a l.length c) ∧ BsAt x a l ∧ Below w.heap.size w x
set_option maxHeartbeats 12800000 in
set_option maxRecDepth 100000 in
theorem rturned_any (b : Option Addr) (c : Nat) (O : List Bool) (hO : O.length ≤ 100000000) (s : Option Addr) (d : Nat) (S : List Int) (hS : S.length ≤ 100000000) (hrg : ∀ i, i < S.length → 0 ≤ iAt S i ∧ iAt S i < O.length) (w : World) (ho : BsAt w b O) (hs : IsAt w s S) :
    Calls Try.prog 81 #[.slice b O.length c, .slice s S.length d] w (GivesBL w (revL O S S.length)) := by
  obtain ⟨i0, hi0, hz0, hz1, hz2⟩ := info_parts infoB
  have HV0 : Hid (revL O S 0 = O) := Lib.hid rfl
  have HVS : Hid (∀ k, revL O S (k + 1) = (revL O S k).set (iAt S k).toNat (!bAt (revL O S k) (iAt S k).toNat)) := Lib.hid fun _ => rfl
  have HVL := Lib.hid (revL_len O S)
  have HRG := Lib.hid hrg
  have HS2 := Lib.hid hs
  unfold GivesBL
  generalize revL O S = RV at *
  have HB1 : Hid (Below w.heap.size w (w.alloc (Obj.cells #[] 4))) := Lib.hid ((Below.refl _ _).alloc (Nat.le_refl _) _)
  have HO : Hid ((w.alloc (Obj.cells #[] 4)).ownsRow w.heap.size 4 1 (.slice (some ⟨w.heap.size, 0, none⟩) 0 0) 0 []) := Lib.hid (World.ownsRow_lit w #[] 0 (Nat.le_refl _) (by decide) rfl)
  rcases b with _ | ad
  · obtain rfl : O = [] := by
      rcases O with _ | ⟨p, O⟩
      · rfl
      · obtain ⟨b', o', e, _⟩ := ho 0 (by simp); cases e
    obtain rfl : S = [] := by
      rcases S with _ | ⟨z, S⟩
      · rfl
      · have := hrg 0 (by simp)
        simp at this
        omega
    clear hrg ho hs
    go_enter Try.func81, Try.ntmps81
    go_wp2
    refine wp_loop_rounds 1 ?_
    rw [rounds_succ]
    go_wp2
    go_ret
    exact ⟨_, _, by rw [HVL.out]; rfl, (by first | exact RowAt.nil _ _ _ _ | (rw [HV0.out]; exact RowAt.nil _ _ _ _)), HB1.out⟩
  · have hnews : ∀ (W : World), Below w.heap.size w W → ∀ j u, (flat encB O)[j]? = some u → W.cell? (ad.add j) = some u := by
      intro W hb j u hj
      rcases O with _ | ⟨p, O⟩
      · simp [flat] at hj
      · have hk := ho.keep hb
        obtain ⟨b', o', e, _⟩ := hk 0 (by simp)
        injection e with e
        subst e
        exact RowAt.cells (k := 1) (enc := encB) (by decide) (fun _ => rfl) hk j u hj
    have HNW := Lib.hid hnews
    have HFL : Hid ((flat encB O).length = O.length * 1) := Lib.hid (flat_len encB_len O)
    have H1 : Hid (∀ u ∈ flat encB O, u.oneCell' = true) := Lib.hid (fun u hu => by
      obtain ⟨x, _, hx⟩ := List.mem_flatMap.1 hu
      simp only [encB, List.mem_cons, List.not_mem_nil, or_false] at hx
      rcases hx with rfl; rfl)
    clear hnews ho hs hrg
    obtain ⟨fl, hfl⟩ : ∃ fl, fl = flat encB O := ⟨_, rfl⟩
    rw [← hfl] at HNW HFL H1
    have HFE := Lib.hid hfl
    clear hfl
    go_enter Try.func81, Try.ntmps81
    go_wp2_with (at_builtin; refine wpList_append_own _ rfl _ _ 25 rfl w.heap.size 4 i0 (.bool false) 1 1 Try.underlying25 hi0 hz0 hz1 hz2 rfl (by decide) _ _ _ rfl HO.out ad O.length c fl rfl HFL.out (HNW.out _ HB1.out) H1.out (by unfold maxLen; omega) (by omega) (by rw [World.size_alloc]; omega) ?_; intro v1 w3 hown1 hgrow1 _; have hB3 : Below w.heap.size w w3 := below_push (w := w) (Below.refl _ w) (fun k hk => (HO.out.lt k hk).1) hgrow1; rw [Nat.zero_add, List.nil_append] at hown1; have HO1 : Hid (w3.ownsRow w.heap.size 4 1 v1 O.length (flat encB O)) := Lib.hid (by rw [← HFE.out]; exact hown1); have HB3 := Lib.hid hB3; clear hown1 hgrow1 hB3)
    obtain ⟨sa, sc, rfl, -⟩ := RowAt.of_own encB_len HO1.out
    have HOW0 := HO1
    go_loopw [6] (fun x wr => ∃ i : Nat, i ≤ S.length ∧ x = .int .i64 i ∧ wr.ownsRow w.heap.size 4 1 (.slice sa O.length sc) O.length (flat encB (RV i)) ∧ Below w.heap.size w wr) (fun x _ => S.length - (intOf x).toNat)
    case atStart => exact ⟨0, by omega, rfl, by rw [HV0.out]; exact HOW0.out, HB3.out⟩
    case round =>
      obtain ⟨i, hi, rfl, hown, hb⟩ := hrel
      by_cases hlt : i < S.length
      · have i1 : (i : Int) < (S.length : Int) := by omega
        have i2 : (0 : Int) ≤ (i : Int) := by omega
        obtain ⟨b1, o1, hb1, q1, x1⟩ := (HS2.out.keep hb).one i hlt
        subst hb1
        obtain ⟨hr1, hr2⟩ := HRG.out i hlt
        have HVn := Lib.hid (HVS.out i)
        obtain ⟨v, hv⟩ : ∃ v : Nat, iAt S i = v := ⟨(iAt S i).toNat, by omega⟩
        rw [hv] at x1 hr2 HVn
        rw [show ((v : Nat) : Int).toNat = v by omega] at HVn
        have c1 : (v : Int) < (O.length : Int) := by omega
        have c2 : (0 : Int) ≤ (v : Int) := by omega
        obtain ⟨g, c9, hvv⟩ := own_pos hown (by omega)
        injection hvv with e1 e2 e3
        subst e1 e3
        have hg1 := (hown.lt g rfl).1
        obtain ⟨Q, hQ⟩ : ∃ Q, RV i = Q := ⟨_, rfl⟩
        have hql := HVL.out i
        rw [hQ] at hown HVn hql
        have HQL : Hid (v < Q.length) := Lib.hid (by omega)
        have hqq : (flat encB Q)[v]? = some (.bool (bAt Q v)) := by
          have := flat_at (k := 1) (enc := encB) encB_len Q v 0 HQL.out (by decide)
          rw [Nat.mul_one, Nat.add_zero] at this
          rw [this, bAt_get Q v HQL.out]; rfl
        have y0 : wr.cell? ⟨g, v, none⟩ = some (.bool (bAt Q v)) := (hown.cellAt v (by omega)).trans hqq
        have y1 : wr.drew.frozen? ⟨g, v, none⟩ = false := hown.frozenAt v
        have own2 := (hown.stored v (.bool (!bAt Q v))).1
        rw [flatB_map, ← List.map_set, ← flatB_map, ← HVn.out] at own2
        have hgl := (hown.lt g rfl).2
        have HXY : Hid (∀ u, Below wr.heap.size wr u → u.cell? ⟨b1, o1 + i, none⟩ = some (.int .i64 v) ∧ u.cell? ⟨g, v, none⟩ = some (.bool (bAt Q v))) := Lib.hid fun u hu => ⟨(hu.cell (p := ⟨b1, o1 + i, none⟩) q1).trans x1, (hu.cell (p := ⟨g, v, none⟩) hgl).trans y0⟩
        have y2 : wr.drew.cell? ⟨g, v, none⟩ = some (.bool (bAt Q v)) := y0
        have HOWN := Lib.hid own2
        have HBN : Hid (Below w.heap.size w (wr.setCell ⟨g, v, none⟩ (.bool (!bAt Q v)))) := Lib.hid (hb.setCell (p := ⟨g, v, none⟩) hg1 _)
        clear x1 y0 own2 hqq hb hown
        generalize bAt Q v = bq at *
        go_wp2
        have hj0 : Below wr.heap.size wr wr.drew := (Below.refl _ _).drew
        refine wp_region_late (S := fun u => Below wr.heap.size wr u) (X := [14]) (by kernel_rfl) ?_
        refine wpAnyL_pureD (i := 0) 16 (.slice (some ⟨g, 0, none⟩) O.length sc) rfl rfl (by kernel_rfl) (by kernel_rfl) (by kernel_rfl) (fun _ _ _ h => h) (Or.inl ⟨by rfl, fun u _ => ?_⟩) ?_
        · go_simp
        try simp only [Act.put, List.setIfInBounds_toArray, List.set_cons_zero, List.set_cons_succ]
        refine wpAnyL_pureD (i := 1) 17 (.slice (some ⟨b1, o1, none⟩) S.length d) rfl rfl (by kernel_rfl) (by kernel_rfl) (by kernel_rfl) (fun _ _ _ h => h) (Or.inl ⟨by rfl, fun u _ => ?_⟩) ?_
        · go_simp
        try simp only [Act.put, List.setIfInBounds_toArray, List.set_cons_zero, List.set_cons_succ]
        refine wpAnyL_pureD (i := 2) 18 (.int .i64 i) rfl rfl (by kernel_rfl) (by kernel_rfl) (by kernel_rfl) (fun _ _ _ h => h) (Or.inl ⟨by rfl, fun u _ => ?_⟩) ?_
        · go_simp
        try simp only [Act.put, List.setIfInBounds_toArray, List.set_cons_zero, List.set_cons_succ]
        refine wpAnyL_pureD (i := 3) 19 (.pointer (some ⟨b1, o1 + i, none⟩)) rfl rfl (by kernel_rfl) (by kernel_rfl) (by kernel_rfl) (fun _ _ _ h => h) (Or.inl ⟨by rfl, fun u _ => ?_⟩) ?_
        · go_simp
        try simp only [Act.put, List.setIfInBounds_toArray, List.set_cons_zero, List.set_cons_succ]
        refine wpAnyL_takeD (i := 4) 20 (.int .i64 v) rfl rfl (by kernel_rfl) (by kernel_rfl) (by kernel_rfl) (by kernel_rfl) (by kernel_rfl) (fun _ _ _ h => h) hj0 (Or.inl ⟨by rfl, fun u hu => ?_⟩) ?_
        · obtain ⟨t0, t1⟩ := HXY.out u hu
          go_simp
        try simp only [Act.put, List.setIfInBounds_toArray, List.set_cons_zero, List.set_cons_succ]
        refine wpAnyL_pureD (i := 5) 21 (.slice (some ⟨g, 0, none⟩) O.length sc) rfl rfl (by kernel_rfl) (by kernel_rfl) (by kernel_rfl) (fun _ _ _ h => h) (Or.inl ⟨by rfl, fun u _ => ?_⟩) ?_
        · go_simp
        try simp only [Act.put, List.setIfInBounds_toArray, List.set_cons_zero, List.set_cons_succ]
        refine wpAnyL_pureD (i := 6) 22 (.slice (some ⟨b1, o1, none⟩) S.length d) rfl rfl (by kernel_rfl) (by kernel_rfl) (by kernel_rfl) (fun _ _ _ h => h) (Or.inl ⟨by rfl, fun u _ => ?_⟩) ?_
        · go_simp
        try simp only [Act.put, List.setIfInBounds_toArray, List.set_cons_zero, List.set_cons_succ]
        refine wpAnyL_pureD (i := 7) 23 (.int .i64 i) rfl rfl (by kernel_rfl) (by kernel_rfl) (by kernel_rfl) (fun _ _ _ h => h) (Or.inl ⟨by rfl, fun u _ => ?_⟩) ?_
        · go_simp
        try simp only [Act.put, List.setIfInBounds_toArray, List.set_cons_zero, List.set_cons_succ]
        refine wpAnyL_pureD (i := 8) 24 (.pointer (some ⟨b1, o1 + i, none⟩)) rfl rfl (by kernel_rfl) (by kernel_rfl) (by kernel_rfl) (fun _ _ _ h => h) (Or.inl ⟨by rfl, fun u _ => ?_⟩) ?_
        · go_simp
        try simp only [Act.put, List.setIfInBounds_toArray, List.set_cons_zero, List.set_cons_succ]
        refine wpAnyL_takeD (i := 9) 25 (.int .i64 v) rfl rfl (by kernel_rfl) (by kernel_rfl) (by kernel_rfl) (by kernel_rfl) (by kernel_rfl) (fun _ _ _ h => h) hj0 (Or.inl ⟨by rfl, fun u hu => ?_⟩) ?_
        · obtain ⟨t0, t1⟩ := HXY.out u hu
          go_simp
        try simp only [Act.put, List.setIfInBounds_toArray, List.set_cons_zero, List.set_cons_succ]
        refine wpAnyL_pureD (i := 10) 26 (.pointer (some ⟨g, v, none⟩)) rfl rfl (by kernel_rfl) (by kernel_rfl) (by kernel_rfl) (fun _ _ _ h => h) (Or.inl ⟨by rfl, fun u _ => ?_⟩) ?_
        · go_simp
        try simp only [Act.put, List.setIfInBounds_toArray, List.set_cons_zero, List.set_cons_succ]
        refine wpAnyL_takeD (i := 11) 27 (.bool bq) rfl rfl (by kernel_rfl) (by kernel_rfl) (by kernel_rfl) (by kernel_rfl) (by kernel_rfl) (fun _ _ _ h => h) hj0 (Or.inl ⟨by rfl, fun u hu => ?_⟩) ?_
        · obtain ⟨t0, t1⟩ := HXY.out u hu
          go_simp
        try simp only [Act.put, List.setIfInBounds_toArray, List.set_cons_zero, List.set_cons_succ]
        refine wpAnyL_pureD (i := 12) 28 (.bool (!bq)) rfl rfl (by kernel_rfl) (by kernel_rfl) (by kernel_rfl) (fun _ _ _ h => h) (Or.inl ⟨by rfl, fun u _ => ?_⟩) ?_
        · go_simp
        try simp only [Act.put, List.setIfInBounds_toArray, List.set_cons_zero, List.set_cons_succ]
        refine wpAnyL_pureD (i := 13) 29 (.pointer (some ⟨g, v, none⟩)) rfl rfl (by kernel_rfl) (by kernel_rfl) (by kernel_rfl) (fun _ _ _ h => h) (Or.inl ⟨by rfl, fun u _ => ?_⟩) ?_
        · go_simp
        try simp only [Act.put, List.setIfInBounds_toArray, List.set_cons_zero, List.set_cons_succ]
        refine wpAnyL_one (i := 14) (by kernel_rfl) rfl (fun K hK => ?_)
        go_simp
        refine hK.out _ _ (fun h => absurd (by decide) h) ?_
        clear hK K
        try simp only [Act.put, List.setIfInBounds_toArray, List.set_cons_zero, List.set_cons_succ]
        refine wpAnyL_done (by kernel_rfl) ?_ _
        try simp only [Act.put, List.setIfInBounds_toArray, List.set_cons_zero, List.set_cons_succ]
        clear hj0 y1 y2
        go_wp2
        go_roundw
        case rel => exact ⟨i + 1, by omega, by go_num, HOWN.out, HBN.out.drew⟩
        case measure => simp [intOf]; omega
      · obtain rfl : i = S.length := by omega
        have i1 : ¬ (S.length : Int) < (S.length : Int) := by omega
        have hql := HVL.out S.length
        obtain ⟨a9, c9, e8, hra⟩ := of_own_len encB_len hown hql.symm
        injection e8 with e81 _ e83
        subst e81 e83
        have HRA := Lib.hid hra
        have HQL := Lib.hid hql
        have HEND := Lib.hid hb
        clear hown hb hra hql
        go_wp2
        go_ret
        first | exact ⟨_, _, by rw [HQL.out]; rfl, HRA.out, HEND.out⟩ | exact ⟨_, ⟨_, by rw [HQL.out]; rfl⟩, HRA.out, HEND.out⟩
set_option maxHeartbeats 12800000 in
set_option maxRecDepth 100000 in
theorem rreverse_any (n : Int) (a : Option Addr) (cap : Nat) (L : List E) (hL : L.length ≤ 100000) (b : Option Addr) (c : Nat) (O : List Bool) (hO : O.length ≤ 100000000) (s : Option Addr) (d : Nat) (S : List Int) (hS : S.length ≤ 100000) (hd : S.length ≤ d) (w : World) (h : EsAt w a L) (ho : BsAt w b O) (hs : IsAt w s S) :
    Calls Try.prog 40 #[gv n a L.length cap, .slice b O.length c, .slice s S.length d] w (GivesBE w (okL (revE n L O S) (revL O S S.length)) (revE n L O S)) := by
  have HCH := Lib.hid (fun w h ho => rcheckO_any n a cap L hL b c O hO w h ho)
  have HTU := Lib.hid (fun hrg w ho hs => rturned_any b c O hO s d S (by omega) hrg w ho hs)
  have HH := Lib.hid (fun v w i h => holds_any s d (S.take i) (by rw [List.length_take]; omega) v w h)
  have HRZ : Hid (revE n L O S = 0 → ∀ i, i < S.length → 0 ≤ iAt S i ∧ iAt S i < O.length) := Lib.hid fun hz i hi => ⟨((revE_zero hz).2 i hi).1, ((revE_zero hz).2 i hi).2.1⟩
  have HE1 : Hid (chkO n L O ≠ 0 → revE n L O S = chkO n L O) := Lib.hid fun hz => by unfold revE; rw [if_pos hz]
  have HE2 : Hid (chkO n L O = 0 → revE n L O S = firstE (nErr O.length S) S.length) := Lib.hid fun hz => by unfold revE; rw [if_neg (by omega)]
  have HX1 := Lib.hid (fun h => okL_pos (k := revE n L O S) (revL O S S.length) h)
  have HX2 := Lib.hid (fun h => okL_neg (k := revE n L O S) (revL O S S.length) h)
  unfold GivesBE
  unfold GivesBL at *
  unfold GivesN gv at *
  generalize okL (revE n L O S) (revL O S S.length) = X at *
  generalize revL O S S.length = RV at *
  generalize revE n L O S = K at *
  generalize chkO n L O = k at *
  obtain ⟨W, hW⟩ : ∃ W, W = w.alloc (Obj.cells #[.int .i64 n, .slice a L.length cap] 24) := ⟨_, rfl⟩
  have hb0 : Below w.heap.size w W := by rw [hW]; exact (Below.refl _ _).alloc (Nat.le_refl _) _
  have hg : Blk W w.heap.size 24 #[.int .i64 n, .slice a L.length cap] := by rw [hW]; exact Blk.new _ _ _
  have HB0 := Lib.hid hb0
  have HE := Lib.hid (h.keep hb0)
  have HO := Lib.hid (ho.keep hb0)
  have HVs := Lib.hid (hs.keep hb0)
  have HW := Lib.hid hW
  have g0 : (w.alloc (Obj.cells #[.int .i64 n, .slice a L.length cap] 24)).cell? ⟨w.heap.size, 0, none⟩ = some (.int .i64 n) := by rw [← hW]; exact hg.cell 0
  have g1 : (w.alloc (Obj.cells #[.int .i64 n, .slice a L.length cap] 24)).cell? ⟨w.heap.size, 1, none⟩ = some (.slice a L.length cap) := by rw [← hW]; exact hg.cell 1
  clear hb0 hg hW h ho hs
  go_enter Try.func40, Try.ntmps40
  go_wp2_with fail
  rw [← HW.out]
  refine (HCH.out _ HE.out HO.out).mono ?_
  rintro e w1 ⟨rfl, hb⟩
  have HB1 := Lib.hid hb
  clear g0 g1 hb
  by_cases hk : k ≠ 0
  · have q0 : (((k : Nat) : Int) != 0) = true := by rw [bne_iff_ne]; omega
    have HKE := Lib.hid (HE1.out hk)
    have HXA := Lib.hid (HX2.out (by rw [HE1.out hk]; exact hk))
    have HEND := Lib.hid (HB0.out.trans (HB1.out.mono HB0.out.size))
    clear hk
    go_wp2
    go_ret2
    first | exact ⟨none, 0, by rw [HXA.out, HKE.out]; rfl, by rw [HXA.out]; exact RowAt.nil _ _ _ _, HEND.out⟩ | exact ⟨none, ⟨0, by rw [HXA.out, HKE.out]; rfl⟩, by rw [HXA.out]; exact RowAt.nil _ _ _ _, HEND.out⟩
  · have hk0 : k = 0 := by omega
    have HKF := Lib.hid (HE2.out hk0)
    subst hk0
    clear hk HE1 HE2
    have HV1 := Lib.hid (HVs.out.keep HB1.out)
    go_wp2
    go_loopw [9] (fun v wr => ∃ i : Nat, i ≤ S.length ∧ v = .int .i64 i ∧ (∀ j, j < i → nErr O.length S j = 0) ∧ Below w1.heap.size w1 wr) (fun v _ => S.length - (intOf v).toNat)
    case atStart => exact ⟨0, by omega, rfl, fun j hj => by omega, Below.refl _ _⟩
    case round =>
      obtain ⟨i, hi, rfl, hz, hb⟩ := hrel
      have HBr := Lib.hid hb
      have HZ := Lib.hid hz
      by_cases hlt : i < S.length
      · have HVr := Lib.hid ((HV1.out.keep hb).take i)
        obtain ⟨b1, o1, hbb, q1, x1⟩ := (HV1.out.keep hb).one i hlt
        subst hbb
        have i1 : (i : Int) < ((S.length : Nat) : Int) := by omega
        have i0 : (0 : Int) ≤ (i : Int) := by omega
        have HEr : Hid (nErr O.length S i = if iAt S i < 0 ∨ (O.length : Int) ≤ iAt S i then 2 else if (S.take i).contains (iAt S i) = true then 7 else 0) := Lib.hid rfl
        have HFI : Hid (nErr O.length S i ≠ 0 → firstE (nErr O.length S) S.length = nErr O.length S i) := Lib.hid (fun hne => firstE_at HZ.out hne hlt)
        have HNX : Hid (nErr O.length S i = 0 → ∀ j, j < i + 1 → nErr O.length S j = 0) := Lib.hid (fun h0 j hj => by
          by_cases e : j = i
          · subst e; exact h0
          · exact HZ.out j (by omega))
        have HHi : Hid (∀ v w, IsAt w (some ⟨b1, o1, none⟩) (S.take i) → Calls Try.prog 80 #[.slice (some ⟨b1, o1, none⟩) i d, .int .i64 v] w (fun e w' => e = .returned (.bool ((S.take i).contains v)) ∧ w = w')) := Lib.hid fun v w h => by
          have h9 := HH.out v w i h
          rwa [List.length_take, Nat.min_eq_left hi] at h9
        generalize firstE (nErr O.length S) S.length = FE at *
        generalize nErr O.length S i = er at *
        generalize iAt S i = z at *
        generalize hr : (S.take i).contains z = r at *
        have hHz : Hid (∀ w, IsAt w (some ⟨b1, o1, none⟩) (S.take i) → Calls Try.prog 80 #[.slice (some ⟨b1, o1, none⟩) i d, .int .i64 z] w (fun e w' => e = .returned (.bool r) ∧ w = w')) := Lib.hid fun w h => by
          have h9 := HHi.out z w h
          rwa [hr] at h9
        clear hb hz hr
        by_cases hz0 : z < 0
        · have HEr' : er = 2 := by rw [HEr.out, if_pos (Or.inl hz0)]
          have p0 : decide (z < 0) = true := decide_eq_true hz0
          have HKE : Hid (K = 2) := Lib.hid (by rw [HKF.out, HFI.out (by rw [HEr']; omega), HEr'])
          have HXA := Lib.hid (HX2.out (by rw [HKE.out]; omega))
          have HEND := Lib.hid (HB0.out.trans ((HB1.out.trans (HBr.out.mono HB1.out.size)).mono HB0.out.size))
          go_wp2
          go_ret2
          first | exact ⟨none, 0, by rw [HXA.out, HKE.out]; rfl, by rw [HXA.out]; exact RowAt.nil _ _ _ _, HEND.out⟩ | exact ⟨none, ⟨0, by rw [HXA.out, HKE.out]; rfl⟩, by rw [HXA.out]; exact RowAt.nil _ _ _ _, HEND.out⟩
        · by_cases hz1 : (O.length : Int) ≤ z
          · have HEr' : er = 2 := by rw [HEr.out, if_pos (Or.inr hz1)]
            have p0 : decide (z < 0) = false := decide_eq_false hz0
            have p1 : decide ((O.length : Int) ≤ z) = true := decide_eq_true hz1
            have HKE : Hid (K = 2) := Lib.hid (by rw [HKF.out, HFI.out (by rw [HEr']; omega), HEr'])
            have HXA := Lib.hid (HX2.out (by rw [HKE.out]; omega))
            have HEND := Lib.hid (HB0.out.trans ((HB1.out.trans (HBr.out.mono HB1.out.size)).mono HB0.out.size))
            go_wp2
            go_ret2
            first | exact ⟨none, 0, by rw [HXA.out, HKE.out]; rfl, by rw [HXA.out]; exact RowAt.nil _ _ _ _, HEND.out⟩ | exact ⟨none, ⟨0, by rw [HXA.out, HKE.out]; rfl⟩, by rw [HXA.out]; exact RowAt.nil _ _ _ _, HEND.out⟩
          · have HEr2 : Hid (er = if r = true then 7 else 0) := Lib.hid (by rw [HEr.out, if_neg (fun h => h.elim hz0 hz1)])
            have p0 : decide (z < 0) = false := decide_eq_false hz0
            have p1 : decide ((O.length : Int) ≤ z) = false := decide_eq_false hz1
            have ic : i ≤ d := by omega
            have ic2 : (i : Int) ≤ (d : Int) := by omega
            have HS : Hid (∀ x, Below wr.heap.size wr x → (Below wr.heap.size wr x ∧ x.cell? ⟨b1, o1 + i, none⟩ = some (.int .i64 z))) := fun x hx => ⟨hx, (hx.cell (p := ⟨b1, o1 + i, none⟩) q1).trans x1⟩
            cases r
            · have HEr' : er = 0 := by rw [HEr2.out]; rfl
              go_wp2
              have hk2 : Below wr.heap.size wr wr.drew := (Below.refl _ _).drew
              obtain ⟨_, f0⟩ := HS.out _ hk2
              go_region_held3 (fun x => Below wr.heap.size wr x ∧ x.cell? ⟨b1, o1 + i, none⟩ = some (.int .i64 z))
                (first | exact HS.out _ (by assumption) | exact HS.out _ (Below.drew (by assumption)))
                (first | (go_at_call 80; refine (hHz.out _ (HVr.out.keep hk2)).mono ?_; rintro e wz ⟨rfl, rfl⟩))
              have HB2 := Lib.hid (HBr.out.trans (hk2.mono HBr.out.size))
              clear hk2 f0
              go_wp2
              go_roundw
              case rel => exact ⟨i + 1, by omega, by go_num, HNX.out HEr', HB2.out⟩
              case measure => simp [intOf]; omega
            · have HEr' : er = 7 := by rw [HEr2.out]; rfl
              go_wp2
              have hk2 : Below wr.heap.size wr wr.drew := (Below.refl _ _).drew
              obtain ⟨_, f0⟩ := HS.out _ hk2
              go_region_held3 (fun x => Below wr.heap.size wr x ∧ x.cell? ⟨b1, o1 + i, none⟩ = some (.int .i64 z))
                (first | exact HS.out _ (by assumption) | exact HS.out _ (Below.drew (by assumption)))
                (first | (go_at_call 80; refine (hHz.out _ (HVr.out.keep hk2)).mono ?_; rintro e wz ⟨rfl, rfl⟩))
              have HB2 := Lib.hid (HBr.out.trans (hk2.mono HBr.out.size))
              clear hk2 f0
              have HKE : Hid (K = 7) := Lib.hid (by rw [HKF.out, HFI.out (by rw [HEr']; omega), HEr'])
              have HXA := Lib.hid (HX2.out (by rw [HKE.out]; omega))
              have HEND := Lib.hid (HB0.out.trans ((HB1.out.trans (HB2.out.mono HB1.out.size)).mono HB0.out.size))
              go_wp2
              go_ret2
              first | exact ⟨none, 0, by rw [HXA.out, HKE.out]; rfl, by rw [HXA.out]; exact RowAt.nil _ _ _ _, HEND.out⟩ | exact ⟨none, ⟨0, by rw [HXA.out, HKE.out]; rfl⟩, by rw [HXA.out]; exact RowAt.nil _ _ _ _, HEND.out⟩
      · obtain rfl : i = S.length := by omega
        have HKE : Hid (K = 0) := Lib.hid (by rw [HKF.out]; exact firstE_zero HZ.out)
        have HXA := Lib.hid (HX1.out HKE.out)
        have HTk := Lib.hid (HTU.out (HRZ.out HKE.out) wr ((HO.out.keep HB1.out).keep HBr.out) (HV1.out.keep HBr.out))
        clear hb hz
        go_wp2_with fail
        refine HTk.out.mono ?_
        rintro e x9 ⟨ra, rc, rfl, hr9, hb9⟩
        have HR9 := Lib.hid hr9
        have HEND := Lib.hid (HB0.out.trans ((HB1.out.trans ((HBr.out.trans (hb9.mono HBr.out.size)).mono HB1.out.size)).mono HB0.out.size))
        clear hr9 hb9
        go_wp2
        go_ret2
        first | exact ⟨ra, rc, by rw [HXA.out, HKE.out]; rfl, by rw [HXA.out]; exact HR9.out, HEND.out⟩ | exact ⟨ra, ⟨rc, by rw [HXA.out, HKE.out]; rfl⟩, by rw [HXA.out]; exact HR9.out, HEND.out⟩
end Go.Proofs.Ytlnaahkheankoaa
