/- Play, Counted, Count of the reference. -/
import Derived.Test.YtgejkgeojjgclaaFw
namespace Go.Proofs.Ytgejkgeojjgclaa
open Go.RowKit Go.Proofs.Gr Go.Proofs.Cp
attribute [local go_sem] Oper.semAt_some

set_option maxHeartbeats 12800000 in
set_option maxRecDepth 100000 in
theorem rPlay_any (n : Int) (a : Option Addr) (cap : Nat) (L : List E) (hL : L.length ≤ 100000) (b : Option Addr) (c : Nat) (D : List Int) (hD : D.length ≤ 1000) (sa : Option Addr) (sc : Nat) (A : List Int) (hA : A.length ≤ 100000) (w : World) (h : EsAt w a L) (ho : IsAt w b D) (hs : IsAt w sa A) :
    Calls Try.prog 34 #[gv n a L.length cap, .slice b D.length c, .slice sa A.length sc] w (fun e w' => ∃ p q, e = .returned (.tuple #[.slice p (plaR n L D A).1.length q, .int .i64 ((plaR n L D A).2.1 : Nat), .int .i64 ((plaR n L D A).2.2 : Nat)]) ∧ IsAt w' p (plaR n L D A).1 ∧ Below w.heap.size w w') := by
  obtain ⟨i0, hi0, hz0, hz1, hz2⟩ := info_parts infoI
  have HC := Lib.hid (fun w h ho => rGiven_any n a cap L hL b c D hD w h ho)
  have HCM := Lib.hid (fun w h => rMoves_any n a L.length cap sa sc A hA w h)
  have HMY : Hid (chkGD n L D = 0 → movK n A = 0 → ∀ i Q, i < A.length → Cp.Div Q → Q.length = D.length → ∀ q cp u, EsAt u a L → IsAt u q Q → Calls Try.prog 62 #[gv n a L.length cap, .slice q D.length cp, .int .i64 (iAt A i)] u (fun e w' => e = .returned (.bool (legB L Q [iAt A i])) ∧ Below u.heap.size u w')) := Lib.hid fun hz hm i Q hi hd hl q cp u h1 h2 => by
    obtain ⟨hR, hd0, hl0⟩ := chkGD_zero hz
    have hr := (movK_zero hm).2 i hi
    subst hl0
    obtain ⟨x, hx⟩ : ∃ x : Nat, iAt A i = x := ⟨(iAt A i).toNat, by omega⟩
    rw [hx] at hr ⊢
    exact rMay_any D.length a cap L hL hR q cp Q hl x (by omega) u h1 h2
  have HON : Hid (chkGD n L D = 0 → movK n A = 0 → ∀ i, i < A.length → ∀ u, Calls Try.prog 60 #[gv n a L.length cap, .int .i64 (iAt A i), .int .i64 1] u (fun e w' => ∃ p q, e = .returned (.slice p D.length q) ∧ IsAt w' p (setS n 1 [iAt A i]) ∧ Below u.heap.size u w')) := Lib.hid fun hz hm i hi u => by
    obtain ⟨hR, hd0, hl0⟩ := chkGD_zero hz
    have hr := (movK_zero hm).2 i hi
    subst hl0
    obtain ⟨x, hx⟩ : ∃ x : Nat, iAt A i = x := ⟨(iAt A i).toNat, by omega⟩
    rw [hx] at hr ⊢
    exact rOne_any D.length a L.length cap hD x (by omega) 1 u
  have HMV : Hid (chkGD n L D = 0 → movK n A = 0 → ∀ i Q, i < A.length → Cp.Div Q → Q.length = D.length → ∀ q cp p1 q1 u, EsAt u a L → IsAt u q Q → IsAt u p1 (setS n 1 [iAt A i]) → Calls Try.prog 52 #[gv n a L.length cap, .slice q D.length cp, .slice p1 D.length q1] u (fun e w' => ∃ p q, e = .returned (.slice p D.length q) ∧ IsAt w' p (chD Q (setS n 1 [iAt A i]) L) ∧ Below u.heap.size u w')) := Lib.hid fun hz hm i Q hi hd hl q cp p1 q1 u h1 h2 h3 => by
    obtain ⟨hR, hd0, hl0⟩ := chkGD_zero hz
    have hln := setS_len n 1 [iAt A i]
    have := rMoved_gd n a cap L hL hR q cp Q hd (by omega) p1 q1 (setS n 1 [iAt A i]) (setS_rng n 1 [iAt A i] (by omega)) (by omega) u h1 h2 h3
    rw [hln, show n.toNat = D.length by omega, hl] at this
    exact this
  have HRT : Hid (∀ i (Q : List Int), Q.length = D.length → ∀ p2 q2 u, IsAt u p2 (chD Q (setS n 1 [iAt A i]) L) → Calls Try.prog 51 #[.slice p2 D.length q2] u (GivesIE u (chV Q (setS n 1 [iAt A i]) L) (chK Q (setS n 1 [iAt A i]) L))) := Lib.hid fun i Q hl p2 q2 u h1 => by
    have := rright_ch Q (setS n 1 [iAt A i]) L (by omega) p2 q2 u h1
    rwa [hl] at this
  have HR1 : Hid (chkGD n L D ≠ 0 → plaR n L D A = ([], 0, chkGD n L D)) := Lib.hid fun h => by unfold plaR; rw [if_pos h]
  have HR2 : Hid (chkGD n L D = 0 → movK n A ≠ 0 → plaR n L D A = ([], 0, movK n A)) := Lib.hid fun h h' => by unfold plaR; rw [if_neg (by omega), if_pos h']
  have HR3 : Hid (chkGD n L D = 0 → movK n A = 0 → Hid (PlyOK n L D.length A (plaR n L D A) 0 D)) := Lib.hid fun h h' => Lib.hid (by unfold plaR; rw [if_neg (by omega), if_neg (by omega)]; exact ⟨(chkGD_zero h).2.1, rfl, rfl⟩)
  have HD1 : Hid (chkGD n L D = 0 → 1 ≤ D.length) := Lib.hid fun h => (chkGD_zero h).2.1.one
  generalize chkGD n L D = K at *
  generalize movK n A = M at *
  generalize plaR n L D A = R at *
  have HH1 := Lib.hid (boneI D)
  have HHFL : Hid ((flat encI D).length = D.length * 1) := Lib.hid (flat_len encI_len D)
  have HHPB : Hid (1 ≤ D.length → ∀ (w2 w' : World) v, w'.ownsRow w2.heap.size 3 1 v D.length (flat encI D) → ∃ g cap, v = .slice (some ⟨g, 0, none⟩) D.length cap ∧ w2.heap.size ≤ g ∧ PB w' g D) := Lib.hid fun h0 w2 w' v h => PB.of_own h h0
  unfold GivesIE gv at *
  unfold GivesN at HC
  obtain ⟨W, hW⟩ : ∃ W, W = w.alloc (Obj.cells #[.int .i64 n, .slice a L.length cap] 24) := ⟨_, rfl⟩
  have hB0 : Below w.heap.size w W := by rw [hW]; exact (Below.refl _ w).alloc (Nat.le_refl _) _
  have hG : Blk W w.heap.size 24 #[.int .i64 n, .slice a L.length cap] := by rw [hW]; exact Blk.new _ _ _
  have HW := Lib.hid hW
  have HB0 := Lib.hid hB0
  have HE1 := Lib.hid (h.keep hB0)
  have HF : Hid (∀ u, Below W.heap.size W u → u.cell? ⟨w.heap.size, 0, none⟩ = some (.int .i64 n) ∧ u.cell? ⟨w.heap.size, 1, none⟩ = some (.slice a L.length cap)) := Lib.hid fun u hu => ⟨(hG.below hu hG.lt).cell 0, (hG.below hu hG.lt).cell 1⟩
  obtain ⟨g0, g1⟩ := HF.out W (Below.refl _ _)
  have HHO := Lib.hid (ho.keep hB0)
  have HHS := Lib.hid (hs.keep hB0)
  have HD0 := Lib.hid hD
  rw [hW] at g0 g1
  clear ho hs hB0 hG hW h
  go_enter Try.func34, Try.ntmps34
  go_wp2_with fail
  rw [← HW.out]
  refine (HC.out _ HE1.out HHO.out).mono ?_
  rintro e w1 ⟨rfl, hb⟩
  have HB1 := Lib.hid hb
  clear g0 g1
  obtain ⟨g0, g1⟩ := HF.out w1 hb
  clear hb
  by_cases hk : K ≠ 0
  · have q0 : (((K : Nat) : Int) != 0) = true := by rw [bne_iff_ne]; omega
    have HR := Lib.hid (HR1.out hk)
    clear hk
    go_wp2
    refine bodyPost_ret (v := .tuple #[.slice none 0 0, .int .i64 0, .int .i64 (K : Nat)]) (by simp [results, Try.results34, go_sem]) rfl ?_
    exact ⟨none, 0, by rw [HR.out]; rfl, by rw [HR.out]; exact RowAt.nil _ _ _ _, HB0.out.trans (HB1.out.mono HB0.out.size)⟩
  · have hK0 : K = 0 := by omega
    have HMYa := Lib.hid (HMY.out hK0)
    have HONa := Lib.hid (HON.out hK0)
    have HMVa := Lib.hid (HMV.out hK0)
    have HR2a := Lib.hid (HR2.out hK0)
    have HR3a := Lib.hid (HR3.out hK0)
    have h1D := HD1.out hK0
    clear hk HR1 HC HMY HON HMV HR2 HR3 HD1
    subst hK0
    go_wp2_with fail
    refine (HCM.out _ (HHS.out.keep HB1.out)).mono ?_
    rintro e w2 ⟨rfl, hb⟩
    have hb2 := HB1.out.trans (hb.mono HB1.out.size)
    have HB2 := Lib.hid hb2
    clear g0 g1
    obtain ⟨g0, g1⟩ := HF.out w2 hb2
    clear hb hb2
    by_cases hm : M ≠ 0
    · have q0 : (((M : Nat) : Int) != 0) = true := by rw [bne_iff_ne]; omega
      have HR := Lib.hid (HR2a.out hm)
      clear hm
      go_wp2
      refine bodyPost_ret (v := .tuple #[.slice none 0 0, .int .i64 0, .int .i64 (M : Nat)]) (by simp [results, Try.results34, go_sem]) rfl ?_
      exact ⟨none, 0, by rw [HR.out]; rfl, by rw [HR.out]; exact RowAt.nil _ _ _ _, HB0.out.trans (HB2.out.mono HB0.out.size)⟩
    · have hM0 : M = 0 := by omega
      have HMYb := Lib.hid (HMYa.out hM0)
      have HONb := Lib.hid (HONa.out hM0)
      have HMVb := Lib.hid (HMVa.out hM0)
      have HR3b := Lib.hid (HR3a.out hM0)
      clear hm HR2a HCM HMYa HONa HMVa HR3a
      subst hM0
      have hod := HHO.out.keep HB2.out
      obtain ⟨b0, o0, rfl⟩ := IsAt.ne hod h1D
      have HNW : Hid (∀ (V : World), Below w2.heap.size w2 V → ∀ j u, (flat encI D)[j]? = some u → V.cell? ((⟨b0, o0, none⟩ : Addr).add j) = some u) := Lib.hid fun V hb j u hj => RowAt.cells (k := 1) (enc := encI) (by decide) (fun _ => rfl) (hod.keep hb) j u hj
      have HB1x : Hid (Below w2.heap.size w2 (w2.alloc (Obj.cells #[] 3))) := Lib.hid ((Below.refl _ _).alloc (Nat.le_refl _) _)
      have HO : Hid ((w2.alloc (Obj.cells #[] 3)).ownsRow w2.heap.size 3 1 (.slice (some ⟨w2.heap.size, 0, none⟩) 0 0) 0 []) := Lib.hid (World.ownsRow_lit w2 #[] 0 (Nat.le_refl _) (by decide) rfl)
      have HPB := Lib.hid (fun w' v h => HHPB.out h1D w2 w' v h)
      have HQ00 : Hid (∀ (wz : World) g, PB wz g D → IsAt wz (some ⟨g, 0, none⟩) D) := Lib.hid fun wz g h => h.row
      have HFL : Hid ((flat encI D).length = D.length * 1) := HHFL
      have H1 : Hid _ := HH1
      clear hod HHFL HH1 HHPB g0 g1
      generalize flat encI D = fl at *
      generalize hND : D.length = N at *
      go_wp2_with (at_builtin; refine wpList_append_own _ rfl _ _ 28 rfl w2.heap.size 3 i0 (.int .i64 0) 1 8 Try.underlying28 hi0 hz0 hz1 hz2 rfl (by decide) _ _ _ rfl HO.out ⟨b0, o0, none⟩ N c fl rfl HFL.out (HNW.out _ HB1x.out) H1.out (by unfold maxLen; omega) (by omega) (by rw [World.size_alloc]; omega) ?_; intro v1 w3 hown1 hgrow1 _; have hB3 : Below w2.heap.size w2 w3 := below_push (w := w2) (Below.refl _ w2) (fun k hk => (HO.out.lt k hk).1) hgrow1)
      rw [Nat.zero_add, List.nil_append] at hown1
      obtain ⟨g, cp, rfl, hgg, hpb⟩ := HPB.out _ _ hown1
      have HQ3 := Lib.hid (HQ00.out _ _ hpb)
      have HB3 := Lib.hid (HB2.out.trans (hB3.mono HB2.out.size))
      clear hown1 hgrow1 hB3 hpb hgg HPB HNW HB1x HO HFL H1 hi0 hz0 hz1 hz2 HQ00 hD
      go_wp2
      go_loopw [11, 12] (fun s x wr => ∃ (i : Nat) (Q : List Int) (q : Option Addr) (cq : Nat), i ≤ A.length ∧ s = .slice q N cq ∧ x = .int .i64 i ∧ Hid (PlyOK n L N A R i Q) ∧ IsAt wr q Q ∧ Below W.heap.size W wr) (fun _ x _ => A.length - (intOf x).toNat)
      case atStart => exact ⟨0, D, some ⟨g, 0, none⟩, cp, by omega, rfl, rfl, HR3b.out, HQ3.out, HB3.out⟩
      case round =>
        obtain ⟨i, Q, q, cq, hi, rfl, rfl, hply, hq, hb⟩ := hrel
        have HQ := Lib.hid hq
        have HBR := Lib.hid hb
        by_cases hlt : i < A.length
        · have i1 : (i : Int) < (A.length : Int) := by omega
          have i2 : (0 : Int) ≤ (i : Int) := by omega
          have HLT := Lib.hid hlt
          obtain ⟨b1, o1, hb1, q1, x1⟩ := (HHS.out.keep hb).one i hlt
          subst hb1
          have HS1 := Lib.hid (hply.out.step hlt)
          have HMYI := Lib.hid (HMYb.out i Q hlt hply.out.1 hply.out.2.1 q cq)
          have HONI := Lib.hid (HONb.out i hlt)
          have HMVI := Lib.hid (HMVb.out i Q hlt hply.out.1 hply.out.2.1 q cq)
          have HRTI := Lib.hid (HRT.out i Q hply.out.2.1)
          generalize legB L Q [iAt A i] = lb at *
          generalize chK Q (setS n 1 [iAt A i]) L = k at *
          generalize chV Q (setS n 1 [iAt A i]) L = V at *
          generalize chD Q (setS n 1 [iAt A i]) L = CD at *
          generalize setS n 1 [iAt A i] = SS at *
          generalize iAt A i = v at *
          obtain ⟨g0, g1⟩ := HF.out wr hb
          have hgw : w.heap.size < wr.heap.size := Nat.lt_of_lt_of_le (by rw [HW.out, World.size_alloc]; omega) HBR.out.size
          have HF9 : Hid (∀ u, Below wr.heap.size wr u → u.cell? ⟨w.heap.size, 0, none⟩ = some (.int .i64 n) ∧ u.cell? ⟨w.heap.size, 1, none⟩ = some (.slice a L.length cap) ∧ u.cell? ⟨b1, o1 + i, none⟩ = some (.int .i64 v)) := Lib.hid fun u hu => ⟨(hu.cell (p := ⟨w.heap.size, 0, none⟩) hgw).trans g0, (hu.cell (p := ⟨w.heap.size, 1, none⟩) hgw).trans g1, (hu.cell (p := ⟨b1, o1 + i, none⟩) q1).trans x1⟩
          clear hq hb hlt hply g0 g1 x1 q1 hgw
          go_wp2
          have hj0 : Below wr.heap.size wr wr.drew := (Below.refl _ _).drew
          refine wp_region_late (S := fun u => Below wr.heap.size wr u) (X := []) (by kernel_rfl) ?_
          refine wpAnyL_takeD (i := 0) 36 (.agg #[.int .i64 n, .slice a L.length cap]) rfl rfl (by kernel_rfl) (by kernel_rfl) (by kernel_rfl) (by kernel_rfl) (by kernel_rfl) (fun _ _ _ h => h) hj0 (Or.inl ⟨by rfl, fun u hu => ?_⟩) ?_
          · obtain ⟨t0, t1, t2⟩ := HF9.out u hu
            go_simp
          try simp only [Act.put, List.setIfInBounds_toArray, List.set_cons_zero, List.set_cons_succ]
          refine wpAnyL_pureD (i := 1) 37 (.slice q N cq) rfl rfl (by kernel_rfl) (by kernel_rfl) (by kernel_rfl) (fun _ _ _ h => h) (Or.inl ⟨by rfl, fun u _ => ?_⟩) ?_
          · go_simp
          try simp only [Act.put, List.setIfInBounds_toArray, List.set_cons_zero, List.set_cons_succ]
          refine wpAnyL_pureD (i := 2) 38 (.slice (some ⟨b1, o1, none⟩) A.length sc) rfl rfl (by kernel_rfl) (by kernel_rfl) (by kernel_rfl) (fun _ _ _ h => h) (Or.inl ⟨by rfl, fun u _ => ?_⟩) ?_
          · go_simp
          try simp only [Act.put, List.setIfInBounds_toArray, List.set_cons_zero, List.set_cons_succ]
          refine wpAnyL_pureD (i := 3) 39 (.int .i64 (i : Int)) rfl rfl (by kernel_rfl) (by kernel_rfl) (by kernel_rfl) (fun _ _ _ h => h) (Or.inl ⟨by rfl, fun u _ => ?_⟩) ?_
          · go_simp
          try simp only [Act.put, List.setIfInBounds_toArray, List.set_cons_zero, List.set_cons_succ]
          refine wpAnyL_pureD (i := 4) 40 (.pointer (some ⟨b1, o1 + i, none⟩)) rfl rfl (by kernel_rfl) (by kernel_rfl) (by kernel_rfl) (fun _ _ _ h => h) (Or.inl ⟨by rfl, fun u _ => ?_⟩) ?_
          · go_simp
          try simp only [Act.put, List.setIfInBounds_toArray, List.set_cons_zero, List.set_cons_succ]
          refine wpAnyL_takeD (i := 5) 41 (.int .i64 v) rfl rfl (by kernel_rfl) (by kernel_rfl) (by kernel_rfl) (by kernel_rfl) (by kernel_rfl) (fun _ _ _ h => h) hj0 (Or.inl ⟨by rfl, fun u hu => ?_⟩) ?_
          · obtain ⟨t0, t1, t2⟩ := HF9.out u hu
            go_simp
          try simp only [Act.put, List.setIfInBounds_toArray, List.set_cons_zero, List.set_cons_succ]
          refine wpAnyL_one (i := 6) (by kernel_rfl) rfl (fun K hK => ?_)
          go_simp
          go_at_call 62
          refine (HMYI.out _ (HE1.out.keep (HBR.out.trans (hj0.mono HBR.out.size))) (HQ.out.keep hj0)).mono ?_
          rintro e y1 ⟨rfl, hb1⟩
          have hj1 := hj0.trans (hb1.mono hj0.size)
          clear hb1
          show K _ _
          refine hK.out _ _ (fun _ _ => hj1) ?_
          clear hK K
          try simp only [Act.put, List.setIfInBounds_toArray, List.set_cons_zero, List.set_cons_succ]
          refine wpAnyL_pureD (i := 7) 43 (.bool (!lb)) rfl rfl (by kernel_rfl) (by kernel_rfl) (by kernel_rfl) (fun _ _ _ h => h) (Or.inl ⟨by rfl, fun u _ => ?_⟩) ?_
          · go_simp
          try simp only [Act.put, List.setIfInBounds_toArray, List.set_cons_zero, List.set_cons_succ]
          refine wpAnyL_done (by kernel_rfl) ?_ _
          try simp only [Act.put, List.setIfInBounds_toArray, List.set_cons_zero, List.set_cons_succ]
          have HB6 := Lib.hid (HBR.out.trans (hj1.mono HBR.out.size))
          have HQ5 := Lib.hid (HQ.out.keep hj1)
          have HF9b : Hid (∀ u, Below y1.heap.size y1 u → u.cell? ⟨w.heap.size, 0, none⟩ = some (.int .i64 n) ∧ u.cell? ⟨w.heap.size, 1, none⟩ = some (.slice a L.length cap) ∧ u.cell? ⟨b1, o1 + i, none⟩ = some (.int .i64 v)) := Lib.hid fun u hu => HF9.out u (hj1.trans (hu.mono hj1.size))
          clear hj0 hj1 HF9
          have HF9 := HF9b
          clear HF9b
          cases lb with
          | false =>
            have HR := Lib.hid (HS1.out.1 (by trivial))
            go_wp2
            refine bodyPost_ret (v := .tuple #[.slice none 0 0, .int .i64 (i : Nat), .int .i64 18]) (by simp [results, Try.results34, go_sem]) rfl ?_
            first | exact ⟨none, 0, by rw [HR.out]; rfl, by rw [HR.out]; exact RowAt.nil _ _ _ _, HB0.out.trans (HB6.out.mono HB0.out.size)⟩ | exact ⟨none, ⟨0, by rw [HR.out]; rfl⟩, by rw [HR.out]; exact RowAt.nil _ _ _ _, HB0.out.trans (HB6.out.mono HB0.out.size)⟩
          | true =>
            go_wp2
            have hj0 : Below y1.heap.size y1 y1.drew := (Below.refl _ _).drew
            refine wp_region_late (S := fun u => Below y1.heap.size y1 u) (X := []) (by kernel_rfl) ?_
            refine wpAnyL_takeD (i := 0) 46 (.agg #[.int .i64 n, .slice a L.length cap]) rfl rfl (by kernel_rfl) (by kernel_rfl) (by kernel_rfl) (by kernel_rfl) (by kernel_rfl) (fun _ _ _ h => h) hj0 (Or.inl ⟨by rfl, fun u hu => ?_⟩) ?_
            · obtain ⟨t0, t1, t2⟩ := HF9.out u hu
              go_simp
            try simp only [Act.put, List.setIfInBounds_toArray, List.set_cons_zero, List.set_cons_succ]
            refine wpAnyL_pureD (i := 1) 47 (.slice q N cq) rfl rfl (by kernel_rfl) (by kernel_rfl) (by kernel_rfl) (fun _ _ _ h => h) (Or.inl ⟨by rfl, fun u _ => ?_⟩) ?_
            · go_simp
            try simp only [Act.put, List.setIfInBounds_toArray, List.set_cons_zero, List.set_cons_succ]
            refine wpAnyL_takeD (i := 2) 48 (.agg #[.int .i64 n, .slice a L.length cap]) rfl rfl (by kernel_rfl) (by kernel_rfl) (by kernel_rfl) (by kernel_rfl) (by kernel_rfl) (fun _ _ _ h => h) hj0 (Or.inl ⟨by rfl, fun u hu => ?_⟩) ?_
            · obtain ⟨t0, t1, t2⟩ := HF9.out u hu
              go_simp
            try simp only [Act.put, List.setIfInBounds_toArray, List.set_cons_zero, List.set_cons_succ]
            refine wpAnyL_pureD (i := 3) 49 (.slice (some ⟨b1, o1, none⟩) A.length sc) rfl rfl (by kernel_rfl) (by kernel_rfl) (by kernel_rfl) (fun _ _ _ h => h) (Or.inl ⟨by rfl, fun u _ => ?_⟩) ?_
            · go_simp
            try simp only [Act.put, List.setIfInBounds_toArray, List.set_cons_zero, List.set_cons_succ]
            refine wpAnyL_pureD (i := 4) 50 (.int .i64 (i : Int)) rfl rfl (by kernel_rfl) (by kernel_rfl) (by kernel_rfl) (fun _ _ _ h => h) (Or.inl ⟨by rfl, fun u _ => ?_⟩) ?_
            · go_simp
            try simp only [Act.put, List.setIfInBounds_toArray, List.set_cons_zero, List.set_cons_succ]
            refine wpAnyL_pureD (i := 5) 51 (.pointer (some ⟨b1, o1 + i, none⟩)) rfl rfl (by kernel_rfl) (by kernel_rfl) (by kernel_rfl) (fun _ _ _ h => h) (Or.inl ⟨by rfl, fun u _ => ?_⟩) ?_
            · go_simp
            try simp only [Act.put, List.setIfInBounds_toArray, List.set_cons_zero, List.set_cons_succ]
            refine wpAnyL_takeD (i := 6) 52 (.int .i64 v) rfl rfl (by kernel_rfl) (by kernel_rfl) (by kernel_rfl) (by kernel_rfl) (by kernel_rfl) (fun _ _ _ h => h) hj0 (Or.inl ⟨by rfl, fun u hu => ?_⟩) ?_
            · obtain ⟨t0, t1, t2⟩ := HF9.out u hu
              go_simp
            try simp only [Act.put, List.setIfInBounds_toArray, List.set_cons_zero, List.set_cons_succ]
            refine wpAnyL_one (i := 7) (by kernel_rfl) rfl (fun K hK => ?_)
            go_simp
            go_at_call 60
            refine (HONI.out _).mono ?_
            rintro e z1 ⟨p1, q1, rfl, hr1, hb1⟩
            have hj1 := hj0.trans (hb1.mono hj0.size)
            clear hb1
            show K _ _
            refine hK.out _ _ (fun _ _ => hj1) ?_
            clear hK K
            try simp only [Act.put, List.setIfInBounds_toArray, List.set_cons_zero, List.set_cons_succ]
            refine wpAnyL_one (i := 8) (by kernel_rfl) rfl (fun K hK => ?_)
            go_simp
            go_at_call 52
            refine (HMVI.out p1 q1 z1 (HE1.out.keep (HB6.out.trans (hj1.mono HB6.out.size))) (HQ5.out.keep hj1) hr1).mono ?_
            rintro e z2 ⟨p2, q2, rfl, hr2, hb2⟩
            have hj2 := hj1.trans (hb2.mono hj1.size)
            clear hb2
            show K _ _
            refine hK.out _ _ (fun _ _ => hj2) ?_
            clear hK K
            try simp only [Act.put, List.setIfInBounds_toArray, List.set_cons_zero, List.set_cons_succ]
            refine wpAnyL_one (i := 9) (by kernel_rfl) rfl (fun K hK => ?_)
            go_simp
            go_at_call 51
            refine (HRTI.out p2 q2 z2 hr2).mono ?_
            rintro e z3 ⟨p9, q9, rfl, hr9, hb3⟩
            have hj3 := hj2.trans (hb3.mono hj2.size)
            clear hb3
            show K _ _
            refine hK.out _ _ (fun _ _ => hj3) ?_
            clear hK K
            try simp only [Act.put, List.setIfInBounds_toArray, List.set_cons_zero, List.set_cons_succ]
            refine wpAnyL_pureD (i := 10) 45 (.tuple #[.slice p9 V.length q9, .int .i64 (k : Nat)]) rfl rfl (by kernel_rfl) (by kernel_rfl) (by kernel_rfl) (fun _ _ _ h => h) (Or.inl ⟨by rfl, fun u _ => ?_⟩) ?_
            · go_simp
            try simp only [Act.put, List.setIfInBounds_toArray, List.set_cons_zero, List.set_cons_succ]
            refine wpAnyL_pureD (i := 11) 56 (.slice p9 V.length q9) rfl rfl (by kernel_rfl) (by kernel_rfl) (by kernel_rfl) (fun _ _ _ h => h) (Or.inl ⟨by rfl, fun u _ => ?_⟩) ?_
            · go_simp
            try simp only [Act.put, List.setIfInBounds_toArray, List.set_cons_zero, List.set_cons_succ]
            refine wpAnyL_pureD (i := 12) 57 (.int .i64 (k : Nat)) rfl rfl (by kernel_rfl) (by kernel_rfl) (by kernel_rfl) (fun _ _ _ h => h) (Or.inl ⟨by rfl, fun u _ => ?_⟩) ?_
            · go_simp
            try simp only [Act.put, List.setIfInBounds_toArray, List.set_cons_zero, List.set_cons_succ]
            refine wpAnyL_pureD (i := 13) 13 (.slice p9 V.length q9) rfl rfl (by kernel_rfl) (by kernel_rfl) (by kernel_rfl) (fun _ _ _ h => h) (Or.inl ⟨by rfl, fun u _ => ?_⟩) ?_
            · go_simp
            try simp only [Act.put, List.setIfInBounds_toArray, List.set_cons_zero, List.set_cons_succ]
            refine wpAnyL_pureD (i := 14) 14 (.int .i64 (k : Nat)) rfl rfl (by kernel_rfl) (by kernel_rfl) (by kernel_rfl) (fun _ _ _ h => h) (Or.inl ⟨by rfl, fun u _ => ?_⟩) ?_
            · go_simp
            try simp only [Act.put, List.setIfInBounds_toArray, List.set_cons_zero, List.set_cons_succ]
            refine wpAnyL_done (by kernel_rfl) ?_ _
            try simp only [Act.put, List.setIfInBounds_toArray, List.set_cons_zero, List.set_cons_succ]
            have HB7 := Lib.hid (HB6.out.trans (hj3.mono HB6.out.size))
            have HR9 := Lib.hid hr9
            clear hj0 hj1 hj2 hj3 hr1 hr2 hr9
            by_cases hk : k ≠ 0
            · have q0 : (((k : Nat) : Int) != 0) = true := by rw [bne_iff_ne]; omega
              have HR := Lib.hid (HS1.out.2.1 (by trivial) hk)
              clear hk
              go_wp2
              refine bodyPost_ret (v := .tuple #[.slice none 0 0, .int .i64 (i : Nat), .int .i64 (k : Nat)]) (by simp [results, Try.results34, go_sem]) rfl ?_
              exact ⟨none, 0, by rw [HR.out]; rfl, by rw [HR.out]; exact RowAt.nil _ _ _ _, HB0.out.trans (HB7.out.mono HB0.out.size)⟩
            · have hk0 : k = 0 := by omega
              have HN := Lib.hid (HS1.out.2.2 (by trivial) hk0)
              have HVL : Hid (V.length = N) := Lib.hid HN.out.2.1
              clear hk HS1
              subst hk0
              rw [HVL.out]
              go_wp2
              go_roundw
              case rel => exact ⟨i + 1, V, p9, q9, by have := HLT.out; omega, rfl, by go_num, Lib.hid HN.out, HR9.out, HB7.out⟩
              case measure => have := HLT.out; simp [intOf]; omega
        · obtain rfl : i = A.length := by omega
          have i1 : ¬ (A.length : Int) < (A.length : Int) := by omega
          have HR := Lib.hid hply.out.last
          clear hq hb hply
          go_wp2
          refine bodyPost_ret (v := .tuple #[.slice q N cq, .int .i64 (A.length : Nat), .int .i64 0]) (by simp [results, Try.results34, go_sem]) rfl ?_
          first | exact ⟨q, ⟨cq, by rw [HR.out.1, ← HR.out.2]; rfl⟩, by rw [HR.out.1]; exact HQ.out, HB0.out.trans (HBR.out.mono HB0.out.size)⟩ | exact ⟨q, cq, by rw [HR.out.1, ← HR.out.2]; rfl, by rw [HR.out.1]; exact HQ.out, HB0.out.trans (HBR.out.mono HB0.out.size)⟩
end Go.Proofs.Ytgejkgeojjgclaa
