/- Sortings, by the reference: Sorting and Acyclic. -/
import Derived.Test.YtlnaahkheankoaaZAf
namespace Go.Proofs.Ytlnaahkheankoaa
open Go.RowKit Go.Shelf Go.Proofs.Gr
attribute [local go_sem] Oper.semAt_some

set_option maxHeartbeats 12800000 in
set_option maxRecDepth 100000 in
theorem rsorting_any (n : Int) (a : Option Addr) (cap : Nat) (L : List E) (hL : L.length ≤ 100000) (b : Option Addr) (c : Nat) (O : List Bool) (hk : chkO n L O = 0) (w : World) (h : EsAt w a L) (ho : BsAt w b O) :
    Calls Try.prog 74 #[gv n a L.length cap, .slice b O.length c] w (GivesI w (srtR (arcs (endsG L) O) n.toNat n.toNat)) := by
  obtain ⟨i0, hi0, hz0, hz1, hz2⟩ := info_parts infoI
  have hR := right_of (chkO_zero hk).1
  have hnn := chkG_n (chkO_zero hk).1
  have hln := ends_all hR
  have hpl : (endsG L).length = O.length := chkO_len hk
  obtain ⟨N, rfl⟩ : ∃ N : Nat, n = N := ⟨n.toNat, by omega⟩
  rw [Int.toNat_natCast]
  have HEN := Lib.hid (fun w h => rends_any N a cap L hL hR w h)
  have HFR := Lib.hid (fun p pc s d Z hZ v w hp ho hz => rfree_any p pc (endsG L) (by omega) b c O hpl s d Z hZ v w hp ho hz)
  clear hpl
  have HHO := Lib.hid (fun s d Z hZ v w h => holds_any s d Z hZ v w h)
  have HCT : Hid (∀ T v, canT (arcs (endsG L) O) T v = (!T.contains (v : Int) && freeB (arcs (endsG L) O) T (v : Int))) := Lib.hid (fun _ _ => rfl)
  have HS0 : Hid (srtR (arcs (endsG L) O) N 0 = []) := Lib.hid rfl
  have HSS : Hid (∀ k, srtR (arcs (endsG L) O) N (k + 1) = srtR (arcs (endsG L) O) N k ++ (if 0 ≤ nextD (canT (arcs (endsG L) O) (srtR (arcs (endsG L) O) N k)) N N then [nextD (canT (arcs (endsG L) O) (srtR (arcs (endsG L) O) N k)) N N] else [])) := Lib.hid (fun _ => rfl)
  have HSL := Lib.hid (fun k => srtR_len (arcs (endsG L) O) N k)
  unfold GivesI
  unfold GivesP at *
  unfold GivesB at *
  unfold gv at *
  generalize srtR (arcs (endsG L) O) N = SR at *
  generalize freeB (arcs (endsG L) O) = FB at *
  generalize canT (arcs (endsG L) O) = CT at *
  generalize endsG L = P at *
  obtain ⟨W, hW⟩ : ∃ W, W = w.alloc (Obj.cells #[.int .i64 (N : Int), .slice a L.length cap] 24) := ⟨_, rfl⟩
  have hb0 : Below w.heap.size w W := by rw [hW]; exact (Below.refl _ _).alloc (Nat.le_refl _) _
  have hg : Blk W w.heap.size 24 #[.int .i64 (N : Int), .slice a L.length cap] := by rw [hW]; exact Blk.new _ _ _
  have HB0 := Lib.hid hb0
  have HE := Lib.hid (h.keep hb0)
  have HO := Lib.hid (ho.keep hb0)
  have HG := Lib.hid hg
  have HW := Lib.hid hW
  have g0 : (w.alloc (Obj.cells #[.int .i64 (N : Int), .slice a L.length cap] 24)).cell? ⟨w.heap.size, 0, none⟩ = some (.int .i64 (N : Int)) := by rw [← hW]; exact hg.cell 0
  have g1 : (w.alloc (Obj.cells #[.int .i64 (N : Int), .slice a L.length cap] 24)).cell? ⟨w.heap.size, 1, none⟩ = some (.slice a L.length cap) := by rw [← hW]; exact hg.cell 1
  clear hb0 hg hW h ho
  go_enter Try.func74, Try.ntmps74
  go_wp2_with fail
  rw [← HW.out]
  refine (HEN.out W HE.out).mono ?_
  rintro e X ⟨p, pc, rfl, hp, hb⟩
  have HB1 := Lib.hid hb
  have HP := Lib.hid hp
  have HOX := Lib.hid (HO.out.keep hb)
  have HF : Hid (∀ u, Below X.heap.size X u → u.cell? ⟨w.heap.size, 0, none⟩ = some (.int .i64 (N : Int))) := Lib.hid (fun u hu => (HG.out.below (HB1.out.trans (hu.mono HB1.out.size)) HG.out.lt).cell 0)
  clear g0 g1 hp hb hk hR
  go_wp2
  go_loopw [6, 7] (fun s y wr => ∃ k : Nat, k ≤ N ∧ y = .int .i64 k ∧ wr.ownsRow X.heap.size 3 1 s (SR k).length (flat encI (SR k)) ∧ Below X.heap.size X wr) (fun _ y _ => N - (intOf y).toNat)
  case atStart => exact ⟨0, by omega, rfl, by rw [HS0.out]; exact World.ownsRow_nil _ _ _ _, Below.refl _ _⟩
  case round =>
    obtain ⟨k, hk, rfl, hown, hb⟩ := hrel
    generalize wr = V at *
    obtain ⟨oa, oc, rfl, hrow⟩ := RowAt.of_own encI_len hown
    have HOW := Lib.hid hown
    have HBV := Lib.hid hb
    have HRW := Lib.hid hrow
    have f0 : V.cell? ⟨w.heap.size, 0, none⟩ = some (.int .i64 (N : Int)) := HF.out V hb
    have hsl := HSL.out k
    have HSk := Lib.hid (HSS.out k)
    clear hown hb hrow
    by_cases hlt : k < N
    · have i1 : (k : Int) < (N : Int) := by omega
      have HHk := Lib.hid (fun v w h => HHO.out oa oc (SR k) (by omega) v w h)
      have HFk := Lib.hid (fun v w hp ho hz => HFR.out p pc oa oc (SR k) (by omega) v w hp ho hz)
      have HCk := Lib.hid (HCT.out (SR k))
      generalize CT (SR k) = C at *
      have HN0 : Hid (nextD C N 0 = -1) := Lib.hid rfl
      have HNS : Hid (∀ t, nextD C N (t + 1) = if C (N - 1 - t) = true then ((N - 1 - t : Nat) : Int) else nextD C N t) := Lib.hid (fun _ => rfl)
      have HNC := Lib.hid (fun t ht => next_cases C N t ht)
      generalize nextD C N = ND at *
      generalize SR k = o at *
      go_wp2
      go_loopw [8, 9] (fun x y wr => ∃ t : Nat, t ≤ N ∧ x = .int .i64 (ND t) ∧ y = .int .i64 ((N : Int) - 1 - t) ∧ Below V.heap.size V wr) (fun _ y _ => (intOf y + 1).toNat)
      case atStart => exact ⟨0, by omega, by rw [HN0.out], by simp, Below.refl _ _⟩
      case round =>
        obtain ⟨t, ht, rfl, rfl, hb⟩ := hrel
        have HBt := Lib.hid hb
        have HNt := Lib.hid (HNS.out t)
        by_cases hlt2 : t < N
        · obtain ⟨v, hv⟩ : ∃ v : Nat, v = N - 1 - t := ⟨_, rfl⟩
          have hv2 : (N : Int) - 1 - t = (v : Int) := by omega
          have hv3 : (v : Int) - 1 = (N : Int) - 1 - ((t + 1 : Nat) : Int) := by omega
          rw [← hv] at HNt
          rw [hv2]
          have j1 : (0 : Int) ≤ (v : Int) := by omega
          have j2 : (v : Int) ≤ 12 := by omega
          have HW6 : Hid (wrap64 ((v : Int) - 1) = (N : Int) - 1 - ((t + 1 : Nat) : Int)) := Lib.hid (by rw [hv3]; unfold wrap64; omega)
          have HV3 : Hid ((v : Int) - 1 = (N : Int) - 1 - ((t + 1 : Nat) : Int)) := Lib.hid (by omega)
          have HME : Hid (((N : Int) - 1 - ((t + 1 : Nat) : Int) + 1).toNat < ((v : Int) + 1).toNat) := Lib.hid (by omega)
          have HCv := Lib.hid (HCk.out v)
          have HRr := Lib.hid (HRW.out.keep hb)
          have HPr := Lib.hid ((HP.out.keep HBV.out).keep hb)
          have HOr := Lib.hid ((HOX.out.keep HBV.out).keep hb)
          clear hb hv hv2 hv3
          go_wp2_with fail
          refine (HHk.out _ _ HRr.out).mono ?_
          rintro e9 y9 ⟨rfl, rfl⟩
          cases hh : o.contains (v : Int) with
          | true =>
            have hc : C v = false := by rw [HCv.out, hh]; rfl
            have HX : Hid (ND (t + 1) = ND t) := Lib.hid (by rw [HNt.out, hc]; rfl)
            go_wp2
            go_roundw
            case rel => exact ⟨t + 1, by omega, by rw [HX.out], by first | (rw [HW6.out]; done) | (rw [HV3.out]; done) | go_num, HBt.out⟩
            case measure => simp only [intOf]; omega
          | false =>
            go_wp2_with fail
            refine (HFk.out _ _ HPr.out HOr.out HRr.out).mono ?_
            rintro e9 y9 ⟨rfl, hb9⟩
            have HB9 := Lib.hid (HBt.out.trans (hb9.mono HBt.out.size))
            clear hb9
            cases hf : FB o (v : Int) with
            | true =>
              have hc : C v = true := by rw [HCv.out, hh, hf]; rfl
              have HX : Hid (ND (t + 1) = (v : Int)) := Lib.hid (by rw [HNt.out, hc]; rfl)
              go_wp2
              go_roundw
              case rel => exact ⟨t + 1, by omega, by rw [HX.out], by first | (rw [HW6.out]; done) | (rw [HV3.out]; done) | go_num, HB9.out⟩
              case measure => simp only [intOf]; omega
            | false =>
              have hc : C v = false := by rw [HCv.out, hh, hf]; rfl
              have HX : Hid (ND (t + 1) = ND t) := Lib.hid (by rw [HNt.out, hc]; rfl)
              go_wp2
              go_roundw
              case rel => exact ⟨t + 1, by omega, by rw [HX.out], by first | (rw [HW6.out]; done) | (rw [HV3.out]; done) | go_num, HB9.out⟩
              case measure => simp only [intOf]; omega
        · obtain rfl : t = N := by omega
          have j1 : ¬ (0 : Int) ≤ (t : Int) - 1 - t := by omega
          have hnc := HNC.out t (Nat.le_refl _)
          have HLO := Lib.hid (HBV.out.trans (HBt.out.mono HBV.out.size))
          have HOWr := Lib.hid (own_keep HOW.out HBt.out)
          have hzz := HBt.out.size
          have hzx := HBV.out.size
          generalize ND t = z at *
          clear hb
          by_cases hz : 0 ≤ z
          · have HSN : Hid (SR (k + 1) = o ++ [z]) := Lib.hid (by rw [HSk.out, if_pos hz])
            clear hnc
            go_wp2_with (at_builtin; refine wpList_append_own _ rfl _ _ 28 rfl X.heap.size 3 i0 (.int .i64 0) 1 8 Try.underlying28 hi0 hz0 hz1 hz2 rfl (by decide) _ _ _ rfl (HOWr.out.alloc _) ⟨wr.heap.size, 0, none⟩ 1 1 [.int .i64 z] rfl rfl (lit_row _ _ _) (by simp [Value.oneCell']) (by unfold maxLen; omega) (by omega) (by rw [World.size_alloc]; omega) ?_; intro v1 w3 hown1 hgrow1 hnil; clear hnil; have HO3 : Hid (w3.ownsRow X.heap.size 3 1 v1 (SR (k + 1)).length (flat encI (SR (k + 1)))) := Lib.hid (by rw [HSN.out, List.length_append, flatI_snoc]; exact hown1); have HB3 : Hid (Below X.heap.size X w3) := Lib.hid (below_push (w := X) HLO.out (fun k hk => (HOWr.out.lt k hk).1) hgrow1); clear hown1 hgrow1)
            go_roundw
            case rel => exact ⟨k + 1, by omega, by go_num, HO3.out, HB3.out⟩
            case measure => simp [intOf]; omega
          · have HSN : Hid (SR (k + 1) = o) := Lib.hid (by rw [HSk.out, if_neg hz, List.append_nil])
            clear hnc
            go_wp2
            go_roundw
            case rel => exact ⟨k + 1, by omega, by go_num, by rw [HSN.out]; exact HOWr.out, HLO.out⟩
            case measure => simp [intOf]; omega
    · obtain rfl : k = N := by omega
      have i1 : ¬ (k : Int) < (k : Int) := by omega
      have HEND := Lib.hid (HB0.out.trans ((HB1.out.trans (HBV.out.mono HB1.out.size)).mono HB0.out.size))
      go_wp2
      go_ret
      first | exact ⟨_, _, rfl, HRW.out, HEND.out⟩ | exact ⟨_, ⟨_, rfl⟩, HRW.out, HEND.out⟩
set_option maxHeartbeats 12800000 in
set_option maxRecDepth 100000 in
theorem racyclic_any (n : Int) (a : Option Addr) (cap : Nat) (L : List E) (hL : L.length ≤ 100000) (b : Option Addr) (c : Nat) (O : List Bool) (hO : O.length ≤ 100000000) (w : World) (h : EsAt w a L) (ho : BsAt w b O) :
    Calls Try.prog 33 #[gv n a L.length cap, .slice b O.length c] w (GivesBIE w (okB (chkO n L O) (acyB n L O)) (okL (chkO n L O) (acyL n L O)) (chkO n L O)) := by
  have HCH := Lib.hid (fun w h ho => rcheckO_any n a cap L hL b c O hO w h ho)
  have HSO := Lib.hid (fun hk w h ho => rsorting_any n a cap L hL b c O hk w h ho)
  have HRF : Hid (chkO n L O = 0 → (acyB n L O = true → srtR (arcs (endsG L) O) n.toNat n.toNat = acyL n L O ∧ (srtR (arcs (endsG L) O) n.toNat n.toNat).length = n.toNat) ∧ (acyB n L O = false → (srtR (arcs (endsG L) O) n.toNat n.toNat).length < n.toNat ∧ acyL n L O = [])) := Lib.hid (fun hk => srt_ref (fun j hj => by
    have h1 := arcs_rng (right_of (chkO_zero hk).1) O j hj
    have h2 := chkG_n (chkO_zero hk).1
    omega))
  have HNN : Hid (chkO n L O = 0 → 1 ≤ n ∧ n ≤ 12) := Lib.hid (fun hk => chkG_n (chkO_zero hk).1)
  unfold GivesBIE
  unfold GivesI at *
  unfold GivesN gv at *
  generalize srtR (arcs (endsG L) O) n.toNat n.toNat = SR at *
  generalize acyL n L O = AL at *
  generalize acyB n L O = AB at *
  obtain ⟨W, hW⟩ : ∃ W, W = w.alloc (Obj.cells #[.int .i64 n, .slice a L.length cap] 24) := ⟨_, rfl⟩
  have hb0 : Below w.heap.size w W := by rw [hW]; exact (Below.refl _ _).alloc (Nat.le_refl _) _
  have hg : Blk W w.heap.size 24 #[.int .i64 n, .slice a L.length cap] := by rw [hW]; exact Blk.new _ _ _
  have HB0 := Lib.hid hb0
  have HE := Lib.hid (h.keep hb0)
  have HO := Lib.hid (ho.keep hb0)
  have HG := Lib.hid hg
  have HW := Lib.hid hW
  have g0 : (w.alloc (Obj.cells #[.int .i64 n, .slice a L.length cap] 24)).cell? ⟨w.heap.size, 0, none⟩ = some (.int .i64 n) := by rw [← hW]; exact hg.cell 0
  have g1 : (w.alloc (Obj.cells #[.int .i64 n, .slice a L.length cap] 24)).cell? ⟨w.heap.size, 1, none⟩ = some (.slice a L.length cap) := by rw [← hW]; exact hg.cell 1
  clear hb0 hg hW h ho
  by_cases hk : chkO n L O = 0
  · have HSOk := Lib.hid (HSO.out hk)
    obtain ⟨hr1, hr2⟩ := HRF.out hk
    have hnn := HNN.out hk
    rw [hk] at HCH
    rw [hk]
    clear HSO HRF HNN hk
    rw [okL_pos _ rfl]
    unfold okB
    rw [if_pos rfl]
    go_enter Try.func33, Try.ntmps33
    go_wp2_with fail
    rw [← HW.out]
    refine (HCH.out W HE.out HO.out).mono ?_
    rintro e x1 ⟨rfl, hb⟩
    have HB1 := Lib.hid hb
    clear g0 g1 hb
    have g0 : x1.cell? ⟨w.heap.size, 0, none⟩ = some (.int .i64 n) := (HG.out.below HB1.out HG.out.lt).cell 0
    have g1 : x1.cell? ⟨w.heap.size, 1, none⟩ = some (.slice a L.length cap) := (HG.out.below HB1.out HG.out.lt).cell 1
    go_wp2_with fail
    refine (HSOk.out x1 (HE.out.keep HB1.out) (HO.out.keep HB1.out)).mono ?_
    rintro e x2 ⟨sa, sc, rfl, hs, hb⟩
    have HB2 := Lib.hid (HB1.out.trans (hb.mono HB1.out.size))
    have HEND := Lib.hid (HB0.out.trans (HB2.out.mono HB0.out.size))
    have HS := Lib.hid hs
    clear g0 g1 hb hs
    have g0 : x2.cell? ⟨w.heap.size, 0, none⟩ = some (.int .i64 n) := (HG.out.below HB2.out HG.out.lt).cell 0
    cases AB with
    | true =>
      obtain ⟨h1, h2⟩ := hr1 rfl
      subst h1
      have j1 : ¬ (SR.length : Int) < n := by omega
      clear hr1 hr2 h2
      go_wp2
      refine bodyPost_ret (v := .tuple #[.bool true, .slice sa SR.length sc, .int .i64 0]) (by simp [results, Try.results33, go_sem]) rfl ?_
      first | exact ⟨sa, sc, rfl, HS.out, HEND.out⟩ | exact ⟨sa, ⟨sc, rfl⟩, HS.out, HEND.out⟩
    | false =>
      obtain ⟨h1, h2⟩ := hr2 rfl
      subst h2
      have j1 : (SR.length : Int) < n := by omega
      clear hr1 hr2 h1
      go_wp2
      refine bodyPost_ret (v := .tuple #[.bool false, .slice none 0 0, .int .i64 0]) (by simp [results, Try.results33, go_sem]) rfl ?_
      first | exact ⟨none, 0, rfl, RowAt.nil _ _ _ _, HEND.out⟩ | exact ⟨none, ⟨0, rfl⟩, RowAt.nil _ _ _ _, HEND.out⟩
  · have q0 : (((chkO n L O : Nat) : Int) != 0) = true := by rw [bne_iff_ne]; omega
    rw [okL_neg _ hk]
    unfold okB
    rw [if_neg hk]
    clear HSO HRF HNN
    have HK := Lib.hid hk
    clear hk
    generalize chkO n L O = k at *
    clear HK
    go_enter Try.func33, Try.ntmps33
    go_wp2_with fail
    rw [← HW.out]
    refine (HCH.out W HE.out HO.out).mono ?_
    rintro e x1 ⟨rfl, hb⟩
    have HB1 := Lib.hid hb
    clear g0 g1 hb
    have HEND := Lib.hid (HB0.out.trans (HB1.out.mono HB0.out.size))
    go_wp2
    refine bodyPost_ret (v := .tuple #[.bool false, .slice none 0 0, .int .i64 (k : Nat)]) (by simp [results, Try.results33, go_sem]) rfl ?_
    first | exact ⟨none, 0, rfl, RowAt.nil _ _ _ _, HEND.out⟩ | exact ⟨none, ⟨0, rfl⟩, RowAt.nil _ _ _ _, HEND.out⟩
end Go.Proofs.Ytlnaahkheankoaa
