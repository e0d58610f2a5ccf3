/- Sets of the reference. -/
import Derived.Test.YtgejkgeojjgclaaFy
namespace Go.Proofs.Ytgejkgeojjgclaa
open Go.RowKit Go.Proofs.Gr Go.Proofs.Cp
attribute [local go_sem] Oper.semAt_some

set_option maxHeartbeats 12800000 in
set_option maxRecDepth 100000 in
theorem rSets_any (n : Int) (a : Option Addr) (cap : Nat) (L : List E) (hL : L.length ≤ 100000) (b : Option Addr) (c : Nat) (S : List Int) (hS : S.length ≤ 1000) (w : World) (h : EsAt w a L) (ho : IsAt w b S) :
    Calls Try.prog 39 #[gv n a L.length cap, .slice b S.length c] w (GivesLE w (setsV n L S) (setsK n L S)) := by
  obtain ⟨i0, hi0, hz0, hz1, hz2⟩ := info_parts infoSI
  obtain ⟨j0, hj0, hy0, hy1, hy2⟩ := info_parts infoI
  have HC := Lib.hid (fun w h ho => rckS_any n a cap L hL b c S hS w h ho)
  have HR1 : Hid (chkGD n L S ≠ 0 → setsK n L S = chkGD n L S ∧ setsV n L S = []) := Lib.hid fun h => by
    have : setsK n L S = chkGD n L S := by unfold setsK; rw [if_pos h]
    exact ⟨this, by unfold setsV; rw [if_pos (by rw [this]; exact h)]⟩
  have HR2 : Hid (chkGD n L S = 0 → 256 < moS S - leS S → setsK n L S = 12 ∧ setsV n L S = []) := Lib.hid fun h h' => by
    have : setsK n L S = 12 := by unfold setsK; rw [if_neg (by omega), if_pos h']
    exact ⟨this, by unfold setsV; rw [if_pos (by rw [this]; decide)]⟩
  have HR3 : Hid (chkGD n L S = 0 → ¬ 256 < moS S - leS S → setsK n L S = 0 ∧ setsV n L S = lstT S (moS S - leS S).toNat) := Lib.hid fun h h' => by
    have : setsK n L S = 0 := by unfold setsK; rw [if_neg (by omega), if_neg h']
    exact ⟨this, by unfold setsV; rw [if_neg (by omega)]⟩
  have HRG : Hid (chkGD n L S = 0 → 1 ≤ S.length ∧ -1048576 ≤ leS S ∧ leS S ≤ moS S ∧ moS S ≤ 1048576) := Lib.hid fun h => by
    obtain ⟨_, hd, _⟩ := chkGD_zero h
    have h1 := hd.one
    obtain ⟨j, hj, e⟩ := maxT_at S (S.length - 1)
    obtain ⟨j', hj', e'⟩ := minT_at S (S.length - 1)
    have a1 := div_at hd j (by omega)
    have a2 := div_at hd j' (by omega)
    refine ⟨h1, ?_, le_mo S, ?_⟩
    · unfold leS; omega
    · unfold moS; omega
  have HEN : Hid (1 ≤ S.length → ∀ u, IsAt u b S → Calls Try.prog 74 #[.slice b S.length c] u (fun e w' => e = .returned (.tuple #[.int .i64 (leS S), .int .i64 (moS S)]) ∧ Below u.heap.size u w')) := Lib.hid fun h0 u hu => rEnds_any b c S h0 hS u hu
  have HLN : Hid (chkGD n L S = 0 → n = (S.length : Int)) := Lib.hid fun h => by have := (chkGD_zero h).2.2; omega
  have HGP : Hid (1 ≤ S.length → ∀ m, m < moS S → 1 ≤ (grT S m S.length).length) := Lib.hid fun h0 m hm => grT_pos S m h0 hm
  have HS0 : Hid (lstT S 0 = []) := Lib.hid rfl
  have HSS : Hid (∀ k : Nat, lstT S (k + 1) = lstT S k ++ [grT S (moS S - 1 - k) S.length]) := Lib.hid fun _ => rfl
  have HSL := Lib.hid (fun k => lstT_len S k)
  have HQ0 : Hid (∀ m, grT S m 0 = []) := Lib.hid fun m => rfl
  have HQS : Hid (∀ m k, grT S m (k + 1) = grT S m k ++ (if m < iAt S k then [(k : Int)] else [])) := Lib.hid fun _ _ => rfl
  have HQL := Lib.hid (fun m k => grT_len S m k)
  generalize setsK n L S = RK at *
  generalize setsV n L S = RV at *
  generalize chkGD n L S = K at *
  generalize leS S = lo at *
  generalize moS S = hi at *
  generalize lstT S = Z at *
  generalize grT S = GT at *
  unfold GivesLE gv at *
  unfold GivesN at HC
  obtain ⟨W, hW⟩ : ∃ W, W = w.alloc (Obj.cells #[.int .i64 n, .slice a L.length cap] 24) := ⟨_, rfl⟩
  have hB0 : Below w.heap.size w W := by rw [hW]; exact (Below.refl _ w).alloc (Nat.le_refl _) _
  have hG : Blk W w.heap.size 24 #[.int .i64 n, .slice a L.length cap] := by rw [hW]; exact Blk.new _ _ _
  have HW := Lib.hid hW
  have HB0 := Lib.hid hB0
  have HE1 := Lib.hid (h.keep hB0)
  have g0 := hG.cell 0
  have g1 := hG.cell 1
  simp only [List.getElem?_toArray, List.getElem?_cons_zero, List.getElem?_cons_succ] at g0 g1
  have HHS := Lib.hid (ho.keep hB0)
  rw [hW] at g0 g1
  have HF : Hid (∀ u, Below W.heap.size W u → u.cell? ⟨w.heap.size, 0, none⟩ = some (.int .i64 n) ∧ u.cell? ⟨w.heap.size, 1, none⟩ = some (.slice a L.length cap)) := Lib.hid fun u hu => ⟨(hG.below hu hG.lt).cell 0, (hG.below hu hG.lt).cell 1⟩
  clear ho hB0 hG hW h
  go_enter Try.func39, Try.ntmps39
  go_wp2_with fail
  rw [← HW.out]
  refine (HC.out _ HE1.out HHS.out).mono ?_
  rintro e w1 ⟨rfl, hb⟩
  have HB1 := Lib.hid hb
  clear g0 g1 hb
  by_cases hk : K ≠ 0
  · have q0 : (((K : Nat) : Int) != 0) = true := by rw [bne_iff_ne]; omega
    have HR := Lib.hid (HR1.out hk)
    clear hk
    go_wp2
    go_ret2
    exact ⟨none, 0, by rw [HR.out.1, HR.out.2]; rfl, by rw [HR.out.2]; exact LsAt.nil _, HB0.out.trans (HB1.out.mono HB0.out.size)⟩
  · have hK0 : K = 0 := by omega
    have HR2a := Lib.hid (HR2.out hK0)
    have HR3a := Lib.hid (HR3.out hK0)
    obtain ⟨hs1, r1, r2, r3⟩ := HRG.out hK0
    have HENa := Lib.hid (HEN.out hs1)
    have hn := HLN.out hK0
    have HGPa := Lib.hid (HGP.out hs1)
    clear hk HR1 HC HR2 HR3 HRG HEN HLN HGP hs1
    subst hn
    subst hK0
    go_wp2_with fail
    refine (HENa.out _ (HHS.out.keep HB1.out)).mono ?_
    rintro e w3 ⟨rfl, hb⟩
    have HB3 := Lib.hid (HB1.out.trans (hb.mono HB1.out.size))
    clear hb
    by_cases hbig : 256 < hi - lo
    · have HR := Lib.hid (HR2a.out hbig)
      go_wp2
      go_ret2
      exact ⟨none, 0, by rw [HR.out.1, HR.out.2]; rfl, by rw [HR.out.2]; exact LsAt.nil _, HB0.out.trans (HB3.out.mono HB0.out.size)⟩
    · have HR := Lib.hid (HR3a.out (by omega))
      obtain ⟨T, hT⟩ : ∃ T : Nat, hi - lo = T := ⟨(hi - lo).toNat, by omega⟩
      rw [hT, Int.toNat_natCast] at HR
      have hbig' : hi - lo ≤ 256 := by omega
      have HTL : Hid (lo = hi - T ∧ T ≤ 256) := Lib.hid ⟨by omega, by omega⟩
      clear hbig HR2a HR3a hT
      go_wp2
      go_loopw [9, 10] (fun s x wr => ∃ (i : Nat) (X : List DX), i ≤ T ∧ x = .int .i64 (hi - 1 - i) ∧ X.map DX.b = Z i ∧ OL W.heap.size wr s X ∧ Below W.heap.size W wr) (fun _ x _ => (intOf x - (lo - 1)).toNat)
      case atStart => exact ⟨0, [], by omega, by go_num, by rw [HS0.out]; rfl, OL.nil _ _, HB3.out⟩
      case round =>
        obtain ⟨i, X, hi1, rfl, hX, hol, hb⟩ := hrel
        have HBR := Lib.hid hb
        have HX := Lib.hid hX
        have hxl : X.length = i := by
          have := congrArg List.length hX
          rw [List.length_map, HSL.out i] at this
          exact this
        have HXL := Lib.hid hxl
        by_cases hlt : i < T
        · have htl := HTL.out
          have j1 : lo ≤ hi - 1 - (i : Int) := by omega
          have HLT := Lib.hid hlt
          have HOL := Lib.hid hol
          have HSI := Lib.hid (HSS.out i)
          have HGI := Lib.hid (HGPa.out (hi - 1 - i) (by omega))
          have hil : (i : Int) ≤ 256 := by omega
          clear hX hol hb hlt hxl htl
          obtain ⟨V0, hV0⟩ : ∃ V, V = wr := ⟨_, rfl⟩
          go_wp2
          go_loopw [11, 12] (fun s x wr => ∃ v : Nat, v ≤ S.length ∧ x = .int .i64 v ∧ wr.ownsRow V0.heap.size 3 1 s (GT (hi - 1 - (i : Int)) v).length (flat encI (GT (hi - 1 - (i : Int)) v)) ∧ Below V0.heap.size V0 wr) (fun _ x _ => S.length - (intOf x).toNat)
          case atStart => exact ⟨0, by omega, rfl, by rw [HQ0.out]; exact World.ownsRow_nil _ _ _ _, by rw [hV0]; exact Below.refl _ _⟩
          case round =>
            obtain ⟨v, hv1, rfl, hown, hb⟩ := hrel
            have HOI := Lib.hid hown
            have HBI := Lib.hid hb
            have HBZ := Lib.hid hb.size
            have hbW : Below W.heap.size W wr := by rw [hV0] at hb; exact HBR.out.trans (hb.mono HBR.out.size)
            obtain ⟨g0, g1⟩ := HF.out wr hbW
            have HBW := Lib.hid hbW
            by_cases hlv : v < S.length
            · have k1 : (v : Int) < (S.length : Int) := by omega
              have k2 : (0 : Int) ≤ (v : Int) := by omega
              have HLV := Lib.hid hlv
              have hll := HQL.out (hi - 1 - (i : Int)) v
              have hqs := HQS.out (hi - 1 - (i : Int)) v
              obtain ⟨b1, o1, hb1, q1, x1⟩ := (HHS.out.keep hbW).one v hlv
              subst hb1
              generalize GT (hi - 1 - (i : Int)) v = PP at *
              generalize iAt S v = z at *
              by_cases hz : hi - 1 - (i : Int) < z
              · rw [if_pos hz] at hqs
                have HSn := Lib.hid hqs
                have k3 : z > hi - 1 - (i : Int) := hz
                clear hqs hown hb hbW hz q1
                go_wp2_with (at_builtin; refine wpList_append_own _ rfl _ _ 25 rfl V0.heap.size 3 j0 (.int .i64 0) 1 8 Try.underlying25 hj0 hy0 hy1 hy2 rfl (by decide) _ _ _ rfl (HOI.out.alloc _) ⟨wr.heap.size, 0, none⟩ 1 1 [.int .i64 (v : Int)] rfl rfl (lit_row _ _ _) (by simp [Value.oneCell']) (by unfold maxLen; omega) (by omega) (by rw [World.size_alloc]; have := HBZ.out; omega) ?_; intro v1 w5 hown1 hgrow1 hnil; clear hnil; have HO3 : Hid (w5.ownsRow V0.heap.size 3 1 v1 (PP ++ [(v : Int)]).length (flat encI (PP ++ [(v : Int)]))) := Lib.hid (by rw [List.length_append, flatI_snoc]; exact hown1); have HB5 : Hid (Below V0.heap.size V0 w5) := Lib.hid (below_push (w := V0) HBI.out (fun k hk => (HOI.out.lt k hk).1) hgrow1); clear hown1 hgrow1)
                go_roundw
                case rel => exact ⟨v + 1, by have := HLV.out; omega, by go_num, by rw [HSn.out]; exact HO3.out, HB5.out⟩
                case measure => have := HLV.out; simp [intOf]; omega
              · rw [if_neg hz, List.append_nil] at hqs
                have HSn := Lib.hid hqs
                have k3 : ¬ z > hi - 1 - (i : Int) := hz
                clear hqs hown hb hbW hz q1
                go_wp2
                go_roundw
                case rel => exact ⟨v + 1, by have := HLV.out; omega, by go_num, by rw [HSn.out]; exact HOI.out, HBI.out⟩
                case measure => have := HLV.out; simp [intOf]; omega
            · obtain rfl : v = S.length := by omega
              have k1 : ¬ (S.length : Int) < (S.length : Int) := by omega
              obtain ⟨p0, c0, hv0, hr0⟩ := RowAt.of_own encI_len hown
              have hp0 : ∀ p', p0 = some p' → V0.heap.size ≤ p'.block := fun p' e => (hown.lt p'.block (by rw [hv0, e]; rfl)).1
              subst hv0
              obtain ⟨w4, hw4⟩ : ∃ V, V = wr := ⟨_, rfl⟩
              have hb4 := hb
              have e4 : Hid (w4 = wr) := Lib.hid hw4
              subst hw4
              clear hb hown hbW
              have HB4 : Hid (Below W.heap.size W w4) := Lib.hid (by rw [hV0] at hb4; exact HBR.out.trans (hb4.mono HBR.out.size))
              generalize GT (hi - 1 - (i : Int)) S.length = G at *
              have HBS := Lib.hid HB4.out.size
              have hol4 : OL W.heap.size w4 u9 X := by rw [hV0] at hb4; exact HOL.out.keep hb4
              have HOW := Lib.hid hol4.own
              have hx16 : X.length ≤ 256 := by have := HXL.out; omega
              have HXN : Hid ((X ++ [DX.mk p0 G c0]).map DX.b = Z (i + 1)) := Lib.hid (by rw [List.map_append, HX.out, HSI.out]; rfl)
              have HPU : Hid (∀ {g cap : Nat} {V' : World} {o : Obj}, V'.ownsRow W.heap.size 25 1 (.slice (some ⟨g, 0, none⟩) (X.length + 1) cap) (X.length + 1) (flat encD X ++ [.slice p0 G.length c0]) → (w4.alloc o).grownBy V' u9.ownBlock → (u9.ownBlock = some g ∨ g = w4.heap.size + 1) → OL W.heap.size V' (.slice (some ⟨g, 0, none⟩) (X.length + 1) cap) (X ++ [DX.mk p0 G c0]) ∧ IsAt V' p0 G ∧ ∀ p', p0 = some p' → some g ≠ some p'.block) := Lib.hid fun hown hg hl => hol4.push (DX.mk p0 G c0) HGI.out hr0 (fun p' e e' => by
                have h1 := hp0 p' e
                have h2 := (HOL.out.own.lt _ e').2
                rw [hV0] at h1; omega) hown hg hl
              clear hr0 hp0 hb4 hol4
              go_wp2_with (at_builtin; refine wpList_append_lies _ rfl _ _ 64 rfl W.heap.size 25 i0 (.slice none 0 0) 1 24 Try.underlying64 hi0 hz0 hz1 hz2 rfl (by decide) u9 X.length (flat encD X) rfl (HOW.out.alloc _) ⟨_, 0, none⟩ 1 1 [.slice p0 G.length c0] rfl rfl (lit_row _ _ _) (by simp [Value.oneCell']) (by decide) (by unfold maxLen; omega) (by omega) (by rw [World.size_alloc]; have := HBS.out; omega) (w4.heap.size + 1) (World.size_alloc ..) ?_; intro g cap w3 hown1 hgrow1 hlie hlt3; have hB3 : Below W.heap.size W w3 := below_push (w := W) HB4.out (fun k hk => (HOW.out.lt k hk).1) hgrow1; have HB3 := Lib.hid hB3; have hpush := HPU.out hown1 hgrow1 hlie; have HPUS := Lib.hid hpush; clear hown1 hgrow1 hlie hB3 hpush hlt3)
              go_roundw
              case rel => exact ⟨i + 1, _, by have := HLT.out; omega, by go_num, HXN.out, HPUS.out.1, HB3.out⟩
              case measure => have := HLT.out; have := HTL.out; simp [intOf]; omega
        · obtain rfl : i = T := by omega
          have htl := HTL.out
          have j1 : ¬ lo ≤ hi - 1 - (i : Int) := by omega
          obtain ⟨p9, c9, hv, hls⟩ := hol.done
          rw [hX] at hv hls
          subst hv
          have HLS := Lib.hid hls
          clear hX hol hb hxl htl hls
          go_wp2
          go_ret2
          first | exact ⟨p9, ⟨c9, by rw [HR.out.1, HR.out.2]; rfl⟩, by rw [HR.out.2]; exact HLS.out, HB0.out.trans (HBR.out.mono HB0.out.size)⟩ | exact ⟨p9, c9, by rw [HR.out.1, HR.out.2]; rfl, by rw [HR.out.2]; exact HLS.out, HB0.out.trans (HBR.out.mono HB0.out.size)⟩
end Go.Proofs.Ytgejkgeojjgclaa
