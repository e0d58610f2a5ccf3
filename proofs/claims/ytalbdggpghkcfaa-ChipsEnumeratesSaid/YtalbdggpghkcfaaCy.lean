/- All of the program. -/
import Derived.Test.YtalbdggpghkcfaaCx
namespace Go.Proofs.Ytalbdggpghkcfaa
open Go.RowKit Go.Proofs.Gr Go.Proofs.Cp
attribute [local go_sem] Oper.semAt_some

set_option maxHeartbeats 12800000 in
set_option maxRecDepth 100000 in
theorem pAll_good (N K : Nat) (hN : N < 12) (hK : K ≤ 1048576) (w : World) :
    Calls Try.prog 46 #[.int .i64 ((N + 1 : Nat) : Int), .int .i64 (K : Int)] w (GivesLE w (allL ((N + 1 : Nat) : Int) (K : Int)) (allK ((N + 1 : Nat) : Int) (K : Int))) := by
  obtain ⟨i0, hi0, hz0, hz1, hz2⟩ := info_parts infoDv
  have HM0 : Hid (0 < (allE N K).length) := Lib.hid (by rw [allE_len]; exact cnt_pos _ _)
  have HLN : Hid (∀ i, i < (allE N K).length → (lAt (allE N K) i).length = N + 1) := Lib.hid fun i hi => (allE_mem (m := N) (k := K) (List.mem_of_getElem? (lAt_get _ i hi))).1
  have HEF : Hid (∀ i, i < (allE N K).length → Eff (lAt (allE N K) i)) := Lib.hid fun i hi => allE_eff hN hK (List.mem_of_getElem? (lAt_get _ i hi))
  have HNX : Hid (∀ i, i < (allE N K).length → (i + 1 < (allE N K).length → nxt (lAt (allE N K) i) = some (lAt (allE N K) (i + 1))) ∧ (i + 1 = (allE N K).length → nxt (lAt (allE N K) i) = none)) := Lib.hid fun i _ => ⟨fun h => allE_at i (by rwa [allE_len] at h), fun h => allE_end i (by rwa [allE_len] at h)⟩
  have HFS : Hid (lAt (allE N K) 0 = (List.replicate (N + 1) 0).set N (K : Int)) := Lib.hid (by rw [allE_first, fst_set])
  have HM16 : Hid (manyB N K = false → (allE N K).length ≤ 16384) := Lib.hid fun h => by
    unfold manyB at h
    rw [decide_eq_false_iff_not] at h
    rw [allE_len]; omega
  have HCON : Hid (∀ a c D, D.length = N + 1 → Eff D → N + 1 ≤ c → ∀ w, IsAt w a D → Calls Try.prog 76 #[.slice a (N + 1) c] w (GivesN2 w (nxt D))) := Lib.hid fun a c D hl he _ w h => pnext_any a c D N hl he w h
  have hsk : somK ((N + 1 : Nat) : Int) (N : Int) (K : Int) = 0 := by
    unfold somK zerK
    have hb : big (K : Int) = false := big_false.2 (by omega)
    rw [if_neg (by rw [if_neg (by omega)]; simp), if_neg (by rw [hb]; simp; omega)]
  have hsl : somL ((N + 1 : Nat) : Int) (N : Int) (K : Int) = (List.replicate (N + 1) 0).set N (K : Int) := by
    unfold somL; rw [hsk, if_pos rfl]; simp
  have HSO : Hid (∀ w, Calls Try.prog 16 #[.int .i64 ((N : Int) + 1), .int .i64 (N : Int), .int .i64 (K : Int)] w (fun e x => ∃ g, w.heap.size ≤ g ∧ e = .returned (.tuple #[.slice (some ⟨g, 0, none⟩) (N + 1) (N + 1), .int .i64 0]) ∧ IsAt x (some ⟨g, 0, none⟩) (lAt (allE N K) 0) ∧ Below w.heap.size w x)) := Lib.hid fun w => by
    have h := pSome_any ((N + 1 : Nat) : Int) (N : Int) (K : Int) w
    rw [hsk, hsl] at h
    rw [show ((N + 1 : Nat) : Int) = (N : Int) + 1 by omega] at h
    refine h.mono ?_
    rintro e x (⟨-, g, hg, rfl, hr, hb⟩ | ⟨h0, -⟩)
    · refine ⟨g, hg, by simp, ?_, hb⟩
      rw [HFS.out]
      exact hr.row encI_len
    · exact absurd rfl h0
  have HMY := Lib.hid (fun w => pmany_any N K hN hK w)
  have HKV : Hid (allK ((N + 1 : Nat) : Int) (K : Int) = if manyB N K = true then 12 else 0) := Lib.hid (by unfold allK; rw [if_neg (by omega), show (((N + 1 : Nat) : Int) - 1).toNat = N by omega, Int.toNat_natCast])
  have HLV : Hid (allL ((N + 1 : Nat) : Int) (K : Int) = if manyB N K = true then [] else allE N K) := Lib.hid (by
    unfold allL
    rw [HKV.out, show (((N + 1 : Nat) : Int) - 1).toNat = N by omega, Int.toNat_natCast]
    cases manyB N K <;> rfl)
  unfold GivesLE
  generalize allL ((N + 1 : Nat) : Int) (K : Int) = R at *
  generalize allK ((N + 1 : Nat) : Int) (K : Int) = RK at *
  generalize allE N K = M at *
  generalize manyB N K = mb at *
  clear hsk hsl HFS
  have n1 : ¬ (K : Int) < 0 := by omega
  go_enter Try.func46, Try.ntmps46
  go_wp2_with fail
  refine (HSO.out w).mono ?_
  rintro e w0 ⟨g0, -, rfl, hr0, hb0⟩
  have HR0 := Lib.hid hr0
  have HB1 := Lib.hid hb0
  clear hr0 hb0
  go_wp2_with fail
  refine (HMY.out w0).mono ?_
  rintro e w1 ⟨rfl, rfl⟩
  cases mb with
  | true =>
    have HRR : Hid (R = [] ∧ RK = 12) := Lib.hid ⟨by rw [HLV.out, if_pos rfl], by rw [HKV.out, if_pos rfl]⟩
    go_wp2
    go_ret2
    exact ⟨none, 0, by rw [HRR.out.1, HRR.out.2]; rfl, by rw [HRR.out.1]; exact ⟨[], rfl, RowAt.nil _ _ _ _, fun x hx => by simp at hx⟩, HB1.out⟩
  | false =>
    have HRR : Hid (R = M ∧ RK = 0) := Lib.hid ⟨by rw [HLV.out]; simp, by rw [HKV.out]; simp⟩
    have HM16' := Lib.hid (HM16.out rfl)
    have HC0 : Hid (N + 1 ≤ N + 1) := Lib.hid (Nat.le_refl _)
    clear HM16
    go_wp2
    go_loopw [8, 9, 10] (fun s t q wr => ∃ (i : Nat) (X : List DX), X.map DX.b = M.take i ∧ OL w.heap.size wr s X ∧ Below w.heap.size w wr ∧ ((i < M.length ∧ ∃ p c, t = .slice (some p) (N + 1) c ∧ N + 1 ≤ c ∧ q = .bool true ∧ IsAt wr (some p) (lAt M i) ∧ s.ownBlock ≠ some p.block) ∨ (i = M.length ∧ t = .slice none 0 0 ∧ q = .bool false))) (fun s _ _ _ => M.length - lenOf s)
    case atStart => exact ⟨0, [], rfl, OL.nil _ _, HB1.out, .inl ⟨HM0.out, ⟨g0, 0, none⟩, _, rfl, HC0.out, rfl, HR0.out, by simp [Value.ownBlock]⟩⟩
    case round =>
      obtain ⟨i, X, hX, hol, hb, ⟨hlt, p, c, rfl, hcap, rfl, hat, hne⟩ | ⟨hi, rfl, rfl⟩⟩ := hrel
      · have HBR := Lib.hid hb
        have HBS := Lib.hid hb.size
        have HOW := Lib.hid hol.own
        have hxl : X.length = i := by
          have := congrArg List.length hX
          rw [List.length_map, List.length_take] at this
          omega
        have HXL := Lib.hid hxl
        have HLO : Hid (lenOf u8 = i) := Lib.hid (by rw [hol.len, hxl])
        have hx16 : X.length ≤ 16384 := by have := HM16'.out; omega
        have HLI := Lib.hid (HLN.out i hlt)
        have HEI := Lib.hid (HEF.out i hlt)
        have HXN : Hid ((X ++ [DX.mk (some p) (lAt M i) c]).map DX.b = M.take (i + 1)) := Lib.hid (by rw [List.map_append, hX, take_lAt M i hlt]; rfl)
        have HPU : Hid (∀ {g cap : Nat} {V' : World} {o : Obj}, V'.ownsRow w.heap.size 23 1 (.slice (some ⟨g, 0, none⟩) (X.length + 1) cap) (X.length + 1) (flat encD X ++ [.slice (some p) (N + 1) c]) → (wr.alloc o).grownBy V' u8.ownBlock → (u8.ownBlock = some g ∨ g = wr.heap.size + 1) → OL w.heap.size V' (.slice (some ⟨g, 0, none⟩) (X.length + 1) cap) (X ++ [DX.mk (some p) (lAt M i) c]) ∧ IsAt V' (some p) (lAt M i) ∧ ∀ p', some p = some p' → some g ≠ some p'.block) := Lib.hid fun hown hg hl => hol.push (DX.mk (some p) (lAt M i) c) (by show 1 ≤ (lAt M i).length; rw [HLI.out]; omega) hat (fun p' e => by injection e with e; rw [← e]; exact hne) (by unfold encD; simp only; rw [HLI.out]; exact hown) hg hl
        have HCC := Lib.hid hcap
        have HMN := Lib.hid (HNX.out i hlt)
        have HLT := Lib.hid hlt
        have HNC : Hid (∀ w', IsAt w' (some p) (lAt M i) → Calls Try.prog 76 #[.slice (some p) (N + 1) c] w' (GivesN2 w' (nxt (lAt M i)))) := Lib.hid fun w' h => HCON.out (some p) c (lAt M i) HLI.out HEI.out hcap w' h
        clear hX hol hb hcap hat hne hlt hxl
        go_wp2_with (at_builtin; refine wpList_append_lies _ rfl _ _ 65 rfl w.heap.size 23 i0 (.slice none 0 0) 1 24 Try.underlying65 hi0 hz0 hz1 hz2 rfl (by decide) u8 X.length (flat encD X) rfl (HOW.out.alloc _) ⟨_, 0, none⟩ 1 1 [.slice (some p) (N + 1) c] rfl rfl (lit_row _ _ _) (by simp [Value.oneCell']) (by decide) (by unfold maxLen; omega) (by omega) (by rw [World.size_alloc]; have := HBS.out; omega) (wr.heap.size + 1) (World.size_alloc ..) ?_; intro g cap w3 hown1 hgrow1 hlie hlt3; have hB3 : Below w.heap.size w w3 := below_push (w := w) HBR.out (fun k hk => (HOW.out.lt k hk).1) hgrow1; have HB3 := Lib.hid hB3; have hpush := HPU.out hown1 hgrow1 hlie; have HPUS := Lib.hid hpush; have HG3 := Lib.hid hlt3; clear hown1 hgrow1 hlie hB3 hpush hlt3)
        refine (HNC.out w3 HPUS.out.2.1).mono ?_
        rintro e w4 hn
        by_cases hi1 : i + 1 < M.length
        · have hl2 := HLN.out (i + 1) hi1
          obtain ⟨p2, c2, rfl, hc2, hp2, hr2, hb4⟩ := n2_some hn (HMN.out.1 hi1) hl2
          have HOLN := Lib.hid (HPUS.out.1.keep hb4)
          have HBN := Lib.hid (HB3.out.trans (hb4.mono HB3.out.size))
          have HR2 := Lib.hid hr2
          have HC2 := Lib.hid hc2
          have HNE : Hid ((Value.slice (some ⟨g, 0, none⟩) (X.length + 1) cap).ownBlock ≠ some p2.block) := Lib.hid fun e => by
            have e1 : g = p2.block := by simpa [Value.ownBlock] using e
            have := HG3.out
            omega
          have HI1 := Lib.hid hi1
          clear hn hr2 hb4 hc2 hp2 hl2 hi1
          go_wp2
          go_roundw
          case rel => exact ⟨i + 1, _, HXN.out, HOLN.out, HBN.out, .inl ⟨HI1.out, p2, c2, rfl, HC2.out, rfl, HR2.out, HNE.out⟩⟩
          case measure => have := HXL.out; have := HLT.out; rw [HLO.out]; show M.length - (X.length + 1) < _; omega
        · have hi2 : i + 1 = M.length := by have := HLT.out; omega
          obtain ⟨rfl, hb4⟩ := n2_none hn (HMN.out.2 hi2)
          have HOLN := Lib.hid (HPUS.out.1.keep hb4)
          have HBN := Lib.hid (HB3.out.trans (hb4.mono HB3.out.size))
          have HI1 := Lib.hid hi2
          clear hn hb4 hi2 hi1
          go_wp2
          go_roundw
          case rel => exact ⟨i + 1, _, HXN.out, HOLN.out, HBN.out, .inr ⟨HI1.out, rfl, rfl⟩⟩
          case measure => have := HXL.out; have := HLT.out; rw [HLO.out]; show M.length - (X.length + 1) < _; omega
      · obtain ⟨p9, c9, hv, hls⟩ := hol.done
        have hXM : X.map DX.b = M := by rw [hX, hi, List.take_length]
        rw [hXM] at hv hls
        subst hv
        have HLS := Lib.hid hls
        have HBE := Lib.hid hb
        clear hX hol hb hls hXM
        go_wp2
        refine bodyPost_ret (v := .tuple #[.slice p9 M.length c9, .int .i64 0]) (by simp [results, Try.results46, go_sem]) rfl ?_
        first | exact ⟨p9, ⟨c9, by rw [HRR.out.1, HRR.out.2]; rfl⟩, by rw [HRR.out.1]; exact HLS.out, HBE.out⟩ | exact ⟨p9, c9, by rw [HRR.out.1, HRR.out.2]; rfl, by rw [HRR.out.1]; exact HLS.out, HBE.out⟩
end Go.Proofs.Ytalbdggpghkcfaa
