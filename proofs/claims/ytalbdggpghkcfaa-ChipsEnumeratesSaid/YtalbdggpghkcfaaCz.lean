/- All in general, by both. -/
import Derived.Test.YtalbdggpghkcfaaCy
namespace Go.Proofs.Ytalbdggpghkcfaa
open Go.RowKit Go.Proofs.Gr Go.Proofs.Cp
attribute [local go_sem] Oper.semAt_some

set_option maxHeartbeats 12800000 in
set_option maxRecDepth 100000 in
theorem rListed_good (N K : Nat) (hN : N < 12) (hK : K ≤ 1048576) (hM : cnt N K ≤ 16384) (w : World) :
    Calls Try.prog 78 #[.int .i64 ((N : Int) + 1), .int .i64 (K : Int)] w (GivesL w (allE N K)) := by
  obtain ⟨i0, hi0, hz0, hz1, hz2⟩ := info_parts infoDv
  have HM0 : Hid (0 < (allE N K).length) := Lib.hid (by rw [allE_len]; exact cnt_pos _ _)
  have HLN : Hid (∀ i, i < (allE N K).length → (lAt (allE N K) i).length = N + 1) := Lib.hid fun i hi => (allE_mem (m := N) (k := K) (List.mem_of_getElem? (lAt_get _ i hi))).1
  have HEF : Hid (∀ i, i < (allE N K).length → Eff (lAt (allE N K) i)) := Lib.hid fun i hi => allE_eff hN hK (List.mem_of_getElem? (lAt_get _ i hi))
  have HNX : Hid (∀ i, i < (allE N K).length → (i + 1 < (allE N K).length → nxt (lAt (allE N K) i) = some (lAt (allE N K) (i + 1))) ∧ (i + 1 = (allE N K).length → nxt (lAt (allE N K) i) = none)) := Lib.hid fun i _ => ⟨fun h => allE_at i (by rwa [allE_len] at h), fun h => allE_end i (by rwa [allE_len] at h)⟩
  have HFS : Hid (lAt (allE N K) 0 = (List.replicate (N + 1) 0).set N (K : Int)) := Lib.hid (by rw [allE_first, fst_set])
  have HM16 : Hid ((allE N K).length ≤ 16384) := Lib.hid (by rw [allE_len]; exact hM)
  have HCON : Hid (∀ a c D, D.length = N + 1 → Eff D → N + 1 ≤ c → ∀ w, IsAt w a D → Calls Try.prog 79 #[.slice a (N + 1) c] w (GivesN2 w (nxt D))) := Lib.hid fun a c D hl he hc w h => rFollows_any a c D N hl he hc w h
  unfold GivesL
  generalize allE N K = M at *
  have hmk : (Instr.makeSlice 23 (.int .i64 ((N + 1 : Nat) : Int)) (.int .i64 ((N + 1 : Nat) : Int))).run Try.prog w = .ok (.slice (some ⟨w.heap.size, 0, none⟩) (N + 1) (N + 1)) (w.alloc (.cells (flat encI (List.replicate (N + 1) 0)).toArray 3)) := make_divs (N + 1) (by omega) _
  rw [show ((N + 1 : Nat) : Int) = (N : Int) + 1 by omega] at hmk
  obtain ⟨W9, hW9⟩ : ∃ v, v = w.alloc (.cells (flat encI (List.replicate (N + 1) 0)).toArray 3) := ⟨_, rfl⟩
  obtain ⟨g0, hgg⟩ : ∃ v, v = w.heap.size := ⟨_, rfl⟩
  have hrb : RowB encI 3 W9 g0 (List.replicate (N + 1) 0) := by rw [hW9, hgg]; exact RowB.new _ _ _ _
  have hbl : Below w.heap.size w W9 := by rw [hW9]; exact (Below.refl _ _).alloc (Nat.le_refl _) _
  have hge : w.heap.size ≤ g0 := by rw [hgg]; exact Nat.le_refl _
  rw [← hW9, ← hgg] at hmk
  have s1 := hrb.cell N (by simp)
  have s2 : W9.frozen? ⟨g0, N, none⟩ = false := Blk.frozen hrb N
  have i1 : (N : Int) < (N : Int) + 1 := by omega
  have i2 : (N : Int) < ((N + 1 : Nat) : Int) := by omega
  have HR0 : Hid (IsAt (W9.setCell ⟨g0, N, none⟩ (.int .i64 (K : Int))) (some ⟨g0, 0, none⟩) (lAt M 0)) := Lib.hid (by rw [HFS.out]; exact (hrb.set N (K : Int)).row encI_len)
  have HB1 : Hid (Below w.heap.size w (W9.setCell ⟨g0, N, none⟩ (.int .i64 (K : Int)))) := Lib.hid (hbl.setCell (p := ⟨g0, N, none⟩) hge _)
  have HC0 : Hid (N + 1 ≤ N + 1) := Lib.hid (Nat.le_refl _)
  generalize iAt (List.replicate (N + 1) 0) N = old at s1
  clear hW9 hgg hrb hbl hge HFS
  go_enter Try.func78, Try.ntmps78
  go_wp2
  clear s1 s2
  go_loopw [5, 6, 7] (fun t s q wr => ∃ (i : Nat) (X : List DX), X.map DX.b = M.take i ∧ OL w.heap.size wr s X ∧ Below w.heap.size w wr ∧ ((i < M.length ∧ ∃ p c, t = .slice (some p) (N + 1) c ∧ N + 1 ≤ c ∧ q = .bool true ∧ IsAt wr (some p) (lAt M i) ∧ s.ownBlock ≠ some p.block) ∨ (i = M.length ∧ t = .slice none 0 0 ∧ q = .bool false))) (fun _ s _ _ => M.length - lenOf s)
  case atStart => exact ⟨0, [], rfl, OL.nil _ _, HB1.out, .inl ⟨HM0.out, ⟨g0, 0, none⟩, _, rfl, HC0.out, rfl, HR0.out, by simp [Value.ownBlock]⟩⟩
  case round =>
    obtain ⟨i, X, hX, hol, hb, ⟨hlt, p, c, rfl, hcap, rfl, hat, hne⟩ | ⟨hi, rfl, rfl⟩⟩ := hrel
    · have HBR := Lib.hid hb
      have HBS := Lib.hid hb.size
      have HOW := Lib.hid hol.own
      have hxl : X.length = i := by
        have := congrArg List.length hX
        rw [List.length_map, List.length_take] at this
        omega
      have HXL := Lib.hid hxl
      have HLO : Hid (lenOf u6 = i) := Lib.hid (by rw [hol.len, hxl])
      have hx16 : X.length ≤ 16384 := by have := HM16.out; omega
      have HLI := Lib.hid (HLN.out i hlt)
      have HEI := Lib.hid (HEF.out i hlt)
      have HXN : Hid ((X ++ [DX.mk (some p) (lAt M i) c]).map DX.b = M.take (i + 1)) := Lib.hid (by rw [List.map_append, hX, take_lAt M i hlt]; rfl)
      have HPU : Hid (∀ {g cap : Nat} {V' : World} {o : Obj}, V'.ownsRow w.heap.size 23 1 (.slice (some ⟨g, 0, none⟩) (X.length + 1) cap) (X.length + 1) (flat encD X ++ [.slice (some p) (N + 1) c]) → (wr.alloc o).grownBy V' u6.ownBlock → (u6.ownBlock = some g ∨ g = wr.heap.size + 1) → OL w.heap.size V' (.slice (some ⟨g, 0, none⟩) (X.length + 1) cap) (X ++ [DX.mk (some p) (lAt M i) c]) ∧ IsAt V' (some p) (lAt M i) ∧ ∀ p', some p = some p' → some g ≠ some p'.block) := Lib.hid fun hown hg hl => hol.push (DX.mk (some p) (lAt M i) c) (by show 1 ≤ (lAt M i).length; rw [HLI.out]; omega) hat (fun p' e => by injection e with e; rw [← e]; exact hne) (by unfold encD; simp only; rw [HLI.out]; exact hown) hg hl
      have HCC := Lib.hid hcap
      have HMN := Lib.hid (HNX.out i hlt)
      have HLT := Lib.hid hlt
      have HNC : Hid (∀ w', IsAt w' (some p) (lAt M i) → Calls Try.prog 79 #[.slice (some p) (N + 1) c] w' (GivesN2 w' (nxt (lAt M i)))) := Lib.hid fun w' h => HCON.out (some p) c (lAt M i) HLI.out HEI.out hcap w' h
      clear hX hol hb hcap hat hne hlt hxl
      go_wp2_with (at_builtin; refine wpList_append_lies _ rfl _ _ 65 rfl w.heap.size 23 i0 (.slice none 0 0) 1 24 Try.underlying65 hi0 hz0 hz1 hz2 rfl (by decide) u6 X.length (flat encD X) rfl (HOW.out.alloc _) ⟨_, 0, none⟩ 1 1 [.slice (some p) (N + 1) c] rfl rfl (lit_row _ _ _) (by simp [Value.oneCell']) (by decide) (by unfold maxLen; omega) (by omega) (by rw [World.size_alloc]; have := HBS.out; omega) (wr.heap.size + 1) (World.size_alloc ..) ?_; intro g cap w3 hown1 hgrow1 hlie hlt3; have hB3 : Below w.heap.size w w3 := below_push (w := w) HBR.out (fun k hk => (HOW.out.lt k hk).1) hgrow1; have HB3 := Lib.hid hB3; have hpush := HPU.out hown1 hgrow1 hlie; have HPUS := Lib.hid hpush; have HG3 := Lib.hid hlt3; clear hown1 hgrow1 hlie hB3 hpush hlt3)
      refine (HNC.out w3 HPUS.out.2.1).mono ?_
      rintro e w4 hn
      by_cases hi1 : i + 1 < M.length
      · have hl2 := HLN.out (i + 1) hi1
        obtain ⟨p2, c2, rfl, hc2, hp2, hr2, hb4⟩ := n2_some hn (HMN.out.1 hi1) hl2
        have HOLN := Lib.hid (HPUS.out.1.keep hb4)
        have HBN := Lib.hid (HB3.out.trans (hb4.mono HB3.out.size))
        have HR2 := Lib.hid hr2
        have HC2 := Lib.hid hc2
        have HNE : Hid ((Value.slice (some ⟨g, 0, none⟩) (X.length + 1) cap).ownBlock ≠ some p2.block) := Lib.hid fun e => by
          have e1 : g = p2.block := by simpa [Value.ownBlock] using e
          have := HG3.out
          omega
        have HI1 := Lib.hid hi1
        clear hn hr2 hb4 hc2 hp2 hl2 hi1
        go_wp2
        go_roundw
        case rel => exact ⟨i + 1, _, HXN.out, HOLN.out, HBN.out, .inl ⟨HI1.out, p2, c2, rfl, HC2.out, rfl, HR2.out, HNE.out⟩⟩
        case measure => have := HXL.out; have := HLT.out; rw [HLO.out]; show M.length - (X.length + 1) < _; omega
      · have hi2 : i + 1 = M.length := by have := HLT.out; omega
        obtain ⟨rfl, hb4⟩ := n2_none hn (HMN.out.2 hi2)
        have HOLN := Lib.hid (HPUS.out.1.keep hb4)
        have HBN := Lib.hid (HB3.out.trans (hb4.mono HB3.out.size))
        have HI1 := Lib.hid hi2
        clear hn hb4 hi2 hi1
        go_wp2
        go_roundw
        case rel => exact ⟨i + 1, _, HXN.out, HOLN.out, HBN.out, .inr ⟨HI1.out, rfl, rfl⟩⟩
        case measure => have := HXL.out; have := HLT.out; rw [HLO.out]; show M.length - (X.length + 1) < _; omega
    · obtain ⟨p9, c9, hv, hls⟩ := hol.done
      have hXM : X.map DX.b = M := by rw [hX, hi, List.take_length]
      rw [hXM] at hv hls
      subst hv
      have HLS := Lib.hid hls
      have HBE := Lib.hid hb
      clear hX hol hb hls hXM
      go_wp2
      go_ret
      first | exact ⟨p9, ⟨c9, rfl⟩, HLS.out, HBE.out⟩ | exact ⟨p9, c9, rfl, HLS.out, HBE.out⟩
theorem allK_bad {n k : Int} (h : n < 1 ∨ 12 < n ∨ k < 0 ∨ 1048576 < k) : allK n k = 2 ∧ allL n k = [] := by
  have h1 : allK n k = 2 := by unfold allK; rw [if_pos h]
  exact ⟨h1, by unfold allL; rw [h1, if_neg (by omega)]⟩
theorem LsAt.nil (w : World) (a : Option Addr) : LsAt w a [] := ⟨[], rfl, RowAt.nil _ _ _ _, fun x hx => by simp at hx⟩
set_option maxHeartbeats 12800000 in
set_option maxRecDepth 100000 in
theorem pAll_bad (n k : Int) (h : n < 1 ∨ 12 < n ∨ k < 0 ∨ 1048576 < k) (w : World) :
    Calls Try.prog 46 #[.int .i64 n, .int .i64 k] w (GivesLE w (allL n k) (allK n k)) := by
  have HX := Lib.hid (allK_bad h)
  have HS : Hid (¬ k < 0 → ∀ v w, Calls Try.prog 16 #[.int .i64 n, .int .i64 v, .int .i64 k] w (fun e x => e = .returned (.tuple #[.slice none 0 0, .int .i64 2]) ∧ Below w.heap.size w x)) := Lib.hid fun hk v w => by
    have hs : somK n v k = 2 := by
      unfold somK zerK
      by_cases h1 : n < 1 ∨ 12 < n
      · rw [if_pos (by rw [if_pos h1]; simp)]
      · rw [if_neg (by rw [if_neg h1]; simp)]
        have hb : big k = true := by
          cases hb : big k with
          | true => rfl
          | false => have := big_false.1 hb; omega
        rw [if_pos (Or.inr (Or.inr hb))]
    have := pSome_any n v k w
    refine this.mono ?_
    rintro e x (⟨h0, -⟩ | ⟨-, -, rfl, hb⟩)
    · rw [hs] at h0; omega
    · rw [hs]; exact ⟨rfl, hb⟩
  unfold GivesLE
  generalize allK n k = K at *
  generalize allL n k = R at *
  clear h
  go_enter Try.func46, Try.ntmps46
  by_cases hk : k < 0
  · go_wp2
    go_ret2
    first | exact ⟨none, ⟨0, by rw [HX.out.1, HX.out.2]; rfl⟩, by rw [HX.out.2]; exact LsAt.nil _ _, Below.refl _ _⟩ | exact ⟨none, 0, by rw [HX.out.1, HX.out.2]; rfl, by rw [HX.out.2]; exact LsAt.nil _ _, Below.refl _ _⟩
  · have HS1 := Lib.hid (HS.out hk)
    go_wp2_with fail
    refine (HS1.out _ w).mono ?_
    rintro e w1 ⟨rfl, hb⟩
    have HB := Lib.hid hb
    clear hb
    go_wp2
    go_ret2
    first | exact ⟨none, ⟨0, by rw [HX.out.1, HX.out.2]; rfl⟩, by rw [HX.out.2]; exact LsAt.nil _ _, HB.out⟩ | exact ⟨none, 0, by rw [HX.out.1, HX.out.2]; rfl, by rw [HX.out.2]; exact LsAt.nil _ _, HB.out⟩
theorem pAll_any (n k : Int) (w : World) : Calls Try.prog 46 #[.int .i64 n, .int .i64 k] w (GivesLE w (allL n k) (allK n k)) := by
  by_cases h : n < 1 ∨ 12 < n ∨ k < 0 ∨ 1048576 < k
  · exact pAll_bad n k h w
  · obtain ⟨N, rfl⟩ : ∃ N : Nat, n = ((N + 1 : Nat) : Int) := ⟨(n - 1).toNat, by omega⟩
    obtain ⟨K, rfl⟩ : ∃ K : Nat, k = (K : Int) := ⟨k.toNat, by omega⟩
    exact pAll_good N K (by omega) (by omega) w
set_option maxHeartbeats 12800000 in
set_option maxRecDepth 100000 in
theorem rAll_any (n k : Int) (w : World) : Calls Try.prog 47 #[.int .i64 n, .int .i64 k] w (GivesLE w (allL n k) (allK n k)) := by
  by_cases h1 : n < 1
  · have d1 : decide (n < 1) = true := decide_eq_true h1
    have HX := Lib.hid (allK_bad (n := n) (k := k) (by omega))
    unfold GivesLE
    generalize allK n k = K at *
    generalize allL n k = R at *
    go_enter Try.func47, Try.ntmps47
    go_wp2
    go_ret2
    first | exact ⟨none, ⟨0, by rw [HX.out.1, HX.out.2]; rfl⟩, by rw [HX.out.2]; exact LsAt.nil _ _, Below.refl _ _⟩ | exact ⟨none, 0, by rw [HX.out.1, HX.out.2]; rfl, by rw [HX.out.2]; exact LsAt.nil _ _, Below.refl _ _⟩
  by_cases h2 : 12 < n
  · have d1 : decide (n < 1) = false := decide_eq_false h1
    have d2 : decide (12 < n) = true := decide_eq_true h2
    have HX := Lib.hid (allK_bad (n := n) (k := k) (by omega))
    unfold GivesLE
    generalize allK n k = K at *
    generalize allL n k = R at *
    go_enter Try.func47, Try.ntmps47
    go_wp2
    go_ret2
    first | exact ⟨none, ⟨0, by rw [HX.out.1, HX.out.2]; rfl⟩, by rw [HX.out.2]; exact LsAt.nil _ _, Below.refl _ _⟩ | exact ⟨none, 0, by rw [HX.out.1, HX.out.2]; rfl, by rw [HX.out.2]; exact LsAt.nil _ _, Below.refl _ _⟩
  by_cases h3 : k < 0
  · have d1 : decide (n < 1) = false := decide_eq_false h1
    have d2 : decide (12 < n) = false := decide_eq_false h2
    have d3 : decide (k < 0) = true := decide_eq_true h3
    have HX := Lib.hid (allK_bad (n := n) (k := k) (by omega))
    unfold GivesLE
    generalize allK n k = K at *
    generalize allL n k = R at *
    go_enter Try.func47, Try.ntmps47
    go_wp2
    go_ret2
    first | exact ⟨none, ⟨0, by rw [HX.out.1, HX.out.2]; rfl⟩, by rw [HX.out.2]; exact LsAt.nil _ _, Below.refl _ _⟩ | exact ⟨none, 0, by rw [HX.out.1, HX.out.2]; rfl, by rw [HX.out.2]; exact LsAt.nil _ _, Below.refl _ _⟩
  by_cases h4 : 1048576 < k
  · have d1 : decide (n < 1) = false := decide_eq_false h1
    have d2 : decide (12 < n) = false := decide_eq_false h2
    have d3 : decide (k < 0) = false := decide_eq_false h3
    have d4 : decide (1048576 < k) = true := decide_eq_true h4
    have HX := Lib.hid (allK_bad (n := n) (k := k) (by omega))
    unfold GivesLE
    generalize allK n k = K at *
    generalize allL n k = R at *
    go_enter Try.func47, Try.ntmps47
    go_wp2
    go_ret2
    first | exact ⟨none, ⟨0, by rw [HX.out.1, HX.out.2]; rfl⟩, by rw [HX.out.2]; exact LsAt.nil _ _, Below.refl _ _⟩ | exact ⟨none, 0, by rw [HX.out.1, HX.out.2]; rfl, by rw [HX.out.2]; exact LsAt.nil _ _, Below.refl _ _⟩
  obtain ⟨N, rfl⟩ : ∃ N : Nat, n = ((N + 1 : Nat) : Int) := ⟨(n - 1).toNat, by omega⟩
  obtain ⟨K, rfl⟩ : ∃ K : Nat, k = (K : Int) := ⟨k.toNat, by omega⟩
  have d1 : decide (((N + 1 : Nat) : Int) < 1) = false := decide_eq_false h1
  have d2 : decide (12 < ((N + 1 : Nat) : Int)) = false := decide_eq_false h2
  have d3 : decide ((K : Int) < 0) = false := decide_eq_false h3
  have d4 : decide (1048576 < (K : Int)) = false := decide_eq_false h4
  have HCO := Lib.hid (fun w => rCount_any N K (by omega) (by omega) w)
  have HCM := Lib.hid (many_cap N K)
  have HLI : Hid (manyB N K = false → ∀ w, Calls Try.prog 78 #[.int .i64 ((N : Int) + 1), .int .i64 (K : Int)] w (GivesL w (allE N K))) := Lib.hid fun h w => by
    unfold manyB at h
    rw [decide_eq_false_iff_not] at h
    exact rListed_good N K (by omega) (by omega) (by omega) w
  have HKV : Hid (allK ((N + 1 : Nat) : Int) (K : Int) = if manyB N K = true then 12 else 0) := Lib.hid (by unfold allK; rw [if_neg (by omega), show (((N + 1 : Nat) : Int) - 1).toNat = N by omega, Int.toNat_natCast])
  have HLV : Hid (allL ((N + 1 : Nat) : Int) (K : Int) = if manyB N K = true then [] else allE N K) := Lib.hid (by
    unfold allL
    rw [HKV.out, show (((N + 1 : Nat) : Int) - 1).toNat = N by omega, Int.toNat_natCast]
    cases manyB N K <;> rfl)
  unfold GivesLE
  unfold GivesL at HLI
  generalize allL ((N + 1 : Nat) : Int) (K : Int) = R at *
  generalize allK ((N + 1 : Nat) : Int) (K : Int) = RK at *
  generalize allE N K = M at *
  generalize manyB N K = mb at *
  generalize capN N K = cp at *
  go_enter Try.func47, Try.ntmps47
  go_wp2_with fail
  refine (HCO.out w).mono ?_
  rintro e w1 ⟨rfl, hb⟩
  have HB1 := Lib.hid hb
  clear hb
  cases mb with
  | true =>
    have e1 : decide ((16384 : Int) < cp) = true := HCM.out
    have HRR : Hid (R = [] ∧ RK = 12) := Lib.hid ⟨by rw [HLV.out, if_pos rfl], by rw [HKV.out, if_pos rfl]⟩
    go_wp2
    go_ret2
    exact ⟨none, 0, by rw [HRR.out.1, HRR.out.2]; rfl, by rw [HRR.out.1]; exact LsAt.nil _ _, HB1.out⟩
  | false =>
    have e1 : decide ((16384 : Int) < cp) = false := HCM.out
    have HRR : Hid (R = M ∧ RK = 0) := Lib.hid ⟨by rw [HLV.out]; simp, by rw [HKV.out]; simp⟩
    have HLI1 := Lib.hid (HLI.out rfl)
    go_wp2_with fail
    refine (HLI1.out w1).mono ?_
    rintro e w2 ⟨p, c, rfl, hl, hb⟩
    have HB2 := Lib.hid (HB1.out.trans (hb.mono HB1.out.size))
    have HLS := Lib.hid hl
    clear hb hl
    go_wp2
    go_ret2
    exact ⟨p, c, by rw [HRR.out.1, HRR.out.2]; rfl, by rw [HRR.out.1]; exact HLS.out, HB2.out⟩
end Go.Proofs.Ytalbdggpghkcfaa
