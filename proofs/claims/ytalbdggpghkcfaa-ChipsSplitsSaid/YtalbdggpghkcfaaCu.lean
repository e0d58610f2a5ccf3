/- The next effective divisor, by the reference. -/
import Derived.Test.YtalbdggpghkcfaaCt
namespace Go.Proofs.Ytalbdggpghkcfaa
open Go.RowKit Go.Proofs.Gr Go.Proofs.Cp
attribute [local go_sem] Oper.semAt_some

theorem RowAt.drop {w : World} {b o : Nat} {L : List Int} (h : IsAt w (some ⟨b, o, none⟩) L) (k : Nat) : IsAt w (some ⟨b, o + k, none⟩) (L.drop k) := by
  intro j hj
  rw [List.length_drop] at hj
  obtain ⟨b', o', e, hlt, hc⟩ := h (j + k) (by omega)
  injection e with e
  injection e with e1 e2
  subst e1 e2
  refine ⟨b, o + k, rfl, hlt, fun i hi => ?_⟩
  have h1 := hc i hi
  rw [List.getElem_drop]
  rw [show o + k + j * 1 + i = o + (j + k) * 1 + i by omega, h1]
  congr 2
  congr 1
  omega
theorem sumD_zero {D : List Int} (h : ∀ j, j < D.length → iAt D j = 0) : sumD D = 0 := by
  rw [zero_rep h]
  generalize D.length = n
  induction n with
  | zero => rfl
  | succ n ih => rw [List.replicate_succ, sumD, ih]; rfl
theorem iAt_drop (D : List Int) (k j : Nat) : iAt (D.drop k) j = iAt D (k + j) := by
  unfold iAt; rw [List.getD_eq_getElem?_getD, List.getD_eq_getElem?_getD, List.getElem?_drop]
theorem sumD_drop {D : List Int} (k : Nat) (hk : k < D.length) (h : ∀ j, k < j → j < D.length → iAt D j = 0) : sumD (D.drop k) = iAt D k := by
  rw [List.drop_eq_getElem_cons hk, sumD, iAt_get D k hk, sumD_zero, Int.add_zero]
  intro j hj
  rw [List.length_drop] at hj
  rw [iAt_drop]
  exact h _ (by omega) (by omega)
/-- A list whose places behind one are made 0. -/
def zt (S : List Int) (v : Nat) : Nat → List Int
  | 0 => S
  | k + 1 => (zt S v k).set (v + 1 + k) 0
theorem zt_len (S : List Int) (v k : Nat) : (zt S v k).length = S.length := by
  induction k with
  | zero => rfl
  | succ k ih => rw [zt, List.length_set, ih]
theorem zt_at (S : List Int) (v k j : Nat) (hk : v + 1 + k ≤ S.length) : iAt (zt S v k) j = if v + 1 ≤ j ∧ j < v + 1 + k then 0 else iAt S j := by
  induction k with
  | zero => rw [zt, if_neg (by omega)]
  | succ k ih =>
    rw [zt, iAt_set _ _ _ _ (by rw [zt_len]; omega), ih (by omega)]
    by_cases e : v + 1 + k = j
    · rw [if_pos e, if_pos (by omega)]
    · rw [if_neg e]
      by_cases h : v + 1 ≤ j ∧ j < v + 1 + k
      · rw [if_pos h, if_pos (by omega)]
      · rw [if_neg h, if_neg (by omega)]
theorem zt_final {D : List Int} (N m : Nat) (hN : D.length = N + 1) (hm : m < N) (h : ∀ j, m + 1 < j → j < N + 1 → iAt D j = 0) : (zt (D.set m (iAt D m + 1)) m (N - m)).set N (iAt D (m + 1) - 1) = nxtL (m + 1) D := by
  have hl : (D.set m (iAt D m + 1)).length = N + 1 := by rw [List.length_set, hN]
  unfold nxtL
  rw [hN]
  simp only [Nat.add_sub_cancel]
  refine eq_of_at (by simp [zt_len, hN]) fun j hj => ?_
  rw [List.length_set, zt_len, hl] at hj
  rw [iAt_set _ _ _ _ (by rw [zt_len, hl]; omega), iAt_set _ _ _ _ (by simp [hN])]
  by_cases e : N = j
  · rw [if_pos e, if_pos e]
  · rw [if_neg e, if_neg e]
    have hL := zt_at (D.set m (iAt D m + 1)) m (N - m) j (by rw [hl]; omega)
    have hR := iAt_set (D.set m (iAt D m + 1)) (m + 1) j 0 (by rw [hl]; omega)
    have hh : ∀ v : Int, iAt (D.set m v) j = if m = j then v else iAt D j := fun v => iAt_set D m j v (by rw [hN]; omega)
    rw [hL]
    refine Eq.trans ?_ hR.symm
    by_cases e1 : m + 1 = j
    · rw [if_pos (by omega), if_pos e1]
    · rw [if_neg e1]
      by_cases e3 : m + 1 < j
      · rw [if_pos (by omega), hh, if_neg (by omega), h j e3 (by omega)]
      · rw [if_neg (by omega)]
set_option maxHeartbeats 12800000 in
set_option maxRecDepth 100000 in
theorem rFollows_any (a : Option Addr) (c : Nat) (D : List Int) (N : Nat) (hN : D.length = N + 1) (hE : Eff D) (hc : N + 1 ≤ c) (w : World) (h : IsAt w a D) :
    Calls Try.prog 79 #[.slice a ((N + 1 : Nat)) c] w (GivesN2 w (nxt D)) := by
  obtain ⟨i0, hi0, hz0, hz1, hz2⟩ := info_parts infoI
  have H1 := Lib.hid h
  have HNO : Hid ((∀ j, 1 ≤ j → j < N + 1 → iAt D j = 0) → nxt D = none) := Lib.hid fun h => nxt_none (by rwa [hN])
  have HYES : Hid (∀ m, m < N → iAt D (m + 1) ≠ 0 → (∀ j, m + 1 < j → j < N + 1 → iAt D j = 0) → nxt D = some ((zt (D.set m (iAt D m + 1)) m (N - m)).set N (iAt D (m + 1) - 1))) := Lib.hid fun m h2 h3 h4 => by
    rw [zt_final N m hN h2 h4]
    exact nxt_some (m + 1) (by omega) (by omega) h3 (by rwa [hN])
  have HSUM : Hid (∀ m, m < N → (∀ j, m + 1 < j → j < N + 1 → iAt D j = 0) → sumD (D.drop (m + 1)) = iAt D (m + 1)) := Lib.hid fun m h1 h2 => sumD_drop (m + 1) (by omega) (by rwa [hN])
  have HRG : Hid (∀ j, j < N + 1 → 0 ≤ iAt D j ∧ iAt D j ≤ 1048576) := Lib.hid (by rw [← hN]; exact hE.rng)
  have hN12 : N + 1 ≤ 12 := by rw [← hN]; exact hE.le
  have HDN := Lib.hid hN
  have HON := Lib.hid (boneI D)
  have HFL : Hid ((flat encI D).length = (N + 1) * 1) := Lib.hid (by rw [flat_len encI_len D, hN])
  have HTT : Hid (∀ m b o q u, m < N → IsAt u (some ⟨b, o, none⟩) D → Calls Try.prog 68 #[.slice (some ⟨b, o + (m + 1), none⟩) (N - m) q] u (fun e u' => e = .returned (.int .i64 (sumD (D.drop (m + 1)))) ∧ Below u.heap.size u u')) := Lib.hid fun m b o q u hm hu => by
    have := rTotal_any (some ⟨b, o + (m + 1), none⟩) q (D.drop (m + 1)) (by rw [List.length_drop]; omega) (fun z hz => by
      have hz := List.mem_of_mem_drop hz
      obtain ⟨j, hj, rfl⟩ := List.getElem_of_mem hz
      rw [iAt_get D j hj]
      have := hE.rng j hj
      omega) u (RowAt.drop hu (m + 1))
    rwa [List.length_drop, hN, show N + 1 - (m + 1) = N - m by omega] at this
  have HPB : Hid (∀ {w0 w' : World} v, w'.ownsRow w0.heap.size 3 1 v (N + 1) (flat encI D) → ∃ g cap, v = .slice (some ⟨g, 0, none⟩) (N + 1) cap ∧ w0.heap.size ≤ g ∧ N + 1 ≤ cap ∧ PB w' g D) := Lib.hid fun v h => by
    rw [← hN] at h ⊢
    exact PB.of_own' h hE.one
  have HZL : Hid (∀ S v k, (zt S v k).length = S.length) := Lib.hid zt_len
  have HZS : Hid (∀ S v k, zt S v (k + 1) = (zt S v k).set (v + 1 + k) 0) := Lib.hid fun _ _ _ => rfl
  have HZ0 : Hid (∀ S v, zt S v 0 = S) := Lib.hid fun _ _ => rfl
  unfold GivesN2
  generalize zt = ZT at *
  generalize nxt D = R at *
  obtain ⟨b1, o1, hb1, q1, x1⟩ := h.one 0 (by omega)
  subst hb1
  have HROW : Hid (∀ u, Below w.heap.size w u → ∀ j x, (flat encI D)[j]? = some x → u.cell? ((⟨b1, o1, none⟩ : Addr).add j) = some x) := Lib.hid fun u hu j x hj => RowAt.cells (k := 1) (enc := encI) (by decide) (fun _ => rfl) (H1.out.keep hu) j x hj
  clear h x1 hE hN
  generalize flat encI D = fl at *
  go_enter Try.func79, Try.ntmps79
  go_wp2
  go_loopw [5] (fun x wr => ∃ l : Nat, l ≤ N ∧ x = .int .i64 ((l : Int) - 1) ∧ (∀ j, l < j → j < N + 1 → iAt D j = 0) ∧ Below w.heap.size w wr) (fun x _ => (intOf x + 1).toNat)
  case atStart => exact ⟨N, by omega, congrArg (Value.int .i64) (by omega), fun j h1 h2 => by omega, Below.refl _ _⟩
  case round =>
    obtain ⟨l, hl, rfl, hz, hb⟩ := hrel
    have HZ := Lib.hid hz
    have HB := Lib.hid hb
    rcases l with _ | m
    · have HR := Lib.hid (HNO.out fun j h1 h2 => hz j (by omega) h2)
      rw [show (((0 : Nat) : Int) - 1) = -1 by omega]
      clear hz hb
      go_wp2
      go_ret2
      exact .inr ⟨HR.out, rfl, HB.out⟩
    · rw [show (((m + 1 : Nat) : Int) - 1) = (m : Int) by omega]
      have hmN : m < N := by omega
      have HT1 := Lib.hid (HTT.out m b1 o1 (c - (m + 1)) wr hmN (H1.out.keep hb))
      have HYI := Lib.hid (HYES.out m hmN)
      rw [HSUM.out m hmN hz] at HT1
      have HZN : Hid (iAt D (m + 1) = 0 → ∀ j, m < j → j < N + 1 → iAt D j = 0) := Lib.hid fun h0 j h1 h2 => by
        by_cases e : j = m + 1
        · subst e; exact h0
        · exact HZ.out j (by omega) h2
      have HRL := Lib.hid (HRG.out (m + 1) (by omega))
      have HRM := Lib.hid (HRG.out m (by omega))
      clear hz hb
      obtain ⟨y, hy⟩ : ∃ y, y = iAt D (m + 1) := ⟨_, rfl⟩
      obtain ⟨x, hx⟩ : ∃ x, x = iAt D m := ⟨_, rfl⟩
      rw [← hy] at HYI HZN HRL HT1
      rw [← hx] at HYI HRM
      have HX := Lib.hid hx
      clear hy hx
      have i1 : (0 : Int) ≤ (m : Int) := by omega
      have i2 : (m : Int) + 1 ≤ ((N + 1 : Nat) : Int) := by omega
      have i3 : (0 : Int) ≤ (m : Int) + 1 := by omega
      have i4 : (N + 1) - (m + 1) = N - m := by omega
      go_wp2_with fail
      refine HT1.out.mono ?_
      rintro e w1 ⟨rfl, hb1⟩
      have HB1 := Lib.hid (HB.out.trans (hb1.mono HB.out.size))
      clear hb1
      by_cases h0 : y = 0
      · have d2 : (y == 0) = true := by rw [beq_iff_eq]; exact h0
        have HR := Lib.hid (HZN.out h0)
        clear h0
        go_wp2
        go_roundw
        case rel => exact ⟨m, by omega, by go_num, HR.out, HB1.out⟩
        case measure => (simp [intOf] <;> omega)
      · have d2 : (y == 0) = false := by rw [beq_eq_false_iff_ne]; exact h0
        have HR := Lib.hid (HYI.out h0 HZ.out)
        clear h0
        have HNW : Hid (∀ j u, fl[j]? = some u → (w1.alloc (Obj.cells #[] 3)).cell? ((⟨b1, o1, none⟩ : Addr).add j) = some u) := Lib.hid fun j u hj => HROW.out _ (HB1.out.alloc HB1.out.size _) j u hj
        have HO : Hid ((w1.alloc (Obj.cells #[] 3)).ownsRow w1.heap.size 3 1 (.slice (some ⟨w1.heap.size, 0, none⟩) 0 0) 0 []) := Lib.hid (World.ownsRow_lit w1 #[] 0 (Nat.le_refl _) (by decide) rfl)
        have hrm := HRM.out
        have hrl := HRL.out
        have i5 : (m : Int) < ((N + 1 : Nat) : Int) := by omega
        go_wp2_with (at_builtin; refine wpList_append_own _ rfl _ _ 23 rfl w1.heap.size 3 i0 (.int .i64 0) 1 8 Try.underlying23 hi0 hz0 hz1 hz2 rfl (by decide) _ _ _ rfl HO.out ⟨b1, o1, none⟩ (N + 1) c fl rfl HFL.out HNW.out HON.out (by unfold maxLen; omega) (by omega) (by rw [World.size_alloc]; omega) ?_; intro v1 w3 hown1 hgrow1 _; have hB3 : Below w1.heap.size w1 w3 := below_push (w := w1) (Below.refl _ w1) (fun k hk => (HO.out.lt k hk).1) hgrow1; rw [Nat.zero_add, List.nil_append] at hown1; obtain ⟨g, cap, hv, hg, hcap, hpb⟩ := HPB.out _ hown1; subst hv; have s1 := hpb.cell m (by have := HDN.out; omega); have s2 := hpb.frozen m; have HPW := Lib.hid hpb; have HGG := Lib.hid hg; have HCAP := Lib.hid hcap; have HB3 := Lib.hid (HB1.out.trans (hB3.mono HB1.out.size)); rw [← HX.out] at s1; clear hown1 hgrow1 hB3 hpb hg hcap)
        have HGE : Hid (w.heap.size ≤ g) := Lib.hid (by have := HB1.out.size; have := HGG.out; omega)
        have HLS : Hid ((D.set m (x + 1)).length = N + 1) := Lib.hid (by rw [List.length_set, HDN.out])
        have HP0 : Hid (PB (w3.setCell ⟨g, m, none⟩ (.int .i64 (x + 1))) g (ZT (D.set m (x + 1)) m 0)) := Lib.hid (by rw [HZ0.out]; exact HPW.out.set m (x + 1))
        have HBP : Hid (Below w.heap.size w (w3.setCell ⟨g, m, none⟩ (.int .i64 (x + 1)))) := Lib.hid (HB3.out.setCell (p := ⟨g, m, none⟩) HGE.out _)
        clear s1 s2 HPW
        generalize D.set m (x + 1) = S at *
        go_loopw [8] (fun x wr => ∃ k : Nat, k ≤ N - m ∧ x = .int .i64 ((m + 1 + k : Nat) : Int) ∧ PB wr g (ZT S m k) ∧ Below w.heap.size w wr) (fun x _ => N + 1 - (intOf x).toNat)
        case atStart => exact ⟨0, by omega, by go_num, HP0.out, HBP.out⟩
        case round =>
          obtain ⟨k, hk, rfl, hp, hb⟩ := hrel
          have HPK := Lib.hid hp
          have HBK := Lib.hid hb
          by_cases hlt : k < N - m
          · have j1 : ((m + 1 + k : Nat) : Int) < ((N + 1 : Nat) : Int) := by omega
            have j2 : (0 : Int) ≤ ((m + 1 + k : Nat) : Int) := by omega
            have s1 := hp.cell (m + 1 + k) (by rw [HZL.out, HLS.out]; omega)
            have s2 := hp.frozen (m + 1 + k)
            have HPN : Hid (PB (wr.setCell ⟨g, m + 1 + k, none⟩ (.int .i64 0)) g (ZT S m (k + 1))) := Lib.hid (by rw [HZS.out]; exact hp.set _ _)
            have HBN : Hid (Below w.heap.size w (wr.setCell ⟨g, m + 1 + k, none⟩ (.int .i64 0))) := Lib.hid (hb.setCell (p := ⟨g, m + 1 + k, none⟩) HGE.out _)
            generalize iAt (ZT S m k) (m + 1 + k) = old at s1
            clear hp hb
            generalize hmk : m + 1 + k = t at *
            go_wp2
            go_roundw
            case rel => exact ⟨k + 1, by omega, by rw [← hmk]; go_num, HPN.out, HBN.out⟩
            case measure => (simp [intOf] <;> omega)
          · obtain rfl : k = N - m := by omega
            have e1 : m + 1 + (N - m) = N + 1 := by omega
            rw [e1]
            have j1 : ¬ ((N + 1 : Nat) : Int) < ((N + 1 : Nat) : Int) := by omega
            have j2 : (N : Int) < ((N + 1 : Nat) : Int) := by omega
            have s1 := hp.cell N (by rw [HZL.out, HLS.out]; omega)
            have s2 := hp.frozen N
            have HPN : Hid (IsAt (wr.setCell ⟨g, N, none⟩ (.int .i64 (y - 1))) (some ⟨g, 0, none⟩) ((ZT S m (N - m)).set N (y - 1))) := Lib.hid (hp.set N (y - 1)).row
            have HBN : Hid (Below w.heap.size w (wr.setCell ⟨g, N, none⟩ (.int .i64 (y - 1)))) := Lib.hid (hb.setCell (p := ⟨g, N, none⟩) HGE.out _)
            have HLN : Hid (((ZT S m (N - m)).set N (y - 1)).length = N + 1) := Lib.hid (by rw [List.length_set, HZL.out, HLS.out])
            generalize iAt (ZT S m (N - m)) N = old at s1
            generalize (ZT S m (N - m)).set N (y - 1) = Y at *
            clear hp hb e1 HPK
            go_wp2
            go_ret2
            first | exact .inl ⟨Y, HR.out, some ⟨g, 0, none⟩, cap, by rw [HLN.out]; rfl, by rw [HLN.out]; exact HCAP.out, fun p e => by injection e with e; subst e; exact HGE.out, HPN.out, HBN.out⟩ | exact .inl ⟨Y, HR.out, some ⟨g, 0, none⟩, ⟨cap, by rw [HLN.out]; rfl, by rw [HLN.out]; exact HCAP.out, fun p e => by injection e with e; subst e; exact HGE.out⟩, HPN.out, HBN.out⟩ | exact .inl ⟨Y, some ⟨g, 0, none⟩, cap, HR.out, by rw [HLN.out]; rfl, by rw [HLN.out]; exact HCAP.out, fun p e => by injection e with e; subst e; exact HGE.out, HPN.out, HBN.out⟩
end Go.Proofs.Ytalbdggpghkcfaa
