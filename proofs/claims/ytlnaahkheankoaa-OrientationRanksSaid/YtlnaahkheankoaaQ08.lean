/- Sources and orders of orientations, by the program. -/
import Derived.Test.YtlnaahkheankoaaQ07
import Derived.Test.YtlnaahkheankoaaQ01
namespace Go.Proofs.Ytlnaahkheankoaa
open Go.RowKit Go.Shelf Go.Proofs.Gr
attribute [local go_sem] Oper.semAt_some

theorem idx_cases (D : List Int) (x : Int) : (Lib.idxOf D x = -1 ∧ ∀ j, j < D.length → iAt D j ≠ x) ∨ (∃ k : Nat, k < D.length ∧ Lib.idxOf D x = k ∧ iAt D k = x ∧ ∀ j, j < k → iAt D j ≠ x) := by
  have key : ∀ n, n ≤ D.length → (∀ j, j < n → iAt D j ≠ x) ∨ (∃ k, k < n ∧ iAt D k = x ∧ ∀ j, j < k → iAt D j ≠ x) := by
    intro n
    induction n with
    | zero => exact fun _ => .inl fun j hj => by omega
    | succ n ih =>
      intro hn
      rcases ih (by omega) with h | ⟨k, h1, h2, h3⟩
      · by_cases e : iAt D n = x
        · exact .inr ⟨n, by omega, e, h⟩
        · refine .inl fun j hj => ?_
          by_cases e2 : j = n
          · subst e2; exact e
          · exact h j (by omega)
      · exact .inr ⟨k, by omega, h2, h3⟩
  rcases key D.length (Nat.le_refl _) with h | ⟨k, h1, h2, h3⟩
  · have := Lib.idxOf_miss D D.length x h
    rw [List.take_length] at this
    exact .inl ⟨this, h⟩
  · have := Lib.idxOf_hit D D.length k x h1 (Nat.le_refl _) h2 h3
    rw [List.take_length] at this
    exact .inr ⟨k, h1, this, h2, h3⟩
theorem pindex_any (a : Option Addr) (c : Nat) (S : List Int) (hS : S.length ≤ 100000000) (v : Int) (w : World) (h : IsAt w a S) :
    Calls Try.prog 91 #[.slice a S.length c, .int .i64 v] w (fun e w' => e = .returned (.int .i64 (Lib.idxOf S v)) ∧ w = w') := by
  by_cases h0 : S.length = 0
  · obtain rfl : S = [] := List.length_eq_zero_iff.1 h0
    exact (Try.slices_Index_int_empty a c v w).mono fun e w' h => ⟨h.1, h.2.symm⟩
  · obtain ⟨b1, o1, rfl, -, -⟩ := h.one 0 (by omega)
    have := Try.slices_Index_int b1 o1 S.length c S v w (Nat.le_refl _) (by omega) (fun j hj => by
      obtain ⟨b', o', h1, h2, h3⟩ := h.one j hj
      injection h1 with h1
      injection h1 with e1 e2
      subst e1 e2
      exact h3)
    rw [List.take_length] at this
    exact this.mono fun e w' h => ⟨h.1, h.2.symm⟩
theorem pcontains_any (a : Option Addr) (c : Nat) (S : List Int) (hS : S.length ≤ 100000000) (v : Int) (w : World) (h : IsAt w a S) :
    Calls Try.prog 52 #[.slice a S.length c, .int .i64 v] w (fun e w' => e = .returned (.bool (S.contains v)) ∧ w = w') := by
  by_cases h0 : S.length = 0
  · obtain rfl : S = [] := List.length_eq_zero_iff.1 h0
    exact (Try.slices_Contains_int_empty a c v w).mono fun e w' h => ⟨h.1, h.2.symm⟩
  · obtain ⟨b1, o1, rfl, -, -⟩ := h.one 0 (by omega)
    have := Try.slices_Contains_int b1 o1 S.length c S v w (Nat.le_refl _) (by omega) (fun j hj => by
      obtain ⟨b', o', h1, h2, h3⟩ := h.one j hj
      injection h1 with h1
      injection h1 with e1 e2
      subst e1 e2
      exact h3)
    rw [List.take_length] at this
    exact this.mono fun e w' h => ⟨h.1, h.2.symm⟩
/-- The vertices in order, and what waits, behind k rounds; nothing where no vertex could be taken. -/
def srt (A : List (Int × Int)) (n : Nat) : Nat → Option (List Int × List Int)
  | 0 => some ([], inL A n A.length)
  | k + 1 => match srt A n k with
    | none => none
    | some (o, D) => if Lib.idxOf D 0 < 0 then none else some (o ++ [Lib.idxOf D 0], strike A (Lib.idxOf D 0) (D.set (Lib.idxOf D 0).toNat (-1)) A.length)
def srtL (A : List (Int × Int)) (n : Nat) : List Int := match srt A n n with | none => [] | some (o, _) => o
def srtB (A : List (Int × Int)) (n : Nat) : Bool := (srt A n n).isSome
theorem srt_none {A : List (Int × Int)} {n k : Nat} (h : srt A n k = none) (m : Nat) (hm : k ≤ m) : srt A n m = none := by
  induction m with
  | zero => obtain rfl : k = 0 := by omega
            exact h
  | succ m ih =>
    by_cases e : k = m + 1
    · subst e; exact h
    · rw [srt, ih (by omega)]
theorem strike_bd {A : List (Int × Int)} {v : Int} {D : List Int} {lo hi : Int} (h : ∀ j, lo ≤ iAt D j ∧ iAt D j ≤ hi) (k : Nat) : ∀ j, lo - (k : Int) ≤ iAt (strike A v D k) j ∧ iAt (strike A v D k) j ≤ hi := by
  induction k with
  | zero => intro j; have := h j; rw [strike]; omega
  | succ k ih =>
    intro j
    rw [strike]
    have h1 := ih j
    have h2 := ih (pAt A k).2.toNat
    split
    · by_cases hl : (pAt A k).2.toNat < (strike A v D k).length
      · rw [iAt_set _ _ _ _ hl]
        split <;> omega
      · rw [List.set_eq_of_length_le (by omega)]; omega
    · omega
theorem iAt_off (D : List Int) (j : Nat) (h : D.length ≤ j) : iAt D j = 0 := by
  unfold iAt; rw [List.getD_eq_getElem?_getD, List.getElem?_eq_none h]; rfl
theorem srt_bd {A : List (Int × Int)} {n : Nat} (k : Nat) {o D : List Int} (h : srt A n k = some (o, D)) : D.length = n ∧ o.length = k ∧ ∀ j, -((k : Int) * ((A.length : Int) + 1)) ≤ iAt D j ∧ iAt D j ≤ A.length := by
  induction k generalizing o D with
  | zero =>
    rw [srt] at h
    injection h with h
    injection h with h1 h2
    subst h1 h2
    refine ⟨inL_len _ _ _, rfl, fun j => ?_⟩
    by_cases hj : j < n
    · rw [inL_at _ _ _ _ hj]
      have := hdN_le A (j : Int) A.length
      omega
    · rw [iAt_off _ _ (by rw [inL_len]; omega)]; omega
  | succ k ih =>
    rw [srt] at h
    rcases hs : srt A n k with _ | ⟨o', D'⟩
    · rw [hs] at h; cases h
    · rw [hs] at h
      simp only at h
      obtain ⟨h1, h2, h3⟩ := ih hs
      split at h
      · cases h
      · injection h with h
        injection h with e1 e2
        subst e1 e2
        refine ⟨by rw [strike_len, List.length_set, h1], by simp [h2], fun j => ?_⟩
        have h4 : ∀ j, -((k : Int) * ((A.length : Int) + 1)) - 1 ≤ iAt (D'.set (Lib.idxOf D' 0).toNat (-1)) j ∧ iAt (D'.set (Lib.idxOf D' 0).toNat (-1)) j ≤ A.length := by
          intro j
          have h5 := h3 j
          have h7 : (0 : Int) ≤ (k : Int) * ((A.length : Int) + 1) := Int.mul_nonneg (by omega) (by omega)
          by_cases hl : (Lib.idxOf D' 0).toNat < D'.length
          · rw [iAt_set _ _ _ _ hl]
            split <;> omega
          · rw [List.set_eq_of_length_le (by omega)]; omega
        have h6 := strike_bd (A := A) (v := Lib.idxOf D' 0) h4 A.length j
        rw [show (((k + 1 : Nat) : Int)) * ((A.length : Int) + 1) = (k : Int) * ((A.length : Int) + 1) + ((A.length : Int) + 1) by rw [Int.natCast_add, Int.add_mul]; simp]
        omega
set_option maxHeartbeats 12800000 in
set_option maxRecDepth 100000 in
theorem psources_any (N : Nat) (hN : N ≤ 1000) (p : Option Addr) (cp : Nat) (A : List (Int × Int)) (hA : A.length ≤ 5000000) (hr : ∀ j, j < A.length → 0 ≤ (pAt A j).2 ∧ (pAt A j).2 < N) (w : World) (hp : PsAt w p A) :
    Calls Try.prog 61 #[.int .i64 N, .slice p A.length cp] w (GivesI w (srcL (inL A N A.length) N)) := by
  obtain ⟨i0, hi0, hz0, hz1, hz2⟩ := info_parts infoI
  have HI := Lib.hid (fun w h => pindeg_any N hN p cp A hA hr w h)
  have HS0 : Hid (srcL (inL A N A.length) 0 = []) := Lib.hid rfl
  have HSS : Hid (∀ k, srcL (inL A N A.length) (k + 1) = srcL (inL A N A.length) k ++ (if iAt (inL A N A.length) k = 0 then [(k : Int)] else [])) := Lib.hid fun _ => rfl
  have HSL := Lib.hid (fun k => srcL_len (inL A N A.length) k)
  have HIL := Lib.hid (inL_len A N A.length)
  have HPA := Lib.hid hp
  unfold GivesIB at HI
  unfold GivesI
  generalize srcL (inL A N A.length) = Q at *
  generalize inL A N A.length = D at *
  clear hp hr
  go_enter Try.func61, Try.ntmps61
  go_wp2_with fail
  refine (HI.out w HPA.out).mono ?_
  rintro e w1 ⟨g, hg, rfl, hr, hb1⟩
  have HR1 := Lib.hid hr
  have HB1 := Lib.hid hb1
  clear hr hb1 hg
  rw [HIL.out]
  go_wp2
  go_loopw [5, 12] (fun s x wr => ∃ i : Nat, i ≤ N ∧ x = .int .i64 i ∧ wr.ownsRow w1.heap.size 3 1 s (Q i).length (flat encI (Q i)) ∧ Below w1.heap.size w1 wr) (fun _ x _ => N - (intOf x).toNat)
  case atStart => exact ⟨0, by omega, rfl, by rw [HS0.out]; exact World.ownsRow_nil _ _ _ _, Below.refl _ _⟩
  case round =>
    obtain ⟨i, hi, rfl, hown, hb⟩ := hrel
    have HOW := Lib.hid hown
    have HBR := Lib.hid hb
    have HBS := Lib.hid hb.size
    by_cases hlt : i < N
    · have i1 : (i : Int) < (N : Int) := by omega
      have i2 : (0 : Int) ≤ (i : Int) := by omega
      have hll := HSL.out i
      have hs := HSS.out i
      have x1 : wr.cell? ⟨g, i, none⟩ = some (.int .i64 (iAt D i)) := (HR1.out.keep hb).cell i (by rw [HIL.out]; exact hlt)
      generalize Q i = PP at *
      generalize iAt D i = z at *
      by_cases hz : z = 0
      · have d1 : (z == 0) = true := by rw [beq_iff_eq]; exact hz
        rw [if_pos hz] at hs
        have HSn := Lib.hid hs
        clear hs hz hown hb
        go_wp2_with (at_builtin; refine wpList_append_own _ rfl _ _ 28 rfl w1.heap.size 3 i0 (.int .i64 0) 1 8 Try.underlying28 hi0 hz0 hz1 hz2 rfl (by decide) _ _ _ rfl (HOW.out.alloc _) ⟨wr.heap.size, 0, none⟩ 1 1 [.int .i64 (i : Int)] rfl rfl (lit_row _ _ _) (by simp [Value.oneCell']) (by unfold maxLen; omega) (by omega) (by rw [World.size_alloc]; have := HBS.out; omega) ?_; intro v1 w3 hown1 hgrow1 hnil; clear hnil; have HO3 : Hid (w3.ownsRow w1.heap.size 3 1 v1 (PP ++ [(i : Int)]).length (flat encI (PP ++ [(i : Int)]))) := Lib.hid (by rw [List.length_append, flatI_snoc]; exact hown1); have HB3 : Hid (Below w1.heap.size w1 w3) := Lib.hid (below_push (w := w1) HBR.out (fun k hk => (HOW.out.lt k hk).1) hgrow1); clear hown1 hgrow1)
        go_roundw
        case rel => exact ⟨i + 1, by omega, by go_num, by rw [HSn.out]; exact HO3.out, HB3.out⟩
        case measure => simp [intOf]; omega
      · have d1 : (z == 0) = false := by rw [beq_eq_false_iff_ne]; exact hz
        rw [if_neg hz, List.append_nil] at hs
        have HSn := Lib.hid hs
        clear hs hz hown hb
        go_wp2
        go_roundw
        case rel => exact ⟨i + 1, by omega, by go_num, by rw [HSn.out]; exact HOW.out, HBR.out⟩
        case measure => simp [intOf]; omega
    · obtain rfl : i = N := by omega
      have i1 : ¬ (i : Int) < (i : Int) := by omega
      have HOA := Lib.hid (RowAt.of_own encI_len hown)
      have HEND := Lib.hid (HB1.out.trans (hb.mono HB1.out.size))
      clear hown hb
      obtain ⟨a9, c9, hv, hra⟩ := HOA.out
      subst hv
      have HRA := Lib.hid hra
      clear hra
      go_wp2
      go_ret
      first | exact ⟨a9, c9, rfl, HRA.out, HEND.out⟩ | exact ⟨a9, ⟨c9, rfl⟩, HRA.out, HEND.out⟩
set_option maxHeartbeats 12800000 in
set_option maxRecDepth 100000 in
theorem psorted_any (N : Nat) (hN : N ≤ 1000) (p : Option Addr) (cp : Nat) (A : List (Int × Int)) (hA : A.length ≤ 5000000) (hr : ∀ j, j < A.length → 0 ≤ (pAt A j).2 ∧ (pAt A j).2 < N) (w : World) (hp : PsAt w p A) :
    Calls Try.prog 71 #[.int .i64 N, .slice p A.length cp] w (fun e x => ∃ a c, e = .returned (.tuple #[.slice a (srtL A N).length c, .bool (srtB A N)]) ∧ IsAt x a (srtL A N) ∧ Below w.heap.size w x) := by
  obtain ⟨i0, hi0, hz0, hz1, hz2⟩ := info_parts infoI
  have HI := Lib.hid (fun w h => pindeg_any N hN p cp A hA hr w h)
  have HR := Lib.hid hr
  have HS0 : Hid (srt A N 0 = some ([], inL A N A.length)) := Lib.hid rfl
  have HSS : Hid (∀ k o D, srt A N k = some (o, D) → srt A N (k + 1) = if Lib.idxOf D 0 < 0 then none else some (o ++ [Lib.idxOf D 0], strike A (Lib.idxOf D 0) (D.set (Lib.idxOf D 0).toNat (-1)) A.length)) := Lib.hid fun k o D h => by rw [srt, h]
  have HSN : Hid (∀ k, k ≤ N → srt A N k = none → srtL A N = [] ∧ srtB A N = false) := Lib.hid fun k hk h => by
    have := srt_none h N hk
    unfold srtL srtB
    rw [this]
    exact ⟨rfl, rfl⟩
  have HSE : Hid (∀ o D, srt A N N = some (o, D) → srtL A N = o ∧ srtB A N = true) := Lib.hid fun o D h => by
    unfold srtL srtB
    rw [h]
    exact ⟨rfl, rfl⟩
  have HSB : Hid (∀ k o D, k ≤ N → srt A N k = some (o, D) → D.length = N ∧ o.length = k ∧ ∀ j, -5000001000000 ≤ iAt D j ∧ iAt D j ≤ 5000000) := Lib.hid fun k o D hk h => by
    obtain ⟨h1, h2, h3⟩ := srt_bd k h
    refine ⟨h1, h2, fun j => ?_⟩
    have h4 := h3 j
    have h5 : (k : Int) * ((A.length : Int) + 1) ≤ 1000 * 5000001 := Int.mul_le_mul (by omega) (by omega) (by omega) (by omega)
    omega
  have HIL := Lib.hid (inL_len A N A.length)
  have HST : Hid (∀ v D k, strike A v D (k + 1) = if (pAt A k).1 = v then (strike A v D k).set (pAt A k).2.toNat (iAt (strike A v D k) (pAt A k).2.toNat - 1) else strike A v D k) := Lib.hid fun _ _ _ => rfl
  have HSZ : Hid (∀ v D, strike A v D 0 = D) := Lib.hid fun _ _ => rfl
  have HSD : Hid (∀ v D k j, (∀ j, -5000001000001 ≤ iAt D j ∧ iAt D j ≤ 5000000) → k ≤ A.length → -6000001000001 ≤ iAt (strike A v D k) j + 1000000000000 ∧ iAt (strike A v D k) j ≤ 5000000) := Lib.hid fun v D k j h hk => by
    have := strike_bd (A := A) (v := v) h k j
    omega
  have HSLN := Lib.hid (fun v D k => strike_len A v D k)
  have HPA := Lib.hid hp
  unfold GivesIB at HI
  generalize srtL A N = RL at *
  generalize srtB A N = RB at *
  generalize srt A N = T at *
  generalize strike A = SK at *
  generalize inL A N A.length = D0 at *
  clear hp hr
  go_enter Try.func71, Try.ntmps71
  go_wp2_with fail
  refine (HI.out w HPA.out).mono ?_
  rintro e w1 ⟨g, hg, rfl, hr, hb1⟩
  have HR1 := Lib.hid hr
  have HB1 := Lib.hid hb1
  have HGL : Hid (g < w1.heap.size) := Lib.hid hr.lt
  have HGE := Lib.hid hg
  clear hr hb1 hg
  rw [HIL.out]
  go_wp2
  go_loopw [7, 15] (fun s x wr => ∃ k : Nat, ∃ o D, k ≤ N ∧ x = .int .i64 k ∧ T k = some (o, D) ∧ wr.ownsRow w1.heap.size 3 1 s o.length (flat encI o) ∧ RowB encI 3 wr g D ∧ Below w.heap.size w wr ∧ w1.heap.size ≤ wr.heap.size) (fun _ x _ => N - (intOf x).toNat)
  case atStart => exact ⟨0, [], D0, by omega, rfl, HS0.out, World.ownsRow_nil _ _ _ _, HR1.out, HB1.out, Nat.le_refl _⟩
  case round =>
    obtain ⟨k, PP, D, hk, rfl, hT, hown, hrw, hb, hsz⟩ := hrel
    have HOW := Lib.hid hown
    have HBR := Lib.hid hb
    have HBS := Lib.hid hsz
    have HRW := Lib.hid hrw
    have HT := Lib.hid hT
    obtain ⟨hdl, hol, hbd⟩ := HSB.out k PP D hk hT
    have HDL := Lib.hid hdl
    have HBD := Lib.hid hbd
    by_cases hlt : k < N
    · have i1 : (k : Int) < (N : Int) := by omega
      have HSk := Lib.hid (HSS.out k PP D hT)
      have HIX := Lib.hid (fun w h => pindex_any (some ⟨g, 0, none⟩) N D (by omega) 0 w h)
      rw [hdl] at HIX
      have HIW : Hid (IsAt wr (some ⟨g, 0, none⟩) D) := Lib.hid (hrw.row encI_len)
      rcases idx_cases D 0 with ⟨hx, -⟩ | ⟨t, ht1, ht2, ht3, -⟩
      · have HNO := Lib.hid (HSN.out (k + 1) (by omega) (by rw [HSk.out, hx, if_pos (by omega)]))
        rw [hx] at HIX
        clear hx hT hown hrw hb hsz hdl hol hbd
        go_wp2_with fail
        refine (HIX.out _ HIW.out).mono ?_
        rintro e u1 ⟨rfl, rfl⟩
        go_wp2
        go_ret2
        first | exact ⟨none, ⟨0, by rw [HNO.out.1, HNO.out.2]; rfl⟩, by rw [HNO.out.1]; exact RowAt.nil _ _ _ _, HBR.out⟩ | exact ⟨none, 0, by rw [HNO.out.1, HNO.out.2]; rfl, by rw [HNO.out.1]; exact RowAt.nil _ _ _ _, HBR.out⟩
      · rw [ht2] at HIX HSk
        have HT0 := Lib.hid ht3
        have HTN : Hid (t < N) := Lib.hid (by omega)
        have HSk2 : Hid (T (k + 1) = some (PP ++ [(t : Int)], SK (t : Int) (D.set t (-1)) A.length)) := Lib.hid (by rw [HSk.out, if_neg (by omega)]; rfl)
        have t1 : (t : Int) < (N : Int) := by omega
        have t2 : ¬ (t : Int) < 0 := by omega
        have t3 : (0 : Int) ≤ (t : Int) := by omega
        have HOL : Hid (PP.length = k) := Lib.hid hol
        have hol2 : PP.length ≤ 1000 := by omega
        clear hT hown hrw hb hsz hdl hol hbd HSk ht1 ht2 ht3
        go_wp2_with fail
        refine (HIX.out _ HIW.out).mono ?_
        rintro e u1 ⟨rfl, rfl⟩
        go_wp2_with (at_builtin; refine wpList_append_own _ rfl _ _ 28 rfl w1.heap.size 3 i0 (.int .i64 0) 1 8 Try.underlying28 hi0 hz0 hz1 hz2 rfl (by decide) _ _ _ rfl (HOW.out.alloc _) ⟨wr.heap.size, 0, none⟩ 1 1 [.int .i64 (t : Int)] rfl rfl (lit_row _ _ _) (by simp [Value.oneCell']) (by unfold maxLen; omega) (by omega) (by rw [World.size_alloc]; have := HBS.out; omega) ?_; intro v1 w3 hown1 hgrow1 hnil; clear hnil; have HO3 : Hid (w3.ownsRow w1.heap.size 3 1 v1 (PP ++ [(t : Int)]).length (flat encI (PP ++ [(t : Int)]))) := Lib.hid (by rw [List.length_append, flatI_snoc]; exact hown1); have HB3 : Hid (Below w.heap.size w w3) := Lib.hid (below_push (w := w) HBR.out (fun k hk => Nat.le_trans HB1.out.size (HOW.out.lt k hk).1) hgrow1); have hrw3 : RowB encI 3 w3 g D := Blk.grown (Blk.alloc HRW.out _) hgrow1 (fun e => by have := (HOW.out.lt g e.symm).1; have := HGL.out; omega); have y1 : w3.cell? ⟨g, t, none⟩ = some (.int .i64 0) := (hrw3.cell t (by rw [HDL.out]; exact HTN.out)).trans (congrArg (fun z => some (Value.int .i64 z)) HT0.out); have y2 : w3.frozen? ⟨g, t, none⟩ = false := Blk.frozen hrw3 t; have HRW3 := Lib.hid hrw3; have HSZ3 : Hid (w1.heap.size ≤ w3.heap.size) := Lib.hid (by have := hgrow1.size; rw [World.size_alloc] at this; have := HBS.out; omega); clear hown1 hgrow1 hrw3)
        have HBDs : Hid (∀ j, -5000001000001 ≤ iAt (D.set t (-1)) j ∧ iAt (D.set t (-1)) j ≤ 5000000) := Lib.hid (fun j => by
          rw [iAt_set _ _ _ _ (by rw [HDL.out]; exact HTN.out)]
          have := HBD.out j
          split <;> omega)
        have HRS : Hid (RowB encI 3 (w3.setCell ⟨g, t, none⟩ (.int .i64 (-1))) g (D.set t (-1))) := Lib.hid (HRW3.out.set t _)
        have HOS : Hid ((w3.setCell ⟨g, t, none⟩ (.int .i64 (-1))).ownsRow w1.heap.size 3 1 v1 (PP ++ [(t : Int)]).length (flat encI (PP ++ [(t : Int)]))) := Lib.hid (ownsRow_setCell_below HO3.out (a := ⟨g, t, none⟩) HGL.out _)
        have HBS2 : Hid (Below w.heap.size w (w3.setCell ⟨g, t, none⟩ (.int .i64 (-1)))) := Lib.hid (HB3.out.setCell (p := ⟨g, t, none⟩) HGE.out _)
        have HZS : Hid (w1.heap.size ≤ (w3.setCell ⟨g, t, none⟩ (.int .i64 (-1))).heap.size) := Lib.hid (by simpa [World.setCell] using HSZ3.out)
        have HDSL : Hid ((D.set t (-1)).length = N) := Lib.hid (by rw [List.length_set, HDL.out])
        generalize D.set t (-1) = D1 at *
        generalize PP ++ [(t : Int)] = P1 at *
        clear y1 y2
        go_loopw [30] (fun x wr => ∃ j : Nat, j ≤ A.length ∧ x = .int .i64 j ∧ wr.ownsRow w1.heap.size 3 1 v1 P1.length (flat encI P1) ∧ RowB encI 3 wr g (SK (t : Int) D1 j) ∧ Below w.heap.size w wr ∧ w1.heap.size ≤ wr.heap.size) (fun x _ => A.length - (intOf x).toNat)
        case atStart => exact ⟨0, by omega, rfl, HOS.out, by rw [HSZ.out]; exact HRS.out, HBS2.out, HZS.out⟩
        case round =>
          obtain ⟨j, hj, rfl, hown, hrw, hb, hsz⟩ := hrel
          by_cases hlj : j < A.length
          · have j1 : (j : Int) < (A.length : Int) := by omega
            have j2 : (0 : Int) ≤ (j : Int) := by omega
            obtain ⟨b1, o1, hb1, q1, x1, x2⟩ := (HPA.out.keep hb).two j hlj
            subst hb1
            obtain ⟨hr1, hr2⟩ := HR.out j hlj
            have HSTn := Lib.hid (HST.out (t : Int) D1 j)
            obtain ⟨u, hu⟩ : ∃ u : Nat, (pAt A j).2 = u := ⟨(pAt A j).2.toNat, by omega⟩
            rw [hu] at x2 hr2 HSTn
            rw [show ((u : Nat) : Int).toNat = u by omega] at HSTn
            have u1 : (u : Int) < (N : Int) := by omega
            have u2 : (0 : Int) ≤ (u : Int) := by omega
            have hsb := HSD.out (t : Int) D1 j u HBDs.out hj
            have HLQ := Lib.hid (HSLN.out (t : Int) D1 j)
            obtain ⟨pa, hpa⟩ : ∃ z, z = (pAt A j).1 := ⟨_, rfl⟩
            rw [← hpa] at x1 HSTn
            obtain ⟨Q, hQ⟩ : ∃ Q, SK (t : Int) D1 j = Q := ⟨_, rfl⟩
            rw [hQ] at HSTn hsb HLQ hrw
            obtain ⟨z, hz⟩ : ∃ z, iAt Q u = z := ⟨_, rfl⟩
            rw [hz] at HSTn hsb
            have hrv : RowB encI 3 (wr.alloc (Obj.cells #[.int .i64 pa, .int .i64 u] 85)) g Q := hrw.keep ((Below.refl _ _).alloc (Nat.le_refl _) _)
            have z1 : (wr.alloc (Obj.cells #[.int .i64 pa, .int .i64 u] 85)).cell? ⟨g, u, none⟩ = some (.int .i64 z) := by rw [← hz]; exact hrv.cell u (by rw [HLQ.out, HDSL.out]; omega)
            have z2 : (wr.alloc (Obj.cells #[.int .i64 pa, .int .i64 u] 85)).frozen? ⟨g, u, none⟩ = false := Blk.frozen hrv u
            have HBX := Lib.hid (hb.alloc hb.size (Obj.cells #[.int .i64 pa, .int .i64 u] 85))
            have HOX := Lib.hid (hown.alloc (Obj.cells #[.int .i64 pa, .int .i64 u] 85))
            have HZX : Hid (w1.heap.size ≤ (wr.alloc (Obj.cells #[.int .i64 pa, .int .i64 u] 85)).heap.size) := Lib.hid (by rw [World.size_alloc]; omega)
            have HRX := Lib.hid hrv
            clear hpa hQ hz hu hrv hown hrw hb hsz hr1 hr2
            by_cases e1 : pa = (t : Int)
            · have d1 : (pa == (t : Int)) = true := by rw [beq_iff_eq]; exact e1
              have HNX : Hid (SK (t : Int) D1 (j + 1) = Q.set u (z - 1)) := Lib.hid (by rw [HSTn.out, if_pos e1])
              have HRN : Hid (RowB encI 3 ((wr.alloc (Obj.cells #[.int .i64 pa, .int .i64 u] 85)).setCell ⟨g, u, none⟩ (.int .i64 (z - 1))) g (SK (t : Int) D1 (j + 1))) := Lib.hid (by rw [HNX.out]; exact HRX.out.set u _)
              have HBN := Lib.hid (HBX.out.setCell (p := ⟨g, u, none⟩) HGE.out (.int .i64 (z - 1)))
              have HON := Lib.hid (ownsRow_setCell_below HOX.out (a := ⟨g, u, none⟩) HGL.out (.int .i64 (z - 1)))
              have HZN : Hid (w1.heap.size ≤ ((wr.alloc (Obj.cells #[.int .i64 pa, .int .i64 u] 85)).setCell ⟨g, u, none⟩ (.int .i64 (z - 1))).heap.size) := Lib.hid (by simpa [World.setCell] using HZX.out)
              clear e1
              go_wp2
              go_roundw
              case rel => exact ⟨j + 1, by omega, by go_num, HON.out, HRN.out, HBN.out, HZN.out⟩
              case measure => simp [intOf]; omega
            · have d1 : (pa == (t : Int)) = false := by rw [beq_eq_false_iff_ne]; exact e1
              have HNX : Hid (SK (t : Int) D1 (j + 1) = Q) := Lib.hid (by rw [HSTn.out, if_neg e1])
              clear e1
              go_wp2
              go_roundw
              case rel => exact ⟨j + 1, by omega, by go_num, HOX.out, by rw [HNX.out]; exact HRX.out, HBX.out, HZX.out⟩
              case measure => simp [intOf]; omega
          · obtain rfl : j = A.length := by omega
            have j1 : ¬ (A.length : Int) < (A.length : Int) := by omega
            have HON := Lib.hid hown
            have HRN := Lib.hid hrw
            have HBN := Lib.hid hb
            have HZN := Lib.hid hsz
            clear hown hrw hb hsz
            go_wp2
            go_roundw
            case rel => exact ⟨k + 1, P1, SK (t : Int) D1 A.length, by omega, by go_num, HSk2.out, HON.out, HRN.out, HBN.out, HZN.out⟩
            case measure => simp [intOf]; omega
    · obtain rfl : k = N := by omega
      have i1 : ¬ (k : Int) < (k : Int) := by omega
      have HYES := Lib.hid (HSE.out PP D hT)
      obtain ⟨a9, c9, hv, hra⟩ := RowAt.of_own encI_len hown
      subst hv
      have HRA := Lib.hid hra
      clear hra hT hown hrw hb hsz hdl hol hbd
      go_wp2
      go_ret2
      first | exact ⟨a9, ⟨c9, by rw [HYES.out.1, HYES.out.2]; rfl⟩, by rw [HYES.out.1]; exact HRA.out, HBR.out⟩ | exact ⟨a9, c9, by rw [HYES.out.1, HYES.out.2]; rfl, by rw [HYES.out.1]; exact HRA.out, HBR.out⟩
end Go.Proofs.Ytlnaahkheankoaa
