/- The next effective divisor, by the program. -/
import Derived.Test.YtalbdggpghkcfaaCs
namespace Go.Proofs.Ytalbdggpghkcfaa
open Go.RowKit Go.Proofs.Gr Go.Proofs.Cp
attribute [local go_sem] Oper.semAt_some

/-- The next one, when the last place that is not 0 is known. -/
def nxtL (l : Nat) (D : List Int) : List Int := ((D.set (l - 1) (iAt D (l - 1) + 1)).set l 0).set (D.length - 1) (iAt D l - 1)
theorem iAt_cons (z : Int) (D : List Int) (j : Nat) : iAt (z :: D) (j + 1) = iAt D j := rfl
theorem zero_rep {D : List Int} (h : ∀ j, j < D.length → iAt D j = 0) : D = List.replicate D.length 0 := by
  refine eq_of_at (by simp) fun j hj => ?_
  rw [h j hj, iAt_rep]
theorem nxt_none {D : List Int} (h : ∀ j, 1 ≤ j → j < D.length → iAt D j = 0) : nxt D = none := by
  cases D with
  | nil => rfl
  | cons z D =>
    have h1 : D = List.replicate D.length 0 := zero_rep fun j hj => by
      have := h (j + 1) (by omega) (by simpa using hj)
      rwa [iAt_cons] at this
    rw [h1, nxt, nxt_zeros]
    cases D.length with
    | zero => rfl
    | succ m => rw [List.replicate_succ, nxtS]; simp
theorem nxt_some {D : List Int} (l : Nat) (h1 : 1 ≤ l) (h2 : l < D.length) (h3 : iAt D l ≠ 0) (h4 : ∀ j, l < j → j < D.length → iAt D j = 0) : nxt D = some (nxtL l D) := by
  induction D generalizing l with
  | nil => simp at h2
  | cons z D ih =>
    obtain ⟨l, rfl⟩ : ∃ m, l = m + 1 := ⟨l - 1, by omega⟩
    cases l with
    | zero =>
      cases D with
      | nil => simp at h2
      | cons y D2 =>
        have hy : y ≠ 0 := h3
        have hz : D2 = List.replicate D2.length 0 := zero_rep fun j hj => by
          have := h4 (j + 2) (by omega) (by simpa using hj)
          exact this
        have hn : nxt (y :: D2) = none := by
          refine nxt_none fun j hj hj2 => ?_
          obtain ⟨j, rfl⟩ : ∃ m, j = m + 1 := ⟨j - 1, by omega⟩
          rw [iAt_cons, hz, iAt_rep]
        rw [nxt, hn, nxtS, if_neg hy]
        congr 1
        unfold nxtL
        simp only [List.length_cons]
        show _ = (((z + 1) :: y :: D2).set 1 0).set (D2.length + 1) (y - 1)
        rw [List.set_cons_succ, List.set_cons_zero, List.set_cons_succ]
        congr 1
        generalize D2.length = m at *
        subst hz
        clear h2 h3 h4 hn ih
        induction m with
        | zero => rfl
        | succ m ih => rw [List.replicate_succ, List.set_cons_succ, List.cons_append, ih]
    | succ l =>
      have := ih (l + 1) (by omega) (by simpa using h2) (by rwa [iAt_cons] at h3) (fun j hj hj2 => by
        have := h4 (j + 1) (by omega) (by simpa using hj2)
        rwa [iAt_cons] at this)
      rw [nxt_cons z this]
      congr 1
      unfold nxtL
      have hD : 1 ≤ D.length := by simp at h2; omega
      obtain ⟨m, hm⟩ : ∃ m, D.length = m + 1 := ⟨D.length - 1, by omega⟩
      simp only [Nat.add_sub_cancel, List.length_cons, iAt_cons]
      rw [hm]
      simp only [Nat.add_sub_cancel]
      rw [List.set_cons_succ, List.set_cons_succ, List.set_cons_succ]
/-- An effective divisor that is not too large. -/
structure Eff (D : List Int) : Prop where
  one : 1 ≤ D.length
  le : D.length ≤ 12
  rng : ∀ j, j < D.length → 0 ≤ iAt D j ∧ iAt D j ≤ 1048576
/-- Hands back the next one and true, or nothing and false. -/
def GivesN2 (w : World) (r : Option (List Int)) (e : Ending) (x : World) : Prop := (∃ E a c, r = some E ∧ e = .returned (.tuple #[.slice a E.length c, .bool true]) ∧ E.length ≤ c ∧ (∀ p, a = some p → w.heap.size ≤ p.block) ∧ IsAt x a E ∧ Below w.heap.size w x) ∨ (r = none ∧ e = .returned (.tuple #[.slice none 0 0, .bool false]) ∧ Below w.heap.size w x)
theorem PB.of_own' {w : World} {base : Nat} {v : Value} {L : List Int} (h : w.ownsRow base 3 1 v L.length (flat encI L)) (h1 : 1 ≤ L.length) : ∃ g cap, v = .slice (some ⟨g, 0, none⟩) L.length cap ∧ base ≤ g ∧ L.length ≤ cap ∧ PB w g L := by
  rcases h.2 with ⟨-, h0⟩ | ⟨g, cap, cur, rfl, hb, hg, hn, -, -, ht⟩
  · omega
  · exact ⟨g, cap, rfl, hb, hn, cur, hg, by rw [← ht, Nat.mul_one]⟩
set_option maxHeartbeats 12800000 in
set_option maxRecDepth 100000 in
theorem clone_cap (ad : Option Addr) (c : Nat) (D : List Int) (h0 : 1 ≤ D.length) (hD : D.length ≤ 1000) (w : World) (h : IsAt w ad D) :
    Calls Try.prog 81 #[.slice ad D.length c] w (fun e w' => ∃ g cap, e = .returned (.slice (some ⟨g, 0, none⟩) D.length cap) ∧ w.heap.size ≤ g ∧ D.length ≤ cap ∧ PB w' g D ∧ Below w.heap.size w w') := by
  have q31 : ∀ (w : World) (a : Option Addr) (n c n' c' : Nat), (binOp .eql 23 (.slice a n c) (.slice none n' c')).run Try.prog w = .ok (.bool a.isNone) w := fun w a n c n' c' => Lib.run_eql_slice_nil w _ _ a n c n' c' Try.underlying23
  obtain ⟨i0, hi0, hz0, hz1, hz2⟩ := info_parts infoI
  obtain ⟨b1, o1, rfl⟩ := IsAt.ne h h0
  have hnews : ∀ (W : World), Below w.heap.size w W → ∀ j u, (flat encI D)[j]? = some u → W.cell? ((⟨b1, o1, none⟩ : Addr).add j) = some u := by
    intro W hb j u hj
    exact RowAt.cells (k := 1) (enc := encI) (by decide) (fun _ => rfl) (h.keep hb) j u hj
  have HNW := Lib.hid hnews
  have HB1 : Hid (Below w.heap.size w (w.alloc (Obj.cells #[] 3))) := Lib.hid ((Below.refl _ _).alloc (Nat.le_refl _) _)
  have HO : Hid ((w.alloc (Obj.cells #[] 3)).ownsRow w.heap.size 3 1 (.slice (some ⟨w.heap.size, 0, none⟩) 0 0) 0 []) := Lib.hid (World.ownsRow_lit w #[] 0 (Nat.le_refl _) (by decide) rfl)
  have HFL : Hid ((flat encI D).length = D.length * 1) := Lib.hid (flat_len encI_len D)
  have H1 := Lib.hid (boneI D)
  have HPB : Hid (∀ (w' : World) v, w'.ownsRow w.heap.size 3 1 v D.length (flat encI D) → ∃ g cap, v = .slice (some ⟨g, 0, none⟩) D.length cap ∧ w.heap.size ≤ g ∧ D.length ≤ cap ∧ PB w' g D) := Lib.hid fun w' v h => PB.of_own' h h0
  clear hnews h h0
  generalize flat encI D = fl at *
  go_enter Try.func81, Try.ntmps81
  go_wp2_with (at_builtin; refine wpList_append_own _ rfl _ _ 23 rfl w.heap.size 3 i0 (.int .i64 0) 1 8 Try.underlying23 hi0 hz0 hz1 hz2 rfl (by decide) _ _ _ rfl HO.out ⟨b1, o1, none⟩ D.length c fl rfl HFL.out (HNW.out _ HB1.out) H1.out (by unfold maxLen; omega) (by omega) (by rw [World.size_alloc]; omega) ?_; intro v1 w3 hown1 hgrow1 _; have hB3 : Below w.heap.size w w3 := below_push (w := w) (Below.refl _ w) (fun k hk => (HO.out.lt k hk).1) hgrow1)
  rw [Nat.zero_add, List.nil_append] at hown1
  have HO1 := Lib.hid (HPB.out _ _ hown1)
  have HB3 := Lib.hid hB3
  clear hown1 hgrow1 hB3
  go_wp2
  go_ret
  obtain ⟨g, cap, e, h1, h3, h2⟩ := HO1.out
  exact ⟨g, cap, congrArg _ e, h1, h3, h2, HB3.out⟩
set_option maxHeartbeats 12800000 in
set_option maxRecDepth 100000 in
theorem pnext_any (a : Option Addr) (c : Nat) (D : List Int) (N : Nat) (hN : D.length = N + 1) (hE : Eff D) (w : World) (h : IsAt w a D) :
    Calls Try.prog 76 #[.slice a ((N + 1 : Nat)) c] w (GivesN2 w (nxt D)) := by
  have H1 := Lib.hid h
  have HNO : Hid ((∀ j, 1 ≤ j → j < N + 1 → iAt D j = 0) → nxt D = none) := Lib.hid fun h => nxt_none (by rwa [hN])
  have HYES : Hid (∀ l, 1 ≤ l → l < N + 1 → iAt D l ≠ 0 → (∀ j, l < j → j < N + 1 → iAt D j = 0) → nxt D = some (nxtL l D)) := Lib.hid fun l h1 h2 h3 h4 => nxt_some l h1 (by rwa [hN]) h3 (by rwa [hN])
  have HNL : Hid (∀ l, nxtL l D = ((D.set (l - 1) (iAt D (l - 1) + 1)).set l 0).set N (iAt D l - 1)) := Lib.hid fun l => by unfold nxtL; rw [hN]; rfl
  have HRG : Hid (∀ j, j < N + 1 → 0 ≤ iAt D j ∧ iAt D j ≤ 1048576) := Lib.hid (by rw [← hN]; exact hE.rng)
  have hN12 : N + 1 ≤ 12 := by rw [← hN]; exact hE.le
  have HCL : Hid (∀ w, IsAt w a D → Calls Try.prog 81 #[.slice a (N + 1) c] w (fun e w' => ∃ g cap, e = .returned (.slice (some ⟨g, 0, none⟩) (N + 1) cap) ∧ w.heap.size ≤ g ∧ N + 1 ≤ cap ∧ PB w' g D ∧ Below w.heap.size w w')) := Lib.hid fun w h => by
    have := clone_cap a c D hE.one (by have := hE.le; omega) w h
    rwa [hN] at this
  have HDN := Lib.hid hN
  unfold GivesN2
  generalize nxt D = R at *
  obtain ⟨b1, o1, hb1, q1, x1⟩ := h.one 0 (by omega)
  subst hb1
  clear h x1 hE hN
  go_enter Try.func76, Try.ntmps76
  go_wp2
  go_loopw [5] (fun x wr => ∃ l : Nat, l ≤ N ∧ x = .int .i64 l ∧ (∀ j, l < j → j < N + 1 → iAt D j = 0) ∧ Below w.heap.size w wr) (fun x _ => (intOf x).toNat)
  case atStart => exact ⟨N, by omega, by go_num, fun j h1 h2 => by omega, Below.refl _ _⟩
  case round =>
    obtain ⟨l, hl, rfl, hz, hb⟩ := hrel
    have HZ := Lib.hid hz
    have HB := Lib.hid hb
    rcases l with _ | m
    · have d1 : decide ((0 : Int) < ((0 : Nat) : Int)) = false := by decide
      have HR := Lib.hid (HNO.out fun j h1 h2 => hz j (by omega) h2)
      clear hz hb
      go_wp2
      go_ret2
      exact .inr ⟨HR.out, rfl, HB.out⟩
    · have d1 : (0 : Int) < ((m + 1 : Nat) : Int) := by omega
      have i1 : ((m + 1 : Nat) : Int) < ((N + 1 : Nat) : Int) := by omega
      have i2 : (0 : Int) ≤ ((m + 1 : Nat) : Int) := by omega
      obtain ⟨b9, o9, hb9, -, x1⟩ := (H1.out.keep hb).one (m + 1) (by have := HDN.out; omega)
      injection hb9 with hb9
      injection hb9 with e8 e9
      subst e8 e9
      have HYI := Lib.hid (HYES.out (m + 1) (by omega) (by omega))
      have HZN : Hid (iAt D (m + 1) = 0 → ∀ j, m < j → j < N + 1 → iAt D j = 0) := Lib.hid fun h0 j h1 h2 => by
        by_cases e : j = m + 1
        · subst e; exact h0
        · exact HZ.out j (by omega) h2
      have HRL := Lib.hid (HRG.out (m + 1) (by omega))
      have HRM := Lib.hid (HRG.out m (by omega))
      have HNLI := Lib.hid (HNL.out (m + 1))
      clear hz hb
      obtain ⟨y, hy⟩ : ∃ y, y = iAt D (m + 1) := ⟨_, rfl⟩
      rw [← hy] at x1 HYI HZN HRL HNLI
      have HY := Lib.hid hy
      clear hy
      by_cases h0 : y = 0
      · have d2 : (y == 0) = true := by rw [beq_iff_eq]; exact h0
        have HR := Lib.hid (HZN.out h0)
        clear h0
        go_wp2
        go_roundw
        case rel => exact ⟨m, by omega, by go_num, HR.out, HB.out⟩
        case measure => (simp [intOf] <;> omega)
      · have d2 : (y == 0) = false := by rw [beq_eq_false_iff_ne]; exact h0
        have d3 : (((m + 1 : Nat) : Int) == 0) = false := by rw [beq_eq_false_iff_ne]; omega
        have HR := Lib.hid (HYI.out h0 HZ.out)
        clear h0
        go_wp2_with fail
        refine (HCL.out wr (H1.out.keep HB.out)).mono ?_
        rintro e w2 ⟨g, cap, rfl, hg, hcap, hpb, hb2⟩
        have HB2 := Lib.hid (HB.out.trans (hb2.mono HB.out.size))
        have HGE : Hid (w.heap.size ≤ g) := Lib.hid (by have := HB.out.size; omega)
        have HCAP := Lib.hid hcap
        have hx0 : w2.cell? ⟨b1, o1 + (m + 1), none⟩ = some (.int .i64 y) := by
          obtain ⟨b9, o9, hb9, -, x9⟩ := (H1.out.keep HB2.out).one (m + 1) (by have := HDN.out; omega)
          injection hb9 with hb9
          injection hb9 with e8 e9
          subst e8 e9
          rw [HY.out]; exact x9
        have hb1g : g ≠ b1 := by have := HGE.out; omega
        have s1 := hpb.cell m (by have := HDN.out; omega)
        have s2 := hpb.frozen m
        obtain ⟨x, hx⟩ : ∃ x, x = iAt D m := ⟨_, rfl⟩
        rw [← hx] at s1 HRM
        have hrm := HRM.out
        have hrl := HRL.out
        have p1 := hpb.set m (x + 1)
        have s3 := p1.cell (m + 1) (by rw [List.length_set]; have := HDN.out; omega)
        have s4 := p1.frozen (m + 1)
        have p2 := p1.set (m + 1) 0
        have s5 := p2.cell N (by rw [List.length_set, List.length_set]; have := HDN.out; omega)
        have s6 := p2.frozen N
        have p3 := p2.set N (y - 1)
        have x3 : ((w2.setCell ⟨g, m, none⟩ (.int .i64 (x + 1))).setCell ⟨g, m + 1, none⟩ (.int .i64 0)).cell? ⟨b1, o1 + (m + 1), none⟩ = some (.int .i64 y) := by
          exact (World.cell?_setCell_other _ _ _ _ (by intro e; injection e with e1; exact hb1g e1)).trans ((World.cell?_setCell_other _ _ _ _ (by intro e; injection e with e1; exact hb1g e1)).trans hx0)
        have hRE : R = some (((D.set m (x + 1)).set (m + 1) 0).set N (y - 1)) := by rw [HR.out, HNLI.out, hx]; rfl
        have HRE := Lib.hid hRE
        have hp3 : IsAt (((w2.setCell ⟨g, m, none⟩ (.int .i64 (x + 1))).setCell ⟨g, m + 1, none⟩ (.int .i64 0)).setCell ⟨g, N, none⟩ (.int .i64 (y - 1))) (some ⟨g, 0, none⟩) (((D.set m (x + 1)).set (m + 1) 0).set N (y - 1)) := p3.row
        have hbf : Below w.heap.size w (((w2.setCell ⟨g, m, none⟩ (.int .i64 (x + 1))).setCell ⟨g, m + 1, none⟩ (.int .i64 0)).setCell ⟨g, N, none⟩ (.int .i64 (y - 1))) := ((HB2.out.setCell (p := ⟨g, m, none⟩) HGE.out _).setCell (p := ⟨g, m + 1, none⟩) HGE.out _).setCell (p := ⟨g, N, none⟩) HGE.out _
        have HP3 := Lib.hid hp3
        have HBF := Lib.hid hbf
        have HLN : Hid ((((D.set m (x + 1)).set (m + 1) 0).set N (y - 1)).length = N + 1) := Lib.hid (by simp [HDN.out])
        generalize iAt (D.set m (x + 1)) (m + 1) = v2 at s3
        generalize iAt ((D.set m (x + 1)).set (m + 1) 0) N = v3 at s5
        generalize ((D.set m (x + 1)).set (m + 1) 0).set N (y - 1) = Y at *
        have j1 : (m : Int) < ((N + 1 : Nat) : Int) := by omega
        have j2 : (N : Int) < ((N + 1 : Nat) : Int) := by omega
        clear hp3 hbf hRE p1 p2 p3 hpb hb2 hg hcap hx hx0 x1 d2 hb1g
        go_wp2
        go_ret2
        exact .inl ⟨Y, some ⟨g, 0, none⟩, cap, HRE.out, by rw [HLN.out]; rfl, by rw [HLN.out]; exact HCAP.out, fun p e => by injection e with e; subst e; exact HGE.out, HP3.out, HBF.out⟩
end Go.Proofs.Ytalbdggpghkcfaa
