/- Close of the program. -/
import Derived.Test.YtffcahhnaomegaaDoorLt
import Derived.Deep.QuietTactic
import Derived.BigQuiet
namespace Go.Proofs.YtffcahhnaomegaaDoor
open Go.RowKit Go.Proofs.Lx

theorem info9 : (Tryd.prog.info? 9).map (fun i => (i.zero, i.size, i.bytes)) = some (some (.string ⟨#[]⟩), 1, 16) := by kernel_rfl
/-- Bytes as texts of one byte each. -/
def chs (st : List UInt8) : List Value := st.map (fun c => .string (bt [c]))
theorem chs_len (st : List UInt8) : (chs st).length = st.length := by simp [chs]
theorem own_cut {w : World} {base : Nat} {e : TypeId} {a : Option Addr} {n c k : Nat} {xs : List Value} (h : w.ownsRow base e 1 (.slice a n c) n xs) (hk : k ≤ n) (hn : 0 < n) : w.ownsRow base e 1 (.slice a k c) k (xs.take k) := by
  obtain ⟨h1, h2⟩ := h
  refine ⟨by rw [List.length_take]; omega, .inr ?_⟩
  rcases h2 with ⟨_, h0⟩ | ⟨g, cap, cur, hv, hb, hg, hnc, hm, hs, hx⟩
  · omega
  · simp only [Value.slice.injEq, true_and] at hv
    obtain ⟨rfl, rfl⟩ := hv
    refine ⟨g, c, cur, rfl, hb, hg, by omega, hm, hs, ?_⟩
    rw [← hx, List.take_take, Nat.min_eq_left (by omega), Nat.mul_one]
theorem own_drewN {w : World} {base : Nat} {e : TypeId} {size : Nat} {v : Value} {n : Nat} {xs : List Value} (h : w.ownsRow base e size v n xs) (k : Nat) : (w.drewN k).ownsRow base e size v n xs := h
theorem own_form {w : World} {base : Nat} {e : TypeId} {v : Value} {n : Nat} {xs : List Value} (h : w.ownsRow base e 1 v n xs) : ∃ a c, v = .slice a n c := by
  rcases h.2 with ⟨hv, h0⟩ | ⟨g, cap, cur, hv, _⟩
  · exact ⟨none, 0, by rw [hv, h0]⟩
  · exact ⟨_, _, hv⟩
theorem chs_take (st : List UInt8) (k : Nat) : (chs st).take k = chs (st.take k) := by simp [chs, List.map_take]
theorem chs_append (a b : List UInt8) : chs (a ++ b) = chs a ++ chs b := by simp [chs]
theorem chs_at (st : List UInt8) (k : Nat) (hk : k < st.length) : (chs st)[k]? = some (.string (bt [st[k]])) := by simp [chs, hk]
theorem lit9 (w : World) (s : ByteArray) : ∀ (j : Nat) (u : Value), [Value.string s][j]? = some u → (w.alloc (.cells #[.string s] 9)).cell? ((⟨w.heap.size, 0, none⟩ : Addr).add j) = some u := by
  intro j u hj
  rcases j with _ | j
  · simp at hj; subst hj; exact (cell_of_row _ _ 0 _ 9 (0, 0) (heap_alloc_new w _))
  · simp at hj

/-- Hands back a place and an error's number. -/
def GivesN (w : World) (R : Nat × Nat) (e : Ending) (w' : World) : Prop := e = .returned (.tuple #[.int .i64 (R.1 : Nat), .int .i64 (R.2 : Nat)]) ∧ Below w.heap.size w w'

set_option maxHeartbeats 3200000 in
set_option maxRecDepth 100000 in
theorem pclose_out (a : Option Addr) (cap n : Nat) (at_ : Int) (h : at_ < 0 ∨ (n : Int) ≤ at_) (w : World) :
    Calls Tryd.prog 9 #[.slice a n cap, .int .i64 at_] w (GivesN w (0, 2)) := by
  unfold GivesN
  by_cases h0 : at_ < 0
  · have hd : decide (at_ < 0) = true := decide_eq_true h0
    clear h h0
    go_enter Tryd.func9, Tryd.ntmps9
    go_wp2
    go_ret2
    exact ⟨rfl, Below.refl _ _⟩
  · have hd : decide (at_ < 0) = false := decide_eq_false h0
    have hd2 : decide ((n : Int) ≤ at_) = true := decide_eq_true (by omega)
    clear h h0
    go_enter Tryd.func9, Tryd.ntmps9
    go_wp2
    go_ret2
    exact ⟨rfl, Below.refl _ _⟩

set_option maxHeartbeats 3200000 in
set_option maxRecDepth 100000 in
theorem pclose_none (a : Option Addr) (cap : Nat) (L : List Tk) (k : Nat) (hk : k < L.length) (ho : opn (tAt L k) = 0) (w : World) (h : TkAt w a L) :
    Calls Tryd.prog 9 #[.slice a L.length cap, .int .i64 (k : Nat)] w (GivesN w (0, 4)) := by
  unfold GivesN
  obtain ⟨T, hTe⟩ : ∃ T, T = tAt L k := ⟨_, rfl⟩
  obtain ⟨b1, o1, rfl, q1, x1, x2, x3⟩ := h.three k hk T (by rw [hTe, tAt_get])
  have HC := Lib.hid (fun w => closing_any T w)
  have hO : oS T = [] := by unfold oS; rw [hTe, ho]; rfl
  rw [hO] at HC
  clear hTe h ho hO
  have hd : decide ((k : Int) < 0) = false := decide_eq_false (by omega)
  have hd2 : decide ((L.length : Int) ≤ (k : Int)) = false := decide_eq_false (by omega)
  go_enter Tryd.func9, Tryd.ntmps9
  go_wp2_with fail
  refine (HC.out _).mono ?_
  rintro e w1 ⟨rfl, hb⟩
  go_wp2
  go_ret2
  exact ⟨rfl, hb⟩

set_option maxHeartbeats 12800000 in
set_option maxRecDepth 100000 in
theorem pclose_in (a : Option Addr) (cap : Nat) (L : List Tk) (k0 : Nat) (hk0 : k0 < L.length) (hL : L.length ≤ 100000) (ho : opn (tAt L k0) ≠ 0) (w : World) (h : TkAt w a L) :
    Calls Tryd.prog 9 #[.slice a L.length cap, .int .i64 (k0 : Nat)] w (GivesN w (closeF (L.drop k0) k0 [])) := by
  unfold GivesN
  have H := Lib.hid h
  obtain ⟨R, HR⟩ : ∃ R, Hid (closeF (L.drop k0) k0 [] = R) := ⟨_, Lib.hid rfl⟩
  rw [HR.out]
  obtain ⟨T, hTe⟩ : ∃ T, T = tAt L k0 := ⟨_, rfl⟩
  have HO0 := Lib.hid ho
  obtain ⟨b1, o1, rfl, q1, x1, x2, x3⟩ := h.three k0 hk0 T (by rw [hTe, tAt_get])
  have HC := Lib.hid (fun w => closing_any T w)
  obtain ⟨c, hc⟩ : ∃ c, c = opn T := ⟨_, rfl⟩
  have hO : oS T = [c] := by unfold oS; rw [← hc, if_neg]; rw [hc, hTe]; exact ho
  rw [hO] at HC
  clear hTe h ho hO hc
  obtain ⟨i0, hi, hz0, hz1, hz2⟩ := info_parts info9
  have hd : decide ((k0 : Int) < 0) = false := decide_eq_false (by omega)
  have hd2 : decide ((L.length : Int) ≤ (k0 : Int)) = false := decide_eq_false (by omega)
  go_enter Tryd.func9, Tryd.ntmps9
  go_wp2_with fail
  refine (HC.out _).mono ?_
  rintro e w1 ⟨rfl, hb1⟩
  have Hb1 := Lib.hid hb1
  clear hb1 x1 x2 x3
  go_wp2
  go_loopw [6, 7] (fun v l wr => ∃ (i : Nat) (st : List UInt8), k0 ≤ i ∧ i ≤ L.length ∧ st.length ≤ i ∧ (i = k0 ∨ 0 < st.length) ∧ l = .int .i64 i ∧ Hid (closeF (L.drop i) i st = R) ∧ wr.ownsRow w.heap.size 9 1 v st.length (chs st) ∧ Below w.heap.size w wr) (fun _ l _ => L.length - (intOf l).toNat)
  case atStart => exact ⟨k0, [], by omega, by omega, by simp, .inl rfl, rfl, HR, World.ownsRow_nil _ _ _ _, Hb1.out⟩
  case round =>
    obtain ⟨i, st, hi0, hi1, hst, hor, rfl, HE, hown, hb⟩ := hrel
    obtain ⟨A, cc, rfl⟩ := own_form hown
    have HOW := Lib.hid hown
    have Hb := Lib.hid hb
    clear hown hb
    by_cases hlt : i < L.length
    · obtain ⟨T, hTe⟩ : ∃ T, T = tAt L i := ⟨_, rfl⟩
      have HT := Lib.hid hTe
      obtain ⟨b2, o2, ha, q2, x1, x2, x3⟩ := (H.out.keep Hb.out).three i hlt T (by rw [hTe, tAt_get])
      simp only [Option.some.injEq, Addr.mk.injEq, and_true] at ha
      obtain ⟨rfl, rfl⟩ := ha
      have HC2 := Lib.hid (fun w => closing_any T w)
      by_cases hop : opn T = 0
      · have hO : oS T = [] := by unfold oS; rw [hop]; rfl
        rw [hO] at HC2
        have hne : i ≠ k0 := by rintro rfl; rw [← hTe] at HO0; exact HO0.out hop
        have hst1 : 0 < st.length := by rcases hor with e | e; exact absurd e hne; exact e
        have HI := Lib.hid (fun w => isClosing_any T w)
        by_cases hcl : clo T = 0
        · have HE2 := Lib.hid ((close_skip L i st hlt (by rw [← hTe]; exact hop) (by rw [← hTe]; exact hcl)).symm.trans HE.out)
          rw [show decide (clo T ≠ 0) = false from by rw [hcl]; rfl] at HI
          clear hTe hO hop hcl HE hor
          go_wp2_with fail
          refine (HC2.out _).mono ?_
          rintro e w3 ⟨rfl, hb3⟩
          have HOW3 := Lib.hid (own_keep HOW.out hb3)
          have Hb3 := Lib.hid (Hb.out.trans (hb3.mono Hb.out.size))
          have y1 := (hb3.cell (p := ⟨b1, o1 + i * 3, none⟩) q2).trans x1
          have y2 := (hb3.cell (p := ⟨b1, o1 + i * 3 + 1, none⟩) q2).trans x2
          have y3 := (hb3.cell (p := ⟨b1, o1 + i * 3 + 2, none⟩) q2).trans x3
          clear hb3 x1 x2 x3
          go_wp2_with fail
          refine (HI.out _).mono ?_
          rintro e w4 ⟨rfl, hb4⟩
          have HOW4 := Lib.hid (own_keep HOW3.out hb4)
          have Hb4 := Lib.hid (Hb3.out.trans (hb4.mono Hb3.out.size))
          clear hb4
          go_wp2
          go_roundw
          case rel => exact ⟨i + 1, st, by omega, by omega, by omega, .inr hst1, by go_num, HE2, HOW4.out, Hb4.out⟩
          case measure => simp [intOf]; omega
        · have hX := clo_text T hcl
          obtain ⟨m, hm⟩ : ∃ m, st.length = m + 1 := ⟨st.length - 1, by omega⟩
          have hml : m < st.length := by omega
          have hlast : st.getLast? = some st[m] := by
            rw [List.getLast?_eq_getElem?, hm, Nat.add_sub_cancel, List.getElem?_eq_getElem hml]
          rw [show decide (clo T ≠ 0) = true from decide_eq_true hcl] at HI
          obtain ⟨d, hd0⟩ : ∃ d, d = clo T := ⟨_, rfl⟩
          obtain ⟨g, hA⟩ : ∃ g, A = some ⟨g, 0, none⟩ := by
            rcases HOW.out.2 with ⟨_, h0⟩ | ⟨g, cap', cur, hv, _⟩
            · omega
            · simp only [Value.slice.injEq] at hv; exact ⟨g, hv.1⟩
          subst hA
          have HX : Hid (T.text = [d]) := by rw [hd0]; exact Lib.hid hX
          obtain ⟨s1, hs1⟩ : ∃ s1, s1 = bt T.text := ⟨_, rfl⟩
          obtain ⟨s2, hs2⟩ : ∃ s2, s2 = bt [st[m]] := ⟨_, rfl⟩
          have hsq : (s1.toList == s2.toList) = decide (d = st[m]) := by
            have := str_is [d] [st[m]]
            rw [hs1, HX.out, hs2, show (bt [st[m]]).toList = [st[m]] from by rw [ByteArray.toList_eq], this]
            simp
          rw [← hs1] at x2
          have HI' : Hid (∀ w, Calls Tryd.prog 24 #[.agg #[.int .i64 T.kind, .string s1, .int .i64 T.pos]] w (fun e w' => e = .returned (.bool true) ∧ Below w.heap.size w w')) := by rw [hs1]; exact HI
          have HC3 : Hid (∀ w, Calls Tryd.prog 23 #[.agg #[.int .i64 T.kind, .string s1, .int .i64 T.pos]] w (fun e w' => e = .returned (.string (bt [])) ∧ Below w.heap.size w w')) := by rw [hs1]; exact HC2
          have hcell : wr.cell? ⟨g, m, none⟩ = some (.string s2) := by
            have := HOW.out.cellAt m (by omega)
            rw [this, chs_at st m hml, hs2]
          have hgl : g < wr.heap.size := (HOW.out.lt g rfl).2
          have HM := Lib.hid hm
          have hml2 : ((st.length : Nat) : Int) - 1 = (m : Int) := by omega
          have hml3 : (m : Int) < ((st.length : Nat) : Int) := by omega
          clear HI HC2 hs1 hO hX
          by_cases heq : d = st[m]
          · rw [decide_eq_true heq] at hsq
            have HLs : Hid (st.getLast? = some (clo (tAt L i))) := by rw [hlast, ← hTe, ← hd0, heq]; exact Lib.hid rfl
            have HOP : Hid (opn (tAt L i) = 0 ∧ clo (tAt L i) ≠ 0) := by rw [← hTe]; exact Lib.hid ⟨hop, hcl⟩
            clear hTe hop hcl hor hlast hs2 heq hd0 hm
            go_wp2_with fail
            refine (HC3.out _).mono ?_
            rintro e w3 ⟨rfl, hb3⟩
            have HOW3 := Lib.hid (own_keep HOW.out hb3)
            have Hb3 := Lib.hid (Hb.out.trans (hb3.mono Hb.out.size))
            have y1 := (hb3.cell (p := ⟨b1, o1 + i * 3, none⟩) q2).trans x1
            have y2 := (hb3.cell (p := ⟨b1, o1 + i * 3 + 1, none⟩) q2).trans x2
            have y3 := (hb3.cell (p := ⟨b1, o1 + i * 3 + 2, none⟩) q2).trans x3
            have z1 := (hb3.cell (p := ⟨g, m, none⟩) hgl).trans hcell
            have q3 := Nat.lt_of_lt_of_le q2 hb3.size
            have hg3 := Nat.lt_of_lt_of_le hgl hb3.size
            clear hb3 x1 x2 x3 hcell
            go_wp2_with fail
            refine (HI'.out _).mono ?_
            rintro e w4 ⟨rfl, hb4⟩
            have HOW4 := Lib.hid (own_keep HOW3.out hb4)
            have Hb4 := Lib.hid (Hb3.out.trans (hb4.mono Hb3.out.size))
            have x1 := (hb4.cell (p := ⟨b1, o1 + i * 3, none⟩) q3).trans y1
            have x2 := (hb4.cell (p := ⟨b1, o1 + i * 3 + 1, none⟩) q3).trans y2
            have x3 := (hb4.cell (p := ⟨b1, o1 + i * 3 + 2, none⟩) q3).trans y3
            have z2 := (hb4.cell (p := ⟨g, m, none⟩) hg3).trans z1
            clear hb4 y1 y2 y3 z1
            have g1 : (0 : Int) ≤ (i : Int) := by omega
            have g2 : (i : Int) < ((L.length : Nat) : Int) := by omega
            have g3 : (0 : Int) ≤ (m : Int) := by omega
            go_wp2
            go_quiet (fail)
            by_cases hm0 : m = 0
            · subst hm0
              have HE3 := Lib.hid ((close_done L i st hlt HOP.out.1 HOP.out.2 HLs.out (by have := HM.out; omega)).symm.trans HE.out)
              go_wp2
              go_ret2
              exact ⟨by rw [← HE3.out]; rfl, below_drewN Hb4.out _⟩
            · have hm1 : ((m : Int) == 0) = false := by rw [beq_eq_false_iff_ne]; omega
              have HE3 := Lib.hid ((close_pop L i st hlt HOP.out.1 HOP.out.2 HLs.out (by have := HM.out; omega)).symm.trans HE.out)
              have HOW5 : Hid (w4.ownsRow w.heap.size 9 1 (.slice (some ⟨g, 0, none⟩) m cc) m (chs (st.take m))) := by
                rw [← chs_take]
                exact Lib.hid (own_cut HOW4.out (by omega) (by omega))
              have hdl : Hid (st.dropLast = st.take m) := by
                refine Lib.hid ?_
                rw [List.dropLast_eq_take, HM.out, Nat.add_sub_cancel]
              have hcc : (m : Int) ≤ (cc : Int) := by
                rcases HOW4.out.2 with ⟨_, h0⟩ | ⟨g', cap', cur, hv, _, _, hnc, _⟩
                · have := HM.out; omega
                · simp only [Value.slice.injEq] at hv
                  have := HM.out
                  omega
              have hm9 : 0 < m := by omega
              clear hm0
              go_wp2
              go_roundw
              case rel => exact ⟨i + 1, st.dropLast, by omega, by omega, by rw [hdl.out, List.length_take]; omega, .inr (by rw [hdl.out, List.length_take]; omega), by go_num, HE3, by rw [hdl.out, List.length_take, Nat.min_eq_left (by omega)]; exact own_drewN HOW5.out _, below_drewN Hb4.out _⟩
              case measure => simp [intOf]; omega
          · rw [decide_eq_false heq] at hsq
            have HLs : Hid (st.getLast? ≠ some (clo (tAt L i))) := by rw [hlast, ← hTe, ← hd0]; exact Lib.hid (fun h => heq (by injection h with h; exact h.symm))
            have HOP : Hid (opn (tAt L i) = 0 ∧ clo (tAt L i) ≠ 0) := by rw [← hTe]; exact Lib.hid ⟨hop, hcl⟩
            clear hTe hop hcl hor hlast hs2 heq hd0 hm
            go_wp2_with fail
            refine (HC3.out _).mono ?_
            rintro e w3 ⟨rfl, hb3⟩
            have Hb3 := Lib.hid (Hb.out.trans (hb3.mono Hb.out.size))
            have y1 := (hb3.cell (p := ⟨b1, o1 + i * 3, none⟩) q2).trans x1
            have y2 := (hb3.cell (p := ⟨b1, o1 + i * 3 + 1, none⟩) q2).trans x2
            have y3 := (hb3.cell (p := ⟨b1, o1 + i * 3 + 2, none⟩) q2).trans x3
            have z1 := (hb3.cell (p := ⟨g, m, none⟩) hgl).trans hcell
            have q3 := Nat.lt_of_lt_of_le q2 hb3.size
            have hg3 := Nat.lt_of_lt_of_le hgl hb3.size
            clear hb3 x1 x2 x3 hcell
            go_wp2_with fail
            refine (HI'.out _).mono ?_
            rintro e w4 ⟨rfl, hb4⟩
            have Hb4 := Lib.hid (Hb3.out.trans (hb4.mono Hb3.out.size))
            have x1 := (hb4.cell (p := ⟨b1, o1 + i * 3, none⟩) q3).trans y1
            have x2 := (hb4.cell (p := ⟨b1, o1 + i * 3 + 1, none⟩) q3).trans y2
            have x3 := (hb4.cell (p := ⟨b1, o1 + i * 3 + 2, none⟩) q3).trans y3
            have z2 := (hb4.cell (p := ⟨g, m, none⟩) hg3).trans z1
            clear hb4 y1 y2 y3 z1
            have g1 : (0 : Int) ≤ (i : Int) := by omega
            have g2 : (i : Int) < ((L.length : Nat) : Int) := by omega
            have g3 : (0 : Int) ≤ (m : Int) := by omega
            have HE3 := Lib.hid ((close_wrong L i st hlt HOP.out.1 HOP.out.2 HLs.out).symm.trans HE.out)
            clear HE
            go_wp2
            go_quiet (fail)
            go_wp2
            go_ret2
            exact ⟨by rw [← HE3.out]; rfl, below_drewN Hb4.out _⟩
      · obtain ⟨d, hd0⟩ : ∃ d, d = opn T := ⟨_, rfl⟩
        have hO : oS T = [d] := by unfold oS; rw [← hd0, if_neg]; rw [hd0]; exact hop
        rw [hO] at HC2
        have HE2 : Hid (closeF (L.drop (i + 1)) (i + 1) (st ++ [d]) = R) := by
          have := close_open L i st hlt (by rw [← hTe]; exact hop)
          rw [← hTe, ← hd0] at this
          exact Lib.hid (this.symm.trans HE.out)
        clear hTe hO hop HE hor hd0
        go_wp2_with fail
        refine (HC2.out _).mono ?_
        rintro e w3 ⟨rfl, hb3⟩
        have HOW3 := Lib.hid (own_keep HOW.out hb3)
        have Hb3 := Lib.hid (Hb.out.trans (hb3.mono Hb.out.size))
        clear hb3 x1 x2 x3
        go_wp2_with (at_builtin; refine wpList_append_own _ rfl (.tmp 38) (.tmp 40) _ rfl w.heap.size 9 i0 (.string ⟨#[]⟩) 1 16 Tryd.underlying53 hi hz0 hz1 hz2 rfl (by decide) _ _ _ rfl (HOW3.out.alloc _) ⟨_, 0, none⟩ 1 1 [.string (bt [d])] rfl rfl (lit9 _ _) (by simp [Value.oneCell']) (by unfold maxLen; omega) (by omega) (by rw [World.size_alloc]; have := Hb3.out.size; omega) ?_; intro v1 w5 hown1 hgrow1 _; have hk4 := below_push Hb3.out (fun k hk => (HOW3.out.lt k hk).1) hgrow1)
        have HOW5 : Hid (w5.ownsRow w.heap.size 9 1 v1 (st ++ [d]).length (chs (st ++ [d]))) := by
          rw [List.length_append, chs_append]
          exact hown1
        have Hb5 := Lib.hid hk4
        clear hown1 hk4 hgrow1
        go_roundw
        case rel => exact ⟨i + 1, st ++ [d], by omega, by omega, by simp; omega, .inr (by simp), by go_num, HE2, HOW5.out, Hb5.out⟩
        case measure => simp [intOf]; omega
    · obtain rfl : i = L.length := by omega
      have HE2 := Lib.hid ((close_end L L.length st (Nat.le_refl _)).symm.trans HE.out)
      clear HE
      go_wp2
      go_ret2
      exact ⟨by rw [← HE2.out]; rfl, Hb.out⟩

/-- Close at whatever place. -/
theorem pclose_any (a : Option Addr) (cap : Nat) (L : List Tk) (hL : L.length ≤ 100000) (at_ : Int) (w : World) (h : TkAt w a L) :
    Calls Tryd.prog 9 #[.slice a L.length cap, .int .i64 at_] w (GivesN w (closeR L at_)) := by
  unfold closeR
  by_cases h0 : at_ < 0 ∨ (L.length : Int) ≤ at_
  · rw [if_pos h0]
    exact pclose_out a cap L.length at_ h0 w
  · rw [if_neg h0]
    obtain ⟨k, rfl⟩ : ∃ k : Nat, at_ = k := ⟨at_.toNat, by omega⟩
    rw [Int.toNat_natCast]
    by_cases ho : opn (tAt L k) = 0
    · rw [if_pos ho]
      exact pclose_none a cap L k (by omega) ho w h
    · rw [if_neg ho]
      exact pclose_in a cap L k (by omega) hL ho w h
end Go.Proofs.YtffcahhnaomegaaDoor
