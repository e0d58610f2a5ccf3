/- Abelian groups: pairs of residues, and their sums. -/
import Derived.Test.YtnfmcdfdbipeoaaGreatDoorQ35
import Derived.Laws.AppendOwn
import Derived.OwnWalk
namespace Go.Proofs.YtnfmcdfdbipeoaaGreatDoor
open Go.RowKit Go.Proofs.Num

theorem info92 : (Tryz.prog.info? 92).map (fun i => (i.zero, i.size, i.bytes)) = some (some (.agg #[.string ⟨#[]⟩, .string ⟨#[]⟩]), 2, 32) := by kernel_rfl
/-- Pairs as cells. -/
def prs (g h : Nat → ByteArray) : Nat → List Value
  | 0 => []
  | n + 1 => prs g h n ++ [.string (g n), .string (h n)]
theorem prs_len (g h : Nat → ByteArray) : ∀ n, (prs g h n).length = n * 2
  | 0 => rfl
  | n + 1 => by unfold prs; rw [List.length_append, prs_len g h n]; simp; omega
theorem prs_at (g h : Nat → ByteArray) : ∀ n j, j < n → (prs g h n)[j * 2]? = some (.string (g j)) ∧ (prs g h n)[j * 2 + 1]? = some (.string (h j))
  | 0, j, hj => by omega
  | n + 1, j, hj => by
    unfold prs
    rcases Nat.lt_succ_iff_lt_or_eq.1 hj with h1 | rfl
    · rw [List.getElem?_append_left (by rw [prs_len]; omega), List.getElem?_append_left (by rw [prs_len]; omega)]
      exact prs_at g h n j h1
    · rw [List.getElem?_append_right (by rw [prs_len]; omega), List.getElem?_append_right (by rw [prs_len]; omega), prs_len]
      exact ⟨by simp, by simp⟩
/-- At an address pairs of texts lie. -/
def PsAt (w : World) (a : Option Addr) (g h : Nat → ByteArray) (n : Nat) : Prop :=
  ∀ j, j < n → ∃ b, a = some ⟨b, 0, none⟩ ∧ b < w.heap.size ∧ w.cell? ⟨b, j * 2, none⟩ = some (.string (g j)) ∧ w.cell? ⟨b, j * 2 + 1, none⟩ = some (.string (h j))
theorem PsAt.keep {w w' : World} {a : Option Addr} {g h : Nat → ByteArray} {n : Nat} (H : PsAt w a g h n) (hb : Below w.heap.size w w') : PsAt w' a g h n := by
  intro j hj
  obtain ⟨b, rfl, hlt, h0, h1⟩ := H j hj
  exact ⟨b, rfl, Nat.lt_of_lt_of_le hlt hb.size, (hb.cell (p := ⟨b, j * 2, none⟩) hlt).trans h0, (hb.cell (p := ⟨b, j * 2 + 1, none⟩) hlt).trans h1⟩
/-- Hands back a list of pairs. -/
def GivesPs (w : World) (g h : Nat → ByteArray) (n : Nat) (e : Ending) (w' : World) : Prop :=
  ∃ a cap, e = .returned (.tuple #[.slice a n cap, .int .i64 0]) ∧ PsAt w' a g h n ∧ Below w.heap.size w w'
theorem PsAt.of_own {w : World} {base g0 cap n : Nat} {g h : Nat → ByteArray} (H : w.ownsRow base 92 2 (.slice (some ⟨g0, 0, none⟩) n cap) n (prs g h n)) : PsAt w (some ⟨g0, 0, none⟩) g h n := by
  intro j hj
  have hlt : g0 < w.heap.size := (H.lt g0 rfl).2
  exact ⟨g0, rfl, hlt, (H.cellAt (j * 2) (by omega)).trans (prs_at g h n j hj).1, (H.cellAt (j * 2 + 1) (by omega)).trans (prs_at g h n j hj).2⟩

set_option maxHeartbeats 3200000 in
set_option maxRecDepth 100000 in
theorem pairOf_any (s r : ByteArray) (w : World) :
    Calls Tryz.prog 77 #[.string s, .string r] w (fun e w' => e = .returned (.tuple #[.agg #[.string s, .string r], .int .i64 0]) ∧ Below w.heap.size w w') := by
  have hbx : Box 92 (w.alloc (.cells #[.string s, .string r] 92)) w.heap.size (.string s) (.string r) := Box.new 92 w _ _
  have x0 := hbx.c0; have x1 := hbx.c1
  clear hbx
  go_enter Tryz.func77, Tryz.ntmps77
  go_wp2
  refine bodyPost_ret (v := .tuple #[.agg #[.string s, .string r], .int .i64 0]) (by simp [results, Tryz.results77, go_sem, x0, x1]) rfl ⟨rfl, (Below.refl _ _).alloc (Nat.le_refl _) _⟩

set_option maxHeartbeats 3200000 in
set_option maxRecDepth 100000 in
theorem sum_walk (s t r D Y X : ByteArray) (c1 c2 c : Int) (H1 : Hid (∀ w, Tab w → Calls Tryz.prog 118 #[.string t, .string r] w (fun e w' => e = .returned (.tuple #[.string D, .int .i64 c1]) ∧ Below w.heap.size w w'))) (H2 : Hid (∀ w, Tab w → Calls Tryz.prog 119 #[.string s, .string D] w (fun e w' => e = .returned (.tuple #[.string Y, .int .i64 c2]) ∧ Below w.heap.size w w'))) (H3 : Hid (∀ w, Tab w → Calls Tryz.prog 46 #[.string Y, .string r] w (fun e w' => e = .returned (.tuple #[.string X, .int .i64 c]) ∧ Below w.heap.size w w'))) (w : World) (hT : Tab w) :
    Calls Tryz.prog 79 #[.agg #[.string s, .string t], .string r] w (fun e w' => e = .returned (.tuple #[.string X, .int .i64 c]) ∧ Below w.heap.size w w') := by
  have HT := Lib.hid hT
  obtain ⟨W, hW⟩ : ∃ W, W = w.alloc (.cells #[.string s, .string t] 92) := ⟨_, rfl⟩
  have hbx : Box 92 W w.heap.size (.string s) (.string t) := by rw [hW]; exact Box.new 92 w _ _
  have hB0 : Below w.heap.size w W := by rw [hW]; exact (Below.refl _ _).alloc (Nat.le_refl _) _
  have x0 := hbx.c0; have x1 := hbx.c1
  have HBX := Lib.hid hbx
  have HW := Lib.hid hW
  have HB0 := Lib.hid hB0
  clear hT hW hbx hB0
  go_enter Tryz.func79, Tryz.ntmps79
  go_wp2_with fail
  rw [← HW.out]
  refine (H1.out _ (HT.out.keep HB0.out)).mono ?_
  rintro e w1 ⟨rfl, hb1⟩
  have hB1 := HB0.out.trans (hb1.mono HB0.out.size)
  have hbx1 := HBX.out.keep hb1
  clear x0 x1
  have x0 := hbx1.c0; have x1 := hbx1.c1
  clear hb1 hbx1
  go_wp2_with fail
  refine (H2.out _ (HT.out.keep hB1)).mono ?_
  rintro e w2 ⟨rfl, hb2⟩
  have hB2 := hB1.trans (hb2.mono hB1.size)
  clear x0 x1 hb2
  go_wp2_with fail
  refine (H3.out _ (HT.out.keep hB2)).mono ?_
  rintro e w3 ⟨rfl, hb3⟩
  have hB3 := hB2.trans (hb3.mono hB2.size)
  clear hb3
  go_wp2
  go_ret2
  exact ⟨rfl, hB3⟩

theorem lit_two (w : World) (s t : ByteArray) : ∀ (j : Nat) (u : Value), [Value.string s, Value.string t][j]? = some u → (w.alloc (.cells #[.string s, .string t] 92)).cell? ((⟨w.heap.size, 0, none⟩ : Addr).add j) = some u := by
  intro j u hj
  have hbx : Box 92 (w.alloc (.cells #[.string s, .string t] 92)) w.heap.size (.string s) (.string t) := Box.new 92 w _ _
  rcases j with _ | _ | j
  · simp at hj; subst hj; exact hbx.c0
  · simp at hj; subst hj; exact hbx.c1
  · simp at hj
set_option maxHeartbeats 3200000 in
set_option maxRecDepth 100000 in
theorem comb_pairs (a b : Option Addr) (c1 c2 n : Nat) (L M : List ByteArray) (hL : L.length = n) (hM : M.length = n) (hl : n ≤ 4096) (w : World) (h1 : TsAt w a L) (h2 : TsAt w b M) :
    Calls Tryz.prog 76 #[.slice a n c1, .slice b n c2, (.func (.func 77) #[] #[])] w (GivesPs w (sat L) (sat M) n) := by
  have H1 := Lib.hid h1
  have H2 := Lib.hid h2
  obtain ⟨i0, hi, hz0, hz1, hz2⟩ := info_parts info92
  have HL := Lib.hid hL
  have HM := Lib.hid hM
  have HP := Lib.hid pairOf_any
  clear h1 h2 hL hM
  go_enter Tryz.func76, Tryz.ntmps76
  go_wp2_with (at_make; refine wpList_make_own _ rfl _ _ 88 rfl w.heap.size 92 i0 (.agg #[.string ⟨#[]⟩, .string ⟨#[]⟩]) 2 Tryz.underlying88 hi hz0 hz1 _ _ _ n rfl rfl (by omega) ?b2 ?b3 (Nat.le_refl _) ?_)
  case b2 => rw [hz2]; omega
  case b3 => unfold maxLen; omega
  intro w0 hown0 hgrow0
  have hB0 : Below w.heap.size w w0 := (Below.refl _ _).grown hgrow0 (Nat.le_refl _) (fun k h => by cases h)
  have HB0 := Lib.hid hB0
  clear hgrow0 hB0
  go_wp2
  go_loopw [8, 22] (fun v l wr => ∃ i : Nat, i ≤ n ∧ l = .int .i64 i ∧ v = .slice (some ⟨w.heap.size, 0, none⟩) i n ∧ wr.ownsRow w.heap.size 92 2 (.slice (some ⟨w.heap.size, 0, none⟩) i n) i (prs (sat L) (sat M) i) ∧ Below w.heap.size w wr) (fun _ l _ => n - (intOf l).toNat)
  case atStart => exact ⟨0, Nat.zero_le _, rfl, rfl, hown0, HB0.out⟩
  case round =>
    clear hown0
    obtain ⟨i, hi', rfl, rfl, hown, hB⟩ := hrel
    have HOW := Lib.hid hown
    clear hown
    by_cases hlt : i < n
    · obtain ⟨b1, o1, rfl, hb1, hc1⟩ := (H1.out.keep hB) i (by rw [HL.out]; exact hlt)
      obtain ⟨b2, o2, rfl, hb2, hc2⟩ := (H2.out.keep hB) i (by rw [HM.out]; exact hlt)
      obtain ⟨s, hs⟩ : ∃ s, s = sat L i := ⟨_, rfl⟩
      obtain ⟨t, ht⟩ : ∃ t, t = sat M i := ⟨_, rfl⟩
      rw [← hs] at hc1
      rw [← ht] at hc2
      have HS : Hid (∀ x, Below wr.heap.size wr x → (Below wr.heap.size wr x ∧ x.cell? ⟨b1, o1 + i, none⟩ = some (.string s) ∧ x.cell? ⟨b2, o2 + i, none⟩ = some (.string t))) := fun x hx => ⟨hx, (hx.cell (p := ⟨b1, o1 + i, none⟩) hb1).trans hc1, (hx.cell (p := ⟨b2, o2 + i, none⟩) hb2).trans hc2⟩
      have HSS : Hid (s = sat L i ∧ t = sat M i) := ⟨hs, ht⟩
      clear hb1 hb2 hc1 hc2 hs ht
      go_wp2
      have hk2 : Below wr.heap.size wr wr.drew := (Below.refl _ _).drew
      obtain ⟨_, f0, f1⟩ := HS.out _ hk2
      go_region_held3 (fun x => Below wr.heap.size wr x ∧ x.cell? ⟨b1, o1 + i, none⟩ = some (.string s) ∧ x.cell? ⟨b2, o2 + i, none⟩ = some (.string t))
    (first | exact HS.out _ (by assumption) | exact HS.out _ (Below.drew (by assumption)) | (refine HS.out _ ?_; exact Below.alloc hk2 hk2.size _) | (refine HS.out _ ?_; exact ((hk2.setCell (by simp <;> omega) _).setCell (by simp <;> omega) _)))
    (first | (go_at_call 77; refine (HP.out _ _ _).mono ?_; rintro e wz ⟨rfl, hbz⟩; (try (have hbx : Box 92 wz wr.heap.size (.string ⟨#[]⟩) (.string ⟨#[]⟩) := (Box.new 92 wr.drew (.string ⟨#[]⟩) (.string ⟨#[]⟩)).keep hbz; have y0 := hbx.c0; have y1 := hbx.c1; have y2 := hbx.f0 0; have y3 := hbx.f0 1)); (first | (have hk3 := hk2.trans (hbz.mono hk2.size)) | (have hk3 := (hk2.alloc hk2.size _).trans (hbz.mono (hk2.alloc hk2.size _).size))); clear hbz hk2; have hk2 := hk3; clear hk3))
      · have hkU : Below wr.heap.size wr (wz.alloc (.cells #[.string s, .string t] 92)) := hk2.alloc hk2.size _
        have hbU : Box 92 (wz.alloc (.cells #[.string s, .string t] 92)) wz.heap.size (.string s) (.string t) := Box.new 92 wz _ _
        obtain ⟨V, hV⟩ : ∃ V, V = wz.alloc (.cells #[.string s, .string t] 92) := ⟨_, rfl⟩
        rw [← hV] at hkU hbU ⊢
        have x0 := hbU.c0; have x1 := hbU.c1
        have hBV : Below w.heap.size w V := hB.trans (hkU.mono hB.size)
        have HOWV := Lib.hid (own_keep HOW.out hkU)
        have hbs := hBV.size
        clear hV hbU hkU hk2 f0 f1
        go_wp2_with (at_builtin; refine wpList_append_fits _ rfl _ _ 88 rfl w.heap.size 92 i0 2 Tryz.underlying88 hi hz1 w.heap.size i n _ rfl (HOWV.out.alloc _) ⟨V.heap.size, 0, none⟩ 1 1 [.string s, .string t] rfl rfl (lit_two _ _ _) (by simp [Value.oneCell']) (by omega) ?_; intro w1 hown1 hgrow1)
        have HOW2 := Lib.hid hown1
        have hB2 : Below w.heap.size w w1 := below_push (v := .slice (some ⟨w.heap.size, 0, none⟩) i n) hBV (fun k hk => by simp [Value.ownBlock] at hk; omega) hgrow1
        clear hown1 hgrow1 x0 x1
        go_wp2
        go_roundw
        case rel => exact ⟨i + 1, by omega, by go_num, rfl, by have := HOW2.out; rw [HSS.out.1, HSS.out.2] at this; exact this, hB2⟩
        case measure => simp [intOf]; omega
      · have hkU : Below wr.heap.size wr ((wz.setCell ⟨wr.heap.size, 0, none⟩ (.string s)).setCell ⟨wr.heap.size, 1, none⟩ (.string t)) := (hk2.setCell (by simp <;> omega) _).setCell (by simp <;> omega) _
        have hbU : Box 92 ((wz.setCell ⟨wr.heap.size, 0, none⟩ (.string s)).setCell ⟨wr.heap.size, 1, none⟩ (.string t)) wr.heap.size (.string s) (.string t) := (hbx.set0 _).set1 _
        obtain ⟨V, hV⟩ : ∃ V, V = (wz.setCell ⟨wr.heap.size, 0, none⟩ (.string s)).setCell ⟨wr.heap.size, 1, none⟩ (.string t) := ⟨_, rfl⟩
        rw [← hV] at hkU hbU ⊢
        have x0 := hbU.c0; have x1 := hbU.c1
        have hBV : Below w.heap.size w V := hB.trans (hkU.mono hB.size)
        have HOWV := Lib.hid (own_keep HOW.out hkU)
        have hbs := hBV.size
        clear hV hbU hkU hk2 f0 f1
        go_wp2_with (at_builtin; refine wpList_append_fits _ rfl _ _ 88 rfl w.heap.size 92 i0 2 Tryz.underlying88 hi hz1 w.heap.size i n _ rfl (HOWV.out.alloc _) ⟨V.heap.size, 0, none⟩ 1 1 [.string s, .string t] rfl rfl (lit_two _ _ _) (by simp [Value.oneCell']) (by omega) ?_; intro w1 hown1 hgrow1)
        have HOW2 := Lib.hid hown1
        have hB2 : Below w.heap.size w w1 := below_push (v := .slice (some ⟨w.heap.size, 0, none⟩) i n) hBV (fun k hk => by simp [Value.ownBlock] at hk; omega) hgrow1
        clear hown1 hgrow1 x0 x1
        go_wp2
        go_roundw
        case rel => exact ⟨i + 1, by omega, by go_num, rfl, by have := HOW2.out; rw [HSS.out.1, HSS.out.2] at this; exact this, hB2⟩
        case measure => simp [intOf]; omega
    · obtain rfl : i = n := by omega
      have HE := Lib.hid (PsAt.of_own HOW.out)
      go_wp2
      go_ret2
      exact ⟨some ⟨w.heap.size, 0, none⟩, i, rfl, HE.out, hB⟩

set_option maxHeartbeats 3200000 in
set_option maxRecDepth 100000 in
theorem comb_sum (a b : Option Addr) (c1 c2 : Nat) (g h : Nat → ByteArray) (G : List ByteArray) (hl : G.length ≤ 4096) (X : Nat → ByteArray) (HO : Hid (∀ j, j < G.length → ∀ w, Tab w → Calls Tryz.prog 79 #[.agg #[.string (g j), .string (h j)], .string (sat G j)] w (fun e w' => e = .returned (.tuple #[.string (X j), .int .i64 0]) ∧ Below w.heap.size w w'))) (w : World) (h1 : PsAt w a g h G.length) (h2 : TsAt w b G) (hT : Tab w) :
    Calls Tryz.prog 78 #[.slice a G.length c1, .slice b G.length c2, (.func (.func 79) #[] #[])] w (GivesTs w (upto X G.length) 0) := by
  have H1 := Lib.hid h1
  have H2 := Lib.hid h2
  have HT := Lib.hid hT
  obtain ⟨i0, hi, hz0, hz1, hz2⟩ := info_parts info31
  clear h1 h2 hT
  go_enter Tryz.func78, Tryz.ntmps78
  go_wp2_with (at_make; refine wpList_make_own _ rfl _ _ 22 rfl w.heap.size 31 i0 (.string ⟨#[]⟩) 1 Tryz.underlying22 hi hz0 hz1 _ _ _ G.length rfl rfl (by omega) ?b2 ?b3 (Nat.le_refl _) ?_)
  case b2 => rw [hz2]; omega
  case b3 => unfold maxLen; omega
  intro w0 hown0 hgrow0
  have hB0 : Below w.heap.size w w0 := (Below.refl _ _).grown hgrow0 (Nat.le_refl _) (fun k h => by cases h)
  have HB0 := Lib.hid hB0
  clear hgrow0 hB0
  go_wp2
  go_loopw [8, 22] (fun v l wr => ∃ i : Nat, i ≤ G.length ∧ l = .int .i64 i ∧ v = .slice (some ⟨w.heap.size, 0, none⟩) i G.length ∧ wr.ownsRow w.heap.size 31 1 (.slice (some ⟨w.heap.size, 0, none⟩) i G.length) i (strs (upto X i)) ∧ Below w.heap.size w wr) (fun _ l _ => G.length - (intOf l).toNat)
  case atStart => exact ⟨0, Nat.zero_le _, rfl, rfl, hown0, HB0.out⟩
  case round =>
    clear hown0
    obtain ⟨i, hi', rfl, rfl, hown, hB⟩ := hrel
    have HOW := Lib.hid hown
    clear hown
    by_cases hlt : i < G.length
    · obtain ⟨b1, rfl, hb1, hc1, hd1⟩ := (H1.out.keep hB) i hlt
      obtain ⟨b2, o2, rfl, hb2, hc2⟩ := (H2.out.keep hB) i hlt
      have C := Lib.hid (fun w => HO.out i hlt w)
      have HS : Hid (∀ x, Below wr.heap.size wr x → (Below wr.heap.size wr x ∧ x.cell? ⟨b1, i * 2, none⟩ = some (.string (g i)) ∧ x.cell? ⟨b1, i * 2 + 1, none⟩ = some (.string (h i)) ∧ x.cell? ⟨b2, o2 + i, none⟩ = some (.string (sat G i)))) := fun x hx => ⟨hx, (hx.cell (p := ⟨b1, i * 2, none⟩) hb1).trans hc1, (hx.cell (p := ⟨b1, i * 2 + 1, none⟩) hb1).trans hd1, (hx.cell (p := ⟨b2, o2 + i, none⟩) hb2).trans hc2⟩
      clear hb1 hb2 hc1 hc2 hd1
      go_wp2
      have hk2 : Below wr.heap.size wr wr.drew := (Below.refl _ _).drew
      have HTr := Lib.hid (HT.out.keep hB)
      obtain ⟨_, f0, f1, f2⟩ := HS.out _ hk2
      go_region_held3 (fun x => Below wr.heap.size wr x ∧ x.cell? ⟨b1, i * 2, none⟩ = some (.string (g i)) ∧ x.cell? ⟨b1, i * 2 + 1, none⟩ = some (.string (h i)) ∧ x.cell? ⟨b2, o2 + i, none⟩ = some (.string (sat G i)))
    (first | exact HS.out _ (by assumption) | exact HS.out _ (Below.drew (by assumption)) | (refine HS.out _ ?_; exact Below.alloc hk2 hk2.size _))
    (first | (go_at_call 79; refine (C.out _ (HTr.out.keep hk2)).mono ?_; rintro e wz ⟨rfl, hbz⟩; have hk3 := hk2.trans (hbz.mono hk2.size); clear hbz hk2; have hk2 := hk3; clear hk3))
      rename_i hHeldz
      clear hHeldz
      have hB1 : Below w.heap.size w wz := hB.trans (hk2.mono hB.size)
      have HOW1 := Lib.hid (own_keep HOW.out hk2)
      have hbs := hB1.size
      clear f0 f1 f2 hk2 HTr
      go_wp2_with (at_builtin; refine wpList_append_fits _ rfl _ _ 22 rfl w.heap.size 31 i0 1 Tryz.underlying22 hi hz1 w.heap.size i G.length _ rfl (HOW1.out.alloc _) ⟨wz.heap.size, 0, none⟩ 1 1 [.string (X i)] rfl rfl (lit_one _ _) (by simp [Value.oneCell']) (by omega) ?_; intro w1 hown1 hgrow1)
      rw [← strs_one, ← strs_append, ← upto_succ] at hown1
      have HOW2 := Lib.hid hown1
      have hB2 : Below w.heap.size w w1 := below_push (v := .slice (some ⟨w.heap.size, 0, none⟩) i G.length) hB1 (fun k hk => by simp [Value.ownBlock] at hk; omega) hgrow1
      clear hown1 hgrow1
      go_wp2
      go_roundw
      case rel => exact ⟨i + 1, by omega, by go_num, rfl, HOW2.out, hB2⟩
      case measure => simp [intOf]; omega
    · obtain rfl : i = G.length := by omega
      have HE : Hid (∃ a' c', Value.slice (some ⟨w.heap.size, 0, none⟩) G.length G.length = .slice a' (upto X G.length).length c' ∧ TsAt wr a' (upto X G.length)) := by
        have := HOW.out
        exact TsAt.of_own (by rw [upto_len]; exact this)
      go_wp2
      go_ret2
      obtain ⟨a', c', e1, e2⟩ := HE.out
      exact ⟨a', c', by rw [e1]; rfl, e2, hB⟩

end Go.Proofs.YtnfmcdfdbipeoaaGreatDoor
