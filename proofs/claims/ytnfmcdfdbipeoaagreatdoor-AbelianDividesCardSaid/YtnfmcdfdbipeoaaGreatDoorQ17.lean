/- Walks of the functions on texts: the text of a number. -/
import Derived.Test.YtnfmcdfdbipeoaaGreatDoorQ16
import Derived.Deep.DeepCutAuto
namespace Go.Proofs.YtnfmcdfdbipeoaaGreatDoor
open Go.RowKit Go.Proofs.Num

theorem tabGlobal : Tryz.prog.globalNamed "internal/strconv.uint64pow10" = some 0 := by kernel_rfl
theorem Tab.keep {w w' : World} (h : Tab w) (hb : Below w.heap.size w w') : Tab w' := by
  have hg := tabGlobal
  refine var?_below hb hg ?_ h
  have h' : w.var? Tryz.prog "internal/strconv.uint64pow10" = _ := h
  unfold World.var? at h'
  rw [hg, Option.bind_some] at h'
  split at h'
  · rename_i h2; exact (Array.getElem?_eq_some_iff.1 h2).1
  · cases h'

theorem nDigits_dig {n : Nat} (hn : n ≠ 0) : Lib.nDigits n = (dig 10 n).length := by
  induction n using Nat.strongRecOn with
  | _ n ih =>
    rw [dig_len_pos (by omega) hn]
    by_cases h : n < 10
    · rw [Lib.nDigits_small h, Nat.div_eq_of_lt h, dig_zero]; rfl
    · rw [Lib.nDigits_big h, ih (n / 10) (by omega) (by omega)]

theorem decDigits_drop (l : List Nat) (j : Nat) (hj : j + 1 < l.length) (hl : ∀ x ∈ l, x < 1000000000) (hp : 0 < val 1000000000 (l.drop (j + 1))) :
    Lib.decDigits (val 1000000000 (l.drop j)) = Lib.decDigits (val 1000000000 (l.drop (j + 1))) ++ padk 9 (nth l j) := by
  rw [val_drop 1000000000 l j (by omega), Nat.add_comm]
  exact decDigits_pad 9 _ _ hp (nth_lt (by omega) l hl j)

theorem text_zero (v : Value) (w : World) (h : Nm w v 0) : Calls Tryz.prog 95 #[v] w fun e w' => e = .returned (.tuple #[str (Lib.itoa 0), .int .i64 0]) ∧ Below w.heap.size w w' := by
  obtain ⟨b, a, k, p, rfl⟩ := h.sh
  obtain ⟨hb, -, -, hk⟩ := h.parts
  have hk0 : k = 0 := hk.2 rfl
  subst hk0
  have hi : str (Lib.itoa 0) = .string ⟨#[48]⟩ := by
    rw [show Lib.itoa 0 = Lib.decDigits 0 from Lib.itoa_nonneg 0, Lib.decDigits_one (by omega)]; rfl
  rw [hi]
  clear h hb hk hi
  go_enter Tryz.func95, Tryz.ntmps95
  go_wp2
  go_ret2
  exact ⟨rfl, below1 _ _⟩

theorem text_long (v : Value) (z : Int) (w : World) (h : Nm w v z) (hs : Sm z 4294967295) (hz : z ≠ 0) (hl : 1024 < Lib.nDigits z.natAbs) : Calls Tryz.prog 95 #[v] w fun e w' => e = .returned (.tuple #[.string ⟨#[]⟩, .int .i64 11]) ∧ Below w.heap.size w w' := by
  obtain ⟨b, a, k, p, rfl⟩ := h.sh
  obtain ⟨hb, hw, -, hk⟩ := h.parts
  have hk0 : ((k : Int) == 0) = false := by simp; omega
  rw [nDigits_dig (by omega)] at hl
  obtain ⟨m, hm⟩ : ∃ m, m = (dig 10 z.natAbs).length := ⟨_, rfl⟩
  have HM := Lib.hid hm
  rw [← hm] at hl
  have HW : Hid (Wd (w.alloc (.cells #[.bool b, .slice a k p] 104)) (.slice a k p) z.natAbs) := hw.keep (below1 _ _)
  have HS := Lib.hid hs
  clear h hb hk hm hw hs hz
  go_enter Tryz.func95, Tryz.ntmps95
  go_wp2_with fail
  refine (wdigits_any _ _ _ HW.out HS.out).mono ?_
  rintro e w' ⟨he, rfl⟩
  rw [← HM.out] at he
  subst he
  go_wp2
  go_ret2
  exact ⟨rfl, below1 _ _⟩

theorem itoa_length (z : Int) : (Lib.itoa z).length ≤ Lib.nDigits z.natAbs + 1 := by
  have hl := Lib.decDigits_length z.natAbs
  unfold Lib.itoa
  split
  · rw [List.length_cons, hl]; omega
  · rw [show z.toNat = z.natAbs by omega, hl]; omega

theorem byteCells_at (l : List UInt8) (j : Nat) (hj : j < l.length) : (Lib.byteCells l)[j]? = some (.int .u8 (l[j].toNat : Int)) := by simp [Lib.byteCells, hj]

set_option maxHeartbeats 6400000 in
set_option maxRecDepth 100000 in
/-- What follows the sign: the digits are appended to what is owned. -/
theorem text_walk (sg : List UInt8) (bb off p : Nat) (z : Int) (w : World) (k : Nat) (b : Bool) (hb : b = decide (z < 0)) (hsg : sg = if b then [45] else [])
    (hR : RdAt .u64 135 w bb off p (dig 1000000000 z.natAbs)) (hk : (dig 1000000000 z.natAbs).length = k + 1) (hz : z ≠ 0) (hl : Lib.nDigits z.natAbs ≤ 1024) (hT : Tab w) :
    Calls Tryz.prog 95 #[.agg #[.bool b, .slice (some ⟨bb, off, none⟩) (k + 1) p]] w fun e w' => e = .returned (.tuple #[str (Lib.itoa z), .int .i64 0]) ∧ Below w.heap.size w w' := by
  obtain ⟨i0, hi, hz0, hz1, hz2⟩ := info_parts info5
  have hk114 : k ≤ 200 := by
    have h1 : k * 9 ≤ (dig 10 z.natAbs).length := by rw [dig_len_top z.natAbs k hk]; omega
    rw [← nDigits_dig (by omega)] at h1; omega
  have hkne : (((k + 1 : Nat) : Int) == 0) = false := by simp; omega
  have hA : Box 104 (w.alloc (.cells #[.bool b, .slice (some ⟨bb, off, none⟩) (k + 1) p] 104)) w.heap.size (.bool b) (.slice (some ⟨bb, off, none⟩) (k + 1) p) := Box.new 104 w _ _
  have hWd : Wd (w.alloc (.cells #[.bool b, .slice (some ⟨bb, off, none⟩) (k + 1) p] 104)) (.slice (some ⟨bb, off, none⟩) (k + 1) p) z.natAbs := by
    refine Wd.keep ?_ (below1 _ _)
    exact .inr ⟨bb, off, p, by rw [hk], hR⟩
  obtain ⟨m, hm⟩ : ∃ m, m = (dig 10 z.natAbs).length := ⟨_, rfl⟩
  have hml : m ≤ 1024 := by rw [hm, ← nDigits_dig (by omega)]; exact hl
  have HM := Lib.hid hm
  have HWD := Lib.hid hWd
  have HA := Lib.hid hA
  have HL : Hid ((dig 1000000000 z.natAbs).length ≤ 4294967295) := by rw [Hid]; omega
  have HT := Lib.hid hT
  have HR := Lib.hid hR
  have HK := Lib.hid hk
  have HB := Lib.hid hb
  have HSG := Lib.hid hsg
  clear hm hWd hA hT hR hk hb hsg
  rw [show (k + 1 : Nat) = k + 1 from rfl] at *
  cases b
  · go_enter Tryz.func95, Tryz.ntmps95
    go_wp2_with fail
    refine (wdigits_any _ _ _ HWD.out HL.out).mono ?_
    rintro e w' ⟨he, rfl⟩
    rw [← HM.out] at he
    subst he
    go_wp2_with (at_make; refine wpList_make_own _ rfl _ _ 119 rfl (w.heap.size + 1) 5 i0 (.int .u8 0) 1 Tryz.underlying119 hi hz0 hz1 _ _ _ ((k + 1) * 9 + 1) rfl rfl (by omega) ?b2 ?b3 (by simp) ?_)
    case b2 => rw [hz2]; omega
    case b3 => unfold maxLen; omega
    intro w0 hown0 hgrow0
    have hB0 : Below (w.heap.size + 1) (w.alloc (.cells #[.bool false, .slice (some ⟨bb, off, none⟩) (k + 1) p] 104)) w0 := (Below.refl _ _).grown hgrow0 (by simp) (fun k h => by cases h)
    have hA0 : Box 104 w0 w.heap.size (.bool false) (.slice (some ⟨bb, off, none⟩) (k + 1) p) := (hB0.block w.heap.size (by omega)).trans HA.out
    have a0 := hA0.c0; have a1 := hA0.c1
    have hsz0 : w.heap.size + 1 ≤ w0.heap.size := by have := hB0.size; rwa [World.size_alloc] at this
    have hown1 : w0.ownsRow (w.heap.size + 1) 5 1 (.slice (some ⟨w.heap.size + 1, 0, none⟩) 0 ((k + 1) * 9 + 1)) 0 (Lib.byteCells []) := hown0
    have hB1 := hB0
    have hsz1 := hsz0
    have hA1 := hA0
    have hc1 : w0.cell? ⟨bb, off + k, none⟩ = some (.int .u64 ((nth (dig 1000000000 z.natAbs) k : Nat) : Int)) := ((hB1.cell (p := ⟨bb, off + k, none⟩) (by show bb < _; have := HR.out.lt; omega)).trans (World.cell?_alloc_past _ _ _ HR.out.lt)).trans (HR.out.cell k (by rw [HK.out]; omega))
    have hlt1 := nth_lt (b := 1000000000) (by omega) _ (dig9_lt z.natAbs) k
    have hT1 : Tab w0 := HT.out.keep ((below1 w _).trans (hB1.mono (by omega)))
    have htop : val 1000000000 ((dig 1000000000 z.natAbs).drop k) = nth (dig 1000000000 z.natAbs) k := by
      rw [val_drop _ _ k (by rw [HK.out]; omega), List.drop_of_length_le (by rw [HK.out]; omega), val_nil]; omega
    have hpos1 : 0 < nth (dig 1000000000 z.natAbs) k := by
      rw [← htop]
      have hnm := dig_norm (b := 1000000000) (by omega) z.natAbs
      have := val_pos (b := 1000000000) (by omega) ((dig 1000000000 z.natAbs).drop k) (by intro h; have := congrArg List.length h; rw [List.length_drop, HK.out] at this; simp at this) (by rw [List.getLast?_drop, if_neg (by rw [HK.out]; omega)]; exact hnm.2)
      omega
    have HTOP : Hid (val 1000000000 ((dig 1000000000 z.natAbs).drop k) = nth (dig 1000000000 z.natAbs) k ∧ 0 < nth (dig 1000000000 z.natAbs) k) := ⟨htop, hpos1⟩
    have HT1 := Lib.hid hT1
    have HA1 := Lib.hid hA1
    clear htop hpos1 hT1 hA1 hA0
    go_wp2_with fail
    refine (appendUint_any (w.heap.size + 1) _ _ (by omega) _ _ _ hown1 hsz1 (by omega) HT1.out).mono ?_
    rintro e w2 ⟨v2, rfl, hown2, hb2⟩
    have hB2 := hB1.trans hb2
    have hA2 : Box 104 w2 w.heap.size (.bool false) (.slice (some ⟨bb, off, none⟩) (k + 1) p) := (hB2.block w.heap.size (by omega)).trans HA.out
    rw [← byteCells_append] at hown2
    have hown2' : w2.ownsRow (w.heap.size + 1) 5 1 v2 (([] : List UInt8) ++ Lib.decDigits (val 1000000000 ((dig 1000000000 z.natAbs).drop k))).length (Lib.byteCells (([] : List UInt8) ++ Lib.decDigits (val 1000000000 ((dig 1000000000 z.natAbs).drop k)))) := by
      rw [HTOP.out.1, List.length_append]; exact hown2
    clear hown2 hB0 hown0 hgrow0 a0 a1 hc1
    go_wp2
    go_loopw [4, 6] (fun v ix wr => ∃ j : Nat, j ≤ k ∧ ix = .int .i64 ((j : Int) - 1) ∧ wr.ownsRow (w.heap.size + 1) 5 1 v (([] : List UInt8) ++ Lib.decDigits (val 1000000000 ((dig 1000000000 z.natAbs).drop j))).length (Lib.byteCells (([] : List UInt8) ++ Lib.decDigits (val 1000000000 ((dig 1000000000 z.natAbs).drop j)))) ∧
        Below (w.heap.size + 1) (w.alloc (.cells #[.bool false, .slice (some ⟨bb, off, none⟩) (k + 1) p] 104)) wr ∧ 0 < val 1000000000 ((dig 1000000000 z.natAbs).drop j))
      (fun _ ix _ => (intOf ix + 1).toNat)
    case atStart => exact ⟨k, Nat.le_refl _, rfl, hown2', hB2, by rw [HTOP.out.1]; exact HTOP.out.2⟩
    case round =>
      obtain ⟨j, hjk, rfl, hrow, hB, hpos⟩ := hrel
      have hAr : Box 104 wr w.heap.size (.bool false) (.slice (some ⟨bb, off, none⟩) (k + 1) p) := (hB.block w.heap.size (by omega)).trans HA.out
      have r0 := hAr.c0; have r1 := hAr.c1
      have hszr : w.heap.size + 1 ≤ wr.heap.size := by have := hB.size; rwa [World.size_alloc] at this
      by_cases h0 : j = 0
      · subst h0
        rw [List.drop_zero, val_dig9, show ([] : List UInt8) ++ Lib.decDigits z.natAbs = Lib.itoa z from (by rw [List.nil_append]; unfold Lib.itoa; rw [if_neg (by have := HB.out; simpa using this), show z.toNat = z.natAbs by have := HB.out; simp at this; omega])] at hrow
        have hne : 0 < (Lib.itoa z).length := by
          rw [← show ([] : List UInt8) ++ Lib.decDigits z.natAbs = Lib.itoa z from (by rw [List.nil_append]; unfold Lib.itoa; rw [if_neg (by have := HB.out; simpa using this), show z.toNat = z.natAbs by have := HB.out; simp at this; omega]), List.length_append, Lib.decDigits_length]; have := Lib.nDigits_pos z.natAbs; omega
        rcases hrow.2 with ⟨_, hx⟩ | ⟨g, cap, cur, hv, hg, hh, hcap, hm, hs, hx⟩
        · omega
        · subst hv
          have hcells : ∀ jj (hj : jj < (Lib.itoa z).length), wr.cell? ((⟨g, 0, none⟩ : Addr).add jj) = some (.int .u8 ((Lib.itoa z)[jj].toNat : Int)) := by
            intro jj hj
            have h1 := hrow.cellAt jj (by omega)
            rw [byteCells_at _ _ hj] at h1
            rw [← h1, Lib.add_plain]; simp
          have hcv := run_convert_bytes_back (P := Tryz.prog) wr 119 31 5 ⟨g, 0, none⟩ cap (Lib.itoa z) Tryz.underlying119 Tryz.underlying5 Tryz.underlying31 hcells
          clear hcells hrow hh hx hne
          go_wp2
          go_ret2
          exact ⟨rfl, (below1 w _).trans (hB.mono (by omega))⟩
      · obtain ⟨i, rfl⟩ : ∃ i, j = i + 1 := ⟨j - 1, by omega⟩
        have hx := nth_lt (b := 1000000000) (by omega) _ (dig9_lt z.natAbs) i
        have hci : wr.cell? ⟨bb, off + i, none⟩ = some (.int .u64 ((nth (dig 1000000000 z.natAbs) i : Nat) : Int)) := ((hB.cell (p := ⟨bb, off + i, none⟩) (by show bb < _; have := HR.out.lt; omega)).trans (World.cell?_alloc_past _ _ _ HR.out.lt)).trans (HR.out.cell i (by rw [HK.out]; omega))
        have hdd := decDigits_drop (dig 1000000000 z.natAbs) i (by rw [HK.out]; omega) (dig9_lt _) hpos
        have hbig : (([] : List UInt8) ++ Lib.decDigits (val 1000000000 ((dig 1000000000 z.natAbs).drop (i + 1)))).length ≤ 4294967295 := by
          have h1 := Lib.decDigits_length (val 1000000000 ((dig 1000000000 z.natAbs).drop (i + 1)))
          have h2 : val 1000000000 ((dig 1000000000 z.natAbs).drop (i + 1)) ≤ z.natAbs := by
            have h3 := val_append 1000000000 ((dig 1000000000 z.natAbs).take (i + 1)) ((dig 1000000000 z.natAbs).drop (i + 1))
            rw [List.take_append_drop, val_dig9] at h3
            have h4 : 0 < 1000000000 ^ ((dig 1000000000 z.natAbs).take (i + 1)).length := Nat.pow_pos (by omega)
            have h5 := Nat.le_mul_of_pos_left (val 1000000000 ((dig 1000000000 z.natAbs).drop (i + 1))) h4
            omega
          have h6 : Lib.nDigits (val 1000000000 ((dig 1000000000 z.natAbs).drop (i + 1))) ≤ 1024 := by
            rw [nDigits_dig (by omega)]
            have := dig_length_mono (b := 10) (by omega) h2
            rw [nDigits_dig (by omega)] at hl; omega
          rw [List.length_append, h1]; simp; omega
        have HDD := Lib.hid hdd
        have hpos2 : 0 < val 1000000000 ((dig 1000000000 z.natAbs).drop i) := by
          rw [val_drop _ _ i (by rw [HK.out]; omega)]; omega
        have HP := Lib.hid hpos2
        have HAR := Lib.hid hAr
        rw [show (((i + 1 : Nat) : Int) - 1) = (i : Int) by omega]
        clear hdd hpos2 hAr
        go_wp2_with fail
        refine (appendGroup_any (w.heap.size + 1) _ _ _ _ _ hrow hszr hx hbig).mono ?_
        rintro e w3 ⟨v3, rfl, hown3, hb3⟩
        go_wp2
        go_roundw
        case rel =>
          refine ⟨i, by omega, rfl, ?_, hB.trans hb3, HP.out⟩
          rw [HDD.out, ← List.append_assoc, List.length_append, padk_length, byteCells_append]
          exact hown3
        case measure => simp [intOf]
  · go_enter Tryz.func95, Tryz.ntmps95
    go_wp2_with fail
    refine (wdigits_any _ _ _ HWD.out HL.out).mono ?_
    rintro e w' ⟨he, rfl⟩
    rw [← HM.out] at he
    subst he
    go_wp2_with (at_make; refine wpList_make_own _ rfl _ _ 119 rfl (w.heap.size + 1) 5 i0 (.int .u8 0) 1 Tryz.underlying119 hi hz0 hz1 _ _ _ ((k + 1) * 9 + 1) rfl rfl (by omega) ?b2 ?b3 (by simp) ?_)
    case b2 => rw [hz2]; omega
    case b3 => unfold maxLen; omega
    intro w0 hown0 hgrow0
    have hB0 : Below (w.heap.size + 1) (w.alloc (.cells #[.bool true, .slice (some ⟨bb, off, none⟩) (k + 1) p] 104)) w0 := (Below.refl _ _).grown hgrow0 (by simp) (fun k h => by cases h)
    have hA0 : Box 104 w0 w.heap.size (.bool true) (.slice (some ⟨bb, off, none⟩) (k + 1) p) := (hB0.block w.heap.size (by omega)).trans HA.out
    have a0 := hA0.c0; have a1 := hA0.c1
    have hsz0 : w.heap.size + 1 ≤ w0.heap.size := by have := hB0.size; rwa [World.size_alloc] at this
    go_wp2_with (at_builtin; refine wpList_append_own _ rfl _ _ 119 rfl (w.heap.size + 1) 5 i0 (.int .u8 0) 1 1 Tryz.underlying119 hi hz0 hz1 hz2 rfl (by decide) (.slice (some ⟨w.heap.size + 1, 0, none⟩) 0 ((k + 1) * 9 + 1)) 0 _ rfl (hown0.alloc _) ⟨w0.heap.size, 0, none⟩ 1 1 [.int .u8 45] rfl rfl (cell_one_new _ _ _) (by simp [Value.oneCell']) (by unfold maxLen; omega) (by omega) (by rw [World.size_alloc]; omega) ?_; intro v1 w1 hown1' hgrow1 _; have hB1 : Below (w.heap.size + 1) (w.alloc (.cells #[.bool true, .slice (some ⟨bb, off, none⟩) (k + 1) p] 104)) w1 := (hB0.alloc hsz0 _).grown hgrow1 (Nat.le_trans hsz0 (by rw [World.size_alloc]; omega)) (fun k h => by cases h; exact Nat.le_refl _); have hA1 : Box 104 w1 w.heap.size (.bool true) (.slice (some ⟨bb, off, none⟩) (k + 1) p) := (hB1.block w.heap.size (by omega)).trans HA.out; have b0 := hA1.c0; have b1 := hA1.c1; have hc1 : w1.cell? ⟨bb, off + k, none⟩ = some (.int .u64 ((nth (dig 1000000000 z.natAbs) k : Nat) : Int)) := ((hB1.cell (p := ⟨bb, off + k, none⟩) (by show bb < _; have := HR.out.lt; omega)).trans (World.cell?_alloc_past _ _ _ HR.out.lt)).trans (HR.out.cell k (by rw [HK.out]; omega)))
    have hown1 : w1.ownsRow (w.heap.size + 1) 5 1 v1 1 (Lib.byteCells [45]) := hown1'
    have hsz1 : w.heap.size + 1 ≤ w1.heap.size := by have := hB1.size; rwa [World.size_alloc] at this
    have hlt1 := nth_lt (b := 1000000000) (by omega) _ (dig9_lt z.natAbs) k
    have hT1 : Tab w1 := HT.out.keep ((below1 w _).trans (hB1.mono (by omega)))
    have htop : val 1000000000 ((dig 1000000000 z.natAbs).drop k) = nth (dig 1000000000 z.natAbs) k := by
      rw [val_drop _ _ k (by rw [HK.out]; omega), List.drop_of_length_le (by rw [HK.out]; omega), val_nil]; omega
    have hpos1 : 0 < nth (dig 1000000000 z.natAbs) k := by
      rw [← htop]
      have hnm := dig_norm (b := 1000000000) (by omega) z.natAbs
      have := val_pos (b := 1000000000) (by omega) ((dig 1000000000 z.natAbs).drop k) (by intro h; have := congrArg List.length h; rw [List.length_drop, HK.out] at this; simp at this) (by rw [List.getLast?_drop, if_neg (by rw [HK.out]; omega)]; exact hnm.2)
      omega
    have HTOP : Hid (val 1000000000 ((dig 1000000000 z.natAbs).drop k) = nth (dig 1000000000 z.natAbs) k ∧ 0 < nth (dig 1000000000 z.natAbs) k) := ⟨htop, hpos1⟩
    have HT1 := Lib.hid hT1
    have HA1 := Lib.hid hA1
    clear htop hpos1 hT1 hA1 hA0
    refine (appendUint_any (w.heap.size + 1) _ _ (by omega) _ _ _ hown1 hsz1 (by omega) HT1.out).mono ?_
    rintro e w2 ⟨v2, rfl, hown2, hb2⟩
    have hB2 := hB1.trans hb2
    have hA2 : Box 104 w2 w.heap.size (.bool true) (.slice (some ⟨bb, off, none⟩) (k + 1) p) := (hB2.block w.heap.size (by omega)).trans HA.out
    rw [← byteCells_append] at hown2
    have hown2' : w2.ownsRow (w.heap.size + 1) 5 1 v2 (([45] : List UInt8) ++ Lib.decDigits (val 1000000000 ((dig 1000000000 z.natAbs).drop k))).length (Lib.byteCells (([45] : List UInt8) ++ Lib.decDigits (val 1000000000 ((dig 1000000000 z.natAbs).drop k)))) := by
      rw [HTOP.out.1, List.length_append]; exact hown2
    clear hown2 hB0 hown0 hgrow0 a0 a1 hc1 b0 b1 hown1'
    go_wp2
    go_loopw [4, 6] (fun v ix wr => ∃ j : Nat, j ≤ k ∧ ix = .int .i64 ((j : Int) - 1) ∧ wr.ownsRow (w.heap.size + 1) 5 1 v (([45] : List UInt8) ++ Lib.decDigits (val 1000000000 ((dig 1000000000 z.natAbs).drop j))).length (Lib.byteCells (([45] : List UInt8) ++ Lib.decDigits (val 1000000000 ((dig 1000000000 z.natAbs).drop j)))) ∧
        Below (w.heap.size + 1) (w.alloc (.cells #[.bool true, .slice (some ⟨bb, off, none⟩) (k + 1) p] 104)) wr ∧ 0 < val 1000000000 ((dig 1000000000 z.natAbs).drop j))
      (fun _ ix _ => (intOf ix + 1).toNat)
    case atStart => exact ⟨k, Nat.le_refl _, rfl, hown2', hB2, by rw [HTOP.out.1]; exact HTOP.out.2⟩
    case round =>
      obtain ⟨j, hjk, rfl, hrow, hB, hpos⟩ := hrel
      have hAr : Box 104 wr w.heap.size (.bool true) (.slice (some ⟨bb, off, none⟩) (k + 1) p) := (hB.block w.heap.size (by omega)).trans HA.out
      have r0 := hAr.c0; have r1 := hAr.c1
      have hszr : w.heap.size + 1 ≤ wr.heap.size := by have := hB.size; rwa [World.size_alloc] at this
      by_cases h0 : j = 0
      · subst h0
        rw [List.drop_zero, val_dig9, show ([45] : List UInt8) ++ Lib.decDigits z.natAbs = Lib.itoa z from (by unfold Lib.itoa; rw [if_pos (by have := HB.out; simpa using this.symm)]; rfl)] at hrow
        have hne : 0 < (Lib.itoa z).length := by
          rw [← show ([45] : List UInt8) ++ Lib.decDigits z.natAbs = Lib.itoa z from (by unfold Lib.itoa; rw [if_pos (by have := HB.out; simpa using this.symm)]; rfl), List.length_append, Lib.decDigits_length]; have := Lib.nDigits_pos z.natAbs; omega
        rcases hrow.2 with ⟨_, hx⟩ | ⟨g, cap, cur, hv, hg, hh, hcap, hm, hs, hx⟩
        · omega
        · subst hv
          have hcells : ∀ jj (hj : jj < (Lib.itoa z).length), wr.cell? ((⟨g, 0, none⟩ : Addr).add jj) = some (.int .u8 ((Lib.itoa z)[jj].toNat : Int)) := by
            intro jj hj
            have h1 := hrow.cellAt jj (by omega)
            rw [byteCells_at _ _ hj] at h1
            rw [← h1, Lib.add_plain]; simp
          have hcv := run_convert_bytes_back (P := Tryz.prog) wr 119 31 5 ⟨g, 0, none⟩ cap (Lib.itoa z) Tryz.underlying119 Tryz.underlying5 Tryz.underlying31 hcells
          clear hcells hrow hh hx hne
          go_wp2
          go_ret2
          exact ⟨rfl, (below1 w _).trans (hB.mono (by omega))⟩
      · obtain ⟨i, rfl⟩ : ∃ i, j = i + 1 := ⟨j - 1, by omega⟩
        have hx := nth_lt (b := 1000000000) (by omega) _ (dig9_lt z.natAbs) i
        have hci : wr.cell? ⟨bb, off + i, none⟩ = some (.int .u64 ((nth (dig 1000000000 z.natAbs) i : Nat) : Int)) := ((hB.cell (p := ⟨bb, off + i, none⟩) (by show bb < _; have := HR.out.lt; omega)).trans (World.cell?_alloc_past _ _ _ HR.out.lt)).trans (HR.out.cell i (by rw [HK.out]; omega))
        have hdd := decDigits_drop (dig 1000000000 z.natAbs) i (by rw [HK.out]; omega) (dig9_lt _) hpos
        have hbig : (([45] : List UInt8) ++ Lib.decDigits (val 1000000000 ((dig 1000000000 z.natAbs).drop (i + 1)))).length ≤ 4294967295 := by
          have h1 := Lib.decDigits_length (val 1000000000 ((dig 1000000000 z.natAbs).drop (i + 1)))
          have h2 : val 1000000000 ((dig 1000000000 z.natAbs).drop (i + 1)) ≤ z.natAbs := by
            have h3 := val_append 1000000000 ((dig 1000000000 z.natAbs).take (i + 1)) ((dig 1000000000 z.natAbs).drop (i + 1))
            rw [List.take_append_drop, val_dig9] at h3
            have h4 : 0 < 1000000000 ^ ((dig 1000000000 z.natAbs).take (i + 1)).length := Nat.pow_pos (by omega)
            have h5 := Nat.le_mul_of_pos_left (val 1000000000 ((dig 1000000000 z.natAbs).drop (i + 1))) h4
            omega
          have h6 : Lib.nDigits (val 1000000000 ((dig 1000000000 z.natAbs).drop (i + 1))) ≤ 1024 := by
            rw [nDigits_dig (by omega)]
            have := dig_length_mono (b := 10) (by omega) h2
            rw [nDigits_dig (by omega)] at hl; omega
          rw [List.length_append, h1]; simp; omega
        have HDD := Lib.hid hdd
        have hpos2 : 0 < val 1000000000 ((dig 1000000000 z.natAbs).drop i) := by
          rw [val_drop _ _ i (by rw [HK.out]; omega)]; omega
        have HP := Lib.hid hpos2
        have HAR := Lib.hid hAr
        rw [show (((i + 1 : Nat) : Int) - 1) = (i : Int) by omega]
        clear hdd hpos2 hAr
        go_wp2_with fail
        refine (appendGroup_any (w.heap.size + 1) _ _ _ _ _ hrow hszr hx hbig).mono ?_
        rintro e w3 ⟨v3, rfl, hown3, hb3⟩
        go_wp2
        go_roundw
        case rel =>
          refine ⟨i, by omega, rfl, ?_, hB.trans hb3, HP.out⟩
          rw [HDD.out, ← List.append_assoc, List.length_append, padk_length, byteCells_append]
          exact hown3
        case measure => simp [intOf]

/-- The text of a number, none if it is too long; the number of the error. -/
def tx (z : Int) : List UInt8 := if 1024 < Lib.nDigits z.natAbs then [] else Lib.itoa z
def te (z : Int) : Nat := if 1024 < Lib.nDigits z.natAbs then 11 else 0

/-- number.text -/
theorem text_any (v : Value) (z : Int) (w : World) (h : Nm w v z) (hs : Sm z 4294967295) (hT : Tab w) : Calls Tryz.prog 95 #[v] w fun e w' => e = .returned (.tuple #[str (tx z), .int .i64 ((te z : Nat) : Int)]) ∧ Below w.heap.size w w' := by
  by_cases hz : z = 0
  · subst hz
    have h1 : ¬ 1024 < Lib.nDigits (0 : Int).natAbs := by rw [show (0 : Int).natAbs = 0 from rfl, Lib.nDigits_small (by omega)]; omega
    unfold tx te; rw [if_neg h1, if_neg h1]
    exact text_zero v w h
  · by_cases hl : 1024 < Lib.nDigits z.natAbs
    · unfold tx te; rw [if_pos hl, if_pos hl]
      exact text_long v z w h hs hz hl
    · unfold tx te; rw [if_neg hl, if_neg hl]
      obtain ⟨b, a, k, p, rfl⟩ := h.sh
      obtain ⟨hb, hw, hk, hk0⟩ := h.parts
      rcases hw with ⟨hx, _⟩ | ⟨bb, off, cap, hv, hR⟩
      · exact absurd (dig9_nil hx) (by omega)
      · simp only [Value.slice.injEq] at hv
        obtain ⟨rfl, rfl, rfl⟩ := hv
        obtain ⟨m, hm⟩ : ∃ m, (dig 1000000000 z.natAbs).length = m + 1 := ⟨(dig 1000000000 z.natAbs).length - 1, by omega⟩
        rw [hm]
        exact text_walk (if b then [45] else []) bb off _ z w m b hb rfl hR hm hz (by omega) hT
end Go.Proofs.YtnfmcdfdbipeoaaGreatDoor
