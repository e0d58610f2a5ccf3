/- Walks of the words' functions: the difference, the order. -/
import Derived.Test.YtbmonfbbkmpdhaaDoorWb
namespace Go.Proofs.YtbmonfbbkmpdhaaDoor
open Go.RowKit Go.Proofs.Num

/-- The state of the loop that subtracts. -/
def SubI (l m : List Nat) (k r : Nat) (o : List Nat) : Prop :=
  o.length = k ∧ r ≤ 1 ∧ (∀ x ∈ o, x < 1000000000) ∧ val 1000000000 o + val 1000000000 (m.take k) = val 1000000000 (l.take k) + r * 1000000000 ^ k

theorem subI_zero (l m : List Nat) : SubI l m 0 0 [] := ⟨rfl, by omega, by simp, by simp [val_nil]⟩

theorem subI_step {l m : List Nat} {k r : Nat} {o : List Nat} (h : SubI l m k r o) (hl : ∀ x ∈ l, x < 1000000000) (hm : ∀ x ∈ m, x < 1000000000) :
    SubI l m (k + 1) (1 - (nth l k + (1000000000 - r) - nth m k) / 1000000000) (o ++ [(nth l k + (1000000000 - r) - nth m k) % 1000000000]) := by
  obtain ⟨h1, h2, h3, h4⟩ := h
  have hx := nth_lt (b := 1000000000) (by omega) l hl k
  have hy := nth_lt (b := 1000000000) (by omega) m hm k
  refine ⟨by simp [h1], by omega, ?_, ?_⟩
  · intro x hx'
    rcases List.mem_append.1 hx' with hx' | hx'
    · exact h3 x hx'
    · simp at hx'; omega
  · rw [val_snoc, h1, val_take_nth, val_take_nth]
    exact sub_step 1000000000 k _ r _ _ _ _ _ h4 (by omega) (by omega)

theorem subI_end {l m : List Nat} {r : Nat} {o : List Nat} (h : SubI l m l.length r o) (hm : m.length ≤ l.length) (hle : val 1000000000 m ≤ val 1000000000 l) :
    val 1000000000 o = val 1000000000 l - val 1000000000 m ∧ (∀ x ∈ o, x < 1000000000) := by
  obtain ⟨h1, h2, h3, h4⟩ := h
  rw [List.take_of_length_le (Nat.le_refl _), List.take_of_length_le hm] at h4
  refine ⟨?_, h3⟩
  have h5 := val_lt (b := 1000000000) (by omega) o h3
  rw [h1] at h5
  rcases (show r = 0 ∨ r = 1 by omega) with rfl | rfl <;> omega

theorem cast4 (r x y : Nat) (hr : r ≤ 1) (hy : y < 1000000000) : (((x + (1000000000 - r) - y) % 1000000000 : Nat) : Int) = ((x : Int) + (1000000000 - r) - y) % 1000000000 := by omega
theorem cast5 (r x : Nat) (hr : r ≤ 1) : (((x + (1000000000 - r) - 0) % 1000000000 : Nat) : Int) = ((x : Int) + (1000000000 - r)) % 1000000000 := by omega

set_option maxHeartbeats 1600000 in
set_option maxRecDepth 100000 in
theorem minus_ge (a1 a2 : Option Addr) (c1 c2 : Nat) (l m : List Nat) (w : World) (h1 : At .u64 w a1 l) (h2 : At .u64 w a2 m) (hl : ∀ x ∈ l, x < 1000000000) (hm : ∀ x ∈ m, x < 1000000000)
    (hlm : m.length ≤ l.length) (hle : val 1000000000 m ≤ val 1000000000 l) (hsm : l.length ≤ 4294967295) :
    Calls Tryd.prog 90 #[.slice a1 l.length c1, .slice a2 m.length c2] w (GivesWd w (val 1000000000 l - val 1000000000 m)) := by
  obtain ⟨i0, hi, hz0, hz1, hz2⟩ := info_parts info102
  have HLE := Lib.hid hle
  clear hle
  go_enter Tryd.func90, Tryd.ntmps90
  go_wp2_with (at_make; refine wpList_make_own _ rfl _ _ 71 rfl w.heap.size 102 i0 (.int .u64 0) 1 Tryd.underlying71 hi hz0 hz1 _ _ _ l.length rfl rfl (by omega) ?b2 ?b3 (Nat.le_refl _) ?_)
  case b2 => rw [hz2]; omega
  case b3 => unfold maxLen; omega
  intro w0 hown0 hgrow0
  go_wp2
  go_loopw [5, 6, 14] (fun out car i wr => ∃ (k r : Nat) (o : List Nat), k ≤ l.length ∧ i = .int .i64 k ∧ car = .int .u64 r ∧ out = .slice (some ⟨w.heap.size, 0, none⟩) k l.length ∧
      wr.ownsRow w.heap.size 102 1 (.slice (some ⟨w.heap.size, 0, none⟩) k l.length) k (cellsOf .u64 o) ∧ SubI l m k r o ∧ Below w.heap.size w wr)
    (fun _ _ i _ => l.length - (intOf i).toNat)
  case atStart => exact ⟨0, 0, [], Nat.zero_le _, rfl, rfl, rfl, hown0, subI_zero l m, (Below.refl _ _).grown hgrow0 (Nat.le_refl _) (fun k h => by cases h)⟩
  case round =>
    obtain ⟨k, r, o, hk, rfl, rfl, rfl, hown, hI, hB⟩ := hrel
    have hc1 := hI.2.1
    by_cases hlt : k < l.length
    · obtain ⟨b1, o1, rfl, hb1, hcell1⟩ := h1 k hlt
      have hx := nth_lt (b := 1000000000) (by omega) l hl k
      have hcr : wr.cell? ⟨b1, o1 + k, none⟩ = some (.int .u64 ((nth l k : Nat) : Int)) := (hB.cell (p := ⟨b1, o1 + k, none⟩) hb1).trans hcell1
      by_cases hlt2 : k < m.length
      · obtain ⟨b2, o2, rfl, hb2, hcell2⟩ := h2 k hlt2
        have hy := nth_lt (b := 1000000000) (by omega) m hm k
        have hcr2 : wr.cell? ⟨b2, o2 + k, none⟩ = some (.int .u64 ((nth m k : Nat) : Int)) := (hB.cell (p := ⟨b2, o2 + k, none⟩) hb2).trans hcell2
        go_wp2_with (at_builtin; refine wpList_append_fits _ rfl _ _ 71 rfl w.heap.size 102 i0 1 Tryd.underlying71 hi hz1 w.heap.size k l.length _ rfl (hown.alloc _) ⟨wr.heap.size, 0, none⟩ 1 1 [_] rfl rfl (cell_one_new _ _ _) (by simp [Value.oneCell']) (by omega) ?_; intro w1 hown1 hgrow1)
        go_roundw
        case rel => exact ⟨k + 1, _, _, by omega, by go_num, by go_num, rfl, by rw [cellsOf_append, cellsOf_one, cast4 r _ _ hc1 hy]; exact hown1, subI_step hI hl hm, below_app hB hgrow1⟩
        case measure => simp [intOf]; omega
      · have hy : nth m k = 0 := nth_past m k (by omega)
        have hI' := subI_step hI hl hm
        rw [hy] at hI'
        clear hy
        go_wp2_with (at_builtin; refine wpList_append_fits _ rfl _ _ 71 rfl w.heap.size 102 i0 1 Tryd.underlying71 hi hz1 w.heap.size k l.length _ rfl (hown.alloc _) ⟨wr.heap.size, 0, none⟩ 1 1 [_] rfl rfl (cell_one_new _ _ _) (by simp [Value.oneCell']) (by omega) ?_; intro w1 hown1 hgrow1)
        go_roundw
        case rel => exact ⟨k + 1, _, _, by omega, by go_num, by go_num, rfl, by rw [cellsOf_append, cellsOf_one, cast5 r _ hc1]; exact hown1, hI', below_app hB hgrow1⟩
        case measure => simp [intOf]; omega
    · obtain rfl : k = l.length := by omega
      obtain ⟨hv, hlt3⟩ := subI_end hI hlm HLE.out
      have hol := hI.1
      have HV := Lib.hid hv
      have hrd : Rd .u64 102 wr (.slice (some ⟨w.heap.size, 0, none⟩) l.length l.length) o := by
        rw [← hol]
        refine Rd.of_own (base := w.heap.size) (T := 102) ?_
        rw [hol]; exact hown
      have hol2 : o.length ≤ 4294967296 := by omega
      clear hv hol
      go_wp2_with fail
      refine (trim_any _ o _ hrd hlt3 hol2).mono ?_
      rintro e w' ⟨v', rfl, hw, rfl⟩
      obtain ⟨a', cap', rfl⟩ := Rd.shape hw
      go_wp2
      go_ret
      exact ⟨_, rfl, ⟨a', _, cap', rfl⟩, by rw [← HV.out]; exact hw, hB⟩

/-- words.minus; the second number is not greater. -/
theorem wminus_any (v1 v2 : Value) (m n : Nat) (w : World) (h1 : Wd w v1 m) (h2 : Wd w v2 n) (hm : (dig 1000000000 m).length ≤ 4294967295) (hle : n ≤ m) :
    Calls Tryd.prog 90 #[v1, v2] w (GivesWd w (m - n)) := by
  obtain ⟨a1, c1, rfl, g1⟩ := Rd.at h1
  obtain ⟨a2, c2, rfl, g2⟩ := Rd.at h2
  have := minus_ge a1 a2 c1 c2 _ _ w g1 g2 (dig9_lt m) (dig9_lt n) (dig_length_mono (by omega) hle) (by rw [val_dig9, val_dig9]; exact hle) hm
  rwa [val_dig9, val_dig9] at this

/-- The order of two numbers. -/
def cmpN (m n : Nat) : Int := if m < n then -1 else if n < m then 1 else 0

set_option maxHeartbeats 1600000 in
set_option maxRecDepth 100000 in
theorem compare_eq (a1 a2 : Option Addr) (c1 c2 : Nat) (l m : List Nat) (w : World) (h1 : At .u64 w a1 l) (h2 : At .u64 w a2 m) (hl : ∀ x ∈ l, x < 1000000000) (hm : ∀ x ∈ m, x < 1000000000)
    (hlm : l.length = m.length) (hsm : l.length ≤ 4294967295) :
    Calls Tryd.prog 88 #[.slice a1 l.length c1, .slice a2 m.length c2] w fun e w' => e = .returned (.int .i64 (cmpN (val 1000000000 l) (val 1000000000 m))) ∧ ∃ n, w' = w.drewN n := by
  have hne : ((l.length : Int) != (m.length : Int)) = false := by simp; omega
  have HLM := Lib.hid hlm
  rw [show m.length = l.length from hlm.symm] at hne ⊢
  clear hlm
  go_enter Tryd.func88, Tryd.ntmps88
  go_wp2
  go_loopw [5] (fun i wr => ∃ (j : Int), -1 ≤ j ∧ j < l.length ∧ i = .int .i64 j ∧ l.drop (j + 1).toNat = m.drop (j + 1).toNat ∧ ∃ n, wr = w.drewN n) (fun i _ => (intOf i + 1).toNat)
  case atStart => exact ⟨(l.length : Int) - 1, by omega, by omega, rfl, by rw [List.drop_of_length_le (by omega), List.drop_of_length_le (by have := HLM.out; omega)], 0, rfl⟩
  case round =>
    obtain ⟨j, hj1, hj2, rfl, hd, nd, rfl⟩ := hrel
    by_cases h0 : 0 ≤ j
    · obtain ⟨k, rfl⟩ := Int.eq_ofNat_of_zero_le h0
      obtain ⟨b1, o1, rfl, hb1, hcell1⟩ := h1 k (by omega)
      obtain ⟨b2, o2, rfl, hb2, hcell2⟩ := h2 k (by have := HLM.out; omega)
      have HD := Lib.hid hd
      clear hd
      have hml := HLM.out
      have hkl : k < l.length := by omega
      rcases (show nth l k < nth m k ∨ nth m k < nth l k ∨ nth l k = nth m k by omega) with h | h | h
      · have hv : cmpN (val 1000000000 l) (val 1000000000 m) = -1 := by
          have := val_lt_of_top (b := 1000000000) (by omega) l m k hkl HLM.out hl HD.out h
          unfold cmpN; rw [if_pos this]
        have HV := Lib.hid hv
        clear hv hml
        have hlt : ((nth l k : Nat) : Int) < ((nth m k : Nat) : Int) := by omega
        clear h
        go_wp2
        go_quiet (fail)
        go_wp2
        go_ret
        exact ⟨by rw [HV.out]; rfl, _, World.drewN_drewN _ _ _⟩
      · have hv : cmpN (val 1000000000 l) (val 1000000000 m) = 1 := by
          have := val_lt_of_top (b := 1000000000) (by omega) m l k (by omega) HLM.out.symm hm HD.out.symm h
          unfold cmpN; rw [if_neg (by omega), if_pos this]
        have HV := Lib.hid hv
        clear hv hml
        have hlt : ((nth m k : Nat) : Int) < ((nth l k : Nat) : Int) := by omega
        have hge : ¬ ((nth l k : Nat) : Int) < ((nth m k : Nat) : Int) := by omega
        clear h
        go_wp2
        go_quiet (fail)
        go_wp2
        go_quiet (fail)
        go_wp2
        go_ret
        exact ⟨by rw [HV.out]; rfl, _, (World.drewN_drewN _ _ _).trans (World.drewN_drewN _ _ _)⟩
      · have hge : ¬ ((nth l k : Nat) : Int) < ((nth m k : Nat) : Int) := by omega
        have hge2 : ¬ ((nth m k : Nat) : Int) < ((nth l k : Nat) : Int) := by omega
        have hd' : l.drop k = m.drop k := by
          rw [List.drop_eq_getElem_cons hkl, List.drop_eq_getElem_cons (show k < m.length by omega)]
          unfold nth at h
          rw [getD_get l k hkl, getD_get m k (by omega)] at h
          rw [h]
          have := HD.out
          rw [show ((k : Int) + 1).toNat = k + 1 by omega] at this
          rw [this]
        have HD' := Lib.hid hd'
        clear h hml hd'
        go_wp2
        go_quiet (fail)
        go_wp2
        go_quiet (fail)
        go_wp2
        go_roundw
        case rel => exact ⟨(k : Int) - 1, by omega, by omega, rfl, by rw [show ((k : Int) - 1 + 1).toNat = k by omega]; exact HD'.out, _, rfl⟩
        case measure => simp [intOf]
    · obtain rfl : j = -1 := by omega
      have hv : cmpN (val 1000000000 l) (val 1000000000 m) = 0 := by
        have : l = m := hd
        unfold cmpN; rw [this, if_neg (by omega), if_neg (by omega)]
      have HV := Lib.hid hv
      clear hv hd
      go_wp2
      go_ret
      exact ⟨by rw [HV.out]; rfl, _, rfl⟩

theorem compare_ne (a1 a2 : Option Addr) (c1 c2 : Nat) (k n : Nat) (w : World) (hne : k ≠ n) (hk : k ≤ 4294967295) (hn : n ≤ 4294967295) :
    Calls Tryd.prog 88 #[.slice a1 k c1, .slice a2 n c2] w fun e w' => e = .returned (.int .i64 (cmpN k n)) ∧ w = w' := by
  have hne : ((k : Int) != (n : Int)) = true := by simp; omega
  go_enter Tryd.func88, Tryd.ntmps88
  go_wp2_with (go_at_call 94; refine (sign_any _ _).mono ?_; rintro e w' ⟨rfl, rfl⟩)
  go_ret
  refine ⟨?_, rfl⟩
  have : sgn ((k : Int) - n) = cmpN k n := by
    unfold sgn cmpN
    rcases (show k < n ∨ n < k by simp at hne; omega) with h | h
    · rw [if_pos (by omega), if_pos (by omega)]
    · rw [if_neg (by omega), if_pos (by omega), if_neg (by omega), if_pos (by omega)]
  rw [← this]; rfl

/-- words.compare -/
theorem wcompare_any (v1 v2 : Value) (m n : Nat) (w : World) (h1 : Wd w v1 m) (h2 : Wd w v2 n) (hm : (dig 1000000000 m).length ≤ 4294967295) (hn : (dig 1000000000 n).length ≤ 4294967295) :
    Calls Tryd.prog 88 #[v1, v2] w fun e w' => e = .returned (.int .i64 (cmpN m n)) ∧ ∃ k, w' = w.drewN k := by
  obtain ⟨a1, c1, rfl, g1⟩ := Rd.at h1
  obtain ⟨a2, c2, rfl, g2⟩ := Rd.at h2
  by_cases h : (dig 1000000000 m).length = (dig 1000000000 n).length
  · have := compare_eq a1 a2 c1 c2 _ _ w g1 g2 (dig9_lt m) (dig9_lt n) h hm
    rwa [val_dig9, val_dig9] at this
  · refine (compare_ne a1 a2 c1 c2 _ _ w h hm hn).mono ?_
    rintro e w' ⟨rfl, rfl⟩
    refine ⟨?_, 0, rfl⟩
    congr 2
    unfold cmpN
    rcases Nat.lt_or_gt_of_ne h with h | h
    · rw [if_pos h, if_pos (val_lt_of_length (by omega) m n h)]
    · rw [if_neg (by omega), if_pos h]
      have := val_lt_of_length (b := 1000000000) (by omega) n m h
      rw [if_neg (by omega), if_pos this]
end Go.Proofs.YtbmonfbbkmpdhaaDoor
