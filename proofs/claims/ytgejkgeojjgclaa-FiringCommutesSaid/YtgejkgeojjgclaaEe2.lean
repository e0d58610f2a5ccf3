/- The law Commutes. -/
import Derived.Test.YtgejkgeojjgclaaEa
import Derived.Test.YtgejkgeojjgclaaSr
namespace Go.Proofs.Ytgejkgeojjgclaa
open Go.RowKit Go.Proofs.Gr Go.Proofs.Cp
attribute [local go_sem] Oper.semAt_some

theorem below_grown {base g : Nat} {w u v : World} (h : Below base w u) (h' : u.grownBy v (some g)) (hg : base ≤ g) (hs : base ≤ w.heap.size) : Below base w v :=
  ⟨h'.os.trans h.os, h'.tape.trans h.tape, h'.output.trans h.output, Nat.le_trans h.size h'.size, fun k hk => (h'.block k (Nat.lt_of_lt_of_le (Nat.lt_of_lt_of_le hk hs) h.size) (fun e => by injection e with e; omega)).trans (h.block k hk)⟩
theorem PB.of_row1 {w : World} {g : Nat} {L : List Int} (h : PB w g L) : IsAt w (some ⟨g, 0, none⟩) L := h.row
set_option maxHeartbeats 12800000 in
set_option maxRecDepth 100000 in
theorem cloneI_any (a : Option Addr) (c : Nat) (A : List Int) (hA : A.length ≤ 1000) (w : World) (h : IsAt w a A) :
    Calls Try.prog 44 #[.slice a A.length c] w (fun e w' => ∃ p q, e = .returned (.slice p A.length q) ∧ IsAt w' p A ∧ (1 ≤ A.length → ∃ g, p = some ⟨g, 0, none⟩ ∧ w.heap.size ≤ g ∧ PB w' g A) ∧ Below w.heap.size w w') := by
  have q31 : ∀ (w : World) (a : Option Addr) (n c n' c' : Nat), (binOp .eql 25 (.slice a n c) (.slice none n' c')).run Try.prog w = .ok (.bool a.isNone) w := fun w a n c n' c' => Lib.run_eql_slice_nil w _ _ a n c n' c' Try.underlying25
  obtain ⟨i0, hi0, hz0, hz1, hz2⟩ := info_parts infoI
  cases a with
  | none =>
    have hl : A.length = 0 := by
      by_cases h0 : A.length = 0
      · exact h0
      · obtain ⟨b1, o1, e, _⟩ := IsAt.ne h (by omega)
    have HN : Hid (A = []) := Lib.hid (List.length_eq_zero_iff.1 hl)
    rw [hl]
    clear hl h
    go_enter Try.func44, Try.ntmps44
    go_wp2
    go_ret
    exact ⟨none, 0, rfl, by rw [HN.out]; exact RowAt.nil _ _ _ _, fun h => by omega, Below.refl _ _⟩
  | some ad =>
    by_cases h0 : A.length = 0
    · have HN : Hid (A = []) := Lib.hid (List.length_eq_zero_iff.1 h0)
      have HNW : Hid (∀ (W : World) (j : Nat) (u : Value), ([] : List Value)[j]? = some u → W.cell? (ad.add j) = some u) := Lib.hid fun W j u hj => by simp at hj
      have HB1 : Hid (Below w.heap.size w (w.alloc (Obj.cells #[] 3))) := Lib.hid ((Below.refl _ _).alloc (Nat.le_refl _) _)
      have HO : Hid ((w.alloc (Obj.cells #[] 3)).ownsRow w.heap.size 3 1 (.slice (some ⟨w.heap.size, 0, none⟩) 0 0) 0 []) := Lib.hid (World.ownsRow_lit w #[] 0 (Nat.le_refl _) (by decide) rfl)
      rw [h0]
      clear h0 h
      go_enter Try.func44, Try.ntmps44
      go_wp2_with (at_builtin; refine wpList_append_own _ rfl _ _ 25 rfl w.heap.size 3 i0 (.int .i64 0) 1 8 Try.underlying25 hi0 hz0 hz1 hz2 rfl (by decide) _ _ _ rfl HO.out ad 0 c [] rfl rfl (HNW.out _) (by simp) (by unfold maxLen; omega) (by omega) (by rw [World.size_alloc]; omega) ?_; intro v1 w3 hown1 hgrow1 _; have hB3 : Below w.heap.size w w3 := below_push (w := w) (Below.refl _ w) (fun k hk => (HO.out.lt k hk).1) hgrow1)
      obtain ⟨p, q, rfl, hr⟩ : ∃ p q, v1 = .slice p 0 q ∧ True := by
        obtain ⟨p, q, e, _⟩ := RowAt.of_own (enc := encI) encI_len (L := []) hown1
        exact ⟨p, q, e, trivial⟩
      have HB3 := Lib.hid hB3
      clear hown1 hgrow1 hB3
      go_wp2
      go_ret
      first | exact ⟨⟨q, rfl⟩, by rw [HN.out]; exact RowAt.nil _ _ _ _, HB3.out⟩ | exact ⟨p, ⟨q, rfl⟩, by rw [HN.out]; exact RowAt.nil _ _ _ _, HB3.out⟩ | exact ⟨p, q, rfl, by rw [HN.out]; exact RowAt.nil _ _ _ _, HB3.out⟩ | exact ⟨p, q, rfl, by rw [HN.out]; exact RowAt.nil _ _ _ _, fun h => by omega, HB3.out⟩ | exact ⟨p, ⟨q, rfl⟩, by rw [HN.out]; exact RowAt.nil _ _ _ _, fun h => by omega, HB3.out⟩
    · have h1 : 1 ≤ A.length := by omega
      obtain ⟨b1, o1, e9⟩ := IsAt.ne h h1
      injection e9 with e9
      subst e9
      have HNW : Hid (∀ (W : World), Below w.heap.size w W → ∀ j u, (flat encI A)[j]? = some u → W.cell? ((⟨b1, o1, none⟩ : Addr).add j) = some u) := Lib.hid fun W hb j u hj => RowAt.cells (k := 1) (enc := encI) (by decide) (fun _ => rfl) (h.keep hb) j u hj
      have HB1 : Hid (Below w.heap.size w (w.alloc (Obj.cells #[] 3))) := Lib.hid ((Below.refl _ _).alloc (Nat.le_refl _) _)
      have HO : Hid ((w.alloc (Obj.cells #[] 3)).ownsRow w.heap.size 3 1 (.slice (some ⟨w.heap.size, 0, none⟩) 0 0) 0 []) := Lib.hid (World.ownsRow_lit w #[] 0 (Nat.le_refl _) (by decide) rfl)
      have HFL : Hid ((flat encI A).length = A.length * 1) := Lib.hid (flat_len encI_len A)
      have H1 := Lib.hid (boneI A)
      have HPB : Hid (∀ (w' : World) v, w'.ownsRow w.heap.size 3 1 v A.length (flat encI A) → ∃ g cap, v = .slice (some ⟨g, 0, none⟩) A.length cap ∧ w.heap.size ≤ g ∧ PB w' g A) := Lib.hid fun w' v h => PB.of_own h h1
      clear h h0 h1
      generalize flat encI A = fl at *
      go_enter Try.func44, Try.ntmps44
      go_wp2_with (at_builtin; refine wpList_append_own _ rfl _ _ 25 rfl w.heap.size 3 i0 (.int .i64 0) 1 8 Try.underlying25 hi0 hz0 hz1 hz2 rfl (by decide) _ _ _ rfl HO.out ⟨b1, o1, none⟩ A.length c fl rfl HFL.out (HNW.out _ HB1.out) H1.out (by unfold maxLen; omega) (by omega) (by rw [World.size_alloc]; omega) ?_; intro v1 w3 hown1 hgrow1 _; have hB3 : Below w.heap.size w w3 := below_push (w := w) (Below.refl _ w) (fun k hk => (HO.out.lt k hk).1) hgrow1)
      rw [Nat.zero_add, List.nil_append] at hown1
      obtain ⟨g, cap, rfl, h1, h2⟩ := HPB.out _ _ hown1
      have H2 := Lib.hid h2
      have HB3 := Lib.hid hB3
      clear hown1 hgrow1 hB3 h2
      go_wp2
      go_ret
      first | exact ⟨some ⟨g, 0, none⟩, cap, rfl, H2.out.row, fun _ => ⟨g, rfl, h1, H2.out⟩, HB3.out⟩ | exact ⟨some ⟨g, 0, none⟩, ⟨cap, rfl⟩, H2.out.row, fun _ => ⟨g, rfl, h1, H2.out⟩, HB3.out⟩
/-- A list that is turned round from its ends. -/
def rvT (A : List Int) (t : Nat) : List Int := (List.range A.length).map fun j : Nat => if j < t ∨ A.length - t ≤ j then iAt A (A.length - 1 - j) else iAt A j
theorem rvT_len (A : List Int) (t : Nat) : (rvT A t).length = A.length := by simp [rvT]
theorem rvT_at (A : List Int) (t j : Nat) (h : j < A.length) : iAt (rvT A t) j = if j < t ∨ A.length - t ≤ j then iAt A (A.length - 1 - j) else iAt A j := by
  unfold rvT
  show List.getD _ j 0 = _
  rw [List.getD_eq_getElem?_getD, List.getElem?_map, List.getElem?_range h]; rfl
theorem rvT_zero (A : List Int) : rvT A 0 = A := by
  refine eq_of_at (rvT_len _ _) fun j hj => ?_
  rw [rvT_len] at hj
  rw [rvT_at _ _ _ hj, if_neg (by omega)]
theorem rvT_next (A : List Int) (t : Nat) (h : t < A.length - 1 - t) : ((rvT A t).set t (iAt (rvT A t) (A.length - 1 - t))).set (A.length - 1 - t) (iAt (rvT A t) t) = rvT A (t + 1) := by
  refine eq_of_at (by rw [List.length_set, List.length_set, rvT_len, rvT_len]) fun j hj => ?_
  rw [List.length_set, List.length_set, rvT_len] at hj
  rw [iAt_set _ _ _ _ (by rw [List.length_set, rvT_len]; omega), iAt_set _ _ _ _ (by rw [rvT_len]; omega), rvT_at _ _ _ hj, rvT_at _ _ _ hj, rvT_at _ _ _ (by omega), rvT_at _ _ _ (by omega)]
  by_cases e1 : A.length - 1 - t = j
  · rw [if_pos e1, if_neg (by omega), if_pos (by omega), ← e1, show A.length - 1 - (A.length - 1 - t) = t by omega]
  · rw [if_neg e1]
    by_cases e2 : t = j
    · rw [if_pos e2, if_neg (by omega), if_pos (by omega), e2]
    · rw [if_neg e2]
      by_cases e3 : j < t ∨ A.length - t ≤ j
      · rw [if_pos e3, if_pos (by omega)]
      · rw [if_neg e3, if_neg (by omega)]
theorem rvT_last (A : List Int) (t : Nat) (h : ¬ t < A.length - 1 - t) : rvT A t = A.reverse := by
  refine eq_of_at (by rw [rvT_len, List.length_reverse]) fun j hj => ?_
  rw [rvT_len] at hj
  have e : iAt A.reverse j = iAt A (A.length - 1 - j) := by
    rw [← iAt_get _ j (by rw [List.length_reverse]; exact hj), List.getElem_reverse, iAt_get]
  rw [rvT_at _ _ _ hj, e]
  by_cases e3 : j < t ∨ A.length - t ≤ j
  · rw [if_pos e3]
  · rw [if_neg e3, show A.length - 1 - j = j by omega]
set_option maxHeartbeats 12800000 in
set_option maxRecDepth 100000 in
theorem revI_any (g cap : Nat) (A : List Int) (hA : A.length ≤ 1000) (w : World) (h : PB w g A) :
    Calls Try.prog 45 #[.slice (some ⟨g, 0, none⟩) A.length cap] w (fun e w' => e = .returned (.tuple #[]) ∧ PB w' g A.reverse ∧ w.grownBy w' (some g)) := by
  have HL := Lib.hid (fun t => rvT_len A t)
  have H0 := Lib.hid (rvT_zero A)
  have HN := Lib.hid (fun t h => rvT_next A t h)
  have HE := Lib.hid (fun t h => rvT_last A t h)
  have HP := Lib.hid h
  generalize rvT A = Z at *
  generalize A.reverse = AR at *
  clear h
  go_enter Try.func45, Try.ntmps45
  go_wp2
  go_loopw [2, 3] (fun x y wr => ∃ t : Nat, t ≤ A.length ∧ x = .int .i64 t ∧ y = .int .i64 ((A.length : Int) - 1 - t) ∧ PB wr g (Z t) ∧ w.grownBy wr (some g)) (fun x _ _ => A.length - (intOf x).toNat)
  case atStart => exact ⟨0, by omega, rfl, by go_num, by rw [H0.out]; exact HP.out, grown_below (Below.refl _ _) _⟩
  case round =>
    obtain ⟨t, ht, rfl, rfl, hp, hg⟩ := hrel
    have HPI := Lib.hid hp
    have HGI := Lib.hid hg
    by_cases hlt : t < A.length - 1 - t
    · obtain ⟨s, hs⟩ : ∃ s : Nat, s = A.length - 1 - t := ⟨_, rfl⟩
      have es : (A.length : Int) - 1 - t = (s : Int) := by omega
      rw [es]
      have i1 : (t : Int) < (s : Int) := by omega
      have i2 : (0 : Int) ≤ (t : Int) := by omega
      have i3 : (0 : Int) ≤ (s : Int) := by omega
      have i4 : (s : Int) < (A.length : Int) := by omega
      have i5 : (t : Int) < (A.length : Int) := by omega
      have HTS : Hid (t < s ∧ s = A.length - 1 - t) := Lib.hid ⟨by omega, hs⟩
      have hn := HN.out t hlt
      rw [← hs] at hn
      have x1 := hp.cell t (by rw [HL.out]; omega)
      have x2 := hp.cell s (by rw [HL.out]; omega)
      have hgl := hp.lt
      have f1 := hp.frozen t
      have f2 := hp.frozen s
      have HX9 : Hid (∀ u, Below wr.heap.size wr u → u.cell? ⟨g, s, none⟩ = some (.int .i64 (iAt (Z t) s)) ∧ u.cell? ⟨g, t, none⟩ = some (.int .i64 (iAt (Z t) t))) := Lib.hid fun u hu => ⟨(hu.cell (p := ⟨g, s, none⟩) hgl).trans x2, (hu.cell (p := ⟨g, t, none⟩) hgl).trans x1⟩
      have hset := (hp.set t (iAt (Z t) s)).set s (iAt (Z t) t)
      rw [hn] at hset
      have HSET := Lib.hid hset
      have f3 : (wr.setCell ⟨g, t, none⟩ (.int .i64 (iAt (Z t) s))).frozen? ⟨g, s, none⟩ = false := (hp.set t (iAt (Z t) s)).frozen s
      have x3 := (hp.set t (iAt (Z t) s)).cell s (by rw [List.length_set, HL.out]; omega)
      have HGN : Hid (w.grownBy ((wr.setCell ⟨g, t, none⟩ (.int .i64 (iAt (Z t) s))).setCell ⟨g, s, none⟩ (.int .i64 (iAt (Z t) t))) (some g)) := Lib.hid (grown_trans (grown_trans hg (grown_set _ _ _ _)) (grown_set _ _ _ _))
      generalize iAt (Z t) s = y at *
      generalize iAt ((Z t).set t y) s = old at x3
      generalize iAt (Z t) t = x at *
      clear hp hg hlt hn hset hs es hgl ht
      go_wp2
      have hj0 : Below wr.heap.size wr wr.drew := (Below.refl _ _).drew
      refine wp_region_late (S := fun u => Below wr.heap.size wr u) (X := [13, 15]) (by kernel_rfl) ?_
      refine wpAnyL_pureD (i := 0) 14 (.slice (some ⟨g, 0, none⟩) A.length cap) rfl rfl (by kernel_rfl) (by kernel_rfl) (by kernel_rfl) (fun _ _ _ h => h) (Or.inl ⟨by rfl, fun u _ => ?_⟩) ?_
      · go_simp
      try simp only [Act.put, List.setIfInBounds_toArray, List.set_cons_zero, List.set_cons_succ]
      refine wpAnyL_pureD (i := 1) 15 (.int .i64 (t : Int)) rfl rfl (by kernel_rfl) (by kernel_rfl) (by kernel_rfl) (fun _ _ _ h => h) (Or.inl ⟨by rfl, fun u _ => ?_⟩) ?_
      · go_simp
      try simp only [Act.put, List.setIfInBounds_toArray, List.set_cons_zero, List.set_cons_succ]
      refine wpAnyL_pureD (i := 2) 16 (.slice (some ⟨g, 0, none⟩) A.length cap) rfl rfl (by kernel_rfl) (by kernel_rfl) (by kernel_rfl) (fun _ _ _ h => h) (Or.inl ⟨by rfl, fun u _ => ?_⟩) ?_
      · go_simp
      try simp only [Act.put, List.setIfInBounds_toArray, List.set_cons_zero, List.set_cons_succ]
      refine wpAnyL_pureD (i := 3) 17 (.int .i64 (s : Int)) rfl rfl (by kernel_rfl) (by kernel_rfl) (by kernel_rfl) (fun _ _ _ h => h) (Or.inl ⟨by rfl, fun u _ => ?_⟩) ?_
      · go_simp
      try simp only [Act.put, List.setIfInBounds_toArray, List.set_cons_zero, List.set_cons_succ]
      refine wpAnyL_pureD (i := 4) 18 (.slice (some ⟨g, 0, none⟩) A.length cap) rfl rfl (by kernel_rfl) (by kernel_rfl) (by kernel_rfl) (fun _ _ _ h => h) (Or.inl ⟨by rfl, fun u _ => ?_⟩) ?_
      · go_simp
      try simp only [Act.put, List.setIfInBounds_toArray, List.set_cons_zero, List.set_cons_succ]
      refine wpAnyL_pureD (i := 5) 19 (.int .i64 (s : Int)) rfl rfl (by kernel_rfl) (by kernel_rfl) (by kernel_rfl) (fun _ _ _ h => h) (Or.inl ⟨by rfl, fun u _ => ?_⟩) ?_
      · go_simp
      try simp only [Act.put, List.setIfInBounds_toArray, List.set_cons_zero, List.set_cons_succ]
      refine wpAnyL_pureD (i := 6) 20 (.pointer (some ⟨g, s, none⟩)) rfl rfl (by kernel_rfl) (by kernel_rfl) (by kernel_rfl) (fun _ _ _ h => h) (Or.inl ⟨by rfl, fun u _ => ?_⟩) ?_
      · go_simp
      try simp only [Act.put, List.setIfInBounds_toArray, List.set_cons_zero, List.set_cons_succ]
      refine wpAnyL_takeD (i := 7) 21 (.int .i64 y) rfl rfl (by kernel_rfl) (by kernel_rfl) (by kernel_rfl) (by kernel_rfl) (by kernel_rfl) (fun _ _ _ h => h) hj0 (Or.inl ⟨by rfl, fun u hu => ?_⟩) ?_
      · obtain ⟨t0, t1⟩ := HX9.out u hu
        go_simp
      try simp only [Act.put, List.setIfInBounds_toArray, List.set_cons_zero, List.set_cons_succ]
      refine wpAnyL_pureD (i := 8) 22 (.slice (some ⟨g, 0, none⟩) A.length cap) rfl rfl (by kernel_rfl) (by kernel_rfl) (by kernel_rfl) (fun _ _ _ h => h) (Or.inl ⟨by rfl, fun u _ => ?_⟩) ?_
      · go_simp
      try simp only [Act.put, List.setIfInBounds_toArray, List.set_cons_zero, List.set_cons_succ]
      refine wpAnyL_pureD (i := 9) 23 (.int .i64 (t : Int)) rfl rfl (by kernel_rfl) (by kernel_rfl) (by kernel_rfl) (fun _ _ _ h => h) (Or.inl ⟨by rfl, fun u _ => ?_⟩) ?_
      · go_simp
      try simp only [Act.put, List.setIfInBounds_toArray, List.set_cons_zero, List.set_cons_succ]
      refine wpAnyL_pureD (i := 10) 24 (.pointer (some ⟨g, t, none⟩)) rfl rfl (by kernel_rfl) (by kernel_rfl) (by kernel_rfl) (fun _ _ _ h => h) (Or.inl ⟨by rfl, fun u _ => ?_⟩) ?_
      · go_simp
      try simp only [Act.put, List.setIfInBounds_toArray, List.set_cons_zero, List.set_cons_succ]
      refine wpAnyL_takeD (i := 11) 25 (.int .i64 x) rfl rfl (by kernel_rfl) (by kernel_rfl) (by kernel_rfl) (by kernel_rfl) (by kernel_rfl) (fun _ _ _ h => h) hj0 (Or.inl ⟨by rfl, fun u hu => ?_⟩) ?_
      · obtain ⟨t0, t1⟩ := HX9.out u hu
        go_simp
      try simp only [Act.put, List.setIfInBounds_toArray, List.set_cons_zero, List.set_cons_succ]
      refine wpAnyL_pureD (i := 12) 26 (.pointer (some ⟨g, t, none⟩)) rfl rfl (by kernel_rfl) (by kernel_rfl) (by kernel_rfl) (fun _ _ _ h => h) (Or.inl ⟨by rfl, fun u _ => ?_⟩) ?_
      · go_simp
      try simp only [Act.put, List.setIfInBounds_toArray, List.set_cons_zero, List.set_cons_succ]
      refine wpAnyL_one (i := 13) (by kernel_rfl) rfl (fun K hK => ?_)
      go_simp
      refine hK.out _ _ (fun h => absurd (by decide) h) ?_
      clear hK K
      try simp only [Act.put, List.setIfInBounds_toArray, List.set_cons_zero, List.set_cons_succ]
      refine wpAnyL_pureD (i := 14) 27 (.pointer (some ⟨g, s, none⟩)) rfl rfl (by kernel_rfl) (by kernel_rfl) (by kernel_rfl) (fun _ _ _ h => h) (Or.inl ⟨by rfl, fun u _ => ?_⟩) ?_
      · go_simp
      try simp only [Act.put, List.setIfInBounds_toArray, List.set_cons_zero, List.set_cons_succ]
      refine wpAnyL_one (i := 15) (by kernel_rfl) rfl (fun K hK => ?_)
      go_simp
      refine hK.out _ _ (fun h => absurd (by decide) h) ?_
      clear hK K
      refine wpAnyL_done (by kernel_rfl) ?_ _
      try simp only [Act.put, List.setIfInBounds_toArray, List.set_cons_zero, List.set_cons_succ]
      go_wp2
      go_roundw
      case rel => exact ⟨t + 1, by have := HTS.out; omega, by go_num, by have h9 := HTS.out; go_num, HSET.out, grown_trans HGN.out (grown_below (Below.refl _ _).drew _)⟩
      case measure => have := HTS.out; simp [intOf]; omega
    · have i1 : ¬ (t : Int) < (A.length : Int) - 1 - t := by omega
      have HPE : Hid (PB wr g AR) := Lib.hid (by rw [← HE.out t hlt]; exact hp)
      clear hp hg hlt
      go_wp2
      go_end0
      exact ⟨rfl, HPE.out, HGI.out⟩
set_option maxHeartbeats 12800000 in
set_option maxRecDepth 100000 in
theorem revI_nil (p : Option Addr) (q : Nat) (w : World) :
    Calls Try.prog 45 #[.slice p 0 q] w (fun e w' => e = .returned (.tuple #[]) ∧ w = w') := by
  go_enter Try.func45, Try.ntmps45
  go_wp2
  go_loopw [2, 3] (fun x y wr => x = .int .i64 0 ∧ y = .int .i64 (-1) ∧ wr = w) (fun _ _ _ => 0)
  case atStart => exact ⟨rfl, by go_num, rfl⟩
  case round =>
    obtain ⟨rfl, rfl, rfl⟩ := hrel
    go_wp2
    go_end0
    exact ⟨rfl, rfl⟩
end Go.Proofs.Ytgejkgeojjgclaa
