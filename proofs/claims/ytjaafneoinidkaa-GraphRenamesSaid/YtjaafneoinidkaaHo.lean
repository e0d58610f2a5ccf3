/- The chapter's examples. -/
import Derived.Test.YtjaafneoinidkaaHl
import Derived.Test.YtjaafneoinidkaaHn
namespace Go.Proofs.Ytjaafneoinidkaa
open Go.RowKit Go.Shelf Go.Proofs.Gr
attribute [local go_sem] Oper.semAt_some

/-- A block of cells, as a list. -/
theorem RowAt.of_blk {α : Type} {k : Nat} {enc : α → List Value} (hk : ∀ x, (enc x).length = k) {w : World} {g : Nat} {t : TypeId} {cs : Array Value} {L : List α} (h : Blk w g t cs) (hc : cs.toList = flat enc L) : RowAt k enc w (some ⟨g, 0, none⟩) L := by
  intro j hj
  refine ⟨g, 0, rfl, h.lt, fun i hi => ?_⟩
  rw [Nat.zero_add, h.cell, ← Array.getElem?_toList, hc, flat_at hk L j i hj hi]
/-- Two lists of ints, compared by the library. -/
theorem pequalI_any (a b : Option Addr) (c d : Nat) (X Y : List Int) (hX : X.length ≤ 1000000) (hY : Y.length ≤ 1000000) (w : World) (hx : IsAt w a X) (hy : IsAt w b Y) :
    Calls Try.prog 34 #[.slice a X.length c, .slice b Y.length d] w (GivesB w (decide (X = Y))) := by
  by_cases hl : X.length = Y.length
  · by_cases h0 : X.length = 0
    · have e1 : X = [] := List.length_eq_zero_iff.1 h0
      have e2 : Y = [] := List.length_eq_zero_iff.1 (hl ▸ h0)
      subst e1 e2
      refine (Try.slices_Equal_int_empty a b c 0 d w (by omega)).mono ?_
      rintro e w' ⟨rfl, rfl⟩
      exact ⟨by simp, Below.refl _ _⟩
    · obtain ⟨b1, o1, rfl, -, -⟩ := hx.one 0 (by omega)
      obtain ⟨b2, o2, rfl, -, -⟩ := hy.one 0 (by omega)
      refine (Try.slices_Equal_int b1 o1 X.length c b2 o2 Y.length d X Y w (Nat.le_refl _) (Nat.le_refl _) (by omega) (by omega) (fun j hj => ?_) (fun j hj => ?_)).mono ?_
      · obtain ⟨b', o', h1, h2, h3⟩ := hx.one j hj
        injection h1 with h1
        injection h1 with e1 e2
        subst e1 e2
        exact h3
      · obtain ⟨b', o', h1, h2, h3⟩ := hy.one j hj
        injection h1 with h1
        injection h1 with e1 e2
        subst e1 e2
        exact h3
      · rintro e w' ⟨rfl, q, rfl⟩
        refine ⟨?_, below_drewN (Below.refl _ _) q⟩
        rw [List.take_length, List.take_length, Bool.beq_eq_decide_eq]
  · refine (Try.slices_Equal_int_lens a b X.length c Y.length d w hl).mono ?_
    rintro e w' ⟨rfl, rfl⟩
    exact ⟨by rw [decide_eq_false (fun h => hl (by rw [h]))], Below.refl _ _⟩
/-- The house. -/
def hsE : List E := [⟨0, 1, 2⟩, ⟨0, 3, 1⟩, ⟨1, 2, 1⟩, ⟨2, 2, 1⟩, ⟨2, 3, 1⟩]
def hsP : List (Int × Int) := [(3, 2), (1, 0), (2, 2), (0, 1), (0, 3), (2, 1)]
def hsI : List E := [⟨0, 1, 2⟩, ⟨0, 2, 1⟩]
theorem hs_chk : chkG 4 hsE = 0 := by decide
theorem hs_right : Right 4 hsE := right_of hs_chk
theorem hs_err (j : Nat) (hj : j < hsP.length) : pErr 4 hsP j = 0 := by
  have : ∀ j : Fin 6, pErr 4 hsP j = 0 := by decide
  exact this ⟨j, hj⟩
theorem hs_cnt (x y : Nat) (hx : x < 4) (hy : y < 4) : cntT hsP hsP.length x y ≤ 50 := by
  have : ∀ x y : Fin 4, cntT hsP 6 x y ≤ 50 := by decide
  exact this ⟨x, hx⟩ ⟨y, hy⟩
theorem hs_join : joinT (cntT hsP hsP.length) 4 4 = hsE := by decide
theorem hs_make (b : Option Addr) (cp : Nat) (w : World) (hp : PsAt w b hsP) : Calls Try.prog 23 #[.int .i64 4, .slice b 6 cp] w (fun e w' => ∃ a c, e = .returned (.tuple #[.agg #[.int .i64 4, .slice a 5 c], .int .i64 0]) ∧ EsAt w' a hsE ∧ Below w.heap.size w w') := by
  refine (pmake_ok 4 (by decide) (by decide) b cp hsP (by decide) w hp).mono ?_
  rintro e w' ⟨k, ⟨a, c, rfl, h1, -, h3⟩, h⟩
  rcases h with ⟨rfl, j, hj, hk⟩ | ⟨rfl, -, x, y, hx, hy, hk⟩ | ⟨rfl, -, -⟩
  · exact absurd (hs_err j hj) hk
  · have := hs_cnt x y hx hy; omega
  · rw [if_pos rfl, hs_join] at h1
    exact ⟨a, c, by rw [if_pos rfl, if_pos rfl, hs_join]; rfl, h1, h3⟩
theorem hs_size (a : Option Addr) (c : Nat) (w : World) (h : EsAt w a hsE) : Calls Try.prog 15 #[.agg #[.int .i64 4, .slice a 5 c]] w (fun e w' => e = .returned (.tuple #[.int .i64 6, .int .i64 0]) ∧ Below w.heap.size w w') := by
  refine (pSize_any 4 a c hsE (by decide) w h).mono ?_
  rintro e w' ⟨rfl, hb⟩
  exact ⟨by rw [hs_chk]; rfl, hb⟩
theorem hs_genus (a : Option Addr) (c : Nat) (w : World) (h : EsAt w a hsE) : Calls Try.prog 17 #[.agg #[.int .i64 4, .slice a 5 c]] w (fun e w' => e = .returned (.tuple #[.int .i64 3, .int .i64 0]) ∧ Below w.heap.size w w') := by
  refine (pGenus_any 4 a c hsE (by decide) w h).mono ?_
  rintro e w' ⟨rfl, hb⟩
  exact ⟨by rw [hs_chk, if_pos rfl, show genU 4 hsE = 3 by decide]; rfl, hb⟩
theorem hs_v : chkV 4 hsE [2] = 0 := by decide
theorem hs_degree (a : Option Addr) (c : Nat) (w : World) (h : EsAt w a hsE) : Calls Try.prog 27 #[.agg #[.int .i64 4, .slice a 5 c], .int .i64 2] w (fun e w' => e = .returned (.tuple #[.int .i64 4, .int .i64 0]) ∧ Below w.heap.size w w') := by
  refine (pdegree_any 4 a c hsE (by decide) 2 w h).mono ?_
  rintro e w' ⟨rfl, hb⟩
  exact ⟨by rw [hs_v]; rfl, hb⟩
theorem hs_valence (a : Option Addr) (c : Nat) (w : World) (h : EsAt w a hsE) : Calls Try.prog 28 #[.agg #[.int .i64 4, .slice a 5 c], .int .i64 2] w (fun e w' => e = .returned (.tuple #[.int .i64 2, .int .i64 0]) ∧ Below w.heap.size w w') := by
  refine (pvalence_any 4 a c hsE (by decide) 2 w h).mono ?_
  rintro e w' ⟨rfl, hb⟩
  exact ⟨by rw [hs_v]; rfl, hb⟩
theorem hs_near (a : Option Addr) (c : Nat) (w : World) (h : EsAt w a hsE) : Calls Try.prog 29 #[.agg #[.int .i64 4, .slice a 5 c], .int .i64 2] w (fun e w' => ∃ b d, e = .returned (.tuple #[.slice b 2 d, .int .i64 0]) ∧ IsAt w' b [1, 3] ∧ Below w.heap.size w w') := by
  refine (pneighbours_any 4 a c hsE (by decide) 2 w h).mono ?_
  rintro e w' ⟨b, d, rfl, h1, hb⟩
  have e1 : (if chkV 4 hsE [2] = 0 then nbP 2 hsE else []) = [1, 3] := by decide
  rw [e1] at h1
  exact ⟨b, d, by rw [e1, hs_v]; rfl, h1, hb⟩
theorem hs_s01 : chkS 4 hsE [0, 1] = 0 := by decide
theorem hs_cut (a : Option Addr) (c : Nat) (b : Option Addr) (d : Nat) (w : World) (h : EsAt w a hsE) (hv : IsAt w b [0, 1]) : Calls Try.prog 37 #[.agg #[.int .i64 4, .slice a 5 c], .slice b 2 d] w (fun e w' => ∃ b d, e = .returned (.tuple #[.slice b 2 d, .int .i64 0]) ∧ IsAt w' b [2, 3] ∧ Below w.heap.size w w') := by
  refine (pcut_any 4 a c hsE (by decide) b d [0, 1] (by decide) w h hv).mono ?_
  rintro e w' ⟨b, d, rfl, h1, hb⟩
  have e1 : (if chkS 4 hsE [0, 1] = 0 then cutG hsE [0, 1] else []) = [2, 3] := by decide
  rw [e1] at h1
  exact ⟨b, d, by rw [e1, hs_s01]; rfl, h1, hb⟩
theorem hs_ind (a : Option Addr) (c : Nat) (b : Option Addr) (d : Nat) (w : World) (h : EsAt w a hsE) (hv : IsAt w b [0, 1, 3]) : Calls Try.prog 38 #[.agg #[.int .i64 4, .slice a 5 c], .slice b 3 d] w (fun e w' => ∃ a c, e = .returned (.tuple #[.agg #[.int .i64 3, .slice a 2 c], .int .i64 0]) ∧ EsAt w' a hsI ∧ Below w.heap.size w w') := by
  refine (pinduced_ok 4 a c hsE (by decide) b d [0, 1, 3] (by decide) (by decide) hs_chk (by decide) w h hv).mono ?_
  rintro e w' ⟨a, c, rfl, h1, -, h3⟩
  have e1 : indG hsE [0, 1, 3] = hsI := by decide
  rw [e1] at h1
  exact ⟨a, c, by rw [e1]; rfl, h1, h3⟩
theorem hs_same (a b : Option Addr) (c d : Nat) (w : World) (h1 : EsAt w a hsE) (h2 : EsAt w b hsE) : Calls Try.prog 25 #[.agg #[.int .i64 4, .slice a 5 c], .agg #[.int .i64 4, .slice b 5 d]] w (fun e w' => e = .returned (.bool true) ∧ Below w.heap.size w w') := same_true 4 a b c d hsE (by decide) w h1 h2
theorem hs_sameI (a b : Option Addr) (c d : Nat) (w : World) (h1 : EsAt w a hsI) (h2 : EsAt w b hsI) : Calls Try.prog 25 #[.agg #[.int .i64 3, .slice a 2 c], .agg #[.int .i64 3, .slice b 2 d]] w (fun e w' => e = .returned (.bool true) ∧ Below w.heap.size w w') := same_true 3 a b c d hsI (by decide) w h1 h2
theorem hs_eqN (a b : Option Addr) (c d : Nat) (w : World) (h1 : IsAt w a [1, 3]) (h2 : IsAt w b [1, 3]) : Calls Try.prog 34 #[.slice a 2 c, .slice b 2 d] w (fun e w' => e = .returned (.bool true) ∧ Below w.heap.size w w') := pequalI_any a b c d [1, 3] [1, 3] (by decide) (by decide) w h1 h2
theorem hs_eqC (a b : Option Addr) (c d : Nat) (w : World) (h1 : IsAt w a [2, 3]) (h2 : IsAt w b [2, 3]) : Calls Try.prog 34 #[.slice a 2 c, .slice b 2 d] w (fun e w' => e = .returned (.bool true) ∧ Below w.heap.size w w') := pequalI_any a b c d [2, 3] [2, 3] (by decide) (by decide) w h1 h2
set_option maxHeartbeats 12800000 in
set_option maxRecDepth 100000 in
theorem house_any (w : World) : Calls Try.prog 51 #[] w (fun e w' => ∃ a c, e = .returned (.agg #[.int .i64 4, .slice a 5 c]) ∧ EsAt w' a hsE ∧ Below w.heap.size w w') := by
  go_enter Try.func51, Try.ntmps51
  go_wp2
  obtain ⟨V, hV⟩ : ∃ V, V = (w.alloc (Obj.cells #[.int .i64 4, .slice (some ⟨w.heap.size + 1, 0, none⟩) 5 5] 24)).alloc (Obj.cells #[.int .i64 0, .int .i64 1, .int .i64 2, .int .i64 0, .int .i64 3, .int .i64 1, .int .i64 1, .int .i64 2, .int .i64 1, .int .i64 2, .int .i64 2, .int .i64 1, .int .i64 2, .int .i64 3, .int .i64 1] 71) := ⟨_, rfl⟩
  rw [← hV]
  have hb : Below w.heap.size w V := by rw [hV]; exact ((Below.refl _ w).alloc (Nat.le_refl _) _).alloc (by simp) _
  have h1 : Blk V w.heap.size 24 #[.int .i64 4, .slice (some ⟨w.heap.size + 1, 0, none⟩) 5 5] := by rw [hV]; exact (Blk.new _ _ _).alloc _
  have h2 : Blk V (w.heap.size + 1) 71 #[.int .i64 0, .int .i64 1, .int .i64 2, .int .i64 0, .int .i64 3, .int .i64 1, .int .i64 1, .int .i64 2, .int .i64 1, .int .i64 2, .int .i64 2, .int .i64 1, .int .i64 2, .int .i64 3, .int .i64 1] := by
    rw [hV]
    have h9 := Blk.new (w.alloc (Obj.cells #[.int .i64 4, .slice (some ⟨w.heap.size + 1, 0, none⟩) 5 5] 24)) 71 #[.int .i64 0, .int .i64 1, .int .i64 2, .int .i64 0, .int .i64 3, .int .i64 1, .int .i64 1, .int .i64 2, .int .i64 1, .int .i64 2, .int .i64 2, .int .i64 1, .int .i64 2, .int .i64 3, .int .i64 1]
    rwa [World.size_alloc] at h9
  have r5 : V.cell? ⟨w.heap.size, 0, none⟩ = some (.int .i64 4) := h1.cell 0
  have r6 : V.cell? ⟨w.heap.size, 1, none⟩ = some (.slice (some ⟨w.heap.size + 1, 0, none⟩) 5 5) := h1.cell 1
  refine bodyPost_ret (v := .agg #[.int .i64 4, .slice (some ⟨w.heap.size + 1, 0, none⟩) 5 5]) (by simp [results, Try.results51, go_sem, r5, r6]) rfl ?_
  exact ⟨_, _, rfl, RowAt.of_blk encE_len3 h2 rfl, hb⟩
/-- The examples hold. -/
def Awake : Prop := ∀ w, Calls Try.prog 13 #[] w (fun e w' => e = .returned (.bool true) ∧ Below w.heap.size w w')
set_option maxHeartbeats 12800000 in
set_option maxRecDepth 100000 in
theorem awake_any : Awake := by
  intro w
  have HH := Lib.hid house_any
  have HP : Hid (PsAt (w.alloc (Obj.cells #[.int .i64 3, .int .i64 2, .int .i64 1, .int .i64 0, .int .i64 2, .int .i64 2, .int .i64 0, .int .i64 1, .int .i64 0, .int .i64 3, .int .i64 2, .int .i64 1] 37)) (some ⟨w.heap.size, 0, none⟩) hsP) := Lib.hid (RowAt.of_blk (k := 2) (enc := encP) (fun _ => rfl) (Blk.new _ _ _) rfl)
  go_enter Try.func13, Try.ntmps13
  go_wp2_with fail
  refine (hs_make _ _ _ HP.out).mono ?_
  rintro e w1 ⟨a, c, rfl, hE, hb⟩
  obtain ⟨V, hV⟩ : ∃ V, V = w1.alloc (Obj.cells #[.int .i64 4, .slice a 5 c] 24) := ⟨_, rfl⟩
  have hBW : Below w.heap.size w V := by rw [hV]; exact (((Below.refl _ w).alloc (Nat.le_refl _) _).trans (hb.mono (by simp))).alloc (by have := hb.size; rw [World.size_alloc] at this; omega) _
  have hG : Blk V w1.heap.size 24 #[.int .i64 4, .slice a 5 c] := by rw [hV]; exact Blk.new _ _ _
  have hEV : EsAt V a hsE := by rw [hV]; exact hE.keep ((Below.refl _ _).alloc (Nat.le_refl _) _)
  have HBW := Lib.hid hBW
  have HF : Hid (∀ x, Below V.heap.size V x → x.cell? ⟨w1.heap.size, 0, none⟩ = some (.int .i64 4) ∧ x.cell? ⟨w1.heap.size, 1, none⟩ = some (.slice a 5 c) ∧ EsAt x a hsE) := Lib.hid fun x hx => ⟨(hG.below hx hG.lt).cell 0, (hG.below hx hG.lt).cell 1, hEV.keep hx⟩
  have HV := Lib.hid hV
  clear hV hE hb hBW hG hEV
  go_wp2_with fail
  rw [← HV.out]
  have hk0 : Below V.heap.size V V.drew := (Below.refl _ _).drew
  have g0 := True.intro
  have g1 := True.intro
  refine wp_region_late (S := fun u => Below V.heap.size V u) (X := [5]) (by kernel_rfl) ?_
  refine wpAnyL_pureD (i := 0) 27 (.int .i64 0) rfl rfl (by kernel_rfl) (by kernel_rfl) (by kernel_rfl) (fun _ _ _ h => h) (Or.inl ⟨by rfl, fun u _ => ?_⟩) ?_
  · go_simp
  try simp only [Act.put, List.setIfInBounds_toArray, List.set_cons_zero, List.set_cons_succ]
  refine wpAnyL_pureD (i := 1) 28 (.bool false) rfl rfl (by kernel_rfl) (by kernel_rfl) (by kernel_rfl) (fun _ _ _ h => h) (Or.inl ⟨by rfl, fun u _ => ?_⟩) ?_
  · go_simp
  try simp only [Act.put, List.setIfInBounds_toArray, List.set_cons_zero, List.set_cons_succ]
  refine wpAnyL_pureD (i := 2) 29 (.bool false) rfl rfl (by kernel_rfl) (by kernel_rfl) (by kernel_rfl) (fun _ _ _ h => h) (Or.inl ⟨by rfl, fun u _ => ?_⟩) ?_
  · go_simp
  try simp only [Act.put, List.setIfInBounds_toArray, List.set_cons_zero, List.set_cons_succ]
  refine wpAnyL_takeD (i := 3) 30 (.agg #[.int .i64 4, .slice a 5 c]) rfl rfl (by kernel_rfl) (by kernel_rfl) (by kernel_rfl) (by kernel_rfl) (by kernel_rfl) (fun _ _ _ h => h) hk0 (Or.inl ⟨by rfl, fun u hu => ?_⟩) ?_
  · obtain ⟨z0, z1, -⟩ := HF.out u hu
    go_simp
  try simp only [Act.put, List.setIfInBounds_toArray, List.set_cons_zero, List.set_cons_succ]
  refine wpAnyL_one (i := 4) (by kernel_rfl) rfl (fun K hK => ?_)
  go_simp
  go_at_call 51
  refine (HH.out _).mono ?_
  rintro e y1 ⟨a2, c2, rfl, hE2, hb1⟩
  have hj1 := hk0.trans (hb1.mono hk0.size)
  show K _ _
  refine hK.out _ _ (fun _ _ => hj1) ?_
  clear hK K
  try simp only [Act.put, List.setIfInBounds_toArray, List.set_cons_zero, List.set_cons_succ]
  refine wpAnyL_one (i := 5) (by kernel_rfl) rfl (fun K hK => ?_)
  go_simp
  go_at_call 25
  refine (hs_same a a2 c c2 y1 (HF.out _ hj1).2.2 hE2).mono ?_
  rintro e x1 ⟨rfl, hb2⟩
  have hk1 := hj1.trans (hb2.mono hj1.size)
  show K _ _
  refine hK.out _ _ (fun h => absurd (by decide) h) ?_
  clear hK K
  try simp only [Act.put, List.setIfInBounds_toArray, List.set_cons_zero, List.set_cons_succ]
  refine wpAnyL_one (i := 6) (by kernel_rfl) rfl (fun K hK => ?_)
  go_simp
  refine hK.out _ _ (fun _ h => h) ?_
  clear hK K
  try simp only [Act.put, List.setIfInBounds_toArray, List.set_cons_zero, List.set_cons_succ]
  refine wpAnyL_one (i := 7) (by kernel_rfl) rfl (fun K hK => ?_)
  go_simp
  refine hK.out _ _ (fun _ h => h) ?_
  clear hK K
  refine wpAnyL_done (by kernel_rfl) ?_ _
  try simp only [Act.put, List.setIfInBounds_toArray, List.set_cons_zero, List.set_cons_succ]
  clear hb1 hb2 hE2 hj1 g0 g1
  obtain ⟨g0, g1, -⟩ := HF.out _ hk1
  go_wp2_with fail
  refine (hs_size a c _ (HF.out _ hk1).2.2).mono ?_
  rintro e x2 ⟨rfl, hb2⟩
  have hk2 : Below V.heap.size V x2 := hk1.trans (hb2.mono hk1.size)
  clear hb2 g0 g1
  obtain ⟨g0, g1, -⟩ := HF.out _ hk2
  go_wp2_with fail
  refine (hs_genus a c _ (HF.out _ hk2).2.2).mono ?_
  rintro e x3 ⟨rfl, hb3⟩
  have hk3 : Below V.heap.size V x3 := hk2.trans (hb3.mono hk2.size)
  clear hb3 g0 g1
  obtain ⟨g0, g1, -⟩ := HF.out _ hk3
  go_wp2_with fail
  refine (hs_degree a c _ (HF.out _ hk3).2.2).mono ?_
  rintro e x4 ⟨rfl, hb4⟩
  have hk4 : Below V.heap.size V x4 := hk3.trans (hb4.mono hk3.size)
  clear hb4 g0 g1
  obtain ⟨g0, g1, -⟩ := HF.out _ hk4
  go_wp2_with fail
  refine (hs_valence a c _ (HF.out _ hk4).2.2).mono ?_
  rintro e x5 ⟨rfl, hb5⟩
  have hk5 : Below V.heap.size V x5 := hk4.trans (hb5.mono hk4.size)
  clear hb5 g0 g1
  obtain ⟨g0, g1, -⟩ := HF.out _ hk5
  go_wp2_with fail
  refine (hs_near a c _ (HF.out _ hk5).2.2).mono ?_
  rintro e x6 ⟨b1, d1, rfl, hN6, hb6⟩
  have hk6 : Below V.heap.size V x6 := hk5.trans (hb6.mono hk5.size)
  clear hb6 g0 g1
  obtain ⟨g0, g1, -⟩ := HF.out _ hk6
  go_wp2_with fail
  have hk6' : Below V.heap.size V (x6.alloc (Obj.cells #[.int .i64 0, .int .i64 1] 3)) := hk6.alloc hk6.size _
  have hv6 : IsAt (x6.alloc (Obj.cells #[.int .i64 0, .int .i64 1] 3)) (some ⟨x6.heap.size, 0, none⟩) [0, 1] := RowAt.of_blk (k := 1) (enc := encI) (fun _ => rfl) (Blk.new _ _ _) rfl
  refine (hs_cut a c _ _ _ (HF.out _ hk6').2.2 hv6).mono ?_
  rintro e x7 ⟨b2, d2, rfl, hC7, hb7⟩
  have hk7 : Below V.heap.size V x7 := hk6'.trans (hb7.mono hk6'.size)
  have hN7 := hN6.keep (((Below.refl _ x6).alloc (Nat.le_refl _) (Obj.cells #[.int .i64 0, .int .i64 1] 3)).trans (hb7.mono (by simp)))
  clear hb7 g0 g1 hv6 hk6'
  obtain ⟨g0, g1, -⟩ := HF.out _ hk7
  go_wp2_with fail
  have hk7' : Below V.heap.size V (x7.alloc (Obj.cells #[.int .i64 0, .int .i64 1, .int .i64 3] 3)) := hk7.alloc hk7.size _
  have hv7 : IsAt (x7.alloc (Obj.cells #[.int .i64 0, .int .i64 1, .int .i64 3] 3)) (some ⟨x7.heap.size, 0, none⟩) [0, 1, 3] := RowAt.of_blk (k := 1) (enc := encI) (fun _ => rfl) (Blk.new _ _ _) rfl
  refine (hs_ind a c _ _ _ (HF.out _ hk7').2.2 hv7).mono ?_
  rintro e x8 ⟨a3, c3, rfl, hE8, hb8⟩
  have hB78 := ((Below.refl _ x7).alloc (Nat.le_refl _) (Obj.cells #[.int .i64 0, .int .i64 1, .int .i64 3] 3)).trans (hb8.mono (by simp))
  have hk8 : Below V.heap.size V x8 := hk7'.trans (hb8.mono hk7'.size)
  have hN8 := hN7.keep hB78
  have hC8 := hC7.keep hB78
  clear hb8 g0 g1 hv7 hk7' hB78
  obtain ⟨Y, hY⟩ : ∃ Y, Y = x8.alloc (Obj.cells #[.int .i64 3, .slice a3 2 c3] 24) := ⟨_, rfl⟩
  have hYk := (Below.refl _ x8).alloc (Nat.le_refl _) (Obj.cells #[.int .i64 3, .slice a3 2 c3] 24)
  have HBY : Hid (Below w.heap.size w Y) := Lib.hid (by rw [hY]; exact (HBW.out.trans (hk8.mono HBW.out.size)).trans (hYk.mono (by have := HBW.out.size; have := hk8.size; omega)))
  have hGY : Blk Y x8.heap.size 24 #[.int .i64 3, .slice a3 2 c3] := by rw [hY]; exact Blk.new _ _ _
  have hEY : EsAt Y a3 hsI := by rw [hY]; exact hE8.keep hYk
  have hNY : IsAt Y b1 [1, 3] := by rw [hY]; exact hN8.keep hYk
  have hCY : IsAt Y b2 [2, 3] := by rw [hY]; exact hC8.keep hYk
  have HG : Hid (∀ x, Below Y.heap.size Y x → x.cell? ⟨x8.heap.size, 0, none⟩ = some (.int .i64 3) ∧ x.cell? ⟨x8.heap.size, 1, none⟩ = some (.slice a3 2 c3) ∧ EsAt x a3 hsI ∧ IsAt x b1 [1, 3] ∧ IsAt x b2 [2, 3]) := Lib.hid fun x hx => ⟨(hGY.below hx hGY.lt).cell 0, (hGY.below hx hGY.lt).cell 1, hEY.keep hx, hNY.keep hx, hCY.keep hx⟩
  have HY := Lib.hid hY
  have HYS : Hid (Y.heap.size = x8.heap.size + 1) := Lib.hid (by rw [hY]; simp)
  clear hY hYk hGY hEY hNY hCY hE8 hN8 hC8 hN7 hC7 hN6 hk0 hk1 hk2 hk3 hk4 hk5 hk6 hk7 hk8
  go_wp2_with fail
  rw [← HY.out]
  have hm0 : Below Y.heap.size Y (Y.alloc (Obj.cells #[.int .i64 1, .int .i64 3] 3)) := (Below.refl _ _).alloc (Nat.le_refl _) _
  have hv0 : IsAt (Y.alloc (Obj.cells #[.int .i64 1, .int .i64 3] 3)) (some ⟨x8.heap.size + 1, 0, none⟩) [1, 3] := by rw [← HYS.out]; exact RowAt.of_blk (k := 1) (enc := encI) (fun _ => rfl) (Blk.new _ _ _) rfl
  refine (hs_eqN _ _ _ _ _ (HG.out _ hm0).2.2.2.1 hv0).mono ?_
  rintro e z1 ⟨rfl, hb1⟩
  have hm1 := hm0.trans (hb1.mono hm0.size)
  clear hb1 hv0 hm0
  go_wp2_with fail
  have hm1' : Below Y.heap.size Y (z1.alloc (Obj.cells #[.int .i64 2, .int .i64 3] 3)) := hm1.alloc hm1.size _
  have hv1 : IsAt (z1.alloc (Obj.cells #[.int .i64 2, .int .i64 3] 3)) (some ⟨z1.heap.size, 0, none⟩) [2, 3] := RowAt.of_blk (k := 1) (enc := encI) (fun _ => rfl) (Blk.new _ _ _) rfl
  refine (hs_eqC _ _ _ _ _ (HG.out _ hm1').2.2.2.2 hv1).mono ?_
  rintro e z2 ⟨rfl, hb2⟩
  have hm2 := hm1'.trans (hb2.mono hm1'.size)
  clear hb2 hv1 hm1' hm1
  obtain ⟨g0, g1, -⟩ := HG.out _ hm2
  have hm2' : Below Y.heap.size Y (z2.alloc (Obj.cells #[.int .i64 0, .int .i64 1, .int .i64 2, .int .i64 0, .int .i64 2, .int .i64 1] 71)) := hm2.alloc hm2.size _
  have hv2 : EsAt (z2.alloc (Obj.cells #[.int .i64 0, .int .i64 1, .int .i64 2, .int .i64 0, .int .i64 2, .int .i64 1] 71)) (some ⟨z2.heap.size, 0, none⟩) hsI := RowAt.of_blk encE_len3 (Blk.new _ _ _) rfl
  obtain ⟨g2, g3, -⟩ := HG.out _ hm2'
  have HV2 := Lib.hid hv2
  have HM2 := Lib.hid hm2'
  clear hv2 hm2' hm2
  go_wp2_with fail
  refine (hs_sameI _ _ _ _ _ (HG.out _ HM2.out).2.2.1 HV2.out).mono ?_
  rintro e z3 ⟨rfl, hb3⟩
  have HB3 := Lib.hid (HBY.out.trans ((HM2.out.trans (hb3.mono HM2.out.size)).mono HBY.out.size))
  clear hb3 g0 g1 g2 g3
  go_wp2
  go_ret
  exact ⟨rfl, HB3.out⟩
end Go.Proofs.Ytjaafneoinidkaa
