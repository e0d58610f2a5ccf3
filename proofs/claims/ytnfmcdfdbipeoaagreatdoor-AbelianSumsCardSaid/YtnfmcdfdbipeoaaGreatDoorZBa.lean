/- Abelian groups: sums, opposites, multiples and counts are those of the reference. -/
import Derived.Test.YtnfmcdfdbipeoaaGreatDoorZAt
import Derived.Test.YtnfmcdfdbipeoaaGreatDoorZAz
namespace Go.Proofs.YtnfmcdfdbipeoaaGreatDoor
open Go.RowKit Go.Proofs.Num

theorem len_of {G : List ByteArray} {c : Nat} {g : Nat → ByteArray} (h : c = 0 → gck fck G = 0) : (if c = 0 then upto g G.length else []).length ≤ 100000 := by
  by_cases h0 : c = 0
  · rw [if_pos h0, upto_len]
    have := (gck_right (h h0)).1
    omega
  · rw [if_neg h0]; simp
theorem of_not {P : Prop} [Decidable P] {x y : Nat} (hx : P → x ≠ 0) (h : (if P then x else y) = 0) : ¬ P := fun hp => by rw [if_pos hp] at h; exact hx hp h
theorem adL_len (L M G : List ByteArray) : (adL L M G).length ≤ 100000 := len_of fun h => Classical.byContradiction (of_not (fun hp => hp) h)
theorem ngL_len (L G : List ByteArray) : (ngL L G).length ≤ 100000 := len_of fun h => Classical.byContradiction (of_not (fun hp => hp) h)
theorem tmL_len (s : ByteArray) (L G : List ByteArray) : (tmL s L G).length ≤ 100000 := len_of fun h => Classical.byContradiction (of_not (fun hp => hp) h)

/-- few of two lists and a text. -/
theorem few_three (b d : Option Addr) (c1 c2 : Nat) (L M : List ByteArray) (s : ByteArray) (hL : L.length ≤ 9223372036854775807) (hM : M.length ≤ 9223372036854775807) (hsz : ∀ j, j < L.length → (sat L j).size ≤ 9223372036854775807) (hsz2 : ∀ j, j < M.length → (sat M j).size ≤ 9223372036854775807) (hs : s.size ≤ 9223372036854775807) (W : World) (h1 : TsAt W b L) (h2 : TsAt W d M) :
    Calls Tryz.prog 12 #[.slice (some ⟨W.heap.size + 1, 0, none⟩) 3 3] ((W.alloc (.cells #[.string s] 31)).alloc (.cells #[.slice b L.length c1, .slice d M.length c2, .slice (some ⟨W.heap.size, 0, none⟩) 1 1] 22)) (fun e w' => e = .returned (.bool (fewL L && (fewL M && fewL [s]))) ∧ ((W.alloc (.cells #[.string s] 31)).alloc (.cells #[.slice b L.length c1, .slice d M.length c2, .slice (some ⟨W.heap.size, 0, none⟩) 1 1] 22)) = w') := by
  have hb : Below W.heap.size W ((W.alloc (.cells #[.string s] 31)).alloc (.cells #[.slice b L.length c1, .slice d M.length c2, .slice (some ⟨W.heap.size, 0, none⟩) 1 1] 22)) := ((Below.refl _ _).alloc (Nat.le_refl _) _).alloc (by rw [World.size_alloc]; omega) _
  have h3 : TsAt ((W.alloc (.cells #[.string s] 31)).alloc (.cells #[.slice b L.length c1, .slice d M.length c2, .slice (some ⟨W.heap.size, 0, none⟩) 1 1] 22)) (some ⟨W.heap.size, 0, none⟩) [s] := (TsAt.lit W [s]).keep ((Below.refl _ _).alloc (Nat.le_refl _) _)
  have hcell : ∀ j v, (#[Value.slice b L.length c1, .slice d M.length c2, .slice (some ⟨W.heap.size, 0, none⟩) 1 1] : Array Value)[j]? = some v → ((W.alloc (.cells #[.string s] 31)).alloc (.cells #[.slice b L.length c1, .slice d M.length c2, .slice (some ⟨W.heap.size, 0, none⟩) 1 1] 22)).cell? ⟨W.heap.size + 1, j, none⟩ = some v := by
    intro j v hv
    have e : W.heap.size + 1 = (W.alloc (.cells #[.string s] 31)).heap.size := by rw [World.size_alloc]
    rw [e, cell_of_row _ _ j _ 22 (0, 0) (heap_alloc_new _ _), ← hv]
  refine few_any (some ⟨W.heap.size + 1, 0, none⟩) 3 3 (by omega) (fun j => if j = 0 then .slice b L.length c1 else if j = 1 then .slice d M.length c2 else .slice (some ⟨W.heap.size, 0, none⟩) 1 1) (fun j => if j = 0 then fewL L else if j = 1 then fewL M else fewL [s])
    (fun j => ?_) _ (fun j hj => ?_) (fun j hj => ?_) _ ?_
  · by_cases e0 : j = 0
    · exact ⟨b, L.length, c1, by simp [e0]⟩
    · by_cases e1 : j = 1
      · exact ⟨d, M.length, c2, by simp [e1]⟩
      · exact ⟨_, 1, 1, by simp [e0, e1]; rfl⟩
  · refine ⟨W.heap.size + 1, 0, rfl, by rw [World.size_alloc, World.size_alloc]; omega, ?_⟩
    rw [Nat.zero_add]
    refine hcell j _ ?_
    rcases (show j = 0 ∨ j = 1 ∨ j = 2 by omega) with rfl | rfl | rfl <;> rfl
  · rcases (show j = 0 ∨ j = 1 ∨ j = 2 by omega) with rfl | rfl | rfl
    · exact few1_any b c1 L hL hsz _ (h1.keep hb)
    · exact few1_any d c2 M hM hsz2 _ (h2.keep hb)
    · exact few1_any (some ⟨W.heap.size, 0, none⟩) 1 [s] (by simp) (fun j hj => by obtain rfl : j = 0 := (by simpa using hj); exact hs) _ h3
  · rw [Bool.and_eq_true, Bool.and_eq_true]
    constructor
    · rintro ⟨k1, k2, k3⟩ j hj
      rcases (show j = 0 ∨ j = 1 ∨ j = 2 by omega) with rfl | rfl | rfl
      · exact k1
      · exact k2
      · exact k3
    · intro h
      exact ⟨h 0 (by omega), h 1 (by omega), h 2 (by omega)⟩

set_option maxHeartbeats 3200000 in
set_option maxRecDepth 100000 in
theorem sums_no_g (HA : Awake) (a b d : Option Addr) (cap c1 c2 : Nat) (G L M : List ByteArray) (s : ByteArray) (w : World) (HF : Hid (Calls Tryz.prog 11 #[.slice a G.length cap] (w.alloc (.cells #[.slice b L.length c1, .slice d M.length c2, .string s] 51)) (fun e w' => e = .returned (.bool false) ∧ (w.alloc (.cells #[.slice b L.length c1, .slice d M.length c2, .string s] 51)) = w'))) (hT : Tab w) :
    Calls Tryz.prog 5 #[.slice a G.length cap, .agg #[.slice b L.length c1, .slice d M.length c2, .string s]] w (fun e w' => e = .returned (.bool true) ∧ Below w.heap.size w w') := by
  obtain ⟨W, hW⟩ : ∃ W, W = (w.alloc (.cells #[.slice b L.length c1, .slice d M.length c2, .string s] 51)) := ⟨_, rfl⟩
  have hrow : W.heap[w.heap.size]? = some (.cells #[.slice b L.length c1, .slice d M.length c2, .string s] 51 (0, 0)) := by rw [hW]; exact heap_alloc_new w _
  have hlt : w.heap.size < W.heap.size := (Array.getElem?_eq_some_iff.1 hrow).1
  have hB0 : Below w.heap.size w W := by rw [hW]; exact (Below.refl _ _).alloc (Nat.le_refl _) _
  have HX : Hid (∀ x, Below W.heap.size W x → x.cell? ⟨w.heap.size, 0, none⟩ = some (.slice b L.length c1) ∧ x.cell? ⟨w.heap.size, 1, none⟩ = some (.slice d M.length c2) ∧ x.cell? ⟨w.heap.size, 2, none⟩ = some (.string s)) := fun x hx =>
    ⟨(hx.cell (p := ⟨w.heap.size, 0, none⟩) hlt).trans (cell_of_row W _ 0 _ 51 (0, 0) hrow), (hx.cell (p := ⟨w.heap.size, 1, none⟩) hlt).trans (cell_of_row W _ 1 _ 51 (0, 0) hrow), (hx.cell (p := ⟨w.heap.size, 2, none⟩) hlt).trans (cell_of_row W _ 2 _ 51 (0, 0) hrow)⟩
  have HW := Lib.hid hW
  have HB0 := Lib.hid hB0
  rw [← hW] at HF
  have HT := Lib.hid hT
  have HAW := Lib.hid HA
  clear HA hT hW hrow hlt hB0
  go_enter Tryz.func5, Tryz.ntmps5
  go_wp2_with fail
  rw [← HW.out]
  refine HF.out.mono ?_
  rintro e w1 ⟨rfl, rfl⟩
  have hk : Below W.heap.size W W := Below.refl _ _
  obtain ⟨x0, x1, x2⟩ := HX.out _ hk
  go_wp2_with fail
  refine (HAW.out _ (HT.out.keep (HB0.out.trans (hk.mono HB0.out.size)))).mono ?_
  rintro e w19 ⟨rfl, hc19⟩
  have hk9 := hk.trans (hc19.mono hk.size)
  clear hk hc19 x0 x1 x2
  have hk := hk9
  clear hk9
  obtain ⟨x0, x1, x2⟩ := HX.out _ hk
  clear x0 x1 x2
  go_wp2
  go_ret
  exact ⟨rfl, (HB0.out.trans (hk.mono HB0.out.size))⟩

set_option maxHeartbeats 3200000 in
set_option maxRecDepth 100000 in
theorem sums_no_l (HA : Awake) (a b d : Option Addr) (cap c1 c2 : Nat) (G L M : List ByteArray) (s : ByteArray) (w : World) (HF : Hid (Calls Tryz.prog 11 #[.slice a G.length cap] (w.alloc (.cells #[.slice b L.length c1, .slice d M.length c2, .string s] 51)) (fun e w' => e = .returned (.bool true) ∧ (w.alloc (.cells #[.slice b L.length c1, .slice d M.length c2, .string s] 51)) = w'))) (HL : Hid (∀ W, TsAt W b L → TsAt W d M → Calls Tryz.prog 12 #[.slice (some ⟨W.heap.size + 1, 0, none⟩) 3 3] ((W.alloc (.cells #[.string s] 31)).alloc (.cells #[.slice b L.length c1, .slice d M.length c2, .slice (some ⟨W.heap.size, 0, none⟩) 1 1] 22)) (fun e w' => e = .returned (.bool false) ∧ ((W.alloc (.cells #[.string s] 31)).alloc (.cells #[.slice b L.length c1, .slice d M.length c2, .slice (some ⟨W.heap.size, 0, none⟩) 1 1] 22)) = w'))) (h2 : TsAt w b L) (h3 : TsAt w d M) (hT : Tab w) :
    Calls Tryz.prog 5 #[.slice a G.length cap, .agg #[.slice b L.length c1, .slice d M.length c2, .string s]] w (fun e w' => e = .returned (.bool true) ∧ Below w.heap.size w w') := by
  obtain ⟨W, hW⟩ : ∃ W, W = (w.alloc (.cells #[.slice b L.length c1, .slice d M.length c2, .string s] 51)) := ⟨_, rfl⟩
  have hrow : W.heap[w.heap.size]? = some (.cells #[.slice b L.length c1, .slice d M.length c2, .string s] 51 (0, 0)) := by rw [hW]; exact heap_alloc_new w _
  have hlt : w.heap.size < W.heap.size := (Array.getElem?_eq_some_iff.1 hrow).1
  have hB0 : Below w.heap.size w W := by rw [hW]; exact (Below.refl _ _).alloc (Nat.le_refl _) _
  have HX : Hid (∀ x, Below W.heap.size W x → x.cell? ⟨w.heap.size, 0, none⟩ = some (.slice b L.length c1) ∧ x.cell? ⟨w.heap.size, 1, none⟩ = some (.slice d M.length c2) ∧ x.cell? ⟨w.heap.size, 2, none⟩ = some (.string s)) := fun x hx =>
    ⟨(hx.cell (p := ⟨w.heap.size, 0, none⟩) hlt).trans (cell_of_row W _ 0 _ 51 (0, 0) hrow), (hx.cell (p := ⟨w.heap.size, 1, none⟩) hlt).trans (cell_of_row W _ 1 _ 51 (0, 0) hrow), (hx.cell (p := ⟨w.heap.size, 2, none⟩) hlt).trans (cell_of_row W _ 2 _ 51 (0, 0) hrow)⟩
  have HW := Lib.hid hW
  have HB0 := Lib.hid hB0
  rw [← hW] at HF
  have HL0 := HL.out W (h2.keep hB0) (h3.keep hB0)
  clear HL
  have HL := Lib.hid HL0
  clear HL0
  have HT := Lib.hid hT
  have HAW := Lib.hid HA
  clear HA hT hW hrow hlt hB0 h2 h3
  go_enter Tryz.func5, Tryz.ntmps5
  go_wp2_with fail
  rw [← HW.out]
  refine HF.out.mono ?_
  rintro e w1 ⟨rfl, rfl⟩
  have hk : Below W.heap.size W W := Below.refl _ _
  obtain ⟨x0, x1, x2⟩ := HX.out _ hk
  go_wp2_with fail
  refine HL.out.mono ?_
  rintro e w1 ⟨rfl, rfl⟩
  have hk9 := (hk.alloc hk.size (.cells #[.string s] 31)).alloc (by rw [World.size_alloc]; omega) (.cells #[.slice b L.length c1, .slice d M.length c2, .slice (some ⟨W.heap.size, 0, none⟩) 1 1] 22)
  clear hk x0 x1 x2
  have hk := hk9
  clear hk9
  obtain ⟨x0, x1, x2⟩ := HX.out _ hk
  go_wp2_with fail
  refine (HAW.out _ (HT.out.keep (HB0.out.trans (hk.mono HB0.out.size)))).mono ?_
  rintro e w19 ⟨rfl, hc19⟩
  have hk9 := hk.trans (hc19.mono hk.size)
  clear hk hc19 x0 x1 x2
  have hk := hk9
  clear hk9
  obtain ⟨x0, x1, x2⟩ := HX.out _ hk
  clear x0 x1 x2
  go_wp2
  go_ret
  exact ⟨rfl, (HB0.out.trans (hk.mono HB0.out.size))⟩

set_option maxHeartbeats 12800000 in
set_option maxRecDepth 100000 in
theorem sums_yes (HA : Awake) (a b d : Option Addr) (cap c1 c2 : Nat) (G L M : List ByteArray) (s : ByteArray) (w : World) (HF : Hid (Calls Tryz.prog 11 #[.slice a G.length cap] (w.alloc (.cells #[.slice b L.length c1, .slice d M.length c2, .string s] 51)) (fun e w' => e = .returned (.bool true) ∧ (w.alloc (.cells #[.slice b L.length c1, .slice d M.length c2, .string s] 51)) = w'))) (HL : Hid (∀ W, TsAt W b L → TsAt W d M → Calls Tryz.prog 12 #[.slice (some ⟨W.heap.size + 1, 0, none⟩) 3 3] ((W.alloc (.cells #[.string s] 31)).alloc (.cells #[.slice b L.length c1, .slice d M.length c2, .slice (some ⟨W.heap.size, 0, none⟩) 1 1] 22)) (fun e w' => e = .returned (.bool true) ∧ ((W.alloc (.cells #[.string s] 31)).alloc (.cells #[.slice b L.length c1, .slice d M.length c2, .slice (some ⟨W.heap.size, 0, none⟩) 1 1] 22)) = w'))) (A1 A2 A3 : List ByteArray) (k1 k2 k3 k4 : Int) (X : ByteArray)
    (Q1 : Hid (∀ w, TsAt w a G → TsAt w b L → TsAt w d M → Tab w → Calls Tryz.prog 32 #[.slice a G.length cap, .slice b L.length c1, .slice d M.length c2] w (GivesTs w A1 k1))) (Q2 : Hid (∀ w, TsAt w a G → TsAt w b L → TsAt w d M → Calls Tryz.prog 33 #[.slice a G.length cap, .slice b L.length c1, .slice d M.length c2] w (GivesTs w A1 k1)))
    (Q3 : Hid (∀ w, TsAt w a G → TsAt w b L → Tab w → Calls Tryz.prog 34 #[.slice a G.length cap, .slice b L.length c1] w (GivesTs w A2 k2))) (Q4 : Hid (∀ w, TsAt w a G → TsAt w b L → Calls Tryz.prog 35 #[.slice a G.length cap, .slice b L.length c1] w (GivesTs w A2 k2)))
    (Q5 : Hid (∀ w, TsAt w a G → TsAt w b L → Tab w → Calls Tryz.prog 36 #[.slice a G.length cap, .string s, .slice b L.length c1] w (GivesTs w A3 k3))) (Q6 : Hid (∀ w, TsAt w a G → TsAt w b L → Calls Tryz.prog 37 #[.slice a G.length cap, .string s, .slice b L.length c1] w (GivesTs w A3 k3)))
    (Q7 : Hid (∀ w, TsAt w a G → Tab w → Calls Tryz.prog 38 #[.slice a G.length cap, .string s] w (fun e w' => e = .returned (.tuple #[.string X, .int .i64 k4]) ∧ Below w.heap.size w w'))) (Q8 : Hid (∀ w, TsAt w a G → Calls Tryz.prog 39 #[.slice a G.length cap, .string s] w (fun e w' => e = .returned (.tuple #[.string X, .int .i64 k4]) ∧ Below w.heap.size w w')))
    (S1 : Hid (∀ (a b : Option Addr) (c1 c2 : Nat) (w : World), TsAt w a A1 → TsAt w b A1 → Calls Tryz.prog 24 #[.slice a A1.length c1, .slice b A1.length c2] w (fun e w' => e = .returned (.bool true) ∧ Below w.heap.size w w')))
    (S2 : Hid (∀ (a b : Option Addr) (c1 c2 : Nat) (w : World), TsAt w a A2 → TsAt w b A2 → Calls Tryz.prog 24 #[.slice a A2.length c1, .slice b A2.length c2] w (fun e w' => e = .returned (.bool true) ∧ Below w.heap.size w w')))
    (S3 : Hid (∀ (a b : Option Addr) (c1 c2 : Nat) (w : World), TsAt w a A3 → TsAt w b A3 → Calls Tryz.prog 24 #[.slice a A3.length c1, .slice b A3.length c2] w (fun e w' => e = .returned (.bool true) ∧ Below w.heap.size w w'))) (h : TsAt w a G) (h2 : TsAt w b L) (h3 : TsAt w d M) (hT : Tab w) :
    Calls Tryz.prog 5 #[.slice a G.length cap, .agg #[.slice b L.length c1, .slice d M.length c2, .string s]] w (fun e w' => e = .returned (.bool true) ∧ Below w.heap.size w w') := by
  obtain ⟨W, hW⟩ : ∃ W, W = (w.alloc (.cells #[.slice b L.length c1, .slice d M.length c2, .string s] 51)) := ⟨_, rfl⟩
  have hrow : W.heap[w.heap.size]? = some (.cells #[.slice b L.length c1, .slice d M.length c2, .string s] 51 (0, 0)) := by rw [hW]; exact heap_alloc_new w _
  have hlt : w.heap.size < W.heap.size := (Array.getElem?_eq_some_iff.1 hrow).1
  have hB0 : Below w.heap.size w W := by rw [hW]; exact (Below.refl _ _).alloc (Nat.le_refl _) _
  have HX : Hid (∀ x, Below W.heap.size W x → x.cell? ⟨w.heap.size, 0, none⟩ = some (.slice b L.length c1) ∧ x.cell? ⟨w.heap.size, 1, none⟩ = some (.slice d M.length c2) ∧ x.cell? ⟨w.heap.size, 2, none⟩ = some (.string s)) := fun x hx =>
    ⟨(hx.cell (p := ⟨w.heap.size, 0, none⟩) hlt).trans (cell_of_row W _ 0 _ 51 (0, 0) hrow), (hx.cell (p := ⟨w.heap.size, 1, none⟩) hlt).trans (cell_of_row W _ 1 _ 51 (0, 0) hrow), (hx.cell (p := ⟨w.heap.size, 2, none⟩) hlt).trans (cell_of_row W _ 2 _ 51 (0, 0) hrow)⟩
  have HW := Lib.hid hW
  have HB0 := Lib.hid hB0
  rw [← hW] at HF
  have HL0 := HL.out W (h2.keep hB0) (h3.keep hB0)
  clear HL
  have HL := Lib.hid HL0
  clear HL0
  have HT := Lib.hid hT
  have HAW := Lib.hid HA
  have H1 := Lib.hid h
  have H2 := Lib.hid h2
  have H3 := Lib.hid h3
  clear HA hT hW hrow hlt hB0 h h2 h3
  go_enter Tryz.func5, Tryz.ntmps5
  go_wp2_with fail
  rw [← HW.out]
  refine HF.out.mono ?_
  rintro e w1 ⟨rfl, rfl⟩
  have hk : Below W.heap.size W W := Below.refl _ _
  obtain ⟨x0, x1, x2⟩ := HX.out _ hk
  go_wp2_with fail
  refine HL.out.mono ?_
  rintro e w1 ⟨rfl, rfl⟩
  have hk9 := (hk.alloc hk.size (.cells #[.string s] 31)).alloc (by rw [World.size_alloc]; omega) (.cells #[.slice b L.length c1, .slice d M.length c2, .slice (some ⟨W.heap.size, 0, none⟩) 1 1] 22)
  clear hk x0 x1 x2
  have hk := hk9
  clear hk9
  obtain ⟨x0, x1, x2⟩ := HX.out _ hk
  go_wp2_with fail
  refine (Q1.out _ (H1.out.keep (HB0.out.trans (hk.mono HB0.out.size))) (H2.out.keep (HB0.out.trans (hk.mono HB0.out.size))) (H3.out.keep (HB0.out.trans (hk.mono HB0.out.size))) (HT.out.keep (HB0.out.trans (hk.mono HB0.out.size)))).mono ?_
  rintro e w1 ⟨a1, q1, rfl, hz1, hc1⟩
  have hk9 := hk.trans (hc1.mono hk.size)
  clear hk hc1 x0 x1 x2
  have hk := hk9
  clear hk9
  obtain ⟨x0, x1, x2⟩ := HX.out _ hk
  have HZ1 := Lib.hid hz1
  clear hz1
  go_wp2_with fail
  refine (Q2.out _ (H1.out.keep (HB0.out.trans (hk.mono HB0.out.size))) (H2.out.keep (HB0.out.trans (hk.mono HB0.out.size))) (H3.out.keep (HB0.out.trans (hk.mono HB0.out.size)))).mono ?_
  rintro e w2 ⟨a2, q2, rfl, hz2, hc2⟩
  have hk9 := hk.trans (hc2.mono hk.size)
  have HZ1_ := Lib.hid (HZ1.out.keep hc2)
  clear HZ1
  have HZ1 := HZ1_
  clear HZ1_
  clear hk hc2 x0 x1 x2
  have hk := hk9
  clear hk9
  obtain ⟨x0, x1, x2⟩ := HX.out _ hk
  have HZ2 := Lib.hid hz2
  clear hz2
  go_wp2_with fail
  refine (Q3.out _ (H1.out.keep (HB0.out.trans (hk.mono HB0.out.size))) (H2.out.keep (HB0.out.trans (hk.mono HB0.out.size))) (HT.out.keep (HB0.out.trans (hk.mono HB0.out.size)))).mono ?_
  rintro e w3 ⟨a3, q3, rfl, hz3, hc3⟩
  have hk9 := hk.trans (hc3.mono hk.size)
  have HZ1_ := Lib.hid (HZ1.out.keep hc3)
  clear HZ1
  have HZ1 := HZ1_
  clear HZ1_
  have HZ2_ := Lib.hid (HZ2.out.keep hc3)
  clear HZ2
  have HZ2 := HZ2_
  clear HZ2_
  clear hk hc3 x0 x1 x2
  have hk := hk9
  clear hk9
  obtain ⟨x0, x1, x2⟩ := HX.out _ hk
  have HZ3 := Lib.hid hz3
  clear hz3
  go_wp2_with fail
  refine (Q4.out _ (H1.out.keep (HB0.out.trans (hk.mono HB0.out.size))) (H2.out.keep (HB0.out.trans (hk.mono HB0.out.size)))).mono ?_
  rintro e w4 ⟨a4, q4, rfl, hz4, hc4⟩
  have hk9 := hk.trans (hc4.mono hk.size)
  have HZ1_ := Lib.hid (HZ1.out.keep hc4)
  clear HZ1
  have HZ1 := HZ1_
  clear HZ1_
  have HZ2_ := Lib.hid (HZ2.out.keep hc4)
  clear HZ2
  have HZ2 := HZ2_
  clear HZ2_
  have HZ3_ := Lib.hid (HZ3.out.keep hc4)
  clear HZ3
  have HZ3 := HZ3_
  clear HZ3_
  clear hk hc4 x0 x1 x2
  have hk := hk9
  clear hk9
  obtain ⟨x0, x1, x2⟩ := HX.out _ hk
  have HZ4 := Lib.hid hz4
  clear hz4
  go_wp2_with fail
  refine (Q5.out _ (H1.out.keep (HB0.out.trans (hk.mono HB0.out.size))) (H2.out.keep (HB0.out.trans (hk.mono HB0.out.size))) (HT.out.keep (HB0.out.trans (hk.mono HB0.out.size)))).mono ?_
  rintro e w5 ⟨a5, q5, rfl, hz5, hc5⟩
  have hk9 := hk.trans (hc5.mono hk.size)
  have HZ1_ := Lib.hid (HZ1.out.keep hc5)
  clear HZ1
  have HZ1 := HZ1_
  clear HZ1_
  have HZ2_ := Lib.hid (HZ2.out.keep hc5)
  clear HZ2
  have HZ2 := HZ2_
  clear HZ2_
  have HZ3_ := Lib.hid (HZ3.out.keep hc5)
  clear HZ3
  have HZ3 := HZ3_
  clear HZ3_
  have HZ4_ := Lib.hid (HZ4.out.keep hc5)
  clear HZ4
  have HZ4 := HZ4_
  clear HZ4_
  clear hk hc5 x0 x1 x2
  have hk := hk9
  clear hk9
  obtain ⟨x0, x1, x2⟩ := HX.out _ hk
  have HZ5 := Lib.hid hz5
  clear hz5
  go_wp2_with fail
  refine (Q6.out _ (H1.out.keep (HB0.out.trans (hk.mono HB0.out.size))) (H2.out.keep (HB0.out.trans (hk.mono HB0.out.size)))).mono ?_
  rintro e w6 ⟨a6, q6, rfl, hz6, hc6⟩
  have hk9 := hk.trans (hc6.mono hk.size)
  have HZ1_ := Lib.hid (HZ1.out.keep hc6)
  clear HZ1
  have HZ1 := HZ1_
  clear HZ1_
  have HZ2_ := Lib.hid (HZ2.out.keep hc6)
  clear HZ2
  have HZ2 := HZ2_
  clear HZ2_
  have HZ3_ := Lib.hid (HZ3.out.keep hc6)
  clear HZ3
  have HZ3 := HZ3_
  clear HZ3_
  have HZ4_ := Lib.hid (HZ4.out.keep hc6)
  clear HZ4
  have HZ4 := HZ4_
  clear HZ4_
  have HZ5_ := Lib.hid (HZ5.out.keep hc6)
  clear HZ5
  have HZ5 := HZ5_
  clear HZ5_
  clear hk hc6 x0 x1 x2
  have hk := hk9
  clear hk9
  obtain ⟨x0, x1, x2⟩ := HX.out _ hk
  have HZ6 := Lib.hid hz6
  clear hz6
  go_wp2_with fail
  refine (Q7.out _ (H1.out.keep (HB0.out.trans (hk.mono HB0.out.size))) (HT.out.keep (HB0.out.trans (hk.mono HB0.out.size)))).mono ?_
  rintro e w7 ⟨rfl, hc7⟩
  have hk9 := hk.trans (hc7.mono hk.size)
  have HZ1_ := Lib.hid (HZ1.out.keep hc7)
  clear HZ1
  have HZ1 := HZ1_
  clear HZ1_
  have HZ2_ := Lib.hid (HZ2.out.keep hc7)
  clear HZ2
  have HZ2 := HZ2_
  clear HZ2_
  have HZ3_ := Lib.hid (HZ3.out.keep hc7)
  clear HZ3
  have HZ3 := HZ3_
  clear HZ3_
  have HZ4_ := Lib.hid (HZ4.out.keep hc7)
  clear HZ4
  have HZ4 := HZ4_
  clear HZ4_
  have HZ5_ := Lib.hid (HZ5.out.keep hc7)
  clear HZ5
  have HZ5 := HZ5_
  clear HZ5_
  have HZ6_ := Lib.hid (HZ6.out.keep hc7)
  clear HZ6
  have HZ6 := HZ6_
  clear HZ6_
  clear hk hc7 x0 x1 x2
  have hk := hk9
  clear hk9
  obtain ⟨x0, x1, x2⟩ := HX.out _ hk
  go_wp2_with fail
  refine (Q8.out _ (H1.out.keep (HB0.out.trans (hk.mono HB0.out.size)))).mono ?_
  rintro e w8 ⟨rfl, hc8⟩
  have hk9 := hk.trans (hc8.mono hk.size)
  have HZ1_ := Lib.hid (HZ1.out.keep hc8)
  clear HZ1
  have HZ1 := HZ1_
  clear HZ1_
  have HZ2_ := Lib.hid (HZ2.out.keep hc8)
  clear HZ2
  have HZ2 := HZ2_
  clear HZ2_
  have HZ3_ := Lib.hid (HZ3.out.keep hc8)
  clear HZ3
  have HZ3 := HZ3_
  clear HZ3_
  have HZ4_ := Lib.hid (HZ4.out.keep hc8)
  clear HZ4
  have HZ4 := HZ4_
  clear HZ4_
  have HZ5_ := Lib.hid (HZ5.out.keep hc8)
  clear HZ5
  have HZ5 := HZ5_
  clear HZ5_
  have HZ6_ := Lib.hid (HZ6.out.keep hc8)
  clear HZ6
  have HZ6 := HZ6_
  clear HZ6_
  clear hk hc8 x0 x1 x2
  have hk := hk9
  clear hk9
  obtain ⟨x0, x1, x2⟩ := HX.out _ hk
  go_wp2_with fail
  refine (S1.out _ _ _ _ _ HZ1.out HZ2.out).mono ?_
  rintro e w9 ⟨rfl, hc9⟩
  have hk9 := hk.trans (hc9.mono hk.size)
  have HZ3_ := Lib.hid (HZ3.out.keep hc9)
  clear HZ3
  have HZ3 := HZ3_
  clear HZ3_
  have HZ4_ := Lib.hid (HZ4.out.keep hc9)
  clear HZ4
  have HZ4 := HZ4_
  clear HZ4_
  have HZ5_ := Lib.hid (HZ5.out.keep hc9)
  clear HZ5
  have HZ5 := HZ5_
  clear HZ5_
  have HZ6_ := Lib.hid (HZ6.out.keep hc9)
  clear HZ6
  have HZ6 := HZ6_
  clear HZ6_
  clear hk hc9 x0 x1 x2
  have hk := hk9
  clear hk9
  obtain ⟨x0, x1, x2⟩ := HX.out _ hk
  go_wp2_with fail
  refine (S2.out _ _ _ _ _ HZ3.out HZ4.out).mono ?_
  rintro e w10 ⟨rfl, hc10⟩
  have hk9 := hk.trans (hc10.mono hk.size)
  have HZ5_ := Lib.hid (HZ5.out.keep hc10)
  clear HZ5
  have HZ5 := HZ5_
  clear HZ5_
  have HZ6_ := Lib.hid (HZ6.out.keep hc10)
  clear HZ6
  have HZ6 := HZ6_
  clear HZ6_
  clear hk hc10 x0 x1 x2
  have hk := hk9
  clear hk9
  obtain ⟨x0, x1, x2⟩ := HX.out _ hk
  go_wp2_with fail
  refine (S3.out _ _ _ _ _ HZ5.out HZ6.out).mono ?_
  rintro e w11 ⟨rfl, hc11⟩
  have hk9 := hk.trans (hc11.mono hk.size)
  clear hk hc11 x0 x1 x2
  have hk := hk9
  clear hk9
  obtain ⟨x0, x1, x2⟩ := HX.out _ hk
  go_wp2_with fail
  refine (HAW.out _ (HT.out.keep (HB0.out.trans (hk.mono HB0.out.size)))).mono ?_
  rintro e w19 ⟨rfl, hc19⟩
  have hk9 := hk.trans (hc19.mono hk.size)
  clear hk hc19 x0 x1 x2
  have hk := hk9
  clear hk9
  obtain ⟨x0, x1, x2⟩ := HX.out _ hk
  clear x0 x1 x2
  go_wp2
  go_ret
  exact ⟨rfl, (HB0.out.trans (hk.mono HB0.out.size))⟩

/-- The law, for all groups and pairs. -/
theorem sumsG_any (HA : Awake) (a b d : Option Addr) (cap c1 c2 : Nat) (G L M : List ByteArray) (s : ByteArray) (hG : G.length ≤ 9223372036854775807) (hL : L.length ≤ 9223372036854775807) (hM : M.length ≤ 9223372036854775807) (hsz : ∀ j, j < G.length → (sat G j).size ≤ 9223372036854775807) (hsz2 : ∀ j, j < L.length → (sat L j).size ≤ 9223372036854775807) (hsz3 : ∀ j, j < M.length → (sat M j).size ≤ 9223372036854775807) (hs : s.size ≤ 9223372036854775807) (w : World) (h : TsAt w a G) (h2 : TsAt w b L) (h3 : TsAt w d M) (hT : Tab w) :
    Calls Tryz.prog 5 #[.slice a G.length cap, .agg #[.slice b L.length c1, .slice d M.length c2, .string s]] w (fun e w' => e = .returned (.bool true) ∧ Below w.heap.size w w') := by
  have hb : Below w.heap.size w (w.alloc (.cells #[.slice b L.length c1, .slice d M.length c2, .string s] 51)) := (Below.refl _ _).alloc (Nat.le_refl _) _
  have HF := rfewG_any a cap G hG hsz (w.alloc (.cells #[.slice b L.length c1, .slice d M.length c2, .string s] 51)) (h.keep hb)
  by_cases hf : fewG G = true
  · rw [hf] at HF
    have HL := fun W h1 h2 => few_three b d c1 c2 L M s hL hM hsz2 hsz3 hs W h1 h2
    by_cases hq : (fewL L && (fewL M && fewL [s])) = true
    · rw [hq] at HL
      exact sums_yes HA a b d cap c1 c2 G L M s w (Lib.hid HF) (Lib.hid HL) (adL L M G) (ngL L G) (tmL s L G) _ _ _ _ (cnS s G)
        (Lib.hid fun w h h2 h3 hT => add_any' a b d cap c1 c2 L M G hf hsz hsz2 hsz3 w h h2 h3 hT) (Lib.hid fun w h h2 h3 => radd_any' a b d cap c1 c2 L M G hsz hsz2 hsz3 w h h2 h3)
        (Lib.hid fun w h h2 hT => neg_any' a b cap c1 L G hf hsz hsz2 w h h2 hT) (Lib.hid fun w h h2 => rneg_any' a b cap c1 L G hsz hsz2 w h h2)
        (Lib.hid fun w h h2 hT => times_any' a b cap c1 L G s hf hsz hsz2 hs w h h2 hT) (Lib.hid fun w h h2 => rtimes_any' a b cap c1 L G s hsz hsz2 hs w h h2)
        (Lib.hid fun w h hT => count_any a cap G s (fun _ => hsz) hs w h hT) (Lib.hid fun w h => rcount_any a cap G s (fun _ => hsz) hs w h)
        (Lib.hid fun a b c1 c2 w h1 h2 => same_true a b c1 c2 _ (adL_len L M G) w h1 h2) (Lib.hid fun a b c1 c2 w h1 h2 => same_true a b c1 c2 _ (ngL_len L G) w h1 h2) (Lib.hid fun a b c1 c2 w h1 h2 => same_true a b c1 c2 _ (tmL_len s L G) w h1 h2) h h2 h3 hT
    · rw [show (fewL L && (fewL M && fewL [s])) = false by simpa using hq] at HL
      exact sums_no_l HA a b d cap c1 c2 G L M s w (Lib.hid HF) (Lib.hid HL) h2 h3 hT
  · rw [show fewG G = false by simpa using hf] at HF
    exact sums_no_g HA a b d cap c1 c2 G L M s w (Lib.hid HF) hT

end Go.Proofs.YtnfmcdfdbipeoaaGreatDoor
