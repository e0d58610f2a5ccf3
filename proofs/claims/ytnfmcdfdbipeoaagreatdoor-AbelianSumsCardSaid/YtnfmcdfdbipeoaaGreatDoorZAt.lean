/- Abelian groups: checks, groups, orders, exponents and elements are those of the reference. -/
import Derived.Test.YtnfmcdfdbipeoaaGreatDoorQ32
import Derived.Test.YtnfmcdfdbipeoaaGreatDoorQ35
namespace Go.Proofs.YtnfmcdfdbipeoaaGreatDoor
open Go.RowKit Go.Proofs.Num

/-- few of one list. -/
theorem few_one_list (b : Option Addr) (cap2 : Nat) (M : List ByteArray) (hl : M.length ≤ 9223372036854775807) (hsz : ∀ j, j < M.length → (sat M j).size ≤ 9223372036854775807) (w : World) (h : TsAt w b M) :
    Calls Tryz.prog 12 #[.slice (some ⟨w.heap.size, 0, none⟩) 1 1] (w.alloc (.cells #[.slice b M.length cap2] 22)) (fun e w' => e = .returned (.bool (fewL M)) ∧ w.alloc (.cells #[.slice b M.length cap2] 22) = w') := by
  refine few_any (some ⟨w.heap.size, 0, none⟩) 1 1 (by omega) (fun _ => .slice b M.length cap2) (fun _ => fewL M) (fun _ => ⟨_, _, _, rfl⟩) _ (fun j hj => ?_) (fun j hj => ?_) (fewL M) ⟨fun h _ _ => h, fun h => h 0 (by omega)⟩
  · obtain rfl : j = 0 := by omega
    exact ⟨w.heap.size, 0, rfl, by rw [World.size_alloc]; omega, cell_of_row _ _ 0 _ 22 (0, 0) (heap_alloc_new w _)⟩
  · exact few1_any b cap2 M hl hsz _ (h.keep ((Below.refl _ _).alloc (Nat.le_refl _) _))

theorem ofL_len (G : List ByteArray) : (ofL G).length ≤ 100000 := by
  unfold ofL
  by_cases h : gck dck G = 0
  · rw [if_pos h]
    have hl : G.length ≤ 16 := by
      apply Classical.byContradiction
      intro hn
      unfold gck at h
      rw [if_pos (by omega)] at h
      omega
    exact Nat.le_trans (List.length_filter_le _ _) (by omega)
  · rw [if_neg h]; simp
theorem eleL_len (L G : List ByteArray) : (eleL L G).length ≤ 100000 := by
  unfold eleL
  by_cases h : eleC L G = 0
  · rw [if_pos h, upto_len]
    have h0 : gck fck G = 0 := by
      apply Classical.byContradiction
      intro hn
      unfold eleC at h
      rw [if_pos hn] at h
      exact hn h
    have := (gck_right h0).1
    omega
  · rw [if_neg h]; simp

set_option maxHeartbeats 3200000 in
set_option maxRecDepth 100000 in
theorem checks_no_g (HA : Awake) (a b : Option Addr) (cap cap2 : Nat) (G : List ByteArray) (hG : G.length ≤ 9223372036854775807) (hsz : ∀ j, j < G.length → (sat G j).size ≤ 9223372036854775807) (hf : fewG G = false) (w : World) (h : TsAt w a G) (hT : Tab w) (M : List ByteArray) :
    Calls Tryz.prog 3 #[.slice a G.length cap, .slice b M.length cap2] w (fun e w' => e = .returned (.bool true) ∧ Below w.heap.size w w') := by
  have HF := Lib.hid (rfewG_any a cap G hG hsz w h)
  rw [hf] at HF
  have HT := Lib.hid hT
  have HAW := Lib.hid HA
  clear HA hT h hf hsz hG
  go_enter Tryz.func3, Tryz.ntmps3
  go_wp2_with fail
  refine HF.out.mono ?_
  rintro e w1 ⟨rfl, rfl⟩
  have hk : Below w.heap.size w w := Below.refl _ _
  go_wp2_with fail
  refine (HAW.out _ (HT.out.keep hk)).mono ?_
  rintro e w9 ⟨rfl, hc9⟩
  have hk9 := hk.trans (hc9.mono hk.size)
  clear hk
  have hk := hk9
  clear hk9
  go_wp2
  go_ret
  exact ⟨rfl, hk⟩

set_option maxHeartbeats 3200000 in
set_option maxRecDepth 100000 in
theorem checks_no_l (HA : Awake) (a b : Option Addr) (cap cap2 : Nat) (G M : List ByteArray) (hG : G.length ≤ 9223372036854775807) (hM : M.length ≤ 9223372036854775807) (hsz : ∀ j, j < G.length → (sat G j).size ≤ 9223372036854775807) (hsz2 : ∀ j, j < M.length → (sat M j).size ≤ 9223372036854775807) (hf : fewG G = true) (hf2 : fewL M = false) (w : World) (h : TsAt w a G) (h2 : TsAt w b M) (hT : Tab w) :
    Calls Tryz.prog 3 #[.slice a G.length cap, .slice b M.length cap2] w (fun e w' => e = .returned (.bool true) ∧ Below w.heap.size w w') := by
  have HF := Lib.hid (rfewG_any a cap G hG hsz w h)
  rw [hf] at HF
  have HL := Lib.hid (few_one_list b cap2 M hM hsz2 w h2)
  rw [hf2] at HL
  have HT := Lib.hid hT
  have HAW := Lib.hid HA
  clear HA hT h hf hsz hG hf2 h2 hM hsz2
  go_enter Tryz.func3, Tryz.ntmps3
  go_wp2_with fail
  refine HF.out.mono ?_
  rintro e w1 ⟨rfl, rfl⟩
  have hk : Below w.heap.size w w := Below.refl _ _
  go_wp2_with fail
  refine HL.out.mono ?_
  rintro e w1 ⟨rfl, rfl⟩
  have hk9 := hk.alloc hk.size (.cells #[.slice b M.length cap2] 22)
  clear hk
  have hk := hk9
  clear hk9
  go_wp2_with fail
  refine (HAW.out _ (HT.out.keep hk)).mono ?_
  rintro e w9 ⟨rfl, hc9⟩
  have hk9 := hk.trans (hc9.mono hk.size)
  clear hk
  have hk := hk9
  clear hk9
  go_wp2
  go_ret
  exact ⟨rfl, hk⟩

set_option maxHeartbeats 12800000 in
set_option maxRecDepth 100000 in
theorem checks_yes (HA : Awake) (a b : Option Addr) (cap cap2 : Nat) (G M : List ByteArray) (hG : G.length ≤ 9223372036854775807) (hM : M.length ≤ 9223372036854775807) (hsz : ∀ j, j < G.length → (sat G j).size ≤ 9223372036854775807) (hsz2 : ∀ j, j < M.length → (sat M j).size ≤ 9223372036854775807) (hf : fewG G = true) (hf2 : fewL M = true) (w : World) (h : TsAt w a G) (h2 : TsAt w b M) (hT : Tab w) :
    Calls Tryz.prog 3 #[.slice a G.length cap, .slice b M.length cap2] w (fun e w' => e = .returned (.bool true) ∧ Below w.heap.size w w') := by
  have HF := Lib.hid (rfewG_any a cap G hG hsz w h)
  rw [hf] at HF
  have HL := Lib.hid (few_one_list b cap2 M hM hsz2 w h2)
  rw [hf2] at HL
  have HT := Lib.hid hT
  have HAW := Lib.hid HA
  have H1 := Lib.hid h
  have H2 := Lib.hid h2
  have hz : G.length ≤ 16 → ∀ j, j < G.length → (sat G j).size ≤ 9223372036854775807 := fun _ => hsz
  have Q1 := Lib.hid (fun w h hT => of_any a cap G hz w h hT)
  have Q2 := Lib.hid (fun w h => rof_any a cap G hz w h)
  have Q3 := Lib.hid (fun w h hT => order_any a cap G hz w h hT)
  have Q4 := Lib.hid (fun w h hT => rorderG_any a cap G hz w h hT)
  have Q5 := Lib.hid (fun w h hT => expo_any a cap G hz w h hT)
  have Q6 := Lib.hid (fun w h hT => rexpo_any a cap G hz w h hT)
  have Q7 := Lib.hid (fun w h h2 hT => elem_any a b cap cap2 M G hz hsz2 w h h2 hT)
  have Q8 := Lib.hid (fun w h h2 hT => relem_any a b cap cap2 M G hz hsz2 w h h2 hT)
  have Q9 := Lib.hid (fun w h hT => gcheck_any a cap G hz w h hT)
  have Q0 := Lib.hid (fun w h => rgcheck_any a cap G hz w h)
  have S1 := Lib.hid (fun a b c1 c2 w h1 h2 => same_true a b c1 c2 (ofL G) (ofL_len G) w h1 h2)
  have S2 := Lib.hid (fun a b c1 c2 w h1 h2 => same_true a b c1 c2 (eleL M G) (eleL_len M G) w h1 h2)
  generalize ofL G = A at *
  generalize eleL M G = E at *
  generalize ordS G = S at *
  generalize expS G = X at *
  generalize gck dck G = k1 at *
  generalize ordC G = k2 at *
  generalize gck fck G = k3 at *
  generalize eleC M G = k4 at *
  clear HA hT h h2 hf hf2 hsz hsz2 hG hM hz
  go_enter Tryz.func3, Tryz.ntmps3
  go_wp2_with fail
  refine HF.out.mono ?_
  rintro e w1 ⟨rfl, rfl⟩
  have hk : Below w.heap.size w w := Below.refl _ _
  go_wp2_with fail
  refine HL.out.mono ?_
  rintro e w1 ⟨rfl, rfl⟩
  have hk9 := hk.alloc hk.size (.cells #[.slice b M.length cap2] 22)
  clear hk
  have hk := hk9
  clear hk9
  go_wp2_with fail
  refine (Q1.out _ (H1.out.keep hk) (HT.out.keep hk)).mono ?_
  rintro e w1 ⟨a1, c1, rfl, hz1, hc1⟩
  have hk9 := hk.trans (hc1.mono hk.size)
  have HZ1 := Lib.hid hz1
  clear hk hz1
  have hk := hk9
  clear hk9
  clear hc1
  go_wp2_with fail
  refine (Q2.out _ (H1.out.keep hk)).mono ?_
  rintro e w2 ⟨a2, c2, rfl, hz2, hc2⟩
  have hk9 := hk.trans (hc2.mono hk.size)
  have HZ2 := Lib.hid hz2
  clear hk hz2
  have hk := hk9
  clear hk9
  have HZ1_ := Lib.hid (HZ1.out.keep hc2)
  clear HZ1
  have HZ1 := HZ1_
  clear HZ1_
  clear hc2
  go_wp2_with fail
  refine (Q3.out _ (H1.out.keep hk) (HT.out.keep hk)).mono ?_
  rintro e w3 ⟨rfl, hc3⟩
  have hk9 := hk.trans (hc3.mono hk.size)
  clear hk
  have hk := hk9
  clear hk9
  have HZ1_ := Lib.hid (HZ1.out.keep hc3)
  clear HZ1
  have HZ1 := HZ1_
  clear HZ1_
  have HZ2_ := Lib.hid (HZ2.out.keep hc3)
  clear HZ2
  have HZ2 := HZ2_
  clear HZ2_
  clear hc3
  go_wp2_with fail
  refine (Q4.out _ (H1.out.keep hk) (HT.out.keep hk)).mono ?_
  rintro e w4 ⟨rfl, hc4⟩
  have hk9 := hk.trans (hc4.mono hk.size)
  clear hk
  have hk := hk9
  clear hk9
  have HZ1_ := Lib.hid (HZ1.out.keep hc4)
  clear HZ1
  have HZ1 := HZ1_
  clear HZ1_
  have HZ2_ := Lib.hid (HZ2.out.keep hc4)
  clear HZ2
  have HZ2 := HZ2_
  clear HZ2_
  clear hc4
  go_wp2_with fail
  refine (Q5.out _ (H1.out.keep hk) (HT.out.keep hk)).mono ?_
  rintro e w5 ⟨rfl, hc5⟩
  have hk9 := hk.trans (hc5.mono hk.size)
  clear hk
  have hk := hk9
  clear hk9
  have HZ1_ := Lib.hid (HZ1.out.keep hc5)
  clear HZ1
  have HZ1 := HZ1_
  clear HZ1_
  have HZ2_ := Lib.hid (HZ2.out.keep hc5)
  clear HZ2
  have HZ2 := HZ2_
  clear HZ2_
  clear hc5
  go_wp2_with fail
  refine (Q6.out _ (H1.out.keep hk) (HT.out.keep hk)).mono ?_
  rintro e w6 ⟨rfl, hc6⟩
  have hk9 := hk.trans (hc6.mono hk.size)
  clear hk
  have hk := hk9
  clear hk9
  have HZ1_ := Lib.hid (HZ1.out.keep hc6)
  clear HZ1
  have HZ1 := HZ1_
  clear HZ1_
  have HZ2_ := Lib.hid (HZ2.out.keep hc6)
  clear HZ2
  have HZ2 := HZ2_
  clear HZ2_
  clear hc6
  go_wp2_with fail
  refine (Q7.out _ (H1.out.keep hk) (H2.out.keep hk) (HT.out.keep hk)).mono ?_
  rintro e w7 ⟨a7, c7, rfl, hz7, hc7⟩
  have hk9 := hk.trans (hc7.mono hk.size)
  have HZ7 := Lib.hid hz7
  clear hk hz7
  have hk := hk9
  clear hk9
  have HZ1_ := Lib.hid (HZ1.out.keep hc7)
  clear HZ1
  have HZ1 := HZ1_
  clear HZ1_
  have HZ2_ := Lib.hid (HZ2.out.keep hc7)
  clear HZ2
  have HZ2 := HZ2_
  clear HZ2_
  clear hc7
  go_wp2_with fail
  refine (Q8.out _ (H1.out.keep hk) (H2.out.keep hk) (HT.out.keep hk)).mono ?_
  rintro e w8 ⟨a8, c8, rfl, hz8, hc8⟩
  have hk9 := hk.trans (hc8.mono hk.size)
  have HZ8 := Lib.hid hz8
  clear hk hz8
  have hk := hk9
  clear hk9
  have HZ1_ := Lib.hid (HZ1.out.keep hc8)
  clear HZ1
  have HZ1 := HZ1_
  clear HZ1_
  have HZ2_ := Lib.hid (HZ2.out.keep hc8)
  clear HZ2
  have HZ2 := HZ2_
  clear HZ2_
  have HZ7_ := Lib.hid (HZ7.out.keep hc8)
  clear HZ7
  have HZ7 := HZ7_
  clear HZ7_
  clear hc8
  go_wp2_with fail
  refine (Q9.out _ (H1.out.keep hk) (HT.out.keep hk)).mono ?_
  rintro e w9 ⟨rfl, hc9⟩
  have hk9 := hk.trans (hc9.mono hk.size)
  clear hk
  have hk := hk9
  clear hk9
  have HZ1_ := Lib.hid (HZ1.out.keep hc9)
  clear HZ1
  have HZ1 := HZ1_
  clear HZ1_
  have HZ2_ := Lib.hid (HZ2.out.keep hc9)
  clear HZ2
  have HZ2 := HZ2_
  clear HZ2_
  have HZ7_ := Lib.hid (HZ7.out.keep hc9)
  clear HZ7
  have HZ7 := HZ7_
  clear HZ7_
  have HZ8_ := Lib.hid (HZ8.out.keep hc9)
  clear HZ8
  have HZ8 := HZ8_
  clear HZ8_
  clear hc9
  go_wp2_with fail
  refine (Q0.out _ (H1.out.keep hk)).mono ?_
  rintro e w10 ⟨rfl, hc10⟩
  have hk9 := hk.trans (hc10.mono hk.size)
  clear hk
  have hk := hk9
  clear hk9
  have HZ1_ := Lib.hid (HZ1.out.keep hc10)
  clear HZ1
  have HZ1 := HZ1_
  clear HZ1_
  have HZ2_ := Lib.hid (HZ2.out.keep hc10)
  clear HZ2
  have HZ2 := HZ2_
  clear HZ2_
  have HZ7_ := Lib.hid (HZ7.out.keep hc10)
  clear HZ7
  have HZ7 := HZ7_
  clear HZ7_
  have HZ8_ := Lib.hid (HZ8.out.keep hc10)
  clear HZ8
  have HZ8 := HZ8_
  clear HZ8_
  clear hc10
  go_wp2_with fail
  refine (S1.out _ _ _ _ _ HZ1.out HZ2.out).mono ?_
  rintro e w11 ⟨rfl, hc11⟩
  have hk9 := hk.trans (hc11.mono hk.size)
  clear hk
  have hk := hk9
  clear hk9
  have HZ7_ := Lib.hid (HZ7.out.keep hc11)
  clear HZ7
  have HZ7 := HZ7_
  clear HZ7_
  have HZ8_ := Lib.hid (HZ8.out.keep hc11)
  clear HZ8
  have HZ8 := HZ8_
  clear HZ8_
  clear hc11
  go_wp2_with fail
  refine (S2.out _ _ _ _ _ HZ7.out HZ8.out).mono ?_
  rintro e w12 ⟨rfl, hc12⟩
  have hk9 := hk.trans (hc12.mono hk.size)
  clear hk
  have hk := hk9
  clear hk9
  clear hc12
  go_wp2_with fail
  refine (HAW.out _ (HT.out.keep hk)).mono ?_
  rintro e w13 ⟨rfl, hc13⟩
  have hk9 := hk.trans (hc13.mono hk.size)
  clear hk
  have hk := hk9
  clear hk9
  clear hc13
  go_wp2
  go_ret
  exact ⟨rfl, hk⟩

/-- The law, for all lists. -/
theorem checks_any (HA : Awake) (a b : Option Addr) (cap cap2 : Nat) (G M : List ByteArray) (hG : G.length ≤ 9223372036854775807) (hM : M.length ≤ 9223372036854775807) (hsz : ∀ j, j < G.length → (sat G j).size ≤ 9223372036854775807) (hsz2 : ∀ j, j < M.length → (sat M j).size ≤ 9223372036854775807) (w : World) (h : TsAt w a G) (h2 : TsAt w b M) (hT : Tab w) :
    Calls Tryz.prog 3 #[.slice a G.length cap, .slice b M.length cap2] w (fun e w' => e = .returned (.bool true) ∧ Below w.heap.size w w') := by
  by_cases hf : fewG G = true
  · by_cases hf2 : fewL M = true
    · exact checks_yes HA a b cap cap2 G M hG hM hsz hsz2 hf hf2 w h h2 hT
    · exact checks_no_l HA a b cap cap2 G M hG hM hsz hsz2 hf (by simpa using hf2) w h h2 hT
  · exact checks_no_g HA a b cap cap2 G hG hsz (by simpa using hf) w h hT M

end Go.Proofs.YtnfmcdfdbipeoaaGreatDoor
