/- Abelian groups: sums of elements obey the laws of a commutative group. -/
import Derived.Test.YtnfmcdfdbipeoaaGreatDoorQ35
import Derived.Test.YtnfmcdfdbipeoaaGreatDoorZBc
namespace Go.Proofs.YtnfmcdfdbipeoaaGreatDoor
open Go.RowKit Go.Proofs.Num

set_option maxHeartbeats 3200000 in
set_option maxRecDepth 100000 in
theorem groups_no_r (HA : Awake) (a b d x : Option Addr) (cap c1 c2 c3 : Nat) (G L M N : List ByteArray) (s : ByteArray) (w : World) (HR : Hid (Calls Tryz.prog 43 #[.slice a G.length cap, .slice (some ⟨w.heap.size + 1, 0, none⟩) 3 3] ((w.alloc (.cells #[.slice b L.length c1, .slice d M.length c2, .string s] 51)).alloc (.cells #[.slice b L.length c1, .slice d M.length c2, .slice x N.length c3] 22)) (fun e w' => e = .returned (.bool false) ∧ Below ((w.alloc (.cells #[.slice b L.length c1, .slice d M.length c2, .string s] 51)).alloc (.cells #[.slice b L.length c1, .slice d M.length c2, .slice x N.length c3] 22)).heap.size ((w.alloc (.cells #[.slice b L.length c1, .slice d M.length c2, .string s] 51)).alloc (.cells #[.slice b L.length c1, .slice d M.length c2, .slice x N.length c3] 22)) w'))) (hT : Tab w) :
    Calls Tryz.prog 7 #[.slice a G.length cap, .agg #[.slice b L.length c1, .slice d M.length c2, .string s], .slice x N.length c3] w (fun e w' => e = .returned (.bool true) ∧ Below w.heap.size w w') := by
  obtain ⟨W, hW⟩ : ∃ W, W = (w.alloc (.cells #[.slice b L.length c1, .slice d M.length c2, .string s] 51)) := ⟨_, rfl⟩
  have hrow : W.heap[w.heap.size]? = some (.cells #[.slice b L.length c1, .slice d M.length c2, .string s] 51 (0, 0)) := by rw [hW]; exact heap_alloc_new w _
  have hlt : w.heap.size < W.heap.size := (Array.getElem?_eq_some_iff.1 hrow).1
  have hB0 : Below w.heap.size w W := by rw [hW]; exact (Below.refl _ _).alloc (Nat.le_refl _) _
  have HX : Hid (∀ x, Below W.heap.size W x → x.cell? ⟨w.heap.size, 0, none⟩ = some (.slice b L.length c1) ∧ x.cell? ⟨w.heap.size, 1, none⟩ = some (.slice d M.length c2) ∧ x.cell? ⟨w.heap.size, 2, none⟩ = some (.string s)) := fun x hx =>
    ⟨(hx.cell (p := ⟨w.heap.size, 0, none⟩) hlt).trans (cell_of_row W _ 0 _ 51 (0, 0) hrow), (hx.cell (p := ⟨w.heap.size, 1, none⟩) hlt).trans (cell_of_row W _ 1 _ 51 (0, 0) hrow), (hx.cell (p := ⟨w.heap.size, 2, none⟩) hlt).trans (cell_of_row W _ 2 _ 51 (0, 0) hrow)⟩
  have HR0 : Hid (Calls Tryz.prog 43 #[.slice a G.length cap, .slice (some ⟨w.heap.size + 1, 0, none⟩) 3 3] (W.alloc (.cells #[.slice b L.length c1, .slice d M.length c2, .slice x N.length c3] 22)) (fun e w' => e = .returned (.bool false) ∧ Below (W.alloc (.cells #[.slice b L.length c1, .slice d M.length c2, .slice x N.length c3] 22)).heap.size (W.alloc (.cells #[.slice b L.length c1, .slice d M.length c2, .slice x N.length c3] 22)) w')) := by unfold Hid; rw [hW]; exact HR.out
  have HW := Lib.hid hW
  have HB0 := Lib.hid hB0
  clear HR
  have HT := Lib.hid hT
  have HAW := Lib.hid HA
  clear HA hT hW hrow hlt hB0
  go_enter Tryz.func7, Tryz.ntmps7
  go_wp2_with fail
  rw [← HW.out]
  have hk : Below W.heap.size W (W.alloc (.cells #[.slice b L.length c1, .slice d M.length c2, .slice x N.length c3] 22)) := (Below.refl _ _).alloc (Nat.le_refl _) _
  obtain ⟨x0, x1, x2⟩ := HX.out _ hk
  refine (HR0.out).mono ?_
  rintro e w30 ⟨rfl, hc30⟩
  have hk9 := hk.trans (hc30.mono hk.size)
  clear hk hc30 x0 x1 x2
  have hk := hk9
  clear hk9
  obtain ⟨x0, x1, x2⟩ := HX.out _ hk
  go_wp2_with fail
  refine (HAW.out _ (HT.out.keep (HB0.out.trans (hk.mono HB0.out.size)))).mono ?_
  rintro e w29 ⟨rfl, hc29⟩
  have hk9 := hk.trans (hc29.mono hk.size)
  clear hk hc29 x0 x1 x2
  have hk := hk9
  clear hk9
  obtain ⟨x0, x1, x2⟩ := HX.out _ hk
  clear x0 x1 x2
  go_wp2
  go_ret
  exact ⟨rfl, (HB0.out.trans (hk.mono HB0.out.size))⟩

set_option maxHeartbeats 3200000 in
set_option maxRecDepth 100000 in
theorem groups_no_k (HA : Awake) (a b d x : Option Addr) (cap c1 c2 c3 : Nat) (G L M N : List ByteArray) (s : ByteArray) (w : World) (HR : Hid (Calls Tryz.prog 43 #[.slice a G.length cap, .slice (some ⟨w.heap.size + 1, 0, none⟩) 3 3] ((w.alloc (.cells #[.slice b L.length c1, .slice d M.length c2, .string s] 51)).alloc (.cells #[.slice b L.length c1, .slice d M.length c2, .slice x N.length c3] 22)) (fun e w' => e = .returned (.bool true) ∧ Below ((w.alloc (.cells #[.slice b L.length c1, .slice d M.length c2, .string s] 51)).alloc (.cells #[.slice b L.length c1, .slice d M.length c2, .slice x N.length c3] 22)).heap.size ((w.alloc (.cells #[.slice b L.length c1, .slice d M.length c2, .string s] 51)).alloc (.cells #[.slice b L.length c1, .slice d M.length c2, .slice x N.length c3] 22)) w'))) (hs : 30 < s.size) (hT : Tab w) :
    Calls Tryz.prog 7 #[.slice a G.length cap, .agg #[.slice b L.length c1, .slice d M.length c2, .string s], .slice x N.length c3] w (fun e w' => e = .returned (.bool true) ∧ Below w.heap.size w w') := by
  obtain ⟨W, hW⟩ : ∃ W, W = (w.alloc (.cells #[.slice b L.length c1, .slice d M.length c2, .string s] 51)) := ⟨_, rfl⟩
  have hrow : W.heap[w.heap.size]? = some (.cells #[.slice b L.length c1, .slice d M.length c2, .string s] 51 (0, 0)) := by rw [hW]; exact heap_alloc_new w _
  have hlt : w.heap.size < W.heap.size := (Array.getElem?_eq_some_iff.1 hrow).1
  have hB0 : Below w.heap.size w W := by rw [hW]; exact (Below.refl _ _).alloc (Nat.le_refl _) _
  have HX : Hid (∀ x, Below W.heap.size W x → x.cell? ⟨w.heap.size, 0, none⟩ = some (.slice b L.length c1) ∧ x.cell? ⟨w.heap.size, 1, none⟩ = some (.slice d M.length c2) ∧ x.cell? ⟨w.heap.size, 2, none⟩ = some (.string s)) := fun x hx =>
    ⟨(hx.cell (p := ⟨w.heap.size, 0, none⟩) hlt).trans (cell_of_row W _ 0 _ 51 (0, 0) hrow), (hx.cell (p := ⟨w.heap.size, 1, none⟩) hlt).trans (cell_of_row W _ 1 _ 51 (0, 0) hrow), (hx.cell (p := ⟨w.heap.size, 2, none⟩) hlt).trans (cell_of_row W _ 2 _ 51 (0, 0) hrow)⟩
  have HR0 : Hid (Calls Tryz.prog 43 #[.slice a G.length cap, .slice (some ⟨w.heap.size + 1, 0, none⟩) 3 3] (W.alloc (.cells #[.slice b L.length c1, .slice d M.length c2, .slice x N.length c3] 22)) (fun e w' => e = .returned (.bool true) ∧ Below (W.alloc (.cells #[.slice b L.length c1, .slice d M.length c2, .slice x N.length c3] 22)).heap.size (W.alloc (.cells #[.slice b L.length c1, .slice d M.length c2, .slice x N.length c3] 22)) w')) := by unfold Hid; rw [hW]; exact HR.out
  have HW := Lib.hid hW
  have HB0 := Lib.hid hB0
  clear HR
  have HT := Lib.hid hT
  have HAW := Lib.hid HA
  have hs1 : decide ((30 : Int) < ((s.size : Nat) : Int)) = true := decide_eq_true (by omega)
  clear HA hT hW hrow hlt hB0 hs
  go_enter Tryz.func7, Tryz.ntmps7
  go_wp2_with fail
  rw [← HW.out]
  have hk : Below W.heap.size W (W.alloc (.cells #[.slice b L.length c1, .slice d M.length c2, .slice x N.length c3] 22)) := (Below.refl _ _).alloc (Nat.le_refl _) _
  obtain ⟨x0, x1, x2⟩ := HX.out _ hk
  refine (HR0.out).mono ?_
  rintro e w30 ⟨rfl, hc30⟩
  have hk9 := hk.trans (hc30.mono hk.size)
  clear hk hc30 x0 x1 x2
  have hk := hk9
  clear hk9
  obtain ⟨x0, x1, x2⟩ := HX.out _ hk
  go_wp2_with fail
  refine (HAW.out _ (HT.out.keep (HB0.out.trans (hk.mono HB0.out.size)))).mono ?_
  rintro e w29 ⟨rfl, hc29⟩
  have hk9 := hk.trans (hc29.mono hk.size)
  clear hk hc29 x0 x1 x2
  have hk := hk9
  clear hk9
  obtain ⟨x0, x1, x2⟩ := HX.out _ hk
  clear x0 x1 x2
  go_wp2
  go_ret
  exact ⟨rfl, (HB0.out.trans (hk.mono HB0.out.size))⟩

set_option maxHeartbeats 3200000 in
set_option maxRecDepth 100000 in
theorem groups_no_c (HA : Awake) (a b d x : Option Addr) (cap c1 c2 c3 : Nat) (G L M N : List ByteArray) (s : ByteArray) (w : World) (HR : Hid (Calls Tryz.prog 43 #[.slice a G.length cap, .slice (some ⟨w.heap.size + 1, 0, none⟩) 3 3] ((w.alloc (.cells #[.slice b L.length c1, .slice d M.length c2, .string s] 51)).alloc (.cells #[.slice b L.length c1, .slice d M.length c2, .slice x N.length c3] 22)) (fun e w' => e = .returned (.bool true) ∧ Below ((w.alloc (.cells #[.slice b L.length c1, .slice d M.length c2, .string s] 51)).alloc (.cells #[.slice b L.length c1, .slice d M.length c2, .slice x N.length c3] 22)).heap.size ((w.alloc (.cells #[.slice b L.length c1, .slice d M.length c2, .string s] 51)).alloc (.cells #[.slice b L.length c1, .slice d M.length c2, .slice x N.length c3] 22)) w'))) (hs : s.size ≤ 30) (k : Nat) (hk' : k ≠ 0) (HK : Hid (∀ w, Calls Tryz.prog 44 #[.string s] w (fun e w' => e = .returned (.int .i64 ((k : Nat) : Int)) ∧ Below w.heap.size w w'))) (hT : Tab w) :
    Calls Tryz.prog 7 #[.slice a G.length cap, .agg #[.slice b L.length c1, .slice d M.length c2, .string s], .slice x N.length c3] w (fun e w' => e = .returned (.bool true) ∧ Below w.heap.size w w') := by
  obtain ⟨W, hW⟩ : ∃ W, W = (w.alloc (.cells #[.slice b L.length c1, .slice d M.length c2, .string s] 51)) := ⟨_, rfl⟩
  have hrow : W.heap[w.heap.size]? = some (.cells #[.slice b L.length c1, .slice d M.length c2, .string s] 51 (0, 0)) := by rw [hW]; exact heap_alloc_new w _
  have hlt : w.heap.size < W.heap.size := (Array.getElem?_eq_some_iff.1 hrow).1
  have hB0 : Below w.heap.size w W := by rw [hW]; exact (Below.refl _ _).alloc (Nat.le_refl _) _
  have HX : Hid (∀ x, Below W.heap.size W x → x.cell? ⟨w.heap.size, 0, none⟩ = some (.slice b L.length c1) ∧ x.cell? ⟨w.heap.size, 1, none⟩ = some (.slice d M.length c2) ∧ x.cell? ⟨w.heap.size, 2, none⟩ = some (.string s)) := fun x hx =>
    ⟨(hx.cell (p := ⟨w.heap.size, 0, none⟩) hlt).trans (cell_of_row W _ 0 _ 51 (0, 0) hrow), (hx.cell (p := ⟨w.heap.size, 1, none⟩) hlt).trans (cell_of_row W _ 1 _ 51 (0, 0) hrow), (hx.cell (p := ⟨w.heap.size, 2, none⟩) hlt).trans (cell_of_row W _ 2 _ 51 (0, 0) hrow)⟩
  have HR0 : Hid (Calls Tryz.prog 43 #[.slice a G.length cap, .slice (some ⟨w.heap.size + 1, 0, none⟩) 3 3] (W.alloc (.cells #[.slice b L.length c1, .slice d M.length c2, .slice x N.length c3] 22)) (fun e w' => e = .returned (.bool true) ∧ Below (W.alloc (.cells #[.slice b L.length c1, .slice d M.length c2, .slice x N.length c3] 22)).heap.size (W.alloc (.cells #[.slice b L.length c1, .slice d M.length c2, .slice x N.length c3] 22)) w')) := by unfold Hid; rw [hW]; exact HR.out
  have HW := Lib.hid hW
  have HB0 := Lib.hid hB0
  clear HR
  have HT := Lib.hid hT
  have HAW := Lib.hid HA
  have hs1 : decide ((30 : Int) < ((s.size : Nat) : Int)) = false := decide_eq_false (by omega)
  have hk0 : ¬ ((k : Nat) : Int) = 0 := by omega
  have hk1 : (((k : Nat) : Int) != 0) = true := by simp; omega
  clear hk'
  clear HA hT hW hrow hlt hB0 hs
  go_enter Tryz.func7, Tryz.ntmps7
  go_wp2_with fail
  rw [← HW.out]
  have hk : Below W.heap.size W (W.alloc (.cells #[.slice b L.length c1, .slice d M.length c2, .slice x N.length c3] 22)) := (Below.refl _ _).alloc (Nat.le_refl _) _
  obtain ⟨x0, x1, x2⟩ := HX.out _ hk
  refine (HR0.out).mono ?_
  rintro e w30 ⟨rfl, hc30⟩
  have hk9 := hk.trans (hc30.mono hk.size)
  clear hk hc30 x0 x1 x2
  have hk := hk9
  clear hk9
  obtain ⟨x0, x1, x2⟩ := HX.out _ hk
  go_wp2_with fail
  refine (HK.out _).mono ?_
  rintro e w28 ⟨rfl, hc28⟩
  have hk9 := hk.trans (hc28.mono hk.size)
  clear hk hc28 x0 x1 x2
  have hk := hk9
  clear hk9
  obtain ⟨x0, x1, x2⟩ := HX.out _ hk
  go_wp2_with fail
  refine (HAW.out _ (HT.out.keep (HB0.out.trans (hk.mono HB0.out.size)))).mono ?_
  rintro e w29 ⟨rfl, hc29⟩
  have hk9 := hk.trans (hc29.mono hk.size)
  clear hk hc29 x0 x1 x2
  have hk := hk9
  clear hk9
  obtain ⟨x0, x1, x2⟩ := HX.out _ hk
  clear x0 x1 x2
  go_wp2
  go_ret
  exact ⟨rfl, (HB0.out.trans (hk.mono HB0.out.size))⟩

set_option maxHeartbeats 12800000 in
set_option maxRecDepth 100000 in
theorem groups_yes (HA : Awake) (a b d x : Option Addr) (cap c1 c2 c3 : Nat) (G L M N : List ByteArray) (s : ByteArray) (w : World) (HR : Hid (Calls Tryz.prog 43 #[.slice a G.length cap, .slice (some ⟨w.heap.size + 1, 0, none⟩) 3 3] ((w.alloc (.cells #[.slice b L.length c1, .slice d M.length c2, .string s] 51)).alloc (.cells #[.slice b L.length c1, .slice d M.length c2, .slice x N.length c3] 22)) (fun e w' => e = .returned (.bool true) ∧ Below ((w.alloc (.cells #[.slice b L.length c1, .slice d M.length c2, .string s] 51)).alloc (.cells #[.slice b L.length c1, .slice d M.length c2, .slice x N.length c3] 22)).heap.size ((w.alloc (.cells #[.slice b L.length c1, .slice d M.length c2, .string s] 51)).alloc (.cells #[.slice b L.length c1, .slice d M.length c2, .slice x N.length c3] 22)) w'))) (hs : s.size ≤ 30) (HK : Hid (∀ w, Calls Tryz.prog 44 #[.string s] w (fun e w' => e = .returned (.int .i64 0) ∧ Below w.heap.size w w'))) (S U V K1 PP AA BB : List ByteArray)
    (Q1 : Hid (∀ (w : World) (b d : Option Addr) (c1 c2 : Nat), TsAt w a G → TsAt w b L → TsAt w d M → Tab w → Calls Tryz.prog 32 #[.slice a G.length cap, .slice b L.length c1, .slice d M.length c2] w (GivesTs w S 0)))
    (Q2 : Hid (∀ (w : World) (b d : Option Addr) (c1 c2 : Nat), TsAt w a G → TsAt w b M → TsAt w d L → Tab w → Calls Tryz.prog 32 #[.slice a G.length cap, .slice b M.length c1, .slice d L.length c2] w (GivesTs w S 0)))
    (Q3 : Hid (∀ (w : World) (b d : Option Addr) (c1 c2 : Nat), TsAt w a G → TsAt w b S → TsAt w d N → Tab w → Calls Tryz.prog 32 #[.slice a G.length cap, .slice b S.length c1, .slice d N.length c2] w (GivesTs w U 0)))
    (Q4 : Hid (∀ (w : World) (b d : Option Addr) (c1 c2 : Nat), TsAt w a G → TsAt w b M → TsAt w d N → Tab w → Calls Tryz.prog 32 #[.slice a G.length cap, .slice b M.length c1, .slice d N.length c2] w (GivesTs w V 0)))
    (Q5 : Hid (∀ (w : World) (b d : Option Addr) (c1 c2 : Nat), TsAt w a G → TsAt w b L → TsAt w d V → Tab w → Calls Tryz.prog 32 #[.slice a G.length cap, .slice b L.length c1, .slice d V.length c2] w (GivesTs w U 0)))
    (Q6 : Hid (∀ (w : World) (b : Option Addr) (c1 : Nat), TsAt w a G → TsAt w b L → Tab w → Calls Tryz.prog 34 #[.slice a G.length cap, .slice b L.length c1] w (GivesTs w K1 0)))
    (Q7 : Hid (∀ (w : World) (b d : Option Addr) (c1 c2 : Nat), TsAt w a G → TsAt w b S → TsAt w d K1 → Tab w → Calls Tryz.prog 32 #[.slice a G.length cap, .slice b S.length c1, .slice d K1.length c2] w (GivesTs w M 0)))
    (Q8 : Hid (∀ (w : World) (b : Option Addr) (c1 : Nat), TsAt w a G → TsAt w b S → Tab w → Calls Tryz.prog 36 #[.slice a G.length cap, .string s, .slice b S.length c1] w (GivesTs w PP 0)))
    (Q9 : Hid (∀ (w : World) (b : Option Addr) (c1 : Nat), TsAt w a G → TsAt w b L → Tab w → Calls Tryz.prog 36 #[.slice a G.length cap, .string s, .slice b L.length c1] w (GivesTs w AA 0)))
    (Q10 : Hid (∀ (w : World) (b : Option Addr) (c1 : Nat), TsAt w a G → TsAt w b M → Tab w → Calls Tryz.prog 36 #[.slice a G.length cap, .string s, .slice b M.length c1] w (GivesTs w BB 0)))
    (Q11 : Hid (∀ (w : World) (b d : Option Addr) (c1 c2 : Nat), TsAt w a G → TsAt w b AA → TsAt w d BB → Tab w → Calls Tryz.prog 32 #[.slice a G.length cap, .slice b AA.length c1, .slice d BB.length c2] w (GivesTs w PP 0)))
    (E1 : Hid (∀ (a b : Option Addr) (c1 c2 : Nat) (w : World), TsAt w a S → TsAt w b S → Calls Tryz.prog 45 #[.slice a S.length c1, .slice b S.length c2] w (fun e w' => e = .returned (.bool true) ∧ Below w.heap.size w w')))
    (E2 : Hid (∀ (a b : Option Addr) (c1 c2 : Nat) (w : World), TsAt w a U → TsAt w b U → Calls Tryz.prog 45 #[.slice a U.length c1, .slice b U.length c2] w (fun e w' => e = .returned (.bool true) ∧ Below w.heap.size w w')))
    (E3 : Hid (∀ (a b : Option Addr) (c1 c2 : Nat) (w : World), TsAt w a M → TsAt w b M → Calls Tryz.prog 45 #[.slice a M.length c1, .slice b M.length c2] w (fun e w' => e = .returned (.bool true) ∧ Below w.heap.size w w')))
    (E4 : Hid (∀ (a b : Option Addr) (c1 c2 : Nat) (w : World), TsAt w a PP → TsAt w b PP → Calls Tryz.prog 45 #[.slice a PP.length c1, .slice b PP.length c2] w (fun e w' => e = .returned (.bool true) ∧ Below w.heap.size w w'))) (h : TsAt w a G) (h2 : TsAt w b L) (h3 : TsAt w d M) (h4 : TsAt w x N) (hT : Tab w) :
    Calls Tryz.prog 7 #[.slice a G.length cap, .agg #[.slice b L.length c1, .slice d M.length c2, .string s], .slice x N.length c3] w (fun e w' => e = .returned (.bool true) ∧ Below w.heap.size w w') := by
  obtain ⟨W, hW⟩ : ∃ W, W = (w.alloc (.cells #[.slice b L.length c1, .slice d M.length c2, .string s] 51)) := ⟨_, rfl⟩
  have hrow : W.heap[w.heap.size]? = some (.cells #[.slice b L.length c1, .slice d M.length c2, .string s] 51 (0, 0)) := by rw [hW]; exact heap_alloc_new w _
  have hlt : w.heap.size < W.heap.size := (Array.getElem?_eq_some_iff.1 hrow).1
  have hB0 : Below w.heap.size w W := by rw [hW]; exact (Below.refl _ _).alloc (Nat.le_refl _) _
  have HX : Hid (∀ x, Below W.heap.size W x → x.cell? ⟨w.heap.size, 0, none⟩ = some (.slice b L.length c1) ∧ x.cell? ⟨w.heap.size, 1, none⟩ = some (.slice d M.length c2) ∧ x.cell? ⟨w.heap.size, 2, none⟩ = some (.string s)) := fun x hx =>
    ⟨(hx.cell (p := ⟨w.heap.size, 0, none⟩) hlt).trans (cell_of_row W _ 0 _ 51 (0, 0) hrow), (hx.cell (p := ⟨w.heap.size, 1, none⟩) hlt).trans (cell_of_row W _ 1 _ 51 (0, 0) hrow), (hx.cell (p := ⟨w.heap.size, 2, none⟩) hlt).trans (cell_of_row W _ 2 _ 51 (0, 0) hrow)⟩
  have HR0 : Hid (Calls Tryz.prog 43 #[.slice a G.length cap, .slice (some ⟨w.heap.size + 1, 0, none⟩) 3 3] (W.alloc (.cells #[.slice b L.length c1, .slice d M.length c2, .slice x N.length c3] 22)) (fun e w' => e = .returned (.bool true) ∧ Below (W.alloc (.cells #[.slice b L.length c1, .slice d M.length c2, .slice x N.length c3] 22)).heap.size (W.alloc (.cells #[.slice b L.length c1, .slice d M.length c2, .slice x N.length c3] 22)) w')) := by unfold Hid; rw [hW]; exact HR.out
  have HW := Lib.hid hW
  have HB0 := Lib.hid hB0
  clear HR
  have HT := Lib.hid hT
  have HAW := Lib.hid HA
  have hs1 : decide ((30 : Int) < ((s.size : Nat) : Int)) = false := decide_eq_false (by omega)
  have H1 := Lib.hid h
  have H2 := Lib.hid h2
  have H3 := Lib.hid h3
  have H4 := Lib.hid h4
  clear HA hT hW hrow hlt hB0 hs h h2 h3 h4
  go_enter Tryz.func7, Tryz.ntmps7
  go_wp2_with fail
  rw [← HW.out]
  have hk : Below W.heap.size W (W.alloc (.cells #[.slice b L.length c1, .slice d M.length c2, .slice x N.length c3] 22)) := (Below.refl _ _).alloc (Nat.le_refl _) _
  obtain ⟨x0, x1, x2⟩ := HX.out _ hk
  refine (HR0.out).mono ?_
  rintro e w30 ⟨rfl, hc30⟩
  have hk9 := hk.trans (hc30.mono hk.size)
  clear hk hc30 x0 x1 x2
  have hk := hk9
  clear hk9
  obtain ⟨x0, x1, x2⟩ := HX.out _ hk
  go_wp2_with fail
  refine (HK.out _).mono ?_
  rintro e w28 ⟨rfl, hc28⟩
  have hk9 := hk.trans (hc28.mono hk.size)
  clear hk hc28 x0 x1 x2
  have hk := hk9
  clear hk9
  obtain ⟨x0, x1, x2⟩ := HX.out _ hk
  go_wp2_with fail
  refine (Q1.out _ _ _ _ _ (H1.out.keep (HB0.out.trans (hk.mono HB0.out.size))) (H2.out.keep (HB0.out.trans (hk.mono HB0.out.size))) (H3.out.keep (HB0.out.trans (hk.mono HB0.out.size))) (HT.out.keep (HB0.out.trans (hk.mono HB0.out.size)))).mono ?_
  rintro e w1 ⟨a1, q1, rfl, hz1, hc1⟩
  have hk9 := hk.trans (hc1.mono hk.size)
  clear hk hc1 x0 x1 x2
  have hk := hk9
  clear hk9
  obtain ⟨x0, x1, x2⟩ := HX.out _ hk
  have HZ1 := Lib.hid hz1
  clear hz1
  go_wp2_with fail
  refine (Q2.out _ _ _ _ _ (H1.out.keep (HB0.out.trans (hk.mono HB0.out.size))) (H3.out.keep (HB0.out.trans (hk.mono HB0.out.size))) (H2.out.keep (HB0.out.trans (hk.mono HB0.out.size))) (HT.out.keep (HB0.out.trans (hk.mono HB0.out.size)))).mono ?_
  rintro e w2 ⟨a2, q2, rfl, hz2, hc2⟩
  have hk9 := hk.trans (hc2.mono hk.size)
  have HZ1_ := Lib.hid (HZ1.out.keep hc2)
  clear HZ1
  have HZ1 := HZ1_
  clear HZ1_
  clear hk hc2 x0 x1 x2
  have hk := hk9
  clear hk9
  obtain ⟨x0, x1, x2⟩ := HX.out _ hk
  have HZ2 := Lib.hid hz2
  clear hz2
  go_wp2_with fail
  refine (Q3.out _ _ _ _ _ (H1.out.keep (HB0.out.trans (hk.mono HB0.out.size))) HZ1.out (H4.out.keep (HB0.out.trans (hk.mono HB0.out.size))) (HT.out.keep (HB0.out.trans (hk.mono HB0.out.size)))).mono ?_
  rintro e w3 ⟨a3, q3, rfl, hz3, hc3⟩
  have hk9 := hk.trans (hc3.mono hk.size)
  have HZ1_ := Lib.hid (HZ1.out.keep hc3)
  clear HZ1
  have HZ1 := HZ1_
  clear HZ1_
  have HZ2_ := Lib.hid (HZ2.out.keep hc3)
  clear HZ2
  have HZ2 := HZ2_
  clear HZ2_
  clear hk hc3 x0 x1 x2
  have hk := hk9
  clear hk9
  obtain ⟨x0, x1, x2⟩ := HX.out _ hk
  have HZ3 := Lib.hid hz3
  clear hz3
  go_wp2_with fail
  refine (Q4.out _ _ _ _ _ (H1.out.keep (HB0.out.trans (hk.mono HB0.out.size))) (H3.out.keep (HB0.out.trans (hk.mono HB0.out.size))) (H4.out.keep (HB0.out.trans (hk.mono HB0.out.size))) (HT.out.keep (HB0.out.trans (hk.mono HB0.out.size)))).mono ?_
  rintro e w4 ⟨a4, q4, rfl, hz4, hc4⟩
  have hk9 := hk.trans (hc4.mono hk.size)
  have HZ1_ := Lib.hid (HZ1.out.keep hc4)
  clear HZ1
  have HZ1 := HZ1_
  clear HZ1_
  have HZ2_ := Lib.hid (HZ2.out.keep hc4)
  clear HZ2
  have HZ2 := HZ2_
  clear HZ2_
  have HZ3_ := Lib.hid (HZ3.out.keep hc4)
  clear HZ3
  have HZ3 := HZ3_
  clear HZ3_
  clear hk hc4 x0 x1 x2
  have hk := hk9
  clear hk9
  obtain ⟨x0, x1, x2⟩ := HX.out _ hk
  have HZ4 := Lib.hid hz4
  clear hz4
  go_wp2_with fail
  refine (Q5.out _ _ _ _ _ (H1.out.keep (HB0.out.trans (hk.mono HB0.out.size))) (H2.out.keep (HB0.out.trans (hk.mono HB0.out.size))) HZ4.out (HT.out.keep (HB0.out.trans (hk.mono HB0.out.size)))).mono ?_
  rintro e w5 ⟨a5, q5, rfl, hz5, hc5⟩
  have hk9 := hk.trans (hc5.mono hk.size)
  have HZ1_ := Lib.hid (HZ1.out.keep hc5)
  clear HZ1
  have HZ1 := HZ1_
  clear HZ1_
  have HZ2_ := Lib.hid (HZ2.out.keep hc5)
  clear HZ2
  have HZ2 := HZ2_
  clear HZ2_
  have HZ3_ := Lib.hid (HZ3.out.keep hc5)
  clear HZ3
  have HZ3 := HZ3_
  clear HZ3_
  clear hk hc5 x0 x1 x2
  have hk := hk9
  clear hk9
  obtain ⟨x0, x1, x2⟩ := HX.out _ hk
  have HZ5 := Lib.hid hz5
  clear hz5
  go_wp2_with fail
  refine (Q6.out _ _ _ (H1.out.keep (HB0.out.trans (hk.mono HB0.out.size))) (H2.out.keep (HB0.out.trans (hk.mono HB0.out.size))) (HT.out.keep (HB0.out.trans (hk.mono HB0.out.size)))).mono ?_
  rintro e w6 ⟨a6, q6, rfl, hz6, hc6⟩
  have hk9 := hk.trans (hc6.mono hk.size)
  have HZ1_ := Lib.hid (HZ1.out.keep hc6)
  clear HZ1
  have HZ1 := HZ1_
  clear HZ1_
  have HZ2_ := Lib.hid (HZ2.out.keep hc6)
  clear HZ2
  have HZ2 := HZ2_
  clear HZ2_
  have HZ3_ := Lib.hid (HZ3.out.keep hc6)
  clear HZ3
  have HZ3 := HZ3_
  clear HZ3_
  have HZ5_ := Lib.hid (HZ5.out.keep hc6)
  clear HZ5
  have HZ5 := HZ5_
  clear HZ5_
  clear hk hc6 x0 x1 x2
  have hk := hk9
  clear hk9
  obtain ⟨x0, x1, x2⟩ := HX.out _ hk
  have HZ6 := Lib.hid hz6
  clear hz6
  go_wp2_with fail
  refine (Q7.out _ _ _ _ _ (H1.out.keep (HB0.out.trans (hk.mono HB0.out.size))) HZ1.out HZ6.out (HT.out.keep (HB0.out.trans (hk.mono HB0.out.size)))).mono ?_
  rintro e w7 ⟨a7, q7, rfl, hz7, hc7⟩
  have hk9 := hk.trans (hc7.mono hk.size)
  have HZ1_ := Lib.hid (HZ1.out.keep hc7)
  clear HZ1
  have HZ1 := HZ1_
  clear HZ1_
  have HZ2_ := Lib.hid (HZ2.out.keep hc7)
  clear HZ2
  have HZ2 := HZ2_
  clear HZ2_
  have HZ3_ := Lib.hid (HZ3.out.keep hc7)
  clear HZ3
  have HZ3 := HZ3_
  clear HZ3_
  have HZ5_ := Lib.hid (HZ5.out.keep hc7)
  clear HZ5
  have HZ5 := HZ5_
  clear HZ5_
  clear hk hc7 x0 x1 x2
  have hk := hk9
  clear hk9
  obtain ⟨x0, x1, x2⟩ := HX.out _ hk
  have HZ7 := Lib.hid hz7
  clear hz7
  go_wp2_with fail
  refine (E1.out _ _ _ _ _ HZ1.out HZ2.out).mono ?_
  rintro e w12 ⟨rfl, hc12⟩
  have hk9 := hk.trans (hc12.mono hk.size)
  have HZ1_ := Lib.hid (HZ1.out.keep hc12)
  clear HZ1
  have HZ1 := HZ1_
  clear HZ1_
  have HZ3_ := Lib.hid (HZ3.out.keep hc12)
  clear HZ3
  have HZ3 := HZ3_
  clear HZ3_
  have HZ5_ := Lib.hid (HZ5.out.keep hc12)
  clear HZ5
  have HZ5 := HZ5_
  clear HZ5_
  have HZ7_ := Lib.hid (HZ7.out.keep hc12)
  clear HZ7
  have HZ7 := HZ7_
  clear HZ7_
  clear hk hc12 x0 x1 x2
  have hk := hk9
  clear hk9
  obtain ⟨x0, x1, x2⟩ := HX.out _ hk
  go_wp2_with fail
  refine (E2.out _ _ _ _ _ HZ3.out HZ5.out).mono ?_
  rintro e w13 ⟨rfl, hc13⟩
  have hk9 := hk.trans (hc13.mono hk.size)
  have HZ1_ := Lib.hid (HZ1.out.keep hc13)
  clear HZ1
  have HZ1 := HZ1_
  clear HZ1_
  have HZ7_ := Lib.hid (HZ7.out.keep hc13)
  clear HZ7
  have HZ7 := HZ7_
  clear HZ7_
  clear hk hc13 x0 x1 x2
  have hk := hk9
  clear hk9
  obtain ⟨x0, x1, x2⟩ := HX.out _ hk
  go_wp2_with fail
  refine (E3.out _ _ _ _ _ HZ7.out (H3.out.keep (HB0.out.trans (hk.mono HB0.out.size)))).mono ?_
  rintro e w14 ⟨rfl, hc14⟩
  have hk9 := hk.trans (hc14.mono hk.size)
  have HZ1_ := Lib.hid (HZ1.out.keep hc14)
  clear HZ1
  have HZ1 := HZ1_
  clear HZ1_
  clear hk hc14 x0 x1 x2
  have hk := hk9
  clear hk9
  obtain ⟨x0, x1, x2⟩ := HX.out _ hk
  go_wp2_with fail
  refine (Q8.out _ _ _ (H1.out.keep (HB0.out.trans (hk.mono HB0.out.size))) HZ1.out (HT.out.keep (HB0.out.trans (hk.mono HB0.out.size)))).mono ?_
  rintro e w8 ⟨a8, q8, rfl, hz8, hc8⟩
  have hk9 := hk.trans (hc8.mono hk.size)
  clear hk hc8 x0 x1 x2
  have hk := hk9
  clear hk9
  obtain ⟨x0, x1, x2⟩ := HX.out _ hk
  have HZ8 := Lib.hid hz8
  clear hz8
  go_wp2_with fail
  refine (Q9.out _ _ _ (H1.out.keep (HB0.out.trans (hk.mono HB0.out.size))) (H2.out.keep (HB0.out.trans (hk.mono HB0.out.size))) (HT.out.keep (HB0.out.trans (hk.mono HB0.out.size)))).mono ?_
  rintro e w9 ⟨a9, q9, rfl, hz9, hc9⟩
  have hk9 := hk.trans (hc9.mono hk.size)
  have HZ8_ := Lib.hid (HZ8.out.keep hc9)
  clear HZ8
  have HZ8 := HZ8_
  clear HZ8_
  clear hk hc9 x0 x1 x2
  have hk := hk9
  clear hk9
  obtain ⟨x0, x1, x2⟩ := HX.out _ hk
  have HZ9 := Lib.hid hz9
  clear hz9
  go_wp2_with fail
  refine (Q10.out _ _ _ (H1.out.keep (HB0.out.trans (hk.mono HB0.out.size))) (H3.out.keep (HB0.out.trans (hk.mono HB0.out.size))) (HT.out.keep (HB0.out.trans (hk.mono HB0.out.size)))).mono ?_
  rintro e w10 ⟨a10, q10, rfl, hz10, hc10⟩
  have hk9 := hk.trans (hc10.mono hk.size)
  have HZ8_ := Lib.hid (HZ8.out.keep hc10)
  clear HZ8
  have HZ8 := HZ8_
  clear HZ8_
  have HZ9_ := Lib.hid (HZ9.out.keep hc10)
  clear HZ9
  have HZ9 := HZ9_
  clear HZ9_
  clear hk hc10 x0 x1 x2
  have hk := hk9
  clear hk9
  obtain ⟨x0, x1, x2⟩ := HX.out _ hk
  have HZ10 := Lib.hid hz10
  clear hz10
  go_wp2_with fail
  refine (Q11.out _ _ _ _ _ (H1.out.keep (HB0.out.trans (hk.mono HB0.out.size))) HZ9.out HZ10.out (HT.out.keep (HB0.out.trans (hk.mono HB0.out.size)))).mono ?_
  rintro e w11 ⟨a11, q11, rfl, hz11, hc11⟩
  have hk9 := hk.trans (hc11.mono hk.size)
  have HZ8_ := Lib.hid (HZ8.out.keep hc11)
  clear HZ8
  have HZ8 := HZ8_
  clear HZ8_
  clear hk hc11 x0 x1 x2
  have hk := hk9
  clear hk9
  obtain ⟨x0, x1, x2⟩ := HX.out _ hk
  have HZ11 := Lib.hid hz11
  clear hz11
  go_wp2_with fail
  refine (E4.out _ _ _ _ _ HZ8.out HZ11.out).mono ?_
  rintro e w15 ⟨rfl, hc15⟩
  have hk9 := hk.trans (hc15.mono hk.size)
  clear hk hc15 x0 x1 x2
  have hk := hk9
  clear hk9
  obtain ⟨x0, x1, x2⟩ := HX.out _ hk
  go_wp2_with fail
  refine (HAW.out _ (HT.out.keep (HB0.out.trans (hk.mono HB0.out.size)))).mono ?_
  rintro e w29 ⟨rfl, hc29⟩
  have hk9 := hk.trans (hc29.mono hk.size)
  clear hk hc29 x0 x1 x2
  have hk := hk9
  clear hk9
  obtain ⟨x0, x1, x2⟩ := HX.out _ hk
  clear x0 x1 x2
  go_wp2
  go_ret
  exact ⟨rfl, (HB0.out.trans (hk.mono HB0.out.size))⟩

set_option maxHeartbeats 1600000 in
/-- The law, for all groups, elements and factors. -/
theorem groups_any (HA : Awake) (a b d x : Option Addr) (cap c1 c2 c3 : Nat) (G L M N : List ByteArray) (s : ByteArray) (hG : G.length ≤ 9223372036854775807) (hsz : ∀ j, j < G.length → (sat G j).size ≤ 9223372036854775807) (hsz2 : ∀ j, j < L.length → (sat L j).size ≤ 9223372036854775807) (hsz3 : ∀ j, j < M.length → (sat M j).size ≤ 9223372036854775807) (hsz4 : ∀ j, j < N.length → (sat N j).size ≤ 9223372036854775807) (hs : s.size ≤ 9223372036854775807) (w : World) (h : TsAt w a G) (h2 : TsAt w b L) (h3 : TsAt w d M) (h4 : TsAt w x N) (hT : Tab w) :
    Calls Tryz.prog 7 #[.slice a G.length cap, .agg #[.slice b L.length c1, .slice d M.length c2, .string s], .slice x N.length c3] w (fun e w' => e = .returned (.bool true) ∧ Below w.heap.size w w') := by
  obtain ⟨Q, hQ⟩ : ∃ Q : Bool, Q = decide (fewG G = true ∧ gck fck G = 0 ∧ inC L G = 0 ∧ inC M G = 0 ∧ inC N G = 0) := ⟨_, rfl⟩
  have HR : Hid (Calls Tryz.prog 43 #[.slice a G.length cap, .slice (some ⟨w.heap.size + 1, 0, none⟩) 3 3] ((w.alloc (.cells #[.slice b L.length c1, .slice d M.length c2, .string s] 51)).alloc (.cells #[.slice b L.length c1, .slice d M.length c2, .slice x N.length c3] 22)) (fun e w' => e = .returned (.bool Q) ∧ Below ((w.alloc (.cells #[.slice b L.length c1, .slice d M.length c2, .string s] 51)).alloc (.cells #[.slice b L.length c1, .slice d M.length c2, .slice x N.length c3] 22)).heap.size ((w.alloc (.cells #[.slice b L.length c1, .slice d M.length c2, .string s] 51)).alloc (.cells #[.slice b L.length c1, .slice d M.length c2, .slice x N.length c3] 22)) w')) := by
    unfold Hid
    have hb : Below w.heap.size w (w.alloc (.cells #[.slice b L.length c1, .slice d M.length c2, .string s] 51)) := (Below.refl _ _).alloc (Nat.le_refl _) _
    have hz : (w.alloc (.cells #[.slice b L.length c1, .slice d M.length c2, .string s] 51)).heap.size = w.heap.size + 1 := by rw [World.size_alloc]
    rw [← hz]
    generalize (w.alloc (.cells #[.slice b L.length c1, .slice d M.length c2, .string s] 51)) = W at *
    have hb2 : Below w.heap.size w (W.alloc (.cells #[.slice b L.length c1, .slice d M.length c2, .slice x N.length c3] 22)) := hb.alloc hb.size _
    have hcell : ∀ j v, (#[.slice b L.length c1, .slice d M.length c2, .slice x N.length c3] : Array Value)[j]? = some v → (W.alloc (.cells #[.slice b L.length c1, .slice d M.length c2, .slice x N.length c3] 22)).cell? ⟨W.heap.size, j, none⟩ = some v := by
      intro j v hv
      rw [cell_of_row _ _ j _ 22 (0, 0) (heap_alloc_new _ _), ← hv]
    refine right_any a (some ⟨W.heap.size, 0, none⟩) cap 3 3 (by omega) G (fun i => if i = 0 then L else if i = 1 then M else N) (fun i => if i = 0 then b else if i = 1 then d else x) (fun i => if i = 0 then c1 else if i = 1 then c2 else c3) hG hsz (fun i hi => ?_) _ (h.keep hb2) (fun j hj => ?_) (fun i hi => ?_) Q ?_
    · rcases (show i = 0 ∨ i = 1 ∨ i = 2 by omega) with rfl | rfl | rfl
      · exact hsz2
      · exact hsz3
      · exact hsz4
    · refine ⟨W.heap.size, 0, rfl, by rw [World.size_alloc]; omega, ?_⟩
      rw [Nat.zero_add]
      refine hcell j _ ?_
      rcases (show j = 0 ∨ j = 1 ∨ j = 2 by omega) with rfl | rfl | rfl <;> rfl
    · rcases (show i = 0 ∨ i = 1 ∨ i = 2 by omega) with rfl | rfl | rfl
      · exact h2.keep hb2
      · exact h3.keep hb2
      · exact h4.keep hb2
    · rw [hQ, decide_eq_true_iff]
      constructor
      · rintro ⟨k1, k2, k3, k4, k5⟩
        refine ⟨k1, k2, fun i hi => ?_⟩
        rcases (show i = 0 ∨ i = 1 ∨ i = 2 by omega) with rfl | rfl | rfl
        · exact k3
        · exact k4
        · exact k5
      · rintro ⟨k1, k2, k3⟩
        exact ⟨k1, k2, k3 0 (by omega), k3 1 (by omega), k3 2 (by omega)⟩
  by_cases hq : Q = true
  · rw [hq] at HR
    rw [hq] at hQ
    obtain ⟨hf, h0, i1, i2, i3⟩ := of_decide_eq_true hQ.symm
    by_cases h30 : s.size ≤ 30
    · have HK := fun w => rcheck_right s hs w
      by_cases hk : ck s = 0
      · rw [hk] at HK
        obtain ⟨e1, r1⟩ := EL_of h0 i1
        obtain ⟨e2, r2⟩ := EL_of h0 i2
        obtain ⟨e3, r3⟩ := EL_of h0 i3
        generalize hfa : (fun j => pz (sat L j)) = FA at e1 r1
        generalize hfb : (fun j => pz (sat M j)) = FB at e2 r2
        generalize hfc : (fun j => pz (sat N j)) = FC at e3 r3
        clear hfa hfb hfc i1 i2 i3
        have hl : G.length ≤ 100000 := by have := (gck_right h0).1; omega
        have EE := fun (F : Nat → Int) (a b : Option Addr) (c1 c2 : Nat) (w : World) (h1 : TsAt w a (EL G F)) (h2 : TsAt w b (EL G F)) => equal_true a b c1 c2 (EL G F) (by rw [EL_len]; exact hl) w h1 h2
        have AD := fun (F H Z : Nat → Int) (hF : InR G F) (hH : InR G H) (hZ : ∀ j, j < G.length → (F j + H j) % pz (sat G j) = Z j) (w : World) (b d : Option Addr) (c1 c2 : Nat) (h : TsAt w a G) (h2 : TsAt w b (EL G F)) (h3 : TsAt w d (EL G H)) (hT : Tab w) => by
          have := add_EL a b d cap c1 c2 G F H h0 hf hsz hF hH w h h2 h3 hT
          rw [EL_congr hZ] at this
          exact this
        have TI := fun (F Z : Nat → Int) (hF : InR G F) (hZ : ∀ j, j < G.length → (pz s * F j) % pz (sat G j) = Z j) (w : World) (b : Option Addr) (c1 : Nat) (h : TsAt w a G) (h2 : TsAt w b (EL G F)) (hT : Tab w) => by
          have := times_EL a b cap c1 G s F h0 hf hsz hs hk hF w h h2 hT
          rw [EL_congr hZ] at this
          exact this
        have M1 := fun F => InR.mod G h0 F
        subst e1 e2 e3
        refine groups_yes HA a b d x cap c1 c2 c3 G _ _ _ s w HR h30 (Lib.hid HK) (EL G (fun j => (FA j + FB j) % pz (sat G j))) (EL G (fun j => ((FA j + FB j) % pz (sat G j) + FC j) % pz (sat G j))) (EL G (fun j => (FB j + FC j) % pz (sat G j))) (EL G (fun j => (-1 * FA j) % pz (sat G j)))
          (EL G (fun j => (pz s * ((FA j + FB j) % pz (sat G j))) % pz (sat G j))) (EL G (fun j => (pz s * FA j) % pz (sat G j))) (EL G (fun j => (pz s * FB j) % pz (sat G j)))
          (Lib.hid (AD FA FB _ r1 r2 fun j _ => rfl)) (Lib.hid (AD FB FA _ r2 r1 fun j _ => sum_comm _ _ _)) (Lib.hid (AD _ FC _ (M1 _) r3 fun j _ => rfl)) (Lib.hid (AD FB FC _ r2 r3 fun j _ => rfl)) (Lib.hid (AD FA _ _ r1 (M1 _) fun j _ => (sum_assoc _ _ _ _).symm))
          (Lib.hid fun w b c1 h h2 hT => neg_EL a b cap c1 G FA h0 hf hsz r1 w h h2 hT) (Lib.hid (AD _ _ FB (M1 _) (M1 _) fun j hj => ?_)) (Lib.hid (TI _ _ (M1 _) fun j _ => rfl)) (Lib.hid (TI FA _ r1 fun j _ => rfl)) (Lib.hid (TI FB _ r2 fun j _ => rfl)) (Lib.hid (AD _ _ _ (M1 _) (M1 _) fun j _ => (mul_sum _ _ _ _).symm))
          (Lib.hid (EE _)) (Lib.hid (EE _)) (Lib.hid (EE _)) (Lib.hid (EE _)) h h2 h3 h4 hT
        have := sum_neg (FA j) (FB j) (pz (sat G j)) (r2 j hj).1 (r2 j hj).2
        rw [show -1 * FA j = -(FA j) by omega]
        exact this
      · exact groups_no_c HA a b d x cap c1 c2 c3 G L M N s w HR h30 _ hk (Lib.hid HK) hT
    · exact groups_no_k HA a b d x cap c1 c2 c3 G L M N s w HR (by omega) hT
  · rw [show Q = false by simpa using hq] at HR
    exact groups_no_r HA a b d x cap c1 c2 c3 G L M N s w HR hT

end Go.Proofs.YtnfmcdfdbipeoaaGreatDoor
