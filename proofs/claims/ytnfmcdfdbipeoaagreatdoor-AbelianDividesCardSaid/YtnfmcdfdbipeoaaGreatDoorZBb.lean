/- Abelian groups: right groups and elements. -/
import Derived.Test.YtnfmcdfdbipeoaaGreatDoorQ32
import Derived.Test.YtnfmcdfdbipeoaaGreatDoorZAv
namespace Go.Proofs.YtnfmcdfdbipeoaaGreatDoor
open Go.RowKit Go.Proofs.Num

/-- A group lies in a box. -/
def GAt (w : World) (gb : Nat) (v : Value) : Prop := gb < w.heap.size ∧ w.cell? ⟨gb, 0, none⟩ = some v
theorem GAt.keep {w w' : World} {gb : Nat} {v : Value} (h : GAt w gb v) (hb : Below w.heap.size w w') : GAt w' gb v :=
  ⟨Nat.lt_of_lt_of_le h.1 hb.size, (hb.cell (p := ⟨gb, 0, none⟩) h.1).trans h.2⟩
theorem VsAt.keep {w w' : World} {a : Option Addr} {vs : Nat → Value} {n : Nat} (h : VsAt w a vs n) (hb : Below w.heap.size w w') : VsAt w' a vs n := by
  intro j hj
  obtain ⟨b, off, rfl, hlt, hc⟩ := h j hj
  exact ⟨b, off, rfl, Nat.lt_of_lt_of_le hlt hb.size, (hb.cell (p := ⟨b, off + j, none⟩) hlt).trans hc⟩

set_option maxHeartbeats 3200000 in
set_option maxRecDepth 100000 in
theorem right1_true (x y : Option Addr) (m n c1 c2 gb : Nat) (k : Nat) (hk : k ≠ 0) (w : World) (HI : Hid (Calls Tryz.prog 80 #[.slice x n c1, .slice y m c2] w (fun e w' => e = .returned (.int .i64 ((k : Nat) : Int)) ∧ Below w.heap.size w w'))) (hG : GAt w gb (.slice x n c1)) :
    Calls Tryz.prog 93 #[.slice y m c2, .pointer (some ⟨gb, 0, none⟩)] w (fun e w' => e = .returned (.bool true) ∧ Below w.heap.size w w') := by
  have h1 := hG.2
  clear hG
  have hk0 : ¬ ((k : Nat) : Int) = 0 := by omega
  have hk1 : (((k : Nat) : Int) != 0) = true := by simp; omega
  clear hk
  go_enter Tryz.func93, Tryz.ntmps93
  go_wp2_with fail
  refine HI.out.mono ?_
  rintro e w1 ⟨rfl, hb1⟩
  go_wp2
  go_ret
  exact ⟨rfl, hb1⟩

set_option maxHeartbeats 3200000 in
set_option maxRecDepth 100000 in
theorem right1_false (x y : Option Addr) (m n c1 c2 gb : Nat) (w : World) (HI : Hid (Calls Tryz.prog 80 #[.slice x n c1, .slice y m c2] w (fun e w' => e = .returned (.int .i64 0) ∧ Below w.heap.size w w'))) (hG : GAt w gb (.slice x n c1)) :
    Calls Tryz.prog 93 #[.slice y m c2, .pointer (some ⟨gb, 0, none⟩)] w (fun e w' => e = .returned (.bool false) ∧ Below w.heap.size w w') := by
  have h1 := hG.2
  clear hG
  go_enter Tryz.func93, Tryz.ntmps93
  go_wp2_with fail
  refine HI.out.mono ?_
  rintro e w1 ⟨rfl, hb1⟩
  go_wp2
  go_ret
  exact ⟨rfl, hb1⟩

set_option maxHeartbeats 3200000 in
set_option maxRecDepth 100000 in
theorem idxr_none (a : Option Addr) (n cap gb : Nat) (vs : Nat → Value) (hv : Hid (∀ j, ∃ x y z, vs j = .slice x y z)) (hl : n ≤ 4096) (PW : World → Prop) (HPW : Hid (∀ w w', PW w → Below w.heap.size w w' → PW w')) (HO : Hid (∀ j, j < n → ∀ w, PW w → Calls Tryz.prog 93 #[vs j, .pointer (some ⟨gb, 0, none⟩)] w (fun e w' => e = .returned (.bool false) ∧ Below w.heap.size w w'))) (w : World) (hP : PW w) (h : VsAt w a vs n) :
    Calls Tryz.prog 105 #[.slice a n cap, (.func (.func 93) #[] #[.pointer (some ⟨gb, 0, none⟩)])] w (fun e w' => e = .returned (.int .i64 (-1)) ∧ Below w.heap.size w w') := by
  have H := Lib.hid h
  have HP := Lib.hid hP
  clear h hP
  go_enter Tryz.func105, Tryz.ntmps105
  go_wp2
  go_loopw [8] (fun v wr => ∃ i : Nat, i ≤ n ∧ v = .int .i64 i ∧ Below w.heap.size w wr) (fun v _ => n - (intOf v).toNat)
  case atStart => exact ⟨0, Nat.zero_le _, rfl, Below.refl _ _⟩
  case round =>
    obtain ⟨i, hi, rfl, hB⟩ := hrel
    by_cases hlt : i < n
    · obtain ⟨b, off, rfl, hb, hc⟩ := (H.out.keep hB) i (by omega)
      have C := Lib.hid (HO.out i hlt)
      have hiL : i < n := by omega
      obtain ⟨x, y, z, hvi⟩ := hv.out i
      rw [hvi] at C hc
      clear hvi
      go_wp2_with fail
      refine (C.out _ (HPW.out _ _ HP.out hB)).mono ?_
      rintro e w1 ⟨rfl, hb1⟩
      have hB1 : Below w.heap.size w w1 := hB.trans (hb1.mono hB.size)
      clear hb1 hb hc
      go_wp2
      go_roundw
      case rel => exact ⟨i + 1, by omega, by go_num, hB1⟩
      case measure => simp [intOf]; omega
    · obtain rfl : i = n := by omega
      go_wp2
      go_ret
      exact ⟨rfl, hB⟩

set_option maxHeartbeats 3200000 in
set_option maxRecDepth 100000 in
theorem idxr_some (a : Option Addr) (n cap gb : Nat) (vs : Nat → Value) (hv : Hid (∀ j, ∃ x y z, vs j = .slice x y z)) (hl : n ≤ 4096) (PW : World → Prop) (HPW : Hid (∀ w w', PW w → Below w.heap.size w w' → PW w')) (p : Nat) (hp : p < n) (HO : Hid (∀ j, j < p → ∀ w, PW w → Calls Tryz.prog 93 #[vs j, .pointer (some ⟨gb, 0, none⟩)] w (fun e w' => e = .returned (.bool false) ∧ Below w.heap.size w w'))) (HB : Hid (∀ w, PW w → Calls Tryz.prog 93 #[vs p, .pointer (some ⟨gb, 0, none⟩)] w (fun e w' => e = .returned (.bool true) ∧ Below w.heap.size w w'))) (w : World) (hP : PW w) (h : VsAt w a vs n) :
    Calls Tryz.prog 105 #[.slice a n cap, (.func (.func 93) #[] #[.pointer (some ⟨gb, 0, none⟩)])] w (fun e w' => e = .returned (.int .i64 (((p : Nat) : Int))) ∧ Below w.heap.size w w') := by
  have H := Lib.hid h
  have HP := Lib.hid hP
  clear h hP
  go_enter Tryz.func105, Tryz.ntmps105
  go_wp2
  go_loopw [8] (fun v wr => ∃ i : Nat, i ≤ p ∧ v = .int .i64 i ∧ Below w.heap.size w wr) (fun v _ => p - (intOf v).toNat)
  case atStart => exact ⟨0, Nat.zero_le _, rfl, Below.refl _ _⟩
  case round =>
    obtain ⟨i, hi, rfl, hB⟩ := hrel
    by_cases hlt : i < p
    · obtain ⟨b, off, rfl, hb, hc⟩ := (H.out.keep hB) i (by omega)
      have C := Lib.hid (HO.out i hlt)
      have hiL : i < n := by omega
      obtain ⟨x, y, z, hvi⟩ := hv.out i
      rw [hvi] at C hc
      clear hvi
      go_wp2_with fail
      refine (C.out _ (HPW.out _ _ HP.out hB)).mono ?_
      rintro e w1 ⟨rfl, hb1⟩
      have hB1 : Below w.heap.size w w1 := hB.trans (hb1.mono hB.size)
      clear hb1 hb hc
      go_wp2
      go_roundw
      case rel => exact ⟨i + 1, by omega, by go_num, hB1⟩
      case measure => simp [intOf]; omega
    · obtain rfl : i = p := by omega
      obtain ⟨b, off, rfl, hb, hc⟩ := (H.out.keep hB) i hp
      have C := Lib.hid HB.out
      obtain ⟨x, y, z, hvi⟩ := hv.out i
      rw [hvi] at C hc
      clear hvi
      go_wp2_with fail
      refine (C.out _ (HPW.out _ _ HP.out hB)).mono ?_
      rintro e w1 ⟨rfl, hb1⟩
      have hB1 : Below w.heap.size w w1 := hB.trans (hb1.mono hB.size)
      clear hb1 hb hc
      go_wp2
      go_ret
      exact ⟨rfl, hB1⟩

set_option maxHeartbeats 3200000 in
set_option maxRecDepth 100000 in
theorem contr (a : Option Addr) (n cap gb : Nat) (z : Int) (q : Bool) (hq : decide (0 ≤ z) = q) (w : World) (HC : Hid (Calls Tryz.prog 105 #[.slice a n cap, (.func (.func 93) #[] #[.pointer (some ⟨gb, 0, none⟩)])] w (fun e w' => e = .returned (.int .i64 z) ∧ Below w.heap.size w w'))) :
    Calls Tryz.prog 54 #[.slice a n cap, (.func (.func 93) #[] #[.pointer (some ⟨gb, 0, none⟩)])] w (fun e w' => e = .returned (.bool q) ∧ Below w.heap.size w w') := by
  go_enter Tryz.func54, Tryz.ntmps54
  go_wp2_with fail
  refine HC.out.mono ?_
  rintro e w1 ⟨rfl, hb1⟩
  go_wp2
  go_ret
  exact ⟨rfl, hb1⟩

set_option maxHeartbeats 3200000 in
set_option maxRecDepth 100000 in
theorem right_noF (a l : Option Addr) (n cap m lc : Nat) (M : List ByteArray) (w : World) (HF : Hid (∀ w, TsAt w a M → Calls Tryz.prog 11 #[.slice a n cap] w (fun e w' => e = .returned (.bool false) ∧ w = w'))) (h : TsAt w a M) :
    Calls Tryz.prog 43 #[.slice a n cap, .slice l m lc] w (fun e w' => e = .returned (.bool false) ∧ Below w.heap.size w w') := by
  obtain ⟨W, hW⟩ : ∃ W, W = (w.alloc (.cells #[.slice a n cap] 22)) := ⟨_, rfl⟩
  have hG0 : GAt W w.heap.size (.slice a n cap) := by rw [hW]; exact ⟨by rw [World.size_alloc]; omega, cell_of_row _ _ 0 _ 22 (0, 0) (heap_alloc_new w _)⟩
  have hB0 : Below w.heap.size w W := by rw [hW]; exact (Below.refl _ _).alloc (Nat.le_refl _) _
  have HG0 := Lib.hid hG0
  have HW := Lib.hid hW
  have HB0 := Lib.hid hB0
  have H := Lib.hid h
  clear h hW hG0 hB0
  go_enter Tryz.func43, Tryz.ntmps43
  go_wp2_with fail
  rw [← HW.out]
  have hk : Below W.heap.size W W := Below.refl _ _
  have x0 := (HG0.out.keep hk).2
  refine (HF.out _ (H.out.keep (HB0.out.trans (hk.mono HB0.out.size)))).mono ?_
  rintro e w1 ⟨rfl, rfl⟩
  go_wp2
  go_ret
  exact ⟨rfl, (HB0.out.trans (hk.mono HB0.out.size))⟩

set_option maxHeartbeats 3200000 in
set_option maxRecDepth 100000 in
theorem right_noC (a l : Option Addr) (n cap m lc : Nat) (M : List ByteArray) (w : World) (HF : Hid (∀ w, TsAt w a M → Calls Tryz.prog 11 #[.slice a n cap] w (fun e w' => e = .returned (.bool true) ∧ w = w'))) (k : Nat) (hk' : k ≠ 0) (HC : Hid (∀ w, TsAt w a M → Calls Tryz.prog 23 #[.slice a n cap] w (fun e w' => e = .returned (.int .i64 ((k : Nat) : Int)) ∧ Below w.heap.size w w'))) (h : TsAt w a M) :
    Calls Tryz.prog 43 #[.slice a n cap, .slice l m lc] w (fun e w' => e = .returned (.bool false) ∧ Below w.heap.size w w') := by
  obtain ⟨W, hW⟩ : ∃ W, W = (w.alloc (.cells #[.slice a n cap] 22)) := ⟨_, rfl⟩
  have hG0 : GAt W w.heap.size (.slice a n cap) := by rw [hW]; exact ⟨by rw [World.size_alloc]; omega, cell_of_row _ _ 0 _ 22 (0, 0) (heap_alloc_new w _)⟩
  have hB0 : Below w.heap.size w W := by rw [hW]; exact (Below.refl _ _).alloc (Nat.le_refl _) _
  have HG0 := Lib.hid hG0
  have HW := Lib.hid hW
  have HB0 := Lib.hid hB0
  have H := Lib.hid h
  have hk0 : ¬ ((k : Nat) : Int) = 0 := by omega
  have hk1 : (((k : Nat) : Int) == 0) = false := by simp; omega
  clear h hW hG0 hB0 hk'
  go_enter Tryz.func43, Tryz.ntmps43
  go_wp2_with fail
  rw [← HW.out]
  have hk : Below W.heap.size W W := Below.refl _ _
  have x0 := (HG0.out.keep hk).2
  refine (HF.out _ (H.out.keep (HB0.out.trans (hk.mono HB0.out.size)))).mono ?_
  rintro e w1 ⟨rfl, rfl⟩
  go_wp2_with fail
  refine (HC.out _ (H.out.keep (HB0.out.trans (hk.mono HB0.out.size)))).mono ?_
  rintro e w2 ⟨rfl, hc⟩
  have hk9 := hk.trans (hc.mono hk.size)
  clear hk hc x0
  have hk := hk9
  clear hk9
  have x0 := (HG0.out.keep hk).2
  go_wp2
  go_ret
  exact ⟨rfl, (HB0.out.trans (hk.mono HB0.out.size))⟩

set_option maxHeartbeats 3200000 in
set_option maxRecDepth 100000 in
theorem right_walk (a l : Option Addr) (n cap m lc : Nat) (M : List ByteArray) (w : World) (HF : Hid (∀ w, TsAt w a M → Calls Tryz.prog 11 #[.slice a n cap] w (fun e w' => e = .returned (.bool true) ∧ w = w'))) (HC : Hid (∀ w, TsAt w a M → Calls Tryz.prog 23 #[.slice a n cap] w (fun e w' => e = .returned (.int .i64 0) ∧ Below w.heap.size w w'))) (q : Bool) (HR : Hid (∀ (w' : World) (gb : Nat), GAt w' gb (.slice a n cap) → Below w.heap.size w w' → Calls Tryz.prog 54 #[.slice l m lc, (.func (.func 93) #[] #[.pointer (some ⟨gb, 0, none⟩)])] w' (fun e w'' => e = .returned (.bool q) ∧ Below w'.heap.size w' w''))) (h : TsAt w a M) :
    Calls Tryz.prog 43 #[.slice a n cap, .slice l m lc] w (fun e w' => e = .returned (.bool (!q)) ∧ Below w.heap.size w w') := by
  obtain ⟨W, hW⟩ : ∃ W, W = (w.alloc (.cells #[.slice a n cap] 22)) := ⟨_, rfl⟩
  have hG0 : GAt W w.heap.size (.slice a n cap) := by rw [hW]; exact ⟨by rw [World.size_alloc]; omega, cell_of_row _ _ 0 _ 22 (0, 0) (heap_alloc_new w _)⟩
  have hB0 : Below w.heap.size w W := by rw [hW]; exact (Below.refl _ _).alloc (Nat.le_refl _) _
  have HG0 := Lib.hid hG0
  have HW := Lib.hid hW
  have HB0 := Lib.hid hB0
  have H := Lib.hid h
  clear h hW hG0 hB0
  go_enter Tryz.func43, Tryz.ntmps43
  go_wp2_with fail
  rw [← HW.out]
  have hk : Below W.heap.size W W := Below.refl _ _
  have x0 := (HG0.out.keep hk).2
  refine (HF.out _ (H.out.keep (HB0.out.trans (hk.mono HB0.out.size)))).mono ?_
  rintro e w1 ⟨rfl, rfl⟩
  go_wp2_with fail
  refine (HC.out _ (H.out.keep (HB0.out.trans (hk.mono HB0.out.size)))).mono ?_
  rintro e w2 ⟨rfl, hc⟩
  have hk9 := hk.trans (hc.mono hk.size)
  clear hk hc x0
  have hk := hk9
  clear hk9
  have x0 := (HG0.out.keep hk).2
  go_wp2_with fail
  refine (HR.out _ _ (HG0.out.keep hk) (HB0.out.trans (hk.mono HB0.out.size))).mono ?_
  rintro e w3 ⟨rfl, hc⟩
  have hk9 := hk.trans (hc.mono hk.size)
  clear hk hc x0
  have hk := hk9
  clear hk9
  cases q
  all_goals (go_wp2; go_ret; exact ⟨rfl, (HB0.out.trans (hk.mono HB0.out.size))⟩)

/-- right, of a group and n lists. -/
theorem right_any (a l : Option Addr) (cap m lc : Nat) (hm : m ≤ 4096) (G : List ByteArray) (Ls : Nat → List ByteArray) (ax : Nat → Option Addr) (cs : Nat → Nat) (hG : G.length ≤ 9223372036854775807) (hsz : ∀ j, j < G.length → (sat G j).size ≤ 9223372036854775807) (hsz2 : ∀ i, i < m → ∀ j, j < (Ls i).length → (sat (Ls i) j).size ≤ 9223372036854775807)
    (w : World) (h : TsAt w a G) (hl : VsAt w l (fun i => .slice (ax i) (Ls i).length (cs i)) m) (h2 : ∀ i, i < m → TsAt w (ax i) (Ls i)) (Q : Bool) (hQ : Q = true ↔ fewG G = true ∧ gck fck G = 0 ∧ ∀ i, i < m → inC (Ls i) G = 0) :
    Calls Tryz.prog 43 #[.slice a G.length cap, .slice l m lc] w (fun e w' => e = .returned (.bool Q) ∧ Below w.heap.size w w') := by
  by_cases hf : fewG G = true
  · have HF : Hid (∀ w, TsAt w a G → Calls Tryz.prog 11 #[.slice a G.length cap] w (fun e w' => e = .returned (.bool true) ∧ w = w')) := Lib.hid fun w h => by
      have := rfewG_any a cap G hG hsz w h
      rw [hf] at this
      exact this
    by_cases h0 : gck fck G = 0
    · have HC : Hid (∀ w, TsAt w a G → Calls Tryz.prog 23 #[.slice a G.length cap] w (fun e w' => e = .returned (.int .i64 0) ∧ Below w.heap.size w w')) := Lib.hid fun w h => by
        have := rgcheck_any a cap G (fun _ => hsz) w h
        rw [h0] at this
        exact this
      have HI : ∀ i, i < m → ∀ (w' : World) (gb : Nat), GAt w' gb (.slice a G.length cap) ∧ Below w.heap.size w w' → inC (Ls i) G = 0 → Calls Tryz.prog 93 #[.slice (ax i) (Ls i).length (cs i), .pointer (some ⟨gb, 0, none⟩)] w' (fun e w'' => e = .returned (.bool false) ∧ Below w'.heap.size w' w'') := fun i hi w' gb hP h1 => by
        have := rinck_any a (ax i) cap (cs i) (Ls i) G h0 (hsz2 i hi) w' (h.keep hP.2) ((h2 i hi).keep hP.2)
        rw [h1] at this
        exact right1_false a (ax i) _ _ cap (cs i) gb w' (Lib.hid this) hP.1
      have HK : ∀ gb : Nat, Hid (∀ w1 w2 : World, (GAt w1 gb (.slice a G.length cap) ∧ Below w.heap.size w w1) → Below w1.heap.size w1 w2 → (GAt w2 gb (.slice a G.length cap) ∧ Below w.heap.size w w2)) := fun gb => Lib.hid fun w1 w2 h hb => ⟨h.1.keep hb, h.2.trans (hb.mono h.2.size)⟩
      rcases firstBadN (fun i => inC (Ls i) G = 0) m with h1 | ⟨p, hp, h1, h3⟩
      · rw [hQ.2 ⟨hf, h0, h1⟩]
        refine right_walk a l G.length cap m lc G w HF HC false (Lib.hid fun w' gb hg hb => ?_) h
        exact contr l m lc gb (-1) _ (by decide) w' (Lib.hid (idxr_none l m lc gb _ (Lib.hid fun j => ⟨_, _, _, rfl⟩) hm (fun w' => GAt w' gb (.slice a G.length cap) ∧ Below w.heap.size w w') (HK gb) (Lib.hid fun j hj w' hP => HI j hj w' gb hP (h1 j hj)) w' ⟨hg, hb⟩ (hl.keep hb)))
      · have e : Q = false := by
          cases hb : Q with
          | false => rfl
          | true => exact absurd ((hQ.1 hb).2.2 p hp) h3
        rw [e]
        refine right_walk a l G.length cap m lc G w HF HC true (Lib.hid fun w' gb hg hb => ?_) h
        refine contr l m lc gb ((p : Nat) : Int) _ (decide_eq_true (by omega)) w' (Lib.hid (idxr_some l m lc gb _ (Lib.hid fun j => ⟨_, _, _, rfl⟩) hm (fun w' => GAt w' gb (.slice a G.length cap) ∧ Below w.heap.size w w') (HK gb) p hp (Lib.hid fun j hj w' hP => HI j (by omega) w' gb hP (h1 j hj)) (Lib.hid fun w' hP => ?_) w' ⟨hg, hb⟩ (hl.keep hb)))
        exact right1_true a (ax p) _ _ cap (cs p) gb _ h3 w' (Lib.hid (rinck_any a (ax p) cap (cs p) (Ls p) G h0 (hsz2 p hp) w' (h.keep hP.2) ((h2 p hp).keep hP.2))) hP.1
    · have e : Q = false := by
        cases hb : Q with
        | false => rfl
        | true => exact absurd (hQ.1 hb).2.1 h0
      rw [e]
      exact right_noC a l G.length cap m lc G w HF _ h0 (Lib.hid fun w h => rgcheck_any a cap G (fun _ => hsz) w h) h
  · have e : Q = false := by
      cases hb : Q with
      | false => rfl
      | true => exact absurd (hQ.1 hb).1 hf
    rw [e]
    refine right_noF a l G.length cap m lc G w (Lib.hid fun w h => ?_) h
    have := rfewG_any a cap G hG hsz w h
    rw [show fewG G = false by simpa using hf] at this
    exact this

end Go.Proofs.YtnfmcdfdbipeoaaGreatDoor
