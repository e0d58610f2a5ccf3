/- Walks of the laws: the examples of the chapter. -/
import Derived.Test.YtbmonfbbkmpdhaaDoorRd
import Derived.Test.YtbmonfbbkmpdhaaDoorPc
import Derived.Test.YtbmonfbbkmpdhaaDoorJa
namespace Go.Proofs.YtbmonfbbkmpdhaaDoor
open Go.RowKit Go.Proofs.Num

theorem tm7 : T (-7) = ⟨#[45, 55]⟩ := by kernel_rfl
theorem t2 : T 2 = ⟨#[50]⟩ := by kernel_rfl
theorem tm4 : T (-4) = ⟨#[45, 52]⟩ := by kernel_rfl
theorem t1 : T 1 = ⟨#[49]⟩ := by kernel_rfl
theorem t7 : T 7 = ⟨#[55]⟩ := by kernel_rfl
theorem tm2 : T (-2) = ⟨#[45, 50]⟩ := by kernel_rfl
theorem tm1 : T (-1) = ⟨#[45, 49]⟩ := by kernel_rfl
theorem t12 : T 12 = ⟨#[49, 50]⟩ := by kernel_rfl
theorem t18 : T 18 = ⟨#[49, 56]⟩ := by kernel_rfl
theorem t6 : T 6 = ⟨#[54]⟩ := by kernel_rfl
theorem t4 : T 4 = ⟨#[52]⟩ := by kernel_rfl
theorem t0 : T 0 = ⟨#[48]⟩ := by kernel_rfl
theorem tm3 : T (-3) = ⟨#[45, 51]⟩ := by kernel_rfl
theorem tm243 : T (-243) = ⟨#[45, 50, 52, 51]⟩ := by kernel_rfl

def OutS (w : World) (S : Array UInt8) (e : Ending) (w' : World) : Prop := e = .returned (.tuple #[.string ⟨S⟩, .int .i64 0]) ∧ Below w.heap.size w w'

theorem few1 {z : Int} (h : z.natAbs < 1000) : Few 3 z := h

theorem quo1 (w : World) (hT : Tab w) : Calls Tryd.prog 40 #[.string ⟨#[45, 55]⟩, .string ⟨#[50]⟩] w (OutS w #[45, 52]) := by
  have h := quoT (-7) 2 w (few1 (by decide)) (few1 (by decide)) (by omega) (by omega) (by omega) hT
  rw [show qz (-7) 2 = -4 from rfl, tm7, t2, tm4] at h; exact h
theorem quo2 (w : World) (hT : Tab w) : Calls Tryd.prog 40 #[.string ⟨#[55]⟩, .string ⟨#[45, 50]⟩] w (OutS w #[45, 52]) := by
  have h := quoT 7 (-2) w (few1 (by decide)) (few1 (by decide)) (by omega) (by omega) (by omega) hT
  rw [show qz 7 (-2) = -4 from rfl, t7, tm2, tm4] at h; exact h
theorem rem1 (w : World) (hT : Tab w) : Calls Tryd.prog 41 #[.string ⟨#[45, 55]⟩, .string ⟨#[50]⟩] w (OutS w #[49]) := by
  have h := remT (-7) 2 w (few1 (by decide)) (few1 (by decide)) (by omega) (by omega) (by omega) hT
  rw [show rz (-7) 2 = 1 from rfl, tm7, t2, t1] at h; exact h
theorem rem2 (w : World) (hT : Tab w) : Calls Tryd.prog 41 #[.string ⟨#[55]⟩, .string ⟨#[45, 50]⟩] w (OutS w #[45, 49]) := by
  have h := remT 7 (-2) w (few1 (by decide)) (few1 (by decide)) (by omega) (by omega) (by omega) hT
  rw [show rz 7 (-2) = -1 from rfl, t7, tm2, tm1] at h; exact h

def OutB (w : World) (A B C : Array UInt8) (e : Ending) (w' : World) : Prop := e = .returned (.tuple #[.string ⟨A⟩, .string ⟨B⟩, .string ⟨C⟩, .int .i64 0]) ∧ Below w.heap.size w w'

theorem bez_12_18 : bez 12 18 = (6, 2, -1) := by
  have h : inv 18 12 0 1 = (6, -1) := by
    rw [inv_go (by omega), show rz 18 12 = 6 from rfl, show (0 : Int) - qz 18 12 * 1 = -1 from rfl, inv_go (by omega), show rz 12 6 = 0 from rfl, inv_stop]
  unfold bez
  rw [if_neg (by omega)]
  rw [show (((18 : Int).natAbs : Nat) : Int) = 18 from rfl, show rz 12 18 = 12 from rfl, h]
  rfl
theorem bez1 (w : World) (hT : Tab w) : Calls Tryd.prog 44 #[.string ⟨#[49, 50]⟩, .string ⟨#[49, 56]⟩] w (OutB w #[54] #[50] #[45, 49]) := by
  have h := bezT 12 18 w (few1 (by decide)) (few1 (by decide)) (by omega) (by omega) hT
  rw [bez_12_18, t12, t18, t6, t2, tm1] at h; exact h
theorem bez2 (w : World) (hT : Tab w) : Calls Tryd.prog 44 #[.string ⟨#[52]⟩, .string ⟨#[48]⟩] w (OutB w #[52] #[49] #[48]) := by
  have h := bezT 4 0 w (few1 (by decide)) (few1 (by decide)) (by omega) (by omega) hT
  rw [show bez 4 0 = (4, 1, 0) from by unfold bez; rw [if_pos rfl]; rfl, t4, t0, t1] at h; exact h
theorem pow1 (w : World) (hT : Tab w) : Calls Tryd.prog 38 #[.string ⟨#[45, 51]⟩, .int .i64 5] w (OutS w #[45, 50, 52, 51]) := by
  have hf : Few 3 (-3) := few1 (by decide)
  have hg : Few 3 (-243) := few1 (by decide)
  have h := pow_any (T (-3)) (hf.size (by omega) (by omega)) (hf.chk (by omega) (by omega)) 5 (by omega) w hT
  rw [T_data, parse_itoa, show ((-3 : Int) ^ 5) = -243 from by decide, hg.tx (by omega) (by omega), hg.te (by omega) (by omega), tm3] at h
  have h2 : str (Lib.itoa (-243)) = .string ⟨#[45, 50, 52, 51]⟩ := by rw [T_str, tm243]
  unfold TextOut at h
  rw [h2] at h
  exact h
theorem chk1 (w : World) : Calls Tryd.prog 19 #[.string ⟨#[48, 48, 55]⟩] w fun e w' => e = .returned (.int .i64 3) ∧ w = w' := by
  have h := check_any ⟨#[48, 48, 55]⟩ w (by decide)
  rwa [show chk (⟨#[48, 48, 55]⟩ : ByteArray).data.toList = 3 from by decide] at h
theorem chk2' (w : World) : Calls Tryd.prog 19 #[.string ⟨#[45, 48]⟩] w fun e w' => e = .returned (.int .i64 3) ∧ w = w' := by
  have h := check_any ⟨#[45, 48]⟩ w (by decide)
  rwa [show chk (⟨#[45, 48]⟩ : ByteArray).data.toList = 3 from by decide] at h
theorem chk3 (w : World) : Calls Tryd.prog 19 #[.string ⟨#[43, 49]⟩] w fun e w' => e = .returned (.int .i64 3) ∧ w = w' := by
  have h := check_any ⟨#[43, 49]⟩ w (by decide)
  rwa [show chk (⟨#[43, 49]⟩ : ByteArray).data.toList = 3 from by decide] at h

def exs : Array Value := #[.string ⟨#[45, 55]⟩, .string ⟨#[50]⟩, .string ⟨#[45, 52]⟩, .string ⟨#[49]⟩, .string ⟨#[55]⟩, .string ⟨#[45, 50]⟩, .string ⟨#[45, 52]⟩, .string ⟨#[45, 49]⟩]

set_option maxHeartbeats 6400000 in
set_option maxRecDepth 100000 in
theorem awake_any : Awake := by
  intro w hT
  have HT := Lib.hid hT
  clear hT
  obtain ⟨W, hW⟩ : ∃ W, W = w.alloc (.cells exs 60) := ⟨_, rfl⟩
  have hbW : Below w.heap.size w W := by rw [hW]; exact below1 _ _
  have hrow : W.heap[w.heap.size]? = some (.cells exs 60 (0, 0)) := by rw [hW]; exact heap_alloc_new w _
  have hlt : w.heap.size < W.heap.size := (Array.getElem?_eq_some_iff.1 hrow).1
  have hc : ∀ wr, Below W.heap.size W wr → ∀ j, wr.cell? ⟨w.heap.size, j, none⟩ = exs[j]? := fun wr hb j => by
    rw [hb.cell (p := ⟨w.heap.size, j, none⟩) hlt]; exact cell_of_row W w.heap.size j exs 60 (0, 0) hrow
  unfold exs at hW
  have HW := Lib.hid hW
  have HC := Lib.hid hc
  have HB := Lib.hid hbW
  clear hW hrow hc hbW
  go_enter Tryd.func14, Tryd.ntmps14
  go_wp2_with fail
  rw [← HW.out]
  go_loopw [21] (fun si wr => ∃ k : Nat, k ≤ 2 ∧ si = .int .i64 k ∧ Below W.heap.size W wr) (fun si _ => 2 - (intOf si).toNat)
  case atStart => exact ⟨0, by omega, rfl, Below.refl _ _⟩
  case round =>
    obtain ⟨k, hk, rfl, hb⟩ := hrel
    have HBR := Lib.hid hb
    rcases (show k = 0 ∨ k = 1 ∨ k = 2 by omega) with rfl | rfl | rfl
    · have g0 : wr.cell? ⟨w.heap.size, 0, none⟩ = some (.string ⟨#[45, 55]⟩) := HC.out wr hb 0
      have g1 : wr.cell? ⟨w.heap.size, 1, none⟩ = some (.string ⟨#[50]⟩) := HC.out wr hb 1
      have g2 : wr.cell? ⟨w.heap.size, 2, none⟩ = some (.string ⟨#[45, 52]⟩) := HC.out wr hb 2
      have g3 : wr.cell? ⟨w.heap.size, 3, none⟩ = some (.string ⟨#[49]⟩) := HC.out wr hb 3
      clear hb
      obtain ⟨W2, hW2⟩ : ∃ W2, W2 = wr.alloc (.cells #[.string ⟨#[45, 55]⟩, .string ⟨#[50]⟩, .string ⟨#[45, 52]⟩, .string ⟨#[49]⟩] 60) := ⟨_, rfl⟩
      have hrow2 : W2.heap[wr.heap.size]? = some (.cells #[.string ⟨#[45, 55]⟩, .string ⟨#[50]⟩, .string ⟨#[45, 52]⟩, .string ⟨#[49]⟩] 60 (0, 0)) := by rw [hW2]; exact heap_alloc_new wr _
      have hb2 : Below w.heap.size w W2 := by
        rw [hW2]
        have h5 := HB.out.trans (HBR.out.mono HB.out.size)
        exact h5.alloc h5.size _
      have hbr2 : Below W.heap.size W W2 := by rw [hW2]; exact HBR.out.alloc HBR.out.size _
      have hlt2 := (Array.getElem?_eq_some_iff.1 hrow2).1
      have HC2 : Hid (∀ u, Below W2.heap.size W2 u → ∀ j, u.cell? ⟨wr.heap.size, j, none⟩ = (#[.string ⟨#[45, 55]⟩, .string ⟨#[50]⟩, .string ⟨#[45, 52]⟩, .string ⟨#[49]⟩] : Array Value)[j]?) := fun u hb j => by
        rw [hb.cell (p := ⟨wr.heap.size, j, none⟩) hlt2]; exact cell_of_row W2 wr.heap.size j _ 60 (0, 0) hrow2
      have HW2 := Lib.hid hW2
      have HB2 := Lib.hid hb2
      have HBR2 := Lib.hid hbr2
      clear hW2 hrow2 hb2 hbr2
      go_wp2_with fail
      rw [← HW2.out]
      refine (quo1 _ (HT.out.keep HB2.out)).mono ?_
      rintro e w1 ⟨rfl, hb1⟩
      have f0 : w1.cell? ⟨wr.heap.size, 0, none⟩ = some (.string ⟨#[45, 55]⟩) := HC2.out w1 hb1 0
      have f1 : w1.cell? ⟨wr.heap.size, 1, none⟩ = some (.string ⟨#[50]⟩) := HC2.out w1 hb1 1
      have HB1 := Lib.hid hb1
      clear hb1
      go_wp2_with fail
      refine (rem1 _ (HT.out.keep (HB2.out.trans (HB1.out.mono HB2.out.size)))).mono ?_
      rintro e w3 ⟨rfl, hb3⟩
      have hb23 := HB1.out.trans (hb3.mono HB1.out.size)
      have h2 : w3.cell? ⟨wr.heap.size, 2, none⟩ = some (.string ⟨#[45, 52]⟩) := HC2.out w3 hb23 2
      have h3 : w3.cell? ⟨wr.heap.size, 3, none⟩ = some (.string ⟨#[49]⟩) := HC2.out w3 hb23 3
      have HE := Lib.hid (HBR2.out.trans (hb23.mono HBR2.out.size))
      clear hb3 hb23 f0 f1
      go_wp2
      go_roundw
      case rel => exact ⟨1, by omega, rfl, HE.out⟩
      case measure => simp [intOf]
    · have g0 : wr.cell? ⟨w.heap.size, 4, none⟩ = some (.string ⟨#[55]⟩) := HC.out wr hb 4
      have g1 : wr.cell? ⟨w.heap.size, 5, none⟩ = some (.string ⟨#[45, 50]⟩) := HC.out wr hb 5
      have g2 : wr.cell? ⟨w.heap.size, 6, none⟩ = some (.string ⟨#[45, 52]⟩) := HC.out wr hb 6
      have g3 : wr.cell? ⟨w.heap.size, 7, none⟩ = some (.string ⟨#[45, 49]⟩) := HC.out wr hb 7
      clear hb
      obtain ⟨W2, hW2⟩ : ∃ W2, W2 = wr.alloc (.cells #[.string ⟨#[55]⟩, .string ⟨#[45, 50]⟩, .string ⟨#[45, 52]⟩, .string ⟨#[45, 49]⟩] 60) := ⟨_, rfl⟩
      have hrow2 : W2.heap[wr.heap.size]? = some (.cells #[.string ⟨#[55]⟩, .string ⟨#[45, 50]⟩, .string ⟨#[45, 52]⟩, .string ⟨#[45, 49]⟩] 60 (0, 0)) := by rw [hW2]; exact heap_alloc_new wr _
      have hb2 : Below w.heap.size w W2 := by
        rw [hW2]
        have h5 := HB.out.trans (HBR.out.mono HB.out.size)
        exact h5.alloc h5.size _
      have hbr2 : Below W.heap.size W W2 := by rw [hW2]; exact HBR.out.alloc HBR.out.size _
      have hlt2 := (Array.getElem?_eq_some_iff.1 hrow2).1
      have HC2 : Hid (∀ u, Below W2.heap.size W2 u → ∀ j, u.cell? ⟨wr.heap.size, j, none⟩ = (#[.string ⟨#[55]⟩, .string ⟨#[45, 50]⟩, .string ⟨#[45, 52]⟩, .string ⟨#[45, 49]⟩] : Array Value)[j]?) := fun u hb j => by
        rw [hb.cell (p := ⟨wr.heap.size, j, none⟩) hlt2]; exact cell_of_row W2 wr.heap.size j _ 60 (0, 0) hrow2
      have HW2 := Lib.hid hW2
      have HB2 := Lib.hid hb2
      have HBR2 := Lib.hid hbr2
      clear hW2 hrow2 hb2 hbr2
      go_wp2_with fail
      rw [← HW2.out]
      refine (quo2 _ (HT.out.keep HB2.out)).mono ?_
      rintro e w1 ⟨rfl, hb1⟩
      have f0 : w1.cell? ⟨wr.heap.size, 0, none⟩ = some (.string ⟨#[55]⟩) := HC2.out w1 hb1 0
      have f1 : w1.cell? ⟨wr.heap.size, 1, none⟩ = some (.string ⟨#[45, 50]⟩) := HC2.out w1 hb1 1
      have HB1 := Lib.hid hb1
      clear hb1
      go_wp2_with fail
      refine (rem2 _ (HT.out.keep (HB2.out.trans (HB1.out.mono HB2.out.size)))).mono ?_
      rintro e w3 ⟨rfl, hb3⟩
      have hb23 := HB1.out.trans (hb3.mono HB1.out.size)
      have h2 : w3.cell? ⟨wr.heap.size, 2, none⟩ = some (.string ⟨#[45, 52]⟩) := HC2.out w3 hb23 2
      have h3 : w3.cell? ⟨wr.heap.size, 3, none⟩ = some (.string ⟨#[45, 49]⟩) := HC2.out w3 hb23 3
      have HE := Lib.hid (HBR2.out.trans (hb23.mono HBR2.out.size))
      clear hb3 hb23 f0 f1
      go_wp2
      go_roundw
      case rel => exact ⟨2, by omega, rfl, HE.out⟩
      case measure => simp [intOf]
    · have hb0 := HB.out.trans (hb.mono HB.out.size)
      have HB0 := Lib.hid hb0
      clear hb hb0
      go_wp2_with fail
      refine (bez1 _ (HT.out.keep HB0.out)).mono ?_
      rintro e w1 ⟨rfl, hb1⟩
      have HB1 := Lib.hid (HB0.out.trans (hb1.mono HB0.out.size))
      clear hb1
      go_wp2_with fail
      refine (bez2 _ (HT.out.keep HB1.out)).mono ?_
      rintro e w2 ⟨rfl, hb2⟩
      have HB2 := Lib.hid (HB1.out.trans (hb2.mono HB1.out.size))
      clear hb2
      go_wp2_with fail
      refine (pow1 _ (HT.out.keep HB2.out)).mono ?_
      rintro e w3 ⟨rfl, hb3⟩
      have HB3 := Lib.hid (HB2.out.trans (hb3.mono HB2.out.size))
      clear hb3
      go_wp2_with fail
      refine (chk1 _).mono ?_
      rintro e w4 ⟨rfl, rfl⟩
      go_wp2_with fail
      refine (chk2' _).mono ?_
      rintro e w4 ⟨rfl, rfl⟩
      go_wp2_with fail
      refine (chk3 _).mono ?_
      rintro e w4 ⟨rfl, rfl⟩
      go_wp2
      go_ret
      exact ⟨rfl, HB3.out⟩
end Go.Proofs.YtbmonfbbkmpdhaaDoor
