/- Light graphs, right graphs. -/
import Derived.Test.YtjaafneoinidkaaGu
namespace Go.Proofs.Ytjaafneoinidkaa
open Go.RowKit Go.Shelf Go.Proofs.Gr

/-- Hands back a truth value. -/
def GivesB (w : World) (b : Bool) (e : Ending) (w' : World) : Prop := e = .returned (.bool b) ∧ Below w.heap.size w w'
def lightG (n : Int) (L : List E) : Bool := decide (L.length ≤ 40) && (decide (chkG n L ≠ 0) || decide (sizeG L ≤ 400))
def rightG (n : Int) (L : List E) : Bool := lightG n L && decide (chkG n L = 0)
set_option maxHeartbeats 12800000 in
set_option maxRecDepth 100000 in
theorem light_any (n : Int) (a : Option Addr) (cap : Nat) (L : List E) (w : World) (h : EsAt w a L) :
    Calls Try.prog 12 #[gv n a L.length cap] w (GivesB w (lightG n L)) := by
  have HC : Hid (L.length ≤ 40 → ∀ w, EsAt w a L → Calls Try.prog 14 #[gv n a L.length cap] w (GivesN w (chkG n L : Nat))) := Lib.hid (fun hl w h => rcheck_any n a cap L (by omega) w h)
  have HZ : Hid (L.length ≤ 40 → chkG n L = 0 → ∀ w, EsAt w a L → Calls Try.prog 19 #[gv n a L.length cap] w (GivesN w (sizeG L))) := Lib.hid (fun hl h0 w h => rsize_any n a cap L (by omega) (right_of h0) w h)
  have HLG : Hid (lightG n L = (decide (L.length ≤ 40) && (decide (chkG n L ≠ 0) || decide (sizeG L ≤ 400)))) := Lib.hid rfl
  unfold GivesB
  unfold GivesN gv at *
  obtain ⟨W, hW⟩ : ∃ W, W = w.alloc (Obj.cells #[.int .i64 n, .slice a L.length cap] 24) := ⟨_, rfl⟩
  have hB0 : Below w.heap.size w W := by rw [hW]; exact (Below.refl _ w).alloc (Nat.le_refl _) _
  have hG : Blk W w.heap.size 24 #[.int .i64 n, .slice a L.length cap] := by rw [hW]; exact Blk.new _ _ _
  have hWs : W.heap.size = w.heap.size + 1 := by rw [hW]; simp
  have HWS := Lib.hid hWs
  have HW := Lib.hid hW
  have HB0 := Lib.hid hB0
  have HG := Lib.hid hG
  have HE := Lib.hid (h.keep hB0)
  have g0 : W.cell? ⟨w.heap.size, 0, none⟩ = some (.int .i64 n) := hG.cell 0
  have g1 : W.cell? ⟨w.heap.size, 1, none⟩ = some (.slice a L.length cap) := hG.cell 1
  clear hB0 hG hW hWs
  generalize lightG n L = R at *
  generalize chkG n L = k at *
  generalize sizeG L = S at *
  clear h
  by_cases hl : L.length ≤ 40
  · have HC2 := Lib.hid (HC.out hl)
    have l1 : (((L.length : Nat) : Int) ≤ 40) := by omega
    by_cases hk : k = 0
    · subst hk
      have HZ2 := Lib.hid (HZ.out hl rfl)
      have HRR : Hid (R = decide (S ≤ 400)) := Lib.hid (by rw [HLG.out, decide_eq_true hl]; simp)
      clear hl
      go_enter Try.func12, Try.ntmps12
      go_wp2_with fail
      rw [← HW.out]
      refine (HC2.out _ HE.out).mono ?_
      rintro e w1 ⟨rfl, hb⟩
      have HB1 := Lib.hid (HB0.out.trans (hb.mono HB0.out.size))
      have HE1 := Lib.hid (HE.out.keep hb)
      have g0' : w1.cell? ⟨w.heap.size, 0, none⟩ = some (.int .i64 n) := (HG.out.below hb HG.out.lt).cell 0
      have g1' : w1.cell? ⟨w.heap.size, 1, none⟩ = some (.slice a L.length cap) := (HG.out.below hb HG.out.lt).cell 1
      clear hb
      go_wp2_with fail
      refine (HZ2.out _ HE1.out).mono ?_
      rintro e w2 ⟨rfl, hb2⟩
      have HB2 := Lib.hid (HB1.out.trans (hb2.mono HB1.out.size))
      clear hb2
      go_wp2
      go_ret
      exact ⟨by rw [HRR.out]; rfl, HB2.out⟩
    · have q0 : (((k : Nat) : Int) != 0) = true := by rw [bne_iff_ne]; omega
      have HRR : Hid (R = true) := Lib.hid (by rw [HLG.out, decide_eq_true hl, decide_eq_true hk]; rfl)
      clear hl hk
      go_enter Try.func12, Try.ntmps12
      go_wp2_with fail
      rw [← HW.out]
      refine (HC2.out _ HE.out).mono ?_
      rintro e w1 ⟨rfl, hb⟩
      have HB1 := Lib.hid (HB0.out.trans (hb.mono HB0.out.size))
      clear hb
      go_wp2
      go_ret
      exact ⟨by rw [HRR.out]; rfl, HB1.out⟩
  · have l1 : decide (((L.length : Nat) : Int) ≤ 40) = false := decide_eq_false (by omega)
    have HRR : Hid (R = false) := Lib.hid (by rw [HLG.out, decide_eq_false hl]; rfl)
    clear hl
    go_enter Try.func12, Try.ntmps12
    go_wp2
    rw [← HW.out]
    go_ret
    exact ⟨by rw [HRR.out]; rfl, HB0.out⟩
set_option maxHeartbeats 12800000 in
set_option maxRecDepth 100000 in
theorem right_any (n : Int) (a : Option Addr) (cap : Nat) (L : List E) (w : World) (h : EsAt w a L) :
    Calls Try.prog 48 #[gv n a L.length cap] w (GivesB w (rightG n L)) := by
  have HC : Hid (lightG n L = true → ∀ w, EsAt w a L → Calls Try.prog 14 #[gv n a L.length cap] w (GivesN w (chkG n L : Nat))) := Lib.hid (fun hl w h => rcheck_any n a cap L (by
    unfold lightG at hl
    have := (Bool.and_eq_true_iff.1 hl).1
    have := of_decide_eq_true this
    omega) w h)
  have HLI := Lib.hid (fun w h => light_any n a cap L w h)
  have HRG : Hid (rightG n L = (lightG n L && decide (chkG n L = 0))) := Lib.hid rfl
  unfold GivesB at *
  unfold GivesN gv at *
  obtain ⟨W, hW⟩ : ∃ W, W = w.alloc (Obj.cells #[.int .i64 n, .slice a L.length cap] 24) := ⟨_, rfl⟩
  have hB0 : Below w.heap.size w W := by rw [hW]; exact (Below.refl _ w).alloc (Nat.le_refl _) _
  have hG : Blk W w.heap.size 24 #[.int .i64 n, .slice a L.length cap] := by rw [hW]; exact Blk.new _ _ _
  have hWs : W.heap.size = w.heap.size + 1 := by rw [hW]; simp
  have HWS := Lib.hid hWs
  have HW := Lib.hid hW
  have HB0 := Lib.hid hB0
  have HG := Lib.hid hG
  have HE := Lib.hid (h.keep hB0)
  have g0 : W.cell? ⟨w.heap.size, 0, none⟩ = some (.int .i64 n) := hG.cell 0
  have g1 : W.cell? ⟨w.heap.size, 1, none⟩ = some (.slice a L.length cap) := hG.cell 1
  clear hB0 hG hW hWs
  generalize rightG n L = R at *
  generalize lightG n L = l at *
  generalize chkG n L = k at *
  clear h
  cases l
  · have HRR : Hid (R = false) := Lib.hid (by rw [HRG.out]; rfl)
    go_enter Try.func48, Try.ntmps48
    go_wp2_with fail
    rw [← HW.out]
    refine (HLI.out _ HE.out).mono ?_
    rintro e w1 ⟨rfl, hb⟩
    have HB1 := Lib.hid (HB0.out.trans (hb.mono HB0.out.size))
    clear hb
    go_wp2
    go_ret
    exact ⟨by rw [HRR.out]; rfl, HB1.out⟩
  · have HC2 := Lib.hid (HC.out rfl)
    have HRR : Hid (R = decide (k = 0)) := Lib.hid (by rw [HRG.out]; rfl)
    go_enter Try.func48, Try.ntmps48
    go_wp2_with fail
    rw [← HW.out]
    refine (HLI.out _ HE.out).mono ?_
    rintro e w1 ⟨rfl, hb⟩
    have HB1 := Lib.hid (HB0.out.trans (hb.mono HB0.out.size))
    have HE1 := Lib.hid (HE.out.keep hb)
    have g0' : w1.cell? ⟨w.heap.size, 0, none⟩ = some (.int .i64 n) := (HG.out.below hb HG.out.lt).cell 0
    have g1' : w1.cell? ⟨w.heap.size, 1, none⟩ = some (.slice a L.length cap) := (HG.out.below hb HG.out.lt).cell 1
    clear hb
    go_wp2_with fail
    refine (HC2.out _ HE1.out).mono ?_
    rintro e w2 ⟨rfl, hb2⟩
    have HB2 := Lib.hid (HB1.out.trans (hb2.mono HB1.out.size))
    clear hb2
    by_cases hk : k = 0
    · subst hk
      go_wp2
      go_ret
      exact ⟨by rw [HRR.out]; rfl, HB2.out⟩
    · have q0 : (((k : Nat) : Int) == 0) = false := by rw [beq_eq_false_iff_ne]; omega
      have HR2 : Hid (R = false) := Lib.hid (by rw [HRR.out]; exact decide_eq_false hk)
      clear hk
      go_wp2
      go_ret
      exact ⟨by rw [HR2.out]; rfl, HB2.out⟩
end Go.Proofs.Ytjaafneoinidkaa
