/- Walks of the numbers' functions: signs as numbers; texts of groups. -/
import Derived.Test.YtbmonfbbkmpdhaaDoorNe
namespace Go.Proofs.YtbmonfbbkmpdhaaDoor
open Go.RowKit Go.Proofs.Num

/-- Two boxes: an argument and a result. -/
theorem nm_zero (w : World) (a : Option Addr) (cap : Nat) : Nm w (.agg #[.bool false, .slice a 0 cap]) 0 := by
  refine ⟨_, rfl, ?_⟩
  unfold Wd
  rw [show (0 : Int).natAbs = 0 from rfl, dig_zero]
  exact Rd.nil _ _ _ _ _

theorem nm_unit (b : Bool) (w : World) (z : Int) (hz : z = if b then -1 else 1) : Nm (w.alloc (.cells #[.int .u64 1] 102)) (.agg #[.bool b, .slice (some ⟨w.heap.size, 0, none⟩) 1 1]) z := by
  refine Nm.mk' (by cases b <;> simp [hz]) ?_
  unfold Wd
  rw [show z.natAbs = 1 by cases b <;> simp [hz], dig_one (by omega) (by omega)]
  exact rd_one w 1

set_option maxHeartbeats 1600000 in
set_option maxRecDepth 100000 in
/-- number.signum -/
theorem nsignum_any (v : Value) (z : Int) (w : World) (h : Nm w v z) : Calls Tryd.prog 104 #[v] w (GivesNm w (sgn z)) := by
  obtain ⟨b, a, k, p, rfl⟩ := h.sh
  obtain ⟨hb, -, -, -⟩ := h.parts
  obtain ⟨W, hW, hA, hR, hBl, hsz⟩ := boxes2 w (.bool b) (.slice a k p) (.bool false) (.slice none 0 0)
  have HN : Hid (Nm W (.agg #[.bool b, .slice a k p]) z ∧ b = decide (z < 0)) := ⟨h.keep hBl, hb⟩
  have HW := Lib.hid hW
  have HA := Lib.hid hA
  have HR := Lib.hid hR
  have HSZ := Lib.hid hsz
  have e1 := hA.c0; have e2 := hA.c1
  clear hW hA hR hb h hsz
  by_cases hz : z = 0
  · have hs : sgn z = 0 := by rw [hz]; rfl
    have HS := Lib.hid hs
    clear hs hz
    go_enter Tryd.func104, Tryd.ntmps104
    go_wp2_with fail
    rw [← HW.out]
    go_wp2_with fail
    refine (nsign_any _ z _ HN.out.1).mono ?_
    rintro e w1 ⟨he, hb1⟩
    rw [HS.out] at he
    subst he
    have hR1 := HR.out.keep hb1
    have f1 := hR1.c0; have f2 := hR1.c1; have f3 := hR1.f0 0; have f4 := hR1.f0 1; have f5 := hR1.lt
    have HR1 := Lib.hid hR1
    clear hR1
    go_wp2
    refine bodyPost_ret (v := .agg #[.bool false, .slice none 0 0]) (by simp [results, Tryd.results104, go_sem, f1, f2]) rfl ⟨_, rfl, ?_, ?_⟩
    · rw [HS.out]; exact nm_zero _ _ _
    · exact ((hBl.trans (hb1.mono hBl.size)).setCell (by simp) _).setCell (by simp) _
  · have hs : (sgn z == 0) = false := by
      rcases (show z < 0 ∨ 0 < z by omega) with h | h
      · rw [sgn_neg h]; rfl
      · rw [sgn_pos h]; rfl
    have hsg : sgn z = if b then -1 else 1 := by
      rw [HN.out.2]
      rcases (show z < 0 ∨ 0 < z by omega) with h | h
      · rw [sgn_neg h]; simp [h]
      · rw [sgn_pos h]; simp; omega
    have HSG := Lib.hid hsg
    obtain ⟨sz, hsz'⟩ : ∃ s, s = sgn z := ⟨_, rfl⟩
    rw [← hsz'] at hs
    have HS := Lib.hid hsz'
    clear hsg hsz'
    go_enter Tryd.func104, Tryd.ntmps104
    go_wp2_with fail
    rw [← HW.out]
    go_wp2_with fail
    refine (nsign_any _ z _ HN.out.1).mono ?_
    rintro e w1 ⟨he, hb1⟩
    rw [← HS.out] at he
    subst he
    have hA1 := HA.out.keep hb1
    have d1 := hA1.c0; have d2 := hA1.c1
    have hR2 := (HR.out.keep hb1).alloc (.cells #[.int .u64 1] 102)
    have f1 := (HR.out.keep hb1).c0; have f2 := (HR.out.keep hb1).c1; have f3 := (HR.out.keep hb1).f0 0; have f4 := (HR.out.keep hb1).f0 1; have f5 := (HR.out.keep hb1).lt
    have HR2 := Lib.hid hR2
    clear hA1 hR2
    go_wp2
    have hx := (((HR.out.keep hb1).set0 (.bool b)).set1 (.slice (some ⟨w1.heap.size, 0, none⟩) 1 1)).alloc (.cells #[.int .u64 1] 102)
    have r1 := hx.c0; have r2 := hx.c1
    refine bodyPost_ret (v := .agg #[.bool b, .slice (some ⟨w1.heap.size, 0, none⟩) 1 1]) (by simp [results, Tryd.results104, go_sem, r1, r2]) rfl ⟨_, rfl, ?_, ?_⟩
    · have h1 := nm_unit b ((w1.setCell ⟨w.heap.size + 1, 0, none⟩ (.bool b)).setCell ⟨w.heap.size + 1, 1, none⟩ (.slice (some ⟨w1.heap.size, 0, none⟩) 1 1)) _ HSG.out
      rw [show ((w1.setCell ⟨w.heap.size + 1, 0, none⟩ (.bool b)).setCell ⟨w.heap.size + 1, 1, none⟩ (.slice (some ⟨w1.heap.size, 0, none⟩) 1 1)).heap.size = w1.heap.size by simp [World.setCell]] at h1
      exact h1
    · exact (((hBl.trans (hb1.mono hBl.size)).setCell (by show w.heap.size ≤ w.heap.size + 1; omega) _).setCell (by show w.heap.size ≤ w.heap.size + 1; omega) _).alloc (Nat.le_trans (Nat.le_trans hBl.size hb1.size) (by simp [World.setCell])) _
end Go.Proofs.YtbmonfbbkmpdhaaDoor
