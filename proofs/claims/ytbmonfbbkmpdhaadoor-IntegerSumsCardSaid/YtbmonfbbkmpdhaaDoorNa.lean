/- Walks of the numbers' functions. -/
import Derived.Test.YtbmonfbbkmpdhaaDoorWe
import Derived.Deep.RegionHeld3
import Derived.Deep.DeepMust
import Derived.Outline
namespace Go.Proofs.YtbmonfbbkmpdhaaDoor
open Go.RowKit Go.Proofs.Num

/-- A number with its sign, as a value. -/
def Nm (w : World) (v : Value) (z : Int) : Prop := ∃ sv, v = .agg #[.bool (decide (z < 0)), sv] ∧ Wd w sv z.natAbs
theorem Nm.keep {w w' : World} {v : Value} {z : Int} (h : Nm w v z) (hb : Below w.heap.size w w') : Nm w' v z := by
  obtain ⟨sv, rfl, h⟩ := h; exact ⟨sv, rfl, h.keep hb⟩
def GivesNm (w : World) (z : Int) (e : Ending) (w' : World) : Prop := ∃ v, e = .returned v ∧ Nm w' v z ∧ Below w.heap.size w w'

theorem below1 (w : World) (o : Obj) : Below w.heap.size w (w.alloc o) := (Below.refl _ _).alloc (Nat.le_refl _) o

/-- signed: the number of this size; a zero is not negative. -/
theorem signed_any (b : Bool) (a : Option Addr) (k c : Nat) (w : World) : Calls Tryd.prog 89 #[.bool b, .slice a k c] w fun e w' => e = .returned (.agg #[.bool (b && decide (0 < k)), .slice a k c]) ∧ Below w.heap.size w w' := by
  cases b
  · go_enter Tryd.func89, Tryd.ntmps89
    go_wp2
    exact bodyPost_ret (v := .agg #[.bool false, .slice a k c]) (by simp [results, Tryd.results89, go_sem]) rfl ⟨rfl, below1 _ _⟩
  · by_cases hk : 0 < k
    · have hk' : decide (0 < k) = true := by simpa using hk
      go_enter Tryd.func89, Tryd.ntmps89
      go_wp2
      exact bodyPost_ret (v := .agg #[.bool true, .slice a k c]) (by simp [results, Tryd.results89, go_sem]) rfl ⟨by rw [hk']; rfl, below1 _ _⟩
    · have hk' : decide (0 < k) = false := by simpa using hk
      go_enter Tryd.func89, Tryd.ntmps89
      go_wp2
      exact bodyPost_ret (v := .agg #[.bool false, .slice a k c]) (by simp [results, Tryd.results89, go_sem]) rfl ⟨by rw [hk']; rfl, below1 _ _⟩

/-- number.sign -/
theorem nsign_any (v : Value) (z : Int) (w : World) (h : Nm w v z) : Calls Tryd.prog 52 #[v] w fun e w' => e = .returned (.int .i64 (sgn z)) ∧ Below w.heap.size w w' := by
  obtain ⟨sv, rfl, hw⟩ := h
  obtain ⟨a, cap, rfl⟩ := Rd.shape hw
  have hlen : (dig 1000000000 z.natAbs).length = 0 ↔ z = 0 := by
    rw [List.length_eq_zero_iff, dig_eq_nil (by omega)]; omega
  generalize (dig 1000000000 z.natAbs).length = k at *
  clear hw
  rcases (show z < 0 ∨ z = 0 ∨ 0 < z by omega) with h | h | h
  · have e1 : decide (z < 0) = true := by simpa using h
    have e2 : sgn z = -1 := by unfold sgn; rw [if_pos h]
    rw [e1, e2]
    clear hlen e1 e2 h
    go_enter Tryd.func52, Tryd.ntmps52
    go_wp2
    go_ret
    exact ⟨rfl, below1 _ _⟩
  · obtain rfl : k = 0 := hlen.2 h
    have e1 : decide (z < 0) = false := by simp; omega
    have e2 : sgn z = 0 := by unfold sgn; rw [if_neg (by omega), if_neg (by omega)]
    rw [e1, e2]
    clear hlen e1 e2 h
    go_enter Tryd.func52, Tryd.ntmps52
    go_wp2
    go_ret
    exact ⟨rfl, below1 _ _⟩
  · have hk : 0 < k := by rcases Nat.eq_zero_or_pos k with h0 | h0; (have := hlen.1 h0; omega); exact h0
    have hk0 : ((k : Int) == 0) = false := by simp; omega
    have e1 : decide (z < 0) = false := by simp; omega
    have e2 : sgn z = 1 := by unfold sgn; rw [if_neg (by omega), if_pos h]
    rw [e1, e2]
    clear hlen e1 e2 h
    go_enter Tryd.func52, Tryd.ntmps52
    go_wp2
    go_ret
    exact ⟨rfl, below1 _ _⟩

/-- number.opposite -/
theorem nopposite_any (v : Value) (z : Int) (w : World) (h : Nm w v z) : Calls Tryd.prog 66 #[v] w (GivesNm w (-z)) := by
  obtain ⟨sv, rfl, hw⟩ := h
  obtain ⟨a, cap, rfl⟩ := Rd.shape hw
  have hlen : (dig 1000000000 z.natAbs).length = 0 ↔ z = 0 := by
    rw [List.length_eq_zero_iff, dig_eq_nil (by omega)]; omega
  have hfin : ∀ w', Below w.heap.size w w' → GivesNm w (-z) (.returned (.agg #[.bool (!decide (z < 0) && decide (0 < (dig 1000000000 z.natAbs).length)), .slice a (dig 1000000000 z.natAbs).length cap])) w' := by
    intro w' hb
    refine ⟨_, rfl, ⟨_, ?_, by rw [Int.natAbs_neg]; exact hw.keep hb⟩, hb⟩
    have e : (!decide (z < 0) && decide (0 < (dig 1000000000 z.natAbs).length)) = decide (-z < 0) := ?_
    · rw [e]
    rw [Bool.eq_iff_iff]
    simp
    omega
  have HF := Lib.hid hfin
  generalize (dig 1000000000 z.natAbs).length = k at *
  clear hfin hw hlen
  go_enter Tryd.func66, Tryd.ntmps66
  go_wp2_with (go_at_call 89; refine (signed_any _ _ _ _ _).mono ?_; rintro e w' ⟨rfl, hb⟩; have hz := hb.size; have hf := hb.frozen (p := ⟨w.heap.size + 1, 0, none⟩) (by simp); have hf1 := hb.frozen (p := ⟨w.heap.size + 1, 1, none⟩) (by simp); have hc := hb.cell (p := ⟨w.heap.size + 1, 0, none⟩) (by simp); have hc1 := hb.cell (p := ⟨w.heap.size + 1, 1, none⟩) (by simp))
  refine bodyPost_ret (v := .agg #[.bool (!decide (z < 0) && decide (0 < k)), .slice a k cap]) (by simp [results, Tryd.results66, go_sem, hc, hc1]) rfl (HF.out _ ?_)
  exact ((((below1 w _).alloc (by simp) _).trans (hb.mono (by simp; omega))).setCell (by simp) _).setCell (by simp) _
end Go.Proofs.YtbmonfbbkmpdhaaDoor
