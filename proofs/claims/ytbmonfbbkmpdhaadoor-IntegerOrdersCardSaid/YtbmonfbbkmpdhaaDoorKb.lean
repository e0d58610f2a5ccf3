/- Walks of the words' functions: the guess of long division. -/
import Derived.Test.YtbmonfbbkmpdhaaDoorKa
namespace Go.Proofs.YtbmonfbbkmpdhaaDoor
open Go.RowKit Go.Proofs.Num

theorem cast10 (a b c : Nat) : (((a * 1000000000 + b) / c : Nat) : Int) = ((a : Int) * 1000000000 + b) / (c : Int) := by
  have h : ((a * 1000000000 + b : Nat) : Int) = (a : Int) * 1000000000 + b := by omega
  rw [Int.natCast_ediv, h]
theorem cast11 (a b c : Nat) : (((a * 1000000000 + b) % c : Nat) : Int) = ((a : Int) * 1000000000 + b) % (c : Int) := by
  have h : ((a * 1000000000 + b : Nat) : Int) = (a : Int) * 1000000000 + b := by omega
  rw [Int.natCast_emod, h]

theorem prod_le {x y a b : Nat} (hx : x ≤ a) (hy : y ≤ b) : ((x : Nat) : Int) * ((y : Nat) : Int) ≤ ((a * b : Nat) : Int) := by
  rw [← Int.natCast_mul]; exact Int.ofNat_le.2 (Nat.mul_le_mul hx hy)

set_option maxHeartbeats 3200000 in
set_option maxRecDepth 100000 in
/-- words.guess -/
theorem guess_any (m : Nat) (v p : List Nat) (hG : Gs m v p) (hm : m ≤ 2147483647) (b1 o1 c1 b2 o2 c2 : Nat) (w : World)
    (h1 : ∀ j, j < m + 3 → w.cell? ⟨b1, o1 + j, none⟩ = some (.int .u64 ((nth p j : Nat) : Int))) (h2 : ∀ j, j < m + 2 → w.cell? ⟨b2, o2 + j, none⟩ = some (.int .u64 ((nth v j : Nat) : Int))) :
    Calls Tryd.prog 129 #[.slice (some ⟨b1, o1, none⟩) (m + 3) c1, .slice (some ⟨b2, o2, none⟩) (m + 2) c2] w fun e w' => (∃ word : Nat, e = .returned (.int .u64 word) ∧ word < 1000000000 ∧ val 1000000000 p / val 1000000000 v ≤ word ∧ word ≤ val 1000000000 p / val 1000000000 v + 1) ∧ ∃ n, w' = w.drewN n := by
  have x1 := h1 (m + 2) (by omega)
  have x2 := h1 (m + 1) (by omega)
  have x3 := h1 m (by omega)
  have y1 := h2 (m + 1) (by omega)
  have y2 := h2 m (by omega)
  have e1 := nth_lt (b := 1000000000) (by omega) p hG.bp (m + 2)
  have e2 := nth_lt (b := 1000000000) (by omega) p hG.bp (m + 1)
  have e3 := nth_lt (b := 1000000000) (by omega) p hG.bp m
  have e4 := nth_lt (b := 1000000000) (by omega) v hG.bv (m + 1)
  have e5 := nth_lt (b := 1000000000) (by omega) v hG.bv m
  have e6 := hG.top
  have hne : (((nth v (m + 1) : Nat) : Int) == 0) = false := by simp; omega
  have HI0 := Lib.hid (guI_zero hG)
  have HG := Lib.hid hG
  clear h1 h2 hG
  go_enter Tryd.func129, Tryd.ntmps129
  go_wp2
  go_quiet (fail)
  go_wp2
  go_quiet (fail)
  go_wp2
  go_loopw [7, 8] (fun sw sr wr => ∃ (word rest : Nat), sw = .int .u64 word ∧ sr = .int .u64 rest ∧ GuI m v p word rest ∧ ∃ n, wr = w.drewN n) (fun sw _ _ => (intOf sw).toNat)
  case atStart => exact ⟨_, _, by rw [cast10], by rw [cast11], HI0.out, _, World.drewN_drewN _ _ _⟩
  case round =>
    obtain ⟨word, rest, rfl, rfl, hI, n, rfl⟩ := hrel
    obtain ⟨i1, i2, i3, i4⟩ := hI
    have hI : GuI m v p word rest := ⟨i1, i2, i3, i4⟩
    clear i1 i2
    have pb := prod_le i3 (Nat.le_of_lt e5)
    have pb0 : 0 ≤ ((word : Nat) : Int) * ((nth v m : Nat) : Int) := by rw [← Int.natCast_mul]; omega
    by_cases hr : rest < 1000000000
    · have hr1 : decide (((rest : Nat) : Int) < 1000000000) = true := by simp; omega
      by_cases hw : 1000000000 ≤ word
      · have hw1 : decide ((1000000000 : Int) ≤ ((word : Nat) : Int)) = true := by simp; omega
        obtain ⟨hs1, hs2⟩ := guI_step HG.out hI hr (.inl hw)
        have HS := Lib.hid hs2
        clear hI hs2
        go_wp2
        go_quiet (fail)
        go_wp2
        go_roundw
        case rel => exact ⟨word - 1, rest + nth v (m + 1), by go_num, by go_num, HS.out, by first | exact ⟨_, rfl⟩ | exact ⟨_, World.drewN_drewN _ _ _⟩⟩
        case measure => simp [intOf]; omega
      · have hw1 : decide ((1000000000 : Int) ≤ ((word : Nat) : Int)) = false := by simp; omega
        by_cases hp : rest * 1000000000 + nth p m < word * nth v m
        · have hp1 : decide (((rest : Nat) : Int) * 1000000000 + ((nth p m : Nat) : Int) < ((word : Nat) : Int) * ((nth v m : Nat) : Int)) = true := by
            rw [← Int.natCast_mul]; simp; omega
          obtain ⟨hs1, hs2⟩ := guI_step HG.out hI hr (.inr hp)
          have HS := Lib.hid hs2
          clear hI hs2 hp
          go_wp2
          go_quiet (fail)
          go_wp2
          go_roundw
          case rel => exact ⟨word - 1, rest + nth v (m + 1), by go_num, by go_num, HS.out, by first | exact ⟨_, rfl⟩ | exact ⟨_, World.drewN_drewN _ _ _⟩⟩
          case measure => simp [intOf]; omega
        · have hp1 : decide (((rest : Nat) : Int) * 1000000000 + ((nth p m : Nat) : Int) < ((word : Nat) : Int) * ((nth v m : Nat) : Int)) = false := by
            rw [← Int.natCast_mul]; simp; omega
          have HE := Lib.hid (guI_end HG.out hI (.inr ⟨by omega, by omega⟩))
          clear hI hp
          go_wp2
          go_quiet (fail)
          go_wp2
          go_ret
          exact ⟨⟨word, rfl, HE.out⟩, by first | exact ⟨_, rfl⟩ | exact ⟨_, World.drewN_drewN _ _ _⟩⟩
    · have hr1 : decide (((rest : Nat) : Int) < 1000000000) = false := by simp; omega
      have HE := Lib.hid (guI_end HG.out hI (.inl (by omega)))
      clear hI
      go_wp2
      go_quiet (fail)
      go_wp2
      go_ret
      exact ⟨⟨word, rfl, HE.out⟩, by first | exact ⟨_, rfl⟩ | exact ⟨_, World.drewN_drewN _ _ _⟩⟩
end Go.Proofs.YtbmonfbbkmpdhaaDoor
