/- Walks of the numbers' functions: quotients. -/
import Derived.Test.YtbmonfbbkmpdhaaDoorNc
namespace Go.Proofs.YtbmonfbbkmpdhaaDoor
open Go.RowKit Go.Proofs.Num

/-- The contract of words.divide for divisors up to M. -/
def DivTo (M : Nat) : Prop := ∀ (v1 v2 : Value) (m n : Nat) (w : World), Wd w v1 m → Wd w v2 n → 0 < n → n ≤ M → (dig 1000000000 m).length ≤ 1073741823 → (dig 1000000000 n).length ≤ 1073741823 →
  Calls Tryd.prog 103 #[v1, v2] w (Gives2 w (m / n) (m % n))

theorem DivTo.le {M N : Nat} (h : DivTo M) (hN : N ≤ M) : DivTo N := fun v1 v2 m n w h1 h2 h3 h4 => h v1 v2 m n w h1 h2 h3 (Nat.le_trans h4 hN)

theorem wdivide_lt (v1 v2 : Value) (m n : Nat) (w : World) (h1 : Wd w v1 m) (h2 : Wd w v2 n) (hlt : m < n) (hm : (dig 1000000000 m).length ≤ 1073741823) (hn : (dig 1000000000 n).length ≤ 1073741823) :
    Calls Tryd.prog 103 #[v1, v2] w (Gives2 w (m / n) (m % n)) := by
  have H1 := h1
  obtain ⟨a1, k1, p1, rfl⟩ := Rd.sh h1
  obtain ⟨a2, k2, p2, rfl⟩ := Rd.sh h2
  have hc : cmpN m n = -1 := by unfold cmpN; rw [if_pos hlt]
  have HC := Lib.hid hc
  have HL : Hid ((dig 1000000000 m).length ≤ 4294967295 ∧ (dig 1000000000 n).length ≤ 4294967295 ∧ m < n) := ⟨by omega, by omega, hlt⟩
  clear hc hm hn hlt
  go_enter Tryd.func103, Tryd.ntmps103
  go_wp2_with fail
  refine (wcompare_any _ _ m n _ h1 h2 HL.out.1 HL.out.2.1).mono ?_
  rintro e w' ⟨he, kk, rfl⟩
  rw [HC.out] at he
  subst he
  go_wp2
  go_ret2
  refine ⟨_, _, rfl, ?_, ?_, below_drewN (Below.refl _ _) kk⟩
  · rw [Nat.div_eq_of_lt HL.out.2.2]; unfold Wd; rw [dig_zero]; exact Rd.nil _ _ _ _ _
  · rw [Nat.mod_eq_of_lt HL.out.2.2]; exact h1.keep (below_drewN (Below.refl _ _) kk)

theorem dig_one {n : Nat} (h0 : 0 < n) (h : n < 1000000000) : dig 1000000000 n = [n] := by
  rw [dig_pos (by omega) (by omega), Nat.mod_eq_of_lt h, Nat.div_eq_of_lt h, dig_zero]

theorem wdivide_word (v1 v2 : Value) (m n : Nat) (w : World) (h1 : Wd w v1 m) (h2 : Wd w v2 n) (h0 : 0 < n) (hs : n < 1000000000) (hge : n ≤ m) (hm : (dig 1000000000 m).length ≤ 1073741823) :
    Calls Tryd.prog 103 #[v1, v2] w (Gives2 w (m / n) (m % n)) := by
  obtain ⟨a1, k1, p1, rfl⟩ := Rd.sh h1
  have hd := dig_one h0 hs
  have H2 := h2
  unfold Wd at h2
  rw [hd] at h2
  rcases h2 with ⟨h, _⟩ | ⟨b, off, cap, rfl, h⟩
  · cases h
  have hcell := h.cell 0 (by simp)
  have hn0 : nth [n] 0 = n := rfl
  rw [hn0, Nat.add_zero] at hcell
  have hc : decide (cmpN m n < 0) = false := by unfold cmpN; rw [if_neg (by omega)]; split <;> simp
  have HL : Hid ((dig 1000000000 m).length ≤ 4294967295 ∧ (dig 1000000000 n).length ≤ 4294967295 ∧ m ≠ 0 ∧ 1 ≤ n ∧ n ≤ 1000000000) := ⟨by omega, by rw [hd]; simp, by omega, by omega, by omega⟩
  have hcw : ∀ kk, (w.drewN kk).cell? ⟨b, off, none⟩ = some (.int .u64 (n : Int)) := fun kk => by rw [World.cell?_drewN]; exact hcell
  have HH : Hid (RdAt .u64 102 w b off cap [n]) := h
  clear hd hn0 hm h0 hs hge h
  rw [show [n].length = 1 from rfl] at H2 ⊢
  go_enter Tryd.func103, Tryd.ntmps103
  go_wp2_with fail
  refine (wcompare_any _ _ m n _ h1 H2 HL.out.1 HL.out.2.1).mono ?_
  rintro e w' ⟨he, kk, rfl⟩
  generalize cmpN m n = cc at *
  subst he
  have hcw := hcw kk
  go_wp2_with fail
  refine (wdivideWord_any _ m n _ (h1.keep (below_drewN (Below.refl _ _) kk)) HL.out.1 HL.out.2.2.1 HL.out.2.2.2.1 HL.out.2.2.2.2).mono ?_
  rintro e w1 ⟨q1, r1, rfl, hq, hr, hb⟩
  obtain ⟨a3, k3, p3, rfl⟩ := Rd.sh hq
  obtain ⟨a4, k4, p4, rfl⟩ := Rd.sh hr
  go_wp2
  go_ret2
  exact ⟨_, _, rfl, hq, hr, (below_drewN (Below.refl _ _) kk).trans hb⟩

theorem divTo_word : DivTo 999999999 := by
  intro v1 v2 m n w h1 h2 h0 hn hm hl
  rcases Nat.lt_or_ge m n with h | h
  · exact wdivide_lt v1 v2 m n w h1 h2 h hm hl
  · exact wdivide_word v1 v2 m n w h1 h2 h0 (by omega) h hm
end Go.Proofs.YtbmonfbbkmpdhaaDoor
