/- Walks of the words' functions: quotients of all numbers. -/
import Derived.Test.YtbmonfbbkmpdhaaDoorKf
namespace Go.Proofs.YtbmonfbbkmpdhaaDoor
open Go.RowKit Go.Proofs.Num

theorem wdivide_long (v1 v2 : Value) (m n : Nat) (w : World) (h1 : Wd w v1 m) (h2 : Wd w v2 n) (hl : 2 ≤ (dig 1000000000 n).length) (hge : n ≤ m) (hm : (dig 1000000000 m).length ≤ 1073741823) :
    Calls Tryd.prog 103 #[v1, v2] w (Gives2 w (m / n) (m % n)) := by
  have H1 := h1
  have H2 := h2
  obtain ⟨a1, k1, p1, rfl⟩ := Rd.sh h1
  obtain ⟨a2, k2, p2, rfl⟩ := Rd.sh h2
  have hk2 := (Wd.len H2).1
  have hc : decide (cmpN m n < 0) = false := by unfold cmpN; rw [if_neg (by omega)]; split <;> simp
  have hk1 : ((k2 : Int) == 1) = false := by simp; omega
  have HL : Hid ((dig 1000000000 m).length ≤ 4294967295 ∧ (dig 1000000000 n).length ≤ 4294967295 ∧ 2 ≤ (dig 1000000000 n).length ∧ n ≤ m ∧ (dig 1000000000 m).length ≤ 1073741823) :=
    ⟨by omega, by have := dig_length_mono (b := 1000000000) (by omega) hge; omega, hl, hge, hm⟩
  clear hk2 hm hl hge
  go_enter Tryd.func103, Tryd.ntmps103
  go_wp2_with fail
  refine (wcompare_any _ _ m n _ h1 H2 HL.out.1 HL.out.2.1).mono ?_
  rintro e w' ⟨he, kk, rfl⟩
  generalize cmpN m n = cc at *
  subst he
  go_wp2_with fail
  refine (divideLong_any _ _ m n _ (h1.keep (below_drewN (Below.refl _ _) kk)) (H2.keep (below_drewN (Below.refl _ _) kk)) HL.out.2.2.1 HL.out.2.2.2.1 HL.out.2.2.2.2).mono ?_
  rintro e w1 ⟨q1, r1, rfl, hq, hr, hb⟩
  obtain ⟨a3, k3, p3, rfl⟩ := Rd.sh hq
  obtain ⟨a4, k4, p4, rfl⟩ := Rd.sh hr
  go_wp2
  go_ret2
  exact ⟨_, _, rfl, hq, hr, (below_drewN (Below.refl _ _) kk).trans hb⟩

/-- words.divide: all divisors. -/
theorem divTo_all (M : Nat) : DivTo M := by
  intro v1 v2 m n w h1 h2 h0 hn hm hl
  rcases Nat.lt_or_ge m n with h | h
  · exact wdivide_lt v1 v2 m n w h1 h2 h hm hl
  · rcases Nat.lt_or_ge n 1000000000 with hs | hs
    · exact wdivide_word v1 v2 m n w h1 h2 h0 hs h hm
    · refine wdivide_long v1 v2 m n w h1 h2 ?_ h hm
      apply Classical.byContradiction
      intro hlt
      have h3 := lt_pow_dig (b := 1000000000) (by omega) n
      have h4 : 1000000000 ^ (dig 1000000000 n).length ≤ 1000000000 ^ 1 := Nat.pow_le_pow_right (by omega) (by omega)
      rw [Nat.pow_one] at h4
      omega
end Go.Proofs.YtbmonfbbkmpdhaaDoor
