/- Long division: one step on lists; dividing nothing by a word. -/
import Derived.Test.YtbmonfbbkmpdhaaDoorKd
namespace Go.Proofs.YtbmonfbbkmpdhaaDoor
open Go.RowKit Go.Proofs.Num

theorem val_of_drop {b : Nat} (l : List Nat) (k : Nat) (hk : k ≤ l.length) (h : val b (l.drop k) = 0) : val b l = val b (l.take k) := by
  have h1 := val_append b (l.take k) (l.drop k)
  rw [List.take_append_drop, h] at h1
  omega

theorem lng_gs {v : List Nat} {W L i m : Nat} {R Q : List Nat} (h : LngI v W L (i + 1) R Q) (hv : ∀ x ∈ v, x < 1000000000) (hi : i < L) (hm : v.length = m + 2) (ht : 500000000 ≤ nth v (m + 1)) :
    Gs m v ((R.drop i).take (m + 3)) ∧ val 1000000000 ((R.drop i).take (m + 3)) = val 1000000000 (R.drop i) := by
  obtain ⟨h1, h2, -⟩ := h.part hv hi
  rw [show v.length + 1 = m + 3 by omega] at h1
  refine ⟨⟨hm, ?_, hv, fun x hx => h.br x (List.mem_of_mem_drop (List.mem_of_mem_take hx)), ht, by rw [h1]; exact h2⟩, h1⟩
  rw [List.length_take, List.length_drop, h.lr]; omega

theorem lng_right {v : List Nat} {W L i word : Nat} {R Q o : List Nat} (h : LngI v W L (i + 1) R Q) (hv : ∀ x ∈ v, x < 1000000000) (hi : i < L) (hV : 0 < val 1000000000 v)
    (hI : RedI (R.drop i) v word (v.length + 1) 0 0 o) (hq : val 1000000000 (R.drop i) / val 1000000000 v ≤ word) (hw : word < 1000000000) : LngI v W L i (R.take i ++ o) (Q.set i word) := by
  obtain ⟨p1, p2, p3⟩ := h.part hv hi
  have hlen : v.length + 1 ≤ o.length := by rw [hI.1, List.length_drop, h.lr]; omega
  obtain ⟨-, e1, e2⟩ := redI_end hI
  have e3 : val 1000000000 o = val 1000000000 (o.take (v.length + 1)) := val_of_drop o _ hlen (by rw [e2]; exact p3)
  rw [p1, ← e3, Nat.zero_mul, Nat.add_zero] at e1
  obtain ⟨s1, s2⟩ := step_right hV e1 hq
  have := h.step hi hV hI.1 hI.2.1 s2 (by rw [← s1]; exact hw)
  rwa [← s1] at this

theorem lng_wrong {v : List Nat} {W L i word c : Nat} {R Q o o2 : List Nat} (h : LngI v W L (i + 1) R Q) (hv : ∀ x ∈ v, x < 1000000000) (hi : i < L) (hV : 0 < val 1000000000 v)
    (hI : RedI (R.drop i) v word (v.length + 1) 0 1 o) (hJ : RstI o v (v.length + 1) c o2) (hq : word ≤ val 1000000000 (R.drop i) / val 1000000000 v + 1) (hw : word < 1000000000) :
    1 ≤ word ∧ LngI v W L i (R.take i ++ o2) (Q.set i (word - 1)) := by
  obtain ⟨p1, p2, p3⟩ := h.part hv hi
  have hlen : v.length + 1 ≤ o.length := by rw [hI.1, List.length_drop, h.lr]; omega
  obtain ⟨-, e1, e2⟩ := redI_end hI
  obtain ⟨f1, f2⟩ := rstI_end hJ
  have e3 : val 1000000000 o2 = val 1000000000 (o2.take (v.length + 1)) := val_of_drop o2 _ (by rw [hJ.1]; exact hlen) (by rw [f2, e2]; exact p3)
  rw [p1, Nat.one_mul] at e1
  have b1 := val_take_lt (b := 1000000000) (by omega) o hI.2.1 (v.length + 1) hlen
  have b2 := val_take_lt (b := 1000000000) (by omega) o2 hJ.2.1 (v.length + 1) (by rw [hJ.1]; exact hlen)
  obtain ⟨s1, s2⟩ := step_wrong hV e1 b1 b2 hJ.2.2.1 f1 hq
  rw [← e3] at s2
  have := h.step hi hV (by rw [hJ.1]; exact hI.1) hJ.2.1 s2 (by omega)
  exact ⟨by rw [s1]; exact Nat.le_add_left 1 _, by rw [show word - 1 = val 1000000000 (R.drop i) / val 1000000000 v by rw [s1, Nat.add_sub_cancel]]; exact this⟩

set_option maxHeartbeats 3200000 in
set_option maxRecDepth 100000 in
theorem divideWord_none (a : Option Addr) (c v : Nat) (w : World) (hv0 : 1 ≤ v) (hv : v ≤ 1000000000) :
    Calls Tryd.prog 120 #[.slice a 0 c, .int .u64 v] w (Gives2 w 0 0) := by
  obtain ⟨i0, hi, hz0, hz1, hz2⟩ := info_parts info102
  have hvne : ((v : Int) == 0) = false := by simp; omega
  go_enter Tryd.func120, Tryd.ntmps120
  go_wp2_with (at_make; refine wpList_make_full _ rfl _ _ 71 rfl w.heap.size 102 i0 (.int .u64 0) 1 Tryd.underlying71 hi hz0 hz1 _ _ _ _ 0 rfl rfl (by omega) (by omega) ?b2 ?b3 (Nat.le_refl _) ?_)
  case b2 => rw [hz2]; omega
  case b3 => unfold maxLen; omega
  intro w0 hown0 hgrow0
  have hB : Below w.heap.size w w0 := (Below.refl _ _).grown hgrow0 (Nat.le_refl _) (fun k h => by cases h)
  clear hown0
  go_wp2
  refine wp_loop_rounds 1 ?_
  rw [rounds_succ]
  go_wp2_with fail
  refine (trim_nil _ _ _).mono ?_
  rintro e w' ⟨rfl, rfl⟩
  go_wp2_with fail
  refine (trim_any _ [0] _ (rd_one w0 0) (by intro x hx; simp at hx; omega) (by simp)).mono ?_
  rintro e w' ⟨v', rfl, hw2, rfl⟩
  obtain ⟨a2, cap2, rfl⟩ := Rd.shape hw2
  go_wp2
  go_ret2
  have h0 : val 1000000000 [0] = 0 := rfl
  exact ⟨_, _, rfl, by unfold Wd; rw [dig_zero]; exact Rd.nil _ _ _ _ _, by rw [h0] at hw2; exact hw2, hB.alloc hB.size _⟩
end Go.Proofs.YtbmonfbbkmpdhaaDoor
