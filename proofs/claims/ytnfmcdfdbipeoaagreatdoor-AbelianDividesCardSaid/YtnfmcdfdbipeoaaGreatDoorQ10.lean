/- Long division: the factor that makes the highest word large; rows of one's own as blocks; dividing nothing by a word; and: Long division: one step on lists; dividing nothing by a word. -/
import Derived.Test.YtnfmcdfdbipeoaaGreatDoorQ09
import Derived.Laws.CopyOwn
namespace Go.Proofs.YtnfmcdfdbipeoaaGreatDoor
open Go.RowKit Go.Proofs.Num

/-- The factor times the highest word is at least half of the base. -/
theorem factor_half {x f : Nat} (hx : 1 ≤ x) (hxB : x < 1000000000) (hf : f = 1000000000 / (x + 1)) : 1 ≤ f ∧ f ≤ 500000000 ∧ 500000000 ≤ x * f ∧ (x + 1) * f ≤ 1000000000 := by
  have h1 : f * (x + 1) ≤ 1000000000 := by rw [hf]; exact Nat.div_mul_le_self _ _
  have h2 : 1000000000 < (f + 1) * (x + 1) := by
    rw [hf, Nat.mul_comm]; exact Nat.lt_mul_div_succ 1000000000 (by omega)
  have h3 : 1 ≤ f := by
    rw [hf]; exact (Nat.le_div_iff_mul_le (by omega)).2 (by omega)
  have h4 : f ≤ 500000000 := by
    have : f * 2 ≤ f * (x + 1) := Nat.mul_le_mul_left _ (by omega)
    omega
  obtain ⟨a, rfl⟩ : ∃ a, x = a + 1 := ⟨x - 1, by omega⟩
  obtain ⟨b, rfl⟩ : ∃ b, f = b + 1 := ⟨f - 1, by omega⟩
  have e1 : (a + 1) * (b + 1) = a * b + a + b + 1 := by rw [Nat.add_mul, Nat.mul_add]; omega
  have e2 : (b + 1 + 1) * (a + 1 + 1) = a * b + 2 * a + 2 * b + 4 := by
    rw [Nat.add_mul, Nat.add_mul, Nat.mul_add, Nat.mul_add, Nat.mul_comm b a]; omega
  have e3 : (a + 1 + 1) * (b + 1) = (b + 1) * (a + 1 + 1) := Nat.mul_comm _ _
  rw [e2] at h2
  rw [e1, e3]
  have e4 : (b + 1) * (a + 1 + 1) = a * b + a + 2 * b + 2 := by rw [Nat.add_mul, Nat.mul_add, Nat.mul_add, Nat.mul_comm b a]; omega
  refine ⟨h3, h4, ?_, h1⟩
  clear hf e1 e2 e3 e4 h1
  generalize a * b = z at *
  omega

structure Lead (D f m : Nat) : Prop where
  f1 : 1 ≤ f
  f2 : f ≤ 500000000
  len : (dig 1000000000 (D * f)).length = m + 2
  top : 500000000 ≤ nth (dig 1000000000 (D * f)) (m + 1)
  low : f * 1000000000 ^ (m + 1) ≤ D * f

theorem lead_core {B C D f x V t lo lo2 : Nat} (_ : 0 < C) (hD : D = lo + C * x) (hlo : lo < C) (hV : V = D * f) (hVt : V = lo2 + C * t) (hlo2 : lo2 < C) (hx : 1 ≤ x) (hxf : (x + 1) * f ≤ B) (hf : 1 ≤ f) :
    V < C * B ∧ C ≤ V ∧ x * f ≤ t ∧ f * C ≤ V := by
  have h1 : C * x ≤ D := by omega
  have h2 : C * x * f ≤ V := by rw [hV]; exact Nat.mul_le_mul_right _ h1
  have h3 : D < C * (x + 1) := by rw [Nat.mul_add]; omega
  have h4 : V < C * (x + 1) * f := by rw [hV]; exact Nat.mul_lt_mul_of_pos_right h3 hf
  have h5 : C * ((x + 1) * f) ≤ C * B := Nat.mul_le_mul_left _ hxf
  rw [Nat.mul_assoc] at h4
  have h6 : C * 1 ≤ C * (x * f) := Nat.mul_le_mul_left _ (Nat.mul_pos hx hf)
  rw [Nat.mul_assoc] at h2
  have h7 : C * (1 * f) ≤ C * (x * f) := Nat.mul_le_mul_left _ (Nat.mul_le_mul_right _ hx)
  have h8 : x * f < t + 1 := by
    apply Nat.lt_of_mul_lt_mul_left (a := C)
    rw [Nat.mul_add C t 1]; omega
  refine ⟨by omega, by omega, by omega, ?_⟩
  rw [Nat.one_mul] at h7
  rw [Nat.mul_comm f C]; omega

theorem lead {D m x : Nat} (hl : (dig 1000000000 D).length = m + 2) (hx : x = nth (dig 1000000000 D) (m + 1)) (f : Nat) (hf : f = 1000000000 / (x + 1)) : Lead D f m := by
  have hn := dig_norm (b := 1000000000) (by omega) D
  have hx1 : 1 ≤ x := by
    rw [hx]
    have h1 := hn.2
    have h2 : dig 1000000000 D = (dig 1000000000 D).take (m + 1) ++ [nth (dig 1000000000 D) (m + 1)] := by
      rw [← take_succ_nth _ (m + 1) (by omega), ← hl, List.take_length]
    rw [h2, List.getLast?_concat] at h1
    simp at h1
    omega
  have hxB : x < 1000000000 := by rw [hx]; exact nth_lt (by omega) _ (dig9_lt D) _
  obtain ⟨g1, g2, g3, g4⟩ := factor_half hx1 hxB hf
  have hC : 0 < 1000000000 ^ (m + 1) := Nat.pow_pos (by omega)
  have hD : D = val 1000000000 ((dig 1000000000 D).take (m + 1)) + 1000000000 ^ (m + 1) * x := by
    have h1 := val_take_nth 1000000000 (dig 1000000000 D) (m + 1)
    rw [List.take_of_length_le (by omega), val_dig9, ← hx] at h1
    exact h1
  have hlo := val_take_lt (b := 1000000000) (by omega) (dig 1000000000 D) (dig9_lt D) (m + 1) (by omega)
  obtain ⟨k1, k2, -, k4⟩ := lead_core (V := D * f) (t := D * f / 1000000000 ^ (m + 1)) (lo2 := D * f % 1000000000 ^ (m + 1)) hC hD hlo rfl (by rw [Nat.mod_add_div]) (Nat.mod_lt _ hC) hx1 g4 g1
  have hlen : (dig 1000000000 (D * f)).length = m + 2 := by
    have u1 : (dig 1000000000 (D * f)).length ≤ m + 2 := dig_length_le (by omega) _ _ (by rw [Nat.pow_succ]; exact k1)
    have u2 : ¬ (dig 1000000000 (D * f)).length ≤ m + 1 := by
      intro h
      have h3 := lt_pow_dig (b := 1000000000) (by omega) (D * f)
      have h4 : 1000000000 ^ (dig 1000000000 (D * f)).length ≤ 1000000000 ^ (m + 1) := Nat.pow_le_pow_right (by omega) h
      exact absurd (Nat.lt_of_lt_of_le h3 h4) (Nat.not_lt.2 k2)
    omega
  have hVt : D * f = val 1000000000 ((dig 1000000000 (D * f)).take (m + 1)) + 1000000000 ^ (m + 1) * nth (dig 1000000000 (D * f)) (m + 1) := by
    have h1 := val_take_nth 1000000000 (dig 1000000000 (D * f)) (m + 1)
    rw [List.take_of_length_le (by omega), val_dig9] at h1
    exact h1
  have hlo2 := val_take_lt (b := 1000000000) (by omega) (dig 1000000000 (D * f)) (dig9_lt _) (m + 1) (by omega)
  obtain ⟨-, -, k3, -⟩ := lead_core hC hD hlo rfl hVt hlo2 hx1 g4 g1
  exact ⟨g1, g2, hlen, Nat.le_trans g3 k3, k4⟩

/-! ### Rows of one's own -/
theorem own_block {w : World} {B g N : Nat} {T : TypeId} {xs : List Value} (h : w.ownsRow B T 1 (.slice (some ⟨g, 0, none⟩) N N) N xs) : w.heap[g]? = some (.cells xs.toArray T (0, 0)) ∧ B ≤ g ∧ N ≤ maxLen ∧ xs.length = N := by
  obtain ⟨h1, h2⟩ := h
  rcases h2 with ⟨h2, _⟩ | ⟨g', cap, cur, h2, hb, hg, _, hm, hs, ht⟩
  · simp at h2
  · simp only [Value.slice.injEq, Option.some.injEq, Addr.mk.injEq, and_true, true_and] at h2
    obtain ⟨rfl, rfl⟩ := h2
    have h3 : cur.toList = xs := by
      rw [← ht, List.take_of_length_le (by simp; omega)]
    refine ⟨?_, hb, hm, by omega⟩
    rw [hg, ← h3]
theorem own_of {w : World} {B g N : Nat} {T : TypeId} {xs : List Value} (h : w.heap[g]? = some (.cells xs.toArray T (0, 0))) (hB : B ≤ g) (hN : xs.length = N) (hm : N ≤ maxLen) : w.ownsRow B T 1 (.slice (some ⟨g, 0, none⟩) N N) N xs :=
  ⟨by omega, .inr ⟨g, N, xs.toArray, rfl, hB, h, Nat.le_refl _, hm, by simp; omega, by show (xs.toArray.toList).take (N * 1) = xs; rw [List.take_of_length_le (by simp; omega)]⟩⟩

theorem own_sole {w w' : World} {B g h N : Nat} {T : TypeId} {xs : List Value} (ho : w.ownsRow B T 1 (.slice (some ⟨h, 0, none⟩) N N) N xs) (hs : Sole g w w') (hne : h ≠ g) : w'.ownsRow B T 1 (.slice (some ⟨h, 0, none⟩) N N) N xs := by
  obtain ⟨h1, h2, h3, h4⟩ := own_block ho
  exact own_of ((hs.block h hne).trans h1) h2 h4 h3

theorem own_below {w w' : World} {B h N : Nat} {T : TypeId} {xs : List Value} (ho : w.ownsRow B T 1 (.slice (some ⟨h, 0, none⟩) N N) N xs) (hb : Below w.heap.size w w') : w'.ownsRow B T 1 (.slice (some ⟨h, 0, none⟩) N N) N xs := by
  obtain ⟨h1, h2, h3, h4⟩ := own_block ho
  exact own_of ((hb.block h (Array.getElem?_eq_some_iff.1 h1).1).trans h1) h2 h4 h3

theorem splice_zeros (q : IntKind) (N : Nat) (l : List Nat) (_ : l.length ≤ N) : splice (cellsOf q (List.replicate N 0)) 0 (cellsOf q l) = cellsOf q (l ++ List.replicate (N - l.length) 0) := by
  unfold splice
  rw [List.take_zero, List.nil_append, cellsOf_append, cellsOf_length, Nat.zero_add]
  congr 1
  simp [cellsOf]

theorem val_zeros (b : Nat) (l : List Nat) (n : Nat) : val b (l ++ List.replicate n 0) = val b l := by rw [val_append, val_replicate_zero]; simp
end Go.Proofs.YtnfmcdfdbipeoaaGreatDoor

namespace Go.Proofs.YtnfmcdfdbipeoaaGreatDoor
open Go.RowKit Go.Proofs.Num

theorem val_of_drop {b : Nat} (l : List Nat) (k : Nat) (_ : k ≤ l.length) (h : val b (l.drop k) = 0) : val b l = val b (l.take k) := by
  have h1 := val_append b (l.take k) (l.drop k)
  rw [List.take_append_drop, h] at h1
  omega

theorem lng_gs {v : List Nat} {W L i m : Nat} {R Q : List Nat} (h : LngI v W L (i + 1) R Q) (hv : ∀ x ∈ v, x < 1000000000) (hi : i < L) (hm : v.length = m + 2) (ht : 500000000 ≤ nth v (m + 1)) :
    Gs m v ((R.drop i).take (m + 3)) ∧ val 1000000000 ((R.drop i).take (m + 3)) = val 1000000000 (R.drop i) := by
  obtain ⟨h1, h2, -⟩ := h.part hv hi
  rw [show v.length + 1 = m + 3 by omega] at h1
  refine ⟨⟨hm, ?_, hv, fun x hx => h.br x (List.mem_of_mem_drop (List.mem_of_mem_take hx)), ht, by rw [h1]; exact h2⟩, h1⟩
  rw [List.length_take, List.length_drop, h.lr]; omega

theorem lng_right {v : List Nat} {W L i word : Nat} {R Q o : List Nat} (h : LngI v W L (i + 1) R Q) (hv : ∀ x ∈ v, x < 1000000000) (hi : i < L) (hV : 0 < val 1000000000 v)
    (hI : RedI (R.drop i) v word (v.length + 1) 0 0 o) (hq : val 1000000000 (R.drop i) / val 1000000000 v ≤ word) (hw : word < 1000000000) : LngI v W L i (R.take i ++ o) (Q.set i word) := by
  obtain ⟨p1, p2, p3⟩ := h.part hv hi
  have hlen : v.length + 1 ≤ o.length := by rw [hI.1, List.length_drop, h.lr]; omega
  obtain ⟨-, e1, e2⟩ := redI_end hI
  have e3 : val 1000000000 o = val 1000000000 (o.take (v.length + 1)) := val_of_drop o _ hlen (by rw [e2]; exact p3)
  rw [p1, ← e3, Nat.zero_mul, Nat.add_zero] at e1
  obtain ⟨s1, s2⟩ := step_right hV e1 hq
  have := h.step hi hV hI.1 hI.2.1 s2 (by rw [← s1]; exact hw)
  rwa [← s1] at this

theorem lng_wrong {v : List Nat} {W L i word c : Nat} {R Q o o2 : List Nat} (h : LngI v W L (i + 1) R Q) (hv : ∀ x ∈ v, x < 1000000000) (hi : i < L) (hV : 0 < val 1000000000 v)
    (hI : RedI (R.drop i) v word (v.length + 1) 0 1 o) (hJ : RstI o v (v.length + 1) c o2) (hq : word ≤ val 1000000000 (R.drop i) / val 1000000000 v + 1) (hw : word < 1000000000) :
    1 ≤ word ∧ LngI v W L i (R.take i ++ o2) (Q.set i (word - 1)) := by
  obtain ⟨p1, p2, p3⟩ := h.part hv hi
  have hlen : v.length + 1 ≤ o.length := by rw [hI.1, List.length_drop, h.lr]; omega
  obtain ⟨-, e1, e2⟩ := redI_end hI
  obtain ⟨f1, f2⟩ := rstI_end hJ
  have e3 : val 1000000000 o2 = val 1000000000 (o2.take (v.length + 1)) := val_of_drop o2 _ (by rw [hJ.1]; exact hlen) (by rw [f2, e2]; exact p3)
  rw [p1, Nat.one_mul] at e1
  have b1 := val_take_lt (b := 1000000000) (by omega) o hI.2.1 (v.length + 1) hlen
  have b2 := val_take_lt (b := 1000000000) (by omega) o2 hJ.2.1 (v.length + 1) (by rw [hJ.1]; exact hlen)
  obtain ⟨s1, s2⟩ := step_wrong hV e1 b1 b2 hJ.2.2.1 f1 hq
  rw [← e3] at s2
  have := h.step hi hV (by rw [hJ.1]; exact hI.1) hJ.2.1 s2 (by omega)
  exact ⟨by rw [s1]; exact Nat.le_add_left 1 _, by rw [show word - 1 = val 1000000000 (R.drop i) / val 1000000000 v by rw [s1, Nat.add_sub_cancel]]; exact this⟩

set_option maxHeartbeats 3200000 in
set_option maxRecDepth 100000 in
theorem divideWord_none (a : Option Addr) (c v : Nat) (w : World) (hv0 : 1 ≤ v) (hv : v ≤ 1000000000) :
    Calls Tryz.prog 160 #[.slice a 0 c, .int .u64 v] w (Gives2 w 0 0) := by
  obtain ⟨i0, hi, hz0, hz1, hz2⟩ := info_parts info102
  have hvne : ((v : Int) == 0) = false := by simp; omega
  go_enter Tryz.func160, Tryz.ntmps160
  go_wp2_with (at_make; refine wpList_make_full _ rfl _ _ 102 rfl w.heap.size 135 i0 (.int .u64 0) 1 Tryz.underlying102 hi hz0 hz1 _ _ _ _ 0 rfl rfl (by omega) (by omega) ?b2 ?b3 (Nat.le_refl _) ?_)
  case b2 => rw [hz2]; omega
  case b3 => unfold maxLen; omega
  intro w0 hown0 hgrow0
  have hB : Below w.heap.size w w0 := (Below.refl _ _).grown hgrow0 (Nat.le_refl _) (fun k h => by cases h)
  clear hown0
  go_wp2
  refine wp_loop_rounds 1 ?_
  rw [rounds_succ]
  go_wp2_with fail
  refine (trim_nil _ _ _).mono ?_
  rintro e w' ⟨rfl, rfl⟩
  go_wp2_with fail
  refine (trim_any _ [0] _ (rd_one w0 0) (by intro x hx; simp at hx; omega) (by simp)).mono ?_
  rintro e w' ⟨v', rfl, hw2, rfl⟩
  obtain ⟨a2, cap2, rfl⟩ := Rd.shape hw2
  go_wp2
  go_ret2
  have h0 : val 1000000000 [0] = 0 := rfl
  exact ⟨_, _, rfl, by unfold Wd; rw [dig_zero]; exact Rd.nil _ _ _ _ _, by rw [h0] at hw2; exact hw2, hB.alloc hB.size _⟩
end Go.Proofs.YtnfmcdfdbipeoaaGreatDoor
