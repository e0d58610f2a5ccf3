/- Walks of the words' functions: dividing by one word; digits. -/
import Derived.Test.YtbmonfbbkmpdhaaDoorWd
namespace Go.Proofs.YtbmonfbbkmpdhaaDoor
open Go.RowKit Go.Proofs.Num

theorem val_drop (b : Nat) (l : List Nat) (k : Nat) (hk : k < l.length) : val b (l.drop k) = nth l k + b * val b (l.drop (k + 1)) := by
  rw [List.drop_eq_getElem_cons hk, val_cons, nth, getD_get l k hk]

def DivI (l : List Nat) (v k r : Nat) (q : List Nat) : Prop :=
  q.length = l.length ∧ (∀ x ∈ q, x < 1000000000) ∧ r < v ∧ val 1000000000 (l.drop k) = val 1000000000 (q.drop k) * v + r

theorem divI_zero (l : List Nat) (v : Nat) (hv : 0 < v) : DivI l v l.length 0 (List.replicate l.length 0) :=
  ⟨by simp, fun x hx => by have := List.eq_of_mem_replicate hx; omega, hv, by rw [List.drop_of_length_le (Nat.le_refl _), List.drop_of_length_le (by simp)]; simp [val_nil]⟩

theorem divI_step {l : List Nat} {v k r : Nat} {q : List Nat} (h : DivI l v (k + 1) r q) (hl : ∀ x ∈ l, x < 1000000000) (hk : k < l.length) :
    DivI l v k ((r * 1000000000 + nth l k) % v) (q.set k ((r * 1000000000 + nth l k) / v)) := by
  obtain ⟨h1, h2, h3, h4⟩ := h
  have hx := nth_lt (b := 1000000000) (by omega) l hl k
  have hq : (r * 1000000000 + nth l k) / v < 1000000000 := by
    rw [Nat.div_lt_iff_lt_mul (by omega)]
    have : (r + 1) * 1000000000 ≤ v * 1000000000 := Nat.mul_le_mul_right _ h3
    rw [Nat.mul_comm 1000000000 v]; omega
  refine ⟨by simp [h1], mem_set_lt h2 hq, Nat.mod_lt _ (by omega), ?_⟩
  rw [val_drop _ l k hk, h4, val_drop _ (q.set k _) k (by simp; omega), nth_set_same _ _ _ (by omega)]
  have e : (q.set k ((r * 1000000000 + nth l k) / v)).drop (k + 1) = q.drop (k + 1) := by
    rw [List.drop_set]; simp
  rw [e]
  have h5 := Nat.mod_add_div (r * 1000000000 + nth l k) v
  generalize (r * 1000000000 + nth l k) / v = d at *
  generalize (r * 1000000000 + nth l k) % v = m at *
  generalize val 1000000000 (q.drop (k + 1)) = Q at *
  have : (d + 1000000000 * Q) * v = v * d + 1000000000 * (Q * v) := by rw [Nat.add_mul, Nat.mul_comm d, Nat.mul_assoc]
  omega

theorem divI_end {l : List Nat} {v r : Nat} {q : List Nat} (h : DivI l v 0 r q) : val 1000000000 q = val 1000000000 l / v ∧ r = val 1000000000 l % v := by
  obtain ⟨_, _, h3, h4⟩ := h
  simp only [List.drop_zero] at h4
  have h5 : val 1000000000 l / v = val 1000000000 q := by
    rw [h4, Nat.mul_comm, Nat.mul_add_div (by omega), Nat.div_eq_of_lt h3]; omega
  have h6 : val 1000000000 l % v = r := by
    rw [h4, Nat.mul_comm, Nat.mul_add_mod, Nat.mod_eq_of_lt h3]
  exact ⟨h5.symm, h6.symm⟩

def Gives2 (w : World) (q r : Nat) (e : Ending) (w' : World) : Prop := ∃ v1 v2, e = .returned (.tuple #[v1, v2]) ∧ Wd w' v1 q ∧ Wd w' v2 r ∧ Below w.heap.size w w'

theorem cast8 (r x v : Nat) : (((r * 1000000000 + x) % v : Nat) : Int) = ((r : Int) * 1000000000 + x) % (v : Int) := by
  have h : ((r * 1000000000 + x : Nat) : Int) = (r : Int) * 1000000000 + x := by omega
  rw [Int.natCast_emod, h]
theorem cast9 (r x v : Nat) : (((r * 1000000000 + x) / v : Nat) : Int) = ((r : Int) * 1000000000 + x) / (v : Int) := by
  have h : ((r * 1000000000 + x : Nat) : Int) = (r : Int) * 1000000000 + x := by omega
  rw [Int.natCast_ediv, h]

theorem rd_one (w : World) (x : Nat) : Rd .u64 102 (w.alloc (.cells #[.int .u64 (x : Int)] 102)) (.slice (some ⟨w.heap.size, 0, none⟩) 1 1) [x] := by
  refine .inr ⟨w.heap.size, 0, 1, rfl, by simp, by rw [World.size_alloc]; omega, ⟨_, _, heap_alloc_new w _⟩, fun j hj => ?_⟩
  obtain rfl : j = 0 := by simp at hj; exact hj
  rw [World.cell?_alloc_at _ _ _ _ rfl]; rfl

set_option maxHeartbeats 3200000 in
set_option maxRecDepth 100000 in
theorem divideWord_at (b1 o1 c1 : Nat) (l : List Nat) (v : Nat) (w : World) (h1 : RdAt .u64 102 w b1 o1 c1 l) (hl : ∀ x ∈ l, x < 1000000000) (hsl : l.length ≤ 4294967295) (hv0 : 1 ≤ v) (hv : v ≤ 1000000000) :
    Calls Tryd.prog 120 #[.slice (some ⟨b1, o1, none⟩) l.length c1, .int .u64 v] w (Gives2 w (val 1000000000 l / v) (val 1000000000 l % v)) := by
  obtain ⟨i0, hi, hz0, hz1, hz2⟩ := info_parts info102
  have hvne : ((v : Int) == 0) = false := by simp; omega
  go_enter Tryd.func120, Tryd.ntmps120
  go_wp2_with (at_make; refine wpList_make_full _ rfl _ _ 71 rfl w.heap.size 102 i0 (.int .u64 0) 1 Tryd.underlying71 hi hz0 hz1 _ _ _ _ l.length rfl rfl (by omega) (by omega) ?b2 ?b3 (Nat.le_refl _) ?_)
  case b2 => rw [hz2]; omega
  case b3 => unfold maxLen; omega
  intro w0 hown0 hgrow0
  rw [toList_madeCells_one, ← cellsOf_replicate] at hown0
  go_wp2
  go_loopw [7, 8] (fun sr si wr => ∃ (k r : Nat) (q : List Nat), k ≤ l.length ∧ si = .int .i64 ((k : Int) - 1) ∧ sr = .int .u64 r ∧
      wr.ownsRow w.heap.size 102 1 (.slice (some ⟨w.heap.size, 0, none⟩) l.length l.length) l.length (cellsOf .u64 q) ∧ DivI l v k r q ∧ Below w.heap.size w wr)
    (fun _ i _ => (intOf i + 1).toNat)
  case atStart => exact ⟨l.length, 0, _, Nat.le_refl _, rfl, rfl, hown0, divI_zero l v (by omega), (Below.refl _ _).grown hgrow0 (Nat.le_refl _) (fun k h => by cases h)⟩
  case round =>
    obtain ⟨k, r, q, hk, rfl, rfl, hown, hI, hB⟩ := hrel
    by_cases h0 : k = 0
    · subst h0
      obtain ⟨e1, e2⟩ := divI_end hI
      have hrd : Rd .u64 102 wr (.slice (some ⟨w.heap.size, 0, none⟩) l.length l.length) q := by
        rw [← hI.1]
        refine Rd.of_own (base := w.heap.size) (T := 102) ?_
        rw [hI.1]; exact hown
      have hql : q.length ≤ 4294967296 := by rw [hI.1]; omega
      have hr := hI.2.2.1
      have E1 := Lib.hid e1
      have E2 := Lib.hid e2
      clear e1 e2
      go_wp2_with fail
      refine (trim_any _ q _ hrd hI.2.1 hql).mono ?_
      rintro e w' ⟨v', rfl, hw, rfl⟩
      obtain ⟨a', cap', rfl⟩ := Rd.shape hw
      go_wp2_with fail
      refine (trim_any _ [r] _ (rd_one wr r) (by intro x hx; simp at hx; omega) (by simp)).mono ?_
      rintro e w' ⟨v', rfl, hw2, rfl⟩
      obtain ⟨a2, cap2, rfl⟩ := Rd.shape hw2
      go_wp2
      go_ret2
      exact ⟨_, _, rfl, by rw [← E1.out]; exact hw.keep ((Below.refl _ _).alloc (Nat.le_refl _) _), by rw [← E2.out]; exact hw2, hB.alloc hB.size _⟩
    · obtain ⟨j, rfl⟩ : ∃ j, k = j + 1 := ⟨k - 1, by omega⟩
      have hx := nth_lt (b := 1000000000) (by omega) l hl j
      have hcr : wr.cell? ⟨b1, o1 + j, none⟩ = some (.int .u64 ((nth l j : Nat) : Int)) := (hB.cell (p := ⟨b1, o1 + j, none⟩) h1.lt).trans (h1.cell j (by omega))
      have hr := hI.2.2.1
      have hco : wr.cell? ⟨w.heap.size, j, none⟩ = some (.int .u64 ((nth q j : Nat) : Int)) := (hown.cellAt j (by omega)).trans (cellsOf_at _ _ _ (by rw [hI.1]; omega))
      have hfo : wr.frozen? ⟨w.heap.size, j, none⟩ = false := hown.frozenAt j
      have hst := hown.stored j (.int .u64 (((r * 1000000000 + nth l j) / v : Nat) : Int))
      rw [← cellsOf_set, cast9] at hst
      have HST := Lib.hid hst
      have hI' := divI_step hI hl (by omega)
      rw [show (((j + 1 : Nat) : Int) - 1) = (j : Int) by omega]
      clear hst
      go_wp2
      go_roundw
      case rel => exact ⟨j, _, _, by omega, by go_num, by rw [cast8], HST.out.1, hI', below_own hB HST.out.2⟩
      case measure => simp [intOf]

theorem dig9_nil {n : Nat} (h : dig 1000000000 n = []) : n = 0 := (dig_eq_nil (by omega) n).1 h

/-- words.divideWord; the divisor is from 1 to the base. -/
theorem wdivideWord_any (v1 : Value) (m v : Nat) (w : World) (h1 : Wd w v1 m) (hm : (dig 1000000000 m).length ≤ 4294967295) (hm0 : m ≠ 0) (hv0 : 1 ≤ v) (hv : v ≤ 1000000000) :
    Calls Tryd.prog 120 #[v1, .int .u64 v] w (Gives2 w (m / v) (m % v)) := by
  rcases h1 with ⟨h, _⟩ | ⟨b, off, cap, rfl, h⟩
  · exact absurd (dig9_nil h) hm0
  · have := divideWord_at b off cap _ v w h (dig9_lt m) hm hv0 hv
    rwa [val_dig9] at this

theorem dig_len_pos {b n : Nat} (hb : 2 ≤ b) (hn : n ≠ 0) : (dig b n).length = (dig b (n / b)).length + 1 := by rw [dig_pos hb hn]; rfl

theorem dig_len_div {b : Nat} (hb : 2 ≤ b) : ∀ (m n : Nat), n / b ^ m ≠ 0 → (dig b n).length = m + (dig b (n / b ^ m)).length
  | 0, n, _ => by simp
  | m + 1, n, h => by
    have e : n / b ^ (m + 1) = n / b / b ^ m := by rw [Nat.pow_succ, Nat.mul_comm, Nat.div_div_eq_div_mul]
    have hn : n ≠ 0 := by rintro rfl; simp at h
    rw [dig_len_pos hb hn, e, dig_len_div hb m (n / b) (by rw [← e]; exact h)]; omega

theorem pow9 (m : Nat) : (1000000000 : Nat) ^ m = 10 ^ (9 * m) := by rw [Nat.pow_mul]

theorem dig_len_top (n k : Nat) (hk : (dig 1000000000 n).length = k + 1) : (dig 10 n).length = k * 9 + (dig 10 (nth (dig 1000000000 n) k)).length := by
  have hnm := dig_norm (b := 1000000000) (by omega) n
  have h1 : dig 1000000000 n = (dig 1000000000 n).take k ++ [nth (dig 1000000000 n) k] := by
    rw [← take_succ_nth _ k (by omega), ← hk, List.take_length]
  have h0 : nth (dig 1000000000 n) k ≠ 0 := by
    intro h
    have h2 := hnm.2
    rw [h1, h, List.getLast?_concat] at h2
    exact h2 rfl
  have h3 : n = val 1000000000 ((dig 1000000000 n).take k) + 10 ^ (9 * k) * nth (dig 1000000000 n) k := by
    have h4 := val_dig (b := 1000000000) (by omega) n
    rw [h1, val_snoc, List.length_take, Nat.min_eq_left (by omega), pow9] at h4
    exact h4.symm
  have h5 : val 1000000000 ((dig 1000000000 n).take k) < 10 ^ (9 * k) := by
    have := val_lt (b := 1000000000) (by omega) ((dig 1000000000 n).take k) (fun x hx => hnm.1 x (List.mem_of_mem_take hx))
    rwa [List.length_take, Nat.min_eq_left (by omega), pow9] at this
  have h6 : n / 10 ^ (9 * k) = nth (dig 1000000000 n) k := by
    conv => lhs; rw [h3]
    rw [Nat.add_mul_div_left _ _ (Nat.pow_pos (by omega)), Nat.div_eq_of_lt h5]; omega
  rw [dig_len_div (by omega) (9 * k) n (by rw [h6]; exact h0), h6]; omega

theorem dig10_small {t : Nat} (h : t < 1000000000) : (dig 10 t).length ≤ 9 := dig_length_le (by omega) 9 t (by omega)

theorem wdigits_nil (a : Option Addr) (cap : Nat) (w : World) : Calls Tryd.prog 95 #[.slice a 0 cap] w fun e w' => e = .returned (.int .i64 0) ∧ w = w' := by
  go_enter Tryd.func95, Tryd.ntmps95
  go_wp2
  go_ret
  exact ⟨rfl, rfl⟩

set_option maxHeartbeats 1600000 in
set_option maxRecDepth 100000 in
/-- words.digits: the number of decimal digits, 0 for 0. -/
theorem wdigits_any (v1 : Value) (n : Nat) (w : World) (h1 : Wd w v1 n) (hn : (dig 1000000000 n).length ≤ 4294967295) :
    Calls Tryd.prog 95 #[v1] w fun e w' => e = .returned (.int .i64 ((dig 10 n).length : Nat)) ∧ w = w' := by
  by_cases h0 : n = 0
  · subst h0
    obtain ⟨a, cap, rfl⟩ := Rd.shape h1
    rw [dig_zero, dig_zero]
    exact wdigits_nil a cap w
  rcases h1 with ⟨h, a, cap, rfl⟩ | ⟨b, off, cap, rfl, h⟩
  · exact absurd (dig9_nil h) h0
  · obtain ⟨k, hk⟩ : ∃ k, (dig 1000000000 n).length = k + 1 := by
      cases hl : dig 1000000000 n with
      | nil =>
        obtain rfl := dig9_nil hl
        exact absurd rfl h0
      | cons x xs => exact ⟨xs.length, by simp⟩
    have ht := dig_len_top n k hk
    have hx := nth_lt (b := 1000000000) (by omega) _ (dig9_lt n) k
    have hcr : w.cell? ⟨b, off + k, none⟩ = some (.int .u64 ((nth (dig 1000000000 n) k : Nat) : Int)) := h.cell k (by omega)
    rw [ht, hk]
    generalize nth (dig 1000000000 n) k = t at *
    have h9 := dig10_small hx
    clear h ht
    go_enter Tryd.func95, Tryd.ntmps95
    go_wp2
    go_loop [3, 4] (fun sc st => ∃ (c u : Nat), sc = .int .i64 c ∧ st = .int .u64 u ∧ c + (dig 10 u).length = k * 9 + (dig 10 t).length ∧ u < 1000000000) (fun _ u => (intOf u).toNat)
    case atStart => exact ⟨k * 9, t, by go_num, rfl, rfl, hx⟩
    case round =>
      obtain ⟨c, u, rfl, rfl, hcu, hu⟩ := hrel
      by_cases h0 : u = 0
      · subst h0
        rw [dig_zero] at hcu
        simp at hcu
        subst hcu
        go_wp2
        go_ret
        exact ⟨rfl, rfl⟩
      · have h10 := dig_len_pos (b := 10) (by omega) h0
        have HC : Hid (c + (dig 10 u).length = k * 9 + (dig 10 t).length) := hcu
        have H10 := Lib.hid h10
        have hcb : c ≤ k * 9 + 9 := by omega
        clear hcu h10
        go_wp2
        go_round
        case rel => exact ⟨c + 1, u / 10, by go_num, by go_num, by have h1 := HC.out; have h2 := H10.out; omega, by omega⟩
        case measure => simp [intOf]; omega
end Go.Proofs.YtbmonfbbkmpdhaaDoor
