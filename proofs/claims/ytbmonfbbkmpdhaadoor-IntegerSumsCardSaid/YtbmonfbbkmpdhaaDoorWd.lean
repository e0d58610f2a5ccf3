/- Walks of the words' functions: the product. -/
import Derived.Test.YtbmonfbbkmpdhaaDoorWc
namespace Go.Proofs.YtbmonfbbkmpdhaaDoor
open Go.RowKit Go.Proofs.Num

theorem nth_set_same (o : List Nat) (p v : Nat) (hp : p < o.length) : nth (o.set p v) p = v := by simp [nth, List.getD, hp]
theorem nth_set_other (o : List Nat) (p v t : Nat) (ht : t ≠ p) : nth (o.set p v) t = nth o t := by simp [nth, List.getD, Ne.symm ht]

theorem val_set (b : Nat) : ∀ (o : List Nat) (p v : Nat), p < o.length → val b (o.set p v) + b ^ p * nth o p = val b o + b ^ p * v
  | [], p, v, h => by simp at h
  | x :: xs, 0, v, _ => by simp [val_cons, nth]; omega
  | x :: xs, p + 1, v, h => by
    have ih := val_set b xs p v (by simpa using h)
    rw [List.set_cons_succ, val_cons, val_cons, show nth (x :: xs) (p + 1) = nth xs p from by simp [nth, List.getD], Nat.pow_succ, Nat.mul_comm (b ^ p) b, Nat.mul_assoc, Nat.mul_assoc]
    have : b * (val b (xs.set p v) + b ^ p * nth xs p) = b * (val b xs + b ^ p * v) := by rw [ih]
    rw [Nat.mul_add, Nat.mul_add] at this
    omega

theorem mem_set_lt {o : List Nat} {p v b : Nat} (h : ∀ x ∈ o, x < b) (hv : v < b) : ∀ x ∈ o.set p v, x < b := by
  intro x hx
  rcases List.mem_or_eq_of_mem_set hx with hx | rfl
  · exact h x hx
  · exact hv

def MulI (l m : List Nat) (i : Nat) (o : List Nat) : Prop :=
  o.length = l.length + m.length ∧ (∀ x ∈ o, x < 1000000000) ∧ val 1000000000 o = val 1000000000 (l.take i) * val 1000000000 m ∧ ∀ t, i + m.length ≤ t → nth o t = 0

def MulJ (l m : List Nat) (i j c : Nat) (o : List Nat) : Prop :=
  o.length = l.length + m.length ∧ (∀ x ∈ o, x < 1000000000) ∧ c < 1000000000 ∧
  val 1000000000 o + c * 1000000000 ^ (i + j) = val 1000000000 (l.take i) * val 1000000000 m + nth l i * 1000000000 ^ i * val 1000000000 (m.take j) ∧ ∀ t, i + m.length ≤ t → nth o t = 0

theorem val_replicate_zero (b : Nat) : ∀ n, val b (List.replicate n 0) = 0
  | 0 => rfl
  | n + 1 => by rw [List.replicate_succ, val_cons, val_replicate_zero b n]; simp

theorem nth_replicate (n t : Nat) : nth (List.replicate n 0) t = 0 := by
  simp only [nth, List.getD, List.getElem?_replicate]; split <;> rfl

theorem mulI_zero (l m : List Nat) : MulI l m 0 (List.replicate (l.length + m.length) 0) :=
  ⟨by simp, fun x hx => by have := List.eq_of_mem_replicate hx; omega, by rw [val_replicate_zero]; simp [val_nil], fun t _ => nth_replicate _ t⟩

theorem mulJ_zero {l m : List Nat} {i : Nat} {o : List Nat} (h : MulI l m i o) : MulJ l m i 0 0 o :=
  ⟨h.1, h.2.1, by omega, by rw [h.2.2.1]; simp [val_nil], h.2.2.2⟩

theorem mul_bound (x y : Nat) (hx : x < 1000000000) (hy : y < 1000000000) : x * y ≤ 999999998000000001 :=
  Nat.mul_le_mul (show x ≤ 999999999 by omega) (show y ≤ 999999999 by omega)

theorem mulJ_step {l m : List Nat} {i j c : Nat} {o : List Nat} (h : MulJ l m i j c o) (hl : ∀ x ∈ l, x < 1000000000) (hm : ∀ x ∈ m, x < 1000000000) (hi : i < l.length) (hj : j < m.length) :
    MulJ l m i (j + 1) ((c + (nth o (i + j) + nth l i * nth m j)) / 1000000000) (o.set (i + j) ((c + (nth o (i + j) + nth l i * nth m j)) % 1000000000)) := by
  obtain ⟨h1, h2, h3, h4, h5⟩ := h
  have hx := nth_lt (b := 1000000000) (by omega) l hl i
  have hy := nth_lt (b := 1000000000) (by omega) m hm j
  have hz := nth_lt (b := 1000000000) (by omega) o h2 (i + j)
  have hb := mul_bound _ _ hx hy
  refine ⟨by simp [h1], mem_set_lt h2 (Nat.mod_lt _ (by omega)), by omega, ?_, ?_⟩
  · have h6 := val_set 1000000000 o (i + j) ((c + (nth o (i + j) + nth l i * nth m j)) % 1000000000) (by omega)
    have h7 := Nat.mod_add_div (c + (nth o (i + j) + nth l i * nth m j)) 1000000000
    generalize hs : (c + (nth o (i + j) + nth l i * nth m j)) = s at *
    have h8 : 1000000000 ^ (i + j) * (s % 1000000000) + s / 1000000000 * 1000000000 ^ (i + (j + 1)) = 1000000000 ^ (i + j) * s := by
      rw [← Nat.add_assoc, Nat.pow_succ, Nat.mul_comm (s / 1000000000), Nat.mul_assoc, ← Nat.mul_add, h7]
    have h9 : 1000000000 ^ (i + j) * s = c * 1000000000 ^ (i + j) + 1000000000 ^ (i + j) * nth o (i + j) + nth l i * 1000000000 ^ i * (1000000000 ^ j * nth m j) := by
      rw [← hs, Nat.mul_add, Nat.mul_add, Nat.mul_comm _ c, Nat.pow_add]
      have : 1000000000 ^ i * 1000000000 ^ j * (nth l i * nth m j) = nth l i * 1000000000 ^ i * (1000000000 ^ j * nth m j) := by
        simp only [Nat.mul_assoc, Nat.mul_comm, Nat.mul_left_comm]
      omega
    rw [val_take_nth, Nat.mul_add]
    omega
  · intro t ht
    rw [nth_set_other _ _ _ _ (by omega)]
    exact h5 t ht

theorem mulJ_end {l m : List Nat} {i c : Nat} {o : List Nat} (h : MulJ l m i m.length c o) (hi : i < l.length) : MulI l m (i + 1) (o.set (i + m.length) c) := by
  obtain ⟨h1, h2, h3, h4, h5⟩ := h
  refine ⟨by simp [h1], mem_set_lt h2 h3, ?_, ?_⟩
  · have h6 := val_set 1000000000 o (i + m.length) c (by omega)
    rw [h5 _ (Nat.le_refl _)] at h6
    rw [List.take_of_length_le (Nat.le_refl _)] at h4
    rw [val_take_nth, Nat.add_mul, Nat.mul_comm (1000000000 ^ i)]
    have : c * 1000000000 ^ (i + m.length) = 1000000000 ^ (i + m.length) * c := Nat.mul_comm _ _
    omega
  · intro t ht
    rw [nth_set_other _ _ _ _ (by omega)]
    exact h5 t (by omega)

theorem mulI_end {l m : List Nat} {o : List Nat} (h : MulI l m l.length o) : val 1000000000 o = val 1000000000 l * val 1000000000 m := by
  rw [h.2.2.1, List.take_of_length_le (Nat.le_refl _)]

theorem cellsOf_set (q : IntKind) (o : List Nat) (p v : Nat) : cellsOf q (o.set p v) = (cellsOf q o).set p (.int q ((v : Nat) : Int)) := by
  simp [cellsOf, List.map_set]

theorem cellsOf_replicate (q : IntKind) (n : Nat) : cellsOf q (List.replicate n 0) = List.replicate n (.int q 0) := by simp [cellsOf]

theorem cast6 (c z x y : Nat) : (((c + (z + x * y)) % 1000000000 : Nat) : Int) = ((c : Int) + ((z : Int) + (x : Int) * (y : Int))) % 1000000000 := by
  rw [← Int.natCast_mul]; omega
theorem cast7 (c z x y : Nat) : (((c + (z + x * y)) / 1000000000 : Nat) : Int) = ((c : Int) + ((z : Int) + (x : Int) * (y : Int))) / 1000000000 := by
  rw [← Int.natCast_mul]; omega

theorem below_own {w wr w1 : World} (hB : Below w.heap.size w wr) (hg : wr.grownBy w1 (some w.heap.size)) : Below w.heap.size w w1 :=
  hB.grown hg hB.size (fun k h => by cases h; exact Nat.le_refl _)

set_option maxHeartbeats 3200000 in
set_option maxRecDepth 100000 in
theorem times_at (a1 a2 : Option Addr) (c1 c2 : Nat) (l m : List Nat) (w : World) (h1 : At .u64 w a1 l) (h2 : At .u64 w a2 m) (hl : ∀ x ∈ l, x < 1000000000) (hm : ∀ x ∈ m, x < 1000000000)
    (hsl : l.length ≤ 2147483647) (hsm : m.length ≤ 2147483647) :
    Calls Tryd.prog 98 #[.slice a1 l.length c1, .slice a2 m.length c2] w (GivesWd w (val 1000000000 l * val 1000000000 m)) := by
  obtain ⟨i0, hi, hz0, hz1, hz2⟩ := info_parts info102
  go_enter Tryd.func98, Tryd.ntmps98
  go_wp2_with (at_make; refine wpList_make_full _ rfl _ _ 71 rfl w.heap.size 102 i0 (.int .u64 0) 1 Tryd.underlying71 hi hz0 hz1 _ _ _ _ (l.length + m.length) rfl rfl (by omega) (by omega) ?b2 ?b3 (Nat.le_refl _) ?_)
  case b2 => rw [hz2]; omega
  case b3 => unfold maxLen; omega
  intro w0 hown0 hgrow0
  rw [toList_madeCells_one, ← cellsOf_replicate] at hown0
  go_wp2
  go_loopw [19] (fun si wr => ∃ (i : Nat) (o : List Nat), i ≤ l.length ∧ si = .int .i64 i ∧
      wr.ownsRow w.heap.size 102 1 (.slice (some ⟨w.heap.size, 0, none⟩) (l.length + m.length) (l.length + m.length)) (l.length + m.length) (cellsOf .u64 o) ∧ MulI l m i o ∧ Below w.heap.size w wr)
    (fun i _ => l.length - (intOf i).toNat)
  case atStart => exact ⟨0, _, Nat.zero_le _, rfl, hown0, mulI_zero l m, (Below.refl _ _).grown hgrow0 (Nat.le_refl _) (fun k h => by cases h)⟩
  case round =>
    obtain ⟨i, o, hil, rfl, hown, hI, hB⟩ := hrel
    by_cases hlt : i < l.length
    · obtain ⟨b1, o1, rfl, hb1, hcell1⟩ := h1 i hlt
      have hx := nth_lt (b := 1000000000) (by omega) l hl i
      have hcr : wr.cell? ⟨b1, o1 + i, none⟩ = some (.int .u64 ((nth l i : Nat) : Int)) := (hB.cell (p := ⟨b1, o1 + i, none⟩) hb1).trans hcell1
      go_wp2
      obtain ⟨wo, rfl⟩ : ∃ wo : World, wo = wr := ⟨_, rfl⟩
      go_loopw [8, 26] (fun car sj wr => ∃ (j c : Nat) (o : List Nat), j ≤ m.length ∧ sj = .int .i64 j ∧ car = .int .u64 c ∧
          wr.ownsRow w.heap.size 102 1 (.slice (some ⟨w.heap.size, 0, none⟩) (l.length + m.length) (l.length + m.length)) (l.length + m.length) (cellsOf .u64 o) ∧ MulJ l m i j c o ∧ Below w.heap.size w wr)
        (fun _ j _ => m.length - (intOf j).toNat)
      case atStart => exact ⟨0, 0, o, Nat.zero_le _, rfl, rfl, hown, mulJ_zero hI, hB⟩
      case round =>
        obtain ⟨j, c, o, hjm, rfl, rfl, hown, hJ, hB⟩ := hrel
        have hc := hJ.2.2.1
        by_cases hlt2 : j < m.length
        · obtain ⟨b2, o2, rfl, hb2, hcell2⟩ := h2 j hlt2
          have hy := nth_lt (b := 1000000000) (by omega) m hm j
          have hcr2 : wr.cell? ⟨b2, o2 + j, none⟩ = some (.int .u64 ((nth m j : Nat) : Int)) := (hB.cell (p := ⟨b2, o2 + j, none⟩) hb2).trans hcell2
          have hol := hJ.1
          have hz := nth_lt (b := 1000000000) (by omega) o hJ.2.1 (i + j)
          have hco : wr.cell? ⟨w.heap.size, i + j, none⟩ = some (.int .u64 ((nth o (i + j) : Nat) : Int)) := (hown.cellAt (i + j) (by omega)).trans (cellsOf_at _ _ _ (by omega))
          have hfo : wr.frozen? ⟨w.heap.size, i + j, none⟩ = false := hown.frozenAt (i + j)
          have hbd : ((nth l i : Nat) : Int) * ((nth m j : Nat) : Int) ≤ 999999998000000001 := by rw [← Int.natCast_mul]; have := mul_bound _ _ hx hy; omega
          have hbd0 : 0 ≤ ((nth l i : Nat) : Int) * ((nth m j : Nat) : Int) := by rw [← Int.natCast_mul]; omega
          have hst := hown.stored (i + j) (.int .u64 ((((c + (nth o (i + j) + nth l i * nth m j)) % 1000000000 : Nat)) : Int))
          have HST := Lib.hid hst
          have HOL := Lib.hid hol
          clear hst hol
          go_wp2
          go_roundw
          case rel => exact ⟨j + 1, _, _, by omega, by go_num, by rw [cast7], by have := HST.out.1; rw [← cellsOf_set, cast6] at this; exact this, mulJ_step hJ hl hm hlt hlt2, by have := below_own hB HST.out.2; rw [cast6] at this; exact this⟩
          case measure => simp [intOf]; omega
        · obtain rfl : j = m.length := by omega
          have hJ' := mulJ_end hJ hlt
          have hol := hJ.1
          have hco : wr.cell? ⟨w.heap.size, i + m.length, none⟩ = some (.int .u64 ((nth o (i + m.length) : Nat) : Int)) := (hown.cellAt (i + m.length) (by omega)).trans (cellsOf_at _ _ _ (by omega))
          have hfo : wr.frozen? ⟨w.heap.size, i + m.length, none⟩ = false := hown.frozenAt (i + m.length)
          have hst := hown.stored (i + m.length) (.int .u64 (c : Int))
          rw [← cellsOf_set] at hst
          have HST := Lib.hid hst
          clear hst hol
          go_wp2
          go_roundw
          case rel => exact ⟨i + 1, _, by omega, by go_num, HST.out.1, hJ', below_own hB HST.out.2⟩
          case measure => simp [intOf]; omega
    · obtain rfl : i = l.length := by omega
      have hv := mulI_end hI
      have hol := hI.1
      have HV := Lib.hid hv
      have hrd : Rd .u64 102 wr (.slice (some ⟨w.heap.size, 0, none⟩) (l.length + m.length) (l.length + m.length)) o := by
        rw [← hol]
        refine Rd.of_own (base := w.heap.size) (T := 102) ?_
        rw [hol]; exact hown
      have hol2 : o.length ≤ 4294967296 := by omega
      clear hv hol
      go_wp2_with fail
      refine (trim_any _ o _ hrd hI.2.1 hol2).mono ?_
      rintro e w' ⟨v', rfl, hw, rfl⟩
      obtain ⟨a', cap', rfl⟩ := Rd.shape hw
      go_wp2
      go_ret
      exact ⟨_, rfl, ⟨a', _, cap', rfl⟩, by rw [← HV.out]; exact hw, hB⟩

/-- words.times -/
theorem wtimes_any (v1 v2 : Value) (m n : Nat) (w : World) (h1 : Wd w v1 m) (h2 : Wd w v2 n) (hm : (dig 1000000000 m).length ≤ 2147483647) (hn : (dig 1000000000 n).length ≤ 2147483647) :
    Calls Tryd.prog 98 #[v1, v2] w (GivesWd w (m * n)) := by
  obtain ⟨a1, c1, rfl, g1⟩ := Rd.at h1
  obtain ⟨a2, c2, rfl, g2⟩ := Rd.at h2
  have := times_at a1 a2 c1 c2 _ _ w g1 g2 (dig9_lt m) (dig9_lt n) hm hn
  rwa [val_dig9, val_dig9] at this
end Go.Proofs.YtbmonfbbkmpdhaaDoor
