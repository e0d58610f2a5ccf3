/- Lists that are repeated, joined, and sifted; sequences; common divisors. And: A number several times. And: Repeated numbers as a list; a new list with room. And: Lists joined; the first 1 of a list. And: A list without its 1s, in place. And: The library deletes from a list in place. And: The orders of the groups that the program has for each kind. And: The orders for complete and bipartite graphs. And: The cyclic groups of kinds, by the program. And: The cyclic groups of kinds, by the program. -/
import Derived.Test.YtgfbihdnjidodaaQ14
import Derived.Test.YtgfbihdnjidodaaQ00
import Derived.Laws.CopyOwn
import Derived.Lib.SliceRun
import Derived.Lib.AppendZeros
import Derived.Test.YtgfbihdnjidodaaQ15
import Derived.Test.YtgfbihdnjidodaaQ16
namespace Go.Proofs.Ytgfbihdnjidodaa
open Go.RowKit Go.Shelf Go.Lib Go.Proofs.Gr
attribute [local go_sem] Oper.semAt_some

/-- A sequence in which each number is the sum of the two before. -/
def folS (a b : Int) : Nat → Int × Int
  | 0 => (a, b)
  | n + 1 => ((folS a b n).2, (folS a b n).1 + (folS a b n).2)
theorem folS_rng (a b : Int) (ha : 0 ≤ a ∧ a ≤ 2) (hb : 0 ≤ b ∧ b ≤ 2) (n : Nat) : 0 ≤ (folS a b n).1 ∧ 0 ≤ (folS a b n).2 ∧ (folS a b n).1 ≤ 2 ^ (n + 1) ∧ (folS a b n).2 ≤ 2 ^ (n + 1) := by
  induction n with
  | zero => simp [folS]; omega
  | succ n ih =>
    obtain ⟨h1, h2, h3, h4⟩ := ih
    have e : (2 : Int) ^ (n + 1 + 1) = 2 * 2 ^ (n + 1) := by rw [Int.pow_succ]; omega
    simp only [folS, e]
    omega
set_option maxHeartbeats 12800000 in
set_option maxRecDepth 100000 in
theorem pfollow_any (a b : Int) (ha : 0 ≤ a ∧ a ≤ 2) (hb : 0 ≤ b ∧ b ≤ 2) (n : Nat) (hn : n ≤ 50) (w : World) :
    Calls Try.prog 81 #[.int .i64 a, .int .i64 b, .int .i64 n] w (fun e x => e = .returned (.int .i64 (folS a b n).1) ∧ Below w.heap.size w x) := by
  have HS0 : Hid (folS a b 0 = (a, b)) := Lib.hid rfl
  have HSS : Hid (∀ i, folS a b (i + 1) = ((folS a b i).2, (folS a b i).1 + (folS a b i).2)) := Lib.hid fun _ => rfl
  have HSR : Hid (∀ i, i ≤ 50 → 0 ≤ (folS a b i).1 ∧ 0 ≤ (folS a b i).2 ∧ (folS a b i).1 ≤ 2 ^ 51 ∧ (folS a b i).2 ≤ 2 ^ 51) := Lib.hid fun i hi => by
    obtain ⟨h1, h2, h3, h4⟩ := folS_rng a b ha hb i
    have h5 : (2 : Int) ^ (i + 1) ≤ 2 ^ 51 := by
      have := Nat.pow_le_pow_right (n := 2) (by omega) (show i + 1 ≤ 51 by omega)
      exact_mod_cast this
    omega
  generalize folS a b = G at *
  go_enter Try.func81, Try.ntmps81
  go_wp2
  go_loopw [0, 1, 8] (fun u v x wr => ∃ i : Nat, i ≤ n ∧ x = .int .i64 i ∧ u = .int .i64 (G i).1 ∧ v = .int .i64 (G i).2 ∧ Below w.heap.size w wr) (fun _ _ x _ => n - (intOf x).toNat)
  case atStart => exact ⟨0, by omega, rfl, by rw [HS0.out], by rw [HS0.out], Below.refl _ _⟩
  case round =>
    obtain ⟨i, hi, rfl, rfl, rfl, hbb⟩ := hrel
    have HB := Lib.hid hbb
    clear hbb
    by_cases hlt : i < n
    · have i1 : (i : Int) < (n : Int) := by omega
      have hss := HSS.out i
      obtain ⟨h1, h2, h3, h4⟩ := HSR.out i (by omega)
      generalize G i = pq at *
      obtain ⟨p, q⟩ := pq
      try simp only at hss
      try simp only at h1 h2 h3 h4
      try simp only at h1
      try simp only at h2
      try simp only at h3
      try simp only at h4
      have e1 : IntKind.i64.wrap (p + q) = p + q := IntWalk.i64_in _ (by omega)
      have HG := Lib.hid hss
      clear hss h1 h2 h3 h4
      go_wp2
      go_roundw
      case rel => exact ⟨i + 1, by omega, by go_num, by rw [HG.out], by rw [HG.out], HB.out⟩
      case measure => simp [intOf]; omega
    · obtain rfl : i = n := by omega
      have i1 : ¬ (i : Int) < (i : Int) := by omega
      go_wp2
      go_ret
      exact ⟨rfl, HB.out⟩
/-- The greatest common divisor of two numbers. -/
def gcdI (a b : Int) : Int := (Nat.gcd a.toNat b.toNat : Nat)
set_option maxHeartbeats 12800000 in
set_option maxRecDepth 100000 in
theorem pdivisor_any (a b : Nat) (ha : a ≤ 1000000) (hb : b ≤ 1000000) (w : World) :
    Calls Try.prog 83 #[.int .i64 a, .int .i64 b] w (fun e x => e = .returned (.int .i64 (Nat.gcd a b : Nat)) ∧ Below w.heap.size w x) := by
  have HG0 : Hid (∀ p : Nat, Nat.gcd p 0 = p) := Lib.hid Nat.gcd_zero_right
  have HGS : Hid (∀ p q : Nat, Nat.gcd q (p % q) = Nat.gcd p q) := Lib.hid fun p q => by rw [Nat.gcd_comm p q, Nat.gcd_rec q p, Nat.gcd_comm]
  obtain ⟨D, hD⟩ : ∃ D, D = Nat.gcd a b := ⟨_, rfl⟩
  have HD := Lib.hid hD
  rw [← hD]
  clear hD
  go_enter Try.func83, Try.ntmps83
  go_wp2
  go_loopw [0, 1] (fun u v wr => ∃ p q : Nat, p ≤ 1000000 ∧ q ≤ 1000000 ∧ u = .int .i64 p ∧ v = .int .i64 q ∧ D = Nat.gcd p q ∧ Below w.heap.size w wr) (fun _ v _ => (intOf v).toNat)
  case atStart => exact ⟨a, b, ha, hb, rfl, rfl, HD.out, Below.refl _ _⟩
  case round =>
    obtain ⟨p, q, hp, hq, rfl, rfl, hg, hbb⟩ := hrel
    have HB := Lib.hid hbb
    have HGD := Lib.hid hg
    clear hbb hg
    by_cases hlt : 0 < q
    · have i1 : (0 : Int) < (q : Int) := by omega
      have i0 : ¬ (q : Int) = 0 := by omega
      have i00 : ¬ q = 0 := by omega
      have hm := Nat.mod_lt p hlt
      have e0 : (p : Int).tmod (q : Int) = ((p % q : Nat) : Int) := by rw [Int.tmod_eq_emod_of_nonneg (by omega)]; simp
      obtain ⟨r, hr⟩ : ∃ r, r = p % q := ⟨_, rfl⟩
      rw [← hr] at e0 hm
      have HR := Lib.hid hr
      clear hr
      go_wp2
      have hj0 : Below wr.heap.size wr wr.drew := (Below.refl _ _).drew
      refine wp_region_late (S := fun u => Below wr.heap.size wr u) (X := []) (by kernel_rfl) ?_
      refine wpAnyL_pureD (i := 0) 7 (.int .i64 q) rfl rfl (by kernel_rfl) (by kernel_rfl) (by kernel_rfl) (fun _ _ _ h => h) (Or.inl ⟨by rfl, fun u _ => ?_⟩) ?_
      · go_simp
      try simp only [Act.put, List.setIfInBounds_toArray, List.set_cons_zero, List.set_cons_succ]
      refine wpAnyL_pureD (i := 1) 8 (.int .i64 p) rfl rfl (by kernel_rfl) (by kernel_rfl) (by kernel_rfl) (fun _ _ _ h => h) (Or.inl ⟨by rfl, fun u _ => ?_⟩) ?_
      · go_simp
      try simp only [Act.put, List.setIfInBounds_toArray, List.set_cons_zero, List.set_cons_succ]
      refine wpAnyL_pureD (i := 2) 9 (.int .i64 q) rfl rfl (by kernel_rfl) (by kernel_rfl) (by kernel_rfl) (fun _ _ _ h => h) (Or.inl ⟨by rfl, fun u _ => ?_⟩) ?_
      · go_simp
      try simp only [Act.put, List.setIfInBounds_toArray, List.set_cons_zero, List.set_cons_succ]
      refine wpAnyL_pureD (i := 3) 10 (.int .i64 r) rfl rfl (by kernel_rfl) (by kernel_rfl) (by kernel_rfl) (fun _ _ _ h => h) (Or.inl ⟨by rfl, fun u _ => ?_⟩) ?_
      · go_simp
      try simp only [Act.put, List.setIfInBounds_toArray, List.set_cons_zero, List.set_cons_succ]
      refine wpAnyL_pureD (i := 4) 0 (.int .i64 q) rfl rfl (by kernel_rfl) (by kernel_rfl) (by kernel_rfl) (fun _ _ _ h => h) (Or.inl ⟨by rfl, fun u _ => ?_⟩) ?_
      · go_simp
      try simp only [Act.put, List.setIfInBounds_toArray, List.set_cons_zero]
      refine wpAnyL_pureD (i := 5) 1 (.int .i64 r) rfl rfl (by kernel_rfl) (by kernel_rfl) (by kernel_rfl) (fun _ _ _ h => h) (Or.inl ⟨by rfl, fun u _ => ?_⟩) ?_
      · go_simp
      try simp only [Act.put, List.setIfInBounds_toArray, List.set_cons_zero, List.set_cons_succ]
      refine wpAnyL_done (by kernel_rfl) ?_ _
      try simp only [Act.put, List.setIfInBounds_toArray, List.set_cons_zero, List.set_cons_succ]
      clear hj0
      go_wp2
      go_roundw
      case rel => exact ⟨q, r, hq, by omega, rfl, rfl, by rw [HR.out, HGS.out]; exact HGD.out, HB.out.drew⟩
      case measure => simp [intOf]; omega
    · obtain rfl : q = 0 := by omega
      have HR : Hid (D = p) := Lib.hid (by rw [HGD.out, HG0.out])
      go_wp2
      go_ret
      exact ⟨by rw [HR.out]; rfl, HB.out⟩
end Go.Proofs.Ytgfbihdnjidodaa

namespace Go.Proofs.Ytgfbihdnjidodaa
open Go.RowKit Go.Shelf Go.Lib Go.Proofs.Gr
attribute [local go_sem] Oper.semAt_some

/-- A number some times, then zeros. -/
def repM (z : Int) (c i : Nat) : List Int := List.replicate i z ++ List.replicate (c - i) 0
theorem repM_len (z : Int) (c i : Nat) (h : i ≤ c) : (repM z c i).length = c := by unfold repM; simp; omega
theorem repM_splice (z : Int) (c i m : Nat) (h : i + m ≤ c) : splice (flat encI (repM z c i)) i (flat encI (List.replicate m z)) = flat encI (repM z c (i + m)) := by
  unfold splice repM
  rw [flatI_map, flatI_map, flatI_map]
  simp only [List.map_append, List.map_replicate, List.length_replicate]
  rw [List.take_append_of_le_length (by simp), List.take_of_length_le (by simp), List.drop_append, List.drop_of_length_le (by simp), List.length_replicate, List.drop_replicate, List.nil_append, ← List.append_assoc, List.replicate_append_replicate]
  congr 2
  omega
set_option maxHeartbeats 12800000 in
set_option maxRecDepth 100000 in
theorem prepeat_zero (p : Addr) (cx : Nat) (w : World) :
    Calls Try.prog 87 #[.slice (some p) 1 cx, .int .i64 0] w (fun e x => e = .returned (.slice (some ⟨w.heap.size, 0, none⟩) 0 0) ∧ RowB encI 3 x w.heap.size [] ∧ Below w.heap.size w x) := by
  have HMU : Hid (∀ w, Calls Try.prog 92 #[.int .u64 1, .int .u64 0] w (fun e w' => e = .returned (.tuple #[.int .u64 0, .int .u64 0]) ∧ w' = w)) := Lib.hid (fun w => by simpa using Try.bits_Mul 1 0 (by omega) (by omega) w)
  have hmk : (Instr.makeSlice 22 (.int .i64 0) (.int .i64 0)).run Try.prog w = .ok (.slice (some ⟨w.heap.size, 0, none⟩) 0 0) (w.alloc (.cells #[] 3)) := by simpa [flat] using make_ints 0 (by omega) w
  obtain ⟨W, hW⟩ : ∃ W, W = w.alloc (.cells #[] 3) := ⟨_, rfl⟩
  have HB0 : Hid (Below w.heap.size w W) := Lib.hid (by rw [hW]; exact (Below.refl _ _).alloc (Nat.le_refl _) _)
  have HR0 : Hid (RowB encI 3 W w.heap.size []) := Lib.hid (by rw [hW]; exact Blk.new _ _ _)
  rw [← hW] at hmk
  clear hW
  go_enter Try.func87, Try.ntmps87
  go_wp2_with fail
  refine (HMU.out w).mono ?_
  rintro e x1 ⟨rfl, h1⟩
  rw [h1]
  clear h1 x1 HMU
  go_wp2_with (refine wpList_copy_nothing rfl (.tmp 31) (.tmp 32) 22 22 rfl 3 Try.underlying22 (by kernel_rfl) (some ⟨w.heap.size, 0, none⟩) (some p) 0 0 1 cx rfl rfl rfl ?_)
  go_loopw [8] (fun x wr => x = .int .i64 0 ∧ wr = W) (fun _ _ => 0)
  case atStart => exact ⟨rfl, rfl⟩
  case round =>
    obtain ⟨rfl, rfl⟩ := hrel
    go_wp2
    go_ret
    exact ⟨rfl, HR0.out, HB0.out⟩
set_option maxHeartbeats 12800000 in
set_option maxRecDepth 100000 in
theorem prepeat_pos (z : Int) (c : Nat) (hc : c ≤ 1000) (d1 : 1 ≤ c) (p : Addr) (cx : Nat) (w : World) (hp : w.cell? p = some (.int .i64 z)) :
    Calls Try.prog 87 #[.slice (some p) 1 cx, .int .i64 c] w (fun e x => e = .returned (.slice (some ⟨w.heap.size, 0, none⟩) c c) ∧ RowB encI 3 x w.heap.size (List.replicate c z) ∧ Below w.heap.size w x) := by
  have HMU := Lib.hid (fun w => Try.bits_Mul 1 c (by omega) (by omega) w)
  have e1 : 1 * c / 18446744073709551616 = 0 := by rw [Nat.div_eq_zero_iff]; omega
  have e2 : 1 * c % 18446744073709551616 = c := by rw [Nat.one_mul]; exact Nat.mod_eq_of_lt (by omega)
  rw [e1, e2] at HMU
  clear e1 e2
  have hbig : decide ((9223372036854775807 : Int) < (c : Int)) = false := decide_eq_false (by omega)
  have hneg : decide ((c : Int) < 0) = false := decide_eq_false (by omega)
  have hmk := make_ints c (by omega) w
  have hm0 : List.replicate c 0 = repM z c 0 := by unfold repM; simp
  rw [hm0] at hmk
  obtain ⟨W, hW⟩ : ∃ W, W = w.alloc (.cells (flat encI (repM z c 0)).toArray 3) := ⟨_, rfl⟩
  have HB0 : Hid (Below w.heap.size w W) := Lib.hid (by rw [hW]; exact (Below.refl _ _).alloc (Nat.le_refl _) _)
  have HR0 : Hid (RowB encI 3 W w.heap.size (repM z c 0)) := Lib.hid (by rw [hW]; exact RowB.new encI w _ _)
  rw [← hW] at hmk
  have HPL : Hid (p.block < w.heap.size) := Lib.hid (by
    rcases Nat.lt_or_ge p.block w.heap.size with h | h
    · exact h
    · simp [World.cell?, Array.getElem?_eq_none h] at hp)
  have HPW : Hid (∀ x, Below w.heap.size w x → x.cell? p = some (.int .i64 z)) := Lib.hid fun x hx => (hx.cell (p := p) HPL.out).trans hp
  clear hm0 hW
  go_enter Try.func87, Try.ntmps87
  go_wp2_with fail
  refine (HMU.out w).mono ?_
  rintro e x1 ⟨rfl, h1⟩
  rw [h1]
  clear h1 x1
  have HP0 := Lib.hid hp
  have hr0 : W.heap[w.heap.size]? = some (.cells (flat encI (repM z c 0)).toArray 3 (0, 0)) := HR0.out
  have hcs : (flat encI (List.replicate 1 z)) = [.int .i64 z] := rfl
  have hsp0 : splice (flat encI (repM z c 0)) 0 [.int .i64 z] = flat encI (repM z c 1) := by rw [← hcs, repM_splice z c 0 1 (by omega)]
  have HLF : Hid ((flat encI (repM z c 0)).length = c) := Lib.hid (by rw [flatI_len, repM_len z c 0 (by omega)])
  have HML := Lib.hid (repM_len z c)
  have HMS := Lib.hid (repM_splice z c)
  have HS0 := Lib.hid hsp0
  have HRC := Lib.hid hr0
  have HMI : Hid (∀ i j, j < i → i ≤ c → iAt (repM z c i) j = z) := Lib.hid (fun i j h1 h2 => by
    rw [← iAt_get _ j (by rw [repM_len z c i h2]; omega)]
    unfold repM
    rw [List.getElem_append_left (by simp; omega), List.getElem_replicate])
  have HRP : Hid (List.replicate c z = repM z c c) := Lib.hid (by unfold repM; simp)
  clear hr0 hcs hsp0 hp HMU
  generalize repM z c = M at *
  go_wp2_with (refine wpList_copy_splice rfl (.tmp 31) (.tmp 32) 22 22 rfl 3 Try.underlying22 (by kernel_rfl) (some ⟨w.heap.size, 0, none⟩) (some p) c c 1 cx rfl rfl w.heap.size 0 (flat encI (M 0)) 3 HRC.out [.int .i64 z] (Nat.min_eq_left d1).symm (fun _ => ⟨rfl, _, rfl, fun j v hj => (by
    have hj0 : j = 0 := (by have := (List.getElem?_eq_some_iff.1 hj).1; simp at this; omega)
    subst hj0
    simp only [List.getElem?_cons_zero] at hj
    injection hj with hj
    subst hj
    have := HPW.out W HB0.out
    simpa [Addr.add] using this)⟩) (by rw [HLF.out]; simp; omega) (by simp [Value.oneCell']) w.heap.size w HB0.out (Nat.le_refl _) ?_; intro x2 hx2 hb2; have HX2 : Hid (RowB encI 3 x2 w.heap.size (M 1)) := Lib.hid (by unfold RowB Blk; rw [← HS0.out]; exact hx2.out); have HB2 := Lib.hid hb2; clear hx2 hb2)
  go_loopw [8] (fun x wr => ∃ i : Nat, 1 ≤ i ∧ i ≤ c ∧ x = .int .i64 i ∧ RowB encI 3 wr w.heap.size (M i) ∧ Below w.heap.size w wr) (fun x _ => c - (intOf x).toNat)
  case atStart => exact ⟨1, by omega, by omega, by simp, HX2.out, HB2.out⟩
  case round =>
    obtain ⟨i, hi1, hi, rfl, hr, hb⟩ := hrel
    by_cases hlt : i < c
    · have i1 : (i : Int) < (c : Int) := by omega
      have i2 : (0 : Int) ≤ (i : Int) := by omega
      have i3 : (i : Int) ≤ (c : Int) := by omega
      have i4 : ¬ c - i = 0 := by omega
      have i5 : ¬ c = i := by omega
      have i6 : ¬ i = c := by omega
      obtain ⟨m, hm⟩ : ∃ m, m = Nat.min i (c - i) := ⟨_, rfl⟩
      have hm1 : 1 ≤ m ∧ i + m ≤ c := by
        have h1 : m ≤ i := by rw [hm]; exact Nat.min_le_left i (c - i)
        have h2 : m ≤ c - i := by rw [hm]; exact Nat.min_le_right i (c - i)
        have h3 : m = i ∨ m = c - i := by rw [hm]; exact (Nat.le_total i (c - i)).imp Nat.min_eq_left Nat.min_eq_right
        clear hm
        omega
      have hm2 : m ≤ i := by rw [hm]; exact Nat.min_le_left i (c - i)
      have hms := HMS.out i m hm1.2
      have hml := HML.out i hi
      have HR := Lib.hid hr
      have HB := Lib.hid hb
      have HCS : Hid (∀ j v, (flat encI (List.replicate m z))[j]? = some v → wr.drew.cell? ((⟨w.heap.size, 0, none⟩ : Addr).add j) = some v) := Lib.hid (fun j v hj => by
        have hjm : j < m := by
          have := (List.getElem?_eq_some_iff.1 hj).1
          rw [flatI_len, List.length_replicate] at this
          exact this
        have e9 : v = .int .i64 z := by
          rw [flatI_map, List.map_replicate, List.getElem?_replicate, if_pos hjm] at hj
          injection hj with hj
          exact hj.symm
        have h10 : wr.cell? ⟨w.heap.size, j, none⟩ = some (.int .i64 (iAt (M i) j)) := RowB.cell hr j (by rw [hml]; omega)
        have h11 := HMI.out i j (by omega) hi
        rw [h11] at h10
        rw [e9, show (⟨w.heap.size, 0, none⟩ : Addr).add j = ⟨w.heap.size, j, none⟩ by unfold Addr.add; split <;> simp_all]
        exact h10)
      have HMSi := Lib.hid hms
      have HMLi := Lib.hid hml
      have HMM := Lib.hid hm
      have HM1 := Lib.hid hm1
      clear hr hb hms hml hm hm1 hm2
      go_wp2
      have hj0 : Below w.heap.size w wr.drew := HB.out.drew
      refine wp_region_late (S := fun _ => True) (X := [7]) (by kernel_rfl) ?_
      refine wpAnyL_pureD (i := 0) 38 (.int .i64 i) rfl rfl (by kernel_rfl) (by kernel_rfl) (by kernel_rfl) (fun _ _ _ h => h) (Or.inl ⟨by rfl, fun u _ => ?_⟩) ?_
      · go_simp
      try simp only [Act.put, List.setIfInBounds_toArray, List.set_cons_zero, List.set_cons_succ]
      refine wpAnyL_pureD (i := 1) 39 (.slice (some ⟨w.heap.size, 0, none⟩) c c) rfl rfl (by kernel_rfl) (by kernel_rfl) (by kernel_rfl) (fun _ _ _ h => h) (Or.inl ⟨by rfl, fun u _ => ?_⟩) ?_
      · go_simp
      try simp only [Act.put, List.setIfInBounds_toArray, List.set_cons_zero, List.set_cons_succ]
      refine wpAnyL_pureD (i := 2) 40 (.int .i64 i) rfl rfl (by kernel_rfl) (by kernel_rfl) (by kernel_rfl) (fun _ _ _ h => h) (Or.inl ⟨by rfl, fun u _ => ?_⟩) ?_
      · go_simp
      try simp only [Act.put, List.setIfInBounds_toArray, List.set_cons_zero, List.set_cons_succ]
      refine wpAnyL_pureD (i := 3) 41 (.slice (some ⟨w.heap.size, i, none⟩) (c - i) (c - i)) rfl rfl (by kernel_rfl) (by kernel_rfl) (by kernel_rfl) (fun _ _ _ h => h) (Or.inl ⟨by rfl, fun u _ => ?_⟩) ?_
      · go_simp
      try simp only [Act.put, List.setIfInBounds_toArray, List.set_cons_zero, List.set_cons_succ]
      refine wpAnyL_pureD (i := 4) 42 (.slice (some ⟨w.heap.size, 0, none⟩) c c) rfl rfl (by kernel_rfl) (by kernel_rfl) (by kernel_rfl) (fun _ _ _ h => h) (Or.inl ⟨by rfl, fun u _ => ?_⟩) ?_
      · go_simp
      try simp only [Act.put, List.setIfInBounds_toArray, List.set_cons_zero, List.set_cons_succ]
      refine wpAnyL_pureD (i := 5) 43 (.int .i64 i) rfl rfl (by kernel_rfl) (by kernel_rfl) (by kernel_rfl) (fun _ _ _ h => h) (Or.inl ⟨by rfl, fun u _ => ?_⟩) ?_
      · go_simp
      try simp only [Act.put, List.setIfInBounds_toArray, List.set_cons_zero, List.set_cons_succ]
      refine wpAnyL_pureD (i := 6) 44 (.slice (some ⟨w.heap.size, 0, none⟩) i c) rfl rfl (by kernel_rfl) (by kernel_rfl) (by kernel_rfl) (fun _ _ _ h => h) (Or.inl ⟨by rfl, fun u _ => ?_⟩) ?_
      · go_simp
      try simp only [Act.put, List.setIfInBounds_toArray, List.set_cons_zero, List.set_cons_succ]
      refine wpAnyL_one (i := 7) (by kernel_rfl) rfl (fun K hK => ?_)
      refine step_copy_splice rfl (.tmp 41) (.tmp 44) 22 22 rfl 3 Try.underlying22 (by kernel_rfl) (some ⟨w.heap.size, i, none⟩) (some ⟨w.heap.size, 0, none⟩) (c - i) (c - i) i c rfl rfl w.heap.size i (flat encI (M i)) 3 HR.out (flat encI (List.replicate m z)) (by rw [flatI_len, List.length_replicate]; exact HMM.out) (fun _ => ⟨rfl, _, rfl, HCS.out⟩) (by rw [flatI_len, flatI_len, List.length_replicate, HMLi.out]; exact HM1.out.2) (by rw [flatI_map]; intro v hv; obtain ⟨q, -, rfl⟩ := List.mem_map.1 hv; rfl) w.heap.size w hj0 (Nat.le_refl _) ?_
      intro x3 hx3 hb3
      refine hK.out _ _ (fun h => absurd (by decide) h) ?_
      clear hK K
      have hcl : (flat encI (List.replicate m z)).length = m := by rw [flatI_len, List.length_replicate]
      rw [hcl]
      dsimp only [goInt]
      obtain ⟨hm1a, hm1b⟩ := HM1.out
      have i7 : IntKind.i64.wrap ((i : Int) + (m : Int)) = (i : Int) + (m : Int) := IntWalk.i64_in _ (by omega)
      refine wpAnyL_one (i := 8) (by kernel_rfl) rfl (fun K hK => ?_)
      go_simp
      refine hK.out _ _ (fun _ h => h) ?_
      clear hK K
      refine wpAnyL_one (i := 9) (by kernel_rfl) rfl (fun K hK => ?_)
      go_simp
      refine hK.out _ _ (fun _ h => h) ?_
      clear hK K
      refine wpAnyL_done (by kernel_rfl) ?_ _

      have HX3 : Hid (RowB encI 3 x3 w.heap.size (M (i + m))) := Lib.hid (by unfold RowB Blk; rw [← HMSi.out]; exact hx3.out)
      have HB3 := Lib.hid hb3
      clear hx3 hb3 hj0 hcl
      go_wp2
      go_roundw
      case rel => exact ⟨i + m, by omega, by omega, by go_num, HX3.out, HB3.out⟩
      case measure => simp [intOf]; omega
    · obtain rfl : i = c := by omega
      have i1 : ¬ (i : Int) < (i : Int) := by omega
      have HR : Hid (RowB encI 3 wr w.heap.size (List.replicate i z)) := Lib.hid (by rw [HRP.out]; exact hr)
      have HB := Lib.hid hb
      clear hr hb
      go_wp2
      go_ret
      exact ⟨rfl, HR.out, HB.out⟩
end Go.Proofs.Ytgfbihdnjidodaa

namespace Go.Proofs.Ytgfbihdnjidodaa
open Go.RowKit Go.Shelf Go.Lib Go.Proofs.Gr
attribute [local go_sem] Oper.semAt_some

set_option maxHeartbeats 12800000 in
set_option maxRecDepth 100000 in
theorem ptimes_m (z : Int) (w : World) :
    Calls Try.prog 80 #[.int .i64 z, .int .i64 (-1)] w (fun e x => ∃ g, w.heap.size ≤ g ∧ e = .returned (.slice (some ⟨g, 0, none⟩) 0 0) ∧ RowB encI 3 x g (List.replicate 0 z) ∧ Below w.heap.size w x) := by
  have HR := Lib.hid (fun p cx w => prepeat_zero p cx w)
  obtain ⟨W, hW⟩ : ∃ W, W = w.alloc (Obj.cells #[.int .i64 z] 3) := ⟨_, rfl⟩
  have HB0 : Hid (Below w.heap.size w W) := Lib.hid (by rw [hW]; exact (Below.refl _ w).alloc (Nat.le_refl _) _)
  have HG : Hid (Blk W w.heap.size 3 #[.int .i64 z]) := Lib.hid (by rw [hW]; exact Blk.new _ _ _)
  have HWS : Hid (w.heap.size ≤ W.heap.size) := Lib.hid (by rw [hW]; simp)
  have HW := Lib.hid hW
  clear hW
  go_enter Try.func80, Try.ntmps80
  go_wp2_with fail
  rw [← HW.out]
  refine (HR.out _ _ _).mono ?_
  rintro e x ⟨rfl, hr, hb⟩
  have H1 := Lib.hid hr
  have H2 := Lib.hid (HB0.out.trans (hb.mono HB0.out.size))
  clear hr hb
  go_wp2
  go_ret
  exact ⟨_, HWS.out, rfl, H1.out, H2.out⟩
set_option maxHeartbeats 12800000 in
set_option maxRecDepth 100000 in
theorem ptimes_z (z : Int) (w : World) :
    Calls Try.prog 80 #[.int .i64 z, .int .i64 0] w (fun e x => ∃ g, w.heap.size ≤ g ∧ e = .returned (.slice (some ⟨g, 0, none⟩) 0 0) ∧ RowB encI 3 x g (List.replicate 0 z) ∧ Below w.heap.size w x) := by
  have HR := Lib.hid (fun p cx w => prepeat_zero p cx w)
  obtain ⟨W, hW⟩ : ∃ W, W = w.alloc (Obj.cells #[.int .i64 z] 3) := ⟨_, rfl⟩
  have HB0 : Hid (Below w.heap.size w W) := Lib.hid (by rw [hW]; exact (Below.refl _ w).alloc (Nat.le_refl _) _)
  have HG : Hid (Blk W w.heap.size 3 #[.int .i64 z]) := Lib.hid (by rw [hW]; exact Blk.new _ _ _)
  have HWS : Hid (w.heap.size ≤ W.heap.size) := Lib.hid (by rw [hW]; simp)
  have HW := Lib.hid hW
  clear hW
  go_enter Try.func80, Try.ntmps80
  go_wp2_with fail
  rw [← HW.out]
  refine (HR.out _ _ _).mono ?_
  rintro e x ⟨rfl, hr, hb⟩
  have H1 := Lib.hid hr
  have H2 := Lib.hid (HB0.out.trans (hb.mono HB0.out.size))
  clear hr hb
  go_wp2
  go_ret
  exact ⟨_, HWS.out, rfl, H1.out, H2.out⟩
set_option maxHeartbeats 12800000 in
set_option maxRecDepth 100000 in
theorem ptimes_up (z : Int) (c : Nat) (hc : 1 ≤ c) (hc2 : c ≤ 1000) (w : World) :
    Calls Try.prog 80 #[.int .i64 z, .int .i64 c] w (fun e x => ∃ g, w.heap.size ≤ g ∧ e = .returned (.slice (some ⟨g, 0, none⟩) c c) ∧ RowB encI 3 x g (List.replicate c z) ∧ Below w.heap.size w x) := by
  have t0 : 0 < (c : Int) := by omega
  have t1 : ¬ (c : Int) < 0 := by omega
  have t2 : ¬ (c : Int) ≤ 0 := by omega
  have t3 : 0 ≤ (c : Int) := by omega
  have HR := Lib.hid (fun p cx w h => prepeat_pos z c hc2 hc p cx w h)
  obtain ⟨W, hW⟩ : ∃ W, W = w.alloc (Obj.cells #[.int .i64 z] 3) := ⟨_, rfl⟩
  have HB0 : Hid (Below w.heap.size w W) := Lib.hid (by rw [hW]; exact (Below.refl _ w).alloc (Nat.le_refl _) _)
  have HG : Hid (Blk W w.heap.size 3 #[.int .i64 z]) := Lib.hid (by rw [hW]; exact Blk.new _ _ _)
  have HWS : Hid (w.heap.size ≤ W.heap.size) := Lib.hid (by rw [hW]; simp)
  have HW := Lib.hid hW
  clear hW
  go_enter Try.func80, Try.ntmps80
  go_wp2_with fail
  rw [← HW.out]
  refine (HR.out _ _ _ (HG.out.cell 0)).mono ?_
  rintro e x ⟨rfl, hr, hb⟩
  have H1 := Lib.hid hr
  have H2 := Lib.hid (HB0.out.trans (hb.mono HB0.out.size))
  clear hr hb
  go_wp2
  go_ret
  exact ⟨_, HWS.out, rfl, H1.out, H2.out⟩
theorem zeroCellsI (k : Nat) : Builtin.zeroCells (Value.int .i64 0).cells k = (flat encI (List.replicate k 0)).toArray := by
  apply Array.toList_inj.1
  rw [flatI_map, List.map_replicate, show (Value.int .i64 0).cells = #[.int .i64 0] from rfl]
  apply List.ext_getElem
  · simp [Builtin.zeroCells]
  · intro i h1 h2
    simp [Builtin.zeroCells, Nat.mod_one]
set_option maxHeartbeats 12800000 in
set_option maxRecDepth 100000 in
theorem pgrow_nil (n : Nat) (h1 : 1 ≤ n) (h2 : n ≤ 100000) (w : World) :
    Calls Try.prog 88 #[.slice none 0 0, .int .i64 n] w (fun e x => ∃ v, e = .returned v ∧ x.ownsRow w.heap.size 3 1 v 0 [] ∧ (∃ g c, v = .slice (some ⟨g, 0, none⟩) 0 c) ∧ Below w.heap.size w x) := by
  obtain ⟨i0, hi0, hz0, hz1, hz2⟩ := info_parts infoI
  have hr := run_append_nil_zeros (P := Try.prog) w 22 3 22 3 i0 (.int .i64 0) .i64 .i64 Try.underlying22 Try.underlying3 hi0 hz0 n (by omega) (by rw [hz1]; decide) (by omega) (by rw [hz2]; omega)
  obtain ⟨c, hc⟩ : ∃ c, c = grownCap w n 0 3 := ⟨_, rfl⟩
  have hcn : n ≤ c := by rw [hc]; exact grownCap_ge w n 0 3
  rw [← hc, zeroCellsI, zeroCellsI] at hr
  have d1 : ¬ (n : Int) < 0 := by omega
  have d2 : (0 : Int) < (n : Int) := by omega
  have d3 : ¬ (n : Int) ≤ 0 := by omega
  obtain ⟨Y, hY⟩ : ∃ Y, Y = w.drew.alloc (.cells ((flat encI (List.replicate n 0)).toArray ++ (flat encI (List.replicate (c - n) 0)).toArray) 3) := ⟨_, rfl⟩
  rw [← hY] at hr
  have HBY : Hid (Below w.heap.size w Y) := Lib.hid (by rw [hY]; exact (Below.refl _ _).drew.alloc (Nat.le_refl _) _)
  have HR := Lib.hid hr
  have HOWN : Hid (Y.ownsRow w.heap.size 3 1 (.slice (some ⟨w.heap.size, 0, none⟩) 0 c) 0 []) := Lib.hid (by
    refine ⟨rfl, .inr ⟨w.heap.size, c, _, rfl, Nat.le_refl _, by rw [hY]; exact heap_alloc_last w.drew _, by omega, by rw [hc]; exact grownCap_le_maxLen w n 0 _ (by unfold maxLen; omega), ?_, rfl⟩⟩
    rw [Array.size_append, List.size_toArray, List.size_toArray, flatI_len, flatI_len, List.length_replicate, List.length_replicate]
    omega)
  have d4 : (n : Int) ≤ (c : Int) := by omega
  clear hr hY hc
  go_enter Try.func88, Try.ntmps88
  go_wp2_with (at_builtin; refine Lib.wpList_append_run _ rfl _ _ _ _ rfl _ _ rfl rfl _ _ HR.out ?_)
  go_ret
  exact ⟨_, rfl, HOWN.out, ⟨_, _, rfl⟩, HBY.out⟩
end Go.Proofs.Ytgfbihdnjidodaa

namespace Go.Proofs.Ytgfbihdnjidodaa
open Go.RowKit Go.Shelf Go.Lib Go.Proofs.Gr
attribute [local go_sem] Oper.semAt_some

set_option maxHeartbeats 12800000 in
set_option maxRecDepth 100000 in
theorem pconcat_any (b : Nat) (Ls : Nat → List Int) (A : Nat → Nat) (C : Nat → Nat) (hlen : ∀ i, (Ls i).length ≤ 1000) (h3 : 1 ≤ (Ls 0).length + (Ls 1).length + (Ls 2).length) (w : World) (hb : b < w.heap.size) (hc : ∀ i, i < 3 → w.cell? ⟨b, i, none⟩ = some (.slice (some ⟨A i, 0, none⟩) (Ls i).length (C i)) ∧ A i < w.heap.size ∧ IsAt w (some ⟨A i, 0, none⟩) (Ls i)) :
    Calls Try.prog 82 #[.slice (some ⟨b, 0, none⟩) 3 3] w (fun e x => ∃ v, e = .returned v ∧ x.ownsRow w.heap.size 3 1 v (Ls 0 ++ Ls 1 ++ Ls 2).length (flat encI (Ls 0 ++ Ls 1 ++ Ls 2)) ∧ Below w.heap.size w x) := by
  obtain ⟨i0, hi0, hz0, hz1, hz2⟩ := info_parts infoI
  have HGR := Lib.hid (fun n h1 h2 w => pgrow_nil n h1 h2 w)
  obtain ⟨sz, hsz⟩ : ∃ sz : Nat → Nat, sz = fun i => if i = 0 then 0 else if i = 1 then (Ls 0).length else if i = 2 then (Ls 0).length + (Ls 1).length else (Ls 0).length + (Ls 1).length + (Ls 2).length := ⟨_, rfl⟩
  have HS0 : Hid (sz 0 = 0) := Lib.hid (by rw [hsz]; rfl)
  have HSS : Hid (∀ i, i < 3 → sz (i + 1) = sz i + (Ls i).length) := Lib.hid (fun i hi => by
    have : i = 0 ∨ i = 1 ∨ i = 2 := by omega
    rcases this with rfl | rfl | rfl <;> simp [hsz])
  have HSB : Hid (∀ i, sz i ≤ 3000) := Lib.hid (fun i => by
    have h0 := hlen 0; have h1 := hlen 1; have h2 := hlen 2
    rw [hsz]; dsimp only; (repeat' split) <;> omega)
  have HS3 : Hid (1 ≤ sz 3) := Lib.hid (by rw [hsz]; simpa using h3)
  obtain ⟨pr, hpr⟩ : ∃ pr : Nat → List Int, pr = fun i => if i = 0 then [] else if i = 1 then Ls 0 else if i = 2 then Ls 0 ++ Ls 1 else Ls 0 ++ Ls 1 ++ Ls 2 := ⟨_, rfl⟩
  have HP0 : Hid (pr 0 = []) := Lib.hid (by rw [hpr]; rfl)
  have HPS : Hid (∀ i, i < 3 → pr (i + 1) = pr i ++ Ls i) := Lib.hid (fun i hi => by
    have : i = 0 ∨ i = 1 ∨ i = 2 := by omega
    rcases this with rfl | rfl | rfl <;> simp [hpr])
  have HP3 : Hid (pr 3 = Ls 0 ++ Ls 1 ++ Ls 2) := Lib.hid (by rw [hpr]; rfl)
  have HPL : Hid (∀ i, (pr i).length ≤ 3000) := Lib.hid (fun i => by
    have h0 := hlen 0; have h1 := hlen 1; have h2 := hlen 2
    rw [hpr]; dsimp only; (repeat' split) <;> (try simp only [List.length_append, List.length_nil]) <;> omega)
  have HLN := Lib.hid hlen
  have HC := Lib.hid hc
  have HBL := Lib.hid hb
  clear hsz hpr hlen h3 hc hb
  go_enter Try.func82, Try.ntmps82
  go_wp2
  go_loopw [3, 11] (fun u x wr => ∃ i : Nat, i ≤ 3 ∧ x = .int .i64 i ∧ u = .int .i64 (sz i) ∧ Below w.heap.size w wr) (fun _ x _ => 3 - (intOf x).toNat)
  case atStart => exact ⟨0, by omega, rfl, by rw [HS0.out]; rfl, Below.refl _ _⟩
  case round =>
    obtain ⟨i, hi, rfl, rfl, hbw⟩ := hrel
    have HB := Lib.hid hbw
    by_cases hlt : i < 3
    · have i1 : (i : Int) < 3 := by omega
      have i2 : (0 : Int) ≤ (i : Int) := by omega
      obtain ⟨c1, c2, c3⟩ := HC.out i hlt
      have x1 : wr.cell? ⟨b, i, none⟩ = _ := (hbw.cell (p := ⟨b, i, none⟩) HBL.out).trans c1
      have hs := HSS.out i hlt
      have hs1 := HSB.out i
      have hs2 := HLN.out i
      have HSn := Lib.hid hs
      generalize sz i = si at *
      generalize (Ls i).length = li at *
      have e1 : IntKind.i64.wrap ((si : Int) + (li : Int)) = (si : Int) + (li : Int) := IntWalk.i64_in _ (by omega)
      have e2 : ¬ (si : Int) + (li : Int) < 0 := by omega
      have e3 : (0 : Int) ≤ (si : Int) + (li : Int) := by omega
      clear hbw c1 c2 c3 hs
      go_wp2
      go_roundw
      case rel => exact ⟨i + 1, by omega, by go_num, by rw [HSn.out]; go_num, HB.out⟩
      case measure => simp [intOf]; omega
    · obtain rfl : i = 3 := by omega
      have hs1 := HSB.out 3
      have hs2 := HS3.out
      have HG := Lib.hid (fun w => HGR.out (sz 3) hs2 (by omega) w)
      clear hbw
      go_wp2_with fail
      refine (HG.out _).mono ?_
      rintro e x1 ⟨v, rfl, ho, -, hb1⟩
      have HO := Lib.hid ho
      have HB1 := Lib.hid hb1
      obtain ⟨B, hB⟩ : ∃ B, B = wr.heap.size := ⟨_, rfl⟩
      have HBB := Lib.hid hB
      clear ho hb1 hB
      rw [← HBB.out] at HO HB1
      have HBX : Hid (Below w.heap.size w x1) := Lib.hid (HB.out.trans (HB1.out.mono (by rw [HBB.out]; exact HB.out.size)))
      have HBS : Hid (w.heap.size ≤ B ∧ B ≤ x1.heap.size) := Lib.hid ⟨by rw [HBB.out]; exact HB.out.size, by rw [HBB.out]; exact HB1.out.size⟩
      clear HB1 HB HBB
      clear wr
      go_wp2
      go_loopw [6, 27] (fun s x wq => ∃ i : Nat, i ≤ 3 ∧ x = .int .i64 i ∧ wq.ownsRow B 3 1 s (pr i).length (flat encI (pr i)) ∧ Below B x1 wq) (fun _ x _ => 3 - (intOf x).toNat)
      case atStart => exact ⟨0, by omega, rfl, by rw [HP0.out]; exact HO.out, Below.refl _ _⟩
      case round =>
        obtain ⟨i, hi, rfl, ho, hbq⟩ := hrel
        by_cases hlt : i < 3
        · have i1 : (i : Int) < 3 := by omega
          have i2 : (0 : Int) ≤ (i : Int) := by omega
          obtain ⟨c1, c2, c3⟩ := HC.out i hlt
          have hbw : Below w.heap.size w wr := HBX.out.trans (hbq.mono HBS.out.1)
          have y1 : wr.cell? ⟨b, i, none⟩ = _ := (hbw.cell (p := ⟨b, i, none⟩) HBL.out).trans c1
          have HNW : Hid (∀ j u, (flat encI (Ls i))[j]? = some u → wr.cell? ((⟨A i, 0, none⟩ : Addr).add j) = some u) := Lib.hid (fun j u hj => RowAt.cellsF (by decide) encI_len (c3.keep hbw) j u hj)
          have hp1 := HPL.out i
          have hs2 := HLN.out i
          have HPn := Lib.hid (HPS.out i hlt)
          have HOW := Lib.hid ho
          have HBQ := Lib.hid hbq
          have HFL : Hid ((flat encI (Ls i)).length = (Ls i).length * 1) := Lib.hid (by rw [flatI_len, Nat.mul_one])
          have HFO : Hid (∀ u ∈ flat encI (Ls i), u.oneCell' = true) := Lib.hid (by rw [flatI_map]; intro v hv; obtain ⟨q, -, rfl⟩ := List.mem_map.1 hv; rfl)
          have HZ : Hid (B ≤ wr.heap.size) := Lib.hid (Nat.le_trans HBS.out.2 hbq.size)
          generalize Ls i = li at *
          generalize A i = ai at *
          generalize C i = ci at *
          generalize pr i = pi at *
          clear hbw c1 c2 c3 ho hbq
          go_wp2_with (at_builtin; refine wpList_append_own _ rfl _ _ 22 rfl B 3 i0 (.int .i64 0) 1 8 Try.underlying22 hi0 hz0 hz1 hz2 rfl (by decide) _ _ _ rfl HOW.out ⟨ai, 0, none⟩ li.length ci (flat encI li) rfl HFL.out HNW.out HFO.out (by unfold maxLen; omega) (by omega) HZ.out ?_; intro v1 w3 hown1 hgrow1 hnil; clear hnil; have HO3 : Hid (w3.ownsRow B 3 1 v1 (pi ++ li).length (flat encI (pi ++ li))) := Lib.hid (by rw [List.length_append, flat_append]; exact hown1); have HB3 : Hid (Below B x1 w3) := Lib.hid (HBQ.out.grown hgrow1 HZ.out (fun k hk => (HOW.out.lt k hk).1)); clear hown1 hgrow1)
          go_roundw
          case rel => exact ⟨i + 1, by omega, by go_num, by rw [HPn.out]; exact HO3.out, HB3.out⟩
          case measure => simp [intOf]; omega
        · obtain rfl : i = 3 := by omega
          have HO4 : Hid (wr.ownsRow w.heap.size 3 1 u6 (Ls 0 ++ Ls 1 ++ Ls 2).length (flat encI (Ls 0 ++ Ls 1 ++ Ls 2))) := Lib.hid (by rw [← HP3.out]; exact ho.mono HBS.out.1)
          have HB4 : Hid (Below w.heap.size w wr) := Lib.hid (HBX.out.trans (hbq.mono HBS.out.1))
          clear ho hbq
          go_wp2
          go_ret
          exact ⟨_, rfl, HO4.out, HB4.out⟩
set_option maxHeartbeats 12800000 in
set_option maxRecDepth 100000 in
theorem pone_any (z : Int) (w : World) : Calls Try.prog 39 #[.int .i64 z] w (fun e x => e = .returned (.bool (decide (z = 1))) ∧ Below w.heap.size w x) := by
  have HB := Lib.hid (Below.refl w.heap.size w)
  by_cases h : z = 1
  · subst h
    go_enter Try.func39, Try.ntmps39
    go_wp2
    go_ret
    exact ⟨rfl, HB.out⟩
  · have h1 : (z == 1) = false := by simpa using h
    have HD : Hid (decide (z = 1) = false) := Lib.hid (decide_eq_false h)
    go_enter Try.func39, Try.ntmps39
    go_wp2
    go_ret
    exact ⟨by rw [HD.out]; rfl, HB.out⟩
set_option maxHeartbeats 12800000 in
set_option maxRecDepth 100000 in
theorem pidx_any (a : Option Addr) (cap : Nat) (L : List Int) (hL : L.length ≤ 100000) (w : World) (h : IsAt w a L) :
    Calls Try.prog 52 #[.slice a L.length cap, (.func (.func 39) #[] #[])] w (fun e x => ∃ r : Int, e = .returned (.int .i64 r) ∧ ((r = -1 ∧ ∀ j, j < L.length → iAt L j ≠ 1) ∨ ∃ k : Nat, r = k ∧ k < L.length ∧ iAt L k = 1 ∧ ∀ j, j < k → iAt L j ≠ 1) ∧ Below w.heap.size w x) := by
  have HO := Lib.hid (fun z w => pone_any z w)
  have HI := Lib.hid h
  clear h
  go_enter Try.func52, Try.ntmps52
  go_wp2
  go_loopw [8] (fun x wr => ∃ i : Nat, i ≤ L.length ∧ x = .int .i64 i ∧ (∀ j, j < i → iAt L j ≠ 1) ∧ Below w.heap.size w wr) (fun x _ => L.length - (intOf x).toNat)
  case atStart => exact ⟨0, by omega, rfl, fun j hj => by omega, Below.refl _ _⟩
  case round =>
    obtain ⟨i, hi, rfl, hz, hb⟩ := hrel
    have HZ := Lib.hid hz
    have HB := Lib.hid hb
    by_cases hlt : i < L.length
    · have i1 : (i : Int) < (L.length : Int) := by omega
      have i2 : (0 : Int) ≤ (i : Int) := by omega
      obtain ⟨bb, oo, rfl, q1, x1⟩ := (HI.out.keep hb).one i hlt
      obtain ⟨z, hz1⟩ : ∃ z, z = iAt L i := ⟨_, rfl⟩
      rw [← hz1] at x1
      have HZ1 := Lib.hid hz1
      clear hz hb hz1
      by_cases h1 : z = 1
      · have HD : Hid (decide (z = 1) = true) := Lib.hid (decide_eq_true h1)
        have HZZ := Lib.hid h1
        clear h1
        go_wp2_with fail
        refine (HO.out z _).mono ?_
        rintro e x2 ⟨rfl, hb2⟩
        rw [HD.out]
        have HB2 := Lib.hid (HB.out.trans (hb2.mono HB.out.size))
        clear hb2
        go_wp2
        go_ret
        exact ⟨_, rfl, .inr ⟨i, rfl, hlt, by rw [← HZ1.out]; exact HZZ.out, HZ.out⟩, HB2.out⟩
      · have HD : Hid (decide (z = 1) = false) := Lib.hid (decide_eq_false h1)
        have HZ2 : Hid (∀ j, j < i + 1 → iAt L j ≠ 1) := Lib.hid (fun j hj => by
          by_cases e : j = i
          · rw [e, ← HZ1.out]; exact h1
          · exact HZ.out j (by omega))
        clear h1
        go_wp2_with fail
        refine (HO.out z _).mono ?_
        rintro e x2 ⟨rfl, hb2⟩
        rw [HD.out]
        have HB2 := Lib.hid (HB.out.trans (hb2.mono HB.out.size))
        clear hb2
        go_wp2
        go_roundw
        case rel => exact ⟨i + 1, by omega, by go_num, HZ2.out, HB2.out⟩
        case measure => simp [intOf]; omega
    · obtain rfl : i = L.length := by omega
      have i1 : ¬ (L.length : Int) < (L.length : Int) := by omega
      clear hz hb
      go_wp2
      go_ret
      exact ⟨_, rfl, .inl ⟨rfl, HZ.out⟩, HB.out⟩
end Go.Proofs.Ytgfbihdnjidodaa

namespace Go.Proofs.Ytgfbihdnjidodaa
open Go.RowKit Go.Shelf Go.Lib Go.Proofs.Gr
attribute [local go_sem] Oper.semAt_some

/-- A list without 1s. -/
def no1 (L : List Int) : List Int := L.filter fun x => decide (¬ x = 1)
theorem no1_take (L : List Int) (i : Nat) (h : i < L.length) : no1 (L.take (i + 1)) = no1 (L.take i) ++ (if iAt L i = 1 then [] else [iAt L i]) := by
  unfold no1
  rw [List.take_succ_eq_append_getElem h, List.filter_append, iAt_get]
  congr 1
  by_cases e : iAt L i = 1
  · rw [if_pos e]; simp [e]
  · rw [if_neg e]; simp [e]
theorem no1_none (L : List Int) (k : Nat) (hk : k ≤ L.length) (h : ∀ j, j < k → iAt L j ≠ 1) : no1 (L.take k) = L.take k := by
  unfold no1
  rw [List.filter_eq_self]
  intro x hx
  obtain ⟨j, hj, rfl⟩ := List.getElem_of_mem hx
  rw [List.length_take] at hj
  rw [List.getElem_take, iAt_get L j (by omega)]
  have := h j (by omega)
  simpa using this
theorem no1_len (L : List Int) : (no1 L).length ≤ L.length := List.length_filter_le _ _
/-- The list under way: what is kept, what lies between, what is still to be read. -/
def midL (L M : List Int) (j : Nat) : Prop := M.length = L.length ∧ M.take (no1 (L.take j)).length = no1 (L.take j) ∧ ∀ q, j ≤ q → q < L.length → iAt M q = iAt L q
theorem midL_start (L : List Int) (k : Nat) (hk : k < L.length) (h1 : iAt L k = 1) (h : ∀ j, j < k → iAt L j ≠ 1) : midL L L (k + 1) ∧ (no1 (L.take (k + 1))).length = k := by
  have e : no1 (L.take (k + 1)) = L.take k := by rw [no1_take L k hk, if_pos h1, List.append_nil, no1_none L k (by omega) h]
  refine ⟨⟨rfl, ?_, fun q _ _ => rfl⟩, ?_⟩
  · rw [e, List.length_take, Nat.min_eq_left (by omega)]
  · rw [e, List.length_take, Nat.min_eq_left (by omega)]
theorem iAt_set (M : List Int) (i q : Nat) (v : Int) (h : i ≠ q) : iAt (M.set i v) q = iAt M q := by
  unfold iAt; rw [List.getD_eq_getElem?_getD, List.getD_eq_getElem?_getD, List.getElem?_set_ne h]
theorem midL_skip {L M : List Int} {j : Nat} (h : midL L M j) (hj : j < L.length) (h1 : iAt L j = 1) : midL L M (j + 1) ∧ (no1 (L.take (j + 1))).length = (no1 (L.take j)).length := by
  have e : no1 (L.take (j + 1)) = no1 (L.take j) := by rw [no1_take L j hj, if_pos h1, List.append_nil]
  obtain ⟨h2, h3, h4⟩ := h
  exact ⟨⟨h2, by rw [e]; exact h3, fun q hq hl => h4 q (by omega) hl⟩, by rw [e]⟩
theorem midL_keep {L M : List Int} {j : Nat} (h : midL L M j) (hj : j < L.length) (h1 : ¬ iAt L j = 1) (hi : (no1 (L.take j)).length < j) : midL L (M.set (no1 (L.take j)).length (iAt L j)) (j + 1) ∧ (no1 (L.take (j + 1))).length = (no1 (L.take j)).length + 1 := by
  have e : no1 (L.take (j + 1)) = no1 (L.take j) ++ [iAt L j] := by rw [no1_take L j hj, if_neg h1]
  obtain ⟨h2, h3, h4⟩ := h
  refine ⟨⟨by rw [List.length_set]; exact h2, ?_, fun q hq hl => ?_⟩, by rw [e]; simp⟩
  · rw [e, List.length_append, List.length_singleton]
    generalize hK : no1 (L.take j) = K at *
    rw [List.take_succ_eq_append_getElem (by rw [List.length_set]; omega), List.getElem_set_self, List.take_set_of_le (Nat.le_refl _), h3]
  · rw [iAt_set _ _ _ _ (by omega)]
    exact h4 q (by omega) hl
/-- A block that holds a list and more behind it. -/
def RowR (w : World) (g : Nat) (M : List Int) (R : List Value) : Prop := Blk w g 3 (flat encI M ++ R).toArray
theorem RowR.cell {w : World} {g : Nat} {M : List Int} {R : List Value} (h : RowR w g M R) (i : Nat) (hi : i < M.length) : w.cell? ⟨g, i, none⟩ = some (.int .i64 (iAt M i)) := by
  rw [Blk.cell h i, List.getElem?_toArray, List.getElem?_append_left (by rw [flatI_len]; exact hi)]
  have := flat_at (k := 1) (enc := encI) encI_len M i 0 hi (by decide)
  rw [Nat.mul_one, Nat.add_zero] at this
  rw [this, iAt_get M i hi]; rfl
theorem RowR.set {w : World} {g : Nat} {M : List Int} {R : List Value} (h : RowR w g M R) (i : Nat) (hi : i < M.length) (v : Int) : RowR (w.setCell ⟨g, i, none⟩ (.int .i64 v)) g (M.set i v) R := by
  have := Blk.set_ h i (.int .i64 v)
  unfold RowR
  rw [flatI_map] at this ⊢
  rw [List.map_set, ← List.set_append_left _ _ (by simpa using hi)]
  simpa using this
theorem RowR.of_own {w : World} {base : Nat} {v : Value} {L : List Int} (h : w.ownsRow base 3 1 v L.length (flat encI L)) : (v = .slice none 0 0 ∧ L = []) ∨ ∃ g c R, v = .slice (some ⟨g, 0, none⟩) L.length c ∧ base ≤ g ∧ L.length ≤ c ∧ c ≤ maxLen ∧ RowR w g L R := by
  rcases h.2 with ⟨h1, h2⟩ | ⟨g, cap, cur, h1, h2, h3, h4, h5, h6, h7⟩
  · exact .inl ⟨h1, List.length_eq_zero_iff.1 h2⟩
  · refine .inr ⟨g, cap, cur.toList.drop L.length, h1, h2, h4, h5, ?_⟩
    have e : (flat encI L ++ cur.toList.drop L.length).toArray = cur := by
      rw [← h7, Nat.mul_one, List.take_append_drop]
    unfold RowR Blk
    rw [e]; exact h3
theorem RowR.row {w : World} {g : Nat} {M : List Int} {R : List Value} (h : RowR w g M R) (n : Nat) (hn : n ≤ M.length) : IsAt w (some ⟨g, 0, none⟩) (M.take n) := by
  intro j hj
  rw [List.length_take] at hj
  refine ⟨g, 0, rfl, h.lt, fun i hi => ?_⟩
  obtain rfl : i = 0 := by omega
  rw [Nat.zero_add, Nat.mul_one, Nat.add_zero, h.cell j (by omega), List.getElem_take, iAt_get M j (by omega)]; rfl
theorem setCells_far (g : Nat) (vs : List Value) (o : Nat) (w : World) (i : Nat) (h : i < o) : (w.setCells g o vs).cell? ⟨g, i, none⟩ = w.cell? ⟨g, i, none⟩ :=
  World.cell?_setCells_out g vs o w ⟨g, i, none⟩ (fun _ _ => .inl h)
theorem grown_setCellsF (b : Nat) : ∀ (vs : List Value) (o : Nat) (w : World) (B : Nat), B ≤ b → Below B w (w.setCells b o vs)
  | [], _, _, _, _ => Below.refl _ _
  | v :: vs, o, w, B, h => ((Below.refl B w).setCell (p := ⟨b, o, none⟩) h v).trans (grown_setCellsF b vs (o + 1) _ B h)
end Go.Proofs.Ytgfbihdnjidodaa

namespace Go.Proofs.Ytgfbihdnjidodaa
open Go.RowKit Go.Shelf Go.Lib Go.Proofs.Gr
attribute [local go_sem] Oper.semAt_some

theorem wpList_clear_run {P : Program} (w : World) {ops : Array Oper} {rest : List Oper} {o : Oper} {a : Act} {Q : Exit → Act → World → Prop} (hgd : o.guard = none) (s : Operand) (t : TypeId)
    (ho : o.op = .call { callee := .builtin .clear, args := #[s], argTypes := #[t] }) (hd : o.dst = none) (vs : Value) (hs : a.eval s = vs)
    (w' : World) (hr : (Builtin.clear_ #[t] o.type #[vs]).run P w = .ok (.tuple #[]) w') (h : wpList P ops Q rest a w') : wpList P ops Q (o :: rest) a w :=
  wpList_plain hgd fun K hK => by
    unfold Oper.wp execOp
    simp only [ho, resolve, invoke, builtin, Sem.run_bind, Sem.run_pure, Result.andThen_ok, List.map_toArray, List.map_cons, List.map_nil, hs, hr]
    rw [Oper.upon_value, hd]
    exact hK _ _ h
theorem zeroI (w : World) : (zeroValue 3).run Try.prog w = .ok (.int .i64 0) w := by kernel_rfl
set_option maxHeartbeats 12800000 in
set_option maxRecDepth 100000 in
theorem pdelF_any (base g c : Nat) (L : List Int) (R : List Value) (hL : L.length ≤ 10000) (hc : L.length ≤ c) (hg : base ≤ g) (w : World) (hr : RowR w g L R) :
    Calls Try.prog 38 #[.slice (some ⟨g, 0, none⟩) L.length c, (.func (.func 39) #[] #[])] w (fun e x => ∃ c', e = .returned (.slice (some ⟨g, 0, none⟩) (no1 L).length c') ∧ IsAt x (some ⟨g, 0, none⟩) (no1 L) ∧ Below base w x) := by
  have HIX := Lib.hid (fun w h => pidx_any (some ⟨g, 0, none⟩) c L (by omega) w h)
  have HO := Lib.hid (fun z w => pone_any z w)
  have HR := Lib.hid hr
  have hgl : g < w.heap.size := hr.lt
  have HGL : Hid (base ≤ w.heap.size) := Lib.hid (by omega)
  have HG := Lib.hid hg
  have HI : Hid (IsAt w (some ⟨g, 0, none⟩) L) := Lib.hid (by have := hr.row L.length (Nat.le_refl _); rwa [List.take_length] at this)
  clear hr hg hgl
  go_enter Try.func38, Try.ntmps38
  go_wp2_with fail
  refine (HIX.out w HI.out).mono ?_
  rintro e x1 ⟨r, rfl, hcase, hb⟩
  rcases hcase with ⟨rfl, hno⟩ | ⟨k, rfl, hk, hk1, hkj⟩
  · have HN : Hid (no1 L = L) := Lib.hid (by have := no1_none L L.length (Nat.le_refl _) hno; rwa [List.take_length] at this)
    have HI2 := Lib.hid (HI.out.keep hb)
    have HB2 := Lib.hid (hb.mono HGL.out)
    clear hno hb
    go_wp2
    go_ret
    exact ⟨c, by rw [HN.out]; rfl, by rw [HN.out]; exact HI2.out, HB2.out⟩
  · have k0 : ¬ (k : Int) = -1 := by omega
    have k1 : ((k : Int) == -1) = false := by rw [beq_eq_false_iff_ne]; omega
    obtain ⟨hm0, hn0⟩ := midL_start L k hk hk1 hkj
    have HM0 := Lib.hid hm0
    have HN0 := Lib.hid hn0
    have HR1 : Hid (RowR x1 g L R) := Lib.hid (Blk.below HR.out hb HR.out.lt)
    have HB1 := Lib.hid (hb.mono HGL.out)
    have HSK := Lib.hid (fun M j h a b => @midL_skip L M j h a b)
    have HKP := Lib.hid (fun M j h a b d => @midL_keep L M j h a b d)
    have HEN : Hid (no1 (L.take L.length) = no1 L) := Lib.hid (by rw [List.take_length])
    clear hm0 hn0 hb hk1 hkj
    obtain ⟨N, hN⟩ : ∃ N : Nat → Nat, N = fun j => (no1 (L.take j)).length := ⟨_, rfl⟩
    have HNN : Hid (∀ j, (no1 (L.take j)).length = N j) := Lib.hid (fun j => by rw [hN])
    simp only [HNN.out] at HN0 HSK HKP
    clear hN
    go_wp2
    go_loopw [5, 6] (fun u x wr => ∃ (j : Nat) (M : List Int), k + 1 ≤ j ∧ j ≤ L.length ∧ x = .int .i64 j ∧ u = .int .i64 (N j) ∧ N j + 1 ≤ j ∧ midL L M j ∧ RowR wr g M R ∧ Below base w wr) (fun _ x _ => L.length - (intOf x).toNat)
    case atStart => exact ⟨k + 1, L, by omega, by omega, by go_num, by rw [HN0.out], by rw [HN0.out]; omega, HM0.out, HR1.out, HB1.out⟩
    case round =>
      obtain ⟨j, M, hj1, hj, rfl, rfl, hnj, hmid, hrow, hb⟩ := hrel
      have HMID := Lib.hid hmid
      have HROW := Lib.hid hrow
      have HBR := Lib.hid hb
      have hml := hmid.1
      by_cases hlt : j < L.length
      · have i1 : (j : Int) < (L.length : Int) := by omega
        have i2 : (0 : Int) ≤ (j : Int) := by omega
        have x2 : wr.cell? ⟨g, j, none⟩ = some (.int .i64 (iAt M j)) := hrow.cell j (by omega)
        rw [hmid.2.2 j (Nat.le_refl _) hlt] at x2
        have hsk := HSK.out M j hmid hlt
        have hkp := HKP.out M j hmid hlt
        obtain ⟨z, hz⟩ : ∃ z, z = iAt L j := ⟨_, rfl⟩
        rw [← hz] at x2 hsk hkp
        by_cases h1 : z = 1
        · have HD : Hid (decide (z = 1) = true) := Lib.hid (decide_eq_true h1)
          have HSN := Lib.hid (hsk h1)
          clear hmid hrow hb hml hz hsk hkp h1
          go_wp2_with fail
          refine (HO.out z _).mono ?_
          rintro e x3 ⟨rfl, hb3⟩
          rw [HD.out]
          have HB3 := Lib.hid (HBR.out.trans (hb3.mono (Nat.le_trans HGL.out HBR.out.size)))
          have HR3 : Hid (RowR x3 g M R) := Lib.hid (Blk.below HROW.out hb3 HROW.out.lt)
          clear hb3
          go_wp2
          go_roundw
          case rel => exact ⟨j + 1, M, by omega, by omega, by go_num, by rw [HSN.out.2], by rw [HSN.out.2]; omega, HSN.out.1, HR3.out, HB3.out⟩
          case measure => simp [intOf]; omega
        · have HD : Hid (decide (z = 1) = false) := Lib.hid (decide_eq_false h1)
          have HKN := Lib.hid (hkp h1 (by omega))
          clear hmid hrow hb hz hsk hkp h1
          go_wp2_with fail
          refine (HO.out z _).mono ?_
          rintro e x3 ⟨rfl, hb3⟩
          rw [HD.out]
          have HB3 := Lib.hid (HBR.out.trans (hb3.mono (Nat.le_trans HGL.out HBR.out.size)))
          have hr3 : RowR x3 g M R := Blk.below HROW.out hb3 HROW.out.lt
          have z0 : x3.cell? ⟨g, N j, none⟩ = some (.int .i64 (iAt M (N j))) := hr3.cell _ (by omega)
          have z1 : x3.frozen? ⟨g, N j, none⟩ = false := Blk.frozen hr3 _
          have HR4 := Lib.hid (hr3.set (N j) (by omega) z)
          have HB4 := Lib.hid (HB3.out.setCell (p := ⟨g, N j, none⟩) HG.out (.int .i64 z))
          have n1 : (N j : Int) < (L.length : Int) := by omega
          have n2 : (0 : Int) ≤ (N j : Int) := by omega
          clear hb3 hr3
          go_wp2
          go_roundw
          case rel => exact ⟨j + 1, _, by omega, by omega, by go_num, by rw [HKN.out.2]; go_num, by rw [HKN.out.2]; omega, HKN.out.1, HR4.out, HB4.out⟩
          case measure => simp [intOf]; omega
      · obtain rfl : j = L.length := by omega
        have i1 : ¬ (L.length : Int) < (L.length : Int) := by omega
        have hnl : (no1 L).length = N L.length := by rw [← HNN.out, HEN.out]
        have hcl := run_clear_slice (P := Try.prog) wr 22 3 0 (.int .i64 0) Try.underlying22 zeroI rfl rfl g (N L.length) (L.length - N L.length) (c - N L.length) (by omega) (fun q hq => by rw [hrow.cell _ (by omega)]; rfl) (fun q _ => Blk.frozen hrow _)
        have HCL := Lib.hid hcl
        have HIS : Hid (IsAt (wr.setCells g (N L.length) (List.replicate (L.length - N L.length) (.int .i64 0))) (some ⟨g, 0, none⟩) (no1 L)) := Lib.hid (by
          have h9 := hmid.2.1
          rw [HEN.out, hnl] at h9
          rw [← h9]
          intro q hq
          rw [List.length_take] at hq
          refine ⟨g, 0, rfl, Nat.lt_of_lt_of_le hrow.lt (grown_setCellsF g _ _ wr 0 (Nat.zero_le _)).size, fun t ht => ?_⟩
          obtain rfl : t = 0 := by omega
          rw [Nat.zero_add, Nat.mul_one, Nat.add_zero, setCells_far g _ _ _ _ (by omega), hrow.cell q (by omega), List.getElem_take, iAt_get M q (by omega)]; rfl)
        have HBE := Lib.hid (HBR.out.trans (grown_setCellsF g (List.replicate (L.length - N L.length) (.int .i64 0)) (N L.length) wr base HG.out))
        have HNL := Lib.hid hnl
        have n1 : (N L.length : Int) ≤ (c : Int) := by omega
        have n2 : (0 : Int) ≤ (N L.length : Int) := by omega
        have n3 : (N L.length : Int) ≤ (L.length : Int) := by omega
        have n4 : ¬ c = N L.length := by omega
        have n5 : ¬ c - N L.length = 0 := by omega
        have n6 : ¬ N L.length = c := by omega
        clear hmid hrow hb hml hcl hnl
        go_wp2_with (refine wpList_clear_run _ rfl (.tmp 38) 22 rfl rfl (.slice (some ⟨g, N L.length, none⟩) (L.length - N L.length) (c - N L.length)) rfl _ HCL.out ?_)
        go_ret
        exact ⟨⟨c, by rw [HNL.out]; rfl⟩, HIS.out, HBE.out⟩
set_option maxHeartbeats 12800000 in
set_option maxRecDepth 100000 in
theorem pdel_nil (base : Nat) (w : World) (hb : base ≤ w.heap.size) :
    Calls Try.prog 38 #[.slice none 0 0, (.func (.func 39) #[] #[])] w (fun e x => ∃ a c', e = .returned (.slice a (no1 []).length c') ∧ IsAt x a (no1 []) ∧ Below base w x) := by
  have HIX := Lib.hid (fun w h => pidx_any none 0 [] (by simp) w h)
  have HB := Lib.hid hb
  clear hb
  go_enter Try.func38, Try.ntmps38
  go_wp2_with fail
  refine (HIX.out w (RowAt.nil _ _ _ _)).mono ?_
  rintro e x1 ⟨r, rfl, hcase, hb1⟩
  rcases hcase with ⟨rfl, hno⟩ | ⟨k, rfl, hk, hk1, hkj⟩
  · have HB2 := Lib.hid (hb1.mono HB.out)
    clear hno hb1
    go_wp2
    go_ret
    exact ⟨none, 0, rfl, RowAt.nil _ _ _ _, HB2.out⟩
  · simp at hk
theorem pdel_own (base : Nat) (v : Value) (L : List Int) (hL : L.length ≤ 10000) (w : World) (h : w.ownsRow base 3 1 v L.length (flat encI L)) (hb : base ≤ w.heap.size) :
    Calls Try.prog 38 #[v, (.func (.func 39) #[] #[])] w (fun e x => ∃ a c', e = .returned (.slice a (no1 L).length c') ∧ IsAt x a (no1 L) ∧ Below base w x) := by
  rcases RowR.of_own h with ⟨rfl, rfl⟩ | ⟨g, c, R, rfl, hg, hc, -, hr⟩
  · exact pdel_nil base w hb
  · refine (pdelF_any base g c L R hL hc hg w hr).mono ?_
    rintro e x ⟨c', h1, h2, h3⟩
    exact ⟨_, c', h1, h2, h3⟩
end Go.Proofs.Ytgfbihdnjidodaa

namespace Go.Proofs.Ytgfbihdnjidodaa
open Go.RowKit Go.Shelf Go.Lib Go.Proofs.Gr
attribute [local go_sem] Oper.semAt_some

/-- The orders, with 1s. -/
def ordB (m n : Nat) : List Int := if m = 1 ∨ n = 1 then [] else List.replicate (n - 2) (m : Int) ++ List.replicate (m - 2) (n : Int) ++ [(m : Int) * n]
def ordW (n : Nat) : List Int := if n % 2 = 1 then [(folS 2 1 n).1, (folS 2 1 n).1] else [(folS 0 1 n).1, 5 * (folS 0 1 n).1]
def ordT (k m n : Nat) : List Int := [((Nat.gcd (Nat.gcd k m) n : Nat) : Int), (((k * m + k * n + m * n) / Nat.gcd (Nat.gcd k m) n : Nat) : Int)]
def ordK (kind : Nat) (L : List Int) : List Int :=
  match kind with
  | 1 => [(((iAt L 0).toNat : Nat) : Int)]
  | 3 => List.replicate ((iAt L 0).toNat - 2) (((iAt L 0).toNat : Nat) : Int)
  | 4 => [(((iAt L 0).toNat : Nat) : Int)]
  | 5 => ordW (iAt L 0).toNat
  | 6 => ordB (iAt L 0).toNat (iAt L 1).toNat
  | 8 => ordT (iAt L 0).toNat (iAt L 1).toNat (iAt L 2).toNat
  | _ => []
/-- Hands back a list of its own. -/
def GivesO (w : World) (M : List Int) (e : Ending) (x : World) : Prop := ∃ v, e = .returned v ∧ x.ownsRow w.heap.size 3 1 v M.length (flat encI M) ∧ Below w.heap.size w x
theorem ptimes_nat (z : Int) (c : Nat) (hc : c ≤ 1000) (w : World) :
    Calls Try.prog 80 #[.int .i64 z, .int .i64 c] w (fun e x => ∃ g, w.heap.size ≤ g ∧ e = .returned (.slice (some ⟨g, 0, none⟩) c c) ∧ RowB encI 3 x g (List.replicate c z) ∧ Below w.heap.size w x) := by
  rcases c with _ | c
  · exact ptimes_z z w
  · exact ptimes_up z (c + 1) (by omega) hc w
theorem own_lit (w : World) (base : Nat) (hb : base ≤ w.heap.size) (M : List Int) (hM : M.length ≤ 1000) (cs : Array Value) (hcs : cs = (flat encI M).toArray) : (w.alloc (.cells cs 3)).ownsRow base 3 1 (.slice (some ⟨w.heap.size, 0, none⟩) M.length M.length) M.length (flat encI M) := by
  rw [hcs]; exact (RowB.new encI w 3 M).own hb (by omega)
set_option maxHeartbeats 12800000 in
set_option maxRecDepth 100000 in
theorem pone_ord (a : Option Addr) (cap : Nat) (L : List Int) (n : Nat) (hll : 1 ≤ L.length) (hl0 : iAt L 0 = (n : Nat)) (w : World) (hl : IsAt w a L) :
    Calls Try.prog 56 #[.slice a L.length cap] w (GivesO w ([(n : Int)])) := by
  unfold GivesO
  have hln0 : (0 : Int) < (L.length : Int) := by omega
  have hne : ¬ L = [] := by intro h; rw [h] at hll; simp at hll
  obtain ⟨b0, o0, ea0, q0, x0⟩ := hl.one 0 (by omega)
  rw [hl0, Nat.add_zero] at x0
  subst ea0
  have HOW := Lib.hid (own_lit w w.heap.size (Nat.le_refl _) [(n : Int)] (by simp) #[.int .i64 n] rfl)
  have HB := Lib.hid ((Below.refl w.heap.size w).alloc (Nat.le_refl _) (.cells #[.int .i64 n] 3))
  clear hl
  go_enter Try.func56, Try.ntmps56
  go_wp2
  go_ret
  exact ⟨_, rfl, HOW.out, HB.out⟩
set_option maxHeartbeats 12800000 in
set_option maxRecDepth 100000 in
theorem pno_ord (v : Value) (w : World) : Calls Try.prog 54 #[v] w (GivesO w []) := by
  unfold GivesO
  have HB := Lib.hid (Below.refl w.heap.size w)
  go_enter Try.func54, Try.ntmps54
  go_wp2
  go_ret
  exact ⟨_, rfl, World.ownsRow_nil _ _ _ _, HB.out⟩
set_option maxHeartbeats 12800000 in
set_option maxRecDepth 100000 in
theorem pwheel_ord (a : Option Addr) (cap : Nat) (L : List Int) (n : Nat) (hll : 1 ≤ L.length) (hl0 : iAt L 0 = (n : Nat)) (hn : 1 ≤ n ∧ n ≤ 50) (w : World) (hl : IsAt w a L) :
    Calls Try.prog 62 #[.slice a L.length cap] w (GivesO w (ordW n)) := by
  unfold GivesO
  have hln0 : (0 : Int) < (L.length : Int) := by omega
  have hne : ¬ L = [] := by intro h; rw [h] at hll; simp at hll
  obtain ⟨b0, o0, ea0, q0, x0⟩ := hl.one 0 (by omega)
  rw [hl0, Nat.add_zero] at x0
  subst ea0
  have HF := Lib.hid (fun a b ha hb w => pfollow_any a b ha hb n hn.2 w)
  have HX : Hid (b0 < w.heap.size) := Lib.hid q0
  have HN := Lib.hid hn
  by_cases hp : n % 2 = 1
  · have t0 : (n : Int).tmod 2 = 1 := by rw [Int.tmod_eq_emod_of_nonneg (by omega)]; omega
    have HO : Hid (ordW n = [(folS 2 1 n).1, (folS 2 1 n).1]) := Lib.hid (by unfold ordW; rw [if_pos hp])
    have HC := Lib.hid (fun w => HF.out 2 1 (by omega) (by omega) w)
    generalize (folS 2 1 n).1 = y at *
    clear hp hl hn
    go_enter Try.func62, Try.ntmps62
    go_wp2_with fail
    refine (HC.out _).mono ?_
    rintro e x ⟨rfl, hb⟩
    have HOW := Lib.hid (own_lit x w.heap.size hb.size [y, y] (by simp) #[.int .i64 y, .int .i64 y] rfl)
    have HB := Lib.hid (hb.alloc hb.size (.cells #[.int .i64 y, .int .i64 y] 3))
    clear hb
    go_wp2
    go_ret
    rw [HO.out]
    exact ⟨_, rfl, HOW.out, HB.out⟩
  · have t0 : (n : Int).tmod 2 = 0 := by rw [Int.tmod_eq_emod_of_nonneg (by omega)]; omega
    have HO : Hid (ordW n = [(folS 0 1 n).1, 5 * (folS 0 1 n).1]) := Lib.hid (by unfold ordW; rw [if_neg hp])
    have HC := Lib.hid (fun w => HF.out 0 1 (by omega) (by omega) w)
    have hrg := folS_rng 0 1 (by omega) (by omega) n
    have hr2 : (2 : Int) ^ (n + 1) ≤ 2 ^ 51 := by
      have := Nat.pow_le_pow_right (n := 2) (by omega) (show n + 1 ≤ 51 by omega)
      exact_mod_cast this
    have hy0 := hrg.1
    have hy1 := Int.le_trans hrg.2.2.1 hr2
    generalize (folS 0 1 n).1 = y at *
    have w5 : IntKind.i64.wrap (5 * y) = 5 * y := IntWalk.i64_in _ (by omega)
    clear hp hl hn hrg hr2 hy0 hy1
    go_enter Try.func62, Try.ntmps62
    go_wp2_with fail
    refine (HC.out _).mono ?_
    rintro e x ⟨rfl, hb⟩
    have HOW := Lib.hid (own_lit x w.heap.size hb.size [y, 5 * y] (by simp) #[.int .i64 y, .int .i64 (5 * y)] rfl)
    have HB := Lib.hid (hb.alloc hb.size (.cells #[.int .i64 y, .int .i64 (5 * y)] 3))
    clear hb
    go_wp2
    go_ret
    rw [HO.out]
    exact ⟨_, rfl, HOW.out, HB.out⟩
set_option maxHeartbeats 12800000 in
set_option maxRecDepth 100000 in
theorem ptheta_ord (a : Option Addr) (cap : Nat) (L : List Int) (k m n : Nat) (hll : 3 ≤ L.length) (hl0 : iAt L 0 = (k : Nat)) (hk : 1 ≤ k ∧ k ≤ 50) (hl1 : iAt L 1 = (m : Nat)) (hm : 1 ≤ m ∧ m ≤ 50) (hl2 : iAt L 2 = (n : Nat)) (hn : 1 ≤ n ∧ n ≤ 50) (w : World) (hl : IsAt w a L) :
    Calls Try.prog 67 #[.slice a L.length cap] w (GivesO w (ordT k m n)) := by
  unfold GivesO
  have hln0 : (0 : Int) < (L.length : Int) := by omega
  have hne : ¬ L = [] := by intro h; rw [h] at hll; simp at hll
  obtain ⟨b0, o0, ea0, q0, x0⟩ := hl.one 0 (by omega)
  rw [hl0, Nat.add_zero] at x0
  subst ea0
  obtain ⟨b1, o1, ea1, q1, x1⟩ := hl.one 1 (by omega)
  rw [hl1] at x1
  injection ea1 with ea1
  injection ea1 with ea1 eb1
  subst ea1 eb1
  obtain ⟨b2, o2, ea2, q2, x2⟩ := hl.one 2 (by omega)
  rw [hl2] at x2
  injection ea2 with ea2
  injection ea2 with ea2 eb2
  subst ea2 eb2
  have hln1 : (1 : Int) < (L.length : Int) := by omega
  have hln2 : (2 : Int) < (L.length : Int) := by omega
  have HX0 : Hid (b0 < w.heap.size ∧ w.cell? ⟨b0, o0, none⟩ = some (.int .i64 k)) := Lib.hid ⟨q0, x0⟩
  have HX1 : Hid (b0 < w.heap.size ∧ w.cell? ⟨b0, o0 + 1, none⟩ = some (.int .i64 m)) := Lib.hid ⟨q0, x1⟩
  have HX2 : Hid (b0 < w.heap.size ∧ w.cell? ⟨b0, o0 + 2, none⟩ = some (.int .i64 n)) := Lib.hid ⟨q0, x2⟩
  have HG1 := Lib.hid (fun w => pdivisor_any k m (by omega) (by omega) w)
  have hg1 : Nat.gcd k m ≤ 50 := Nat.le_trans (Nat.gcd_le_left m (by omega)) hk.2
  have HG2 := Lib.hid (fun w => pdivisor_any (Nat.gcd k m) n (by omega) (by omega) w)
  have hg2 : 1 ≤ Nat.gcd (Nat.gcd k m) n := Nat.gcd_pos_of_pos_right _ (by omega)
  have HO : Hid (ordT k m n = [((Nat.gcd (Nat.gcd k m) n : Nat) : Int), (((k * m + k * n + m * n) / Nat.gcd (Nat.gcd k m) n : Nat) : Int)]) := Lib.hid rfl
  have hb1 : k * m ≤ 50 * 50 := Nat.mul_le_mul hk.2 hm.2
  have hb2 : k * n ≤ 50 * 50 := Nat.mul_le_mul hk.2 hn.2
  have hb3 : m * n ≤ 50 * 50 := Nat.mul_le_mul hm.2 hn.2
  generalize Nat.gcd k m = d1 at *
  generalize Nat.gcd d1 n = d at *
  obtain ⟨p1, hp1⟩ : ∃ p, p = k * m := ⟨_, rfl⟩
  obtain ⟨p2, hp2⟩ : ∃ p, p = k * n := ⟨_, rfl⟩
  obtain ⟨p3, hp3⟩ : ∃ p, p = m * n := ⟨_, rfl⟩
  have w1 : IntKind.i64.wrap ((k : Int) * (m : Int)) = (p1 : Int) := by rw [hp1, ← Int.natCast_mul]; exact IntWalk.i64_in _ (by omega)
  have w2 : IntKind.i64.wrap ((k : Int) * (n : Int)) = (p2 : Int) := by rw [hp2, ← Int.natCast_mul]; exact IntWalk.i64_in _ (by omega)
  have w3 : IntKind.i64.wrap ((m : Int) * (n : Int)) = (p3 : Int) := by rw [hp3, ← Int.natCast_mul]; exact IntWalk.i64_in _ (by omega)
  rw [← hp1, ← hp2, ← hp3] at HO
  rw [← hp1] at hb1
  rw [← hp2] at hb2
  rw [← hp3] at hb3
  have w4 : IntKind.i64.wrap ((p1 : Int) + (p2 : Int)) = (p1 : Int) + (p2 : Int) := IntWalk.i64_in _ (by omega)
  have w5 : IntKind.i64.wrap ((p1 : Int) + (p2 : Int) + (p3 : Int)) = (p1 : Int) + (p2 : Int) + (p3 : Int) := IntWalk.i64_in _ (by omega)
  obtain ⟨y, hy⟩ : ∃ y : Nat, y = (p1 + p2 + p3) / d := ⟨_, rfl⟩
  have hyb : y ≤ 7500 := by rw [hy]; exact Nat.le_trans (Nat.div_le_self _ _) (by omega)
  have w6 : ((p1 : Int) + (p2 : Int) + (p3 : Int)).tdiv (d : Int) = (y : Int) := by
    rw [hy, Int.tdiv_eq_ediv_of_nonneg (by omega)]; simp
  have w7 : IntKind.i64.wrap (y : Int) = (y : Int) := IntWalk.i64_in _ (by omega)
  have w8 : ¬ (d : Int) = 0 := by omega
  have w9 : ¬ d = 0 := by omega
  rw [← hy] at HO
  clear hl hk hm hn hl0 hl1 hl2 hp1 hp2 hp3 hy hb1 hb2 hb3 hg1 hg2 x0 x1 x2
  go_enter Try.func67, Try.ntmps67
  go_wp2
  have hj0 : Below w.heap.size w w.drew := (Below.refl _ _).drew
  refine wp_region_late (S := fun u => Below w.heap.size w u) (X := []) (by kernel_rfl) ?_
  refine wpAnyL_pureD (i := 0) 7 (.slice (some ⟨b0, o0, none⟩) L.length cap) rfl rfl (by kernel_rfl) (by kernel_rfl) (by kernel_rfl) (fun _ _ _ h => h) (Or.inl ⟨by rfl, fun u _ => ?_⟩) ?_
  · go_simp
  try simp only [Act.put, List.setIfInBounds_toArray, List.set_cons_zero, List.set_cons_succ]
  refine wpAnyL_pureD (i := 1) 8 (.pointer (some ⟨b0, o0, none⟩)) rfl rfl (by kernel_rfl) (by kernel_rfl) (by kernel_rfl) (fun _ _ _ h => h) (Or.inl ⟨by rfl, fun u _ => ?_⟩) ?_
  · go_simp
  try simp only [Act.put, List.setIfInBounds_toArray, List.set_cons_zero, List.set_cons_succ]
  refine wpAnyL_takeD (i := 2) 9 (.int .i64 k) rfl rfl (by kernel_rfl) (by kernel_rfl) (by kernel_rfl) (by kernel_rfl) (by kernel_rfl) (fun _ _ _ h => h) hj0 (Or.inl ⟨by rfl, fun u hu => ?_⟩) ?_
  · have t0 := (hu.cell (p := ⟨b0, o0, none⟩) HX0.out.1).trans HX0.out.2
    go_simp
  try simp only [Act.put, List.setIfInBounds_toArray, List.set_cons_zero, List.set_cons_succ]
  refine wpAnyL_pureD (i := 3) 10 (.slice (some ⟨b0, o0, none⟩) L.length cap) rfl rfl (by kernel_rfl) (by kernel_rfl) (by kernel_rfl) (fun _ _ _ h => h) (Or.inl ⟨by rfl, fun u _ => ?_⟩) ?_
  · go_simp
  try simp only [Act.put, List.setIfInBounds_toArray, List.set_cons_zero, List.set_cons_succ]
  refine wpAnyL_pureD (i := 4) 11 (.pointer (some ⟨b0, o0 + 1, none⟩)) rfl rfl (by kernel_rfl) (by kernel_rfl) (by kernel_rfl) (fun _ _ _ h => h) (Or.inl ⟨by rfl, fun u _ => ?_⟩) ?_
  · go_simp
  try simp only [Act.put, List.setIfInBounds_toArray, List.set_cons_zero, List.set_cons_succ]
  refine wpAnyL_takeD (i := 5) 12 (.int .i64 m) rfl rfl (by kernel_rfl) (by kernel_rfl) (by kernel_rfl) (by kernel_rfl) (by kernel_rfl) (fun _ _ _ h => h) hj0 (Or.inl ⟨by rfl, fun u hu => ?_⟩) ?_
  · have t0 := (hu.cell (p := ⟨b0, o0 + 1, none⟩) HX1.out.1).trans HX1.out.2
    go_simp
  try simp only [Act.put, List.setIfInBounds_toArray, List.set_cons_zero, List.set_cons_succ]
  refine wpAnyL_pureD (i := 6) 13 (.slice (some ⟨b0, o0, none⟩) L.length cap) rfl rfl (by kernel_rfl) (by kernel_rfl) (by kernel_rfl) (fun _ _ _ h => h) (Or.inl ⟨by rfl, fun u _ => ?_⟩) ?_
  · go_simp
  try simp only [Act.put, List.setIfInBounds_toArray, List.set_cons_zero, List.set_cons_succ]
  refine wpAnyL_pureD (i := 7) 14 (.pointer (some ⟨b0, o0 + 2, none⟩)) rfl rfl (by kernel_rfl) (by kernel_rfl) (by kernel_rfl) (fun _ _ _ h => h) (Or.inl ⟨by rfl, fun u _ => ?_⟩) ?_
  · go_simp
  try simp only [Act.put, List.setIfInBounds_toArray, List.set_cons_zero, List.set_cons_succ]
  refine wpAnyL_takeD (i := 8) 15 (.int .i64 n) rfl rfl (by kernel_rfl) (by kernel_rfl) (by kernel_rfl) (by kernel_rfl) (by kernel_rfl) (fun _ _ _ h => h) hj0 (Or.inl ⟨by rfl, fun u hu => ?_⟩) ?_
  · have t0 := (hu.cell (p := ⟨b0, o0 + 2, none⟩) HX2.out.1).trans HX2.out.2
    go_simp
  try simp only [Act.put, List.setIfInBounds_toArray, List.set_cons_zero, List.set_cons_succ]
  refine wpAnyL_pureD (i := 9) 3 (.int .i64 k) rfl rfl (by kernel_rfl) (by kernel_rfl) (by kernel_rfl) (fun _ _ _ h => h) (Or.inl ⟨by rfl, fun u _ => ?_⟩) ?_
  · go_simp
  try simp only [Act.put, List.setIfInBounds_toArray, List.set_cons_zero, List.set_cons_succ]
  refine wpAnyL_pureD (i := 10) 4 (.int .i64 m) rfl rfl (by kernel_rfl) (by kernel_rfl) (by kernel_rfl) (fun _ _ _ h => h) (Or.inl ⟨by rfl, fun u _ => ?_⟩) ?_
  · go_simp
  try simp only [Act.put, List.setIfInBounds_toArray, List.set_cons_zero, List.set_cons_succ]
  refine wpAnyL_pureD (i := 11) 5 (.int .i64 n) rfl rfl (by kernel_rfl) (by kernel_rfl) (by kernel_rfl) (fun _ _ _ h => h) (Or.inl ⟨by rfl, fun u _ => ?_⟩) ?_
  · go_simp
  try simp only [Act.put, List.setIfInBounds_toArray, List.set_cons_zero, List.set_cons_succ]
  refine wpAnyL_done (by kernel_rfl) ?_ _
  try simp only [Act.put, List.setIfInBounds_toArray, List.set_cons_zero, List.set_cons_succ]
  clear hj0
  go_wp2_with fail
  refine (HG1.out _).mono ?_
  rintro e x3 ⟨rfl, hb4⟩
  go_wp2_with fail
  refine (HG2.out _).mono ?_
  rintro e x4 ⟨rfl, hb5⟩
  have hbb : Below w.heap.size w x4 := (Below.refl _ _).drew.trans (hb4.trans (hb5.mono hb4.size))
  have HOW := Lib.hid (own_lit x4 w.heap.size hbb.size [(d : Int), (y : Int)] (by simp) #[.int .i64 d, .int .i64 y] rfl)
  have HB := Lib.hid (hbb.alloc hbb.size (.cells #[.int .i64 d, .int .i64 y] 3))
  clear hbb hb4 hb5
  go_wp2
  go_ret
  rw [HO.out]
  exact ⟨_, rfl, HOW.out, HB.out⟩
end Go.Proofs.Ytgfbihdnjidodaa

namespace Go.Proofs.Ytgfbihdnjidodaa
open Go.RowKit Go.Shelf Go.Lib Go.Proofs.Gr
attribute [local go_sem] Oper.semAt_some

set_option maxHeartbeats 12800000 in
set_option maxRecDepth 100000 in
theorem pcomplete_ord (a : Option Addr) (cap : Nat) (L : List Int) (n : Nat) (hll : 1 ≤ L.length) (hl0 : iAt L 0 = (n : Nat)) (hn : 1 ≤ n ∧ n ≤ 50) (w : World) (hl : IsAt w a L) :
    Calls Try.prog 59 #[.slice a L.length cap] w (GivesO w (List.replicate (n - 2) (n : Int))) := by
  unfold GivesO
  have hln0 : (0 : Int) < (L.length : Int) := by omega
  have hne : ¬ L = [] := by intro h; rw [h] at hll; simp at hll
  obtain ⟨b0, o0, ea0, q0, x0⟩ := hl.one 0 (by omega)
  rw [hl0, Nat.add_zero] at x0
  subst ea0
  have HX0 : Hid (b0 < w.heap.size ∧ w.cell? ⟨b0, o0, none⟩ = some (.int .i64 n)) := Lib.hid ⟨q0, x0⟩
  clear hl hl0 x0 q0
  by_cases h1 : n = 1
  · subst h1
    have w1 : ((1 : Nat) : Int) - 2 = -1 := by decide
    have w2 : IntKind.i64.wrap (-1) = -1 := by decide
    have HT := Lib.hid (fun w => ptimes_m ((1 : Nat) : Int) w)
    go_enter Try.func59, Try.ntmps59
    go_wp2
    have hj0 : Below w.heap.size w w.drew := (Below.refl _ _).drew
    refine wp_region_late (S := fun u => Below w.heap.size w u) (X := []) (by kernel_rfl) ?_
    refine wpAnyL_pureD (i := 0) 3 (.slice (some ⟨b0, o0, none⟩) L.length cap) rfl rfl (by kernel_rfl) (by kernel_rfl) (by kernel_rfl) (fun _ _ _ h => h) (Or.inl ⟨by rfl, fun u _ => ?_⟩) ?_
    · go_simp
    try simp only [Act.put, List.setIfInBounds_toArray, List.set_cons_zero, List.set_cons_succ]
    refine wpAnyL_pureD (i := 1) 4 (.pointer (some ⟨b0, o0, none⟩)) rfl rfl (by kernel_rfl) (by kernel_rfl) (by kernel_rfl) (fun _ _ _ h => h) (Or.inl ⟨by rfl, fun u _ => ?_⟩) ?_
    · go_simp
    try simp only [Act.put, List.setIfInBounds_toArray, List.set_cons_zero, List.set_cons_succ]
    refine wpAnyL_takeD (i := 2) 5 (.int .i64 ((1 : Nat) : Int)) rfl rfl (by kernel_rfl) (by kernel_rfl) (by kernel_rfl) (by kernel_rfl) (by kernel_rfl) (fun _ _ _ h => h) hj0 (Or.inl ⟨by rfl, fun u hu => ?_⟩) ?_
    · have t0 := (hu.cell (p := ⟨b0, o0, none⟩) HX0.out.1).trans HX0.out.2
      go_simp
    try simp only [Act.put, List.setIfInBounds_toArray, List.set_cons_zero, List.set_cons_succ]
    refine wpAnyL_pureD (i := 3) 6 (.slice (some ⟨b0, o0, none⟩) L.length cap) rfl rfl (by kernel_rfl) (by kernel_rfl) (by kernel_rfl) (fun _ _ _ h => h) (Or.inl ⟨by rfl, fun u _ => ?_⟩) ?_
    · go_simp
    try simp only [Act.put, List.setIfInBounds_toArray, List.set_cons_zero, List.set_cons_succ]
    refine wpAnyL_pureD (i := 4) 7 (.pointer (some ⟨b0, o0, none⟩)) rfl rfl (by kernel_rfl) (by kernel_rfl) (by kernel_rfl) (fun _ _ _ h => h) (Or.inl ⟨by rfl, fun u _ => ?_⟩) ?_
    · go_simp
    try simp only [Act.put, List.setIfInBounds_toArray, List.set_cons_zero, List.set_cons_succ]
    refine wpAnyL_takeD (i := 5) 8 (.int .i64 ((1 : Nat) : Int)) rfl rfl (by kernel_rfl) (by kernel_rfl) (by kernel_rfl) (by kernel_rfl) (by kernel_rfl) (fun _ _ _ h => h) hj0 (Or.inl ⟨by rfl, fun u hu => ?_⟩) ?_
    · have t0 := (hu.cell (p := ⟨b0, o0, none⟩) HX0.out.1).trans HX0.out.2
      go_simp
    try simp only [Act.put, List.setIfInBounds_toArray, List.set_cons_zero, List.set_cons_succ]
    refine wpAnyL_pureD (i := 6) 9 (.int .i64 (-1)) rfl rfl (by kernel_rfl) (by kernel_rfl) (by kernel_rfl) (fun _ _ _ h => h) (Or.inl ⟨by rfl, fun u _ => ?_⟩) ?_
    · go_simp
    try simp only [Act.put, List.setIfInBounds_toArray, List.set_cons_zero, List.set_cons_succ]
    refine wpAnyL_one (i := 7) (by kernel_rfl) rfl (fun K hK => ?_)
    go_simp
    go_at_call 80
    refine (HT.out _).mono ?_
    rintro e x1 ⟨g, hg, rfl, hr, hb⟩
    have hj1 : Below w.heap.size w x1 := hj0.trans hb
    show K _ _
    refine hK.out _ _ (fun _ _ => hj1) ?_
    clear hK K
    try simp only [Act.put, List.setIfInBounds_toArray, List.set_cons_zero, List.set_cons_succ]
    refine wpAnyL_pureD (i := 8) 2 (.slice (some ⟨g, 0, none⟩) 0 0) rfl rfl (by kernel_rfl) (by kernel_rfl) (by kernel_rfl) (fun _ _ _ h => h) (Or.inl ⟨by rfl, fun u _ => ?_⟩) ?_
    · go_simp
    try simp only [Act.put, List.setIfInBounds_toArray, List.set_cons_zero, List.set_cons_succ]
    refine wpAnyL_done (by kernel_rfl) ?_ _
    try simp only [Act.put, List.setIfInBounds_toArray, List.set_cons_zero, List.set_cons_succ]
    have HOW : Hid (x1.ownsRow w.heap.size 3 1 (.slice (some ⟨g, 0, none⟩) 0 0) 0 (flat encI [])) := Lib.hid (RowB.own (L := []) hr hg (by simp))
    have HB := Lib.hid hj1
    clear hj0 hj1 hr hb hg
    go_wp2
    go_ret
    exact ⟨_, rfl, HOW.out, HB.out⟩
  · obtain ⟨c, hc⟩ : ∃ c : Nat, n = c + 2 := ⟨n - 2, by omega⟩
    have w1 : (n : Int) - 2 = (c : Int) := by omega
    have w2 : IntKind.i64.wrap (c : Int) = (c : Int) := IntWalk.i64_in _ (by omega)
    have HT := Lib.hid (fun w => ptimes_nat (n : Int) c (by omega) w)
    have HE : Hid (n - 2 = c) := Lib.hid (by omega)
    have HCB : Hid (c ≤ 48) := Lib.hid (by omega)
    clear hc h1 hn
    go_enter Try.func59, Try.ntmps59
    go_wp2
    have hj0 : Below w.heap.size w w.drew := (Below.refl _ _).drew
    refine wp_region_late (S := fun u => Below w.heap.size w u) (X := []) (by kernel_rfl) ?_
    refine wpAnyL_pureD (i := 0) 3 (.slice (some ⟨b0, o0, none⟩) L.length cap) rfl rfl (by kernel_rfl) (by kernel_rfl) (by kernel_rfl) (fun _ _ _ h => h) (Or.inl ⟨by rfl, fun u _ => ?_⟩) ?_
    · go_simp
    try simp only [Act.put, List.setIfInBounds_toArray, List.set_cons_zero, List.set_cons_succ]
    refine wpAnyL_pureD (i := 1) 4 (.pointer (some ⟨b0, o0, none⟩)) rfl rfl (by kernel_rfl) (by kernel_rfl) (by kernel_rfl) (fun _ _ _ h => h) (Or.inl ⟨by rfl, fun u _ => ?_⟩) ?_
    · go_simp
    try simp only [Act.put, List.setIfInBounds_toArray, List.set_cons_zero, List.set_cons_succ]
    refine wpAnyL_takeD (i := 2) 5 (.int .i64 n) rfl rfl (by kernel_rfl) (by kernel_rfl) (by kernel_rfl) (by kernel_rfl) (by kernel_rfl) (fun _ _ _ h => h) hj0 (Or.inl ⟨by rfl, fun u hu => ?_⟩) ?_
    · have t0 := (hu.cell (p := ⟨b0, o0, none⟩) HX0.out.1).trans HX0.out.2
      go_simp
    try simp only [Act.put, List.setIfInBounds_toArray, List.set_cons_zero, List.set_cons_succ]
    refine wpAnyL_pureD (i := 3) 6 (.slice (some ⟨b0, o0, none⟩) L.length cap) rfl rfl (by kernel_rfl) (by kernel_rfl) (by kernel_rfl) (fun _ _ _ h => h) (Or.inl ⟨by rfl, fun u _ => ?_⟩) ?_
    · go_simp
    try simp only [Act.put, List.setIfInBounds_toArray, List.set_cons_zero, List.set_cons_succ]
    refine wpAnyL_pureD (i := 4) 7 (.pointer (some ⟨b0, o0, none⟩)) rfl rfl (by kernel_rfl) (by kernel_rfl) (by kernel_rfl) (fun _ _ _ h => h) (Or.inl ⟨by rfl, fun u _ => ?_⟩) ?_
    · go_simp
    try simp only [Act.put, List.setIfInBounds_toArray, List.set_cons_zero, List.set_cons_succ]
    refine wpAnyL_takeD (i := 5) 8 (.int .i64 n) rfl rfl (by kernel_rfl) (by kernel_rfl) (by kernel_rfl) (by kernel_rfl) (by kernel_rfl) (fun _ _ _ h => h) hj0 (Or.inl ⟨by rfl, fun u hu => ?_⟩) ?_
    · have t0 := (hu.cell (p := ⟨b0, o0, none⟩) HX0.out.1).trans HX0.out.2
      go_simp
    try simp only [Act.put, List.setIfInBounds_toArray, List.set_cons_zero, List.set_cons_succ]
    refine wpAnyL_pureD (i := 6) 9 (.int .i64 (c : Int)) rfl rfl (by kernel_rfl) (by kernel_rfl) (by kernel_rfl) (fun _ _ _ h => h) (Or.inl ⟨by rfl, fun u _ => ?_⟩) ?_
    · go_simp
    try simp only [Act.put, List.setIfInBounds_toArray, List.set_cons_zero, List.set_cons_succ]
    refine wpAnyL_one (i := 7) (by kernel_rfl) rfl (fun K hK => ?_)
    go_simp
    go_at_call 80
    refine (HT.out _).mono ?_
    rintro e x1 ⟨g, hg, rfl, hr, hb⟩
    have hj1 : Below w.heap.size w x1 := hj0.trans hb
    show K _ _
    refine hK.out _ _ (fun _ _ => hj1) ?_
    clear hK K
    try simp only [Act.put, List.setIfInBounds_toArray, List.set_cons_zero, List.set_cons_succ]
    refine wpAnyL_pureD (i := 8) 2 (.slice (some ⟨g, 0, none⟩) c c) rfl rfl (by kernel_rfl) (by kernel_rfl) (by kernel_rfl) (fun _ _ _ h => h) (Or.inl ⟨by rfl, fun u _ => ?_⟩) ?_
    · go_simp
    try simp only [Act.put, List.setIfInBounds_toArray, List.set_cons_zero, List.set_cons_succ]
    refine wpAnyL_done (by kernel_rfl) ?_ _
    try simp only [Act.put, List.setIfInBounds_toArray, List.set_cons_zero, List.set_cons_succ]
    have HOW : Hid (x1.ownsRow w.heap.size 3 1 (.slice (some ⟨g, 0, none⟩) c c) (List.replicate c (n : Int)).length (flat encI (List.replicate c (n : Int)))) := Lib.hid (by
      have hl := List.length_replicate (n := c) (a := (n : Int))
      have := RowB.own (L := List.replicate c (n : Int)) hr hg (by rw [hl]; have := HCB.out; omega)
      rw [hl] at this ⊢
      exact this)
    have HB := Lib.hid hj1
    clear hj0 hj1 hr hb hg
    go_wp2
    go_ret
    rw [HE.out]
    exact ⟨_, rfl, HOW.out, HB.out⟩
set_option maxHeartbeats 12800000 in
set_option maxRecDepth 100000 in
theorem pbipartite_ord (a : Option Addr) (cap : Nat) (L : List Int) (m n : Nat) (hll : 2 ≤ L.length) (hl0 : iAt L 0 = (m : Nat)) (hm : 1 ≤ m ∧ m ≤ 50) (hl1 : iAt L 1 = (n : Nat)) (hn : 1 ≤ n ∧ n ≤ 50) (w : World) (hl : IsAt w a L) :
    Calls Try.prog 64 #[.slice a L.length cap] w (GivesO w (ordB m n)) := by
  unfold GivesO
  have hln0 : (0 : Int) < (L.length : Int) := by omega
  have hne : ¬ L = [] := by intro h; rw [h] at hll; simp at hll
  obtain ⟨b0, o0, ea0, q0, x0⟩ := hl.one 0 (by omega)
  rw [hl0, Nat.add_zero] at x0
  subst ea0
  obtain ⟨b1, o1, ea1, q1, x1⟩ := hl.one 1 (by omega)
  rw [hl1] at x1
  injection ea1 with ea1
  injection ea1 with ea1 eb1
  subst ea1 eb1
  have hln1 : (1 : Int) < (L.length : Int) := by omega
  have HX0 : Hid (b0 < w.heap.size ∧ w.cell? ⟨b0, o0, none⟩ = some (.int .i64 m)) := Lib.hid ⟨q0, x0⟩
  have HX1 : Hid (b0 < w.heap.size ∧ w.cell? ⟨b0, o0 + 1, none⟩ = some (.int .i64 n)) := Lib.hid ⟨q0, x1⟩
  clear hl hl0 hl1 x0 x1
  by_cases h1 : m = 1
  · have HO : Hid (ordB m n = []) := Lib.hid (by unfold ordB; rw [if_pos (.inl h1)])
    have e1 : ((m : Int) == 1) = true := by rw [beq_iff_eq]; omega
    clear h1
    go_enter Try.func64, Try.ntmps64
    go_wp2
    have hj0 : Below w.heap.size w w.drew := (Below.refl _ _).drew
    refine wp_region_late (S := fun u => Below w.heap.size w u) (X := []) (by kernel_rfl) ?_
    refine wpAnyL_pureD (i := 0) 5 (.slice (some ⟨b0, o0, none⟩) L.length cap) rfl rfl (by kernel_rfl) (by kernel_rfl) (by kernel_rfl) (fun _ _ _ h => h) (Or.inl ⟨by rfl, fun u _ => ?_⟩) ?_
    · go_simp
    try simp only [Act.put, List.setIfInBounds_toArray, List.set_cons_zero, List.set_cons_succ]
    refine wpAnyL_pureD (i := 1) 6 (.pointer (some ⟨b0, o0, none⟩)) rfl rfl (by kernel_rfl) (by kernel_rfl) (by kernel_rfl) (fun _ _ _ h => h) (Or.inl ⟨by rfl, fun u _ => ?_⟩) ?_
    · go_simp
    try simp only [Act.put, List.setIfInBounds_toArray, List.set_cons_zero, List.set_cons_succ]
    refine wpAnyL_takeD (i := 2) 7 (.int .i64 m) rfl rfl (by kernel_rfl) (by kernel_rfl) (by kernel_rfl) (by kernel_rfl) (by kernel_rfl) (fun _ _ _ h => h) hj0 (Or.inl ⟨by rfl, fun u hu => ?_⟩) ?_
    · have t0 := (hu.cell (p := ⟨b0, o0, none⟩) HX0.out.1).trans HX0.out.2
      go_simp
    try simp only [Act.put, List.setIfInBounds_toArray, List.set_cons_zero, List.set_cons_succ]
    refine wpAnyL_pureD (i := 3) 8 (.slice (some ⟨b0, o0, none⟩) L.length cap) rfl rfl (by kernel_rfl) (by kernel_rfl) (by kernel_rfl) (fun _ _ _ h => h) (Or.inl ⟨by rfl, fun u _ => ?_⟩) ?_
    · go_simp
    try simp only [Act.put, List.setIfInBounds_toArray, List.set_cons_zero, List.set_cons_succ]
    refine wpAnyL_pureD (i := 4) 9 (.pointer (some ⟨b0, o0 + 1, none⟩)) rfl rfl (by kernel_rfl) (by kernel_rfl) (by kernel_rfl) (fun _ _ _ h => h) (Or.inl ⟨by rfl, fun u _ => ?_⟩) ?_
    · go_simp
    try simp only [Act.put, List.setIfInBounds_toArray, List.set_cons_zero, List.set_cons_succ]
    refine wpAnyL_takeD (i := 5) 10 (.int .i64 n) rfl rfl (by kernel_rfl) (by kernel_rfl) (by kernel_rfl) (by kernel_rfl) (by kernel_rfl) (fun _ _ _ h => h) hj0 (Or.inl ⟨by rfl, fun u hu => ?_⟩) ?_
    · have t0 := (hu.cell (p := ⟨b0, o0 + 1, none⟩) HX1.out.1).trans HX1.out.2
      go_simp
    try simp only [Act.put, List.setIfInBounds_toArray, List.set_cons_zero, List.set_cons_succ]
    refine wpAnyL_pureD (i := 6) 3 (.int .i64 m) rfl rfl (by kernel_rfl) (by kernel_rfl) (by kernel_rfl) (fun _ _ _ h => h) (Or.inl ⟨by rfl, fun u _ => ?_⟩) ?_
    · go_simp
    try simp only [Act.put, List.setIfInBounds_toArray, List.set_cons_zero, List.set_cons_succ]
    refine wpAnyL_pureD (i := 7) 4 (.int .i64 n) rfl rfl (by kernel_rfl) (by kernel_rfl) (by kernel_rfl) (fun _ _ _ h => h) (Or.inl ⟨by rfl, fun u _ => ?_⟩) ?_
    · go_simp
    try simp only [Act.put, List.setIfInBounds_toArray, List.set_cons_zero, List.set_cons_succ]
    refine wpAnyL_done (by kernel_rfl) ?_ _
    try simp only [Act.put, List.setIfInBounds_toArray, List.set_cons_zero, List.set_cons_succ]
    clear hj0
    go_wp2
    go_ret
    rw [HO.out]
    exact ⟨_, rfl, World.ownsRow_nil _ _ _ _, (Below.refl _ _).drew⟩
  · have e1 : ((m : Int) == 1) = false := by rw [beq_eq_false_iff_ne]; omega
    by_cases h2 : n = 1
    · have HO : Hid (ordB m n = []) := Lib.hid (by unfold ordB; rw [if_pos (.inr h2)])
      have e2 : ((n : Int) == 1) = true := by rw [beq_iff_eq]; omega
      clear h2
      go_enter Try.func64, Try.ntmps64
      go_wp2
      have hj0 : Below w.heap.size w w.drew := (Below.refl _ _).drew
      refine wp_region_late (S := fun u => Below w.heap.size w u) (X := []) (by kernel_rfl) ?_
      refine wpAnyL_pureD (i := 0) 5 (.slice (some ⟨b0, o0, none⟩) L.length cap) rfl rfl (by kernel_rfl) (by kernel_rfl) (by kernel_rfl) (fun _ _ _ h => h) (Or.inl ⟨by rfl, fun u _ => ?_⟩) ?_
      · go_simp
      try simp only [Act.put, List.setIfInBounds_toArray, List.set_cons_zero, List.set_cons_succ]
      refine wpAnyL_pureD (i := 1) 6 (.pointer (some ⟨b0, o0, none⟩)) rfl rfl (by kernel_rfl) (by kernel_rfl) (by kernel_rfl) (fun _ _ _ h => h) (Or.inl ⟨by rfl, fun u _ => ?_⟩) ?_
      · go_simp
      try simp only [Act.put, List.setIfInBounds_toArray, List.set_cons_zero, List.set_cons_succ]
      refine wpAnyL_takeD (i := 2) 7 (.int .i64 m) rfl rfl (by kernel_rfl) (by kernel_rfl) (by kernel_rfl) (by kernel_rfl) (by kernel_rfl) (fun _ _ _ h => h) hj0 (Or.inl ⟨by rfl, fun u hu => ?_⟩) ?_
      · have t0 := (hu.cell (p := ⟨b0, o0, none⟩) HX0.out.1).trans HX0.out.2
        go_simp
      try simp only [Act.put, List.setIfInBounds_toArray, List.set_cons_zero, List.set_cons_succ]
      refine wpAnyL_pureD (i := 3) 8 (.slice (some ⟨b0, o0, none⟩) L.length cap) rfl rfl (by kernel_rfl) (by kernel_rfl) (by kernel_rfl) (fun _ _ _ h => h) (Or.inl ⟨by rfl, fun u _ => ?_⟩) ?_
      · go_simp
      try simp only [Act.put, List.setIfInBounds_toArray, List.set_cons_zero, List.set_cons_succ]
      refine wpAnyL_pureD (i := 4) 9 (.pointer (some ⟨b0, o0 + 1, none⟩)) rfl rfl (by kernel_rfl) (by kernel_rfl) (by kernel_rfl) (fun _ _ _ h => h) (Or.inl ⟨by rfl, fun u _ => ?_⟩) ?_
      · go_simp
      try simp only [Act.put, List.setIfInBounds_toArray, List.set_cons_zero, List.set_cons_succ]
      refine wpAnyL_takeD (i := 5) 10 (.int .i64 n) rfl rfl (by kernel_rfl) (by kernel_rfl) (by kernel_rfl) (by kernel_rfl) (by kernel_rfl) (fun _ _ _ h => h) hj0 (Or.inl ⟨by rfl, fun u hu => ?_⟩) ?_
      · have t0 := (hu.cell (p := ⟨b0, o0 + 1, none⟩) HX1.out.1).trans HX1.out.2
        go_simp
      try simp only [Act.put, List.setIfInBounds_toArray, List.set_cons_zero, List.set_cons_succ]
      refine wpAnyL_pureD (i := 6) 3 (.int .i64 m) rfl rfl (by kernel_rfl) (by kernel_rfl) (by kernel_rfl) (fun _ _ _ h => h) (Or.inl ⟨by rfl, fun u _ => ?_⟩) ?_
      · go_simp
      try simp only [Act.put, List.setIfInBounds_toArray, List.set_cons_zero, List.set_cons_succ]
      refine wpAnyL_pureD (i := 7) 4 (.int .i64 n) rfl rfl (by kernel_rfl) (by kernel_rfl) (by kernel_rfl) (fun _ _ _ h => h) (Or.inl ⟨by rfl, fun u _ => ?_⟩) ?_
      · go_simp
      try simp only [Act.put, List.setIfInBounds_toArray, List.set_cons_zero, List.set_cons_succ]
      refine wpAnyL_done (by kernel_rfl) ?_ _
      try simp only [Act.put, List.setIfInBounds_toArray, List.set_cons_zero, List.set_cons_succ]
      clear hj0
      go_wp2
      go_ret
      rw [HO.out]
      exact ⟨_, rfl, World.ownsRow_nil _ _ _ _, (Below.refl _ _).drew⟩
    · have e2 : ((n : Int) == 1) = false := by rw [beq_eq_false_iff_ne]; omega
      have HO : Hid (ordB m n = List.replicate (n - 2) (m : Int) ++ List.replicate (m - 2) (n : Int) ++ [(m : Int) * n]) := Lib.hid (by unfold ordB; rw [if_neg (by omega)])
      obtain ⟨c, hc⟩ : ∃ c : Nat, n = c + 2 := ⟨n - 2, by omega⟩
      obtain ⟨d, hd⟩ : ∃ d : Nat, m = d + 2 := ⟨m - 2, by omega⟩
      have w1 : (n : Int) - 2 = (c : Int) := by omega
      have w2 : IntKind.i64.wrap (c : Int) = (c : Int) := IntWalk.i64_in _ (by omega)
      have w3 : (m : Int) - 2 = (d : Int) := by omega
      have w4 : IntKind.i64.wrap (d : Int) = (d : Int) := IntWalk.i64_in _ (by omega)
      have hb3 : m * n ≤ 50 * 50 := Nat.mul_le_mul hm.2 hn.2
      obtain ⟨p, hp⟩ : ∃ p : Int, p = (m : Int) * n := ⟨_, rfl⟩
      have w5 : IntKind.i64.wrap ((m : Int) * (n : Int)) = p := by rw [hp, ← Int.natCast_mul]; exact IntWalk.i64_in _ (by omega)
      have HT1 := Lib.hid (fun w => ptimes_nat (m : Int) c (by omega) w)
      have HT2 := Lib.hid (fun w => ptimes_nat (n : Int) d (by omega) w)
      rw [show n - 2 = c by omega, show m - 2 = d by omega, ← hp] at HO
      have HCB : Hid (c ≤ 48 ∧ d ≤ 48) := Lib.hid ⟨by omega, by omega⟩
      clear hc hd hp hb3 h1 h2 hm hn
      go_enter Try.func64, Try.ntmps64
      go_wp2
      have hj0 : Below w.heap.size w w.drew := (Below.refl _ _).drew
      refine wp_region_late (S := fun u => Below w.heap.size w u) (X := []) (by kernel_rfl) ?_
      refine wpAnyL_pureD (i := 0) 5 (.slice (some ⟨b0, o0, none⟩) L.length cap) rfl rfl (by kernel_rfl) (by kernel_rfl) (by kernel_rfl) (fun _ _ _ h => h) (Or.inl ⟨by rfl, fun u _ => ?_⟩) ?_
      · go_simp
      try simp only [Act.put, List.setIfInBounds_toArray, List.set_cons_zero, List.set_cons_succ]
      refine wpAnyL_pureD (i := 1) 6 (.pointer (some ⟨b0, o0, none⟩)) rfl rfl (by kernel_rfl) (by kernel_rfl) (by kernel_rfl) (fun _ _ _ h => h) (Or.inl ⟨by rfl, fun u _ => ?_⟩) ?_
      · go_simp
      try simp only [Act.put, List.setIfInBounds_toArray, List.set_cons_zero, List.set_cons_succ]
      refine wpAnyL_takeD (i := 2) 7 (.int .i64 m) rfl rfl (by kernel_rfl) (by kernel_rfl) (by kernel_rfl) (by kernel_rfl) (by kernel_rfl) (fun _ _ _ h => h) hj0 (Or.inl ⟨by rfl, fun u hu => ?_⟩) ?_
      · have t0 := (hu.cell (p := ⟨b0, o0, none⟩) HX0.out.1).trans HX0.out.2
        go_simp
      try simp only [Act.put, List.setIfInBounds_toArray, List.set_cons_zero, List.set_cons_succ]
      refine wpAnyL_pureD (i := 3) 8 (.slice (some ⟨b0, o0, none⟩) L.length cap) rfl rfl (by kernel_rfl) (by kernel_rfl) (by kernel_rfl) (fun _ _ _ h => h) (Or.inl ⟨by rfl, fun u _ => ?_⟩) ?_
      · go_simp
      try simp only [Act.put, List.setIfInBounds_toArray, List.set_cons_zero, List.set_cons_succ]
      refine wpAnyL_pureD (i := 4) 9 (.pointer (some ⟨b0, o0 + 1, none⟩)) rfl rfl (by kernel_rfl) (by kernel_rfl) (by kernel_rfl) (fun _ _ _ h => h) (Or.inl ⟨by rfl, fun u _ => ?_⟩) ?_
      · go_simp
      try simp only [Act.put, List.setIfInBounds_toArray, List.set_cons_zero, List.set_cons_succ]
      refine wpAnyL_takeD (i := 5) 10 (.int .i64 n) rfl rfl (by kernel_rfl) (by kernel_rfl) (by kernel_rfl) (by kernel_rfl) (by kernel_rfl) (fun _ _ _ h => h) hj0 (Or.inl ⟨by rfl, fun u hu => ?_⟩) ?_
      · have t0 := (hu.cell (p := ⟨b0, o0 + 1, none⟩) HX1.out.1).trans HX1.out.2
        go_simp
      try simp only [Act.put, List.setIfInBounds_toArray, List.set_cons_zero, List.set_cons_succ]
      refine wpAnyL_pureD (i := 6) 3 (.int .i64 m) rfl rfl (by kernel_rfl) (by kernel_rfl) (by kernel_rfl) (fun _ _ _ h => h) (Or.inl ⟨by rfl, fun u _ => ?_⟩) ?_
      · go_simp
      try simp only [Act.put, List.setIfInBounds_toArray, List.set_cons_zero, List.set_cons_succ]
      refine wpAnyL_pureD (i := 7) 4 (.int .i64 n) rfl rfl (by kernel_rfl) (by kernel_rfl) (by kernel_rfl) (fun _ _ _ h => h) (Or.inl ⟨by rfl, fun u _ => ?_⟩) ?_
      · go_simp
      try simp only [Act.put, List.setIfInBounds_toArray, List.set_cons_zero, List.set_cons_succ]
      refine wpAnyL_done (by kernel_rfl) ?_ _
      try simp only [Act.put, List.setIfInBounds_toArray, List.set_cons_zero, List.set_cons_succ]
      clear hj0
      go_wp2_with fail
      refine (HT1.out _).mono ?_
      rintro e x1 ⟨g1, hg1, rfl, hr1, hb1⟩
      have HB1 : Hid (Below w.heap.size w x1) := Lib.hid ((Below.refl _ _).drew.trans hb1)
      have HR1 := Lib.hid hr1
      clear hb1 hr1 hg1
      go_wp2_with fail
      refine (HT2.out _).mono ?_
      rintro e x2 ⟨g2, hg2, rfl, hr2, hb2⟩
      have HB2 : Hid (Below w.heap.size w x2) := Lib.hid (HB1.out.trans (hb2.mono HB1.out.size))
      have HR12 : Hid (RowB encI 3 x2 g1 (List.replicate c (m : Int))) := Lib.hid (Blk.below HR1.out hb2 HR1.out.lt)
      have HR2 := Lib.hid hr2
      obtain ⟨Y, hY⟩ : ∃ Y, Y = (x2.alloc (.cells #[.int .i64 p] 3)).alloc (.cells #[.slice (some ⟨g1, 0, none⟩) c c, .slice (some ⟨g2, 0, none⟩) d d, .slice (some ⟨x2.heap.size, 0, none⟩) 1 1] 22) := ⟨_, rfl⟩
      have HBY : Hid (Below x2.heap.size x2 Y) := Lib.hid (by rw [hY]; exact ((Below.refl _ _).alloc (Nat.le_refl _) _).alloc (by simp) _)
      have HP : Hid (Blk Y (x2.heap.size + 1) 22 #[.slice (some ⟨g1, 0, none⟩) c c, .slice (some ⟨g2, 0, none⟩) d d, .slice (some ⟨x2.heap.size, 0, none⟩) 1 1]) := Lib.hid (by
        rw [hY]
        have := Blk.new (x2.alloc (.cells #[.int .i64 p] 3)) 22 #[.slice (some ⟨g1, 0, none⟩) c c, .slice (some ⟨g2, 0, none⟩) d d, .slice (some ⟨x2.heap.size, 0, none⟩) 1 1]
        rwa [World.size_alloc] at this)
      have HL3 : Hid (RowB encI 3 Y x2.heap.size [p]) := Lib.hid (by rw [hY]; exact Blk.alloc (Blk.new x2 3 #[.int .i64 p]) _)
      have HY1 : Hid (RowB encI 3 Y g1 (List.replicate c (m : Int))) := Lib.hid (Blk.below HR12.out HBY.out HR12.out.lt)
      have HY2 : Hid (RowB encI 3 Y g2 (List.replicate d (n : Int))) := Lib.hid (Blk.below HR2.out HBY.out HR2.out.lt)
      have HCON := Lib.hid (pconcat_any (x2.heap.size + 1) (fun i => if i = 0 then List.replicate c (m : Int) else if i = 1 then List.replicate d (n : Int) else [p]) (fun i => if i = 0 then g1 else if i = 1 then g2 else x2.heap.size) (fun i => if i = 0 then c else if i = 1 then d else 1) (fun i => by
        have h9 := HCB.out
        by_cases i0 : i = 0
        · rw [if_pos i0, List.length_replicate]; omega
        · rw [if_neg i0]
          by_cases i1 : i = 1
          · rw [if_pos i1, List.length_replicate]; omega
          · rw [if_neg i1]; simp) (by simp) Y HP.out.lt (fun i hi => by
        have h9 : i = 0 ∨ i = 1 ∨ i = 2 := by omega
        rcases h9 with rfl | rfl | rfl
        · exact ⟨by simpa using HP.out.cell 0, HY1.out.lt, RowB.row encI_len HY1.out⟩
        · exact ⟨by simpa using HP.out.cell 1, HY2.out.lt, RowB.row encI_len HY2.out⟩
        · exact ⟨by simpa using HP.out.cell 2, HL3.out.lt, RowB.row encI_len HL3.out⟩))
      have HBZ : Hid (Below w.heap.size w Y) := Lib.hid (HB2.out.trans (HBY.out.mono HB2.out.size))
      have HYY := Lib.hid hY
      clear hb2 hr2 hg2 hY
      go_wp2_with fail
      rw [← HYY.out]
      refine HCON.out.mono ?_
      rintro e x3 ⟨v, rfl, ho, hb3⟩
      have HOW := Lib.hid (ho.mono HBZ.out.size)
      have HB3 := Lib.hid (HBZ.out.trans (hb3.mono HBZ.out.size))
      clear ho hb3
      go_wp2
      go_ret
      rw [HO.out]
      exact ⟨_, rfl, HOW.out, HB3.out⟩
end Go.Proofs.Ytgfbihdnjidodaa

namespace Go.Proofs.Ytgfbihdnjidodaa
open Go.RowKit Go.Shelf Go.Proofs.Gr
attribute [local go_sem] Oper.semAt_some
attribute [local go_sem] run_store_func run_store_nilFunc

/-- Hands back a list and an error's number. -/
def GivesLE (w : World) (M : List Int) (k : Nat) (e : Ending) (x : World) : Prop := ∃ a c, e = .returned (.tuple #[.slice a M.length c, .int .i64 (k : Int)]) ∧ IsAt x a M ∧ Below w.heap.size w x
/-- Hands back a number and an error's number. -/
def GivesZE (w : World) (z : Int) (k : Nat) (e : Ending) (x : World) : Prop := e = .returned (.tuple #[.int .i64 z, .int .i64 (k : Int)]) ∧ Below w.heap.size w x
/-- The product of the first numbers. -/
def prodI (M : List Int) : Nat → Int
  | 0 => 1
  | i + 1 => prodI M i * iAt M i
set_option maxHeartbeats 12800000 in
set_option maxRecDepth 100000 in
theorem pcyc_err_0 (a : Option Addr) (cap : Nat) (L : List Int) (m : Int) (J : List E) (k : Nat) (hk : k ≠ 0) (hM : ∀ w, IsAt w a L → Calls Try.prog 29 #[.agg #[.int .i64 1, (.func (.func 53) #[] #[]), (.func (.func 54) #[] #[])], .slice a L.length cap] w (GivesGE w m J k)) (w : World) (h : IsAt w a L) :
    Calls Try.prog 22 #[.int .i64 0, .slice a L.length cap] w (GivesLE w [] k) := by
  have q0 : (((k : Nat) : Int) != 0) = true := by rw [bne_iff_ne]; omega
  have HM := Lib.hid hM
  have HO := Lib.hid (fun w => pof_0 w)
  have HE := Lib.hid h
  clear hM h hk
  unfold GivesGE gv at HM
  unfold GivesLE
  go_enter Try.func22, Try.ntmps22
  go_wp2_with fail
  refine (HO.out w).mono ?_
  rintro e x1 ⟨rfl, hb⟩
  obtain ⟨Y, hY⟩ : ∃ Y, Y = x1.alloc (Obj.cells #[.int .i64 1, (.func (.func 53) #[] #[]), (.func (.func 54) #[] #[])] 60) := ⟨_, rfl⟩
  have HBY : Hid (Below w.heap.size w Y) := Lib.hid (by rw [hY]; exact hb.alloc hb.size _)
  have HFB : Hid (Blk Y x1.heap.size 60 #[.int .i64 1, (.func (.func 53) #[] #[]), (.func (.func 54) #[] #[])]) := Lib.hid (by rw [hY]; exact Blk.new _ _ _)
  have HEY := Lib.hid (HE.out.keep HBY.out)
  have HY := Lib.hid hY
  clear hY hb
  go_wp2_with fail
  rw [← HY.out]
  refine (HM.out _ HEY.out).mono ?_
  rintro r x2 ⟨a2, c2, rfl, -, -, hb2⟩
  obtain ⟨Z, hZ⟩ : ∃ Z, Z = x2.alloc (Obj.cells #[.int .i64 m, .slice a2 J.length c2] 31) := ⟨_, rfl⟩
  have hbz : Below Y.heap.size Y Z := by rw [hZ]; exact hb2.alloc hb2.size _
  have HBZ : Hid (Below w.heap.size w Z) := Lib.hid (HBY.out.trans (hbz.mono HBY.out.size))
  have HZZ := Lib.hid hZ
  clear hbz hZ hb2 HFB
  go_wp2
  go_ret2
  exact ⟨none, 0, rfl, RowAt.nil _ _ _ _, by rw [← HZZ.out]; exact HBZ.out⟩
set_option maxHeartbeats 12800000 in
set_option maxRecDepth 100000 in
theorem pcyc_ok_0 (a : Option Addr) (cap : Nat) (L : List Int) (m : Int) (J : List E) (hM : ∀ w, IsAt w a L → Calls Try.prog 29 #[.agg #[.int .i64 1, (.func (.func 53) #[] #[]), (.func (.func 54) #[] #[])], .slice a L.length cap] w (GivesGE w m J 0)) (M : List Int) (hMl : M.length ≤ 1000) (hord : ∀ w, IsAt w a L → Calls Try.prog 54 #[.slice a L.length cap] w (GivesO w M)) (w : World) (h : IsAt w a L) :
    Calls Try.prog 22 #[.int .i64 0, .slice a L.length cap] w (GivesLE w (no1 M) 0) := by
  have heq : ∀ w : World, (binOp BinOp.eql 58 (.func (.func 54) #[] #[]) .nilFunc).run Try.prog w = .ok (.bool false) w := fun _ => by kernel_rfl
  have HM := Lib.hid hM
  have HO := Lib.hid (fun w => pof_0 w)
  have HORD := Lib.hid hord
  have HDEL := Lib.hid (fun base v w h hb => pdel_own base v M (by omega) w h hb)
  have HE := Lib.hid h
  clear hM h hord hMl
  unfold GivesGE gv at HM
  unfold GivesO at HORD
  unfold GivesLE
  go_enter Try.func22, Try.ntmps22
  go_wp2_with fail
  refine (HO.out w).mono ?_
  rintro e x1 ⟨rfl, hb⟩
  obtain ⟨Y, hY⟩ : ∃ Y, Y = x1.alloc (Obj.cells #[.int .i64 1, (.func (.func 53) #[] #[]), (.func (.func 54) #[] #[])] 60) := ⟨_, rfl⟩
  have HBY : Hid (Below w.heap.size w Y) := Lib.hid (by rw [hY]; exact hb.alloc hb.size _)
  have HFB : Hid (Blk Y x1.heap.size 60 #[.int .i64 1, (.func (.func 53) #[] #[]), (.func (.func 54) #[] #[])]) := Lib.hid (by rw [hY]; exact Blk.new _ _ _)
  have HEY := Lib.hid (HE.out.keep HBY.out)
  have HY := Lib.hid hY
  clear hY hb
  go_wp2_with fail
  rw [← HY.out]
  refine (HM.out _ HEY.out).mono ?_
  rintro r x2 ⟨a2, c2, rfl, -, -, hb2⟩
  obtain ⟨Z, hZ⟩ : ∃ Z, Z = x2.alloc (Obj.cells #[.int .i64 m, .slice a2 J.length c2] 31) := ⟨_, rfl⟩
  have hbz : Below Y.heap.size Y Z := by rw [hZ]; exact hb2.alloc hb2.size _
  have HBZ : Hid (Below w.heap.size w Z) := Lib.hid (HBY.out.trans (hbz.mono HBY.out.size))
  have z2 : (x2.alloc (Obj.cells #[.int .i64 m, .slice a2 J.length c2] 31)).cell? ⟨x1.heap.size, 2, none⟩ = some (.func (.func 54) #[] #[]) := by rw [← hZ]; exact (HFB.out.below hbz HFB.out.lt).cell 2
  have HEZ := Lib.hid (HE.out.keep HBZ.out)
  have HZZ := Lib.hid hZ
  clear hbz hZ hb2 HFB
  go_wp2_with fail
  rw [← HZZ.out]
  refine (HORD.out Z HEZ.out).mono ?_
  rintro e x3 ⟨v, rfl, ho, hb3⟩
  have HO3 := Lib.hid ho
  have HB3 := Lib.hid hb3
  have HDC := Lib.hid (HDEL.out Z.heap.size v x3 HO3.out HB3.out.size)
  clear ho hb3 z2
  go_wp2_with fail
  refine HDC.out.mono ?_
  rintro e x4 ⟨a4, c4, rfl, h4, hb4⟩
  have H4 := Lib.hid h4
  have HB4 : Hid (Below w.heap.size w x4) := Lib.hid (HBZ.out.trans ((HB3.out.trans hb4).mono HBZ.out.size))
  clear h4 hb4
  go_wp2
  go_ret2
  exact ⟨a4, c4, rfl, H4.out, HB4.out⟩
set_option maxHeartbeats 12800000 in
set_option maxRecDepth 100000 in
theorem pcyc_err_1 (a : Option Addr) (cap : Nat) (L : List Int) (m : Int) (J : List E) (k : Nat) (hk : k ≠ 0) (hM : ∀ w, IsAt w a L → Calls Try.prog 29 #[.agg #[.int .i64 1, (.func (.func 55) #[] #[]), (.func (.func 56) #[] #[])], .slice a L.length cap] w (GivesGE w m J k)) (w : World) (h : IsAt w a L) :
    Calls Try.prog 22 #[.int .i64 1, .slice a L.length cap] w (GivesLE w [] k) := by
  have q0 : (((k : Nat) : Int) != 0) = true := by rw [bne_iff_ne]; omega
  have HM := Lib.hid hM
  have HO := Lib.hid (fun w => pof_1 w)
  have HE := Lib.hid h
  clear hM h hk
  unfold GivesGE gv at HM
  unfold GivesLE
  go_enter Try.func22, Try.ntmps22
  go_wp2_with fail
  refine (HO.out w).mono ?_
  rintro e x1 ⟨rfl, hb⟩
  obtain ⟨Y, hY⟩ : ∃ Y, Y = x1.alloc (Obj.cells #[.int .i64 1, (.func (.func 55) #[] #[]), (.func (.func 56) #[] #[])] 60) := ⟨_, rfl⟩
  have HBY : Hid (Below w.heap.size w Y) := Lib.hid (by rw [hY]; exact hb.alloc hb.size _)
  have HFB : Hid (Blk Y x1.heap.size 60 #[.int .i64 1, (.func (.func 55) #[] #[]), (.func (.func 56) #[] #[])]) := Lib.hid (by rw [hY]; exact Blk.new _ _ _)
  have HEY := Lib.hid (HE.out.keep HBY.out)
  have HY := Lib.hid hY
  clear hY hb
  go_wp2_with fail
  rw [← HY.out]
  refine (HM.out _ HEY.out).mono ?_
  rintro r x2 ⟨a2, c2, rfl, -, -, hb2⟩
  obtain ⟨Z, hZ⟩ : ∃ Z, Z = x2.alloc (Obj.cells #[.int .i64 m, .slice a2 J.length c2] 31) := ⟨_, rfl⟩
  have hbz : Below Y.heap.size Y Z := by rw [hZ]; exact hb2.alloc hb2.size _
  have HBZ : Hid (Below w.heap.size w Z) := Lib.hid (HBY.out.trans (hbz.mono HBY.out.size))
  have HZZ := Lib.hid hZ
  clear hbz hZ hb2 HFB
  go_wp2
  go_ret2
  exact ⟨none, 0, rfl, RowAt.nil _ _ _ _, by rw [← HZZ.out]; exact HBZ.out⟩
set_option maxHeartbeats 12800000 in
set_option maxRecDepth 100000 in
theorem pcyc_ok_1 (a : Option Addr) (cap : Nat) (L : List Int) (m : Int) (J : List E) (hM : ∀ w, IsAt w a L → Calls Try.prog 29 #[.agg #[.int .i64 1, (.func (.func 55) #[] #[]), (.func (.func 56) #[] #[])], .slice a L.length cap] w (GivesGE w m J 0)) (M : List Int) (hMl : M.length ≤ 1000) (hord : ∀ w, IsAt w a L → Calls Try.prog 56 #[.slice a L.length cap] w (GivesO w M)) (w : World) (h : IsAt w a L) :
    Calls Try.prog 22 #[.int .i64 1, .slice a L.length cap] w (GivesLE w (no1 M) 0) := by
  have heq : ∀ w : World, (binOp BinOp.eql 58 (.func (.func 56) #[] #[]) .nilFunc).run Try.prog w = .ok (.bool false) w := fun _ => by kernel_rfl
  have HM := Lib.hid hM
  have HO := Lib.hid (fun w => pof_1 w)
  have HORD := Lib.hid hord
  have HDEL := Lib.hid (fun base v w h hb => pdel_own base v M (by omega) w h hb)
  have HE := Lib.hid h
  clear hM h hord hMl
  unfold GivesGE gv at HM
  unfold GivesO at HORD
  unfold GivesLE
  go_enter Try.func22, Try.ntmps22
  go_wp2_with fail
  refine (HO.out w).mono ?_
  rintro e x1 ⟨rfl, hb⟩
  obtain ⟨Y, hY⟩ : ∃ Y, Y = x1.alloc (Obj.cells #[.int .i64 1, (.func (.func 55) #[] #[]), (.func (.func 56) #[] #[])] 60) := ⟨_, rfl⟩
  have HBY : Hid (Below w.heap.size w Y) := Lib.hid (by rw [hY]; exact hb.alloc hb.size _)
  have HFB : Hid (Blk Y x1.heap.size 60 #[.int .i64 1, (.func (.func 55) #[] #[]), (.func (.func 56) #[] #[])]) := Lib.hid (by rw [hY]; exact Blk.new _ _ _)
  have HEY := Lib.hid (HE.out.keep HBY.out)
  have HY := Lib.hid hY
  clear hY hb
  go_wp2_with fail
  rw [← HY.out]
  refine (HM.out _ HEY.out).mono ?_
  rintro r x2 ⟨a2, c2, rfl, -, -, hb2⟩
  obtain ⟨Z, hZ⟩ : ∃ Z, Z = x2.alloc (Obj.cells #[.int .i64 m, .slice a2 J.length c2] 31) := ⟨_, rfl⟩
  have hbz : Below Y.heap.size Y Z := by rw [hZ]; exact hb2.alloc hb2.size _
  have HBZ : Hid (Below w.heap.size w Z) := Lib.hid (HBY.out.trans (hbz.mono HBY.out.size))
  have z2 : (x2.alloc (Obj.cells #[.int .i64 m, .slice a2 J.length c2] 31)).cell? ⟨x1.heap.size, 2, none⟩ = some (.func (.func 56) #[] #[]) := by rw [← hZ]; exact (HFB.out.below hbz HFB.out.lt).cell 2
  have HEZ := Lib.hid (HE.out.keep HBZ.out)
  have HZZ := Lib.hid hZ
  clear hbz hZ hb2 HFB
  go_wp2_with fail
  rw [← HZZ.out]
  refine (HORD.out Z HEZ.out).mono ?_
  rintro e x3 ⟨v, rfl, ho, hb3⟩
  have HO3 := Lib.hid ho
  have HB3 := Lib.hid hb3
  have HDC := Lib.hid (HDEL.out Z.heap.size v x3 HO3.out HB3.out.size)
  clear ho hb3 z2
  go_wp2_with fail
  refine HDC.out.mono ?_
  rintro e x4 ⟨a4, c4, rfl, h4, hb4⟩
  have H4 := Lib.hid h4
  have HB4 : Hid (Below w.heap.size w x4) := Lib.hid (HBZ.out.trans ((HB3.out.trans hb4).mono HBZ.out.size))
  clear h4 hb4
  go_wp2
  go_ret2
  exact ⟨a4, c4, rfl, H4.out, HB4.out⟩
set_option maxHeartbeats 12800000 in
set_option maxRecDepth 100000 in
theorem pcyc_err_2 (a : Option Addr) (cap : Nat) (L : List Int) (m : Int) (J : List E) (k : Nat) (hk : k ≠ 0) (hM : ∀ w, IsAt w a L → Calls Try.prog 29 #[.agg #[.int .i64 1, (.func (.func 57) #[] #[]), (.func (.func 54) #[] #[])], .slice a L.length cap] w (GivesGE w m J k)) (w : World) (h : IsAt w a L) :
    Calls Try.prog 22 #[.int .i64 2, .slice a L.length cap] w (GivesLE w [] k) := by
  have q0 : (((k : Nat) : Int) != 0) = true := by rw [bne_iff_ne]; omega
  have HM := Lib.hid hM
  have HO := Lib.hid (fun w => pof_2 w)
  have HE := Lib.hid h
  clear hM h hk
  unfold GivesGE gv at HM
  unfold GivesLE
  go_enter Try.func22, Try.ntmps22
  go_wp2_with fail
  refine (HO.out w).mono ?_
  rintro e x1 ⟨rfl, hb⟩
  obtain ⟨Y, hY⟩ : ∃ Y, Y = x1.alloc (Obj.cells #[.int .i64 1, (.func (.func 57) #[] #[]), (.func (.func 54) #[] #[])] 60) := ⟨_, rfl⟩
  have HBY : Hid (Below w.heap.size w Y) := Lib.hid (by rw [hY]; exact hb.alloc hb.size _)
  have HFB : Hid (Blk Y x1.heap.size 60 #[.int .i64 1, (.func (.func 57) #[] #[]), (.func (.func 54) #[] #[])]) := Lib.hid (by rw [hY]; exact Blk.new _ _ _)
  have HEY := Lib.hid (HE.out.keep HBY.out)
  have HY := Lib.hid hY
  clear hY hb
  go_wp2_with fail
  rw [← HY.out]
  refine (HM.out _ HEY.out).mono ?_
  rintro r x2 ⟨a2, c2, rfl, -, -, hb2⟩
  obtain ⟨Z, hZ⟩ : ∃ Z, Z = x2.alloc (Obj.cells #[.int .i64 m, .slice a2 J.length c2] 31) := ⟨_, rfl⟩
  have hbz : Below Y.heap.size Y Z := by rw [hZ]; exact hb2.alloc hb2.size _
  have HBZ : Hid (Below w.heap.size w Z) := Lib.hid (HBY.out.trans (hbz.mono HBY.out.size))
  have HZZ := Lib.hid hZ
  clear hbz hZ hb2 HFB
  go_wp2
  go_ret2
  exact ⟨none, 0, rfl, RowAt.nil _ _ _ _, by rw [← HZZ.out]; exact HBZ.out⟩
set_option maxHeartbeats 12800000 in
set_option maxRecDepth 100000 in
theorem pcyc_ok_2 (a : Option Addr) (cap : Nat) (L : List Int) (m : Int) (J : List E) (hM : ∀ w, IsAt w a L → Calls Try.prog 29 #[.agg #[.int .i64 1, (.func (.func 57) #[] #[]), (.func (.func 54) #[] #[])], .slice a L.length cap] w (GivesGE w m J 0)) (M : List Int) (hMl : M.length ≤ 1000) (hord : ∀ w, IsAt w a L → Calls Try.prog 54 #[.slice a L.length cap] w (GivesO w M)) (w : World) (h : IsAt w a L) :
    Calls Try.prog 22 #[.int .i64 2, .slice a L.length cap] w (GivesLE w (no1 M) 0) := by
  have heq : ∀ w : World, (binOp BinOp.eql 58 (.func (.func 54) #[] #[]) .nilFunc).run Try.prog w = .ok (.bool false) w := fun _ => by kernel_rfl
  have HM := Lib.hid hM
  have HO := Lib.hid (fun w => pof_2 w)
  have HORD := Lib.hid hord
  have HDEL := Lib.hid (fun base v w h hb => pdel_own base v M (by omega) w h hb)
  have HE := Lib.hid h
  clear hM h hord hMl
  unfold GivesGE gv at HM
  unfold GivesO at HORD
  unfold GivesLE
  go_enter Try.func22, Try.ntmps22
  go_wp2_with fail
  refine (HO.out w).mono ?_
  rintro e x1 ⟨rfl, hb⟩
  obtain ⟨Y, hY⟩ : ∃ Y, Y = x1.alloc (Obj.cells #[.int .i64 1, (.func (.func 57) #[] #[]), (.func (.func 54) #[] #[])] 60) := ⟨_, rfl⟩
  have HBY : Hid (Below w.heap.size w Y) := Lib.hid (by rw [hY]; exact hb.alloc hb.size _)
  have HFB : Hid (Blk Y x1.heap.size 60 #[.int .i64 1, (.func (.func 57) #[] #[]), (.func (.func 54) #[] #[])]) := Lib.hid (by rw [hY]; exact Blk.new _ _ _)
  have HEY := Lib.hid (HE.out.keep HBY.out)
  have HY := Lib.hid hY
  clear hY hb
  go_wp2_with fail
  rw [← HY.out]
  refine (HM.out _ HEY.out).mono ?_
  rintro r x2 ⟨a2, c2, rfl, -, -, hb2⟩
  obtain ⟨Z, hZ⟩ : ∃ Z, Z = x2.alloc (Obj.cells #[.int .i64 m, .slice a2 J.length c2] 31) := ⟨_, rfl⟩
  have hbz : Below Y.heap.size Y Z := by rw [hZ]; exact hb2.alloc hb2.size _
  have HBZ : Hid (Below w.heap.size w Z) := Lib.hid (HBY.out.trans (hbz.mono HBY.out.size))
  have z2 : (x2.alloc (Obj.cells #[.int .i64 m, .slice a2 J.length c2] 31)).cell? ⟨x1.heap.size, 2, none⟩ = some (.func (.func 54) #[] #[]) := by rw [← hZ]; exact (HFB.out.below hbz HFB.out.lt).cell 2
  have HEZ := Lib.hid (HE.out.keep HBZ.out)
  have HZZ := Lib.hid hZ
  clear hbz hZ hb2 HFB
  go_wp2_with fail
  rw [← HZZ.out]
  refine (HORD.out Z HEZ.out).mono ?_
  rintro e x3 ⟨v, rfl, ho, hb3⟩
  have HO3 := Lib.hid ho
  have HB3 := Lib.hid hb3
  have HDC := Lib.hid (HDEL.out Z.heap.size v x3 HO3.out HB3.out.size)
  clear ho hb3 z2
  go_wp2_with fail
  refine HDC.out.mono ?_
  rintro e x4 ⟨a4, c4, rfl, h4, hb4⟩
  have H4 := Lib.hid h4
  have HB4 : Hid (Below w.heap.size w x4) := Lib.hid (HBZ.out.trans ((HB3.out.trans hb4).mono HBZ.out.size))
  clear h4 hb4
  go_wp2
  go_ret2
  exact ⟨a4, c4, rfl, H4.out, HB4.out⟩
end Go.Proofs.Ytgfbihdnjidodaa

namespace Go.Proofs.Ytgfbihdnjidodaa
open Go.RowKit Go.Shelf Go.Proofs.Gr
attribute [local go_sem] Oper.semAt_some
attribute [local go_sem] run_store_func run_store_nilFunc

set_option maxHeartbeats 12800000 in
set_option maxRecDepth 100000 in
theorem pcyc_err_6 (a : Option Addr) (cap : Nat) (L : List Int) (m : Int) (J : List E) (k : Nat) (hk : k ≠ 0) (hM : ∀ w, IsAt w a L → Calls Try.prog 29 #[.agg #[.int .i64 2, (.func (.func 63) #[] #[]), (.func (.func 64) #[] #[])], .slice a L.length cap] w (GivesGE w m J k)) (w : World) (h : IsAt w a L) :
    Calls Try.prog 22 #[.int .i64 6, .slice a L.length cap] w (GivesLE w [] k) := by
  have q0 : (((k : Nat) : Int) != 0) = true := by rw [bne_iff_ne]; omega
  have HM := Lib.hid hM
  have HO := Lib.hid (fun w => pof_6 w)
  have HE := Lib.hid h
  clear hM h hk
  unfold GivesGE gv at HM
  unfold GivesLE
  go_enter Try.func22, Try.ntmps22
  go_wp2_with fail
  refine (HO.out w).mono ?_
  rintro e x1 ⟨rfl, hb⟩
  obtain ⟨Y, hY⟩ : ∃ Y, Y = x1.alloc (Obj.cells #[.int .i64 2, (.func (.func 63) #[] #[]), (.func (.func 64) #[] #[])] 60) := ⟨_, rfl⟩
  have HBY : Hid (Below w.heap.size w Y) := Lib.hid (by rw [hY]; exact hb.alloc hb.size _)
  have HFB : Hid (Blk Y x1.heap.size 60 #[.int .i64 2, (.func (.func 63) #[] #[]), (.func (.func 64) #[] #[])]) := Lib.hid (by rw [hY]; exact Blk.new _ _ _)
  have HEY := Lib.hid (HE.out.keep HBY.out)
  have HY := Lib.hid hY
  clear hY hb
  go_wp2_with fail
  rw [← HY.out]
  refine (HM.out _ HEY.out).mono ?_
  rintro r x2 ⟨a2, c2, rfl, -, -, hb2⟩
  obtain ⟨Z, hZ⟩ : ∃ Z, Z = x2.alloc (Obj.cells #[.int .i64 m, .slice a2 J.length c2] 31) := ⟨_, rfl⟩
  have hbz : Below Y.heap.size Y Z := by rw [hZ]; exact hb2.alloc hb2.size _
  have HBZ : Hid (Below w.heap.size w Z) := Lib.hid (HBY.out.trans (hbz.mono HBY.out.size))
  have HZZ := Lib.hid hZ
  clear hbz hZ hb2 HFB
  go_wp2
  go_ret2
  exact ⟨none, 0, rfl, RowAt.nil _ _ _ _, by rw [← HZZ.out]; exact HBZ.out⟩
set_option maxHeartbeats 12800000 in
set_option maxRecDepth 100000 in
theorem pcyc_ok_6 (a : Option Addr) (cap : Nat) (L : List Int) (m : Int) (J : List E) (hM : ∀ w, IsAt w a L → Calls Try.prog 29 #[.agg #[.int .i64 2, (.func (.func 63) #[] #[]), (.func (.func 64) #[] #[])], .slice a L.length cap] w (GivesGE w m J 0)) (M : List Int) (hMl : M.length ≤ 1000) (hord : ∀ w, IsAt w a L → Calls Try.prog 64 #[.slice a L.length cap] w (GivesO w M)) (w : World) (h : IsAt w a L) :
    Calls Try.prog 22 #[.int .i64 6, .slice a L.length cap] w (GivesLE w (no1 M) 0) := by
  have heq : ∀ w : World, (binOp BinOp.eql 58 (.func (.func 64) #[] #[]) .nilFunc).run Try.prog w = .ok (.bool false) w := fun _ => by kernel_rfl
  have HM := Lib.hid hM
  have HO := Lib.hid (fun w => pof_6 w)
  have HORD := Lib.hid hord
  have HDEL := Lib.hid (fun base v w h hb => pdel_own base v M (by omega) w h hb)
  have HE := Lib.hid h
  clear hM h hord hMl
  unfold GivesGE gv at HM
  unfold GivesO at HORD
  unfold GivesLE
  go_enter Try.func22, Try.ntmps22
  go_wp2_with fail
  refine (HO.out w).mono ?_
  rintro e x1 ⟨rfl, hb⟩
  obtain ⟨Y, hY⟩ : ∃ Y, Y = x1.alloc (Obj.cells #[.int .i64 2, (.func (.func 63) #[] #[]), (.func (.func 64) #[] #[])] 60) := ⟨_, rfl⟩
  have HBY : Hid (Below w.heap.size w Y) := Lib.hid (by rw [hY]; exact hb.alloc hb.size _)
  have HFB : Hid (Blk Y x1.heap.size 60 #[.int .i64 2, (.func (.func 63) #[] #[]), (.func (.func 64) #[] #[])]) := Lib.hid (by rw [hY]; exact Blk.new _ _ _)
  have HEY := Lib.hid (HE.out.keep HBY.out)
  have HY := Lib.hid hY
  clear hY hb
  go_wp2_with fail
  rw [← HY.out]
  refine (HM.out _ HEY.out).mono ?_
  rintro r x2 ⟨a2, c2, rfl, -, -, hb2⟩
  obtain ⟨Z, hZ⟩ : ∃ Z, Z = x2.alloc (Obj.cells #[.int .i64 m, .slice a2 J.length c2] 31) := ⟨_, rfl⟩
  have hbz : Below Y.heap.size Y Z := by rw [hZ]; exact hb2.alloc hb2.size _
  have HBZ : Hid (Below w.heap.size w Z) := Lib.hid (HBY.out.trans (hbz.mono HBY.out.size))
  have z2 : (x2.alloc (Obj.cells #[.int .i64 m, .slice a2 J.length c2] 31)).cell? ⟨x1.heap.size, 2, none⟩ = some (.func (.func 64) #[] #[]) := by rw [← hZ]; exact (HFB.out.below hbz HFB.out.lt).cell 2
  have HEZ := Lib.hid (HE.out.keep HBZ.out)
  have HZZ := Lib.hid hZ
  clear hbz hZ hb2 HFB
  go_wp2_with fail
  rw [← HZZ.out]
  refine (HORD.out Z HEZ.out).mono ?_
  rintro e x3 ⟨v, rfl, ho, hb3⟩
  have HO3 := Lib.hid ho
  have HB3 := Lib.hid hb3
  have HDC := Lib.hid (HDEL.out Z.heap.size v x3 HO3.out HB3.out.size)
  clear ho hb3 z2
  go_wp2_with fail
  refine HDC.out.mono ?_
  rintro e x4 ⟨a4, c4, rfl, h4, hb4⟩
  have H4 := Lib.hid h4
  have HB4 : Hid (Below w.heap.size w x4) := Lib.hid (HBZ.out.trans ((HB3.out.trans hb4).mono HBZ.out.size))
  clear h4 hb4
  go_wp2
  go_ret2
  exact ⟨a4, c4, rfl, H4.out, HB4.out⟩
set_option maxHeartbeats 12800000 in
set_option maxRecDepth 100000 in
theorem pcyc_err_7 (a : Option Addr) (cap : Nat) (L : List Int) (m : Int) (J : List E) (k : Nat) (hk : k ≠ 0) (hM : ∀ w, IsAt w a L → Calls Try.prog 29 #[.agg #[.int .i64 2, (.func (.func 65) #[] #[]), Value.nilFunc], .slice a L.length cap] w (GivesGE w m J k)) (w : World) (h : IsAt w a L) :
    Calls Try.prog 22 #[.int .i64 7, .slice a L.length cap] w (GivesLE w [] k) := by
  have q0 : (((k : Nat) : Int) != 0) = true := by rw [bne_iff_ne]; omega
  have HM := Lib.hid hM
  have HO := Lib.hid (fun w => pof_7 w)
  have HE := Lib.hid h
  clear hM h hk
  unfold GivesGE gv at HM
  unfold GivesLE
  go_enter Try.func22, Try.ntmps22
  go_wp2_with fail
  refine (HO.out w).mono ?_
  rintro e x1 ⟨rfl, hb⟩
  obtain ⟨Y, hY⟩ : ∃ Y, Y = x1.alloc (Obj.cells #[.int .i64 2, (.func (.func 65) #[] #[]), Value.nilFunc] 60) := ⟨_, rfl⟩
  have HBY : Hid (Below w.heap.size w Y) := Lib.hid (by rw [hY]; exact hb.alloc hb.size _)
  have HFB : Hid (Blk Y x1.heap.size 60 #[.int .i64 2, (.func (.func 65) #[] #[]), Value.nilFunc]) := Lib.hid (by rw [hY]; exact Blk.new _ _ _)
  have HEY := Lib.hid (HE.out.keep HBY.out)
  have HY := Lib.hid hY
  clear hY hb
  go_wp2_with fail
  rw [← HY.out]
  refine (HM.out _ HEY.out).mono ?_
  rintro r x2 ⟨a2, c2, rfl, -, -, hb2⟩
  obtain ⟨Z, hZ⟩ : ∃ Z, Z = x2.alloc (Obj.cells #[.int .i64 m, .slice a2 J.length c2] 31) := ⟨_, rfl⟩
  have hbz : Below Y.heap.size Y Z := by rw [hZ]; exact hb2.alloc hb2.size _
  have HBZ : Hid (Below w.heap.size w Z) := Lib.hid (HBY.out.trans (hbz.mono HBY.out.size))
  have HZZ := Lib.hid hZ
  clear hbz hZ hb2 HFB
  go_wp2
  go_ret2
  exact ⟨none, 0, rfl, RowAt.nil _ _ _ _, by rw [← HZZ.out]; exact HBZ.out⟩
set_option maxHeartbeats 12800000 in
set_option maxRecDepth 100000 in
theorem pcyc_ok_7 (a : Option Addr) (cap : Nat) (L : List Int) (m : Int) (J : List E) (hM : ∀ w, IsAt w a L → Calls Try.prog 29 #[.agg #[.int .i64 2, (.func (.func 65) #[] #[]), Value.nilFunc], .slice a L.length cap] w (GivesGE w m J 0)) (w : World) (h : IsAt w a L) :
    Calls Try.prog 22 #[.int .i64 7, .slice a L.length cap] w (GivesLE w [] 15) := by
  have heq : ∀ w : World, (binOp BinOp.eql 58 .nilFunc .nilFunc).run Try.prog w = .ok (.bool true) w := fun _ => by kernel_rfl
  have HM := Lib.hid hM
  have HO := Lib.hid (fun w => pof_7 w)
  have HE := Lib.hid h
  clear hM h
  unfold GivesGE gv at HM
  unfold GivesLE
  go_enter Try.func22, Try.ntmps22
  go_wp2_with fail
  refine (HO.out w).mono ?_
  rintro e x1 ⟨rfl, hb⟩
  obtain ⟨Y, hY⟩ : ∃ Y, Y = x1.alloc (Obj.cells #[.int .i64 2, (.func (.func 65) #[] #[]), Value.nilFunc] 60) := ⟨_, rfl⟩
  have HBY : Hid (Below w.heap.size w Y) := Lib.hid (by rw [hY]; exact hb.alloc hb.size _)
  have HFB : Hid (Blk Y x1.heap.size 60 #[.int .i64 2, (.func (.func 65) #[] #[]), Value.nilFunc]) := Lib.hid (by rw [hY]; exact Blk.new _ _ _)
  have HEY := Lib.hid (HE.out.keep HBY.out)
  have HY := Lib.hid hY
  clear hY hb
  go_wp2_with fail
  rw [← HY.out]
  refine (HM.out _ HEY.out).mono ?_
  rintro r x2 ⟨a2, c2, rfl, -, -, hb2⟩
  obtain ⟨Z, hZ⟩ : ∃ Z, Z = x2.alloc (Obj.cells #[.int .i64 m, .slice a2 J.length c2] 31) := ⟨_, rfl⟩
  have hbz : Below Y.heap.size Y Z := by rw [hZ]; exact hb2.alloc hb2.size _
  have HBZ : Hid (Below w.heap.size w Z) := Lib.hid (HBY.out.trans (hbz.mono HBY.out.size))
  have z2 : (x2.alloc (Obj.cells #[.int .i64 m, .slice a2 J.length c2] 31)).cell? ⟨x1.heap.size, 2, none⟩ = some Value.nilFunc := by rw [← hZ]; exact (HFB.out.below hbz HFB.out.lt).cell 2
  have HZZ := Lib.hid hZ
  clear hbz hZ hb2 HFB
  go_wp2
  go_ret2
  exact ⟨none, 0, rfl, RowAt.nil _ _ _ _, by rw [← HZZ.out]; exact HBZ.out⟩
set_option maxHeartbeats 12800000 in
set_option maxRecDepth 100000 in
theorem pcyc_err_8 (a : Option Addr) (cap : Nat) (L : List Int) (m : Int) (J : List E) (k : Nat) (hk : k ≠ 0) (hM : ∀ w, IsAt w a L → Calls Try.prog 29 #[.agg #[.int .i64 3, (.func (.func 66) #[] #[]), (.func (.func 67) #[] #[])], .slice a L.length cap] w (GivesGE w m J k)) (w : World) (h : IsAt w a L) :
    Calls Try.prog 22 #[.int .i64 8, .slice a L.length cap] w (GivesLE w [] k) := by
  have q0 : (((k : Nat) : Int) != 0) = true := by rw [bne_iff_ne]; omega
  have HM := Lib.hid hM
  have HO := Lib.hid (fun w => pof_8 w)
  have HE := Lib.hid h
  clear hM h hk
  unfold GivesGE gv at HM
  unfold GivesLE
  go_enter Try.func22, Try.ntmps22
  go_wp2_with fail
  refine (HO.out w).mono ?_
  rintro e x1 ⟨rfl, hb⟩
  obtain ⟨Y, hY⟩ : ∃ Y, Y = x1.alloc (Obj.cells #[.int .i64 3, (.func (.func 66) #[] #[]), (.func (.func 67) #[] #[])] 60) := ⟨_, rfl⟩
  have HBY : Hid (Below w.heap.size w Y) := Lib.hid (by rw [hY]; exact hb.alloc hb.size _)
  have HFB : Hid (Blk Y x1.heap.size 60 #[.int .i64 3, (.func (.func 66) #[] #[]), (.func (.func 67) #[] #[])]) := Lib.hid (by rw [hY]; exact Blk.new _ _ _)
  have HEY := Lib.hid (HE.out.keep HBY.out)
  have HY := Lib.hid hY
  clear hY hb
  go_wp2_with fail
  rw [← HY.out]
  refine (HM.out _ HEY.out).mono ?_
  rintro r x2 ⟨a2, c2, rfl, -, -, hb2⟩
  obtain ⟨Z, hZ⟩ : ∃ Z, Z = x2.alloc (Obj.cells #[.int .i64 m, .slice a2 J.length c2] 31) := ⟨_, rfl⟩
  have hbz : Below Y.heap.size Y Z := by rw [hZ]; exact hb2.alloc hb2.size _
  have HBZ : Hid (Below w.heap.size w Z) := Lib.hid (HBY.out.trans (hbz.mono HBY.out.size))
  have HZZ := Lib.hid hZ
  clear hbz hZ hb2 HFB
  go_wp2
  go_ret2
  exact ⟨none, 0, rfl, RowAt.nil _ _ _ _, by rw [← HZZ.out]; exact HBZ.out⟩
set_option maxHeartbeats 12800000 in
set_option maxRecDepth 100000 in
theorem pcyc_ok_8 (a : Option Addr) (cap : Nat) (L : List Int) (m : Int) (J : List E) (hM : ∀ w, IsAt w a L → Calls Try.prog 29 #[.agg #[.int .i64 3, (.func (.func 66) #[] #[]), (.func (.func 67) #[] #[])], .slice a L.length cap] w (GivesGE w m J 0)) (M : List Int) (hMl : M.length ≤ 1000) (hord : ∀ w, IsAt w a L → Calls Try.prog 67 #[.slice a L.length cap] w (GivesO w M)) (w : World) (h : IsAt w a L) :
    Calls Try.prog 22 #[.int .i64 8, .slice a L.length cap] w (GivesLE w (no1 M) 0) := by
  have heq : ∀ w : World, (binOp BinOp.eql 58 (.func (.func 67) #[] #[]) .nilFunc).run Try.prog w = .ok (.bool false) w := fun _ => by kernel_rfl
  have HM := Lib.hid hM
  have HO := Lib.hid (fun w => pof_8 w)
  have HORD := Lib.hid hord
  have HDEL := Lib.hid (fun base v w h hb => pdel_own base v M (by omega) w h hb)
  have HE := Lib.hid h
  clear hM h hord hMl
  unfold GivesGE gv at HM
  unfold GivesO at HORD
  unfold GivesLE
  go_enter Try.func22, Try.ntmps22
  go_wp2_with fail
  refine (HO.out w).mono ?_
  rintro e x1 ⟨rfl, hb⟩
  obtain ⟨Y, hY⟩ : ∃ Y, Y = x1.alloc (Obj.cells #[.int .i64 3, (.func (.func 66) #[] #[]), (.func (.func 67) #[] #[])] 60) := ⟨_, rfl⟩
  have HBY : Hid (Below w.heap.size w Y) := Lib.hid (by rw [hY]; exact hb.alloc hb.size _)
  have HFB : Hid (Blk Y x1.heap.size 60 #[.int .i64 3, (.func (.func 66) #[] #[]), (.func (.func 67) #[] #[])]) := Lib.hid (by rw [hY]; exact Blk.new _ _ _)
  have HEY := Lib.hid (HE.out.keep HBY.out)
  have HY := Lib.hid hY
  clear hY hb
  go_wp2_with fail
  rw [← HY.out]
  refine (HM.out _ HEY.out).mono ?_
  rintro r x2 ⟨a2, c2, rfl, -, -, hb2⟩
  obtain ⟨Z, hZ⟩ : ∃ Z, Z = x2.alloc (Obj.cells #[.int .i64 m, .slice a2 J.length c2] 31) := ⟨_, rfl⟩
  have hbz : Below Y.heap.size Y Z := by rw [hZ]; exact hb2.alloc hb2.size _
  have HBZ : Hid (Below w.heap.size w Z) := Lib.hid (HBY.out.trans (hbz.mono HBY.out.size))
  have z2 : (x2.alloc (Obj.cells #[.int .i64 m, .slice a2 J.length c2] 31)).cell? ⟨x1.heap.size, 2, none⟩ = some (.func (.func 67) #[] #[]) := by rw [← hZ]; exact (HFB.out.below hbz HFB.out.lt).cell 2
  have HEZ := Lib.hid (HE.out.keep HBZ.out)
  have HZZ := Lib.hid hZ
  clear hbz hZ hb2 HFB
  go_wp2_with fail
  rw [← HZZ.out]
  refine (HORD.out Z HEZ.out).mono ?_
  rintro e x3 ⟨v, rfl, ho, hb3⟩
  have HO3 := Lib.hid ho
  have HB3 := Lib.hid hb3
  have HDC := Lib.hid (HDEL.out Z.heap.size v x3 HO3.out HB3.out.size)
  clear ho hb3 z2
  go_wp2_with fail
  refine HDC.out.mono ?_
  rintro e x4 ⟨a4, c4, rfl, h4, hb4⟩
  have H4 := Lib.hid h4
  have HB4 : Hid (Below w.heap.size w x4) := Lib.hid (HBZ.out.trans ((HB3.out.trans hb4).mono HBZ.out.size))
  clear h4 hb4
  go_wp2
  go_ret2
  exact ⟨a4, c4, rfl, H4.out, HB4.out⟩
end Go.Proofs.Ytgfbihdnjidodaa
