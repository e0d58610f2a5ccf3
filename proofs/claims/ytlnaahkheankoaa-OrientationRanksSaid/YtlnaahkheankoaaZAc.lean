/- Orientations of orders, by the reference. -/
import Derived.Test.YtlnaahkheankoaaQ09
import Derived.Test.YtlnaahkheankoaaQ07
import Derived.Test.YtlnaahkheankoaaZAb
import Derived.Test.YtlnaahkheankoaaQ00
namespace Go.Proofs.Ytlnaahkheankoaa
open Go.RowKit Go.Shelf Go.Proofs.Gr
attribute [local go_sem] Oper.semAt_some

theorem perm_ofO {l m : List Int} (hl : l.Nodup) (hs : ∀ x ∈ l, x ∈ m) (hlen : m.length = l.length) : l.Perm m := by
  induction l generalizing m with
  | nil => rw [List.length_nil, List.length_eq_zero_iff] at hlen; rw [hlen]
  | cons x r ih =>
    obtain ⟨h1, h2⟩ := List.nodup_cons.1 hl
    have hx : x ∈ m := hs x (by simp)
    have h3 := ih h2 (m := m.erase x) (fun y hy => (List.mem_erase_of_ne (fun e => h1 (by rw [← e]; exact hy))).2 (hs y (by simp [hy]))) (by rw [List.length_erase_of_mem hx, hlen, List.length_cons]; omega)
    exact (h3.cons x).trans (List.perm_cons_erase hx).symm
section
variable {S : List Int} (hz : ∀ i, i < S.length → 0 ≤ iAt S i ∧ iAt S i < S.length ∧ (S.take i).contains (iAt S i) = false)
include hz
theorem ord_inj {i j : Nat} (hi : i < j) (hj : j < S.length) : iAt S i ≠ iAt S j := by
  intro e
  have h1 := (hz j hj).2.2
  rw [← e] at h1
  have h2 : iAt S i ∈ S.take j := by
    have h3 : (S.take j)[i]'(by rw [List.length_take]; omega) = iAt S i := by
      rw [List.getElem_take]; exact iAt_get S i (by omega)
    rw [← h3]; exact List.getElem_mem _
  rw [← List.contains_iff_mem] at h2
  rw [h2] at h1; cases h1
theorem ord_nodup : S.Nodup := by
  refine List.pairwise_iff_getElem.2 fun i j hi hj hij => ?_
  rw [iAt_get S i hi, iAt_get S j hj]
  exact ord_inj hz hij hj
theorem ord_surj (v : Int) (h0 : 0 ≤ v) (h1 : v < S.length) : ∃ i, i < S.length ∧ iAt S i = v := by
  have hp := perm_ofO (l := S) (m := (List.range S.length).map fun k : Nat => (k : Int)) (ord_nodup hz) (fun x hx => by
    obtain ⟨j, hj, rfl⟩ := List.mem_iff_getElem.1 hx
    rw [iAt_get S j hj]
    have := hz j hj
    exact List.mem_map.2 ⟨(iAt S j).toNat, List.mem_range.2 (by omega), by omega⟩) (by simp)
  have hm : v ∈ S := hp.symm.mem_iff.1 (List.mem_map.2 ⟨v.toNat, List.mem_range.2 (by omega), by omega⟩)
  obtain ⟨i, hi, e⟩ := List.mem_iff_getElem.1 hm
  exact ⟨i, hi, by rw [← iAt_get S i hi]; exact e⟩
theorem plc_val (k : Nat) (hk : k ≤ S.length) (i : Nat) (hi : i < k) : iAt (plcS S S.length k) (iAt S i).toNat = i := by
  induction k with
  | zero => omega
  | succ k ih =>
    have h1 := hz i (by omega)
    have h2 := hz k (by omega)
    rw [plcS, iAt_set _ _ _ _ (by rw [plcS_len]; omega)]
    by_cases e : i = k
    · subst e; rw [if_pos rfl]
    · have h3 := ord_inj hz (i := i) (j := k) (by omega) (by omega)
      rw [if_neg (by omega)]
      exact ih (by omega) (by omega)
theorem plc_idx (v : Int) (h0 : 0 ≤ v) (h1 : v < S.length) : iAt (plcS S S.length S.length) v.toNat = Lib.idxOf S v := by
  obtain ⟨i, hi, e⟩ := ord_surj hz v h0 h1
  have h2 := plc_val hz S.length (Nat.le_refl _) i hi
  rw [e] at h2
  rw [h2]
  rcases idx_cases S v with ⟨-, h3⟩ | ⟨k, hk, h3, h4, h5⟩
  · exact absurd e (h3 i hi)
  · rw [h3]
    rcases Nat.lt_trichotomy i k with h6 | h6 | h6
    · exact absurd e (h5 i h6)
    · rw [h6]
    · exact absurd (h4.trans e.symm) (ord_inj hz h6 hi)
end
/-- The orientation of an order. -/
def alnF (P : List (Int × Int)) (S : List Int) (j : Nat) : Bool := decide (Lib.idxOf S (pAt P j).1 ≤ Lib.idxOf S (pAt P j).2)
theorem aln_eq {n : Int} {L : List E} {S : List Int} (hk : chkG n L = 0) (hr : renE n S = 0) : (List.range (endsG L).length).map (alnF (endsG L) S) = ordR n L S := by
  obtain ⟨hl, hz⟩ := ren_at hr
  have hz2 : ∀ i, i < S.length → 0 ≤ iAt S i ∧ iAt S i < S.length ∧ (S.take i).contains (iAt S i) = false := fun i hi => by have := hz i hi; rw [hl]; exact this
  have hn : n.toNat = S.length := by omega
  unfold ordR ordL
  rw [hn]
  refine List.map_congr_left fun j hj => ?_
  have hj2 := List.mem_range.1 hj
  obtain ⟨⟨r1, r2⟩, r3, r4⟩ := ends_rng (right_of hk) j hj2
  unfold alnF ordF
  rw [plc_idx hz2 _ r1 (by omega), plc_idx hz2 _ r3 (by omega)]
set_option maxHeartbeats 12800000 in
set_option maxRecDepth 100000 in
theorem rplace_any (s : Option Addr) (d : Nat) (S : List Int) (hS : S.length ≤ 100000) (v : Int) (w : World) (hs : IsAt w s S) :
    Calls Try.prog 102 #[.slice s S.length d, .int .i64 v] w (fun e x => e = .returned (.int .i64 (Lib.idxOf S v)) ∧ w = x) := by
  have HS := Lib.hid hs
  have HIX := Lib.hid (idx_cases S v)
  generalize Lib.idxOf S v = R at *
  clear hs
  go_enter Try.func102, Try.ntmps102
  go_wp2
  go_loopw [5] (fun x wr => ∃ i : Nat, i ≤ S.length ∧ x = .int .i64 i ∧ (∀ j, j < i → iAt S j ≠ v) ∧ w = wr) (fun x _ => S.length - (intOf x).toNat)
  case atStart => exact ⟨0, by omega, rfl, fun j hj => by omega, rfl⟩
  case round =>
    obtain ⟨i, hi, rfl, hz, rfl⟩ := hrel
    have HZ := Lib.hid hz
    clear hz
    by_cases hlt : i < S.length
    · have i1 : (i : Int) < (S.length : Int) := by omega
      have i2 : (0 : Int) ≤ (i : Int) := by omega
      obtain ⟨b1, o1, hb1, q1, x1⟩ := HS.out.one i hlt
      subst hb1
      by_cases he : iAt S i = v
      · have HR : Hid (R = i) := Lib.hid (by
          rcases HIX.out with ⟨-, h3⟩ | ⟨k, hk, h3, h4, h5⟩
          · exact absurd he (h3 i hlt)
          · rw [h3]
            rcases Nat.lt_trichotomy i k with h6 | h6 | h6
            · exact absurd he (h5 i h6)
            · rw [h6]
            · exact absurd h4 (HZ.out k h6))
        have q2 : (v == v) = true := by simp
        rw [he] at x1
        clear he
        go_wp2
        go_ret
        first | exact ⟨by rw [HR.out]; rfl, rfl⟩ | exact ⟨by rw [HR.out], rfl⟩
      · have q2 : (iAt S i == v) = false := by rw [beq_eq_false_iff_ne]; exact he
        have HNZ : Hid (∀ j, j < i + 1 → iAt S j ≠ v) := Lib.hid (fun j hj => by
          by_cases e : j = i
          · subst e; exact he
          · exact HZ.out j (by omega))
        generalize iAt S i = z at *
        clear he
        go_wp2
        go_roundw
        case rel => exact ⟨i + 1, by omega, by go_num, HNZ.out, by first | rfl | trivial⟩
        case measure => simp [intOf]; omega
    · obtain rfl : i = S.length := by omega
      have i1 : ¬ (S.length : Int) < (S.length : Int) := by omega
      have HR : Hid (R = -1) := Lib.hid (by
        rcases HIX.out with ⟨h3, -⟩ | ⟨k, hk, -, h4, -⟩
        · exact h3
        · exact absurd h4 (HZ.out k hk))
      go_wp2
      go_ret
      first | exact ⟨by rw [HR.out]; rfl, rfl⟩ | exact ⟨by rw [HR.out], rfl⟩
end Go.Proofs.Ytlnaahkheankoaa
