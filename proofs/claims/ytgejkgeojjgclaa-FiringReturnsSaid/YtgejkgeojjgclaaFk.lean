/- The checks of moves of the program. -/
import Derived.Test.YtgejkgeojjgclaaFj
namespace Go.Proofs.Ytgejkgeojjgclaa
open Go.RowKit Go.Proofs.Gr Go.Proofs.Cp
attribute [local go_sem] Oper.semAt_some

/-- Some number of a list is no vertex. -/
def lackB (n : Int) (A : List Int) : Bool := A.any fun v => decide (v < 0 ∨ n ≤ v)
def movK (n : Int) (A : List Int) : Nat := if 4096 < A.length then 5 else if lackB n A then 2 else 0
theorem lackB_false {n : Int} {A : List Int} (h : lackB n A = false) : ∀ i, i < A.length → 0 ≤ iAt A i ∧ iAt A i < n := by
  intro i hi
  unfold lackB at h
  rw [List.any_eq_false] at h
  have h1 := h _ (List.getElem_mem hi)
  rw [iAt_get A i hi] at h1
  simp only [decide_eq_true_eq] at h1
  omega
theorem movK_zero {n : Int} {A : List Int} (h : movK n A = 0) : A.length ≤ 4096 ∧ ∀ i, i < A.length → 0 ≤ iAt A i ∧ iAt A i < n := by
  unfold movK at h
  split at h
  · omega
  · split at h
    · omega
    · rename_i h1
      exact ⟨by omega, lackB_false (by cases hb : lackB n A with | false => rfl | true => exact absurd hb h1)⟩
set_option maxHeartbeats 12800000 in
set_option maxRecDepth 100000 in
theorem plack_any (n v : Int) (w : World) :
    Calls Try.prog 90 #[.int .i64 n, .int .i64 v] w (fun e w' => e = .returned (.bool (decide (v < 0 ∨ n ≤ v))) ∧ w = w') := by
  go_enter Try.func90, Try.ntmps90
  by_cases h0 : v < 0
  · have HR : Hid (decide (v < 0 ∨ n ≤ v) = true) := Lib.hid (decide_eq_true (Or.inl h0))
    generalize decide (v < 0 ∨ n ≤ v) = R at *
    go_wp2_with fail
    go_wp2
    go_ret
    exact ⟨by rw [HR.out]; rfl, rfl⟩
  · by_cases h1 : n ≤ v
    · have HR : Hid (decide (v < 0 ∨ n ≤ v) = true) := Lib.hid (decide_eq_true (Or.inr h1))
      generalize decide (v < 0 ∨ n ≤ v) = R at *
      go_wp2_with fail
      go_wp2
      go_ret
      exact ⟨by rw [HR.out]; rfl, rfl⟩
    · have HR : Hid (decide (v < 0 ∨ n ≤ v) = false) := Lib.hid (decide_eq_false (by omega))
      generalize decide (v < 0 ∨ n ≤ v) = R at *
      go_wp2_with fail
      go_wp2
      go_ret
      exact ⟨by rw [HR.out]; rfl, rfl⟩
set_option maxHeartbeats 12800000 in
set_option maxRecDepth 100000 in
theorem idxLack_any (n : Int) (a : Option Addr) (c : Nat) (A : List Int) (hA : A.length ≤ 100000) (w : World) (h : IsAt w a A) :
    Calls Try.prog 97 #[.slice a A.length c, (.func (.func 90) #[.int .i64 n] #[])] w (fun e w' => (∃ r : Int, e = .returned (.int .i64 r) ∧ lackB n A = decide (0 ≤ r)) ∧ Below w.heap.size w w') := by
  have HE := Lib.hid h
  have HL : Hid (∀ v u, Calls Try.prog 90 #[.int .i64 n, .int .i64 v] u (fun e w' => e = .returned (.bool (decide (v < 0 ∨ n ≤ v))) ∧ u = w')) := Lib.hid fun v u => plack_any n v u
  have HT : Hid (∀ i, i < A.length → (decide (iAt A i < 0 ∨ n ≤ iAt A i)) = true → lackB n A = true) := Lib.hid fun i hi hb => by
    unfold lackB; rw [List.any_eq_true]; exact ⟨_, List.getElem_mem hi, by rw [iAt_get A i hi]; exact hb⟩
  have HF : Hid ((∀ j, j < A.length → (decide (iAt A j < 0 ∨ n ≤ iAt A j)) = false) → lackB n A = false) := Lib.hid fun hz => by
    unfold lackB
    rw [List.any_eq_false]
    intro z hz'
    obtain ⟨j, hj, rfl⟩ := List.getElem_of_mem hz'
    rw [iAt_get A j hj, hz j hj]; decide
  generalize lackB n A = R at *
  clear h
  go_enter Try.func97, Try.ntmps97
  go_wp2
  go_loopw [8] (fun x wr => ∃ i : Nat, i ≤ A.length ∧ x = .int .i64 i ∧ Hid (∀ j, j < i → (decide (iAt A j < 0 ∨ n ≤ iAt A j)) = false) ∧ Below w.heap.size w wr) (fun x _ => A.length - (intOf x).toNat)
  case atStart => exact ⟨0, by omega, rfl, Lib.hid fun j hj => by omega, Below.refl _ _⟩
  case round =>
    obtain ⟨i, hi, rfl, hz, hb⟩ := hrel
    have HB := Lib.hid hb
    by_cases hlt : i < A.length
    · have i1 : (i : Int) < (A.length : Int) := by omega
      have i2 : (0 : Int) ≤ (i : Int) := by omega
      obtain ⟨b1, o1, hb1, q1, x1⟩ := (HE.out.keep hb).one i hlt
      subst hb1
      have HTI := Lib.hid (HT.out i hlt)
      have HZN : Hid ((decide (iAt A i < 0 ∨ n ≤ iAt A i)) = false → Hid (∀ j, j < i + 1 → (decide (iAt A j < 0 ∨ n ≤ iAt A j)) = false)) := Lib.hid fun h0 => Lib.hid fun j hj => by
        by_cases e : j = i
        · subst e; exact h0
        · exact hz.out j (by omega)
      have HLT := Lib.hid hlt
      have HLI := Lib.hid (HL.out (iAt A i))
      generalize (decide (iAt A i < 0 ∨ n ≤ iAt A i)) = d at *
      generalize iAt A i = v at *
      clear hz hb hlt
      go_wp2_with fail
      refine (HLI.out wr).mono ?_
      rintro e w1 ⟨rfl, rfl⟩
      cases d with
      | true =>
        have HR := Lib.hid (HTI.out rfl)
        go_wp2
        go_ret
        exact ⟨⟨(i : Int), rfl, by rw [HR.out, decide_eq_true (by omega)]⟩, HB.out⟩
      | false =>
        have HR := Lib.hid (HZN.out rfl)
        go_wp2
        go_roundw
        case rel => exact ⟨i + 1, by have := HLT.out; omega, by go_num, HR.out.out, HB.out⟩
        case measure => have := HLT.out; simp [intOf]; omega
    · obtain rfl : i = A.length := by omega
      have i1 : ¬ (A.length : Int) < (A.length : Int) := by omega
      have HR := Lib.hid (HF.out hz.out)
      clear hz hb
      go_wp2
      go_ret
      exact ⟨⟨-1, rfl, by rw [HR.out]; rfl⟩, HB.out⟩
set_option maxHeartbeats 12800000 in
set_option maxRecDepth 100000 in
theorem contLack_any (n : Int) (a : Option Addr) (c : Nat) (A : List Int) (hA : A.length ≤ 100000) (w : World) (h : IsAt w a A) :
    Calls Try.prog 87 #[.slice a A.length c, (.func (.func 90) #[.int .i64 n] #[])] w (fun e w' => e = .returned (.bool (lackB n A)) ∧ Below w.heap.size w w') := by
  have HI := Lib.hid (idxLack_any n a c A hA w h)
  generalize lackB n A = R at *
  clear h
  go_enter Try.func87, Try.ntmps87
  go_wp2_with fail
  refine HI.out.mono ?_
  rintro e w1 ⟨⟨r, rfl, hr⟩, hb⟩
  have HR := Lib.hid hr
  have HB := Lib.hid hb
  clear hr hb
  by_cases h0 : 0 ≤ r
  · have d1 : decide (0 ≤ r) = true := decide_eq_true h0
    go_wp2
    go_ret
    exact ⟨by rw [HR.out, d1]; rfl, HB.out⟩
  · have d1 : decide (0 ≤ r) = false := decide_eq_false h0
    go_wp2
    go_ret
    exact ⟨by rw [HR.out, d1]; rfl, HB.out⟩
set_option maxHeartbeats 12800000 in
set_option maxRecDepth 100000 in
theorem pckMoves_any (n : Int) (ga : Option Addr) (m cap : Nat) (a : Option Addr) (c : Nat) (A : List Int) (hA : A.length ≤ 100000) (w : World) (h : IsAt w a A) :
    Calls Try.prog 66 #[gv n ga m cap, .slice a A.length c] w (fun e w' => e = .returned (.int .i64 (movK n A : Nat)) ∧ Below w.heap.size w w') := by
  have HC := Lib.hid (fun u hu => contLack_any n a c A hA u hu)
  have HK : Hid (movK n A = if 4096 < A.length then 5 else if lackB n A then 2 else 0) := Lib.hid rfl
  generalize movK n A = K at *
  generalize lackB n A = R at *
  unfold gv at *
  obtain ⟨W, hW⟩ : ∃ W, W = w.alloc (Obj.cells #[.int .i64 n, .slice ga m cap] 24) := ⟨_, rfl⟩
  have hB0 : Below w.heap.size w W := by rw [hW]; exact (Below.refl _ w).alloc (Nat.le_refl _) _
  have hG : Blk W w.heap.size 24 #[.int .i64 n, .slice ga m cap] := by rw [hW]; exact Blk.new _ _ _
  have HW := Lib.hid hW
  have HB0 := Lib.hid hB0
  have HH := Lib.hid (h.keep hB0)
  have g0 := hG.cell 0
  simp only [List.getElem?_toArray, List.getElem?_cons_zero] at g0
  rw [hW] at g0
  clear h hB0 hG hW
  by_cases h1 : 4096 < A.length
  · have HR : Hid (K = 5) := Lib.hid (by rw [HK.out, if_pos h1])
    have i1 : (4096 : Int) < (A.length : Int) := by omega
    clear h1
    go_enter Try.func66, Try.ntmps66
    go_wp2
    go_ret
    exact ⟨by rw [HR.out]; rfl, by rw [← HW.out]; exact HB0.out⟩
  · have HR : Hid (K = if R then 2 else 0) := Lib.hid (by rw [HK.out, if_neg h1])
    have i1 : ¬ (4096 : Int) < (A.length : Int) := by omega
    clear h1
    go_enter Try.func66, Try.ntmps66
    go_wp2_with fail
    rw [← HW.out]
    refine (HC.out _ HH.out).mono ?_
    rintro e w1 ⟨rfl, hb⟩
    have HB := Lib.hid (HB0.out.trans (hb.mono HB0.out.size))
    clear hb
    cases R with
    | true =>
      go_wp2
      go_ret
      exact ⟨by rw [HR.out]; rfl, HB.out⟩
    | false =>
      go_wp2
      go_ret
      exact ⟨by rw [HR.out]; rfl, HB.out⟩
end Go.Proofs.Ytgejkgeojjgclaa
