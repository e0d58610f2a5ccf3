/- Degrees, effective divisors, supports, by both. -/
import Derived.Test.YtgejkgeojjgclaaCc
import Derived.Test.YtgejkgeojjgclaaCd
namespace Go.Proofs.Ytgejkgeojjgclaa
open Go.RowKit Go.Proofs.Gr Go.Proofs.Cp
attribute [local go_sem] Oper.semAt_some

theorem sumT_succ (D : List Int) (i : Nat) (h : i < D.length) : sumD (D.take (i + 1)) = sumD (D.take i) + iAt D i := by
  rw [List.take_succ_eq_append_getElem h, sumD_append, iAt_get D i h]
  simp [sumD]
def Rng (D : List Int) : Prop := ∀ z ∈ D, -1048576 ≤ z ∧ z ≤ 1048576
theorem rng_at {D : List Int} (h : Rng D) (i : Nat) (hi : i < D.length) : -1048576 ≤ iAt D i ∧ iAt D i ≤ 1048576 := h _ (by rw [← iAt_get D i hi]; exact List.getElem_mem hi)
theorem sumT_bd {D : List Int} (h : Rng D) (i : Nat) (hi : i ≤ D.length) : -(i * 1048576 : Int) ≤ sumD (D.take i) ∧ sumD (D.take i) ≤ i * 1048576 := by
  induction i with
  | zero => simp [sumD]
  | succ i ih =>
    rw [sumT_succ D i (by omega)]
    have h1 := ih (by omega)
    have h2 := rng_at h i (by omega)
    omega
theorem pay_iff (D : List Int) : payD D = true ↔ ∀ j, j < D.length → 0 ≤ iAt D j := by
  unfold payD
  rw [List.all_eq_true]
  constructor
  · intro h j hj; have := h _ (List.getElem_mem hj); rw [iAt_get D j hj] at this; simpa using this
  · intro h z hz
    obtain ⟨j, hj, rfl⟩ := List.getElem_of_mem hz
    rw [iAt_get D j hj]; simpa using h j hj
theorem pay_no {D : List Int} (j : Nat) (hj : j < D.length) (h : iAt D j < 0) : payD D = false := by
  cases hp : payD D with
  | false => rfl
  | true => have := (pay_iff D).1 hp j hj; omega
/-- The vertices of the first ones that are not 0. -/
def supT (D : List Int) : Nat → List Int
  | 0 => []
  | k + 1 => supT D k ++ (if iAt D k = 0 then [] else [(k : Int)])
theorem supT_len (D : List Int) (k : Nat) : (supT D k).length ≤ k := by
  induction k with
  | zero => exact Nat.le_refl _
  | succ k ih => rw [supT, List.length_append]; split <;> simp <;> omega
def degV (D : List Int) : Int := if ownD D = 0 then sumD D else 0
def effV (D : List Int) : Bool := if ownD D = 0 then payD D else false
def supV (D : List Int) : List Int := if ownD D = 0 then supT D D.length else []
set_option maxHeartbeats 12800000 in
set_option maxRecDepth 100000 in
theorem rTotal_any (a : Option Addr) (c : Nat) (D : List Int) (hD : D.length ≤ 1000) (hr : Rng D) (w : World) (h : IsAt w a D) :
    Calls Try.prog 43 #[.slice a D.length c] w (fun e w' => e = .returned (.int .i64 (sumD D)) ∧ Below w.heap.size w w') := by
  have HE := Lib.hid h
  have HS := Lib.hid (fun i hi => sumT_succ D i hi)
  have HBD := Lib.hid (fun i hi => sumT_bd hr i hi)
  have HRG := Lib.hid (fun i hi => rng_at hr i hi)
  have HS0 : Hid (sumD (D.take 0) = 0) := Lib.hid rfl
  have HSN : Hid (sumD (D.take D.length) = sumD D) := Lib.hid (by rw [List.take_length])
  generalize sumD D = R at *
  obtain ⟨S, hS⟩ : ∃ S : Nat → Int, S = fun i => sumD (D.take i) := ⟨_, rfl⟩
  have HS' : Hid (∀ i, i < D.length → S (i + 1) = S i + iAt D i) := Lib.hid (by rw [hS]; exact HS.out)
  have HBD' : Hid (∀ i : Nat, i ≤ D.length → -(i * 1048576 : Int) ≤ S i ∧ S i ≤ i * 1048576) := Lib.hid (by rw [hS]; exact HBD.out)
  have HS0' : Hid (S 0 = 0) := Lib.hid (by rw [hS]; exact HS0.out)
  have HSN' : Hid (S D.length = R) := Lib.hid (by rw [hS]; exact HSN.out)
  clear h hr HS HBD HS0 HSN hS
  go_enter Try.func43, Try.ntmps43
  go_wp2
  go_loopw [3, 4] (fun s x wr => ∃ i : Nat, i ≤ D.length ∧ x = .int .i64 i ∧ s = .int .i64 (S i) ∧ Below w.heap.size w wr) (fun _ x _ => D.length - (intOf x).toNat)
  case atStart => exact ⟨0, by omega, rfl, by rw [HS0'.out], Below.refl _ _⟩
  case round =>
    obtain ⟨i, hi, rfl, rfl, hb⟩ := hrel
    have HB := Lib.hid hb
    by_cases hlt : i < D.length
    · have i1 : (i : Int) < (D.length : Int) := by omega
      have i2 : (0 : Int) ≤ (i : Int) := by omega
      obtain ⟨b1, o1, hb1, q1, x1⟩ := (HE.out.keep hb).one i hlt
      subst hb1
      have h1 := HBD'.out i hi
      have h2 := HRG.out i hlt
      have HN := Lib.hid (HS'.out i hlt)
      clear hb
      generalize iAt D i = z at *
      generalize S i = s at *
      go_wp2
      go_roundw
      case rel => exact ⟨i + 1, by omega, by go_num, by rw [HN.out], HB.out⟩
      case measure => simp [intOf]; omega
    · obtain rfl : i = D.length := by omega
      have i1 : ¬ (D.length : Int) < (D.length : Int) := by omega
      clear hb
      go_wp2
      go_ret
      exact ⟨by rw [HSN'.out]; rfl, HB.out⟩
end Go.Proofs.Ytgejkgeojjgclaa
