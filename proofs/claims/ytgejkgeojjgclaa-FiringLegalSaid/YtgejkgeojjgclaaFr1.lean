/- right of the reference. -/
import Derived.Test.YtgejkgeojjgclaaFq
namespace Go.Proofs.Ytgejkgeojjgclaa
open Go.RowKit Go.Proofs.Gr Go.Proofs.Cp
attribute [local go_sem] Oper.semAt_some

def rgV (Q : List Int) : List Int := if Q.any big = true then [] else Q
def rgK (Q : List Int) : Nat := if Q.any big = true then 11 else 0
set_option maxHeartbeats 12800000 in
set_option maxRecDepth 100000 in
theorem rright_any (a : Option Addr) (c : Nat) (Q : List Int) (hQ : Q.length ≤ 1000) (w : World) (h : IsAt w a Q) :
    Calls Try.prog 51 #[.slice a Q.length c] w (GivesIE w (rgV Q) (rgK Q)) := by
  have HE := Lib.hid h
  have HIN := Lib.hid (fun k u => rIn_any k u)
  have HNO : Hid (∀ i, i < Q.length → big (iAt Q i) = true → rgV Q = [] ∧ rgK Q = 11) := Lib.hid fun i hi hb => by
    have h1 : Q.any big = true := List.any_eq_true.2 ⟨_, List.getElem_mem hi, by rw [iAt_get Q i hi]; exact hb⟩
    unfold rgV rgK; rw [if_pos h1, if_pos h1]; exact ⟨rfl, rfl⟩
  have HYES : Hid ((∀ j, j < Q.length → big (iAt Q j) = false) → rgV Q = Q ∧ rgK Q = 0) := Lib.hid fun hz => by
    have h1 : Q.any big = false := by
      rw [List.any_eq_false]
      intro z hz'
      obtain ⟨j, hj, rfl⟩ := List.getElem_of_mem hz'
      rw [iAt_get Q j hj, hz j hj]; decide
    unfold rgV rgK; rw [h1]; exact ⟨rfl, rfl⟩
  unfold GivesIE
  generalize rgV Q = V at *
  generalize rgK Q = K at *
  clear h
  go_enter Try.func51, Try.ntmps51
  go_wp2
  go_loopw [4] (fun x wr => ∃ i : Nat, i ≤ Q.length ∧ x = .int .i64 i ∧ Hid (∀ j, j < i → big (iAt Q j) = false) ∧ Below w.heap.size w wr) (fun x _ => Q.length - (intOf x).toNat)
  case atStart => exact ⟨0, by omega, rfl, Lib.hid fun j hj => by omega, Below.refl _ _⟩
  case round =>
    obtain ⟨i, hi, rfl, hz, hb⟩ := hrel
    have HB := Lib.hid hb
    by_cases hlt : i < Q.length
    · have i1 : (i : Int) < (Q.length : Int) := by omega
      have i2 : (0 : Int) ≤ (i : Int) := by omega
      obtain ⟨b1, o1, hb1, q1, x1⟩ := (HE.out.keep hb).one i hlt
      subst hb1
      have HTI := Lib.hid (HNO.out i hlt)
      have HZN : Hid (big (iAt Q i) = false → Hid (∀ j, j < i + 1 → big (iAt Q j) = false)) := Lib.hid fun h0 => Lib.hid fun j hj => by
        by_cases e : j = i
        · subst e; exact h0
        · exact hz.out j (by omega)
      have HLT := Lib.hid hlt
      have HLI := Lib.hid (HIN.out (iAt Q i))
      generalize big (iAt Q i) = d at *
      generalize iAt Q i = v at *
      clear hz hb hlt
      go_wp2_with fail
      refine (HLI.out wr).mono ?_
      rintro e w1 ⟨rfl, rfl⟩
      cases d with
      | true =>
        have HR := Lib.hid (HTI.out rfl)
        go_wp2
        go_ret2
        exact ⟨none, 0, by rw [HR.out.1, HR.out.2]; rfl, by rw [HR.out.1]; exact RowAt.nil _ _ _ _, HB.out⟩
      | false =>
        have HR := Lib.hid (HZN.out rfl)
        go_wp2
        go_roundw
        case rel => exact ⟨i + 1, by have := HLT.out; omega, by go_num, HR.out, HB.out⟩
        case measure => have := HLT.out; simp [intOf]; omega
    · obtain rfl : i = Q.length := by omega
      have i1 : ¬ (Q.length : Int) < (Q.length : Int) := by omega
      have HR := Lib.hid (HYES.out hz.out)
      clear hz hb
      go_wp2
      go_ret2
      first | exact ⟨a, ⟨c, by rw [HR.out.1, HR.out.2]; rfl⟩, by rw [HR.out.1]; exact HE.out.keep HB.out, HB.out⟩ | exact ⟨a, c, by rw [HR.out.1, HR.out.2]; rfl, by rw [HR.out.1]; exact HE.out.keep HB.out, HB.out⟩
end Go.Proofs.Ytgejkgeojjgclaa
