/- Walks: the text of an int, and a text as an int. -/
import Derived.Test.YtolkiimlchfmlaaGreatDoorQ00
import Derived.Test.YtolkiimlchfmlaaGreatDoorQ22
import Derived.Test.YtolkiimlchfmlaaGreatDoorQ17
import Derived.Lib.SmallJoins
import Derived.Lib.AtoiAllCases
namespace Go.Proofs.YtolkiimlchfmlaaGreatDoor
open Go.RowKit Go.Proofs.Num

theorem parse10 : ∀ (l : List UInt8) (acc : Nat), (∀ c ∈ l, isDig c = true) → acc * 10 ^ l.length + dv l < 18446744073709551616 → Lib.parseUint10 acc l = .ok (acc * 10 ^ l.length + dv l)
  | [], acc, _, _ => by simp [Lib.parseUint10, dv]
  | c :: r, acc, hd, h => by
    have hc := dig_bound (hd c (by simp))
    have e1 : dv (c :: r) = (c.toNat - 48) * 10 ^ r.length + dv r := by
      have := dv_append [c] r
      simpa [dv] using this
    have e2 : acc * 10 ^ (c :: r).length + dv (c :: r) = (acc * 10 + (c.toNat - 48)) * 10 ^ r.length + dv r := by
      rw [e1, List.length_cons, Nat.pow_succ, Nat.add_mul, Nat.mul_comm (10 ^ r.length) 10, Nat.mul_assoc]; omega
    rw [e2] at h ⊢
    have hp : 0 < 10 ^ r.length := Nat.pow_pos (by omega)
    have h3 : acc * 10 + (c.toNat - 48) ≤ (acc * 10 + (c.toNat - 48)) * 10 ^ r.length := Nat.le_mul_of_pos_right _ hp
    rw [Lib.parseUint10, if_pos hc, if_neg (by omega), if_neg (by omega)]
    exact parse10 r _ (fun x hx => hd x (by simp [hx])) h

theorem parseMag_dec (u : Nat) (hu : u < 18446744073709551616) : Lib.parseMag (Lib.decDigits u) = .ok u := by
  obtain ⟨h1, h2, h3, -⟩ := decDigits_facts u
  have h := parse10 (Lib.decDigits u) 0 h2 (by rw [h1]; omega)
  rw [h1] at h
  unfold Lib.parseMag
  rw [if_neg h3, h]
  congr 1; omega

theorem atoi_itoa (z : Int) (h0 : -9223372036854775808 ≤ z) (h1 : z ≤ 9223372036854775807) : Lib.atoiAll (Lib.itoa z) = .ok z := by
  unfold Lib.itoa
  by_cases hz : z < 0
  · rw [if_pos hz, Lib.atoiAll_minus, parseMag_dec _ (by omega)]
    show (if 9223372036854775808 < z.natAbs then _ else _) = _
    rw [if_neg (by omega)]
    congr 1; omega
  · rw [if_neg hz]
    obtain ⟨-, h2, h3, -⟩ := decDigits_facts z.toNat
    have hm := parseMag_dec z.toNat (by omega)
    generalize Lib.decDigits z.toNat = l at *
    cases l with
    | nil => exact absurd rfl h3
    | cons c r =>
      have hc := dig_bound (h2 c (by simp))
      rw [Lib.atoiAll_plain c r (by omega) (by omega), hm]
      show (if 9223372036854775808 ≤ z.toNat then _ else _) = _
      rw [if_neg (by omega)]
      congr 1; omega

theorem below_grow (w : World) (k : Nat) (os : Array Obj) : Below w.heap.size w (Go.Sort.grow (w.drewN k) os) :=
  ⟨rfl, rfl, rfl, by simp [Go.Sort.grow, World.drewN], fun k hk => by simp [Go.Sort.grow, World.drewN, Array.getElem?_append, hk]⟩

set_option maxRecDepth 100000 in
theorem of_ok (n : Int) (h0 : -9223372036854775808 ≤ n) (h1 : n ≤ 9223372036854775807) (w : World) (hT : Tab w) :
    Calls Tryz.prog 46 #[.int .i64 n] w fun e w' => e = .returned (.string (T n)) ∧ Below w.heap.size w w' := by
  have h : Calls Tryz.prog 90 #[.int .i64 n] w fun e w' => e = .returned (.string (T n)) ∧ Below w.heap.size w w' :=
    (Tryz.strconv_Itoa n h0 h1 w hT).mono fun e w' ⟨he, k, os, hw⟩ => ⟨he, by rw [hw]; exact below_grow w k os⟩
  have H := Lib.hid h
  clear h h0 h1 hT
  go_enter Tryz.func46, Tryz.ntmps46
  go_wp2_with fail
  refine (H.out).mono ?_
  rintro e w1 ⟨rfl, hb⟩
  go_wp2
  go_ret
  exact ⟨rfl, hb⟩

end Go.Proofs.YtolkiimlchfmlaaGreatDoor
