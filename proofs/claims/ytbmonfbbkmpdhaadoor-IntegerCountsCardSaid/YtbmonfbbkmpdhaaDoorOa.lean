/- Walks: the text of an int, and a text as an int. -/
import Derived.Test.YtbmonfbbkmpdhaaDoorShelf2
import Derived.Test.YtbmonfbbkmpdhaaDoorRc
import Derived.Test.YtbmonfbbkmpdhaaDoorTe
import Derived.Lib.SmallJoins
import Derived.Lib.AtoiAllCases
namespace Go.Proofs.YtbmonfbbkmpdhaaDoor
open Go.RowKit Go.Proofs.Num

theorem parse10 : ∀ (l : List UInt8) (acc : Nat), (∀ c ∈ l, isDig c = true) → acc * 10 ^ l.length + dv l < 18446744073709551616 → Lib.parseUint10 acc l = .ok (acc * 10 ^ l.length + dv l)
  | [], acc, _, _ => by simp [Lib.parseUint10, dv]
  | c :: r, acc, hd, h => by
    have hc := dig_bound (hd c (by simp))
    have e1 : dv (c :: r) = (c.toNat - 48) * 10 ^ r.length + dv r := by
      have := dv_append [c] r
      simpa [dv] using this
    have e2 : acc * 10 ^ (c :: r).length + dv (c :: r) = (acc * 10 + (c.toNat - 48)) * 10 ^ r.length + dv r := by
      rw [e1, List.length_cons, Nat.pow_succ, Nat.add_mul, Nat.mul_comm (10 ^ r.length) 10, Nat.mul_assoc]; omega
    rw [e2] at h ⊢
    have hp : 0 < 10 ^ r.length := Nat.pow_pos (by omega)
    have h3 : acc * 10 + (c.toNat - 48) ≤ (acc * 10 + (c.toNat - 48)) * 10 ^ r.length := Nat.le_mul_of_pos_right _ hp
    rw [Lib.parseUint10, if_pos hc, if_neg (by omega), if_neg (by omega)]
    exact parse10 r _ (fun x hx => hd x (by simp [hx])) h

theorem parseMag_dec (u : Nat) (hu : u < 18446744073709551616) : Lib.parseMag (Lib.decDigits u) = .ok u := by
  obtain ⟨h1, h2, h3, -⟩ := decDigits_facts u
  have h := parse10 (Lib.decDigits u) 0 h2 (by rw [h1]; omega)
  rw [h1] at h
  unfold Lib.parseMag
  rw [if_neg h3, h]
  congr 1; omega

theorem atoi_itoa (z : Int) (h0 : -9223372036854775808 ≤ z) (h1 : z ≤ 9223372036854775807) : Lib.atoiAll (Lib.itoa z) = .ok z := by
  unfold Lib.itoa
  by_cases hz : z < 0
  · rw [if_pos hz, Lib.atoiAll_minus, parseMag_dec _ (by omega)]
    show (if 9223372036854775808 < z.natAbs then _ else _) = _
    rw [if_neg (by omega)]
    congr 1; omega
  · rw [if_neg hz]
    obtain ⟨-, h2, h3, -⟩ := decDigits_facts z.toNat
    have hm := parseMag_dec z.toNat (by omega)
    generalize Lib.decDigits z.toNat = l at *
    cases l with
    | nil => exact absurd rfl h3
    | cons c r =>
      have hc := dig_bound (h2 c (by simp))
      rw [Lib.atoiAll_plain c r (by omega) (by omega), hm]
      show (if 9223372036854775808 ≤ z.toNat then _ else _) = _
      rw [if_neg (by omega)]
      congr 1; omega

theorem below_grow (w : World) (k : Nat) (os : Array Obj) : Below w.heap.size w (Go.Sort.grow (w.drewN k) os) :=
  ⟨rfl, rfl, rfl, by simp [Go.Sort.grow, World.drewN], fun k hk => by simp [Go.Sort.grow, World.drewN, Array.getElem?_append, hk]⟩

set_option maxRecDepth 100000 in
theorem of_ok (n : Int) (h0 : -9223372036854775808 ≤ n) (h1 : n ≤ 9223372036854775807) (w : World) (hT : Tab w) :
    Calls Tryd.prog 21 #[.int .i64 n] w fun e w' => e = .returned (.string (T n)) ∧ Below w.heap.size w w' := by
  have h : Calls Tryd.prog 56 #[.int .i64 n] w fun e w' => e = .returned (.string (T n)) ∧ Below w.heap.size w w' :=
    (Tryd.strconv_Itoa n h0 h1 w hT).mono fun e w' ⟨he, k, os, hw⟩ => ⟨he, by rw [hw]; exact below_grow w k os⟩
  have H := Lib.hid h
  clear h h0 h1 hT
  go_enter Tryd.func21, Tryd.ntmps21
  go_wp2_with fail
  refine (H.out).mono ?_
  rintro e w1 ⟨rfl, hb⟩
  go_wp2
  go_ret
  exact ⟨rfl, hb⟩

set_option maxRecDepth 100000 in
theorem small_int (s : ByteArray) (z : Int) (hz : s.data.toList = Lib.itoa z) (h0 : -9223372036854775808 ≤ z) (h1 : z ≤ 9223372036854775807) (hs : s.size ≤ 9223372036854775806) (hc : chk s.data.toList = 0) (w : World) :
    Calls Tryd.prog 15 #[.string s] w fun e w' => e = .returned (.tuple #[.int .i64 z, .int .i64 0]) ∧ Below w.heap.size w w' := by
  have c1 := check_any s w (by omega)
  rw [hc] at c1
  have c2 : Calls Tryd.prog 47 #[.string s] w fun e w' => e = .returned (.tuple #[.int .i64 z, .nilIface]) ∧ Below w.heap.size w w' :=
    (Tryd.strconv_Atoi_ok s hs z (by rw [hz]; exact atoi_itoa z h0 h1) w).mono fun e w' ⟨he, hw⟩ => ⟨he, by
      rcases hw with rfl | ⟨t, rfl⟩
      · exact Below.refl _ _
      · exact Joins.below_bytesWorld _ _ _ _ (Nat.le_refl _)⟩
  have H1 := Lib.hid c1
  have H2 := Lib.hid c2
  clear c1 c2 hc hs h0 h1 hz
  go_enter Tryd.func15, Tryd.ntmps15
  go_wp2_with fail
  refine (H1.out).mono ?_
  rintro e w1 ⟨rfl, rfl⟩
  go_wp2_with fail
  refine (H2.out).mono ?_
  rintro e w2 ⟨rfl, hb⟩
  go_wp2
  go_ret2
  exact ⟨rfl, hb⟩
end Go.Proofs.YtbmonfbbkmpdhaaDoor
