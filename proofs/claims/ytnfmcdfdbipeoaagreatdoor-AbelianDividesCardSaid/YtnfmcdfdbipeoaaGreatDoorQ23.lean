/- Walks of the reference: the text of digits; and: Walks of the reference: the opposite, the absolute value, the sum, the difference; and: Walks of the reference: the sum and the difference of texts; and: Walks of the reference: the order, the bound, the first error, Compare, Add, Sub. And: Walks of the reference: the product of digits, of canonical texts; Mul. And: Walks of the reference: a text as an int; and: Walks of the reference: a text as an int, in range. And: Walks of the reference: texts that are short, or out of form and not too long. -/
import Derived.Test.YtnfmcdfdbipeoaaGreatDoorQ22
import Derived.Laws.IdiomStrings
import Derived.Test.YtnfmcdfdbipeoaaGreatDoorQ18
import Derived.Test.YtnfmcdfdbipeoaaGreatDoorQ08
namespace Go.Proofs.YtnfmcdfdbipeoaaGreatDoor
open Go.RowKit Go.Proofs.Num

/-- Digits as bytes, the first one first. -/
def tb (l : List Nat) : List UInt8 := (l.map (fun x => UInt8.ofNat (48 + x))).reverse

theorem tb_nil : tb [] = [] := rfl
theorem tb_snoc (l : List Nat) (x : Nat) : tb (l ++ [x]) = UInt8.ofNat (48 + x) :: tb l := by simp [tb]
theorem tb_len (l : List Nat) : (tb l).length = l.length := by simp [tb]

theorem tb_dig : ∀ (N n : Nat), n ≤ N → 0 < n → tb (dig 10 n) = Lib.decDigits n
  | 0, n, h1, h2 => by omega
  | N + 1, n, h1, h2 => by
    rw [dig_pos (by omega) (by omega)]
    have e : tb (n % 10 :: dig 10 (n / 10)) = tb (dig 10 (n / 10)) ++ [UInt8.ofNat (48 + n % 10)] := by simp [tb]
    rw [e]
    rw [Lib.decDigits]
    by_cases h10 : n < 10
    · rw [dif_pos h10, show n / 10 = 0 by omega, dig_zero, tb_nil, Nat.mod_eq_of_lt h10]; rfl
    · rw [dif_neg h10, tb_dig N (n / 10) (by omega) (by omega)]

/-- A text of bytes. -/
def Sb (l : List UInt8) : ByteArray := ⟨l.toArray⟩
theorem Sb_append (a b : List UInt8) : Sb a ++ Sb b = Sb (a ++ b) := by
  unfold Sb
  apply ByteArray.ext
  simp
theorem Sb_size (l : List UInt8) : (Sb l).size = l.length := rfl
theorem Sb_T (z : Int) : Sb (Lib.itoa z) = T z := rfl

theorem text_zero' (a : Option Addr) (cap : Nat) (neg : Bool) (w : World) : Calls Tryz.prog 70 #[.slice a 0 cap, .bool neg] w fun e w' => e = .returned (.string (T 0)) ∧ w = w' := by
  have H : Hid (T 0 = ⟨#[48]⟩) := by
    unfold Hid T Lib.itoa
    rw [if_neg (by omega), Lib.decDigits]; rfl
  go_enter Tryz.func70, Tryz.ntmps70
  go_wp2
  go_ret
  exact ⟨by rw [H.out]; rfl, rfl⟩

set_option maxHeartbeats 1600000 in
set_option maxRecDepth 100000 in
theorem text_pos (a : Option Addr) (cap : Nat) (n : Nat) (neg : Bool) (w : World) (h : At .i64 w a (dig 10 n)) (hn : 0 < n) (hsm : (dig 10 n).length ≤ 4294967295) :
    Calls Tryz.prog 70 #[.slice a (dig 10 n).length cap, .bool neg] w fun e w' => e = .returned (.string (T (if neg then -(n : Int) else n))) ∧ Below w.heap.size w w' := by
  have hne : (dig 10 n).length ≠ 0 := by
    intro h0
    have := (dig_eq_nil (b := 10) (by omega) n).1 (List.length_eq_zero_iff.1 h0)
    omega
  have hlt := dig10_lt n
  have hN : T (n : Int) = Sb (tb (dig 10 n)) := by
    rw [tb_dig n n (Nat.le_refl _) hn]; unfold T Lib.itoa; rw [if_neg (by omega)]; rfl
  have hM : T (-(n : Int)) = Sb ([45] ++ tb (dig 10 n)) := by
    rw [tb_dig n n (Nat.le_refl _) hn]; unfold T Lib.itoa; rw [if_pos (by omega)]; simp [Sb]
  have HN := Lib.hid hN
  have HM := Lib.hid hM
  have HX := Lib.hid (fun k => nth_lt (b := 10) (by omega) (dig 10 n) hlt k)
  have H := Lib.hid h
  clear h hN hM hlt hn
  generalize dig 10 n = l at *
  have hne1 : ((l.length : Int) == 0) = false := beq_eq_false_iff_ne.2 (by omega)
  have hne2 : ¬ l = [] := by intro h; rw [h] at hne; exact hne rfl
  go_enter Tryz.func70, Tryz.ntmps70
  go_wp2
  go_loopw [5, 6] (fun s i wr => ∃ k : Nat, k ≤ l.length ∧ i = .int .i64 k ∧ s = .string (Sb (tb (l.take k))) ∧ Below w.heap.size w wr)
    (fun _ i _ => l.length - (intOf i).toNat)
  case atStart => exact ⟨0, Nat.zero_le _, rfl, rfl, Below.refl _ _⟩
  case round =>
    obtain ⟨k, hk, rfl, rfl, hB⟩ := hrel
    by_cases hlt : k < l.length
    · obtain ⟨b1, o1, rfl, hb1, hcell1⟩ := H.out k hlt
      have hcr : wr.cell? ⟨b1, o1 + k, none⟩ = some (.int .i64 ((nth l k : Nat) : Int)) := (hB.cell (p := ⟨b1, o1 + k, none⟩) hb1).trans hcell1
      clear hcell1
      have hx := HX.out k
      have HS : Hid (Sb (tb (l.take (k + 1))) = Sb [UInt8.ofNat (48 + nth l k)] ++ Sb (tb (l.take k))) := by
        unfold Hid; rw [Sb_append, take_succ_nth l k hlt, tb_snoc]; rfl
      have hsz1 : (Sb (tb (l.take k))).size = k := by rw [Sb_size, tb_len, List.length_take]; omega
      have hsz2 : (Sb [UInt8.ofNat (48 + nth l k)]).size = 1 := rfl
      generalize nth l k = x at *
      have hcv := run_convert_bytes_back (P := Tryz.prog) (wr.alloc (.cells #[.int .u8 (48 + (x : Int))] 5)) 119 9 5 ⟨wr.heap.size, 0, none⟩ 1 [UInt8.ofNat (48 + x)] Tryz.underlying119 Tryz.underlying5 Tryz.underlying9 (by
        intro j hj
        obtain rfl : j = 0 := by simp at hj; exact hj
        have h1 : (UInt8.ofNat (48 + x)).toNat = 48 + x := toNat_ofNat_dig hx
        simp only [List.getElem_cons_zero, h1]
        rw [show ((48 + x : Nat) : Int) = 48 + (x : Int) by omega]
        exact cell_one_new _ _ _ 0 _ rfl)
      change (convert 119 9 (.slice (some ⟨wr.heap.size, 0, none⟩) 1 1)).run Tryz.prog (wr.alloc (.cells #[.int .u8 (48 + (x : Int))] 5)) = .ok (.string (Sb [UInt8.ofNat (48 + x)])) _ at hcv
      generalize Sb [UInt8.ofNat (48 + x)] = X at *
      generalize Sb (tb (l.take k)) = Y at *
      go_wp2
      go_roundw
      case rel => exact ⟨k + 1, by omega, by go_num, by rw [HS.out], hB.alloc hB.size _⟩
      case measure => simp [intOf]; omega
    · obtain rfl : k = l.length := by omega
      rw [List.take_length]
      cases neg
      · clear hne2
        go_wp2
        go_ret
        exact ⟨by show _ = Ending.returned (.string (T (n : Int))); rw [HN.out]; rfl, hB⟩
      · have HS : Hid (Sb ([45] ++ tb l) = Sb [45] ++ Sb (tb l)) := (Sb_append _ _).symm
        have hsz1 : (Sb (tb l)).size = l.length := by rw [Sb_size, tb_len]
        go_wp2
        go_ret
        exact ⟨by show _ = Ending.returned (.string (T (-(n : Int)))); rw [HM.out, HS.out]; rfl, hB⟩

/-- text -/
theorem rtext_any (v : Value) (n : Nat) (neg : Bool) (w : World) (h : Dg w v n) (hsm : (dig 10 n).length ≤ 4294967295) :
    Calls Tryz.prog 70 #[v, .bool neg] w fun e w' => e = .returned (.string (T (if neg then -(n : Int) else n))) ∧ Below w.heap.size w w' := by
  obtain ⟨a, c, rfl, g⟩ := Rd.at h
  by_cases hn : n = 0
  · subst hn
    rw [dig_zero]
    refine (text_zero' a c neg w).mono ?_
    rintro e w' ⟨rfl, rfl⟩
    exact ⟨by cases neg <;> rfl, Below.refl _ _⟩
  · exact text_pos a c n neg w g (by omega) hsm
end Go.Proofs.YtnfmcdfdbipeoaaGreatDoor

namespace Go.Proofs.YtnfmcdfdbipeoaaGreatDoor
open Go.RowKit Go.Proofs.Num

theorem T_size {d : Nat} {z : Int} (h : Few d z) (h1 : 1 ≤ d) : (T z).size ≤ d + 1 := by
  have h2 := body_ge (T z).data.toList
  rw [T_data] at h2
  rw [itoa_body, Lib.decDigits_length, ← T_data, size_toList] at h2
  have := nD_le d z.natAbs h1 h
  omega
theorem few_len {d : Nat} {z : Int} (h : Few d z) : (dig 10 z.natAbs).length ≤ d := dig_length_le (by omega) d _ h
theorem digits_T {d : Nat} {z : Int} (h : Few d z) (h1 : 1 ≤ d) (hd : d ≤ 100000) (w : World) : Calls Tryz.prog 101 #[.string (T z)] w (GivesDg w z.natAbs) :=
  digits_any z (by have := T_size h h1; omega) w

/-- Hands back a text. -/
def OutR (w : World) (S : ByteArray) (e : Ending) (w' : World) : Prop := e = .returned (.string S) ∧ Below w.heap.size w w'

theorem text_R (v : Value) (n : Nat) (neg : Bool) (z : Int) (w : World) (h : Dg w v n) (hsm : (dig 10 n).length ≤ 4294967295) (hz : (if neg then -(n : Int) else n) = z) :
    Calls Tryz.prog 70 #[v, .bool neg] w (OutR w (T z)) := by
  have := rtext_any v n neg w h hsm
  rw [hz] at this
  exact this

set_option maxRecDepth 100000 in
theorem positive_any {d : Nat} (z : Int) (h : Few d z) (h1 : 1 ≤ d) (hd : d ≤ 100000) (w : World) : Calls Tryz.prog 126 #[.string (T z)] w (OutR w (T (z.natAbs : Nat))) := by
  have HD := Lib.hid (digits_T h h1 hd)
  have HL := Lib.hid (few_len h)
  generalize T z = X at *
  clear h
  go_enter Tryz.func126, Tryz.ntmps126
  go_wp2_with fail
  refine (HD.out _).mono ?_
  rintro e w1 ⟨v, rfl, hv, hb1⟩
  obtain ⟨a', k', c', rfl⟩ := hv.shape
  go_wp2_with fail
  refine (text_R _ _ false _ _ hv (by have := HL.out; omega) rfl).mono ?_
  rintro e w2 ⟨rfl, hb2⟩
  go_wp2
  go_ret
  exact ⟨rfl, hb1.trans (hb2.mono hb1.size)⟩

set_option maxRecDepth 100000 in
theorem turned_any {d : Nat} (z : Int) (h : Few d z) (h1 : 1 ≤ d) (hd : d ≤ 100000) (w : World) : Calls Tryz.prog 108 #[.string (T z)] w (OutR w (T (-z))) := by
  have HD := Lib.hid (digits_T h h1 hd)
  have HL := Lib.hid (few_len h)
  have HM := Lib.hid (minus_any z)
  have HZ : Hid ((if (!decide (z < 0)) = true then -((z.natAbs : Nat) : Int) else ((z.natAbs : Nat) : Int)) = -z) := by
    unfold Hid
    by_cases hz : z < 0
    · simp [hz]; omega
    · simp [hz]; omega
  generalize hS : T (-z) = S
  generalize T z = X at *
  generalize decide (z < 0) = p at *
  clear h
  subst hS
  go_enter Tryz.func108, Tryz.ntmps108
  go_wp2_with fail
  refine (HD.out _).mono ?_
  rintro e w1 ⟨v, rfl, hv, hb1⟩
  obtain ⟨a', k', c', rfl⟩ := hv.shape
  go_wp2_with fail
  refine (HM.out _).mono ?_
  rintro e w1' ⟨rfl, rfl⟩
  go_wp2_with fail
  refine (text_R _ _ (!p) _ _ hv (by have := HL.out; omega) HZ.out).mono ?_
  rintro e w2 ⟨rfl, hb2⟩
  go_wp2
  go_ret
  exact ⟨rfl, hb1.trans (hb2.mono hb1.size)⟩

theorem few_sum {a b : Int} {d : Nat} (ha : Few d a) (hb : Few d b) {n : Nat} (hn : n ≤ a.natAbs + b.natAbs) : (dig 10 n).length ≤ d + 1 := by
  refine dig_length_le (by omega) (d + 1) n ?_
  unfold Few at ha hb
  rw [Nat.pow_succ]; omega

theorem plus_case (a b : Int) : (decide (a < 0) = decide (b < 0) ∧ (if decide (a < 0) = true then -((a.natAbs + b.natAbs : Nat) : Int) else ((a.natAbs + b.natAbs : Nat) : Int)) = a + b) ∨
      (decide (a < 0) = (!decide (b < 0)) ∧ cmpN a.natAbs b.natAbs = -1 ∧ a.natAbs ≤ b.natAbs ∧ (if decide (b < 0) = true then -((b.natAbs - a.natAbs : Nat) : Int) else ((b.natAbs - a.natAbs : Nat) : Int)) = a + b) ∨
      (decide (a < 0) = (!decide (b < 0)) ∧ 0 ≤ cmpN a.natAbs b.natAbs ∧ b.natAbs ≤ a.natAbs ∧ (if decide (a < 0) = true then -((a.natAbs - b.natAbs : Nat) : Int) else ((a.natAbs - b.natAbs : Nat) : Int)) = a + b) := by
  unfold cmpN
  by_cases k1 : a < 0 <;> by_cases k2 : b < 0 <;> by_cases k3 : a.natAbs < b.natAbs <;> simp [k1, k2, k3] <;> (try split) <;> omega
end Go.Proofs.YtnfmcdfdbipeoaaGreatDoor

namespace Go.Proofs.YtnfmcdfdbipeoaaGreatDoor
open Go.RowKit Go.Proofs.Num

set_option maxHeartbeats 3200000 in
set_option maxRecDepth 100000 in
theorem rplus_any {d : Nat} (a b : Int) (ha : Few d a) (hb : Few d b) (h1 : 1 ≤ d) (hd : d ≤ 100000) (w : World) : Calls Tryz.prog 53 #[.string (T a), .string (T b)] w (OutR w (T (a + b))) := by
  have HD1 := Lib.hid (digits_T ha h1 hd)
  have HD2 := Lib.hid (digits_T hb h1 hd)
  have HL1 := Lib.hid (few_len ha)
  have HL2 := Lib.hid (few_len hb)
  have hm1 := minus_any a
  have hm2 := minus_any b
  have HS := Lib.hid (fun (n : Nat) (hn : n ≤ a.natAbs + b.natAbs) => few_sum ha hb hn)
  have hcase := plus_case a b
  generalize hS : T (a + b) = S
  generalize hZ : a + b = z at *
  generalize T a = X at *
  generalize T b = Y at *
  generalize decide (a < 0) = p at *
  generalize decide (b < 0) = q at *
  generalize a.natAbs = m at *
  generalize b.natAbs = n at *
  clear ha hb hZ
  subst hS
  have HM1 := Lib.hid hm1
  have HM2 := Lib.hid hm2
  have HC := Lib.hid hcase
  clear hm1 hm2 hcase
  go_enter Tryz.func53, Tryz.ntmps53
  go_wp2_with fail
  refine (HD1.out _).mono ?_
  rintro e w1 ⟨v1, rfl, hv1, hb1⟩
  obtain ⟨a1, k1, c1, rfl⟩ := hv1.shape
  go_wp2_with fail
  refine (HD2.out _).mono ?_
  rintro e w2 ⟨v2, rfl, hv2, hb2⟩
  obtain ⟨a2, k2, c2, rfl⟩ := hv2.shape
  have hv1' := hv1.keep hb2
  have hB2 : Below w.heap.size w w2 := hb1.trans (hb2.mono hb1.size)
  have HV1 := Lib.hid hv1'
  have HV2 := Lib.hid hv2
  clear hv1 hv1' hv2 hb1 hb2
  go_wp2_with fail
  refine (HM1.out _).mono ?_
  rintro e w1' ⟨rfl, rfl⟩
  go_wp2_with fail
  refine (HM2.out _).mono ?_
  rintro e w1' ⟨rfl, rfl⟩
  rcases HC.out with ⟨hp, hz⟩ | ⟨hp, hc, hle, hz⟩ | ⟨hp, hc, hle, hz⟩
  · subst hp
    have HZ := Lib.hid hz
    clear HC hz
    have hpp : (p == p) = true := by simp
    go_wp2_with fail
    refine (radded_any _ _ _ _ _ HV1.out HV2.out (by have := HL1.out; omega) (by have := HL2.out; omega)).mono ?_
    rintro e w3 ⟨v3, rfl, hv3, hb3⟩
    obtain ⟨a3, k3, c3, rfl⟩ := hv3.shape
    go_wp2_with fail
    refine (HM1.out _).mono ?_
    rintro e w1' ⟨rfl, rfl⟩
    go_wp2_with fail
    refine (text_R _ _ p _ _ hv3 (by have := HS.out (m + n) (by omega); omega) HZ.out).mono ?_
    rintro e w4 ⟨rfl, hb4⟩
    go_wp2
    go_ret
    exact ⟨rfl, (hB2.trans (hb3.mono hB2.size)).trans (hb4.mono (Nat.le_trans hB2.size hb3.size))⟩
  · subst hp
    have HZ := Lib.hid hz
    have HCC := Lib.hid hc
    clear HC hz hc
    have hpp : ((!q) == q) = false := by simp
    go_wp2_with fail
    refine (rorder_any _ _ _ _ _ HV1.out HV2.out (by have := HL1.out; omega) (by have := HL2.out; omega)).mono ?_
    rintro e w3 ⟨he, nn, rfl⟩
    rw [HCC.out] at he
    subst he
    have HV1q := Lib.hid (HV1.out.keep (w' := w2.drewN nn) ⟨rfl, rfl, rfl, Nat.le_refl _, fun _ _ => rfl⟩)
    have HV2q := Lib.hid (HV2.out.keep (w' := w2.drewN nn) ⟨rfl, rfl, rfl, Nat.le_refl _, fun _ _ => rfl⟩)
    have hBq : Below w.heap.size w (w2.drewN nn) := hB2.trans ⟨rfl, rfl, rfl, Nat.le_refl _, fun _ _ => rfl⟩
    go_wp2_with fail
    refine (rtaken_any _ _ _ _ _ HV2q.out HV1q.out (by have := HL2.out; omega) hle).mono ?_
    rintro e w3 ⟨v3, rfl, hv3, hb3⟩
    obtain ⟨a3, k3, c3, rfl⟩ := hv3.shape
    go_wp2_with fail
    refine (HM2.out _).mono ?_
    rintro e w1' ⟨rfl, rfl⟩
    go_wp2_with fail
    refine (text_R _ _ q _ _ hv3 (by have := HS.out (n - m) (by omega); omega) HZ.out).mono ?_
    rintro e w4 ⟨rfl, hb4⟩
    go_wp2
    go_ret
    exact ⟨rfl, (hBq.trans (hb3.mono hBq.size)).trans (hb4.mono (Nat.le_trans hBq.size hb3.size))⟩
  · obtain ⟨cc, hcc⟩ : ∃ cc, cc = cmpN m n := ⟨_, rfl⟩
    rw [← hcc] at hc
    have HCC := Lib.hid hcc
    have HZ := Lib.hid hz
    clear HC hz hcc
    have hpp : (p == q) = false := by subst hp; simp
    clear hp
    have hge : ¬ cc < 0 := by omega
    go_wp2_with fail
    refine (rorder_any _ _ _ _ _ HV1.out HV2.out (by have := HL1.out; omega) (by have := HL2.out; omega)).mono ?_
    rintro e w3 ⟨he, nn, rfl⟩
    rw [← HCC.out] at he
    subst he
    have HV1q := Lib.hid (HV1.out.keep (w' := w2.drewN nn) ⟨rfl, rfl, rfl, Nat.le_refl _, fun _ _ => rfl⟩)
    have HV2q := Lib.hid (HV2.out.keep (w' := w2.drewN nn) ⟨rfl, rfl, rfl, Nat.le_refl _, fun _ _ => rfl⟩)
    have hBq : Below w.heap.size w (w2.drewN nn) := hB2.trans ⟨rfl, rfl, rfl, Nat.le_refl _, fun _ _ => rfl⟩
    go_wp2_with fail
    refine (rtaken_any _ _ _ _ _ HV1q.out HV2q.out (by have := HL1.out; omega) hle).mono ?_
    rintro e w3 ⟨v3, rfl, hv3, hb3⟩
    obtain ⟨a3, k3, c3, rfl⟩ := hv3.shape
    go_wp2_with fail
    refine (HM1.out _).mono ?_
    rintro e w1' ⟨rfl, rfl⟩
    go_wp2_with fail
    refine (text_R _ _ p _ _ hv3 (by have := HS.out (m - n) (by omega); omega) HZ.out).mono ?_
    rintro e w4 ⟨rfl, hb4⟩
    go_wp2
    go_ret
    exact ⟨rfl, (hBq.trans (hb3.mono hBq.size)).trans (hb4.mono (Nat.le_trans hBq.size hb3.size))⟩

set_option maxRecDepth 100000 in
theorem rless_any {d : Nat} (a b : Int) (ha : Few d a) (hb : Few d b) (h1 : 1 ≤ d) (hd : d ≤ 100000) (w : World) : Calls Tryz.prog 68 #[.string (T a), .string (T b)] w (OutR w (T (a - b))) := by
  have HT := Lib.hid (turned_any b hb h1 hd)
  have HP := Lib.hid (rplus_any a (-b) ha hb.neg h1 hd)
  rw [show a - b = a + -b by omega]
  generalize T (a + -b) = S at *
  generalize T (-b) = Z at *
  generalize T a = X at *
  generalize T b = Y at *
  clear ha hb
  go_enter Tryz.func68, Tryz.ntmps68
  go_wp2_with fail
  refine (HT.out _).mono ?_
  rintro e w1 ⟨rfl, hb1⟩
  go_wp2_with fail
  refine (HP.out _).mono ?_
  rintro e w2 ⟨rfl, hb2⟩
  go_wp2
  go_ret
  exact ⟨rfl, hb1.trans (hb2.mono hb1.size)⟩
end Go.Proofs.YtnfmcdfdbipeoaaGreatDoor

namespace Go.Proofs.YtnfmcdfdbipeoaaGreatDoor
open Go.RowKit Go.Proofs.Num

theorem T_naught : T 0 = ⟨#[48]⟩ := by
  unfold T Lib.itoa
  rw [if_neg (by omega), Lib.decDigits]; rfl

theorem canon (s : ByteArray) (h : chk s.data.toList = 0) : ∃ z d, s = T z ∧ z = parse s.data.toList ∧ 1 ≤ d ∧ d = 1024 ∧ Few d z := by
  refine ⟨parse s.data.toList, 1024, of_chk s h, rfl, by omega, rfl, ?_⟩
  have h2 := (chk_cases _ h).2
  generalize (parse s.data.toList) = z at *
  generalize (1024 : Nat) = d at *
  unfold Few
  by_cases h0 : z.natAbs = 0
  · rw [h0]; exact Nat.pow_pos (by omega)
  · rw [nDigits_dig h0] at h2
    exact Nat.lt_of_lt_of_le (lt_pow_dig (b := 10) (by omega) _) (Nat.pow_le_pow_right (by omega) h2)

set_option maxRecDepth 100000 in
theorem rorderT {d : Nat} (a b : Int) (ha : Few d a) (hb : Few d b) (h1 : 1 ≤ d) (hd : d ≤ 90000) (w : World) :
    Calls Tryz.prog 26 #[.string (T a), .string (T b)] w fun e w' => e = .returned (.int .i64 (cmpZ a b)) ∧ Below w.heap.size w w' := by
  have HLs := Lib.hid (rless_any a b ha hb h1 (by omega))
  have HM := Lib.hid (minus_any (a - b))
  have heq := eq_T (a - b) 0
  rw [T_naught, Lib.toList_data ⟨#[48]⟩] at heq
  change (_ == [48]) = _ at heq
  have hc : (a - b < 0 ∧ cmpZ a b = -1) ∨ (a - b = 0 ∧ cmpZ a b = 0) ∨ (0 < a - b ∧ cmpZ a b = 1) := by
    rcases cmp_ways a b with ⟨h, -, g⟩ | ⟨h, -, g⟩ | ⟨h, -, g⟩
    · exact .inl ⟨by omega, h⟩
    · exact .inr (.inl ⟨by omega, h⟩)
    · exact .inr (.inr ⟨by omega, h⟩)
  generalize a - b = z at *
  generalize cmpZ a b = c at *
  generalize T a = X at *
  generalize T b = Y at *
  generalize T z = Z at *
  clear ha hb
  rcases hc with ⟨hz, hc⟩ | ⟨hz, hc⟩ | ⟨hz, hc⟩
  · subst hc
    rw [decide_eq_false (by omega)] at heq
    rw [decide_eq_true hz] at HM
    clear hz
    go_enter Tryz.func26, Tryz.ntmps26
    go_wp2_with fail
    refine (HLs.out _).mono ?_
    rintro e w1 ⟨rfl, hb1⟩
    go_wp2_with fail
    refine (HM.out _).mono ?_
    rintro e w1' ⟨rfl, rfl⟩
    go_wp2
    go_ret
    exact ⟨rfl, hb1⟩
  · subst hc
    rw [decide_eq_true hz] at heq
    clear hz HM
    go_enter Tryz.func26, Tryz.ntmps26
    go_wp2_with fail
    refine (HLs.out _).mono ?_
    rintro e w1 ⟨rfl, hb1⟩
    go_wp2
    go_ret
    exact ⟨rfl, hb1⟩
  · subst hc
    rw [decide_eq_false (by omega)] at heq
    rw [decide_eq_false (by omega)] at HM
    clear hz
    go_enter Tryz.func26, Tryz.ntmps26
    go_wp2_with fail
    refine (HLs.out _).mono ?_
    rintro e w1 ⟨rfl, hb1⟩
    go_wp2_with fail
    refine (HM.out _).mono ?_
    rintro e w1' ⟨rfl, rfl⟩
    go_wp2
    go_ret
    exact ⟨rfl, hb1⟩

set_option maxRecDepth 100000 in
theorem rbounded {d : Nat} (z : Int) (h : Few d z) (h1 : 1 ≤ d) (hd : d ≤ 100000) (w : World) :
    Calls Tryz.prog 64 #[.string (T z)] w (TextOut w (tx z) (te z)) := by
  have HD := Lib.hid (digits_T h h1 hd)
  have hl : (dig 10 z.natAbs).length ≤ 100000 := by have := few_len h; omega
  have hc : ((dig 10 z.natAbs).length ≤ 1024 ∧ str (tx z) = .string (T z) ∧ te z = 0) ∨ (1024 < (dig 10 z.natAbs).length ∧ tx z = [] ∧ te z = 11) := by
    have hd : z.natAbs ≠ 0 → Lib.nDigits z.natAbs = (dig 10 z.natAbs).length := nDigits_dig
    unfold tx te
    by_cases h0 : z.natAbs = 0
    · rw [h0, dig_zero, Lib.nDigits_small (by omega)]
      exact .inl ⟨by simp, rfl, rfl⟩
    · rw [hd h0]
      by_cases h2 : 1024 < (dig 10 z.natAbs).length
      · rw [if_pos h2, if_pos h2]; exact .inr ⟨h2, rfl, rfl⟩
      · rw [if_neg h2, if_neg h2]; exact .inl ⟨by omega, rfl, rfl⟩
  unfold TextOut
  generalize hS : str (tx z) = S at *
  generalize te z = c at *
  generalize tx z = t at *
  generalize T z = X at *
  clear h
  obtain ⟨n, hn⟩ : ∃ n, n = z.natAbs := ⟨_, rfl⟩
  rw [← hn] at HD hl hc
  clear hn
  rcases hc with ⟨h2, h3, h4⟩ | ⟨h2, h3, h4⟩
  · subst h4 h3
    clear hS
    go_enter Tryz.func64, Tryz.ntmps64
    go_wp2_with fail
    refine (HD.out _).mono ?_
    rintro e w1 ⟨v, rfl, hv, hb1⟩
    obtain ⟨a', c', rfl⟩ := Rd.shape hv
    clear hv
    go_wp2
    go_ret2
    exact ⟨rfl, hb1⟩
  · subst h4 h3 hS
    go_enter Tryz.func64, Tryz.ntmps64
    go_wp2_with fail
    refine (HD.out _).mono ?_
    rintro e w1 ⟨v, rfl, hv, hb1⟩
    obtain ⟨a', c', rfl⟩ := Rd.shape hv
    clear hv
    go_wp2
    go_ret2
    exact ⟨rfl, hb1⟩

/-- The order of two texts, or the first error. -/
def cmpR (l m : List UInt8) : Int × Nat := if chk2 l m ≠ 0 then (0, chk2 l m) else (cmpZ (parse l) (parse m), 0)

end Go.Proofs.YtnfmcdfdbipeoaaGreatDoor

namespace Go.Proofs.YtnfmcdfdbipeoaaGreatDoor
open Go.RowKit Go.Proofs.Num

/-- The state of the product's outer loop. -/
def ProI (l m : List Nat) (i : Nat) (o : List Nat) : Prop :=
  o.length = l.length + m.length ∧ (∀ x ∈ o, x < 10) ∧ val 10 o = val 10 (l.take i) * val 10 m ∧ ∀ t, i + m.length ≤ t → nth o t = 0

/-- The state of the product's inner loop. -/
def ProJ (l m : List Nat) (i j c : Nat) (o : List Nat) : Prop :=
  o.length = l.length + m.length ∧ (∀ x ∈ o, x < 10) ∧ c < 10 ∧
  val 10 o + c * 10 ^ (i + j) = val 10 (l.take i) * val 10 m + nth l i * 10 ^ i * val 10 (m.take j) ∧
  (∀ t, i + m.length ≤ t → i + j ≤ t → nth o t = 0) ∧ (j ≤ m.length ∨ (j = m.length + 1 ∧ c = 0))

theorem proI_zero (l m : List Nat) : ProI l m 0 (List.replicate (l.length + m.length) 0) :=
  ⟨by simp, fun x hx => by have := List.eq_of_mem_replicate hx; omega, by rw [val_replicate_zero]; simp [val_nil], fun t _ => nth_replicate _ t⟩

theorem proJ_zero {l m : List Nat} {i : Nat} {o : List Nat} (h : ProI l m i o) : ProJ l m i 0 0 o :=
  ⟨h.1, h.2.1, by omega, by rw [h.2.2.1]; simp [val_nil], fun t ht _ => h.2.2.2 t ht, .inl (Nat.zero_le _)⟩

theorem pro_bound {x y : Nat} (hx : x < 10) (hy : y < 10) : x * y ≤ 81 := Nat.mul_le_mul (show x ≤ 9 by omega) (show y ≤ 9 by omega)

theorem proJ_step {l m : List Nat} {i j c : Nat} {o : List Nat} (h : ProJ l m i j c o) (hl : ∀ x ∈ l, x < 10) (hm : ∀ x ∈ m, x < 10) (hi : i < l.length) (hj : j < m.length ∨ 0 < c) :
    i + j < o.length ∧ ProJ l m i (j + 1) ((c + (nth o (i + j) + nth l i * nth m j)) / 10) (o.set (i + j) ((c + (nth o (i + j) + nth l i * nth m j)) % 10)) := by
  obtain ⟨h1, h2, h3, h4, h5, h6⟩ := h
  have hjm : j ≤ m.length := by rcases h6 with h | ⟨h, h'⟩ <;> omega
  have hx := nth_lt (b := 10) (by omega) l hl i
  have hy := nth_lt (b := 10) (by omega) m hm j
  have hz := nth_lt (b := 10) (by omega) o h2 (i + j)
  have hb := pro_bound hx hy
  have hlt : i + j < o.length := by omega
  refine ⟨hlt, by simp [h1], mem_set_lt h2 (Nat.mod_lt _ (by omega)), by omega, ?_, ?_, ?_⟩
  · have h6 := val_set 10 o (i + j) ((c + (nth o (i + j) + nth l i * nth m j)) % 10) hlt
    have h7 := Nat.mod_add_div (c + (nth o (i + j) + nth l i * nth m j)) 10
    generalize hs : (c + (nth o (i + j) + nth l i * nth m j)) = s at *
    have h8 : 10 ^ (i + j) * (s % 10) + s / 10 * 10 ^ (i + (j + 1)) = 10 ^ (i + j) * s := by
      rw [← Nat.add_assoc, Nat.pow_succ, Nat.mul_comm (s / 10), Nat.mul_assoc, ← Nat.mul_add, h7]
    have h9 : 10 ^ (i + j) * s = c * 10 ^ (i + j) + 10 ^ (i + j) * nth o (i + j) + nth l i * 10 ^ i * (10 ^ j * nth m j) := by
      rw [← hs, Nat.mul_add, Nat.mul_add, Nat.mul_comm _ c, Nat.pow_add]
      have : 10 ^ i * 10 ^ j * (nth l i * nth m j) = nth l i * 10 ^ i * (10 ^ j * nth m j) := by
        simp only [Nat.mul_assoc, Nat.mul_comm, Nat.mul_left_comm]
      omega
    rw [val_take_nth, Nat.mul_add]
    omega
  · intro t ht ht2
    rw [nth_set_other _ _ _ _ (by omega)]
    exact h5 t ht (by omega)
  · by_cases hjl : j < m.length
    · exact .inl (by omega)
    · refine .inr ⟨by omega, ?_⟩
      have e1 : nth m j = 0 := nth_past m j (by omega)
      have e2 : nth o (i + j) = 0 := h5 _ (by omega) (Nat.le_refl _)
      rw [e1, e2]; omega

theorem proJ_end {l m : List Nat} {i j : Nat} {o : List Nat} (h : ProJ l m i j 0 o) (hj : m.length ≤ j) : ProI l m (i + 1) o := by
  obtain ⟨h1, h2, h3, h4, h5, h6⟩ := h
  refine ⟨h1, h2, ?_, fun t ht => h5 t (by omega) (by rcases h6 with h | ⟨h, h'⟩ <;> omega)⟩
  rw [List.take_of_length_le hj] at h4
  rw [val_take_nth, Nat.add_mul, Nat.mul_comm (10 ^ i)]
  omega

theorem proI_end {l m : List Nat} {o : List Nat} (h : ProI l m l.length o) : val 10 o = val 10 l * val 10 m := by
  rw [h.2.2.1, List.take_of_length_le (Nat.le_refl _)]

theorem castP1 (c z x y : Nat) : (((c + (z + x * y)) % 10 : Nat) : Int) = ((c : Int) + ((z : Int) + (x : Int) * (y : Int))) % 10 := by
  rw [← Int.natCast_mul]; omega
theorem castP2 (c z x y : Nat) : (((c + (z + x * y)) / 10 : Nat) : Int) = ((c : Int) + ((z : Int) + (x : Int) * (y : Int))) / 10 := by
  rw [← Int.natCast_mul]; omega

set_option maxHeartbeats 6400000 in
set_option maxRecDepth 100000 in
theorem multiplied_at (a1 a2 : Option Addr) (c1 c2 : Nat) (l m : List Nat) (w : World) (h1 : At .i64 w a1 l) (h2 : At .i64 w a2 m) (hl : ∀ x ∈ l, x < 10) (hm : ∀ x ∈ m, x < 10)
    (hsl : l.length ≤ 1073741823) (hsm : m.length ≤ 1073741823) :
    Calls Tryz.prog 109 #[.slice a1 l.length c1, .slice a2 m.length c2] w (GivesDg w (val 10 l * val 10 m)) := by
  obtain ⟨i0, hi, hz0, hz1, hz2⟩ := info_parts info3
  have HST := Lib.hid (fun (i j c : Nat) (o : List Nat) (h : ProJ l m i j c o) (hi : i < l.length) (hj : j < m.length ∨ 0 < c) => proJ_step h hl hm hi hj)
  have HD := Lib.hid (fun (i : Nat) (w' : World) (h : At .i64 w' a2 m) (hi : i ≤ 4294967296) => digit_at a2 c2 m i w' h (by omega) hi)
  have HX := Lib.hid (fun k => nth_lt (b := 10) (by omega) l hl k)
  have HY := Lib.hid (fun k => nth_lt (b := 10) (by omega) m hm k)
  have H1 := Lib.hid h1
  have H2 := Lib.hid h2
  clear h1 h2 hl hm
  go_enter Tryz.func109, Tryz.ntmps109
  go_wp2_with (at_make; refine wpList_make_full _ rfl _ _ 80 rfl w.heap.size 3 i0 (.int .i64 0) 1 Tryz.underlying80 hi hz0 hz1 _ _ _ _ (l.length + m.length) rfl rfl (by omega) (by omega) ?b2 ?b3 (Nat.le_refl _) ?_)
  case b2 => rw [hz2]; omega
  case b3 => unfold maxLen; omega
  intro w0 hown0 hgrow0
  rw [toList_madeCells_one, ← cellsOf_replicate] at hown0
  go_wp2
  go_loopw [6] (fun si wr => ∃ (i : Nat) (o : List Nat), i ≤ l.length ∧ si = .int .i64 i ∧
      wr.ownsRow w.heap.size 3 1 (.slice (some ⟨w.heap.size, 0, none⟩) (l.length + m.length) (l.length + m.length)) (l.length + m.length) (cellsOf .i64 o) ∧ ProI l m i o ∧ Below w.heap.size w wr)
    (fun i _ => l.length - (intOf i).toNat)
  case atStart => exact ⟨0, _, Nat.zero_le _, rfl, hown0, proI_zero l m, (Below.refl _ _).grown hgrow0 (Nat.le_refl _) (fun k h => by cases h)⟩
  case round =>
    obtain ⟨i, o, hil, rfl, hown, hI, hB⟩ := hrel
    by_cases hlt : i < l.length
    · go_wp2
      obtain ⟨wo, rfl⟩ : ∃ wo : World, wo = wr := ⟨_, rfl⟩
      go_loopw [7, 8] (fun car sj wr => ∃ (j c : Nat) (o : List Nat), j ≤ m.length + 1 ∧ sj = .int .i64 j ∧ car = .int .i64 c ∧
          wr.ownsRow w.heap.size 3 1 (.slice (some ⟨w.heap.size, 0, none⟩) (l.length + m.length) (l.length + m.length)) (l.length + m.length) (cellsOf .i64 o) ∧ ProJ l m i j c o ∧ Below w.heap.size w wr)
        (fun _ j _ => m.length + 2 - (intOf j).toNat)
      case atStart => exact ⟨0, 0, o, Nat.zero_le _, rfl, rfl, hown, proJ_zero hI, hB⟩
      case round =>
        obtain ⟨j, c, o, hjm, rfl, rfl, hown, hJ, hB⟩ := hrel
        have hc := hJ.2.2.1
        by_cases hgo : j < m.length ∨ 0 < c
        · obtain ⟨hlo, hJ'⟩ := HST.out i j c o hJ hlt hgo
          have hjb : j ≤ m.length := by rcases hJ.2.2.2.2.2 with h | ⟨h, h'⟩ <;> omega
          obtain ⟨b1, o1, rfl, hb1, hcell1⟩ := H1.out i hlt
          have hx := HX.out i
          have hy := HY.out j
          have hcr : wr.cell? ⟨b1, o1 + i, none⟩ = some (.int .i64 ((nth l i : Nat) : Int)) := (hB.cell (p := ⟨b1, o1 + i, none⟩) hb1).trans hcell1
          have hol := hJ.1
          have hz := nth_lt (b := 10) (by omega) o hJ.2.1 (i + j)
          have hco : wr.cell? ⟨w.heap.size, i + j, none⟩ = some (.int .i64 ((nth o (i + j) : Nat) : Int)) := (hown.cellAt (i + j) (by omega)).trans (cellsOf_at _ _ _ hlo)
          have hfo : wr.frozen? ⟨w.heap.size, i + j, none⟩ = false := hown.frozenAt (i + j)
          have HK2 := Lib.hid (H2.out.keep hB)
          have hD : ∀ n, Calls Tryz.prog 139 #[.slice a2 m.length c2, .int .i64 ((j : Nat) : Int)] (wr.drewN n) fun e w' => e = .returned (.int .i64 ((nth m j : Nat) : Int)) ∧ w' = wr.drewN n := fun n =>
            (HD.out j (wr.drewN n) (HK2.out.keep ⟨rfl, rfl, rfl, Nat.le_refl _, fun _ _ => rfl⟩) (by omega)).mono fun e w' ⟨he, hw⟩ => ⟨he, hw.symm⟩
          have hij : i + j < l.length + m.length := by omega
          have hOW := Lib.hid hown
          clear hcell1 hol hlo hJ hown
          obtain ⟨p, hp⟩ : ∃ p, p = nth l i := ⟨_, rfl⟩
          obtain ⟨q, hq⟩ : ∃ q, q = nth m j := ⟨_, rfl⟩
          obtain ⟨z, hz'⟩ : ∃ z, z = nth o (i + j) := ⟨_, rfl⟩
          rw [← hp] at hx hcr hJ'
          rw [← hq] at hy hD hJ'
          rw [← hz'] at hz hco hJ'
          clear hp hq hz'
          have hbd : (p : Int) * (q : Int) ≤ 81 := by rw [← Int.natCast_mul]; have := pro_bound hx hy; omega
          have hbd0 : 0 ≤ (p : Int) * (q : Int) := by rw [← Int.natCast_mul]; omega
          have D := Lib.hid hD
          clear hD
          have HJ := Lib.hid hJ'
          clear hJ'
          rcases (show j < m.length ∨ (¬ j < m.length ∧ 0 < c) by omega) with t | ⟨t1, t2⟩
          all_goals
            clear hgo
            go_wp2
            go_quiet ((go_at_call 139; exact Calls.quiet_of_same (D.out _)))
            have hownq : (wr.drewN nq).ownsRow w.heap.size 3 1 (.slice (some ⟨w.heap.size, 0, none⟩) (l.length + m.length) (l.length + m.length)) (l.length + m.length) (cellsOf .i64 o) := hOW.out
            have hBq : Below w.heap.size w (wr.drewN nq) := hB.trans ⟨rfl, rfl, rfl, Nat.le_refl _, fun _ _ => rfl⟩
            have hst := hownq.stored (i + j) (.int .i64 ((((c + (z + p * q)) % 10 : Nat)) : Int))
            have HS := Lib.hid hst
            have hfq : (wr.drewN nq).frozen? ⟨w.heap.size, i + j, none⟩ = false := hfo
            have hcq : (wr.drewN nq).cell? ⟨w.heap.size, i + j, none⟩ = some (.int .i64 ((z : Nat) : Int)) := hco
            clear hst hownq
            go_wp2
            go_roundw
            case rel => exact ⟨j + 1, _, _, by omega, by go_num, by rw [castP2], by have := HS.out.1; rw [← cellsOf_set, castP1] at this; exact this, HJ.out, by have := below_own hBq HS.out.2; rw [castP1] at this; exact this⟩
            case measure => simp [intOf]; omega
        · obtain rfl : c = 0 := by omega
          have hjm2 : ¬ j < m.length := by omega
          have hI' := proJ_end hJ (by omega)
          have HI := Lib.hid hI'
          clear hJ hI' hgo
          go_wp2
          go_roundw
          case rel => exact ⟨i + 1, _, by omega, by go_num, hown, HI.out, hB⟩
          case measure => simp [intOf]; omega
    · obtain rfl : i = l.length := by omega
      have hv := proI_end hI
      have hol := hI.1
      have HV := Lib.hid hv
      have hrd : Rd .i64 3 wr (.slice (some ⟨w.heap.size, 0, none⟩) (l.length + m.length) (l.length + m.length)) o := by
        rw [← hol]
        refine Rd.of_own (base := w.heap.size) (T := 3) ?_
        rw [hol]; exact hown
      have hol2 : o.length ≤ 4294967296 := by omega
      have hdg := hI.2.1
      clear hv hol hI
      go_wp2_with fail
      refine (cut_any _ o _ hrd hdg hol2).mono ?_
      rintro e w' ⟨v', rfl, hw, rfl⟩
      obtain ⟨a', k', cap', rfl⟩ := hw.shape
      go_wp2
      go_ret
      exact ⟨_, rfl, by rw [← HV.out]; exact hw, hB⟩

/-- multiplied -/
theorem rmultiplied_any (v1 v2 : Value) (A B : Nat) (w : World) (h1 : Dg w v1 A) (h2 : Dg w v2 B) (hA : (dig 10 A).length ≤ 1073741823) (hB : (dig 10 B).length ≤ 1073741823) :
    Calls Tryz.prog 109 #[v1, v2] w (GivesDg w (A * B)) := by
  obtain ⟨a1, c1, rfl, g1⟩ := Rd.at h1
  obtain ⟨a2, c2, rfl, g2⟩ := Rd.at h2
  have := multiplied_at a1 a2 c1 c2 _ _ w g1 g2 (dig10_lt A) (dig10_lt B) hA hB
  rwa [val_dig10, val_dig10] at this

theorem times_sign (a b : Int) : (if (decide (a < 0) != decide (b < 0)) = true then -((a.natAbs * b.natAbs : Nat) : Int) else ((a.natAbs * b.natAbs : Nat) : Int)) = a * b := by
  rw [← Int.natAbs_mul]
  by_cases h1 : a < 0 <;> by_cases h2 : b < 0
  · have := Int.mul_pos_of_neg_of_neg h1 h2
    simp [h1, h2]; omega
  · have := Int.mul_nonpos_of_nonpos_of_nonneg (show a ≤ 0 by omega) (show 0 ≤ b by omega)
    simp [h1, h2]; omega
  · have := Int.mul_nonpos_of_nonneg_of_nonpos (show 0 ≤ a by omega) (show b ≤ 0 by omega)
    simp [h1, h2]; omega
  · have := Int.mul_nonneg (show 0 ≤ a by omega) (show 0 ≤ b by omega)
    simp [h1, h2]; omega

set_option maxHeartbeats 1600000 in
set_option maxRecDepth 100000 in
theorem rtimes_any {d e : Nat} (a b : Int) (ha : Few d a) (hb : Few e b) (h1 : 1 ≤ d) (hd : d ≤ 100000) (h2 : 1 ≤ e) (he : e ≤ 100000) (w : World) : Calls Tryz.prog 69 #[.string (T a), .string (T b)] w (OutR w (T (a * b))) := by
  have HD1 := Lib.hid (digits_T ha h1 hd)
  have HD2 := Lib.hid (digits_T hb h2 he)
  have HL1 := Lib.hid (few_len ha)
  have HL2 := Lib.hid (few_len hb)
  have HM1 := Lib.hid (minus_any a)
  have HM2 := Lib.hid (minus_any b)
  have HZ := Lib.hid (times_sign a b)
  have hlen : (dig 10 (a.natAbs * b.natAbs)).length ≤ d + e := by
    have := few_len (ha.mul hb)
    rwa [Int.natAbs_mul] at this
  have HLL := Lib.hid hlen
  clear hlen
  generalize hS : T (a * b) = S
  generalize a * b = z at *
  generalize T a = X at *
  generalize T b = Y at *
  generalize decide (a < 0) = p at *
  generalize decide (b < 0) = q at *
  generalize a.natAbs = m at *
  generalize b.natAbs = n at *
  clear ha hb
  subst hS
  go_enter Tryz.func69, Tryz.ntmps69
  go_wp2_with fail
  refine (HD1.out _).mono ?_
  rintro e1 w1 ⟨v1, rfl, hv1, hb1⟩
  obtain ⟨a1, k1, c1, rfl⟩ := hv1.shape
  go_wp2_with fail
  refine (HD2.out _).mono ?_
  rintro e2 w2 ⟨v2, rfl, hv2, hb2⟩
  obtain ⟨a2, k2, c2, rfl⟩ := hv2.shape
  have hv1' := hv1.keep hb2
  have hB2 : Below w.heap.size w w2 := hb1.trans (hb2.mono hb1.size)
  have HV1 := Lib.hid hv1'
  have HV2 := Lib.hid hv2
  clear hv1 hv1' hv2 hb1 hb2
  go_wp2_with fail
  refine (rmultiplied_any _ _ _ _ _ HV1.out HV2.out (by have := HL1.out; omega) (by have := HL2.out; omega)).mono ?_
  rintro e3 w3 ⟨v3, rfl, hv3, hb3⟩
  obtain ⟨a3, k3, c3, rfl⟩ := hv3.shape
  have HV3 := Lib.hid hv3
  have hB3 : Below w.heap.size w w3 := hB2.trans (hb3.mono hB2.size)
  clear hv3 hb3 hB2
  go_wp2_with fail
  refine (HM1.out _).mono ?_
  rintro e w1' ⟨rfl, rfl⟩
  go_wp2_with fail
  refine (HM2.out _).mono ?_
  rintro e w1' ⟨rfl, rfl⟩
  go_wp2_with fail
  refine (text_R _ _ (p != q) _ _ HV3.out (by have := HLL.out; omega) HZ.out).mono ?_
  rintro e4 w4 ⟨rfl, hb4⟩
  go_wp2
  go_ret
  exact ⟨rfl, hB3.trans (hb4.mono hB3.size)⟩

end Go.Proofs.YtnfmcdfdbipeoaaGreatDoor

namespace Go.Proofs.YtnfmcdfdbipeoaaGreatDoor
open Go.RowKit Go.Proofs.Num

abbrev maxS : ByteArray := ⟨#[57, 50, 50, 51, 51, 55, 50, 48, 51, 54, 56, 53, 52, 55, 55, 53, 56, 48, 55]⟩
abbrev minS : ByteArray := ⟨#[45, 57, 50, 50, 51, 51, 55, 50, 48, 51, 54, 56, 53, 52, 55, 55, 53, 56, 48, 56]⟩
theorem T_max : T 9223372036854775807 = maxS := by
  have h := of_chk maxS (by decide +kernel)
  rw [show parse maxS.data.toList = 9223372036854775807 by decide +kernel] at h
  exact h.symm
theorem T_min : T (-9223372036854775808) = minS := by
  have h := of_chk minS (by decide +kernel)
  rw [show parse minS.data.toList = -9223372036854775808 by decide +kernel] at h
  exact h.symm

set_option maxRecDepth 100000 in
theorem rsmall_err (s : ByteArray) (hs : s.size ≤ 9223372036854775807) (h0 : chk s.data.toList ≠ 0) (w : World) :
    Calls Tryz.prog 116 #[.string s] w fun e w' => e = .returned (.tuple #[.int .i64 0, .int .i64 ((chk s.data.toList : Nat) : Int)]) ∧ Below w.heap.size w w' := by
  have H := Lib.hid (fun w => rcheck_any s w hs)
  generalize chk s.data.toList = c at *
  have hx : ¬ ((c : Nat) : Int) = 0 := by omega
  have hx1 : ((c : Int) == 0) = false := beq_eq_false_iff_ne.2 hx
  go_enter Tryz.func116, Tryz.ntmps116
  go_wp2_with fail
  refine (H.out _).mono ?_
  rintro e w1 ⟨rfl, rfl⟩
  go_wp2
  go_ret2
  exact ⟨rfl, Below.refl _ _⟩

theorem few_max : Few 19 9223372036854775807 := by unfold Few; decide +kernel
theorem few_min : Few 19 (-9223372036854775808) := by unfold Few; decide +kernel

set_option maxRecDepth 100000 in
theorem rsmall_out (s : ByteArray) (h : parse s.data.toList < -9223372036854775808 ∨ 9223372036854775807 < parse s.data.toList) (hc : chk s.data.toList = 0) (hs : s.size ≤ 9223372036854775807) (w : World) :
    Calls Tryz.prog 116 #[.string s] w fun e w' => e = .returned (.tuple #[.int .i64 0, .int .i64 2]) ∧ Below w.heap.size w w' := by
  have H := Lib.hid (fun w => rcheck_any s w hs)
  obtain ⟨z, d, hz1, hz2, hd1, hd2, hz⟩ := canon s hc
  rw [hc] at H
  rw [← hz2] at h
  have O1 := fun w => rorderT z 9223372036854775807 hz (few_max.le (by omega)) hd1 (by omega) w
  have O2 := fun w => rorderT z (-9223372036854775808) hz (few_min.le (by omega)) hd1 (by omega) w
  rw [← hz1, T_max] at O1
  rw [← hz1, T_min] at O2
  rcases (show 9223372036854775807 < z ∨ (z ≤ 9223372036854775807 ∧ z < -9223372036854775808) by omega) with k | ⟨k1, k2⟩
  · have e1 : cmpZ z 9223372036854775807 = 1 := by unfold cmpZ; rw [if_neg (by omega), if_pos k]
    rw [e1] at O1
    have H1 := Lib.hid O1
    clear O1 O2 e1 h hc hz hz1 hz2 hd1 hd2 k
    go_enter Tryz.func116, Tryz.ntmps116
    go_wp2_with fail
    refine (H.out _).mono ?_
    rintro e w1 ⟨rfl, rfl⟩
    go_wp2_with fail
    refine (H1.out _).mono ?_
    rintro e w1 ⟨rfl, hb1⟩
    go_wp2
    go_ret2
    exact ⟨rfl, hb1⟩
  · obtain ⟨c, hcc⟩ : ∃ c, c = cmpZ z 9223372036854775807 := ⟨_, rfl⟩
    have hc1 : c ≤ 0 := by rw [hcc]; unfold cmpZ; split <;> (try split) <;> omega
    have hc0 : ¬ 0 < c := by omega
    have e2 : cmpZ z (-9223372036854775808) = -1 := by unfold cmpZ; rw [if_pos k2]
    rw [← hcc] at O1
    rw [e2] at O2
    have H1 := Lib.hid O1
    have H2 := Lib.hid O2
    have hd0 : decide (0 < c) = false := decide_eq_false hc0
    clear O1 O2 e2 h hc hz hz1 hz2 hd1 hd2 k1 k2 hcc
    go_enter Tryz.func116, Tryz.ntmps116
    go_wp2_with fail
    refine (H.out _).mono ?_
    rintro e w1 ⟨rfl, rfl⟩
    go_wp2_with fail
    refine (H1.out _).mono ?_
    rintro e w1 ⟨rfl, hb1⟩
    go_wp2_with fail
    refine (H2.out _).mono ?_
    rintro e w2 ⟨rfl, hb2⟩
    go_wp2
    go_ret2
    exact ⟨rfl, hb1.trans (hb2.mono hb1.size)⟩
end Go.Proofs.YtnfmcdfdbipeoaaGreatDoor

namespace Go.Proofs.YtnfmcdfdbipeoaaGreatDoor
open Go.RowKit Go.Proofs.Num

theorem val_drop_le10 (l : List Nat) (k : Nat) : val 10 (l.drop k) ≤ val 10 l := by
  have h := val_append 10 (l.take k) (l.drop k)
  rw [List.take_append_drop] at h
  have h2 : val 10 (l.drop k) ≤ 10 ^ (l.take k).length * val 10 (l.drop k) := Nat.le_mul_of_pos_left _ (Nat.pow_pos (by omega))
  omega

set_option maxHeartbeats 1600000 in
set_option maxRecDepth 100000 in
theorem rsmall_in (s : ByteArray) (h0 : -9223372036854775808 ≤ parse s.data.toList) (h1 : parse s.data.toList ≤ 9223372036854775807) (hc : chk s.data.toList = 0) (hs : s.size ≤ 9223372036854775807) (w : World) :
    Calls Tryz.prog 116 #[.string s] w fun e w' => e = .returned (.tuple #[.int .i64 (parse s.data.toList), .int .i64 0]) ∧ Below w.heap.size w w' := by
  have H := Lib.hid (fun w => rcheck_any s w hs)
  obtain ⟨z, d, hz1, hz2, hd1, hd2, hz⟩ := canon s hc
  rw [hc] at H
  rw [← hz2] at h0 h1 ⊢
  have O1 := fun w => rorderT z 9223372036854775807 hz (few_max.le (by omega)) hd1 (by omega) w
  have O2 := fun w => rorderT z (-9223372036854775808) hz (few_min.le (by omega)) hd1 (by omega) w
  have HD := Lib.hid (fun w => digits_T hz hd1 (by omega) w)
  have HM := Lib.hid (fun w => minus_any z w)
  have HL : Hid ((dig 10 z.natAbs).length ≤ 1024) := by have := few_len hz; unfold Hid; omega
  rw [← hz1, T_max] at O1
  rw [← hz1, T_min] at O2
  rw [← hz1] at HD HM
  obtain ⟨c, hcc⟩ : ∃ c, c = cmpZ z 9223372036854775807 := ⟨_, rfl⟩
  obtain ⟨c', hcc'⟩ : ∃ c, c = cmpZ z (-9223372036854775808) := ⟨_, rfl⟩
  have e1 : ¬ 0 < c := by rw [hcc]; unfold cmpZ; split <;> (try split) <;> omega
  have e2 : ¬ c' < 0 := by rw [hcc']; unfold cmpZ; split <;> (try split) <;> omega
  have d1 : decide (0 < c) = false := decide_eq_false e1
  have d2 : decide (c' < 0) = false := decide_eq_false e2
  rw [← hcc] at O1
  rw [← hcc'] at O2
  have H1 := Lib.hid O1
  have H2 := Lib.hid O2
  have HV := Lib.hid (val_dig10 z.natAbs)
  have HLT := Lib.hid (dig10_lt z.natAbs)
  clear O1 O2 hc hz hz1 hz2 hd1 hd2 hcc hcc'
  obtain ⟨n, hn⟩ : ∃ n, n = z.natAbs := ⟨_, rfl⟩
  unfold GivesDg Dg at HD
  rw [← hn] at HD HL HV HLT
  generalize hLL : dig 10 n = L at *
  by_cases hneg : z < 0
  · rw [decide_eq_true hneg] at HM
    have hzn : z = -(n : Int) := by omega
    have hnb : n ≤ 9223372036854775808 := by omega
    have HZ := Lib.hid hzn
    clear hneg hn h0 h1 hzn
    go_enter Tryz.func116, Tryz.ntmps116
    go_wp2_with fail
    refine (H.out _).mono ?_
    rintro e w1 ⟨rfl, rfl⟩
    go_wp2_with fail
    refine (H1.out _).mono ?_
    rintro e w1 ⟨rfl, hb1⟩
    go_wp2_with fail
    refine (H2.out _).mono ?_
    rintro e w2 ⟨rfl, hb2⟩
    have hB2 : Below w.heap.size w w2 := hb1.trans (hb2.mono hb1.size)
    clear hb1 hb2
    go_wp2_with fail
    refine (HD.out _).mono ?_
    rintro e w3 ⟨v, rfl, hv, hb3⟩
    obtain ⟨a, cap, rfl, hat⟩ := Rd.at hv
    have hB3 : Below w.heap.size w w3 := hB2.trans (hb3.mono hB2.size)
    have HA := Lib.hid hat
    have hLlen := HL.out
    clear hB2 hb3 hv hat
    go_wp2
    go_loopw [5, 7] (fun m i wr => ∃ j : Nat, j ≤ L.length ∧ i = .int .i64 ((j : Int) - 1) ∧ m = .int .i64 (-((val 10 (L.drop j) : Nat) : Int)) ∧ wr = w3) (fun _ i _ => (intOf i + 1).toNat)
    case atStart => exact ⟨L.length, Nat.le_refl _, rfl, by rw [List.drop_length]; rfl, rfl⟩
    case round =>
      obtain ⟨j, hj, rfl, rfl, rfl⟩ := hrel
      rcases j with _ | k
      · rw [show (((0 : Nat) : Int) - 1) = -1 by omega, List.drop_zero, HV.out]
        go_wp2
        go_ret2
        exact ⟨by rw [HZ.out]; rfl, hB3⟩
      · rw [show (((k + 1 : Nat) : Int) - 1) = (k : Int) by omega]
        have hkl : k < L.length := by omega
        obtain ⟨b1, o1, rfl, hb1, hcell⟩ := HA.out k hkl
        have hvd := val_drop 10 L k hkl
        have hle := val_drop_le10 L k
        have hx := nth_lt (b := 10) (by omega) L HLT.out k
        rw [HV.out, hvd] at hle
        have HVD := Lib.hid hvd
        clear hvd
        generalize nth L k = x at *
        generalize val 10 (L.drop (k + 1)) = V at *
        have E := Lib.hid (show -((x + 10 * V : Nat) : Int) = (10 * -(V : Int) - (x : Int)) by omega)
        go_wp2_with fail
        refine (HM.out _).mono ?_
        rintro e w4 ⟨rfl, rfl⟩
        go_wp2
        go_roundw
        case rel => exact ⟨k, by omega, rfl, by rw [HVD.out, E.out], trivial⟩
        case measure => simp [intOf]
  · rw [decide_eq_false hneg] at HM
    have hzn : z = (n : Int) := by omega
    have hnb : n ≤ 9223372036854775807 := by omega
    have HZ := Lib.hid hzn
    clear hneg hn h0 h1 hzn
    go_enter Tryz.func116, Tryz.ntmps116
    go_wp2_with fail
    refine (H.out _).mono ?_
    rintro e w1 ⟨rfl, rfl⟩
    go_wp2_with fail
    refine (H1.out _).mono ?_
    rintro e w1 ⟨rfl, hb1⟩
    go_wp2_with fail
    refine (H2.out _).mono ?_
    rintro e w2 ⟨rfl, hb2⟩
    have hB2 : Below w.heap.size w w2 := hb1.trans (hb2.mono hb1.size)
    clear hb1 hb2
    go_wp2_with fail
    refine (HD.out _).mono ?_
    rintro e w3 ⟨v, rfl, hv, hb3⟩
    obtain ⟨a, cap, rfl, hat⟩ := Rd.at hv
    have hB3 : Below w.heap.size w w3 := hB2.trans (hb3.mono hB2.size)
    have HA := Lib.hid hat
    have hLlen := HL.out
    clear hB2 hb3 hv hat
    go_wp2
    go_loopw [5, 7] (fun m i wr => ∃ j : Nat, j ≤ L.length ∧ i = .int .i64 ((j : Int) - 1) ∧ m = .int .i64 (((val 10 (L.drop j) : Nat) : Int)) ∧ wr = w3) (fun _ i _ => (intOf i + 1).toNat)
    case atStart => exact ⟨L.length, Nat.le_refl _, rfl, by rw [List.drop_length]; rfl, rfl⟩
    case round =>
      obtain ⟨j, hj, rfl, rfl, rfl⟩ := hrel
      rcases j with _ | k
      · rw [show (((0 : Nat) : Int) - 1) = -1 by omega, List.drop_zero, HV.out]
        go_wp2
        go_ret2
        exact ⟨by rw [HZ.out]; rfl, hB3⟩
      · rw [show (((k + 1 : Nat) : Int) - 1) = (k : Int) by omega]
        have hkl : k < L.length := by omega
        obtain ⟨b1, o1, rfl, hb1, hcell⟩ := HA.out k hkl
        have hvd := val_drop 10 L k hkl
        have hle := val_drop_le10 L k
        have hx := nth_lt (b := 10) (by omega) L HLT.out k
        rw [HV.out, hvd] at hle
        have HVD := Lib.hid hvd
        clear hvd
        generalize nth L k = x at *
        generalize val 10 (L.drop (k + 1)) = V at *
        have E := Lib.hid (show ((x + 10 * V : Nat) : Int) = (10 * (V : Int) + (x : Int)) by omega)
        go_wp2_with fail
        refine (HM.out _).mono ?_
        rintro e w4 ⟨rfl, rfl⟩
        go_wp2
        go_roundw
        case rel => exact ⟨k, by omega, rfl, by rw [HVD.out, E.out], trivial⟩
        case measure => simp [intOf]
end Go.Proofs.YtnfmcdfdbipeoaaGreatDoor

namespace Go.Proofs.YtnfmcdfdbipeoaaGreatDoor
open Go.RowKit Go.Proofs.Num

/-- A text is short, or no canonical integer and not too long. -/
def fewB (s : ByteArray) : Bool := decide (s.size ≤ 60) || (decide (s.size ≤ 2048) && decide (chk s.data.toList = 3))

set_option maxRecDepth 100000 in
theorem rfew_any (s : ByteArray) (hs : s.size ≤ 9223372036854775807) (w : World) : Calls Tryz.prog 58 #[.string s] w fun e w' => e = .returned (.bool (fewB s)) ∧ w = w' := by
  have HK := Lib.hid (fun w => rcheck_any s w hs)
  unfold fewB
  generalize chk s.data.toList = c at *
  rcases (show s.size ≤ 60 ∨ (¬ s.size ≤ 60 ∧ s.size ≤ 2048) ∨ (¬ s.size ≤ 60 ∧ ¬ s.size ≤ 2048) by omega) with h | ⟨h1, h2⟩ | ⟨h1, h2⟩
  · rw [decide_eq_true h, Bool.true_or]
    have hd1 : decide (((s.size : Nat) : Int) ≤ 60) = true := decide_eq_true (by omega)
    go_enter Tryz.func58, Tryz.ntmps58
    go_wp2
    go_ret
    exact ⟨rfl, rfl⟩
  · rw [decide_eq_false h1, decide_eq_true h2, Bool.false_or, Bool.true_and]
    have hd1 : decide (((s.size : Nat) : Int) ≤ 60) = false := decide_eq_false (by omega)
    have hd2 : decide (((s.size : Nat) : Int) ≤ 2048) = true := decide_eq_true (by omega)
    by_cases h3 : c = 3
    · subst h3
      go_enter Tryz.func58, Tryz.ntmps58
      go_wp2_with fail
      refine (HK.out _).mono ?_
      rintro e w1 ⟨rfl, rfl⟩
      go_wp2
      go_ret
      exact ⟨rfl, rfl⟩
    · rw [decide_eq_false h3]
      have hc0 : ((c : Int) == 3) = false := beq_eq_false_iff_ne.2 (by omega)
      clear h3
      go_enter Tryz.func58, Tryz.ntmps58
      go_wp2_with fail
      refine (HK.out _).mono ?_
      rintro e w1 ⟨rfl, rfl⟩
      go_wp2
      go_ret
      exact ⟨rfl, rfl⟩
  · rw [decide_eq_false h1, decide_eq_false h2, Bool.false_or, Bool.false_and]
    have hd1 : decide (((s.size : Nat) : Int) ≤ 60) = false := decide_eq_false (by omega)
    have hd2 : decide (((s.size : Nat) : Int) ≤ 2048) = false := decide_eq_false (by omega)
    go_enter Tryz.func58, Tryz.ntmps58
    go_wp2
    go_ret
    exact ⟨rfl, rfl⟩

end Go.Proofs.YtnfmcdfdbipeoaaGreatDoor
