/- Walks of the reference: the text of digits; and: Walks of the reference: the opposite, the absolute value, the sum, the difference; and: Walks of the reference: the sum and the difference of texts; and: Walks of the reference: the order, the bound, the first error, Compare, Add, Sub. -/
import Derived.Test.YtbmonfbbkmpdhaaDoorEd
import Derived.Laws.IdiomStrings
import Derived.Test.YtbmonfbbkmpdhaaDoorJb
import Derived.Test.YtbmonfbbkmpdhaaDoorUe
namespace Go.Proofs.YtbmonfbbkmpdhaaDoor
open Go.RowKit Go.Proofs.Num

/-- Digits as bytes, the first one first. -/
def tb (l : List Nat) : List UInt8 := (l.map (fun x => UInt8.ofNat (48 + x))).reverse

theorem tb_nil : tb [] = [] := rfl
theorem tb_snoc (l : List Nat) (x : Nat) : tb (l ++ [x]) = UInt8.ofNat (48 + x) :: tb l := by simp [tb]
theorem tb_len (l : List Nat) : (tb l).length = l.length := by simp [tb]

theorem tb_dig : ∀ (N n : Nat), n ≤ N → 0 < n → tb (dig 10 n) = Lib.decDigits n
  | 0, n, h1, h2 => by omega
  | N + 1, n, h1, h2 => by
    rw [dig_pos (by omega) (by omega)]
    have e : tb (n % 10 :: dig 10 (n / 10)) = tb (dig 10 (n / 10)) ++ [UInt8.ofNat (48 + n % 10)] := by simp [tb]
    rw [e]
    rw [Lib.decDigits]
    by_cases h10 : n < 10
    · rw [dif_pos h10, show n / 10 = 0 by omega, dig_zero, tb_nil, Nat.mod_eq_of_lt h10]; rfl
    · rw [dif_neg h10, tb_dig N (n / 10) (by omega) (by omega)]

/-- A text of bytes. -/
def Sb (l : List UInt8) : ByteArray := ⟨l.toArray⟩
theorem Sb_append (a b : List UInt8) : Sb a ++ Sb b = Sb (a ++ b) := by
  unfold Sb
  apply ByteArray.ext
  simp
theorem Sb_size (l : List UInt8) : (Sb l).size = l.length := rfl
theorem Sb_T (z : Int) : Sb (Lib.itoa z) = T z := rfl

theorem text_zero' (a : Option Addr) (cap : Nat) (neg : Bool) (w : World) : Calls Tryd.prog 57 #[.slice a 0 cap, .bool neg] w fun e w' => e = .returned (.string (T 0)) ∧ w = w' := by
  have H : Hid (T 0 = ⟨#[48]⟩) := by
    unfold Hid T Lib.itoa
    rw [if_neg (by omega), Lib.decDigits]; rfl
  go_enter Tryd.func57, Tryd.ntmps57
  go_wp2
  go_ret
  exact ⟨by rw [H.out]; rfl, rfl⟩

set_option maxHeartbeats 1600000 in
set_option maxRecDepth 100000 in
theorem text_pos (a : Option Addr) (cap : Nat) (n : Nat) (neg : Bool) (w : World) (h : At .i64 w a (dig 10 n)) (hn : 0 < n) (hsm : (dig 10 n).length ≤ 4294967295) :
    Calls Tryd.prog 57 #[.slice a (dig 10 n).length cap, .bool neg] w fun e w' => e = .returned (.string (T (if neg then -(n : Int) else n))) ∧ Below w.heap.size w w' := by
  have hne : (dig 10 n).length ≠ 0 := by
    intro h0
    have := (dig_eq_nil (b := 10) (by omega) n).1 (List.length_eq_zero_iff.1 h0)
    omega
  have hlt := dig10_lt n
  have hN : T (n : Int) = Sb (tb (dig 10 n)) := by
    rw [tb_dig n n (Nat.le_refl _) hn]; unfold T Lib.itoa; rw [if_neg (by omega)]; rfl
  have hM : T (-(n : Int)) = Sb ([45] ++ tb (dig 10 n)) := by
    rw [tb_dig n n (Nat.le_refl _) hn]; unfold T Lib.itoa; rw [if_pos (by omega)]; simp [Sb]
  have HN := Lib.hid hN
  have HM := Lib.hid hM
  have HX := Lib.hid (fun k => nth_lt (b := 10) (by omega) (dig 10 n) hlt k)
  have H := Lib.hid h
  clear h hN hM hlt hn
  generalize dig 10 n = l at *
  have hne1 : ((l.length : Int) == 0) = false := beq_eq_false_iff_ne.2 (by omega)
  have hne2 : ¬ l = [] := by intro h; rw [h] at hne; exact hne rfl
  go_enter Tryd.func57, Tryd.ntmps57
  go_wp2
  go_loopw [5, 6] (fun s i wr => ∃ k : Nat, k ≤ l.length ∧ i = .int .i64 k ∧ s = .string (Sb (tb (l.take k))) ∧ Below w.heap.size w wr)
    (fun _ i _ => l.length - (intOf i).toNat)
  case atStart => exact ⟨0, Nat.zero_le _, rfl, rfl, Below.refl _ _⟩
  case round =>
    obtain ⟨k, hk, rfl, rfl, hB⟩ := hrel
    by_cases hlt : k < l.length
    · obtain ⟨b1, o1, rfl, hb1, hcell1⟩ := H.out k hlt
      have hcr : wr.cell? ⟨b1, o1 + k, none⟩ = some (.int .i64 ((nth l k : Nat) : Int)) := (hB.cell (p := ⟨b1, o1 + k, none⟩) hb1).trans hcell1
      clear hcell1
      have hx := HX.out k
      have HS : Hid (Sb (tb (l.take (k + 1))) = Sb [UInt8.ofNat (48 + nth l k)] ++ Sb (tb (l.take k))) := by
        unfold Hid; rw [Sb_append, take_succ_nth l k hlt, tb_snoc]; rfl
      have hsz1 : (Sb (tb (l.take k))).size = k := by rw [Sb_size, tb_len, List.length_take]; omega
      have hsz2 : (Sb [UInt8.ofNat (48 + nth l k)]).size = 1 := rfl
      generalize nth l k = x at *
      have hcv := run_convert_bytes_back (P := Tryd.prog) (wr.alloc (.cells #[.int .u8 (48 + (x : Int))] 5)) 104 9 5 ⟨wr.heap.size, 0, none⟩ 1 [UInt8.ofNat (48 + x)] Tryd.underlying104 Tryd.underlying5 Tryd.underlying9 (by
        intro j hj
        obtain rfl : j = 0 := by simp at hj; exact hj
        have h1 : (UInt8.ofNat (48 + x)).toNat = 48 + x := toNat_ofNat_dig hx
        simp only [List.getElem_cons_zero, h1]
        rw [show ((48 + x : Nat) : Int) = 48 + (x : Int) by omega]
        exact cell_one_new _ _ _ 0 _ rfl)
      change (convert 104 9 (.slice (some ⟨wr.heap.size, 0, none⟩) 1 1)).run Tryd.prog (wr.alloc (.cells #[.int .u8 (48 + (x : Int))] 5)) = .ok (.string (Sb [UInt8.ofNat (48 + x)])) _ at hcv
      generalize Sb [UInt8.ofNat (48 + x)] = X at *
      generalize Sb (tb (l.take k)) = Y at *
      go_wp2
      go_roundw
      case rel => exact ⟨k + 1, by omega, by go_num, by rw [HS.out], hB.alloc hB.size _⟩
      case measure => simp [intOf]; omega
    · obtain rfl : k = l.length := by omega
      rw [List.take_length]
      cases neg
      · clear hne2
        go_wp2
        go_ret
        exact ⟨by show _ = Ending.returned (.string (T (n : Int))); rw [HN.out]; rfl, hB⟩
      · have HS : Hid (Sb ([45] ++ tb l) = Sb [45] ++ Sb (tb l)) := (Sb_append _ _).symm
        have hsz1 : (Sb (tb l)).size = l.length := by rw [Sb_size, tb_len]
        go_wp2
        go_ret
        exact ⟨by show _ = Ending.returned (.string (T (-(n : Int)))); rw [HM.out, HS.out]; rfl, hB⟩

/-- text -/
theorem rtext_any (v : Value) (n : Nat) (neg : Bool) (w : World) (h : Dg w v n) (hsm : (dig 10 n).length ≤ 4294967295) :
    Calls Tryd.prog 57 #[v, .bool neg] w fun e w' => e = .returned (.string (T (if neg then -(n : Int) else n))) ∧ Below w.heap.size w w' := by
  obtain ⟨a, c, rfl, g⟩ := Rd.at h
  by_cases hn : n = 0
  · subst hn
    rw [dig_zero]
    refine (text_zero' a c neg w).mono ?_
    rintro e w' ⟨rfl, rfl⟩
    exact ⟨by cases neg <;> rfl, Below.refl _ _⟩
  · exact text_pos a c n neg w g (by omega) hsm
end Go.Proofs.YtbmonfbbkmpdhaaDoor

namespace Go.Proofs.YtbmonfbbkmpdhaaDoor
open Go.RowKit Go.Proofs.Num

theorem T_size {d : Nat} {z : Int} (h : Few d z) (h1 : 1 ≤ d) : (T z).size ≤ d + 1 := by
  have h2 := body_ge (T z).data.toList
  rw [T_data] at h2
  rw [itoa_body, Lib.decDigits_length, ← T_data, size_toList] at h2
  have := nD_le d z.natAbs h1 h
  omega
theorem few_len {d : Nat} {z : Int} (h : Few d z) : (dig 10 z.natAbs).length ≤ d := dig_length_le (by omega) d _ h
theorem digits_T {d : Nat} {z : Int} (h : Few d z) (h1 : 1 ≤ d) (hd : d ≤ 100000) (w : World) : Calls Tryd.prog 49 #[.string (T z)] w (GivesDg w z.natAbs) :=
  digits_any z (by have := T_size h h1; omega) w

/-- Hands back a text. -/
def OutR (w : World) (S : ByteArray) (e : Ending) (w' : World) : Prop := e = .returned (.string S) ∧ Below w.heap.size w w'

theorem text_R (v : Value) (n : Nat) (neg : Bool) (z : Int) (w : World) (h : Dg w v n) (hsm : (dig 10 n).length ≤ 4294967295) (hz : (if neg then -(n : Int) else n) = z) :
    Calls Tryd.prog 57 #[v, .bool neg] w (OutR w (T z)) := by
  have := rtext_any v n neg w h hsm
  rw [hz] at this
  exact this

set_option maxRecDepth 100000 in
theorem positive_any {d : Nat} (z : Int) (h : Few d z) (h1 : 1 ≤ d) (hd : d ≤ 100000) (w : World) : Calls Tryd.prog 31 #[.string (T z)] w (OutR w (T (z.natAbs : Nat))) := by
  have HD := Lib.hid (digits_T h h1 hd)
  have HL := Lib.hid (few_len h)
  generalize T z = X at *
  clear h
  go_enter Tryd.func31, Tryd.ntmps31
  go_wp2_with fail
  refine (HD.out _).mono ?_
  rintro e w1 ⟨v, rfl, hv, hb1⟩
  obtain ⟨a', k', c', rfl⟩ := hv.shape
  go_wp2_with fail
  refine (text_R _ _ false _ _ hv (by have := HL.out; omega) rfl).mono ?_
  rintro e w2 ⟨rfl, hb2⟩
  go_wp2
  go_ret
  exact ⟨rfl, hb1.trans (hb2.mono hb1.size)⟩

set_option maxRecDepth 100000 in
theorem turned_any {d : Nat} (z : Int) (h : Few d z) (h1 : 1 ≤ d) (hd : d ≤ 100000) (w : World) : Calls Tryd.prog 30 #[.string (T z)] w (OutR w (T (-z))) := by
  have HD := Lib.hid (digits_T h h1 hd)
  have HL := Lib.hid (few_len h)
  have HM := Lib.hid (minus_any z)
  have HZ : Hid ((if (!decide (z < 0)) = true then -((z.natAbs : Nat) : Int) else ((z.natAbs : Nat) : Int)) = -z) := by
    unfold Hid
    by_cases hz : z < 0
    · simp [hz]; omega
    · simp [hz]; omega
  generalize hS : T (-z) = S
  generalize T z = X at *
  generalize decide (z < 0) = p at *
  clear h
  subst hS
  go_enter Tryd.func30, Tryd.ntmps30
  go_wp2_with fail
  refine (HD.out _).mono ?_
  rintro e w1 ⟨v, rfl, hv, hb1⟩
  obtain ⟨a', k', c', rfl⟩ := hv.shape
  go_wp2_with fail
  refine (HM.out _).mono ?_
  rintro e w1' ⟨rfl, rfl⟩
  go_wp2_with fail
  refine (text_R _ _ (!p) _ _ hv (by have := HL.out; omega) HZ.out).mono ?_
  rintro e w2 ⟨rfl, hb2⟩
  go_wp2
  go_ret
  exact ⟨rfl, hb1.trans (hb2.mono hb1.size)⟩

theorem few_sum {a b : Int} {d : Nat} (ha : Few d a) (hb : Few d b) {n : Nat} (hn : n ≤ a.natAbs + b.natAbs) : (dig 10 n).length ≤ d + 1 := by
  refine dig_length_le (by omega) (d + 1) n ?_
  unfold Few at ha hb
  rw [Nat.pow_succ]; omega

theorem plus_case (a b : Int) : (decide (a < 0) = decide (b < 0) ∧ (if decide (a < 0) = true then -((a.natAbs + b.natAbs : Nat) : Int) else ((a.natAbs + b.natAbs : Nat) : Int)) = a + b) ∨
      (decide (a < 0) = (!decide (b < 0)) ∧ cmpN a.natAbs b.natAbs = -1 ∧ a.natAbs ≤ b.natAbs ∧ (if decide (b < 0) = true then -((b.natAbs - a.natAbs : Nat) : Int) else ((b.natAbs - a.natAbs : Nat) : Int)) = a + b) ∨
      (decide (a < 0) = (!decide (b < 0)) ∧ 0 ≤ cmpN a.natAbs b.natAbs ∧ b.natAbs ≤ a.natAbs ∧ (if decide (a < 0) = true then -((a.natAbs - b.natAbs : Nat) : Int) else ((a.natAbs - b.natAbs : Nat) : Int)) = a + b) := by
  unfold cmpN
  by_cases k1 : a < 0 <;> by_cases k2 : b < 0 <;> by_cases k3 : a.natAbs < b.natAbs <;> simp [k1, k2, k3] <;> (try split) <;> omega
end Go.Proofs.YtbmonfbbkmpdhaaDoor

namespace Go.Proofs.YtbmonfbbkmpdhaaDoor
open Go.RowKit Go.Proofs.Num

set_option maxHeartbeats 3200000 in
set_option maxRecDepth 100000 in
theorem rplus_any {d : Nat} (a b : Int) (ha : Few d a) (hb : Few d b) (h1 : 1 ≤ d) (hd : d ≤ 100000) (w : World) : Calls Tryd.prog 61 #[.string (T a), .string (T b)] w (OutR w (T (a + b))) := by
  have HD1 := Lib.hid (digits_T ha h1 hd)
  have HD2 := Lib.hid (digits_T hb h1 hd)
  have HL1 := Lib.hid (few_len ha)
  have HL2 := Lib.hid (few_len hb)
  have hm1 := minus_any a
  have hm2 := minus_any b
  have HS := Lib.hid (fun (n : Nat) (hn : n ≤ a.natAbs + b.natAbs) => few_sum ha hb hn)
  have hcase := plus_case a b
  generalize hS : T (a + b) = S
  generalize hZ : a + b = z at *
  generalize T a = X at *
  generalize T b = Y at *
  generalize decide (a < 0) = p at *
  generalize decide (b < 0) = q at *
  generalize a.natAbs = m at *
  generalize b.natAbs = n at *
  clear ha hb hZ
  subst hS
  have HM1 := Lib.hid hm1
  have HM2 := Lib.hid hm2
  have HC := Lib.hid hcase
  clear hm1 hm2 hcase
  go_enter Tryd.func61, Tryd.ntmps61
  go_wp2_with fail
  refine (HD1.out _).mono ?_
  rintro e w1 ⟨v1, rfl, hv1, hb1⟩
  obtain ⟨a1, k1, c1, rfl⟩ := hv1.shape
  go_wp2_with fail
  refine (HD2.out _).mono ?_
  rintro e w2 ⟨v2, rfl, hv2, hb2⟩
  obtain ⟨a2, k2, c2, rfl⟩ := hv2.shape
  have hv1' := hv1.keep hb2
  have hB2 : Below w.heap.size w w2 := hb1.trans (hb2.mono hb1.size)
  have HV1 := Lib.hid hv1'
  have HV2 := Lib.hid hv2
  clear hv1 hv1' hv2 hb1 hb2
  go_wp2_with fail
  refine (HM1.out _).mono ?_
  rintro e w1' ⟨rfl, rfl⟩
  go_wp2_with fail
  refine (HM2.out _).mono ?_
  rintro e w1' ⟨rfl, rfl⟩
  rcases HC.out with ⟨hp, hz⟩ | ⟨hp, hc, hle, hz⟩ | ⟨hp, hc, hle, hz⟩
  · subst hp
    have HZ := Lib.hid hz
    clear HC hz
    have hpp : (p == p) = true := by simp
    go_wp2_with fail
    refine (radded_any _ _ _ _ _ HV1.out HV2.out (by have := HL1.out; omega) (by have := HL2.out; omega)).mono ?_
    rintro e w3 ⟨v3, rfl, hv3, hb3⟩
    obtain ⟨a3, k3, c3, rfl⟩ := hv3.shape
    go_wp2_with fail
    refine (HM1.out _).mono ?_
    rintro e w1' ⟨rfl, rfl⟩
    go_wp2_with fail
    refine (text_R _ _ p _ _ hv3 (by have := HS.out (m + n) (by omega); omega) HZ.out).mono ?_
    rintro e w4 ⟨rfl, hb4⟩
    go_wp2
    go_ret
    exact ⟨rfl, (hB2.trans (hb3.mono hB2.size)).trans (hb4.mono (Nat.le_trans hB2.size hb3.size))⟩
  · subst hp
    have HZ := Lib.hid hz
    have HCC := Lib.hid hc
    clear HC hz hc
    have hpp : ((!q) == q) = false := by simp
    go_wp2_with fail
    refine (rorder_any _ _ _ _ _ HV1.out HV2.out (by have := HL1.out; omega) (by have := HL2.out; omega)).mono ?_
    rintro e w3 ⟨he, nn, rfl⟩
    rw [HCC.out] at he
    subst he
    have HV1q := Lib.hid (HV1.out.keep (w' := w2.drewN nn) ⟨rfl, rfl, rfl, Nat.le_refl _, fun _ _ => rfl⟩)
    have HV2q := Lib.hid (HV2.out.keep (w' := w2.drewN nn) ⟨rfl, rfl, rfl, Nat.le_refl _, fun _ _ => rfl⟩)
    have hBq : Below w.heap.size w (w2.drewN nn) := hB2.trans ⟨rfl, rfl, rfl, Nat.le_refl _, fun _ _ => rfl⟩
    go_wp2_with fail
    refine (rtaken_any _ _ _ _ _ HV2q.out HV1q.out (by have := HL2.out; omega) hle).mono ?_
    rintro e w3 ⟨v3, rfl, hv3, hb3⟩
    obtain ⟨a3, k3, c3, rfl⟩ := hv3.shape
    go_wp2_with fail
    refine (HM2.out _).mono ?_
    rintro e w1' ⟨rfl, rfl⟩
    go_wp2_with fail
    refine (text_R _ _ q _ _ hv3 (by have := HS.out (n - m) (by omega); omega) HZ.out).mono ?_
    rintro e w4 ⟨rfl, hb4⟩
    go_wp2
    go_ret
    exact ⟨rfl, (hBq.trans (hb3.mono hBq.size)).trans (hb4.mono (Nat.le_trans hBq.size hb3.size))⟩
  · obtain ⟨cc, hcc⟩ : ∃ cc, cc = cmpN m n := ⟨_, rfl⟩
    rw [← hcc] at hc
    have HCC := Lib.hid hcc
    have HZ := Lib.hid hz
    clear HC hz hcc
    have hpp : (p == q) = false := by subst hp; simp
    clear hp
    have hge : ¬ cc < 0 := by omega
    go_wp2_with fail
    refine (rorder_any _ _ _ _ _ HV1.out HV2.out (by have := HL1.out; omega) (by have := HL2.out; omega)).mono ?_
    rintro e w3 ⟨he, nn, rfl⟩
    rw [← HCC.out] at he
    subst he
    have HV1q := Lib.hid (HV1.out.keep (w' := w2.drewN nn) ⟨rfl, rfl, rfl, Nat.le_refl _, fun _ _ => rfl⟩)
    have HV2q := Lib.hid (HV2.out.keep (w' := w2.drewN nn) ⟨rfl, rfl, rfl, Nat.le_refl _, fun _ _ => rfl⟩)
    have hBq : Below w.heap.size w (w2.drewN nn) := hB2.trans ⟨rfl, rfl, rfl, Nat.le_refl _, fun _ _ => rfl⟩
    go_wp2_with fail
    refine (rtaken_any _ _ _ _ _ HV1q.out HV2q.out (by have := HL1.out; omega) hle).mono ?_
    rintro e w3 ⟨v3, rfl, hv3, hb3⟩
    obtain ⟨a3, k3, c3, rfl⟩ := hv3.shape
    go_wp2_with fail
    refine (HM1.out _).mono ?_
    rintro e w1' ⟨rfl, rfl⟩
    go_wp2_with fail
    refine (text_R _ _ p _ _ hv3 (by have := HS.out (m - n) (by omega); omega) HZ.out).mono ?_
    rintro e w4 ⟨rfl, hb4⟩
    go_wp2
    go_ret
    exact ⟨rfl, (hBq.trans (hb3.mono hBq.size)).trans (hb4.mono (Nat.le_trans hBq.size hb3.size))⟩

set_option maxRecDepth 100000 in
theorem rless_any {d : Nat} (a b : Int) (ha : Few d a) (hb : Few d b) (h1 : 1 ≤ d) (hd : d ≤ 100000) (w : World) : Calls Tryd.prog 63 #[.string (T a), .string (T b)] w (OutR w (T (a - b))) := by
  have HT := Lib.hid (turned_any b hb h1 hd)
  have HP := Lib.hid (rplus_any a (-b) ha hb.neg h1 hd)
  rw [show a - b = a + -b by omega]
  generalize T (a + -b) = S at *
  generalize T (-b) = Z at *
  generalize T a = X at *
  generalize T b = Y at *
  clear ha hb
  go_enter Tryd.func63, Tryd.ntmps63
  go_wp2_with fail
  refine (HT.out _).mono ?_
  rintro e w1 ⟨rfl, hb1⟩
  go_wp2_with fail
  refine (HP.out _).mono ?_
  rintro e w2 ⟨rfl, hb2⟩
  go_wp2
  go_ret
  exact ⟨rfl, hb1.trans (hb2.mono hb1.size)⟩
end Go.Proofs.YtbmonfbbkmpdhaaDoor

namespace Go.Proofs.YtbmonfbbkmpdhaaDoor
open Go.RowKit Go.Proofs.Num

theorem T_naught : T 0 = ⟨#[48]⟩ := by
  unfold T Lib.itoa
  rw [if_neg (by omega), Lib.decDigits]; rfl

theorem canon (s : ByteArray) (h : chk s.data.toList = 0) : ∃ z d, s = T z ∧ z = parse s.data.toList ∧ 1 ≤ d ∧ d = 1024 ∧ Few d z := by
  refine ⟨parse s.data.toList, 1024, of_chk s h, rfl, by omega, rfl, ?_⟩
  have h2 := (chk_cases _ h).2
  generalize (parse s.data.toList) = z at *
  generalize (1024 : Nat) = d at *
  unfold Few
  by_cases h0 : z.natAbs = 0
  · rw [h0]; exact Nat.pow_pos (by omega)
  · rw [nDigits_dig h0] at h2
    exact Nat.lt_of_lt_of_le (lt_pow_dig (b := 10) (by omega) _) (Nat.pow_le_pow_right (by omega) h2)

set_option maxRecDepth 100000 in
theorem rorderT {d : Nat} (a b : Int) (ha : Few d a) (hb : Few d b) (h1 : 1 ≤ d) (hd : d ≤ 90000) (w : World) :
    Calls Tryd.prog 48 #[.string (T a), .string (T b)] w fun e w' => e = .returned (.int .i64 (cmpZ a b)) ∧ Below w.heap.size w w' := by
  have HLs := Lib.hid (rless_any a b ha hb h1 (by omega))
  have HM := Lib.hid (minus_any (a - b))
  have heq := eq_T (a - b) 0
  rw [T_naught, Lib.toList_data ⟨#[48]⟩] at heq
  change (_ == [48]) = _ at heq
  have hc : (a - b < 0 ∧ cmpZ a b = -1) ∨ (a - b = 0 ∧ cmpZ a b = 0) ∨ (0 < a - b ∧ cmpZ a b = 1) := by
    rcases cmp_ways a b with ⟨h, -, g⟩ | ⟨h, -, g⟩ | ⟨h, -, g⟩
    · exact .inl ⟨by omega, h⟩
    · exact .inr (.inl ⟨by omega, h⟩)
    · exact .inr (.inr ⟨by omega, h⟩)
  generalize a - b = z at *
  generalize cmpZ a b = c at *
  generalize T a = X at *
  generalize T b = Y at *
  generalize T z = Z at *
  clear ha hb
  rcases hc with ⟨hz, hc⟩ | ⟨hz, hc⟩ | ⟨hz, hc⟩
  · subst hc
    rw [decide_eq_false (by omega)] at heq
    rw [decide_eq_true hz] at HM
    clear hz
    go_enter Tryd.func48, Tryd.ntmps48
    go_wp2_with fail
    refine (HLs.out _).mono ?_
    rintro e w1 ⟨rfl, hb1⟩
    go_wp2_with fail
    refine (HM.out _).mono ?_
    rintro e w1' ⟨rfl, rfl⟩
    go_wp2
    go_ret
    exact ⟨rfl, hb1⟩
  · subst hc
    rw [decide_eq_true hz] at heq
    clear hz HM
    go_enter Tryd.func48, Tryd.ntmps48
    go_wp2_with fail
    refine (HLs.out _).mono ?_
    rintro e w1 ⟨rfl, hb1⟩
    go_wp2
    go_ret
    exact ⟨rfl, hb1⟩
  · subst hc
    rw [decide_eq_false (by omega)] at heq
    rw [decide_eq_false (by omega)] at HM
    clear hz
    go_enter Tryd.func48, Tryd.ntmps48
    go_wp2_with fail
    refine (HLs.out _).mono ?_
    rintro e w1 ⟨rfl, hb1⟩
    go_wp2_with fail
    refine (HM.out _).mono ?_
    rintro e w1' ⟨rfl, rfl⟩
    go_wp2
    go_ret
    exact ⟨rfl, hb1⟩

set_option maxRecDepth 100000 in
theorem rbounded {d : Nat} (z : Int) (h : Few d z) (h1 : 1 ≤ d) (hd : d ≤ 100000) (w : World) :
    Calls Tryd.prog 60 #[.string (T z)] w (TextOut w (tx z) (te z)) := by
  have HD := Lib.hid (digits_T h h1 hd)
  have hl : (dig 10 z.natAbs).length ≤ 100000 := by have := few_len h; omega
  have hc : ((dig 10 z.natAbs).length ≤ 1024 ∧ str (tx z) = .string (T z) ∧ te z = 0) ∨ (1024 < (dig 10 z.natAbs).length ∧ tx z = [] ∧ te z = 11) := by
    have hd : z.natAbs ≠ 0 → Lib.nDigits z.natAbs = (dig 10 z.natAbs).length := nDigits_dig
    unfold tx te
    by_cases h0 : z.natAbs = 0
    · rw [h0, dig_zero, Lib.nDigits_small (by omega)]
      exact .inl ⟨by simp, rfl, rfl⟩
    · rw [hd h0]
      by_cases h2 : 1024 < (dig 10 z.natAbs).length
      · rw [if_pos h2, if_pos h2]; exact .inr ⟨h2, rfl, rfl⟩
      · rw [if_neg h2, if_neg h2]; exact .inl ⟨by omega, rfl, rfl⟩
  unfold TextOut
  generalize hS : str (tx z) = S at *
  generalize te z = c at *
  generalize tx z = t at *
  generalize T z = X at *
  clear h
  obtain ⟨n, hn⟩ : ∃ n, n = z.natAbs := ⟨_, rfl⟩
  rw [← hn] at HD hl hc
  clear hn
  rcases hc with ⟨h2, h3, h4⟩ | ⟨h2, h3, h4⟩
  · subst h4 h3
    clear hS
    go_enter Tryd.func60, Tryd.ntmps60
    go_wp2_with fail
    refine (HD.out _).mono ?_
    rintro e w1 ⟨v, rfl, hv, hb1⟩
    obtain ⟨a', c', rfl⟩ := Rd.shape hv
    clear hv
    go_wp2
    go_ret2
    exact ⟨rfl, hb1⟩
  · subst h4 h3 hS
    go_enter Tryd.func60, Tryd.ntmps60
    go_wp2_with fail
    refine (HD.out _).mono ?_
    rintro e w1 ⟨v, rfl, hv, hb1⟩
    obtain ⟨a', c', rfl⟩ := Rd.shape hv
    clear hv
    go_wp2
    go_ret2
    exact ⟨rfl, hb1⟩

set_option maxRecDepth 100000 in
theorem rchecked (s r : ByteArray) (hs : s.size ≤ 9223372036854775807) (hr : r.size ≤ 9223372036854775807) (w : World) :
    Calls Tryd.prog 53 #[.string s, .string r] w fun e w' => e = .returned (.int .i64 ((chk2 s.data.toList r.data.toList : Nat) : Int)) ∧ w = w' := by
  have H1 := Lib.hid (fun w => rcheck_any s w hs)
  have H2 := Lib.hid (fun w => rcheck_any r w hr)
  unfold chk2
  generalize chk s.data.toList = x at *
  generalize chk r.data.toList = y at *
  by_cases h : x = 0
  · subst h
    rw [if_neg (by simp)]
    go_enter Tryd.func53, Tryd.ntmps53
    go_wp2_with fail
    refine (H1.out _).mono ?_
    rintro e w1 ⟨rfl, rfl⟩
    go_wp2_with fail
    refine (H2.out _).mono ?_
    rintro e w1 ⟨rfl, rfl⟩
    go_wp2
    go_ret
    exact ⟨rfl, rfl⟩
  · rw [if_pos h]
    have hx : ¬ ((x : Nat) : Int) = 0 := by omega
    have hx1 : ((x : Int) == 0) = false := beq_eq_false_iff_ne.2 hx
    go_enter Tryd.func53, Tryd.ntmps53
    go_wp2_with fail
    refine (H1.out _).mono ?_
    rintro e w1 ⟨rfl, rfl⟩
    go_wp2
    go_ret
    exact ⟨rfl, rfl⟩

set_option maxRecDepth 100000 in
theorem radd_any (s r : ByteArray) (hs : s.size ≤ 9223372036854775807) (hr : r.size ≤ 9223372036854775807) (w : World) :
    Calls Tryd.prog 24 #[.string s, .string r] w (TextOut w (op2 (· + ·) s.data.toList r.data.toList).1 (op2 (· + ·) s.data.toList r.data.toList).2) := by
  have HK := Lib.hid (fun w => rchecked s r hs hr w)
  unfold op2
  by_cases h : chk2 s.data.toList r.data.toList = 0
  · obtain ⟨c1, c2⟩ := chk2_zero h
    rw [if_neg (by rw [c1]; simp), if_neg (by rw [c2]; simp)]
    rw [h] at HK
    obtain ⟨x, d, hx1, hx2, hd1, hd2, hx⟩ := canon s c1
    obtain ⟨y, d', hy1, hy2, hd1', hd2', hy⟩ := canon r c2
    obtain rfl : d' = d := by omega
    rw [← hx2, ← hy2]
    have HP := Lib.hid (fun w => rplus_any x y hx hy hd1 (by omega) w)
    have hz : Few (d' + 1) (x + y) := Few.add hx hy
    have HB := Lib.hid (fun w => rbounded (x + y) hz (by omega) (by omega) w)
    rw [← hx1, ← hy1] at HP
    clear c1 c2 h hx1 hy1 hx2 hy2 hx hy hz
    show Calls _ _ _ _ fun e w' => e = .returned (.tuple #[str (tx (x + y)), .int .i64 ((te (x + y) : Nat) : Int)]) ∧ Below w.heap.size w w'
    unfold TextOut at HB
    generalize x + y = z at *
    generalize T z = Z at *
    generalize tx z = t at *
    generalize te z = c at *
    go_enter Tryd.func24, Tryd.ntmps24
    go_wp2_with fail
    refine (HK.out _).mono ?_
    rintro e w1 ⟨rfl, rfl⟩
    go_wp2_with fail
    refine (HP.out _).mono ?_
    rintro e w1 ⟨rfl, hb1⟩
    go_wp2_with fail
    refine (HB.out _).mono ?_
    rintro e w2 ⟨rfl, hb2⟩
    go_wp2
    go_ret2
    exact ⟨rfl, hb1.trans (hb2.mono hb1.size)⟩
  · have hc : ∀ q : List UInt8 × Nat, (if chk s.data.toList ≠ 0 then (([] : List UInt8), chk s.data.toList) else if chk r.data.toList ≠ 0 then ([], chk r.data.toList) else q) = ([], chk2 s.data.toList r.data.toList) := by
      intro q
      unfold chk2 at h ⊢
      by_cases c1 : chk s.data.toList = 0
      · rw [if_neg (by rw [c1]; simp)] at h
        rw [if_neg (by rw [c1]; simp), if_pos h, if_neg (by rw [c1]; simp)]
      · rw [if_pos c1, if_pos c1]
    rw [hc]
    clear hc
    generalize chk2 s.data.toList r.data.toList = c at *
    have hx : ¬ ((c : Nat) : Int) = 0 := by omega
    have hx1 : ((c : Int) == 0) = false := beq_eq_false_iff_ne.2 hx
    unfold TextOut
    go_enter Tryd.func24, Tryd.ntmps24
    go_wp2_with fail
    refine (HK.out _).mono ?_
    rintro e w1 ⟨rfl, rfl⟩
    go_wp2
    go_ret2
    exact ⟨rfl, Below.refl _ _⟩

set_option maxRecDepth 100000 in
theorem rsub_any (s r : ByteArray) (hs : s.size ≤ 9223372036854775807) (hr : r.size ≤ 9223372036854775807) (w : World) :
    Calls Tryd.prog 26 #[.string s, .string r] w (TextOut w (op2 (· - ·) s.data.toList r.data.toList).1 (op2 (· - ·) s.data.toList r.data.toList).2) := by
  have HK := Lib.hid (fun w => rchecked s r hs hr w)
  unfold op2
  by_cases h : chk2 s.data.toList r.data.toList = 0
  · obtain ⟨c1, c2⟩ := chk2_zero h
    rw [if_neg (by rw [c1]; simp), if_neg (by rw [c2]; simp)]
    rw [h] at HK
    obtain ⟨x, d, hx1, hx2, hd1, hd2, hx⟩ := canon s c1
    obtain ⟨y, d', hy1, hy2, hd1', hd2', hy⟩ := canon r c2
    obtain rfl : d' = d := by omega
    rw [← hx2, ← hy2]
    have HP := Lib.hid (fun w => rless_any x y hx hy hd1 (by omega) w)
    have hz : Few (d' + 1) (x - y) := Few.sub hx hy
    have HB := Lib.hid (fun w => rbounded (x - y) hz (by omega) (by omega) w)
    rw [← hx1, ← hy1] at HP
    clear c1 c2 h hx1 hy1 hx2 hy2 hx hy hz
    show Calls _ _ _ _ fun e w' => e = .returned (.tuple #[str (tx (x - y)), .int .i64 ((te (x - y) : Nat) : Int)]) ∧ Below w.heap.size w w'
    unfold TextOut at HB
    generalize x - y = z at *
    generalize T z = Z at *
    generalize tx z = t at *
    generalize te z = c at *
    go_enter Tryd.func26, Tryd.ntmps26
    go_wp2_with fail
    refine (HK.out _).mono ?_
    rintro e w1 ⟨rfl, rfl⟩
    go_wp2_with fail
    refine (HP.out _).mono ?_
    rintro e w1 ⟨rfl, hb1⟩
    go_wp2_with fail
    refine (HB.out _).mono ?_
    rintro e w2 ⟨rfl, hb2⟩
    go_wp2
    go_ret2
    exact ⟨rfl, hb1.trans (hb2.mono hb1.size)⟩
  · have hc : ∀ q : List UInt8 × Nat, (if chk s.data.toList ≠ 0 then (([] : List UInt8), chk s.data.toList) else if chk r.data.toList ≠ 0 then ([], chk r.data.toList) else q) = ([], chk2 s.data.toList r.data.toList) := by
      intro q
      unfold chk2 at h ⊢
      by_cases c1 : chk s.data.toList = 0
      · rw [if_neg (by rw [c1]; simp)] at h
        rw [if_neg (by rw [c1]; simp), if_pos h, if_neg (by rw [c1]; simp)]
      · rw [if_pos c1, if_pos c1]
    rw [hc]
    clear hc
    generalize chk2 s.data.toList r.data.toList = c at *
    have hx : ¬ ((c : Nat) : Int) = 0 := by omega
    have hx1 : ((c : Int) == 0) = false := beq_eq_false_iff_ne.2 hx
    unfold TextOut
    go_enter Tryd.func26, Tryd.ntmps26
    go_wp2_with fail
    refine (HK.out _).mono ?_
    rintro e w1 ⟨rfl, rfl⟩
    go_wp2
    go_ret2
    exact ⟨rfl, Below.refl _ _⟩

/-- The order of two texts, or the first error. -/
def cmpR (l m : List UInt8) : Int × Nat := if chk2 l m ≠ 0 then (0, chk2 l m) else (cmpZ (parse l) (parse m), 0)

set_option maxRecDepth 100000 in
theorem rcompare_any (s r : ByteArray) (hs : s.size ≤ 9223372036854775807) (hr : r.size ≤ 9223372036854775807) (w : World) :
    Calls Tryd.prog 18 #[.string s, .string r] w fun e w' => e = .returned (.tuple #[.int .i64 (cmpR s.data.toList r.data.toList).1, .int .i64 (((cmpR s.data.toList r.data.toList).2 : Nat) : Int)]) ∧ Below w.heap.size w w' := by
  have HK := Lib.hid (fun w => rchecked s r hs hr w)
  unfold cmpR
  by_cases h : chk2 s.data.toList r.data.toList = 0
  · obtain ⟨c1, c2⟩ := chk2_zero h
    rw [if_neg (by rw [h]; simp)]
    rw [h] at HK
    obtain ⟨x, d, hx1, hx2, hd1, hd2, hx⟩ := canon s c1
    obtain ⟨y, d', hy1, hy2, hd1', hd2', hy⟩ := canon r c2
    obtain rfl : d' = d := by omega
    rw [← hx2, ← hy2]
    have HP := Lib.hid (fun w => rorderT x y hx hy hd1 (by omega) w)
    rw [← hx1, ← hy1] at HP
    clear c1 c2 h hx1 hy1 hx2 hy2 hx hy
    generalize cmpZ x y = c at *
    go_enter Tryd.func18, Tryd.ntmps18
    go_wp2_with fail
    refine (HK.out _).mono ?_
    rintro e w1 ⟨rfl, rfl⟩
    go_wp2_with fail
    refine (HP.out _).mono ?_
    rintro e w1 ⟨rfl, hb1⟩
    go_wp2
    go_ret2
    exact ⟨rfl, hb1⟩
  · rw [if_pos h]
    generalize chk2 s.data.toList r.data.toList = c at *
    have hx : ¬ ((c : Nat) : Int) = 0 := by omega
    have hx1 : ((c : Int) == 0) = false := beq_eq_false_iff_ne.2 hx
    go_enter Tryd.func18, Tryd.ntmps18
    go_wp2_with fail
    refine (HK.out _).mono ?_
    rintro e w1 ⟨rfl, rfl⟩
    go_wp2
    go_ret2
    exact ⟨rfl, Below.refl _ _⟩
end Go.Proofs.YtbmonfbbkmpdhaaDoor
