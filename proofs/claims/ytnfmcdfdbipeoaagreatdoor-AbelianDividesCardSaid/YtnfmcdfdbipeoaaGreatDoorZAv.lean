/- Abelian groups: orders of elements, in the reference. -/
import Derived.Test.YtnfmcdfdbipeoaaGreatDoorQ32
import Derived.Test.YtnfmcdfdbipeoaaGreatDoorZAu
import Derived.Test.YtnfmcdfdbipeoaaGreatDoorZOe
namespace Go.Proofs.YtnfmcdfdbipeoaaGreatDoor
open Go.RowKit Go.Proofs.Num


theorem rorder_right (s r : ByteArray) (hs : ck s = 0) (hr : ck r = 0) (w : World) : Calls Tryz.prog 26 #[.string s, .string r] w (fun e w' => e = .returned (.int .i64 (cmpZ (pz s) (pz r))) ∧ Below w.heap.size w w') := by
  obtain ⟨d, hd⟩ : ∃ d : Nat, d = 1024 := ⟨_, rfl⟩
  have := rorderT (pz s) (pz r) (right_few hs d hd) (right_few hr d hd) (by omega) (by omega) w
  rw [← right_T hs, ← right_T hr] at this
  exact this
/-- In. -/
theorem rinck_any (a b : Option Addr) (cap cap2 : Nat) (L G : List ByteArray) (hG : gck fck G = 0) (hsz2 : ∀ j, j < L.length → (sat L j).size ≤ 9223372036854775807) (w : World) (h : TsAt w a G) (h2 : TsAt w b L) :
    Calls Tryz.prog 80 #[.slice a G.length cap, .slice b L.length cap2] w (fun e w' => e = .returned (.int .i64 ((inC L G : Nat) : Int)) ∧ Below w.heap.size w w') := by
  have hl := (gck_right hG).1
  by_cases hn : L.length = G.length
  · have e : inC L G = fer (ie L G) G.length := by unfold inC; rw [if_neg (by simp [hn])]
    rw [e]
    have HC : ∀ j, j < G.length → ck (sat L j) = 0 → ∀ w, Calls Tryz.prog 44 #[.string (sat L j)] w (fun e w' => e = .returned (.int .i64 0) ∧ Below w.heap.size w w') := fun j hj h0 w => by
      have := rcheck_right (sat L j) (hsz2 j (by omega)) w
      rw [h0] at this
      exact this
    have HZ : ∀ j, j < G.length → ie L G j = 0 → 0 ≤ pz (sat L j) ∧ pz (sat L j) < pz (sat G j) := fun j hj h0 => (rz_self _ _ (by have := (right_at hG j hj).2; omega)).1 (ie_zero h0).2
    have HM : ∀ j, j < G.length → ie L G j = 0 → ∀ w, Calls Tryz.prog 61 #[.string (sat L j)] w (fun e w' => e = .returned (.bool false) ∧ w = w') := fun j hj h0 w => by
      have := rminus_right (sat L j) (ie_zero h0).1 w
      rw [decide_eq_false (by have := (HZ j hj h0).1; omega)] at this
      exact this
    have HN : ∀ j, j < G.length → ie L G j = 0 → cmpZ (pz (sat L j)) (pz (sat G j)) < 0 := fun j hj h0 => by
      unfold cmpZ
      rw [if_pos (HZ j hj h0).2]
      omega
    rcases fer_ways (ie L G) G.length with ⟨e1, h3⟩ | ⟨q, hq, h3, h4, e1⟩
    · rw [e1]
      exact rin_ok a b cap cap2 L G hn (by omega) (Lib.hid fun j hj w => HC j hj (ie_zero (h3 j hj)).1 w) (Lib.hid fun j hj w => HM j hj (h3 j hj) w) (fun j => cmpZ (pz (sat L j)) (pz (sat G j))) (Lib.hid fun j hj => HN j hj (h3 j hj))
        (Lib.hid fun j hj w => rorder_right _ _ (ie_zero (h3 j hj)).1 (right_at hG j hj).1 w) w h h2
    · rw [e1]
      have hr := right_at hG q hq
      by_cases hc : ck (sat L q) = 0
      · have h5 : rz (pz (sat L q)) (pz (sat G q)) ≠ pz (sat L q) := by
          intro h5
          apply h4
          unfold ie
          rw [if_neg (by simp [hc]), if_neg (by simp [h5])]
        have e2 : ie L G q = 2 := by unfold ie; rw [if_neg (by simp [hc]), if_pos h5]
        rw [e2]
        have hm := rminus_right (sat L q) hc
        by_cases h6 : pz (sat L q) < 0
        · rw [decide_eq_true h6] at hm
          exact rin_neg a b cap cap2 L G hn (by omega) q hq (Lib.hid fun j hj w => HC j (by omega) (ie_zero (h3 j hj)).1 w) (Lib.hid fun j hj w => HM j (by omega) (h3 j hj) w) (fun j => cmpZ (pz (sat L j)) (pz (sat G j))) (Lib.hid fun j hj => HN j (by omega) (h3 j hj))
            (Lib.hid fun j hj w => rorder_right _ _ (ie_zero (h3 j hj)).1 (right_at hG j (by omega)).1 w) (Lib.hid fun w => HC q hq hc w) (Lib.hid hm) w h h2
        · rw [decide_eq_false h6] at hm
          have h7 : ¬ pz (sat L q) < pz (sat G q) := fun h7 => h5 ((rz_self _ _ (by omega)).2 ⟨by omega, h7⟩)
          exact rin_big a b cap cap2 L G hn (by omega) q hq (cmpZ (pz (sat L q)) (pz (sat G q))) (by unfold cmpZ; rw [if_neg h7]; split <;> omega) (Lib.hid fun j hj w => HC j (by omega) (ie_zero (h3 j hj)).1 w) (Lib.hid fun j hj w => HM j (by omega) (h3 j hj) w) (fun j => cmpZ (pz (sat L j)) (pz (sat G j))) (Lib.hid fun j hj => HN j (by omega) (h3 j hj))
            (Lib.hid fun j hj w => rorder_right _ _ (ie_zero (h3 j hj)).1 (right_at hG j (by omega)).1 w) (Lib.hid fun w => HC q hq hc w) (Lib.hid hm) (Lib.hid fun w => rorder_right _ _ hc hr.1 w) w h h2
      · have e2 : ie L G q = ck (sat L q) := by unfold ie; rw [if_pos hc]
        rw [e2]
        exact rin_one a b cap cap2 L G hn (by omega) q hq _ hc (Lib.hid fun j hj w => HC j (by omega) (ie_zero (h3 j hj)).1 w) (Lib.hid fun j hj w => HM j (by omega) (h3 j hj) w) (fun j => cmpZ (pz (sat L j)) (pz (sat G j))) (Lib.hid fun j hj => HN j (by omega) (h3 j hj))
          (Lib.hid fun j hj w => rorder_right _ _ (ie_zero (h3 j hj)).1 (right_at hG j (by omega)).1 w) (Lib.hid fun w => rcheck_right _ (hsz2 q (by omega)) w) w h h2
  · have e : inC L G = 8 := by unfold inC; rw [if_pos hn]
    rw [e]
    exact rin_shape a b G.length L.length cap cap2 hn w

set_option maxHeartbeats 3200000 in
set_option maxRecDepth 100000 in
theorem rzero_true (a : Option Addr) (cap : Nat) (L : List ByteArray) (hl : L.length ≤ 4096) (HO : Hid (∀ j, j < L.length → ((sat L j).toList == [48]) = true)) (w : World) (h : TsAt w a L) :
    Calls Tryz.prog 47 #[.slice a L.length cap] w (fun e w' => e = .returned (.bool true) ∧ w = w') := by
  have H := Lib.hid h
  clear h
  go_enter Tryz.func47, Tryz.ntmps47
  go_wp2
  go_loop [3] (fun v => ∃ i : Nat, i ≤ L.length ∧ v = .int .i64 i) (fun v => L.length - (intOf v).toNat)
  case atStart => exact ⟨0, Nat.zero_le _, rfl⟩
  case round =>
    obtain ⟨i, hi, rfl⟩ := hrel
    by_cases hlt : i < L.length
    · have hiL : i < L.length := by omega
      obtain ⟨b, off, rfl, hb, hc⟩ := H.out i hiL
      have hq := HO.out i hlt
      go_wp2
      go_round
      case rel => exact ⟨i + 1, by omega, by go_num⟩
      case measure => simp [intOf]; omega
    · obtain rfl : i = L.length := by omega
      go_wp2
      go_ret
      exact ⟨rfl, rfl⟩

set_option maxHeartbeats 3200000 in
set_option maxRecDepth 100000 in
theorem rzero_false (a : Option Addr) (cap : Nat) (L : List ByteArray) (hl : L.length ≤ 4096) (p : Nat) (hp : p < L.length) (hpz : ((sat L p).toList == [48]) = false) (HO : Hid (∀ j, j < p → ((sat L j).toList == [48]) = true)) (w : World) (h : TsAt w a L) :
    Calls Tryz.prog 47 #[.slice a L.length cap] w (fun e w' => e = .returned (.bool false) ∧ w = w') := by
  have H := Lib.hid h
  clear h
  go_enter Tryz.func47, Tryz.ntmps47
  go_wp2
  go_loop [3] (fun v => ∃ i : Nat, i ≤ p ∧ v = .int .i64 i) (fun v => p - (intOf v).toNat)
  case atStart => exact ⟨0, Nat.zero_le _, rfl⟩
  case round =>
    obtain ⟨i, hi, rfl⟩ := hrel
    by_cases hlt : i < p
    · have hiL : i < L.length := by omega
      obtain ⟨b, off, rfl, hb, hc⟩ := H.out i hiL
      have hq := HO.out i hlt
      go_wp2
      go_round
      case rel => exact ⟨i + 1, by omega, by go_num⟩
      case measure => simp [intOf]; omega
    · obtain rfl : i = p := by omega
      obtain ⟨b, off, rfl, hb, hc⟩ := H.out i hp
      go_wp2
      go_ret
      exact ⟨rfl, rfl⟩

set_option maxHeartbeats 3200000 in
set_option maxRecDepth 100000 in
theorem rperiod (a b : Option Addr) (c1 c2 : Nat) (L G : List ByteArray) (hL : L.length = G.length) (_ : G.length ≤ 4096) (m : Nat) (hm0 : 0 < m) (hm : m ≤ 100000) (X : Nat → List ByteArray) (HXl : Hid (∀ k, (X k).length = G.length)) (H1 : Hid (∀ w, TsAt w b L → TsAt w b (X 1)))
    (HZ : Hid (∀ k, 0 < k → k < m → ∀ w a c, TsAt w a (X k) → Calls Tryz.prog 47 #[.slice a G.length c] w (fun e w' => e = .returned (.bool false) ∧ w = w'))) (HE : Hid (∀ w a c, TsAt w a (X m) → Calls Tryz.prog 47 #[.slice a G.length c] w (fun e w' => e = .returned (.bool true) ∧ w = w')))
    (HP : Hid (∀ k, 0 < k → k < m → ∀ w a' c', TsAt w a' (X k) → TsAt w a G → TsAt w b L → Calls Tryz.prog 81 #[.slice a G.length c1, .slice a' G.length c', .slice b G.length c2] w (GivesL w (X (k + 1))))) (w : World) (h : TsAt w a G) (h2 : TsAt w b L) :
    Calls Tryz.prog 92 #[.slice a G.length c1, .slice b L.length c2] w (fun e w' => e = .returned (.int .i64 ((m : Nat) : Int)) ∧ Below w.heap.size w w') := by
  rw [hL]
  have HG := Lib.hid h
  have HB := Lib.hid h2
  clear h h2 hL
  go_enter Tryz.func92, Tryz.ntmps92
  go_wp2
  go_loopw [5, 6] (fun v l wr => ∃ (k : Nat) (a' : Option Addr) (c' : Nat), 0 < k ∧ k ≤ m ∧ l = .int .i64 k ∧ v = .slice a' G.length c' ∧ TsAt wr a' (X k) ∧ Below w.heap.size w wr) (fun _ l _ => m - (intOf l).toNat)
  case atStart => exact ⟨1, b, c2, by omega, by omega, rfl, rfl, H1.out _ HB.out, Below.refl _ _⟩
  case round =>
    obtain ⟨k, a', c', hk0, hkm, rfl, rfl, hts, hB⟩ := hrel
    have HT := Lib.hid hts
    have hk9 : ((k : Nat) : Int) ≤ 100000 := by omega
    clear hts
    by_cases hlt : k < m
    · have Z := Lib.hid (HZ.out k hk0 hlt)
      have PP := Lib.hid (HP.out k hk0 hlt)
      go_wp2_with fail
      refine (Z.out _ _ _ HT.out).mono ?_
      rintro e w1 ⟨rfl, rfl⟩
      go_wp2_with fail
      refine (PP.out _ _ _ HT.out (HG.out.keep hB) (HB.out.keep hB)).mono ?_
      rintro e w2 ⟨a2, c2', rfl, hz, hb2⟩
      have hB2 : Below w.heap.size w w2 := hB.trans (hb2.mono hB.size)
      have HZ2 := Lib.hid hz
      clear hb2 hz
      go_wp2
      go_roundw
      case rel => exact ⟨k + 1, a2, c2', by omega, by omega, by go_num, by rw [← HXl.out (k + 1)], HZ2.out, hB2⟩
      case measure => simp [intOf]; omega
    · obtain rfl : k = m := by omega
      go_wp2_with fail
      refine (HE.out _ _ _ HT.out).mono ?_
      rintro e w1 ⟨rfl, rfl⟩
      go_wp2
      go_ret
      exact ⟨rfl, hB⟩

set_option maxHeartbeats 3200000 in
set_option maxRecDepth 100000 in
theorem rorderOf_err (a b : Option Addr) (cap cap2 : Nat) (L G : List ByteArray) (k : Nat) (hk : k ≠ 0) (HC : Hid (∀ w, TsAt w a G → Calls Tryz.prog 23 #[.slice a G.length cap] w (fun e w' => e = .returned (.int .i64 ((k : Nat) : Int)) ∧ Below w.heap.size w w'))) (w : World) (h : TsAt w a G) :
    Calls Tryz.prog 42 #[.slice a G.length cap, .slice b L.length cap2] w (fun e w' => e = .returned (.tuple #[.string ⟨#[]⟩, .int .i64 ((k : Nat) : Int)]) ∧ Below w.heap.size w w') := by
  have H := Lib.hid h
  clear h
  have hk0 : ¬ ((k : Nat) : Int) = 0 := by omega
  have hk1 : (((k : Nat) : Int) != 0) = true := by simp; omega
  clear hk
  go_enter Tryz.func42, Tryz.ntmps42
  have hB0 : Below w.heap.size w w := Below.refl _ _
  go_wp2_with fail
  refine (HC.out _ (H.out.keep hB0)).mono ?_
  rintro e w1 ⟨rfl, hb1⟩
  have hB1 : Below w.heap.size w w1 := hB0.trans (hb1.mono hB0.size)
  clear hb1
  go_wp2
  go_ret2
  exact ⟨rfl, hB1⟩

set_option maxHeartbeats 3200000 in
set_option maxRecDepth 100000 in
theorem rorderOf_in (a b : Option Addr) (cap cap2 : Nat) (L G : List ByteArray) (k : Nat) (hk : k ≠ 0) (HC : Hid (∀ w, TsAt w a G → Calls Tryz.prog 23 #[.slice a G.length cap] w (fun e w' => e = .returned (.int .i64 0) ∧ Below w.heap.size w w'))) (HI : Hid (∀ w, TsAt w a G → TsAt w b L → Calls Tryz.prog 80 #[.slice a G.length cap, .slice b L.length cap2] w (fun e w' => e = .returned (.int .i64 ((k : Nat) : Int)) ∧ Below w.heap.size w w'))) (w : World) (h : TsAt w a G) (h2 : TsAt w b L) :
    Calls Tryz.prog 42 #[.slice a G.length cap, .slice b L.length cap2] w (fun e w' => e = .returned (.tuple #[.string ⟨#[]⟩, .int .i64 ((k : Nat) : Int)]) ∧ Below w.heap.size w w') := by
  have H := Lib.hid h
  have H2 := Lib.hid h2
  clear h h2
  have hk0 : ¬ ((k : Nat) : Int) = 0 := by omega
  have hk1 : (((k : Nat) : Int) != 0) = true := by simp; omega
  clear hk
  go_enter Tryz.func42, Tryz.ntmps42
  have hB0 : Below w.heap.size w w := Below.refl _ _
  go_wp2_with fail
  refine (HC.out _ (H.out.keep hB0)).mono ?_
  rintro e w1 ⟨rfl, hb1⟩
  have hB1 : Below w.heap.size w w1 := hB0.trans (hb1.mono hB0.size)
  clear hb1
  go_wp2_with fail
  refine (HI.out _ (H.out.keep hB1) (H2.out.keep hB1)).mono ?_
  rintro e w2 ⟨rfl, hb2⟩
  have hB2 : Below w.heap.size w w2 := hB1.trans (hb2.mono hB1.size)
  clear hb2
  go_wp2
  go_ret2
  exact ⟨rfl, hB2⟩

set_option maxHeartbeats 3200000 in
set_option maxRecDepth 100000 in
theorem rorderOf_ok (a b : Option Addr) (cap cap2 : Nat) (L G : List ByteArray) (m : Int) (S : ByteArray) (HC : Hid (∀ w, TsAt w a G → Calls Tryz.prog 23 #[.slice a G.length cap] w (fun e w' => e = .returned (.int .i64 0) ∧ Below w.heap.size w w'))) (HI : Hid (∀ w, TsAt w a G → TsAt w b L → Calls Tryz.prog 80 #[.slice a G.length cap, .slice b L.length cap2] w (fun e w' => e = .returned (.int .i64 0) ∧ Below w.heap.size w w'))) (HP : Hid (∀ w, TsAt w a G → TsAt w b L → Calls Tryz.prog 92 #[.slice a G.length cap, .slice b L.length cap2] w (fun e w' => e = .returned (.int .i64 m) ∧ Below w.heap.size w w'))) (HO : Hid (∀ w, Calls Tryz.prog 28 #[.int .i64 m] w (fun e w' => e = .returned (.string S) ∧ Below w.heap.size w w'))) (w : World) (h : TsAt w a G) (h2 : TsAt w b L) :
    Calls Tryz.prog 42 #[.slice a G.length cap, .slice b L.length cap2] w (fun e w' => e = .returned (.tuple #[.string S, .int .i64 0]) ∧ Below w.heap.size w w') := by
  have H := Lib.hid h
  have H2 := Lib.hid h2
  clear h h2
  go_enter Tryz.func42, Tryz.ntmps42
  have hB0 : Below w.heap.size w w := Below.refl _ _
  go_wp2_with fail
  refine (HC.out _ (H.out.keep hB0)).mono ?_
  rintro e w1 ⟨rfl, hb1⟩
  have hB1 : Below w.heap.size w w1 := hB0.trans (hb1.mono hB0.size)
  clear hb1
  go_wp2_with fail
  refine (HI.out _ (H.out.keep hB1) (H2.out.keep hB1)).mono ?_
  rintro e w2 ⟨rfl, hb2⟩
  have hB2 : Below w.heap.size w w2 := hB1.trans (hb2.mono hB1.size)
  clear hb2
  go_wp2_with fail
  refine (HP.out _ (H.out.keep hB2) (H2.out.keep hB2)).mono ?_
  rintro e w3 ⟨rfl, hb3⟩
  have hB3 : Below w.heap.size w w3 := hB2.trans (hb3.mono hB2.size)
  clear hb3
  go_wp2_with fail
  refine (HO.out _).mono ?_
  rintro e w4 ⟨rfl, hb4⟩
  have hB4 : Below w.heap.size w w4 := hB3.trans (hb4.mono hB3.size)
  clear hb4
  go_wp2
  go_ret2
  exact ⟨rfl, hB4⟩


theorem lc_iff (L G : List ByteArray) (k : Nat) : ∀ n, lc L G n ∣ k ↔ ∀ j, j < n → od (pz (sat L j)) (pz (sat G j)) ∣ k
  | 0 => ⟨fun _ j hj => by omega, fun _ => Nat.one_dvd _⟩
  | n + 1 => by
    unfold lc
    rw [Nat.lcm_dvd_iff, lc_iff L G k n]
    constructor
    · rintro ⟨h1, h2⟩ j hj
      rcases Nat.lt_succ_iff_lt_or_eq.1 hj with h3 | rfl
      · exact h1 j h3
      · exact h2
    · intro h
      exact ⟨fun j hj => h j (by omega), h n (by omega)⟩
/-- The k-fold of an element. -/
def mulF (k : Int) (L G : List ByteArray) (j : Nat) : ByteArray := T (rz (k * pz (sat L j)) (pz (sat G j)))
theorem rz_small {d : Nat} {x f : Int} (hf : Few d f) (h0 : 0 < f) : Few d (rz x f) := by
  have := rz_range x f h0
  exact hf.of_le (by omega)
theorem mulF_right {k : Int} {L G : List ByteArray} (hG : gck fck G = 0) (j : Nat) (hj : j < G.length) : ck (mulF k L G j) = 0 ∧ pz (mulF k L G j) = rz (k * pz (sat L j)) (pz (sat G j)) := by
  obtain ⟨d, hd⟩ : ∃ d : Nat, d = 1024 := ⟨_, rfl⟩
  have hr := right_at hG j hj
  exact ⟨ck_T (rz_small (right_few hr.1 d hd) (by omega)) (by omega) (by omega), pz_T _⟩
theorem mulF_zero {L G : List ByteArray} (hG : gck fck G = 0) (k j : Nat) (hj : j < G.length) : (((mulF (k : Int) L G j).toList == [48]) = true) ↔ od (pz (sat L j)) (pz (sat G j)) ∣ k := by
  have hr := right_at hG j hj
  unfold mulF
  rw [T_is_zero, decide_eq_true_iff, rz_mod _ _ (by omega)]
  exact od_spec _ _ (by omega) k
theorem TsAt.congr {w : World} {a : Option Addr} {L M : List ByteArray} (h : TsAt w a L) (hl : M.length = L.length) (he : ∀ j, j < L.length → sat M j = sat L j) : TsAt w a M := by
  intro j hj
  obtain ⟨b, off, rfl, h1, h2⟩ := h j (by omega)
  exact ⟨b, off, rfl, h1, by rw [he j (by omega)]; exact h2⟩

theorem rperiod_any (a b : Option Addr) (c1 c2 : Nat) (L G : List ByteArray) (hG : gck fck G = 0) (hi : inC L G = 0) (hm : lc L G G.length ≤ 100000) (w : World) (h : TsAt w a G) (h2 : TsAt w b L) :
    Calls Tryz.prog 92 #[.slice a G.length c1, .slice b L.length c2] w (fun e w' => e = .returned (.int .i64 ((lc L G G.length : Nat) : Int)) ∧ Below w.heap.size w w') := by
  have hin := in_right hi
  have hl := (gck_right hG).1
  obtain ⟨d, hd⟩ : ∃ d : Nat, d = 1024 := ⟨_, rfl⟩
  have hpos := lc_pos (L := L) hG G.length (Nat.le_refl _)
  refine rperiod a b c1 c2 L G hin.1 (by omega) (lc L G G.length) hpos hm (fun k => upto (mulF (k : Int) L G) G.length) (Lib.hid fun k => upto_len _ _) (Lib.hid fun w hb => ?_) (Lib.hid fun k hk0 hkm w a' c' ht => ?_) (Lib.hid fun w a' c' ht => ?_) (Lib.hid fun k hk0 hkm w a' c' ht ha hb => ?_) w h h2
  · refine hb.congr (by rw [upto_len]; exact hin.1.symm) (fun j hj => ?_)
    rw [hin.1] at hj
    rw [sat_upto _ _ j hj]
    unfold mulF
    rw [show ((1 : Nat) : Int) * pz (sat L j) = pz (sat L j) by omega, (hin.2 j hj).2]
    exact (right_T (hin.2 j hj).1).symm
  · have hnd : ¬ lc L G G.length ∣ k := fun hd => by have := Nat.le_of_dvd hk0 hd; omega
    rcases firstBad (fun j => !((mulF (k : Int) L G j).toList == [48])) G.length with h1 | ⟨q, hq, h1, h3⟩
    · exfalso
      apply hnd
      rw [lc_iff]
      intro j hj
      rw [← mulF_zero hG k j hj]
      have := h1 j hj
      simpa using this
    · have := rzero_false a' c' (upto (mulF (k : Int) L G) G.length) (by rw [upto_len]; omega) q (by rw [upto_len]; exact hq) (by rw [sat_upto _ _ q hq]; simpa using h3) (Lib.hid fun j hj => by rw [sat_upto _ _ j (by omega)]; have := h1 j hj; simpa using this) w ht
      rw [upto_len] at this
      exact this
  · have := rzero_true a' c' (upto (mulF (lc L G G.length : Int) L G) G.length) (by rw [upto_len]; omega) (Lib.hid fun j hj => by
      rw [upto_len] at hj
      rw [sat_upto _ _ j hj, mulF_zero hG _ j hj]
      exact (lc_iff L G _ G.length).1 (Nat.dvd_refl _) j hj) w ht
    rw [upto_len] at this
    exact this
  · have := rplus a a' b c1 c' c2 G (upto (mulF (k : Int) L G) G.length) L (by omega) (mulF ((k + 1 : Nat) : Int) L G) (fun j => T (pz (mulF (k : Int) L G j) + pz (sat L j))) (Lib.hid fun j hj w => ?_) (Lib.hid fun j hj w => ?_) w ha ht (upto_len _ _) hb hin.1
    · exact this
    · rw [sat_upto _ _ j hj]
      have hr := mulF_right (k := (k : Int)) (L := L) hG j hj
      have hb2 := (hin.2 j hj).1
      have := rplus_any (pz (mulF (k : Int) L G j)) (pz (sat L j)) (right_few hr.1 d hd) (right_few hb2 d hd) (by omega) (by omega) w
      rw [← right_T hr.1, ← right_T hb2] at this
      exact this
    · have hr := mulF_right (k := (k : Int)) (L := L) hG j hj
      have hg := right_at hG j hj
      have hF : Few (d + 1) (pz (mulF (k : Int) L G j) + pz (sat L j)) := Few.add (right_few hr.1 d hd) (right_few (hin.2 j hj).1 d hd)
      have := rrest_any (pz (mulF (k : Int) L G j) + pz (sat L j)) (pz (sat G j)) hF ((right_few hg.1 d hd).le (by omega)) (by omega) (by omega) (by omega) w
      rw [← right_T hg.1] at this
      have e : rz (pz (mulF (k : Int) L G j) + pz (sat L j)) (pz (sat G j)) = rz (((k + 1 : Nat) : Int) * pz (sat L j)) (pz (sat G j)) := by
        rw [hr.2, rz_mod _ _ (by omega), rz_mod _ _ (by omega), rz_mod _ _ (by omega), Int.emod_add_emod]
        rw [show ((k + 1 : Nat) : Int) * pz (sat L j) = (k : Int) * pz (sat L j) + pz (sat L j) by rw [Int.natCast_add, Int.add_mul]; simp]
      rw [e] at this
      exact this

theorem rorderOf_any (a b : Option Addr) (cap cap2 : Nat) (L G : List ByteArray) (hm : gck fck G = 0 → lc L G G.length ≤ 100000) (hsz : ∀ j, j < G.length → (sat G j).size ≤ 9223372036854775807) (hsz2 : ∀ j, j < L.length → (sat L j).size ≤ 9223372036854775807) (w : World) (h : TsAt w a G) (h2 : TsAt w b L) :
    Calls Tryz.prog 42 #[.slice a G.length cap, .slice b L.length cap2] w (fun e w' => e = .returned (.tuple #[.string (oeS L G), .int .i64 ((oeC L G : Nat) : Int)]) ∧ Below w.heap.size w w') := by
  have HC := Lib.hid (fun w h => rgcheck_any a cap G (fun _ => hsz) w h)
  unfold oeS
  by_cases h0 : gck fck G = 0
  · have HI := Lib.hid (fun w h h2 => rinck_any a b cap cap2 L G h0 hsz2 w h h2)
    have e : oeC L G = inC L G := by unfold oeC; rw [if_neg (by simp [h0])]
    rw [h0] at HC
    rw [e]
    by_cases h1 : inC L G = 0
    · rw [if_pos h1, h1]
      rw [h1] at HI
      have := hm h0
      exact rorderOf_ok a b cap cap2 L G _ _ HC HI (Lib.hid fun w h h2 => rperiod_any a b cap cap2 L G h0 h1 (hm h0) w h h2) (Lib.hid fun w => rof_pos (lc L G G.length) (by omega) w) w h h2
    · rw [if_neg h1]
      exact rorderOf_in a b cap cap2 L G _ h1 HC HI w h h2
  · have e : oeC L G = gck fck G := by unfold oeC; rw [if_pos h0]
    rw [e, if_neg h0]
    exact rorderOf_err a b cap cap2 L G _ h0 HC w h

end Go.Proofs.YtnfmcdfdbipeoaaGreatDoor
