/- Walks of abelian groups: single factors, divisors, the check of the reference. And: Abelian groups: what both checks return, in numbers. -/
import Derived.Test.YtnfmcdfdbipeoaaGreatDoorQ29
import Derived.Test.YtnfmcdfdbipeoaaGreatDoorQ13
import Derived.Test.YtnfmcdfdbipeoaaGreatDoorQ23
namespace Go.Proofs.YtnfmcdfdbipeoaaGreatDoor
open Go.RowKit Go.Proofs.Num

set_option maxHeartbeats 3200000 in
set_option maxRecDepth 100000 in
theorem factor_err (s : ByteArray) (k : Nat) (hk : k ≠ 0) (HC : Hid (∀ w, Calls Tryz.prog 52 #[.string s, .string ⟨#[50]⟩] w (fun e w' => e = .returned (.tuple #[.int .i64 0, .int .i64 ((k : Nat) : Int)]) ∧ Below w.heap.size w w'))) (w : World) :
    Calls Tryz.prog 67 #[.string s] w (fun e w' => e = .returned (.int .i64 ((k : Nat) : Int)) ∧ Below w.heap.size w w') := by
  have hk0 : ¬ ((k : Nat) : Int) = 0 := by omega
  have hk1 : (((k : Nat) : Int) != 0) = true := by simp; omega
  clear hk
  go_enter Tryz.func67, Tryz.ntmps67
  go_wp2_with fail
  refine (HC.out _).mono ?_
  rintro e w1 ⟨rfl, hb1⟩
  go_wp2
  go_ret
  exact ⟨rfl, hb1⟩

set_option maxHeartbeats 3200000 in
set_option maxRecDepth 100000 in
theorem factor_lt (s : ByteArray) (c : Int) (hc : c < 0) (HC : Hid (∀ w, Calls Tryz.prog 52 #[.string s, .string ⟨#[50]⟩] w (fun e w' => e = .returned (.tuple #[.int .i64 c, .int .i64 0]) ∧ Below w.heap.size w w'))) (w : World) :
    Calls Tryz.prog 67 #[.string s] w (fun e w' => e = .returned (.int .i64 2) ∧ Below w.heap.size w w') := by
  have hc1 : decide (c < 0) = true := decide_eq_true hc
  clear hc
  go_enter Tryz.func67, Tryz.ntmps67
  go_wp2_with fail
  refine (HC.out _).mono ?_
  rintro e w1 ⟨rfl, hb1⟩
  go_wp2
  go_ret
  exact ⟨rfl, hb1⟩

set_option maxHeartbeats 3200000 in
set_option maxRecDepth 100000 in
theorem factor_ok (s : ByteArray) (c : Int) (hc : 0 ≤ c) (HC : Hid (∀ w, Calls Tryz.prog 52 #[.string s, .string ⟨#[50]⟩] w (fun e w' => e = .returned (.tuple #[.int .i64 c, .int .i64 0]) ∧ Below w.heap.size w w'))) (w : World) :
    Calls Tryz.prog 67 #[.string s] w (fun e w' => e = .returned (.int .i64 0) ∧ Below w.heap.size w w') := by
  have hc1 : decide (c < 0) = false := decide_eq_false (by omega)
  clear hc
  go_enter Tryz.func67, Tryz.ntmps67
  go_wp2_with fail
  refine (HC.out _).mono ?_
  rintro e w1 ⟨rfl, hb1⟩
  go_wp2
  go_ret
  exact ⟨rfl, hb1⟩

set_option maxHeartbeats 3200000 in
set_option maxRecDepth 100000 in
theorem diag_err (s : ByteArray) (k : Nat) (hk : k ≠ 0) (HC : Hid (∀ w, Calls Tryz.prog 87 #[.string s] w (fun e w' => e = .returned (.tuple #[.int .i64 0, .int .i64 ((k : Nat) : Int)]) ∧ Below w.heap.size w w'))) (w : World) :
    Calls Tryz.prog 60 #[.string s] w (fun e w' => e = .returned (.int .i64 ((k : Nat) : Int)) ∧ Below w.heap.size w w') := by
  have hk0 : ¬ ((k : Nat) : Int) = 0 := by omega
  have hk1 : (((k : Nat) : Int) != 0) = true := by simp; omega
  clear hk
  go_enter Tryz.func60, Tryz.ntmps60
  go_wp2_with fail
  refine (HC.out _).mono ?_
  rintro e w1 ⟨rfl, hb1⟩
  go_wp2
  go_ret
  exact ⟨rfl, hb1⟩

set_option maxHeartbeats 3200000 in
set_option maxRecDepth 100000 in
theorem diag_lt (s : ByteArray) (c : Int) (hc : c < 0) (HC : Hid (∀ w, Calls Tryz.prog 87 #[.string s] w (fun e w' => e = .returned (.tuple #[.int .i64 c, .int .i64 0]) ∧ Below w.heap.size w w'))) (w : World) :
    Calls Tryz.prog 60 #[.string s] w (fun e w' => e = .returned (.int .i64 2) ∧ Below w.heap.size w w') := by
  have hc1 : decide (c < 0) = true := decide_eq_true hc
  clear hc
  go_enter Tryz.func60, Tryz.ntmps60
  go_wp2_with fail
  refine (HC.out _).mono ?_
  rintro e w1 ⟨rfl, hb1⟩
  go_wp2
  go_ret
  exact ⟨rfl, hb1⟩

set_option maxHeartbeats 3200000 in
set_option maxRecDepth 100000 in
theorem diag_zero (s : ByteArray) (HC : Hid (∀ w, Calls Tryz.prog 87 #[.string s] w (fun e w' => e = .returned (.tuple #[.int .i64 0, .int .i64 0]) ∧ Below w.heap.size w w'))) (w : World) :
    Calls Tryz.prog 60 #[.string s] w (fun e w' => e = .returned (.int .i64 10) ∧ Below w.heap.size w w') := by
  go_enter Tryz.func60, Tryz.ntmps60
  go_wp2_with fail
  refine (HC.out _).mono ?_
  rintro e w1 ⟨rfl, hb1⟩
  go_wp2
  go_ret
  exact ⟨rfl, hb1⟩

set_option maxHeartbeats 3200000 in
set_option maxRecDepth 100000 in
theorem diag_ok (s : ByteArray) (c : Int) (hc : 0 < c) (HC : Hid (∀ w, Calls Tryz.prog 87 #[.string s] w (fun e w' => e = .returned (.tuple #[.int .i64 c, .int .i64 0]) ∧ Below w.heap.size w w'))) (w : World) :
    Calls Tryz.prog 60 #[.string s] w (fun e w' => e = .returned (.int .i64 0) ∧ Below w.heap.size w w') := by
  have hc1 : decide (c < 0) = false := decide_eq_false (by omega)
  have hc2 : ¬ c = 0 := by omega
  have hc3 : (c == 0) = false := by simp; omega
  clear hc
  go_enter Tryz.func60, Tryz.ntmps60
  go_wp2_with fail
  refine (HC.out _).mono ?_
  rintro e w1 ⟨rfl, hb1⟩
  go_wp2
  go_ret
  exact ⟨rfl, hb1⟩

set_option maxHeartbeats 3200000 in
set_option maxRecDepth 100000 in
theorem divides_walk (a b S : ByteArray) (q : Bool) (ha : (a.toList == [48]) = false) (hq : (S.toList == [48]) = q) (HC : Hid (∀ w, Calls Tryz.prog 107 #[.string b, .string a] w (fun e w' => e = .returned (.string S) ∧ Below w.heap.size w w'))) (w : World) :
    Calls Tryz.prog 62 #[.string a, .string b] w (fun e w' => e = .returned (.bool q) ∧ Below w.heap.size w w') := by
  go_enter Tryz.func62, Tryz.ntmps62
  go_wp2_with fail
  refine (HC.out _).mono ?_
  rintro e w1 ⟨rfl, hb1⟩
  go_wp2
  go_ret
  exact ⟨rfl, hb1⟩

set_option maxHeartbeats 3200000 in
set_option maxRecDepth 100000 in
theorem rck_many (a : Option Addr) (n cap : Nat) (hl : 16 < n) (w : World) :
    Calls Tryz.prog 23 #[.slice a n cap] w (fun e w' => e = .returned (.int .i64 5) ∧ Below w.heap.size w w') := by
  have d0 : decide (16 < ((n : Nat) : Int)) = true := decide_eq_true (by omega)
  go_enter Tryz.func23, Tryz.ntmps23
  go_wp2
  go_ret
  exact ⟨rfl, Below.refl _ _⟩

set_option maxHeartbeats 3200000 in
set_option maxRecDepth 100000 in
theorem rck_ok (a : Option Addr) (cap : Nat) (L : List ByteArray) (hl : L.length ≤ 16) (HO : Hid (∀ j, j < L.length → ∀ w, Calls Tryz.prog 44 #[.string (sat L j)] w (fun e w' => e = .returned (.int .i64 0) ∧ Below w.heap.size w w')))
    (c : Nat → Int) (hc : Hid (∀ j, j < L.length → 0 ≤ c j)) (HM : Hid (∀ j, j < L.length → ∀ w, Calls Tryz.prog 26 #[.string (sat L j), .string ⟨#[50]⟩] w (fun e w' => e = .returned (.int .i64 (c j)) ∧ Below w.heap.size w w')))
    (HD : Hid (∀ j, j + 1 < L.length → ∀ w, Calls Tryz.prog 62 #[.string (sat L j), .string (sat L (j + 1))] w (fun e w' => e = .returned (.bool true) ∧ Below w.heap.size w w'))) (w : World) (h : TsAt w a L) :
    Calls Tryz.prog 23 #[.slice a L.length cap] w (fun e w' => e = .returned (.int .i64 0) ∧ Below w.heap.size w w') := by
  have d0 : decide (16 < ((L.length : Nat) : Int)) = false := decide_eq_false (by omega)
  have H := Lib.hid h
  clear h
  go_enter Tryz.func23, Tryz.ntmps23
  go_wp2
  go_loopw [3] (fun v wr => ∃ i : Nat, i ≤ L.length ∧ v = .int .i64 i ∧ Below w.heap.size w wr) (fun v _ => L.length - (intOf v).toNat)
  case atStart => exact ⟨0, Nat.zero_le _, rfl, Below.refl _ _⟩
  case round =>
    obtain ⟨i, hi, rfl, hB⟩ := hrel
    by_cases hlt : i < L.length
    · have hiL : i < L.length := by omega
      have C := Lib.hid (fun w => HO.out i hlt w)
      have M := Lib.hid (fun w => HM.out i hlt w)
      have D := Lib.hid (fun j (hj : j + 1 = i) w => HD.out j (by omega) w)
      obtain ⟨ci, hci⟩ : ∃ ci, ci = c i := ⟨_, rfl⟩
      have hcn := hc.out i hlt
      rw [← hci] at M hcn
      have hcd : decide (ci < 0) = false := decide_eq_false (by omega)
      clear hci hcn
      obtain ⟨b, off, rfl, hb, hc0⟩ := (H.out.keep hB) i hiL
      go_wp2_with fail
      refine (C.out _).mono ?_
      rintro e w1 ⟨rfl, hb1⟩
      have hB1 : Below w.heap.size w w1 := hB.trans (hb1.mono hB.size)
      have hc1 : w1.cell? ⟨b, off + i, none⟩ = some (.string (sat L i)) := (hb1.cell (p := ⟨b, off + i, none⟩) hb).trans hc0
      go_wp2_with fail
      refine (M.out _).mono ?_
      rintro e w2 ⟨rfl, hb2⟩
      have hB2 : Below w.heap.size w w2 := hB1.trans (hb2.mono hB1.size)
      have hb12 : Below wr.heap.size wr w2 := hb1.trans (hb2.mono hb1.size)
      clear hb2 hc0 hc1 hb1
      rcases Nat.eq_zero_or_pos i with h0 | h0
      · subst h0
        clear D
        go_wp2
        refine wp_region_late (S := fun _ => True) (X := []) (by kernel_rfl) ?_
        refine wpAnyL_pureD (i := 0) 28 (.int .i64 0) rfl rfl (by kernel_rfl) (by kernel_rfl) (by kernel_rfl) (fun _ _ _ h => h) (Or.inl ⟨by rfl, fun u _ => ?_⟩) ?_
        · go_simp
        try simp only [Act.put, List.setIfInBounds_toArray]
        refine wpAnyL_pureD (i := 1) 29 (.bool false) rfl rfl (by kernel_rfl) (by kernel_rfl) (by kernel_rfl) (fun _ _ _ h => h) (Or.inl ⟨by rfl, fun u _ => ?_⟩) ?_
        · go_simp
        try simp only [Act.put, List.setIfInBounds_toArray]
        refine wpAnyL_pureD (i := 2) 30 (.bool false) rfl rfl (by kernel_rfl) (by kernel_rfl) (by kernel_rfl) (fun _ _ _ h => h) (Or.inl ⟨by rfl, fun u _ => ?_⟩) ?_
        · go_simp
        try simp only [Act.put, List.setIfInBounds_toArray]
        refine wpAnyL_pureD (i := 3) 31 undef rfl rfl (by kernel_rfl) (by kernel_rfl) (by kernel_rfl) (fun _ _ _ h => h) (Or.inr ⟨by kernel_rfl, rfl⟩) ?_
        refine wpAnyL_pureD (i := 4) 32 undef rfl rfl (by kernel_rfl) (by kernel_rfl) (by kernel_rfl) (fun _ _ _ h => h) (Or.inr ⟨by kernel_rfl, rfl⟩) ?_
        refine wpAnyL_pureD (i := 5) 33 undef rfl rfl (by kernel_rfl) (by kernel_rfl) (by kernel_rfl) (fun _ _ _ h => h) (Or.inr ⟨by kernel_rfl, rfl⟩) ?_
        refine wpAnyL_pureD (i := 6) 34 undef rfl rfl (by kernel_rfl) (by kernel_rfl) (by kernel_rfl) (fun _ _ _ h => h) (Or.inr ⟨by kernel_rfl, rfl⟩) ?_
        refine wpAnyL_pureD (i := 7) 35 undef rfl rfl (by kernel_rfl) (by kernel_rfl) (by kernel_rfl) (fun _ _ _ h => h) (Or.inr ⟨by kernel_rfl, rfl⟩) ?_
        refine wpAnyL_pureD (i := 8) 36 undef rfl rfl (by kernel_rfl) (by kernel_rfl) (by kernel_rfl) (fun _ _ _ h => h) (Or.inr ⟨by kernel_rfl, rfl⟩) ?_
        refine wpAnyL_pureD (i := 9) 37 undef rfl rfl (by kernel_rfl) (by kernel_rfl) (by kernel_rfl) (fun _ _ _ h => h) (Or.inr ⟨by kernel_rfl, rfl⟩) ?_
        refine wpAnyL_pureD (i := 10) 38 undef rfl rfl (by kernel_rfl) (by kernel_rfl) (by kernel_rfl) (fun _ _ _ h => h) (Or.inr ⟨by kernel_rfl, rfl⟩) ?_
        refine wpAnyL_pureD (i := 11) 39 undef rfl rfl (by kernel_rfl) (by kernel_rfl) (by kernel_rfl) (fun _ _ _ h => h) (Or.inr ⟨by kernel_rfl, rfl⟩) ?_
        refine wpAnyL_pureD (i := 12) 40 undef rfl rfl (by kernel_rfl) (by kernel_rfl) (by kernel_rfl) (fun _ _ _ h => h) (Or.inr ⟨by kernel_rfl, rfl⟩) ?_
        refine wpAnyL_pureD (i := 13) 41 undef rfl rfl (by kernel_rfl) (by kernel_rfl) (by kernel_rfl) (fun _ _ _ h => h) (Or.inr ⟨by kernel_rfl, rfl⟩) ?_
        refine wpAnyL_pureD (i := 14) 42 (.bool false) rfl rfl (by kernel_rfl) (by kernel_rfl) (by kernel_rfl) (fun _ _ _ h => h) (Or.inl ⟨by kernel_rfl, fun u _ => ?_⟩) ?_
        · simp only [Act.put, List.setIfInBounds_toArray, List.set_cons_zero, List.set_cons_succ]
          go_simp
        refine wpAnyL_done (by kernel_rfl) ?_ _
        simp only [Act.put, List.setIfInBounds_toArray, List.set_cons_zero, List.set_cons_succ]
        go_wp2
        go_roundw
        case rel => exact ⟨1, by omega, by go_num, hB2.drew⟩
        case measure => simp [intOf] <;> omega
      · obtain ⟨m, rfl⟩ : ∃ m, i = m + 1 := ⟨i - 1, by omega⟩
        clear h0
        have E := Lib.hid (fun w => D.out m rfl w)
        have hcm : w2.cell? ⟨b, off + m, none⟩ = some (.string (sat L m)) := by
          obtain ⟨b', off', he, _, hc'⟩ := H.out.keep hB2 m (by omega)
          simp only [Option.some.injEq, Addr.mk.injEq, and_true] at he
          obtain ⟨rfl, rfl⟩ := he
          exact hc'
        have hcn : w2.cell? ⟨b, off + (m + 1), none⟩ = some (.string (sat L (m + 1))) := by
          obtain ⟨b', off', he, _, hc'⟩ := H.out.keep hB2 (m + 1) hiL
          simp only [Option.some.injEq, Addr.mk.injEq, and_true] at he
          obtain ⟨rfl, rfl⟩ := he
          exact hc'
        clear D
        go_wp2
        have hk2 : Below w2.heap.size w2 w2.drew := (Below.refl _ _).drew
        have hbs : b < w2.heap.size := Nat.lt_of_lt_of_le hb hb12.size
        have HS : Hid (∀ x, Below w2.heap.size w2 x → (Below w2.heap.size w2 x ∧ x.cell? ⟨b, off + m, none⟩ = some (.string (sat L m)) ∧ x.cell? ⟨b, off + (m + 1), none⟩ = some (.string (sat L (m + 1))))) := fun x hx => ⟨hx, (hx.cell (p := ⟨b, off + m, none⟩) hbs).trans hcm, (hx.cell (p := ⟨b, off + (m + 1), none⟩) hbs).trans hcn⟩
        obtain ⟨_, f0, f1⟩ := HS.out _ hk2
        clear hcm hcn
        have g1 : (0 : Int) ≤ (m : Int) := by omega
        have g2 : (m : Int) < ((L.length : Nat) : Int) := by omega
        have g3 : (0 : Int) ≤ (m : Int) + 1 := by omega
        have g4 : (m : Int) + 1 < ((L.length : Nat) : Int) := by omega
        have g9 : IntKind.i64.wrap (m : Int) = (m : Int) := IntWalk.i64_in _ (by omega)
        go_region_held3 (fun x => Below w2.heap.size w2 x ∧ x.cell? ⟨b, off + m, none⟩ = some (.string (sat L m)) ∧ x.cell? ⟨b, off + (m + 1), none⟩ = some (.string (sat L (m + 1))))
    (first | exact HS.out _ (by assumption) | exact HS.out _ (Below.drew (by assumption)) | (refine HS.out _ ?_; exact Below.alloc hk2 hk2.size _))
    (first | (go_at_call 62; refine (E.out _).mono ?_; rintro e wz ⟨rfl, hbz⟩; have hk3 := hk2.trans (hbz.mono hk2.size); clear hbz hk2; have hk2 := hk3; clear hk3))
        rename_i hHeldz
        clear hHeldz
        have hB3 : Below w.heap.size w wz := hB2.trans (hk2.mono hB2.size)
        clear f0 f1 hk2
        go_wp2
        go_roundw
        case rel => exact ⟨m + 1 + 1, by omega, by go_num, hB3⟩
        case measure => simp [intOf]; omega
    · obtain rfl : i = L.length := by omega
      go_wp2
      go_ret
      exact ⟨rfl, hB⟩

set_option maxHeartbeats 3200000 in
set_option maxRecDepth 100000 in
theorem rck_one (a : Option Addr) (cap : Nat) (L : List ByteArray) (hl : L.length ≤ 16) (p : Nat) (hp : p < L.length) (k : Nat) (hk : k ≠ 0) (HO : Hid (∀ j, j < p → ∀ w, Calls Tryz.prog 44 #[.string (sat L j)] w (fun e w' => e = .returned (.int .i64 0) ∧ Below w.heap.size w w')))
    (c : Nat → Int) (hc : Hid (∀ j, j < p → 0 ≤ c j)) (HM : Hid (∀ j, j < p → ∀ w, Calls Tryz.prog 26 #[.string (sat L j), .string ⟨#[50]⟩] w (fun e w' => e = .returned (.int .i64 (c j)) ∧ Below w.heap.size w w')))
    (HD : Hid (∀ j, j + 1 < p → ∀ w, Calls Tryz.prog 62 #[.string (sat L j), .string (sat L (j + 1))] w (fun e w' => e = .returned (.bool true) ∧ Below w.heap.size w w')))
    (HB : Hid (∀ w, Calls Tryz.prog 44 #[.string (sat L p)] w (fun e w' => e = .returned (.int .i64 ((k : Nat) : Int)) ∧ Below w.heap.size w w'))) (w : World) (h : TsAt w a L) :
    Calls Tryz.prog 23 #[.slice a L.length cap] w (fun e w' => e = .returned (.int .i64 ((k : Nat) : Int)) ∧ Below w.heap.size w w') := by
  have d0 : decide (16 < ((L.length : Nat) : Int)) = false := decide_eq_false (by omega)
  have H := Lib.hid h
  have hk0 : ¬ ((k : Nat) : Int) = 0 := by omega
  have hk1 : (((k : Nat) : Int) != 0) = true := by simp; omega
  clear hk
  clear h
  go_enter Tryz.func23, Tryz.ntmps23
  go_wp2
  go_loopw [3] (fun v wr => ∃ i : Nat, i ≤ p ∧ v = .int .i64 i ∧ Below w.heap.size w wr) (fun v _ => p - (intOf v).toNat)
  case atStart => exact ⟨0, Nat.zero_le _, rfl, Below.refl _ _⟩
  case round =>
    obtain ⟨i, hi, rfl, hB⟩ := hrel
    by_cases hlt : i < p
    · have hiL : i < L.length := by omega
      have C := Lib.hid (fun w => HO.out i hlt w)
      have M := Lib.hid (fun w => HM.out i hlt w)
      have D := Lib.hid (fun j (hj : j + 1 = i) w => HD.out j (by omega) w)
      obtain ⟨ci, hci⟩ : ∃ ci, ci = c i := ⟨_, rfl⟩
      have hcn := hc.out i hlt
      rw [← hci] at M hcn
      have hcd : decide (ci < 0) = false := decide_eq_false (by omega)
      clear hci hcn
      obtain ⟨b, off, rfl, hb, hc0⟩ := (H.out.keep hB) i hiL
      go_wp2_with fail
      refine (C.out _).mono ?_
      rintro e w1 ⟨rfl, hb1⟩
      have hB1 : Below w.heap.size w w1 := hB.trans (hb1.mono hB.size)
      have hc1 : w1.cell? ⟨b, off + i, none⟩ = some (.string (sat L i)) := (hb1.cell (p := ⟨b, off + i, none⟩) hb).trans hc0
      go_wp2_with fail
      refine (M.out _).mono ?_
      rintro e w2 ⟨rfl, hb2⟩
      have hB2 : Below w.heap.size w w2 := hB1.trans (hb2.mono hB1.size)
      have hb12 : Below wr.heap.size wr w2 := hb1.trans (hb2.mono hb1.size)
      clear hb2 hc0 hc1 hb1
      rcases Nat.eq_zero_or_pos i with h0 | h0
      · subst h0
        clear D
        go_wp2
        refine wp_region_late (S := fun _ => True) (X := []) (by kernel_rfl) ?_
        refine wpAnyL_pureD (i := 0) 28 (.int .i64 0) rfl rfl (by kernel_rfl) (by kernel_rfl) (by kernel_rfl) (fun _ _ _ h => h) (Or.inl ⟨by rfl, fun u _ => ?_⟩) ?_
        · go_simp
        try simp only [Act.put, List.setIfInBounds_toArray]
        refine wpAnyL_pureD (i := 1) 29 (.bool false) rfl rfl (by kernel_rfl) (by kernel_rfl) (by kernel_rfl) (fun _ _ _ h => h) (Or.inl ⟨by rfl, fun u _ => ?_⟩) ?_
        · go_simp
        try simp only [Act.put, List.setIfInBounds_toArray]
        refine wpAnyL_pureD (i := 2) 30 (.bool false) rfl rfl (by kernel_rfl) (by kernel_rfl) (by kernel_rfl) (fun _ _ _ h => h) (Or.inl ⟨by rfl, fun u _ => ?_⟩) ?_
        · go_simp
        try simp only [Act.put, List.setIfInBounds_toArray]
        refine wpAnyL_pureD (i := 3) 31 undef rfl rfl (by kernel_rfl) (by kernel_rfl) (by kernel_rfl) (fun _ _ _ h => h) (Or.inr ⟨by kernel_rfl, rfl⟩) ?_
        refine wpAnyL_pureD (i := 4) 32 undef rfl rfl (by kernel_rfl) (by kernel_rfl) (by kernel_rfl) (fun _ _ _ h => h) (Or.inr ⟨by kernel_rfl, rfl⟩) ?_
        refine wpAnyL_pureD (i := 5) 33 undef rfl rfl (by kernel_rfl) (by kernel_rfl) (by kernel_rfl) (fun _ _ _ h => h) (Or.inr ⟨by kernel_rfl, rfl⟩) ?_
        refine wpAnyL_pureD (i := 6) 34 undef rfl rfl (by kernel_rfl) (by kernel_rfl) (by kernel_rfl) (fun _ _ _ h => h) (Or.inr ⟨by kernel_rfl, rfl⟩) ?_
        refine wpAnyL_pureD (i := 7) 35 undef rfl rfl (by kernel_rfl) (by kernel_rfl) (by kernel_rfl) (fun _ _ _ h => h) (Or.inr ⟨by kernel_rfl, rfl⟩) ?_
        refine wpAnyL_pureD (i := 8) 36 undef rfl rfl (by kernel_rfl) (by kernel_rfl) (by kernel_rfl) (fun _ _ _ h => h) (Or.inr ⟨by kernel_rfl, rfl⟩) ?_
        refine wpAnyL_pureD (i := 9) 37 undef rfl rfl (by kernel_rfl) (by kernel_rfl) (by kernel_rfl) (fun _ _ _ h => h) (Or.inr ⟨by kernel_rfl, rfl⟩) ?_
        refine wpAnyL_pureD (i := 10) 38 undef rfl rfl (by kernel_rfl) (by kernel_rfl) (by kernel_rfl) (fun _ _ _ h => h) (Or.inr ⟨by kernel_rfl, rfl⟩) ?_
        refine wpAnyL_pureD (i := 11) 39 undef rfl rfl (by kernel_rfl) (by kernel_rfl) (by kernel_rfl) (fun _ _ _ h => h) (Or.inr ⟨by kernel_rfl, rfl⟩) ?_
        refine wpAnyL_pureD (i := 12) 40 undef rfl rfl (by kernel_rfl) (by kernel_rfl) (by kernel_rfl) (fun _ _ _ h => h) (Or.inr ⟨by kernel_rfl, rfl⟩) ?_
        refine wpAnyL_pureD (i := 13) 41 undef rfl rfl (by kernel_rfl) (by kernel_rfl) (by kernel_rfl) (fun _ _ _ h => h) (Or.inr ⟨by kernel_rfl, rfl⟩) ?_
        refine wpAnyL_pureD (i := 14) 42 (.bool false) rfl rfl (by kernel_rfl) (by kernel_rfl) (by kernel_rfl) (fun _ _ _ h => h) (Or.inl ⟨by kernel_rfl, fun u _ => ?_⟩) ?_
        · simp only [Act.put, List.setIfInBounds_toArray, List.set_cons_zero, List.set_cons_succ]
          go_simp
        refine wpAnyL_done (by kernel_rfl) ?_ _
        simp only [Act.put, List.setIfInBounds_toArray, List.set_cons_zero, List.set_cons_succ]
        go_wp2
        go_roundw
        case rel => exact ⟨1, by omega, by go_num, hB2.drew⟩
        case measure => simp [intOf] <;> omega
      · obtain ⟨m, rfl⟩ : ∃ m, i = m + 1 := ⟨i - 1, by omega⟩
        clear h0
        have E := Lib.hid (fun w => D.out m rfl w)
        have hcm : w2.cell? ⟨b, off + m, none⟩ = some (.string (sat L m)) := by
          obtain ⟨b', off', he, _, hc'⟩ := H.out.keep hB2 m (by omega)
          simp only [Option.some.injEq, Addr.mk.injEq, and_true] at he
          obtain ⟨rfl, rfl⟩ := he
          exact hc'
        have hcn : w2.cell? ⟨b, off + (m + 1), none⟩ = some (.string (sat L (m + 1))) := by
          obtain ⟨b', off', he, _, hc'⟩ := H.out.keep hB2 (m + 1) hiL
          simp only [Option.some.injEq, Addr.mk.injEq, and_true] at he
          obtain ⟨rfl, rfl⟩ := he
          exact hc'
        clear D
        go_wp2
        have hk2 : Below w2.heap.size w2 w2.drew := (Below.refl _ _).drew
        have hbs : b < w2.heap.size := Nat.lt_of_lt_of_le hb hb12.size
        have HS : Hid (∀ x, Below w2.heap.size w2 x → (Below w2.heap.size w2 x ∧ x.cell? ⟨b, off + m, none⟩ = some (.string (sat L m)) ∧ x.cell? ⟨b, off + (m + 1), none⟩ = some (.string (sat L (m + 1))))) := fun x hx => ⟨hx, (hx.cell (p := ⟨b, off + m, none⟩) hbs).trans hcm, (hx.cell (p := ⟨b, off + (m + 1), none⟩) hbs).trans hcn⟩
        obtain ⟨_, f0, f1⟩ := HS.out _ hk2
        clear hcm hcn
        have g1 : (0 : Int) ≤ (m : Int) := by omega
        have g2 : (m : Int) < ((L.length : Nat) : Int) := by omega
        have g3 : (0 : Int) ≤ (m : Int) + 1 := by omega
        have g4 : (m : Int) + 1 < ((L.length : Nat) : Int) := by omega
        have g9 : IntKind.i64.wrap (m : Int) = (m : Int) := IntWalk.i64_in _ (by omega)
        go_region_held3 (fun x => Below w2.heap.size w2 x ∧ x.cell? ⟨b, off + m, none⟩ = some (.string (sat L m)) ∧ x.cell? ⟨b, off + (m + 1), none⟩ = some (.string (sat L (m + 1))))
    (first | exact HS.out _ (by assumption) | exact HS.out _ (Below.drew (by assumption)) | (refine HS.out _ ?_; exact Below.alloc hk2 hk2.size _))
    (first | (go_at_call 62; refine (E.out _).mono ?_; rintro e wz ⟨rfl, hbz⟩; have hk3 := hk2.trans (hbz.mono hk2.size); clear hbz hk2; have hk2 := hk3; clear hk3))
        rename_i hHeldz
        clear hHeldz
        have hB3 : Below w.heap.size w wz := hB2.trans (hk2.mono hB2.size)
        clear f0 f1 hk2
        go_wp2
        go_roundw
        case rel => exact ⟨m + 1 + 1, by omega, by go_num, hB3⟩
        case measure => simp [intOf]; omega
    · obtain rfl : i = p := by omega
      obtain ⟨b, off, rfl, hb, hc0⟩ := (H.out.keep hB) (i) hp
      go_wp2_with fail
      refine (HB.out _).mono ?_
      rintro e w1 ⟨rfl, hb1⟩
      have hB1 : Below w.heap.size w w1 := hB.trans (hb1.mono hB.size)
      clear hb1 hc0 hb
      go_wp2
      go_ret
      exact ⟨rfl, hB1⟩

set_option maxHeartbeats 3200000 in
set_option maxRecDepth 100000 in
theorem rck_two (a : Option Addr) (cap : Nat) (L : List ByteArray) (hl : L.length ≤ 16) (p : Nat) (hp : p < L.length) (d : Int) (hd : d < 0) (HO : Hid (∀ j, j < p → ∀ w, Calls Tryz.prog 44 #[.string (sat L j)] w (fun e w' => e = .returned (.int .i64 0) ∧ Below w.heap.size w w')))
    (c : Nat → Int) (hc : Hid (∀ j, j < p → 0 ≤ c j)) (HM : Hid (∀ j, j < p → ∀ w, Calls Tryz.prog 26 #[.string (sat L j), .string ⟨#[50]⟩] w (fun e w' => e = .returned (.int .i64 (c j)) ∧ Below w.heap.size w w')))
    (HD : Hid (∀ j, j + 1 < p → ∀ w, Calls Tryz.prog 62 #[.string (sat L j), .string (sat L (j + 1))] w (fun e w' => e = .returned (.bool true) ∧ Below w.heap.size w w')))
    (HB : Hid (∀ w, Calls Tryz.prog 44 #[.string (sat L p)] w (fun e w' => e = .returned (.int .i64 0) ∧ Below w.heap.size w w')))
    (HB2 : Hid (∀ w, Calls Tryz.prog 26 #[.string (sat L p), .string ⟨#[50]⟩] w (fun e w' => e = .returned (.int .i64 d) ∧ Below w.heap.size w w'))) (w : World) (h : TsAt w a L) :
    Calls Tryz.prog 23 #[.slice a L.length cap] w (fun e w' => e = .returned (.int .i64 2) ∧ Below w.heap.size w w') := by
  have d0 : decide (16 < ((L.length : Nat) : Int)) = false := decide_eq_false (by omega)
  have H := Lib.hid h
  have hd1 : decide (d < 0) = true := decide_eq_true hd
  clear hd
  clear h
  go_enter Tryz.func23, Tryz.ntmps23
  go_wp2
  go_loopw [3] (fun v wr => ∃ i : Nat, i ≤ p ∧ v = .int .i64 i ∧ Below w.heap.size w wr) (fun v _ => p - (intOf v).toNat)
  case atStart => exact ⟨0, Nat.zero_le _, rfl, Below.refl _ _⟩
  case round =>
    obtain ⟨i, hi, rfl, hB⟩ := hrel
    by_cases hlt : i < p
    · have hiL : i < L.length := by omega
      have C := Lib.hid (fun w => HO.out i hlt w)
      have M := Lib.hid (fun w => HM.out i hlt w)
      have D := Lib.hid (fun j (hj : j + 1 = i) w => HD.out j (by omega) w)
      obtain ⟨ci, hci⟩ : ∃ ci, ci = c i := ⟨_, rfl⟩
      have hcn := hc.out i hlt
      rw [← hci] at M hcn
      have hcd : decide (ci < 0) = false := decide_eq_false (by omega)
      clear hci hcn
      obtain ⟨b, off, rfl, hb, hc0⟩ := (H.out.keep hB) i hiL
      go_wp2_with fail
      refine (C.out _).mono ?_
      rintro e w1 ⟨rfl, hb1⟩
      have hB1 : Below w.heap.size w w1 := hB.trans (hb1.mono hB.size)
      have hc1 : w1.cell? ⟨b, off + i, none⟩ = some (.string (sat L i)) := (hb1.cell (p := ⟨b, off + i, none⟩) hb).trans hc0
      go_wp2_with fail
      refine (M.out _).mono ?_
      rintro e w2 ⟨rfl, hb2⟩
      have hB2 : Below w.heap.size w w2 := hB1.trans (hb2.mono hB1.size)
      have hb12 : Below wr.heap.size wr w2 := hb1.trans (hb2.mono hb1.size)
      clear hb2 hc0 hc1 hb1
      rcases Nat.eq_zero_or_pos i with h0 | h0
      · subst h0
        clear D
        go_wp2
        refine wp_region_late (S := fun _ => True) (X := []) (by kernel_rfl) ?_
        refine wpAnyL_pureD (i := 0) 28 (.int .i64 0) rfl rfl (by kernel_rfl) (by kernel_rfl) (by kernel_rfl) (fun _ _ _ h => h) (Or.inl ⟨by rfl, fun u _ => ?_⟩) ?_
        · go_simp
        try simp only [Act.put, List.setIfInBounds_toArray]
        refine wpAnyL_pureD (i := 1) 29 (.bool false) rfl rfl (by kernel_rfl) (by kernel_rfl) (by kernel_rfl) (fun _ _ _ h => h) (Or.inl ⟨by rfl, fun u _ => ?_⟩) ?_
        · go_simp
        try simp only [Act.put, List.setIfInBounds_toArray]
        refine wpAnyL_pureD (i := 2) 30 (.bool false) rfl rfl (by kernel_rfl) (by kernel_rfl) (by kernel_rfl) (fun _ _ _ h => h) (Or.inl ⟨by rfl, fun u _ => ?_⟩) ?_
        · go_simp
        try simp only [Act.put, List.setIfInBounds_toArray]
        refine wpAnyL_pureD (i := 3) 31 undef rfl rfl (by kernel_rfl) (by kernel_rfl) (by kernel_rfl) (fun _ _ _ h => h) (Or.inr ⟨by kernel_rfl, rfl⟩) ?_
        refine wpAnyL_pureD (i := 4) 32 undef rfl rfl (by kernel_rfl) (by kernel_rfl) (by kernel_rfl) (fun _ _ _ h => h) (Or.inr ⟨by kernel_rfl, rfl⟩) ?_
        refine wpAnyL_pureD (i := 5) 33 undef rfl rfl (by kernel_rfl) (by kernel_rfl) (by kernel_rfl) (fun _ _ _ h => h) (Or.inr ⟨by kernel_rfl, rfl⟩) ?_
        refine wpAnyL_pureD (i := 6) 34 undef rfl rfl (by kernel_rfl) (by kernel_rfl) (by kernel_rfl) (fun _ _ _ h => h) (Or.inr ⟨by kernel_rfl, rfl⟩) ?_
        refine wpAnyL_pureD (i := 7) 35 undef rfl rfl (by kernel_rfl) (by kernel_rfl) (by kernel_rfl) (fun _ _ _ h => h) (Or.inr ⟨by kernel_rfl, rfl⟩) ?_
        refine wpAnyL_pureD (i := 8) 36 undef rfl rfl (by kernel_rfl) (by kernel_rfl) (by kernel_rfl) (fun _ _ _ h => h) (Or.inr ⟨by kernel_rfl, rfl⟩) ?_
        refine wpAnyL_pureD (i := 9) 37 undef rfl rfl (by kernel_rfl) (by kernel_rfl) (by kernel_rfl) (fun _ _ _ h => h) (Or.inr ⟨by kernel_rfl, rfl⟩) ?_
        refine wpAnyL_pureD (i := 10) 38 undef rfl rfl (by kernel_rfl) (by kernel_rfl) (by kernel_rfl) (fun _ _ _ h => h) (Or.inr ⟨by kernel_rfl, rfl⟩) ?_
        refine wpAnyL_pureD (i := 11) 39 undef rfl rfl (by kernel_rfl) (by kernel_rfl) (by kernel_rfl) (fun _ _ _ h => h) (Or.inr ⟨by kernel_rfl, rfl⟩) ?_
        refine wpAnyL_pureD (i := 12) 40 undef rfl rfl (by kernel_rfl) (by kernel_rfl) (by kernel_rfl) (fun _ _ _ h => h) (Or.inr ⟨by kernel_rfl, rfl⟩) ?_
        refine wpAnyL_pureD (i := 13) 41 undef rfl rfl (by kernel_rfl) (by kernel_rfl) (by kernel_rfl) (fun _ _ _ h => h) (Or.inr ⟨by kernel_rfl, rfl⟩) ?_
        refine wpAnyL_pureD (i := 14) 42 (.bool false) rfl rfl (by kernel_rfl) (by kernel_rfl) (by kernel_rfl) (fun _ _ _ h => h) (Or.inl ⟨by kernel_rfl, fun u _ => ?_⟩) ?_
        · simp only [Act.put, List.setIfInBounds_toArray, List.set_cons_zero, List.set_cons_succ]
          go_simp
        refine wpAnyL_done (by kernel_rfl) ?_ _
        simp only [Act.put, List.setIfInBounds_toArray, List.set_cons_zero, List.set_cons_succ]
        go_wp2
        go_roundw
        case rel => exact ⟨1, by omega, by go_num, hB2.drew⟩
        case measure => simp [intOf] <;> omega
      · obtain ⟨m, rfl⟩ : ∃ m, i = m + 1 := ⟨i - 1, by omega⟩
        clear h0
        have E := Lib.hid (fun w => D.out m rfl w)
        have hcm : w2.cell? ⟨b, off + m, none⟩ = some (.string (sat L m)) := by
          obtain ⟨b', off', he, _, hc'⟩ := H.out.keep hB2 m (by omega)
          simp only [Option.some.injEq, Addr.mk.injEq, and_true] at he
          obtain ⟨rfl, rfl⟩ := he
          exact hc'
        have hcn : w2.cell? ⟨b, off + (m + 1), none⟩ = some (.string (sat L (m + 1))) := by
          obtain ⟨b', off', he, _, hc'⟩ := H.out.keep hB2 (m + 1) hiL
          simp only [Option.some.injEq, Addr.mk.injEq, and_true] at he
          obtain ⟨rfl, rfl⟩ := he
          exact hc'
        clear D
        go_wp2
        have hk2 : Below w2.heap.size w2 w2.drew := (Below.refl _ _).drew
        have hbs : b < w2.heap.size := Nat.lt_of_lt_of_le hb hb12.size
        have HS : Hid (∀ x, Below w2.heap.size w2 x → (Below w2.heap.size w2 x ∧ x.cell? ⟨b, off + m, none⟩ = some (.string (sat L m)) ∧ x.cell? ⟨b, off + (m + 1), none⟩ = some (.string (sat L (m + 1))))) := fun x hx => ⟨hx, (hx.cell (p := ⟨b, off + m, none⟩) hbs).trans hcm, (hx.cell (p := ⟨b, off + (m + 1), none⟩) hbs).trans hcn⟩
        obtain ⟨_, f0, f1⟩ := HS.out _ hk2
        clear hcm hcn
        have g1 : (0 : Int) ≤ (m : Int) := by omega
        have g2 : (m : Int) < ((L.length : Nat) : Int) := by omega
        have g3 : (0 : Int) ≤ (m : Int) + 1 := by omega
        have g4 : (m : Int) + 1 < ((L.length : Nat) : Int) := by omega
        have g9 : IntKind.i64.wrap (m : Int) = (m : Int) := IntWalk.i64_in _ (by omega)
        go_region_held3 (fun x => Below w2.heap.size w2 x ∧ x.cell? ⟨b, off + m, none⟩ = some (.string (sat L m)) ∧ x.cell? ⟨b, off + (m + 1), none⟩ = some (.string (sat L (m + 1))))
    (first | exact HS.out _ (by assumption) | exact HS.out _ (Below.drew (by assumption)) | (refine HS.out _ ?_; exact Below.alloc hk2 hk2.size _))
    (first | (go_at_call 62; refine (E.out _).mono ?_; rintro e wz ⟨rfl, hbz⟩; have hk3 := hk2.trans (hbz.mono hk2.size); clear hbz hk2; have hk2 := hk3; clear hk3))
        rename_i hHeldz
        clear hHeldz
        have hB3 : Below w.heap.size w wz := hB2.trans (hk2.mono hB2.size)
        clear f0 f1 hk2
        go_wp2
        go_roundw
        case rel => exact ⟨m + 1 + 1, by omega, by go_num, hB3⟩
        case measure => simp [intOf]; omega
    · obtain rfl : i = p := by omega
      obtain ⟨b, off, rfl, hb, hc0⟩ := (H.out.keep hB) (i) hp
      go_wp2_with fail
      refine (HB.out _).mono ?_
      rintro e w1 ⟨rfl, hb1⟩
      have hB1 : Below w.heap.size w w1 := hB.trans (hb1.mono hB.size)
      have hc1 : w1.cell? ⟨b, off + (i), none⟩ = some (.string (sat L (i))) := (hb1.cell (p := ⟨b, off + (i), none⟩) hb).trans hc0
      go_wp2_with fail
      refine (HB2.out _).mono ?_
      rintro e w2 ⟨rfl, hb2⟩
      have hB2 : Below w.heap.size w w2 := hB1.trans (hb2.mono hB1.size)
      have hb12 : Below wr.heap.size wr w2 := hb1.trans (hb2.mono hb1.size)
      clear hb2 hc0 hc1 hb1
      go_wp2
      go_ret
      exact ⟨rfl, hB2⟩

set_option maxHeartbeats 3200000 in
set_option maxRecDepth 100000 in
theorem rck_order (a : Option Addr) (cap : Nat) (L : List ByteArray) (hl : L.length ≤ 16) (m : Nat) (hp : m + 1 < L.length) (d : Int) (hd : 0 ≤ d) (HO : Hid (∀ j, j < m + 1 → ∀ w, Calls Tryz.prog 44 #[.string (sat L j)] w (fun e w' => e = .returned (.int .i64 0) ∧ Below w.heap.size w w')))
    (c : Nat → Int) (hc : Hid (∀ j, j < m + 1 → 0 ≤ c j)) (HM : Hid (∀ j, j < m + 1 → ∀ w, Calls Tryz.prog 26 #[.string (sat L j), .string ⟨#[50]⟩] w (fun e w' => e = .returned (.int .i64 (c j)) ∧ Below w.heap.size w w')))
    (HD : Hid (∀ j, j + 1 < m + 1 → ∀ w, Calls Tryz.prog 62 #[.string (sat L j), .string (sat L (j + 1))] w (fun e w' => e = .returned (.bool true) ∧ Below w.heap.size w w')))
    (HB : Hid (∀ w, Calls Tryz.prog 44 #[.string (sat L (m + 1))] w (fun e w' => e = .returned (.int .i64 0) ∧ Below w.heap.size w w')))
    (HB2 : Hid (∀ w, Calls Tryz.prog 26 #[.string (sat L (m + 1)), .string ⟨#[50]⟩] w (fun e w' => e = .returned (.int .i64 d) ∧ Below w.heap.size w w')))
    (HB3 : Hid (∀ w, Calls Tryz.prog 62 #[.string (sat L m), .string (sat L (m + 1))] w (fun e w' => e = .returned (.bool false) ∧ Below w.heap.size w w'))) (w : World) (h : TsAt w a L) :
    Calls Tryz.prog 23 #[.slice a L.length cap] w (fun e w' => e = .returned (.int .i64 9) ∧ Below w.heap.size w w') := by
  have d0 : decide (16 < ((L.length : Nat) : Int)) = false := decide_eq_false (by omega)
  have H := Lib.hid h
  have hd1 : decide (d < 0) = false := decide_eq_false (by omega)
  clear hd
  clear h
  go_enter Tryz.func23, Tryz.ntmps23
  go_wp2
  go_loopw [3] (fun v wr => ∃ i : Nat, i ≤ (m + 1) ∧ v = .int .i64 i ∧ Below w.heap.size w wr) (fun v _ => (m + 1) - (intOf v).toNat)
  case atStart => exact ⟨0, Nat.zero_le _, rfl, Below.refl _ _⟩
  case round =>
    obtain ⟨i, hi, rfl, hB⟩ := hrel
    by_cases hlt : i < (m + 1)
    · have hiL : i < L.length := by omega
      have C := Lib.hid (fun w => HO.out i hlt w)
      have M := Lib.hid (fun w => HM.out i hlt w)
      have D := Lib.hid (fun j (hj : j + 1 = i) w => HD.out j (by omega) w)
      obtain ⟨ci, hci⟩ : ∃ ci, ci = c i := ⟨_, rfl⟩
      have hcn := hc.out i hlt
      rw [← hci] at M hcn
      have hcd : decide (ci < 0) = false := decide_eq_false (by omega)
      clear hci hcn
      obtain ⟨b, off, rfl, hb, hc0⟩ := (H.out.keep hB) i hiL
      go_wp2_with fail
      refine (C.out _).mono ?_
      rintro e w1 ⟨rfl, hb1⟩
      have hB1 : Below w.heap.size w w1 := hB.trans (hb1.mono hB.size)
      have hc1 : w1.cell? ⟨b, off + i, none⟩ = some (.string (sat L i)) := (hb1.cell (p := ⟨b, off + i, none⟩) hb).trans hc0
      go_wp2_with fail
      refine (M.out _).mono ?_
      rintro e w2 ⟨rfl, hb2⟩
      have hB2 : Below w.heap.size w w2 := hB1.trans (hb2.mono hB1.size)
      have hb12 : Below wr.heap.size wr w2 := hb1.trans (hb2.mono hb1.size)
      clear hb2 hc0 hc1 hb1
      rcases Nat.eq_zero_or_pos i with h0 | h0
      · subst h0
        clear D
        go_wp2
        refine wp_region_late (S := fun _ => True) (X := []) (by kernel_rfl) ?_
        refine wpAnyL_pureD (i := 0) 28 (.int .i64 0) rfl rfl (by kernel_rfl) (by kernel_rfl) (by kernel_rfl) (fun _ _ _ h => h) (Or.inl ⟨by rfl, fun u _ => ?_⟩) ?_
        · go_simp
        try simp only [Act.put, List.setIfInBounds_toArray]
        refine wpAnyL_pureD (i := 1) 29 (.bool false) rfl rfl (by kernel_rfl) (by kernel_rfl) (by kernel_rfl) (fun _ _ _ h => h) (Or.inl ⟨by rfl, fun u _ => ?_⟩) ?_
        · go_simp
        try simp only [Act.put, List.setIfInBounds_toArray]
        refine wpAnyL_pureD (i := 2) 30 (.bool false) rfl rfl (by kernel_rfl) (by kernel_rfl) (by kernel_rfl) (fun _ _ _ h => h) (Or.inl ⟨by rfl, fun u _ => ?_⟩) ?_
        · go_simp
        try simp only [Act.put, List.setIfInBounds_toArray]
        refine wpAnyL_pureD (i := 3) 31 undef rfl rfl (by kernel_rfl) (by kernel_rfl) (by kernel_rfl) (fun _ _ _ h => h) (Or.inr ⟨by kernel_rfl, rfl⟩) ?_
        refine wpAnyL_pureD (i := 4) 32 undef rfl rfl (by kernel_rfl) (by kernel_rfl) (by kernel_rfl) (fun _ _ _ h => h) (Or.inr ⟨by kernel_rfl, rfl⟩) ?_
        refine wpAnyL_pureD (i := 5) 33 undef rfl rfl (by kernel_rfl) (by kernel_rfl) (by kernel_rfl) (fun _ _ _ h => h) (Or.inr ⟨by kernel_rfl, rfl⟩) ?_
        refine wpAnyL_pureD (i := 6) 34 undef rfl rfl (by kernel_rfl) (by kernel_rfl) (by kernel_rfl) (fun _ _ _ h => h) (Or.inr ⟨by kernel_rfl, rfl⟩) ?_
        refine wpAnyL_pureD (i := 7) 35 undef rfl rfl (by kernel_rfl) (by kernel_rfl) (by kernel_rfl) (fun _ _ _ h => h) (Or.inr ⟨by kernel_rfl, rfl⟩) ?_
        refine wpAnyL_pureD (i := 8) 36 undef rfl rfl (by kernel_rfl) (by kernel_rfl) (by kernel_rfl) (fun _ _ _ h => h) (Or.inr ⟨by kernel_rfl, rfl⟩) ?_
        refine wpAnyL_pureD (i := 9) 37 undef rfl rfl (by kernel_rfl) (by kernel_rfl) (by kernel_rfl) (fun _ _ _ h => h) (Or.inr ⟨by kernel_rfl, rfl⟩) ?_
        refine wpAnyL_pureD (i := 10) 38 undef rfl rfl (by kernel_rfl) (by kernel_rfl) (by kernel_rfl) (fun _ _ _ h => h) (Or.inr ⟨by kernel_rfl, rfl⟩) ?_
        refine wpAnyL_pureD (i := 11) 39 undef rfl rfl (by kernel_rfl) (by kernel_rfl) (by kernel_rfl) (fun _ _ _ h => h) (Or.inr ⟨by kernel_rfl, rfl⟩) ?_
        refine wpAnyL_pureD (i := 12) 40 undef rfl rfl (by kernel_rfl) (by kernel_rfl) (by kernel_rfl) (fun _ _ _ h => h) (Or.inr ⟨by kernel_rfl, rfl⟩) ?_
        refine wpAnyL_pureD (i := 13) 41 undef rfl rfl (by kernel_rfl) (by kernel_rfl) (by kernel_rfl) (fun _ _ _ h => h) (Or.inr ⟨by kernel_rfl, rfl⟩) ?_
        refine wpAnyL_pureD (i := 14) 42 (.bool false) rfl rfl (by kernel_rfl) (by kernel_rfl) (by kernel_rfl) (fun _ _ _ h => h) (Or.inl ⟨by kernel_rfl, fun u _ => ?_⟩) ?_
        · simp only [Act.put, List.setIfInBounds_toArray, List.set_cons_zero, List.set_cons_succ]
          go_simp
        refine wpAnyL_done (by kernel_rfl) ?_ _
        simp only [Act.put, List.setIfInBounds_toArray, List.set_cons_zero, List.set_cons_succ]
        go_wp2
        go_roundw
        case rel => exact ⟨1, by omega, by go_num, hB2.drew⟩
        case measure => simp [intOf] <;> omega
      · obtain ⟨m, rfl⟩ : ∃ m, i = m + 1 := ⟨i - 1, by omega⟩
        clear h0
        have E := Lib.hid (fun w => D.out m rfl w)
        have hcm : w2.cell? ⟨b, off + m, none⟩ = some (.string (sat L m)) := by
          obtain ⟨b', off', he, _, hc'⟩ := H.out.keep hB2 m (by omega)
          simp only [Option.some.injEq, Addr.mk.injEq, and_true] at he
          obtain ⟨rfl, rfl⟩ := he
          exact hc'
        have hcn : w2.cell? ⟨b, off + (m + 1), none⟩ = some (.string (sat L (m + 1))) := by
          obtain ⟨b', off', he, _, hc'⟩ := H.out.keep hB2 (m + 1) hiL
          simp only [Option.some.injEq, Addr.mk.injEq, and_true] at he
          obtain ⟨rfl, rfl⟩ := he
          exact hc'
        clear D
        go_wp2
        have hk2 : Below w2.heap.size w2 w2.drew := (Below.refl _ _).drew
        have hbs : b < w2.heap.size := Nat.lt_of_lt_of_le hb hb12.size
        have HS : Hid (∀ x, Below w2.heap.size w2 x → (Below w2.heap.size w2 x ∧ x.cell? ⟨b, off + m, none⟩ = some (.string (sat L m)) ∧ x.cell? ⟨b, off + (m + 1), none⟩ = some (.string (sat L (m + 1))))) := fun x hx => ⟨hx, (hx.cell (p := ⟨b, off + m, none⟩) hbs).trans hcm, (hx.cell (p := ⟨b, off + (m + 1), none⟩) hbs).trans hcn⟩
        obtain ⟨_, f0, f1⟩ := HS.out _ hk2
        clear hcm hcn
        have g1 : (0 : Int) ≤ (m : Int) := by omega
        have g2 : (m : Int) < ((L.length : Nat) : Int) := by omega
        have g3 : (0 : Int) ≤ (m : Int) + 1 := by omega
        have g4 : (m : Int) + 1 < ((L.length : Nat) : Int) := by omega
        have g9 : IntKind.i64.wrap (m : Int) = (m : Int) := IntWalk.i64_in _ (by omega)
        go_region_held3 (fun x => Below w2.heap.size w2 x ∧ x.cell? ⟨b, off + m, none⟩ = some (.string (sat L m)) ∧ x.cell? ⟨b, off + (m + 1), none⟩ = some (.string (sat L (m + 1))))
    (first | exact HS.out _ (by assumption) | exact HS.out _ (Below.drew (by assumption)) | (refine HS.out _ ?_; exact Below.alloc hk2 hk2.size _))
    (first | (go_at_call 62; refine (E.out _).mono ?_; rintro e wz ⟨rfl, hbz⟩; have hk3 := hk2.trans (hbz.mono hk2.size); clear hbz hk2; have hk2 := hk3; clear hk3))
        rename_i hHeldz
        clear hHeldz
        have hB3 : Below w.heap.size w wz := hB2.trans (hk2.mono hB2.size)
        clear f0 f1 hk2
        go_wp2
        go_roundw
        case rel => exact ⟨m + 1 + 1, by omega, by go_num, hB3⟩
        case measure => simp [intOf]; omega
    · obtain rfl : i = m + 1 := by omega
      obtain ⟨b, off, rfl, hb, hc0⟩ := (H.out.keep hB) (m + 1) hp
      go_wp2_with fail
      refine (HB.out _).mono ?_
      rintro e w1 ⟨rfl, hb1⟩
      have hB1 : Below w.heap.size w w1 := hB.trans (hb1.mono hB.size)
      have hc1 : w1.cell? ⟨b, off + (m + 1), none⟩ = some (.string (sat L (m + 1))) := (hb1.cell (p := ⟨b, off + (m + 1), none⟩) hb).trans hc0
      go_wp2_with fail
      refine (HB2.out _).mono ?_
      rintro e w2 ⟨rfl, hb2⟩
      have hB2 : Below w.heap.size w w2 := hB1.trans (hb2.mono hB1.size)
      have hb12 : Below wr.heap.size wr w2 := hb1.trans (hb2.mono hb1.size)
      clear hb2 hc0 hc1 hb1
      have hcm : w2.cell? ⟨b, off + m, none⟩ = some (.string (sat L m)) := by
        obtain ⟨b', off', he, _, hc'⟩ := H.out.keep hB2 m (by omega)
        simp only [Option.some.injEq, Addr.mk.injEq, and_true] at he
        obtain ⟨rfl, rfl⟩ := he
        exact hc'
      have hcn : w2.cell? ⟨b, off + (m + 1), none⟩ = some (.string (sat L (m + 1))) := by
        obtain ⟨b', off', he, _, hc'⟩ := H.out.keep hB2 (m + 1) hp
        simp only [Option.some.injEq, Addr.mk.injEq, and_true] at he
        obtain ⟨rfl, rfl⟩ := he
        exact hc'
      go_wp2
      have hk2 : Below w2.heap.size w2 w2.drew := (Below.refl _ _).drew
      have hbs : b < w2.heap.size := Nat.lt_of_lt_of_le hb hb12.size
      have HS : Hid (∀ x, Below w2.heap.size w2 x → (Below w2.heap.size w2 x ∧ x.cell? ⟨b, off + m, none⟩ = some (.string (sat L m)) ∧ x.cell? ⟨b, off + (m + 1), none⟩ = some (.string (sat L (m + 1))))) := fun x hx => ⟨hx, (hx.cell (p := ⟨b, off + m, none⟩) hbs).trans hcm, (hx.cell (p := ⟨b, off + (m + 1), none⟩) hbs).trans hcn⟩
      obtain ⟨_, f0, f1⟩ := HS.out _ hk2
      clear hcm hcn
      have g1 : (0 : Int) ≤ (m : Int) := by omega
      have g2 : (m : Int) < ((L.length : Nat) : Int) := by omega
      have g3 : (0 : Int) ≤ (m : Int) + 1 := by omega
      have g4 : (m : Int) + 1 < ((L.length : Nat) : Int) := by omega
      have g9 : IntKind.i64.wrap (m : Int) = (m : Int) := IntWalk.i64_in _ (by omega)
      go_region_held3 (fun x => Below w2.heap.size w2 x ∧ x.cell? ⟨b, off + m, none⟩ = some (.string (sat L m)) ∧ x.cell? ⟨b, off + (m + 1), none⟩ = some (.string (sat L (m + 1))))
    (first | exact HS.out _ (by assumption) | exact HS.out _ (Below.drew (by assumption)) | (refine HS.out _ ?_; exact Below.alloc hk2 hk2.size _))
    (first | (go_at_call 62; refine (HB3.out _).mono ?_; rintro e wz ⟨rfl, hbz⟩; have hk3 := hk2.trans (hbz.mono hk2.size); clear hbz hk2; have hk2 := hk3; clear hk3))
      rename_i hHeldz
      clear hHeldz
      have hB3 : Below w.heap.size w wz := hB2.trans (hk2.mono hB2.size)
      clear f0 f1 hk2
      go_wp2
      go_ret
      exact ⟨rfl, hB3⟩

end Go.Proofs.YtnfmcdfdbipeoaaGreatDoor

namespace Go.Proofs.YtnfmcdfdbipeoaaGreatDoor
open Go.RowKit Go.Proofs.Num


theorem T_two : T 2 = ⟨#[50]⟩ := by
  apply ByteArray.ext; apply Array.ext'; rw [show (T 2).data.toList = Lib.itoa 2 from T_data 2]; decide +kernel
theorem ck_T {d : Nat} {z : Int} (h : Few d z) (h1 : 1 ≤ d) (hd : d ≤ 1024) : ck (T z) = 0 := h.chk h1 hd
theorem few_small {z : Int} (h : z.natAbs < 1000) : Few 3 z := h
/-- A right text is the text of its number. -/
theorem right_T {s : ByteArray} (h : ck s = 0) : s = T (pz s) := of_chk s h
theorem right_few {s : ByteArray} (h : ck s = 0) (d : Nat) (hd : d = 1024) : Few d (pz s) := chk_lt _ h d hd

theorem cmp2 (s : ByteArray) (hs : s.size ≤ 9223372036854775807) (h : ck s = 0) (w : World) :
    Calls Tryz.prog 52 #[.string s, .string ⟨#[50]⟩] w (fun e w' => e = .returned (.tuple #[.int .i64 (cmpZ (pz s) 2), .int .i64 0]) ∧ Below w.heap.size w w') := by
  have := cmp_ok s (T 2) hs ((few_small (z := 2) (by decide)).size (by omega) (by omega)) h (ck_T (few_small (z := 2) (by decide)) (by omega) (by omega)) w
  rw [show parse (T 2).data.toList = 2 from pz_T 2, T_two] at this
  exact this
theorem cmp2_err (s : ByteArray) (hs : s.size ≤ 9223372036854775807) (h : ck s ≠ 0) (w : World) :
    Calls Tryz.prog 52 #[.string s, .string ⟨#[50]⟩] w (fun e w' => e = .returned (.tuple #[.int .i64 0, .int .i64 ((ck s : Nat) : Int)]) ∧ Below w.heap.size w w') := by
  have e : chk2 s.data.toList (T 2).data.toList = ck s := by
    unfold chk2
    rw [if_pos h]
  have := cmp_err s (T 2) hs ((few_small (z := 2) (by decide)).size (by omega) (by omega)) (by rw [e]; exact h) w
  rw [e, T_two] at this
  exact this

theorem factor_any (s : ByteArray) (hs : s.size ≤ 9223372036854775807) (w : World) : Calls Tryz.prog 67 #[.string s] w (fun e w' => e = .returned (.int .i64 ((fck s : Nat) : Int)) ∧ Below w.heap.size w w') := by
  by_cases h : ck s = 0
  · by_cases h2 : pz s < 2
    · have e : fck s = 2 := by unfold fck; rw [if_neg (by simp [h]), if_pos h2]
      rw [e]
      exact factor_lt s (cmpZ (pz s) 2) (by unfold cmpZ; rw [if_pos h2]; omega) (Lib.hid fun w => cmp2 s hs h w) w
    · have e : fck s = 0 := by unfold fck; rw [if_neg (by simp [h]), if_neg h2]
      rw [e]
      exact factor_ok s (cmpZ (pz s) 2) (by unfold cmpZ; rw [if_neg h2]; split <;> omega) (Lib.hid fun w => cmp2 s hs h w) w
  · have e : fck s = ck s := by unfold fck; rw [if_pos h]
    rw [e]
    exact factor_err s (ck s) h (Lib.hid fun w => cmp2_err s hs h w) w

theorem diag_any (s : ByteArray) (hs : s.size ≤ 9223372036854775807) (w : World) : Calls Tryz.prog 60 #[.string s] w (fun e w' => e = .returned (.int .i64 ((dck s : Nat) : Int)) ∧ Below w.heap.size w w') := by
  by_cases h : ck s = 0
  · have hc := sgn_ok s hs h
    unfold IntOut at hc
    have e0 : sgn (parse s.data.toList) = sgn (pz s) := rfl
    rw [e0] at hc
    rcases (show pz s < 0 ∨ pz s = 0 ∨ 0 < pz s by omega) with h2 | h2 | h2
    · have e : dck s = 2 := by unfold dck; rw [if_neg (by simp [h]), if_pos h2]
      rw [e]
      exact diag_lt s (sgn (pz s)) (by unfold sgn; rw [if_pos h2]; omega) (Lib.hid hc) w
    · have e : dck s = 10 := by unfold dck; rw [if_neg (by simp [h]), if_neg (by omega), if_pos h2]
      rw [e]
      rw [h2] at hc
      exact diag_zero s (Lib.hid hc) w
    · have e : dck s = 0 := by unfold dck; rw [if_neg (by simp [h]), if_neg (by omega), if_neg (by omega)]
      rw [e]
      exact diag_ok s (sgn (pz s)) (by unfold sgn; rw [if_neg (by omega), if_pos h2]; omega) (Lib.hid hc) w
  · have e : dck s = ck s := by unfold dck; rw [if_pos h]
    rw [e]
    exact diag_err s (ck s) h (Lib.hid fun w => sgn_err s hs h w) w

/-- The remainder of right texts. -/
theorem rem_right (s r : ByteArray) (hs : ck s = 0) (hr : ck r = 0) (h0 : pz r ≠ 0) (w : World) (hT : Tab w) :
    Calls Tryz.prog 46 #[.string s, .string r] w (fun e w' => e = .returned (.tuple #[.string (T (rz (pz s) (pz r))), .int .i64 0]) ∧ Below w.heap.size w w') := by
  obtain ⟨d, hd⟩ : ∃ d : Nat, d = 1024 := ⟨_, rfl⟩
  have := remT (pz s) (pz r) w (right_few hs d hd) (right_few hr d hd) (by omega) (by omega) h0 hT
  rw [← right_T hs, ← right_T hr] at this
  exact this
theorem rest_right (s r : ByteArray) (hs : ck s = 0) (hr : ck r = 0) (h0 : pz r ≠ 0) (w : World) :
    Calls Tryz.prog 107 #[.string s, .string r] w (fun e w' => e = .returned (.string (T (rz (pz s) (pz r)))) ∧ Below w.heap.size w w') := by
  obtain ⟨d, hd⟩ : ∃ d : Nat, d = 1024 := ⟨_, rfl⟩
  have := rrest_any (pz s) (pz r) (right_few hs d hd) (right_few hr d hd) h0 (by omega) (by omega) w
  rw [← right_T hs, ← right_T hr] at this
  exact this
theorem order2_right (s : ByteArray) (hs : ck s = 0) (w : World) :
    Calls Tryz.prog 26 #[.string s, .string ⟨#[50]⟩] w (fun e w' => e = .returned (.int .i64 (cmpZ (pz s) 2)) ∧ Below w.heap.size w w') := by
  obtain ⟨d, hd⟩ : ∃ d : Nat, d = 1024 := ⟨_, rfl⟩
  have := rorderT (pz s) 2 (right_few hs d hd) ((few_small (z := 2) (by decide)).le (by omega)) (by omega) (by omega) w
  rw [← right_T hs, T_two] at this
  exact this
theorem rcheck_right (s : ByteArray) (hs : s.size ≤ 9223372036854775807) (w : World) : Calls Tryz.prog 44 #[.string s] w (fun e w' => e = .returned (.int .i64 ((ck s : Nat) : Int)) ∧ Below w.heap.size w w') := by
  refine (rcheck_any s w hs).mono ?_
  rintro e w' ⟨rfl, rfl⟩
  exact ⟨rfl, Below.refl _ _⟩
theorem T_is_zero (z : Int) : ((T z).toList == [48]) = decide (z = 0) := T_zero z

theorem divides_right (s r : ByteArray) (hs : ck s = 0) (hr : ck r = 0) (h0 : pz s ≠ 0) (w : World) :
    Calls Tryz.prog 62 #[.string s, .string r] w (fun e w' => e = .returned (.bool (decide (rz (pz r) (pz s) = 0))) ∧ Below w.heap.size w w') := by
  refine divides_walk s r (T (rz (pz r) (pz s))) _ ?_ (T_is_zero _) (Lib.hid fun w => rest_right r s hr hs h0 w) w
  rw [right_T hs, T_is_zero]
  exact decide_eq_false h0

/-- What the walks of a chain ask of the remainders. -/
theorem la_right {one : ByteArray → Nat} (H : ∀ s, one s = 0 → ck s = 0 ∧ 1 ≤ pz s) {L : List ByteArray} {j : Nat} (hg : ∀ i, i < j → good one L i) : ck (la L j) = 0 ∧ 1 ≤ pz (la L j) := by
  rcases j with _ | j
  · exact ⟨ck_T (few_small (z := 1) (by decide)) (by omega) (by omega), by unfold la; rw [pz_T]; omega⟩
  · exact H _ (hg j (by omega)).1

/-- checkChain. -/
theorem chain_f_any (a : Option Addr) (cap : Nat) (L : List ByteArray) (hsz : L.length ≤ 16 → ∀ j, j < L.length → (sat L j).size ≤ 9223372036854775807) (w : World) (h : TsAt w a L) (hT : Tab w) :
    Calls Tryz.prog 59 #[.slice a L.length cap, (.func (.func 67) #[] #[])] w (fun e w' => e = .returned (.int .i64 ((gck fck L : Nat) : Int)) ∧ Below w.heap.size w w') := by
  have HZ : ∀ s, fck s = 0 → ck s = 0 ∧ 1 ≤ pz s := fun s h => ⟨(fck_zero h).1, by have := (fck_zero h).2; omega⟩
  by_cases hl : 16 < L.length
  · have e : gck fck L = 5 := by unfold gck; rw [if_pos hl]
    rw [e]
    exact chain_f_many a L.length cap hl w
  · have hl' : L.length ≤ 16 := by omega
    have HS := hsz hl'
    have HR : ∀ j, j ≤ L.length → (∀ i, i < j → good fck L i) → ∀ i, i < j → ∀ w, Tab w → Calls Tryz.prog 46 #[.string (sat L i), .string (la L i)] w (fun e w' => e = .returned (.tuple #[.string ⟨#[48]⟩, .int .i64 0]) ∧ Below w.heap.size w w') := by
      intro j hj hg i hi w hT
      have h1 := la_right HZ (fun k (hk : k < i) => hg k (by omega))
      have := rem_right (sat L i) (la L i) (HZ _ (hg i hi).1).1 h1.1 (by omega) w hT
      rw [(hg i hi).2, T_naught] at this
      exact this
    have HC : ∀ i, i < L.length → fck (sat L i) = 0 → ∀ w, Tab w → Calls Tryz.prog 67 #[.string (sat L i)] w (fun e w' => e = .returned (.int .i64 0) ∧ Below w.heap.size w w') := by
      intro i hi h0 w _
      have := factor_any (sat L i) (HS i hi) w
      rw [h0] at this
      exact this
    rcases gck_ways fck L hl' with ⟨e, hg⟩ | ⟨q, hq, hg, ⟨h1, e⟩ | ⟨h1, h2, e⟩⟩
    · rw [e]
      exact chain_f_ok a cap L hl' (la L) (Lib.hid T_one) (Lib.hid fun _ => rfl) (Lib.hid fun j hj w hT => HC j hj (hg j hj).1 w hT) (Lib.hid fun j hj w hT => HR _ (Nat.le_refl _) hg j hj w hT) w h hT
    · rw [e]
      exact chain_f_one a cap L hl' q hq (fck (sat L q)) h1 (la L) (Lib.hid T_one) (Lib.hid fun _ => rfl) (Lib.hid fun j hj w hT => HC j (by omega) (hg j hj).1 w hT) (Lib.hid fun j hj w hT => HR q (by omega) hg j hj w hT)
        (Lib.hid fun w _ => factor_any (sat L q) (HS q hq) w) w h hT
    · rw [e]
      have h3 := la_right HZ hg
      exact chain_f_order a cap L hl' q hq (T (rz (pz (sat L q)) (pz (la L q)))) 0 (by rw [T_is_zero]; exact decide_eq_false h2) (la L) (Lib.hid T_one) (Lib.hid fun _ => rfl) (Lib.hid fun j hj w hT => HC j (by omega) (hg j hj).1 w hT) (Lib.hid fun j hj w hT => HR q (by omega) hg j hj w hT)
        (Lib.hid fun w hT => HC q hq h1 w hT) (Lib.hid fun w hT => rem_right (sat L q) (la L q) (HZ _ h1).1 h3.1 (by omega) w hT) w h hT

/-- checkChain. -/
theorem chain_d_any (a : Option Addr) (cap : Nat) (L : List ByteArray) (hsz : L.length ≤ 16 → ∀ j, j < L.length → (sat L j).size ≤ 9223372036854775807) (w : World) (h : TsAt w a L) (hT : Tab w) :
    Calls Tryz.prog 59 #[.slice a L.length cap, (.func (.func 60) #[] #[])] w (fun e w' => e = .returned (.int .i64 ((gck dck L : Nat) : Int)) ∧ Below w.heap.size w w') := by
  have HZ : ∀ s, dck s = 0 → ck s = 0 ∧ 1 ≤ pz s := fun s h => dck_zero h
  by_cases hl : 16 < L.length
  · have e : gck dck L = 5 := by unfold gck; rw [if_pos hl]
    rw [e]
    exact chain_d_many a L.length cap hl w
  · have hl' : L.length ≤ 16 := by omega
    have HS := hsz hl'
    have HR : ∀ j, j ≤ L.length → (∀ i, i < j → good dck L i) → ∀ i, i < j → ∀ w, Tab w → Calls Tryz.prog 46 #[.string (sat L i), .string (la L i)] w (fun e w' => e = .returned (.tuple #[.string ⟨#[48]⟩, .int .i64 0]) ∧ Below w.heap.size w w') := by
      intro j hj hg i hi w hT
      have h1 := la_right HZ (fun k (hk : k < i) => hg k (by omega))
      have := rem_right (sat L i) (la L i) (HZ _ (hg i hi).1).1 h1.1 (by omega) w hT
      rw [(hg i hi).2, T_naught] at this
      exact this
    have HC : ∀ i, i < L.length → dck (sat L i) = 0 → ∀ w, Tab w → Calls Tryz.prog 60 #[.string (sat L i)] w (fun e w' => e = .returned (.int .i64 0) ∧ Below w.heap.size w w') := by
      intro i hi h0 w _
      have := diag_any (sat L i) (HS i hi) w
      rw [h0] at this
      exact this
    rcases gck_ways dck L hl' with ⟨e, hg⟩ | ⟨q, hq, hg, ⟨h1, e⟩ | ⟨h1, h2, e⟩⟩
    · rw [e]
      exact chain_d_ok a cap L hl' (la L) (Lib.hid T_one) (Lib.hid fun _ => rfl) (Lib.hid fun j hj w hT => HC j hj (hg j hj).1 w hT) (Lib.hid fun j hj w hT => HR _ (Nat.le_refl _) hg j hj w hT) w h hT
    · rw [e]
      exact chain_d_one a cap L hl' q hq (dck (sat L q)) h1 (la L) (Lib.hid T_one) (Lib.hid fun _ => rfl) (Lib.hid fun j hj w hT => HC j (by omega) (hg j hj).1 w hT) (Lib.hid fun j hj w hT => HR q (by omega) hg j hj w hT)
        (Lib.hid fun w _ => diag_any (sat L q) (HS q hq) w) w h hT
    · rw [e]
      have h3 := la_right HZ hg
      exact chain_d_order a cap L hl' q hq (T (rz (pz (sat L q)) (pz (la L q)))) 0 (by rw [T_is_zero]; exact decide_eq_false h2) (la L) (Lib.hid T_one) (Lib.hid fun _ => rfl) (Lib.hid fun j hj w hT => HC j (by omega) (hg j hj).1 w hT) (Lib.hid fun j hj w hT => HR q (by omega) hg j hj w hT)
        (Lib.hid fun w hT => HC q hq h1 w hT) (Lib.hid fun w hT => rem_right (sat L q) (la L q) (HZ _ h1).1 h3.1 (by omega) w hT) w h hT

set_option maxHeartbeats 3200000 in
set_option maxRecDepth 100000 in
/-- Check of the program. -/
theorem gcheck_any (a : Option Addr) (cap : Nat) (L : List ByteArray) (hsz : L.length ≤ 16 → ∀ j, j < L.length → (sat L j).size ≤ 9223372036854775807) (w : World) (h : TsAt w a L) (hT : Tab w) :
    Calls Tryz.prog 22 #[.slice a L.length cap] w (fun e w' => e = .returned (.int .i64 ((gck fck L : Nat) : Int)) ∧ Below w.heap.size w w') := by
  have H := Lib.hid (chain_f_any a cap L hsz w h hT)
  obtain ⟨k, hk⟩ : ∃ k, k = gck fck L := ⟨_, rfl⟩
  rw [← hk] at H ⊢
  clear hk h hT hsz
  go_enter Tryz.func22, Tryz.ntmps22
  go_wp2_with fail
  refine H.out.mono ?_
  rintro e w1 ⟨rfl, hb1⟩
  go_wp2
  go_ret
  exact ⟨rfl, hb1⟩

/-- Check of the reference. -/
theorem rgcheck_any (a : Option Addr) (cap : Nat) (L : List ByteArray) (hsz : L.length ≤ 16 → ∀ j, j < L.length → (sat L j).size ≤ 9223372036854775807) (w : World) (h : TsAt w a L) :
    Calls Tryz.prog 23 #[.slice a L.length cap] w (fun e w' => e = .returned (.int .i64 ((gck fck L : Nat) : Int)) ∧ Below w.heap.size w w') := by
  by_cases hl : 16 < L.length
  · have e : gck fck L = 5 := by unfold gck; rw [if_pos hl]
    rw [e]
    exact rck_many a L.length cap hl w
  · have hl' : L.length ≤ 16 := by omega
    have HS := hsz hl'
    have HC : ∀ i, i < L.length → ck (sat L i) = 0 → ∀ w, Calls Tryz.prog 44 #[.string (sat L i)] w (fun e w' => e = .returned (.int .i64 0) ∧ Below w.heap.size w w') := by
      intro i hi h0 w
      have := rcheck_right (sat L i) (HS i hi) w
      rw [h0] at this
      exact this
    have HD : ∀ j, j + 1 < L.length → good fck L j → good fck L (j + 1) → ∀ w, Calls Tryz.prog 62 #[.string (sat L j), .string (sat L (j + 1))] w (fun e w' => e = .returned (.bool true) ∧ Below w.heap.size w w') := by
      intro j hj h1 h2 w
      have h3 := fck_zero h1.1
      have := divides_right (sat L j) (sat L (j + 1)) h3.1 (fck_zero h2.1).1 (by omega) w
      rw [decide_eq_true (show rz (pz (sat L (j + 1))) (pz (sat L j)) = 0 from h2.2)] at this
      exact this
    have HP : ∀ j, good fck L j → 0 ≤ cmpZ (pz (sat L j)) 2 := by
      intro j h1
      have := (fck_zero h1.1).2
      unfold cmpZ
      rw [if_neg (by omega)]
      split <;> omega
    rcases gck_ways fck L hl' with ⟨e, hg⟩ | ⟨q, hq, hg, ⟨h1, e⟩ | ⟨h1, h2, e⟩⟩
    · rw [e]
      exact rck_ok a cap L hl' (Lib.hid fun j hj w => HC j hj (fck_zero (hg j hj).1).1 w) (fun j => cmpZ (pz (sat L j)) 2) (Lib.hid fun j hj => HP j (hg j hj)) (Lib.hid fun j hj w => order2_right _ (fck_zero (hg j hj).1).1 w)
        (Lib.hid fun j hj w => HD j hj (hg j (by omega)) (hg (j + 1) hj) w) w h
    · rw [e]
      by_cases h0 : ck (sat L q) = 0
      · have h2 : pz (sat L q) < 2 := by
          apply Classical.byContradiction
          intro hn
          apply h1
          unfold fck
          rw [if_neg (by simp [h0]), if_neg hn]
        have e2 : fck (sat L q) = 2 := by unfold fck; rw [if_neg (by simp [h0]), if_pos h2]
        rw [e2]
        exact rck_two a cap L hl' q hq (cmpZ (pz (sat L q)) 2) (by unfold cmpZ; rw [if_pos h2]; omega) (Lib.hid fun j hj w => HC j (by omega) (fck_zero (hg j hj).1).1 w) (fun j => cmpZ (pz (sat L j)) 2) (Lib.hid fun j hj => HP j (hg j hj)) (Lib.hid fun j hj w => order2_right _ (fck_zero (hg j hj).1).1 w)
          (Lib.hid fun j hj w => HD j (by omega) (hg j (by omega)) (hg (j + 1) hj) w) (Lib.hid fun w => HC q hq h0 w) (Lib.hid fun w => order2_right _ h0 w) w h
      · have e2 : fck (sat L q) = ck (sat L q) := by unfold fck; rw [if_pos h0]
        rw [e2]
        exact rck_one a cap L hl' q hq (ck (sat L q)) h0 (Lib.hid fun j hj w => HC j (by omega) (fck_zero (hg j hj).1).1 w) (fun j => cmpZ (pz (sat L j)) 2) (Lib.hid fun j hj => HP j (hg j hj)) (Lib.hid fun j hj w => order2_right _ (fck_zero (hg j hj).1).1 w)
          (Lib.hid fun j hj w => HD j (by omega) (hg j (by omega)) (hg (j + 1) hj) w) (Lib.hid fun w => rcheck_right _ (HS q hq) w) w h
    · rw [e]
      have h0 := fck_zero h1
      rcases q with _ | m
      · exfalso
        apply h2
        show rz _ (pz (T 1)) = 0
        rw [pz_T]
        unfold rz qz
        simp
      · have h3 := fck_zero (hg m (by omega)).1
        have hd := divides_right (sat L m) (sat L (m + 1)) h3.1 h0.1 (by omega)
        rw [decide_eq_false (show ¬ rz (pz (sat L (m + 1))) (pz (sat L m)) = 0 from h2)] at hd
        exact rck_order a cap L hl' m hq (cmpZ (pz (sat L (m + 1))) 2) (by unfold cmpZ; rw [if_neg (by omega)]; split <;> omega) (Lib.hid fun j hj w => HC j (by omega) (fck_zero (hg j hj).1).1 w) (fun j => cmpZ (pz (sat L j)) 2) (Lib.hid fun j hj => HP j (hg j hj)) (Lib.hid fun j hj w => order2_right _ (fck_zero (hg j hj).1).1 w)
          (Lib.hid fun j hj w => HD j (by omega) (hg j (by omega)) (hg (j + 1) hj) w) (Lib.hid fun w => HC (m + 1) hq h0.1 w) (Lib.hid fun w => order2_right _ h0.1 w) (Lib.hid hd) w h

end Go.Proofs.YtnfmcdfdbipeoaaGreatDoor
