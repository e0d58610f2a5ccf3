/- Walks of the laws of fractions: lists of fractions, and which of them are few. And: Walks of the laws of fractions: sums of lists, of the program. And: Walks of the laws of fractions: sums of lists, of the reference. And: Walks of the laws of fractions: the law of sums. -/
import Derived.Test.YtolkiimlchfmlaaGreatDoorHa
import Derived.Test.YtolkiimlchfmlaaGreatDoorQ13
namespace Go.Proofs.YtolkiimlchfmlaaGreatDoor
open Go.RowKit Go.Proofs.Num

/-- The fraction at a place. -/
def fat (L : List (ByteArray × ByteArray)) (j : Nat) : ByteArray × ByteArray := L.getD j (ByteArray.empty, ByteArray.empty)
/-- At an address the fractions of a list lie. -/
def FsAt (w : World) (a : Option Addr) (L : List (ByteArray × ByteArray)) : Prop :=
  ∀ j, j < L.length → ∃ b off, a = some ⟨b, off, none⟩ ∧ b < w.heap.size ∧ w.cell? ⟨b, off + j * 2, none⟩ = some (.string (fat L j).1) ∧ w.cell? ⟨b, off + j * 2 + 1, none⟩ = some (.string (fat L j).2)
theorem FsAt.keep {w w' : World} {a : Option Addr} {L : List (ByteArray × ByteArray)} (h : FsAt w a L) (hb : Below w.heap.size w w') : FsAt w' a L := by
  intro j hj
  obtain ⟨b, off, rfl, hlt, hc, hd⟩ := h j hj
  exact ⟨b, off, rfl, Nat.lt_of_lt_of_le hlt hb.size, (hb.cell (p := ⟨b, off + j * 2, none⟩) hlt).trans hc, (hb.cell (p := ⟨b, off + j * 2 + 1, none⟩) hlt).trans hd⟩

/-- The first forty are few up to a place. -/
def FewTo (L : List (ByteArray × ByteArray)) (i : Nat) : Prop := ∀ j, j < i → j < L.length → (fewB (fat L j).1 && fewB (fat L j).2) = true

set_option maxHeartbeats 3200000 in
set_option maxRecDepth 100000 in
/-- One of the first forty is not few. -/
theorem rfewall_no (a : Option Addr) (cap p : Nat) (L : List (ByteArray × ByteArray)) (hp : p < L.length) (h40 : p < 40)
    (HF : Hid (∀ j, j < p → ∀ w, Calls Tryz.prog 10 #[FrV (fat L j).1 (fat L j).2] w fun e w' => e = .returned (.bool true) ∧ Below w.heap.size w w'))
    (HP : Hid (∀ w, Calls Tryz.prog 10 #[FrV (fat L p).1 (fat L p).2] w fun e w' => e = .returned (.bool false) ∧ Below w.heap.size w w')) (w : World) (h : FsAt w a L) :
    Calls Tryz.prog 37 #[.slice a L.length cap] w fun e w' => e = .returned (.bool false) ∧ Below w.heap.size w w' := by
  have H := Lib.hid h
  unfold FrV at *
  clear h
  go_enter Tryz.func37, Tryz.ntmps37
  go_wp2
  go_loopw [3] (fun v wr => ∃ i : Nat, i ≤ p ∧ v = .int .i64 i ∧ Below w.heap.size w wr) (fun v _ => p - (intOf v).toNat)
  case atStart => exact ⟨0, Nat.zero_le _, rfl, Below.refl _ _⟩
  case round =>
    obtain ⟨i, hi, rfl, hB⟩ := hrel
    have hiL : i < L.length := by omega
    have hi40 : i < 40 := by omega
    obtain ⟨b, off, rfl, hb, hc, hd⟩ := (H.out.keep hB) i hiL
    have d1 : decide (((i : Nat) : Int) < 40) = true := decide_eq_true (by omega)
    by_cases hlt : i < p
    · have C := Lib.hid (fun w => HF.out i hlt w)
      go_wp2_with fail
      refine (C.out _).mono ?_
      rintro e w1 ⟨rfl, hb1⟩
      have hB1 : Below w.heap.size w w1 := hB.trans (hb1.mono hB.size)
      go_wp2
      go_roundw
      case rel => exact ⟨i + 1, by omega, by go_num, hB1⟩
      case measure => simp [intOf]; omega
    · obtain rfl : i = p := by omega
      go_wp2_with fail
      refine (HP.out _).mono ?_
      rintro e w1 ⟨rfl, hb1⟩
      have hB1 : Below w.heap.size w w1 := hB.trans (hb1.mono hB.size)
      go_wp2
      go_ret
      exact ⟨rfl, hB1⟩

set_option maxHeartbeats 3200000 in
set_option maxRecDepth 100000 in
theorem rfewall_s (a : Option Addr) (cap : Nat) (L : List (ByteArray × ByteArray)) (hl : L.length ≤ 40)
    (HF : Hid (∀ j, j < L.length → ∀ w, Calls Tryz.prog 10 #[FrV (fat L j).1 (fat L j).2] w fun e w' => e = .returned (.bool true) ∧ Below w.heap.size w w')) (w : World) (h : FsAt w a L) :
    Calls Tryz.prog 37 #[.slice a L.length cap] w fun e w' => e = .returned (.bool true) ∧ Below w.heap.size w w' := by
  have H := Lib.hid h
  unfold FrV at *
  clear h
  have d2 : decide (((L.length : Nat) : Int) ≤ 40) = true := decide_eq_true (by omega)
  go_enter Tryz.func37, Tryz.ntmps37
  go_wp2
  go_loopw [3] (fun v wr => ∃ i : Nat, i ≤ L.length ∧ v = .int .i64 i ∧ Below w.heap.size w wr) (fun v _ => L.length - (intOf v).toNat)
  case atStart => exact ⟨0, Nat.zero_le _, rfl, Below.refl _ _⟩
  case round =>
    obtain ⟨i, hi, rfl, hB⟩ := hrel
    by_cases hlt : i < L.length
    · have hiL : i < L.length := by omega
      obtain ⟨b, off, rfl, hb, hc, hd⟩ := (H.out.keep hB) i hiL
      have d1 : decide (((i : Nat) : Int) < 40) = true := decide_eq_true (by omega)
      have C := Lib.hid (fun w => HF.out i hlt w)
      go_wp2_with fail
      refine (C.out _).mono ?_
      rintro e w1 ⟨rfl, hb1⟩
      have hB1 : Below w.heap.size w w1 := hB.trans (hb1.mono hB.size)
      go_wp2
      go_roundw
      case rel => exact ⟨i + 1, by omega, by go_num, hB1⟩
      case measure => simp [intOf]; omega
    · have hiN : i = L.length := by omega
      subst hiN
      go_wp2
      go_ret
      exact ⟨rfl, hB⟩

set_option maxHeartbeats 3200000 in
set_option maxRecDepth 100000 in
theorem rfewall_m (a : Option Addr) (cap : Nat) (L : List (ByteArray × ByteArray)) (hl : 4096 < L.length) (hl2 : L.length < 8192)
    (HF : Hid (∀ j, j < 40 → ∀ w, Calls Tryz.prog 10 #[FrV (fat L j).1 (fat L j).2] w fun e w' => e = .returned (.bool true) ∧ Below w.heap.size w w')) (w : World) (h : FsAt w a L) :
    Calls Tryz.prog 37 #[.slice a L.length cap] w fun e w' => e = .returned (.bool true) ∧ Below w.heap.size w w' := by
  have H := Lib.hid h
  unfold FrV at *
  clear h
  have d2 : decide (((L.length : Nat) : Int) ≤ 40) = false := decide_eq_false (by omega)
  have d0 : decide (40 < ((L.length : Nat) : Int)) = true := decide_eq_true (by omega)
  have d3 : decide (4096 < ((L.length : Nat) : Int)) = true := decide_eq_true (by omega)
  have d4 : decide (((L.length : Nat) : Int) < 8192) = true := decide_eq_true (by omega)
  go_enter Tryz.func37, Tryz.ntmps37
  go_wp2
  go_loopw [3] (fun v wr => ∃ i : Nat, i ≤ 40 ∧ v = .int .i64 i ∧ Below w.heap.size w wr) (fun v _ => 40 - (intOf v).toNat)
  case atStart => exact ⟨0, Nat.zero_le _, rfl, Below.refl _ _⟩
  case round =>
    obtain ⟨i, hi, rfl, hB⟩ := hrel
    by_cases hlt : i < 40
    · have hiL : i < L.length := by omega
      obtain ⟨b, off, rfl, hb, hc, hd⟩ := (H.out.keep hB) i hiL
      have d1 : decide (((i : Nat) : Int) < 40) = true := decide_eq_true (by omega)
      have C := Lib.hid (fun w => HF.out i hlt w)
      go_wp2_with fail
      refine (C.out _).mono ?_
      rintro e w1 ⟨rfl, hb1⟩
      have hB1 : Below w.heap.size w w1 := hB.trans (hb1.mono hB.size)
      go_wp2
      go_roundw
      case rel => exact ⟨i + 1, by omega, by go_num, hB1⟩
      case measure => simp [intOf]; omega
    · have hiN : i = 40 := by omega
      subst hiN
      go_wp2
      go_ret
      exact ⟨rfl, hB⟩

set_option maxHeartbeats 3200000 in
set_option maxRecDepth 100000 in
theorem rfewall_f1 (a : Option Addr) (cap : Nat) (L : List (ByteArray × ByteArray)) (hl : 40 < L.length) (hl2 : L.length ≤ 4096)
    (HF : Hid (∀ j, j < 40 → ∀ w, Calls Tryz.prog 10 #[FrV (fat L j).1 (fat L j).2] w fun e w' => e = .returned (.bool true) ∧ Below w.heap.size w w')) (w : World) (h : FsAt w a L) :
    Calls Tryz.prog 37 #[.slice a L.length cap] w fun e w' => e = .returned (.bool false) ∧ Below w.heap.size w w' := by
  have H := Lib.hid h
  unfold FrV at *
  clear h
  have d2 : decide (((L.length : Nat) : Int) ≤ 40) = false := decide_eq_false (by omega)
  have d0 : decide (40 < ((L.length : Nat) : Int)) = true := decide_eq_true (by omega)
  have d3 : decide (4096 < ((L.length : Nat) : Int)) = false := decide_eq_false (by omega)
  go_enter Tryz.func37, Tryz.ntmps37
  go_wp2
  go_loopw [3] (fun v wr => ∃ i : Nat, i ≤ 40 ∧ v = .int .i64 i ∧ Below w.heap.size w wr) (fun v _ => 40 - (intOf v).toNat)
  case atStart => exact ⟨0, Nat.zero_le _, rfl, Below.refl _ _⟩
  case round =>
    obtain ⟨i, hi, rfl, hB⟩ := hrel
    by_cases hlt : i < 40
    · have hiL : i < L.length := by omega
      obtain ⟨b, off, rfl, hb, hc, hd⟩ := (H.out.keep hB) i hiL
      have d1 : decide (((i : Nat) : Int) < 40) = true := decide_eq_true (by omega)
      have C := Lib.hid (fun w => HF.out i hlt w)
      go_wp2_with fail
      refine (C.out _).mono ?_
      rintro e w1 ⟨rfl, hb1⟩
      have hB1 : Below w.heap.size w w1 := hB.trans (hb1.mono hB.size)
      go_wp2
      go_roundw
      case rel => exact ⟨i + 1, by omega, by go_num, hB1⟩
      case measure => simp [intOf]; omega
    · have hiN : i = 40 := by omega
      subst hiN
      go_wp2
      go_ret
      exact ⟨rfl, hB⟩

set_option maxHeartbeats 3200000 in
set_option maxRecDepth 100000 in
theorem rfewall_f2 (a : Option Addr) (cap : Nat) (L : List (ByteArray × ByteArray)) (hl : 8192 ≤ L.length)
    (HF : Hid (∀ j, j < 40 → ∀ w, Calls Tryz.prog 10 #[FrV (fat L j).1 (fat L j).2] w fun e w' => e = .returned (.bool true) ∧ Below w.heap.size w w')) (w : World) (h : FsAt w a L) :
    Calls Tryz.prog 37 #[.slice a L.length cap] w fun e w' => e = .returned (.bool false) ∧ Below w.heap.size w w' := by
  have H := Lib.hid h
  unfold FrV at *
  clear h
  have d2 : decide (((L.length : Nat) : Int) ≤ 40) = false := decide_eq_false (by omega)
  have d0 : decide (40 < ((L.length : Nat) : Int)) = true := decide_eq_true (by omega)
  have d3 : decide (4096 < ((L.length : Nat) : Int)) = true := decide_eq_true (by omega)
  have d4 : decide (((L.length : Nat) : Int) < 8192) = false := decide_eq_false (by omega)
  go_enter Tryz.func37, Tryz.ntmps37
  go_wp2
  go_loopw [3] (fun v wr => ∃ i : Nat, i ≤ 40 ∧ v = .int .i64 i ∧ Below w.heap.size w wr) (fun v _ => 40 - (intOf v).toNat)
  case atStart => exact ⟨0, Nat.zero_le _, rfl, Below.refl _ _⟩
  case round =>
    obtain ⟨i, hi, rfl, hB⟩ := hrel
    by_cases hlt : i < 40
    · have hiL : i < L.length := by omega
      obtain ⟨b, off, rfl, hb, hc, hd⟩ := (H.out.keep hB) i hiL
      have d1 : decide (((i : Nat) : Int) < 40) = true := decide_eq_true (by omega)
      have C := Lib.hid (fun w => HF.out i hlt w)
      go_wp2_with fail
      refine (C.out _).mono ?_
      rintro e w1 ⟨rfl, hb1⟩
      have hB1 : Below w.heap.size w w1 := hB.trans (hb1.mono hB.size)
      go_wp2
      go_roundw
      case rel => exact ⟨i + 1, by omega, by go_num, hB1⟩
      case measure => simp [intOf]; omega
    · have hiN : i = 40 := by omega
      subst hiN
      go_wp2
      go_ret
      exact ⟨rfl, hB⟩

end Go.Proofs.YtolkiimlchfmlaaGreatDoor

namespace Go.Proofs.YtolkiimlchfmlaaGreatDoor
open Go.RowKit Go.Proofs.Num

set_option maxHeartbeats 6400000 in
set_option maxRecDepth 100000 in
theorem psum_many (a : Option Addr) (cap n : Nat) (hl : 4096 < n) (w : World) :
    Calls Tryz.prog 38 #[.slice a n cap] w (FrE w ⟨#[]⟩ ⟨#[]⟩ 5) := by
  have d0 : decide (4096 < ((n : Nat) : Int)) = true := decide_eq_true (by omega)
  unfold FrE FrV
  obtain ⟨W, hW, hR, hBl, hsz⟩ := box1T 24 w (.string ⟨#[]⟩) (.string ⟨#[]⟩)
  have HBL := Lib.hid hBl
  have x0 := hR.c0; have x1 := hR.c1; have x2 := hR.f0 0; have x3 := hR.f0 1
  rw [hW] at x0 x1 x2 x3
  have HW := Lib.hid hW
  clear hR hBl hsz hW
  go_enter Tryz.func38, Tryz.ntmps38
  go_wp2
  rw [← HW.out] at x0 x1 x2 x3 ⊢
  refine bodyPost_ret (v := .tuple #[.agg #[.string ⟨#[]⟩, .string ⟨#[]⟩], .int .i64 5]) (by simp [results, Tryz.results38, go_sem, x0, x1]) rfl ⟨rfl, HBL.out⟩

set_option maxHeartbeats 6400000 in
set_option maxRecDepth 100000 in
theorem psum_chk (a : Option Addr) (cap : Nat) (L : List (ByteArray × ByteArray)) (hl : L.length ≤ 4096) (p k : Nat) (hp : p < L.length) (hk : k ≠ 0) (HC : Hid (∀ j, j < p → ∀ w, Tab w → Calls Tryz.prog 18 #[FrV (fat L j).1 (fat L j).2] w fun e w' => e = .returned (.int .i64 0) ∧ Below w.heap.size w w')) (HP : Hid (∀ w, Tab w → Calls Tryz.prog 18 #[FrV (fat L p).1 (fat L p).2] w fun e w' => e = .returned (.int .i64 ((k : Nat) : Int)) ∧ Below w.heap.size w w')) (w : World) (h : FsAt w a L) (hT : Tab w) :
    Calls Tryz.prog 38 #[.slice a L.length cap] w (FrE w ⟨#[]⟩ ⟨#[]⟩ k) := by
  have d0 : decide (4096 < ((L.length : Nat) : Int)) = false := decide_eq_false (by omega)
  have HT := Lib.hid hT
  have H := Lib.hid h
  have hk0 : ¬ ((k : Nat) : Int) = 0 := by omega
  have hk1 : (((k : Nat) : Int) != 0) = true := by simp; omega
  clear hk
  unfold FrE at *
  unfold FrV at *
  clear h hT
  obtain ⟨W, hW, hR, hBl, hsz⟩ := box1T 24 w (.string ⟨#[]⟩) (.string ⟨#[]⟩)
  have HBL := Lib.hid hBl
  have HR := Lib.hid hR
  have HW := Lib.hid hW
  clear hR hBl hsz hW
  go_enter Tryz.func38, Tryz.ntmps38
  go_wp2
  rw [← HW.out]
  go_loopw [18] (fun v wr => ∃ i : Nat, i ≤ p ∧ v = .int .i64 i ∧ Below W.heap.size W wr) (fun v _ => p - (intOf v).toNat)
  case atStart => exact ⟨0, Nat.zero_le _, rfl, Below.refl _ _⟩
  case round =>
    obtain ⟨i, hi, rfl, hB⟩ := hrel
    have HBw := Lib.hid (HBL.out.trans (hB.mono HBL.out.size))
    by_cases hlt : i < p
    · have hiL : i < L.length := by omega
      obtain ⟨b, off, rfl, hb, hc, hd⟩ := (H.out.keep HBw.out) i hiL
      have C := Lib.hid (fun w => HC.out i hlt w)
      obtain ⟨W2, hW2, hR2, hb2, hsz2⟩ := box1T 24 wr (.string (fat L i).1) (.string (fat L i).2)
      have x0 := hR2.c0; have x1 := hR2.c1
      have hBw2 := HBw.out.trans (hb2.mono HBw.out.size)
      have hB2 := hB.trans (hb2.mono hB.size)
      rw [hW2] at x0 x1
      have HW2 := Lib.hid hW2
      clear hR2 hsz2 hW2 hb2
      go_wp2_with fail
      rw [← HW2.out]
      refine (C.out _ (HT.out.keep hBw2)).mono ?_
      rintro e w1 ⟨rfl, hb1⟩
      have hB1 : Below W.heap.size W w1 := hB2.trans (hb1.mono hB2.size)
      clear x0 x1 hb1
      go_wp2
      go_roundw
      case rel => exact ⟨i + 1, by omega, by go_num, hB1⟩
      case measure => simp [intOf]; omega
    · obtain rfl : i = p := by omega
      obtain ⟨b, off, rfl, hb, hc, hd⟩ := (H.out.keep HBw.out) i hp
      obtain ⟨W2, hW2, hR2, hb2, hsz2⟩ := box1T 24 wr (.string (fat L i).1) (.string (fat L i).2)
      have x0 := hR2.c0; have x1 := hR2.c1
      have hBw2 := HBw.out.trans (hb2.mono HBw.out.size)
      have hB2 := hB.trans (hb2.mono hB.size)
      rw [hW2] at x0 x1
      have HW2 := Lib.hid hW2
      clear hR2 hsz2 hW2 hb2
      go_wp2_with fail
      rw [← HW2.out]
      refine (HP.out _ (HT.out.keep hBw2)).mono ?_
      rintro e w1 ⟨rfl, hb1⟩
      have hB1 : Below W.heap.size W w1 := hB2.trans (hb1.mono hB2.size)
      have hBw1 := hBw2.trans (hb1.mono hBw2.size)
      have hR9 := HR.out.keep hB1
      clear x0 x1 hb1
      have x0 := hR9.c0; have x1 := hR9.c1; have x2 := hR9.f0 0; have x3 := hR9.f0 1
      go_wp2
      refine bodyPost_ret (v := .tuple #[.agg #[.string ⟨#[]⟩, .string ⟨#[]⟩], .int .i64 ((k : Nat) : Int)]) (by simp [results, Tryz.results38, go_sem, x0, x1]) rfl ⟨rfl, (hBw1.setCell (by simp <;> omega) _).setCell (by simp <;> omega) _⟩

set_option maxHeartbeats 6400000 in
set_option maxRecDepth 100000 in
theorem psum_tot (a : Option Addr) (cap : Nat) (L : List (ByteArray × ByteArray)) (hl : L.length ≤ 4096) (A B : Nat → ByteArray) (HC : Hid (∀ j, j < L.length → ∀ w, Tab w → Calls Tryz.prog 18 #[FrV (fat L j).1 (fat L j).2] w fun e w' => e = .returned (.int .i64 0) ∧ Below w.heap.size w w')) (H0 : Hid (A 0 = ⟨#[48]⟩ ∧ B 0 = ⟨#[49]⟩)) (HA : Hid (∀ j, j < L.length → ∀ w, Tab w → Calls Tryz.prog 65 #[FrV (A j) (B j), FrV (fat L j).1 (fat L j).2] w (FrE w (A (j + 1)) (B (j + 1)) 0))) (w : World) (h : FsAt w a L) (hT : Tab w) :
    Calls Tryz.prog 38 #[.slice a L.length cap] w (FrE w (A L.length) (B L.length) 0) := by
  have d0 : decide (4096 < ((L.length : Nat) : Int)) = false := decide_eq_false (by omega)
  have HT := Lib.hid hT
  have H := Lib.hid h
  unfold FrE at *
  unfold FrV at *
  clear h hT
  obtain ⟨W, hW, hR, hBl, hsz⟩ := box1T 24 w (.string ⟨#[]⟩) (.string ⟨#[]⟩)
  have HBL := Lib.hid hBl
  have HR := Lib.hid hR
  have HW := Lib.hid hW
  clear hR hBl hsz hW
  go_enter Tryz.func38, Tryz.ntmps38
  go_wp2
  rw [← HW.out]
  go_loopw [18] (fun v wr => ∃ i : Nat, i ≤ L.length ∧ v = .int .i64 i ∧ Below W.heap.size W wr) (fun v _ => L.length - (intOf v).toNat)
  case atStart => exact ⟨0, Nat.zero_le _, rfl, Below.refl _ _⟩
  case round =>
    obtain ⟨i, hi, rfl, hB⟩ := hrel
    have HBw := Lib.hid (HBL.out.trans (hB.mono HBL.out.size))
    by_cases hlt : i < L.length
    · have hiL : i < L.length := by omega
      obtain ⟨b, off, rfl, hb, hc, hd⟩ := (H.out.keep HBw.out) i hiL
      have C := Lib.hid (fun w => HC.out i hlt w)
      obtain ⟨W2, hW2, hR2, hb2, hsz2⟩ := box1T 24 wr (.string (fat L i).1) (.string (fat L i).2)
      have x0 := hR2.c0; have x1 := hR2.c1
      have hBw2 := HBw.out.trans (hb2.mono HBw.out.size)
      have hB2 := hB.trans (hb2.mono hB.size)
      rw [hW2] at x0 x1
      have HW2 := Lib.hid hW2
      clear hR2 hsz2 hW2 hb2
      go_wp2_with fail
      rw [← HW2.out]
      refine (C.out _ (HT.out.keep hBw2)).mono ?_
      rintro e w1 ⟨rfl, hb1⟩
      have hB1 : Below W.heap.size W w1 := hB2.trans (hb1.mono hB2.size)
      clear x0 x1 hb1
      go_wp2
      go_roundw
      case rel => exact ⟨i + 1, by omega, by go_num, hB1⟩
      case measure => simp [intOf]; omega
    · obtain rfl : i = L.length := by omega
      clear hlt
      obtain ⟨V, hV, hR7, hb7, hsz7⟩ := box1T 24 wr (.string ⟨#[48]⟩) (.string ⟨#[49]⟩)
      have HBV := Lib.hid (HBw.out.trans (hb7.mono HBw.out.size))
      have HRV := Lib.hid (HR.out.keep (hB.trans (hb7.mono hB.size)))
      have hlt7 : w.heap.size < wr.heap.size := by have := (HR.out.keep hB).lt; exact this
      obtain ⟨b7, hb7'⟩ : ∃ b7, b7 = wr.heap.size := ⟨_, rfl⟩
      have hR77 : Box 24 V b7 (.string (A 0)) (.string (B 0)) := by rw [H0.out.1, H0.out.2, hb7']; exact hR7
      have hge : w.heap.size < b7 := by rw [hb7']; exact hlt7
      have H77 := Lib.hid hR77
      have HV := Lib.hid hV
      clear hV hR7 hb7 hsz7 hlt7 hR77
      go_wp2
      rw [← HV.out, ← hb7']
      have HB7 := Lib.hid hb7'
      clear hb7' HV HBw hB
      go_loopw [32] (fun v wr => ∃ i : Nat, i ≤ L.length ∧ v = .int .i64 i ∧ Below w.heap.size w wr ∧ Box 24 wr b7 (.string (A i)) (.string (B i)) ∧ Box 24 wr w.heap.size (.string ⟨#[]⟩) (.string ⟨#[]⟩)) (fun v _ => L.length - (intOf v).toNat)
      case atStart => exact ⟨0, Nat.zero_le _, rfl, HBV.out, H77.out, HRV.out⟩
      case round =>
        obtain ⟨i, hi, rfl, hB, hS, hR⟩ := hrel
        have HS := Lib.hid hS
        have HRr := Lib.hid hR
        clear hS hR
        by_cases hlt : i < L.length
        · have hiL : i < L.length := by omega
          obtain ⟨b, off, rfl, hb, hc, hd⟩ := (H.out.keep hB) i hiL
          have C := Lib.hid (fun w => HA.out i hlt w)
          obtain ⟨W2, hW2, hR2, hb2, hsz2⟩ := box1T 24 wr (.string (fat L i).1) (.string (fat L i).2)
          have hS2 := HS.out.keep hb2
          have x0 := hR2.c0; have x1 := hR2.c1; have y0 := hS2.c0; have y1 := hS2.c1
          have hB2 := hB.trans (hb2.mono hB.size)
          have HR2 := Lib.hid (HRr.out.keep hb2)
          have HS2 := Lib.hid hS2
          rw [hW2] at x0 x1 y0 y1
          have HW2 := Lib.hid hW2
          clear hR2 hsz2 hW2 hb2 hS2
          go_wp2_with fail
          rw [← HW2.out]
          refine (C.out _ (HT.out.keep hB2)).mono ?_
          rintro e w1 ⟨rfl, hb1⟩
          have hB1 : Below w.heap.size w w1 := hB2.trans (hb1.mono hB2.size)
          have HS1 := Lib.hid (HS2.out.keep hb1)
          have HR1 := Lib.hid (HR2.out.keep hb1)
          clear x0 x1 y0 y1 hb1
          obtain ⟨W3, hW3, hR3, hb3, hsz3⟩ := box1T 24 w1 (.string (A (i + 1))) (.string (B (i + 1)))
          have hS3 := HS1.out.keep hb3
          have hB3 := hB1.trans (hb3.mono hB1.size)
          have HR3 := Lib.hid (HR1.out.keep hb3)
          have HS3 := Lib.hid hS3
          have x0 := hR3.c0; have x1 := hR3.c1; have y0 := hS3.c0; have y1 := hS3.c1; have y2 := hS3.f0 0; have y3 := hS3.f0 1
          rw [hW3] at x0 x1 y0 y1 y2 y3
          have HW3 := Lib.hid hW3
          clear hR3 hsz3 hW3 hb3 hS3
          go_wp2
          rw [← HW3.out]
          go_roundw
          case rel =>
            refine ⟨i + 1, by omega, by go_num, (hB3.setCell (by simp; omega) _).setCell (by simp; omega) _, (HS3.out.set0 _).set1 _, ?_⟩
            exact (HR3.out.other _ _ (by simp; omega)).other _ _ (by simp; omega)
          case measure => simp [intOf]; omega
        · obtain rfl : i = L.length := by omega
          have hS9 := HS.out
          have hR9 := HRr.out
          have y0 := hS9.c0; have y1 := hS9.c1
          have x0 := hR9.c0; have x1 := hR9.c1; have x2 := hR9.f0 0; have x3 := hR9.f0 1
          clear hS9 hR9
          go_wp2
          refine bodyPost_ret (v := .tuple #[.agg #[.string (A L.length), .string (B L.length)], .int .i64 0]) (by simp [results, Tryz.results38, go_sem, x0, x1]) rfl ⟨rfl, (hB.setCell (by simp <;> omega) _).setCell (by simp <;> omega) _⟩

set_option maxHeartbeats 6400000 in
set_option maxRecDepth 100000 in
theorem psum_bad (a : Option Addr) (cap : Nat) (L : List (ByteArray × ByteArray)) (hl : L.length ≤ 4096) (A B : Nat → ByteArray) (p k : Nat) (hp : p < L.length) (hk : k ≠ 0) (HC : Hid (∀ j, j < L.length → ∀ w, Tab w → Calls Tryz.prog 18 #[FrV (fat L j).1 (fat L j).2] w fun e w' => e = .returned (.int .i64 0) ∧ Below w.heap.size w w')) (H0 : Hid (A 0 = ⟨#[48]⟩ ∧ B 0 = ⟨#[49]⟩)) (HA : Hid (∀ j, j < p → ∀ w, Tab w → Calls Tryz.prog 65 #[FrV (A j) (B j), FrV (fat L j).1 (fat L j).2] w (FrE w (A (j + 1)) (B (j + 1)) 0))) (HBd : Hid (∀ w, Tab w → Calls Tryz.prog 65 #[FrV (A p) (B p), FrV (fat L p).1 (fat L p).2] w (FrE w ⟨#[]⟩ ⟨#[]⟩ k))) (w : World) (h : FsAt w a L) (hT : Tab w) :
    Calls Tryz.prog 38 #[.slice a L.length cap] w (FrE w ⟨#[]⟩ ⟨#[]⟩ k) := by
  have d0 : decide (4096 < ((L.length : Nat) : Int)) = false := decide_eq_false (by omega)
  have HT := Lib.hid hT
  have H := Lib.hid h
  have hk0 : ¬ ((k : Nat) : Int) = 0 := by omega
  have hk1 : (((k : Nat) : Int) != 0) = true := by simp; omega
  clear hk
  unfold FrE at *
  unfold FrV at *
  clear h hT
  obtain ⟨W, hW, hR, hBl, hsz⟩ := box1T 24 w (.string ⟨#[]⟩) (.string ⟨#[]⟩)
  have HBL := Lib.hid hBl
  have HR := Lib.hid hR
  have HW := Lib.hid hW
  clear hR hBl hsz hW
  go_enter Tryz.func38, Tryz.ntmps38
  go_wp2
  rw [← HW.out]
  go_loopw [18] (fun v wr => ∃ i : Nat, i ≤ L.length ∧ v = .int .i64 i ∧ Below W.heap.size W wr) (fun v _ => L.length - (intOf v).toNat)
  case atStart => exact ⟨0, Nat.zero_le _, rfl, Below.refl _ _⟩
  case round =>
    obtain ⟨i, hi, rfl, hB⟩ := hrel
    have HBw := Lib.hid (HBL.out.trans (hB.mono HBL.out.size))
    by_cases hlt : i < L.length
    · have hiL : i < L.length := by omega
      obtain ⟨b, off, rfl, hb, hc, hd⟩ := (H.out.keep HBw.out) i hiL
      have C := Lib.hid (fun w => HC.out i hlt w)
      obtain ⟨W2, hW2, hR2, hb2, hsz2⟩ := box1T 24 wr (.string (fat L i).1) (.string (fat L i).2)
      have x0 := hR2.c0; have x1 := hR2.c1
      have hBw2 := HBw.out.trans (hb2.mono HBw.out.size)
      have hB2 := hB.trans (hb2.mono hB.size)
      rw [hW2] at x0 x1
      have HW2 := Lib.hid hW2
      clear hR2 hsz2 hW2 hb2
      go_wp2_with fail
      rw [← HW2.out]
      refine (C.out _ (HT.out.keep hBw2)).mono ?_
      rintro e w1 ⟨rfl, hb1⟩
      have hB1 : Below W.heap.size W w1 := hB2.trans (hb1.mono hB2.size)
      clear x0 x1 hb1
      go_wp2
      go_roundw
      case rel => exact ⟨i + 1, by omega, by go_num, hB1⟩
      case measure => simp [intOf]; omega
    · obtain rfl : i = L.length := by omega
      clear hlt
      obtain ⟨V, hV, hR7, hb7, hsz7⟩ := box1T 24 wr (.string ⟨#[48]⟩) (.string ⟨#[49]⟩)
      have HBV := Lib.hid (HBw.out.trans (hb7.mono HBw.out.size))
      have HRV := Lib.hid (HR.out.keep (hB.trans (hb7.mono hB.size)))
      have hlt7 : w.heap.size < wr.heap.size := by have := (HR.out.keep hB).lt; exact this
      obtain ⟨b7, hb7'⟩ : ∃ b7, b7 = wr.heap.size := ⟨_, rfl⟩
      have hR77 : Box 24 V b7 (.string (A 0)) (.string (B 0)) := by rw [H0.out.1, H0.out.2, hb7']; exact hR7
      have hge : w.heap.size < b7 := by rw [hb7']; exact hlt7
      have H77 := Lib.hid hR77
      have HV := Lib.hid hV
      clear hV hR7 hb7 hsz7 hlt7 hR77
      go_wp2
      rw [← HV.out, ← hb7']
      have HB7 := Lib.hid hb7'
      clear hb7' HV HBw hB
      go_loopw [32] (fun v wr => ∃ i : Nat, i ≤ p ∧ v = .int .i64 i ∧ Below w.heap.size w wr ∧ Box 24 wr b7 (.string (A i)) (.string (B i)) ∧ Box 24 wr w.heap.size (.string ⟨#[]⟩) (.string ⟨#[]⟩)) (fun v _ => p - (intOf v).toNat)
      case atStart => exact ⟨0, Nat.zero_le _, rfl, HBV.out, H77.out, HRV.out⟩
      case round =>
        obtain ⟨i, hi, rfl, hB, hS, hR⟩ := hrel
        have HS := Lib.hid hS
        have HRr := Lib.hid hR
        clear hS hR
        by_cases hlt : i < p
        · have hiL : i < L.length := by omega
          obtain ⟨b, off, rfl, hb, hc, hd⟩ := (H.out.keep hB) i hiL
          have C := Lib.hid (fun w => HA.out i hlt w)
          obtain ⟨W2, hW2, hR2, hb2, hsz2⟩ := box1T 24 wr (.string (fat L i).1) (.string (fat L i).2)
          have hS2 := HS.out.keep hb2
          have x0 := hR2.c0; have x1 := hR2.c1; have y0 := hS2.c0; have y1 := hS2.c1
          have hB2 := hB.trans (hb2.mono hB.size)
          have HR2 := Lib.hid (HRr.out.keep hb2)
          have HS2 := Lib.hid hS2
          rw [hW2] at x0 x1 y0 y1
          have HW2 := Lib.hid hW2
          clear hR2 hsz2 hW2 hb2 hS2
          go_wp2_with fail
          rw [← HW2.out]
          refine (C.out _ (HT.out.keep hB2)).mono ?_
          rintro e w1 ⟨rfl, hb1⟩
          have hB1 : Below w.heap.size w w1 := hB2.trans (hb1.mono hB2.size)
          have HS1 := Lib.hid (HS2.out.keep hb1)
          have HR1 := Lib.hid (HR2.out.keep hb1)
          clear x0 x1 y0 y1 hb1
          obtain ⟨W3, hW3, hR3, hb3, hsz3⟩ := box1T 24 w1 (.string (A (i + 1))) (.string (B (i + 1)))
          have hS3 := HS1.out.keep hb3
          have hB3 := hB1.trans (hb3.mono hB1.size)
          have HR3 := Lib.hid (HR1.out.keep hb3)
          have HS3 := Lib.hid hS3
          have x0 := hR3.c0; have x1 := hR3.c1; have y0 := hS3.c0; have y1 := hS3.c1; have y2 := hS3.f0 0; have y3 := hS3.f0 1
          rw [hW3] at x0 x1 y0 y1 y2 y3
          have HW3 := Lib.hid hW3
          clear hR3 hsz3 hW3 hb3 hS3
          go_wp2
          rw [← HW3.out]
          go_roundw
          case rel =>
            refine ⟨i + 1, by omega, by go_num, (hB3.setCell (by simp; omega) _).setCell (by simp; omega) _, (HS3.out.set0 _).set1 _, ?_⟩
            exact (HR3.out.other _ _ (by simp; omega)).other _ _ (by simp; omega)
          case measure => simp [intOf]; omega
        · obtain rfl : i = p := by omega
          obtain ⟨b, off, rfl, hb, hc, hd⟩ := (H.out.keep hB) i hp
          obtain ⟨W2, hW2, hR2, hb2, hsz2⟩ := box1T 24 wr (.string (fat L i).1) (.string (fat L i).2)
          have hS2 := HS.out.keep hb2
          have x0 := hR2.c0; have x1 := hR2.c1; have y0 := hS2.c0; have y1 := hS2.c1
          have hB2 := hB.trans (hb2.mono hB.size)
          have HR2 := Lib.hid (HRr.out.keep hb2)
          rw [hW2] at x0 x1 y0 y1
          have HW2 := Lib.hid hW2
          clear hR2 hsz2 hW2 hb2 hS2
          go_wp2_with fail
          rw [← HW2.out]
          refine (HBd.out _ (HT.out.keep hB2)).mono ?_
          rintro e w1 ⟨rfl, hb1⟩
          have hB1 : Below w.heap.size w w1 := hB2.trans (hb1.mono hB2.size)
          have HR1 := Lib.hid (HR2.out.keep hb1)
          clear x0 x1 y0 y1 hb1
          obtain ⟨W3, hW3, hR3, hb3, hsz3⟩ := box1T 24 w1 (.string ⟨#[]⟩) (.string ⟨#[]⟩)
          have hB3 := hB1.trans (hb3.mono hB1.size)
          have hR9 := HR1.out.keep hb3
          have x0 := hR9.c0; have x1 := hR9.c1; have x2 := hR9.f0 0; have x3 := hR9.f0 1
          rw [hW3] at x0 x1 x2 x3
          have HW3 := Lib.hid hW3
          clear hR3 hsz3 hW3 hb3 hR9
          go_wp2
          rw [← HW3.out] at x0 x1 x2 x3 ⊢
          refine bodyPost_ret (v := .tuple #[.agg #[.string ⟨#[]⟩, .string ⟨#[]⟩], .int .i64 ((k : Nat) : Int)]) (by simp [results, Tryz.results38, go_sem, x0, x1]) rfl ⟨rfl, (hB3.setCell (by simp <;> omega) _).setCell (by simp <;> omega) _⟩

end Go.Proofs.YtolkiimlchfmlaaGreatDoor

namespace Go.Proofs.YtolkiimlchfmlaaGreatDoor
open Go.RowKit Go.Proofs.Num

set_option maxHeartbeats 6400000 in
set_option maxRecDepth 100000 in
theorem rfWhole0 (w : World) : Calls Tryz.prog 87 #[.int .i64 0] w (FrOut w ⟨#[48]⟩ ⟨#[49]⟩) := by
  have HO := Lib.hid (fun w => rof_any 0 (by omega) (by omega) w)
  rw [T_naught] at HO
  unfold OutR at HO
  unfold FrOut FrV
  obtain ⟨W, hW, hR, hBl, hsz⟩ := box1T 24 w (.string ⟨#[]⟩) (.string ⟨#[]⟩)
  have HBL := Lib.hid hBl
  have HR := Lib.hid hR
  have HW := Lib.hid hW
  clear hR hBl hsz hW
  go_enter Tryz.func87, Tryz.ntmps87
  go_wp2_with fail
  rw [← HW.out]
  refine (HO.out _).mono ?_
  rintro e w1 ⟨rfl, hb1⟩
  have hB1 : Below w.heap.size w w1 := HBL.out.trans (hb1.mono HBL.out.size)
  have hR9 := HR.out.keep hb1
  have x0 := hR9.c0; have x1 := hR9.c1; have x2 := hR9.f0 0; have x3 := hR9.f0 1
  clear hR9
  go_wp2
  refine bodyPost_ret (v := .agg #[.string ⟨#[48]⟩, .string ⟨#[49]⟩]) (by simp [results, Tryz.results87, go_sem, x0, x1]) rfl ⟨rfl, (hB1.setCell (by simp <;> omega) _).setCell (by simp <;> omega) _⟩

set_option maxHeartbeats 6400000 in
set_option maxRecDepth 100000 in
theorem rsum_many (a : Option Addr) (cap n : Nat) (hl : 4096 < n) (w : World) :
    Calls Tryz.prog 39 #[.slice a n cap] w (FrE w ⟨#[]⟩ ⟨#[]⟩ 5) := by
  have d0 : decide (4096 < ((n : Nat) : Int)) = true := decide_eq_true (by omega)
  unfold FrE FrV
  obtain ⟨W, hW, hR, hBl, hsz⟩ := box1T 24 w (.string ⟨#[]⟩) (.string ⟨#[]⟩)
  have HBL := Lib.hid hBl
  have x0 := hR.c0; have x1 := hR.c1; have x2 := hR.f0 0; have x3 := hR.f0 1
  rw [hW] at x0 x1 x2 x3
  have HW := Lib.hid hW
  clear hR hBl hsz hW
  go_enter Tryz.func39, Tryz.ntmps39
  go_wp2
  rw [← HW.out] at x0 x1 x2 x3 ⊢
  refine bodyPost_ret (v := .tuple #[.agg #[.string ⟨#[]⟩, .string ⟨#[]⟩], .int .i64 5]) (by simp [results, Tryz.results39, go_sem, x0, x1]) rfl ⟨rfl, HBL.out⟩

set_option maxHeartbeats 6400000 in
set_option maxRecDepth 100000 in
theorem rsum_chk (a : Option Addr) (cap : Nat) (L : List (ByteArray × ByteArray)) (hl : L.length ≤ 4096) (p k : Nat) (hp : p < L.length) (hk : k ≠ 0) (HC : Hid (∀ j, j < p → ∀ w, Calls Tryz.prog 19 #[FrV (fat L j).1 (fat L j).2] w fun e w' => e = .returned (.int .i64 0) ∧ Below w.heap.size w w')) (HP : Hid (∀ w, Calls Tryz.prog 19 #[FrV (fat L p).1 (fat L p).2] w fun e w' => e = .returned (.int .i64 ((k : Nat) : Int)) ∧ Below w.heap.size w w')) (w : World) (h : FsAt w a L) :
    Calls Tryz.prog 39 #[.slice a L.length cap] w (FrE w ⟨#[]⟩ ⟨#[]⟩ k) := by
  have d0 : decide (4096 < ((L.length : Nat) : Int)) = false := decide_eq_false (by omega)
  have H := Lib.hid h
  have hk0 : ¬ ((k : Nat) : Int) = 0 := by omega
  have hk1 : (((k : Nat) : Int) != 0) = true := by simp; omega
  clear hk
  unfold FrE at *
  unfold FrV at *
  clear h
  obtain ⟨W, hW, hR, hBl, hsz⟩ := box1T 24 w (.string ⟨#[]⟩) (.string ⟨#[]⟩)
  have HBL := Lib.hid hBl
  have HR := Lib.hid hR
  have HW := Lib.hid hW
  clear hR hBl hsz hW
  go_enter Tryz.func39, Tryz.ntmps39
  go_wp2
  rw [← HW.out]
  go_loopw [4] (fun v wr => ∃ i : Nat, i ≤ p ∧ v = .int .i64 i ∧ Below W.heap.size W wr) (fun v _ => p - (intOf v).toNat)
  case atStart => exact ⟨0, Nat.zero_le _, rfl, Below.refl _ _⟩
  case round =>
    obtain ⟨i, hi, rfl, hB⟩ := hrel
    have HBw := Lib.hid (HBL.out.trans (hB.mono HBL.out.size))
    by_cases hlt : i < p
    · have hiL : i < L.length := by omega
      obtain ⟨b, off, rfl, hb, hc, hd⟩ := (H.out.keep HBw.out) i hiL
      have C := Lib.hid (fun w => HC.out i hlt w)
      go_wp2_with fail
      refine (C.out _).mono ?_
      rintro e w1 ⟨rfl, hb1⟩
      have hB1 : Below W.heap.size W w1 := hB.trans (hb1.mono hB.size)
      clear hb1 hc hd
      go_wp2
      go_roundw
      case rel => exact ⟨i + 1, by omega, by go_num, hB1⟩
      case measure => simp [intOf]; omega
    · obtain rfl : i = p := by omega
      obtain ⟨b, off, rfl, hb, hc, hd⟩ := (H.out.keep HBw.out) i hp
      go_wp2_with fail
      refine (HP.out _).mono ?_
      rintro e w1 ⟨rfl, hb1⟩
      have hB1 : Below W.heap.size W w1 := hB.trans (hb1.mono hB.size)
      have hBw1 := HBw.out.trans (hb1.mono HBw.out.size)
      have hR9 := HR.out.keep hB1
      clear hb1 hc hd
      have x0 := hR9.c0; have x1 := hR9.c1; have x2 := hR9.f0 0; have x3 := hR9.f0 1
      go_wp2
      refine bodyPost_ret (v := .tuple #[.agg #[.string ⟨#[]⟩, .string ⟨#[]⟩], .int .i64 ((k : Nat) : Int)]) (by simp [results, Tryz.results39, go_sem, x0, x1]) rfl ⟨rfl, (hBw1.setCell (by simp <;> omega) _).setCell (by simp <;> omega) _⟩

set_option maxHeartbeats 6400000 in
set_option maxRecDepth 100000 in
theorem rsum_tot (a : Option Addr) (cap : Nat) (L : List (ByteArray × ByteArray)) (hl : L.length ≤ 4096) (A B : Nat → ByteArray) (HC : Hid (∀ j, j < L.length → ∀ w, Calls Tryz.prog 19 #[FrV (fat L j).1 (fat L j).2] w fun e w' => e = .returned (.int .i64 0) ∧ Below w.heap.size w w')) (H0 : Hid (A 0 = ⟨#[48]⟩ ∧ B 0 = ⟨#[49]⟩)) (HA : Hid (∀ j, j < L.length → ∀ w, Calls Tryz.prog 28 #[FrV (A j) (B j), FrV (fat L j).1 (fat L j).2] w (FrE w (A (j + 1)) (B (j + 1)) 0))) (w : World) (h : FsAt w a L) :
    Calls Tryz.prog 39 #[.slice a L.length cap] w (FrE w (A L.length) (B L.length) 0) := by
  have d0 : decide (4096 < ((L.length : Nat) : Int)) = false := decide_eq_false (by omega)
  have H := Lib.hid h
  unfold FrE at *
  unfold FrV at *
  clear h
  obtain ⟨W, hW, hR, hBl, hsz⟩ := box1T 24 w (.string ⟨#[]⟩) (.string ⟨#[]⟩)
  have HBL := Lib.hid hBl
  have HR := Lib.hid hR
  have HW := Lib.hid hW
  clear hR hBl hsz hW
  go_enter Tryz.func39, Tryz.ntmps39
  go_wp2
  rw [← HW.out]
  go_loopw [4] (fun v wr => ∃ i : Nat, i ≤ L.length ∧ v = .int .i64 i ∧ Below W.heap.size W wr) (fun v _ => L.length - (intOf v).toNat)
  case atStart => exact ⟨0, Nat.zero_le _, rfl, Below.refl _ _⟩
  case round =>
    obtain ⟨i, hi, rfl, hB⟩ := hrel
    have HBw := Lib.hid (HBL.out.trans (hB.mono HBL.out.size))
    by_cases hlt : i < L.length
    · have hiL : i < L.length := by omega
      obtain ⟨b, off, rfl, hb, hc, hd⟩ := (H.out.keep HBw.out) i hiL
      have C := Lib.hid (fun w => HC.out i hlt w)
      go_wp2_with fail
      refine (C.out _).mono ?_
      rintro e w1 ⟨rfl, hb1⟩
      have hB1 : Below W.heap.size W w1 := hB.trans (hb1.mono hB.size)
      clear hb1 hc hd
      go_wp2
      go_roundw
      case rel => exact ⟨i + 1, by omega, by go_num, hB1⟩
      case measure => simp [intOf]; omega
    · obtain rfl : i = L.length := by omega
      clear hlt
      have HWh := Lib.hid rfWhole0
      unfold FrOut FrV at HWh
      go_wp2_with fail
      refine (HWh.out _).mono ?_
      rintro e w5 ⟨rfl, hb5⟩
      have hB5 := HBw.out.trans (hb5.mono HBw.out.size)
      have HR5 := Lib.hid (HR.out.keep (hB.trans (hb5.mono hB.size)))
      obtain ⟨V, hV, hR7, hb7, hsz7⟩ := box1T 24 w5 (.string ⟨#[48]⟩) (.string ⟨#[49]⟩)
      have HBV := Lib.hid (hB5.trans (hb7.mono hB5.size))
      have HRV := Lib.hid (HR5.out.keep hb7)
      have hlt7 : w.heap.size < w5.heap.size := HR5.out.lt
      obtain ⟨b6, hb6⟩ : ∃ b6, b6 = w5.heap.size := ⟨_, rfl⟩
      have hR77 : Box 24 V b6 (.string (A 0)) (.string (B 0)) := by rw [H0.out.1, H0.out.2, hb6]; exact hR7
      have hge : w.heap.size < b6 := by rw [hb6]; exact hlt7
      have H77 := Lib.hid hR77
      have HV := Lib.hid hV
      clear hV hR7 hb7 hsz7 hlt7 hR77 hb5 hB5
      go_wp2
      rw [← HV.out, ← hb6]
      have HB6 := Lib.hid hb6
      clear hb6 HV HBw hB
      go_loopw [7] (fun v wr => ∃ i : Nat, i ≤ L.length ∧ v = .int .i64 i ∧ Below w.heap.size w wr ∧ Box 24 wr b6 (.string (A i)) (.string (B i)) ∧ Box 24 wr w.heap.size (.string ⟨#[]⟩) (.string ⟨#[]⟩)) (fun v _ => L.length - (intOf v).toNat)
      case atStart => exact ⟨0, Nat.zero_le _, rfl, HBV.out, H77.out, HRV.out⟩
      case round =>
        obtain ⟨i, hi, rfl, hB, hS, hR⟩ := hrel
        have HS := Lib.hid hS
        have HRr := Lib.hid hR
        clear hS hR
        by_cases hlt : i < L.length
        · have hiL : i < L.length := by omega
          obtain ⟨b, off, rfl, hb, hc, hd⟩ := (H.out.keep hB) i hiL
          have C := Lib.hid (fun w => HA.out i hlt w)
          go_wp2
          refine wp_region_late (S := fun u => Below wr.heap.size wr u) (X := []) (by kernel_rfl) ?_
          obtain ⟨V1, hV1⟩ : ∃ V1, V1 = wr.drew := ⟨_, rfl⟩
          rw [← hV1]
          have hBV1 : Below wr.heap.size wr V1 := by rw [hV1]; exact (Below.refl _ _).drew
          clear hV1
          refine wpAnyL_takeD (i := 0) 37 (.agg #[.string (A i), .string (B i)]) rfl rfl (by kernel_rfl) (by kernel_rfl) (by kernel_rfl) (by kernel_rfl) (by kernel_rfl) (fun _ _ _ h => h) hBV1 (Or.inl ⟨by rfl, fun u hu => ?_⟩) ?_
          · have t0 := (HS.out.keep hu).c0; have t1 := (HS.out.keep hu).c1
            go_simp
          try simp only [Act.put]
          refine wpAnyL_pureD (i := 1) 38 (.slice (some ⟨b, off, none⟩) L.length cap) rfl rfl (by kernel_rfl) (by kernel_rfl) (by kernel_rfl) (fun _ _ _ h => h) (Or.inl ⟨by rfl, fun u _ => ?_⟩) ?_
          · go_simp
          try simp only [Act.put]
          refine wpAnyL_pureD (i := 2) 39 (.int .i64 i) rfl rfl (by kernel_rfl) (by kernel_rfl) (by kernel_rfl) (fun _ _ _ h => h) (Or.inl ⟨by rfl, fun u _ => ?_⟩) ?_
          · go_simp
          try simp only [Act.put]
          refine wpAnyL_pureD (i := 3) 40 (.pointer (some ⟨b, off + i * 2, none⟩)) rfl rfl (by kernel_rfl) (by kernel_rfl) (by kernel_rfl) (fun _ _ _ h => h) (Or.inl ⟨by rfl, fun u _ => ?_⟩) ?_
          · go_simp
          try simp only [Act.put]
          refine wpAnyL_takeD (i := 4) 41 (.agg #[.string (fat L i).1, .string (fat L i).2]) rfl rfl (by kernel_rfl) (by kernel_rfl) (by kernel_rfl) (by kernel_rfl) (by kernel_rfl) (fun _ _ _ h => h) hBV1 (Or.inl ⟨by rfl, fun u hu => ?_⟩) ?_
          · have t0 := (hu.cell (p := ⟨b, off + i * 2, none⟩) hb).trans hc; have t1 := (hu.cell (p := ⟨b, off + i * 2 + 1, none⟩) hb).trans hd
            go_simp
          try simp only [Act.put]
          refine wpAnyL_some (rs := [5, 9]) (by kernel_rfl) (by simp) (fun i' hi' => ?_)
          rcases (show i' = 5 ∨ i' = 9 by simpa using hi') with rfl | rfl
          · refine ⟨_, rfl, fun K hK => ?_⟩
            go_simp
            go_at_call 28
            refine (C.out _).mono ?_
            rintro e x1 ⟨rfl, hbx1⟩
            have hBx1 : Below wr.heap.size wr x1 := hBV1.trans (hbx1.mono hBV1.size)
            show K _ _
            refine hK.out _ _ (fun _ => hBx1) ?_
            clear hK K
            try simp only [Act.put]
            refine wpAnyL_pureD (i := 6) 36 (.tuple #[.agg #[.string (A (i + 1)), .string (B (i + 1))], .int .i64 0]) rfl rfl (by kernel_rfl) (by kernel_rfl) (by kernel_rfl) (fun _ _ _ h => h) (Or.inl ⟨by rfl, fun u _ => ?_⟩) ?_
            · go_simp
            try simp only [Act.put]
            refine wpAnyL_pureD (i := 7) 43 (.agg #[.string (A (i + 1)), .string (B (i + 1))]) rfl rfl (by kernel_rfl) (by kernel_rfl) (by kernel_rfl) (fun _ _ _ h => h) (Or.inl ⟨by rfl, fun u _ => ?_⟩) ?_
            · go_simp
            try simp only [Act.put]
            refine wpAnyL_pureD (i := 8) 44 (.int .i64 0) rfl rfl (by kernel_rfl) (by kernel_rfl) (by kernel_rfl) (fun _ _ _ h => h) (Or.inl ⟨by rfl, fun u _ => ?_⟩) ?_
            · go_simp
            try simp only [Act.put]
            refine wpAnyL_one (i := 9) (by kernel_rfl) rfl (fun K hK => ?_)
            go_simp
            obtain ⟨x2, hWx2, hRx2, hbx2, hszx2⟩ := box1T 24 x1 (.string ⟨#[]⟩) (.string ⟨#[]⟩)
            have hBx2 : Below wr.heap.size wr x2 := hBx1.trans (hbx2.mono hBx1.size)
            have hgex2 := hBx1.size
            refine hK.out _ _ (fun _ _ => by rw [← hWx2]; exact hBx2) ?_
            clear hK K
            rw [← hWx2]
            have HWx2 := Lib.hid hWx2
            clear hWx2 hszx2
            try simp only [Act.put]
            have c0 := hRx2.c0; have c1 := hRx2.c1; have c2 := hRx2.f0 0; have c3 := hRx2.f0 1
            have hkey : Below wr.heap.size wr ((x2.setCell ⟨x1.heap.size, 0, none⟩ (.string (A (i + 1)))).setCell ⟨x1.heap.size, 1, none⟩ (.string (B (i + 1)))) := (hBx2.setCell (by simpa using hgex2) _).setCell (by simpa using hgex2) _
            have hkb := (hRx2.set0 (.string (A (i + 1)))).set1 (.string (B (i + 1)))
            refine wpAnyL_one (i := 10) (by kernel_rfl) rfl (fun K hK => ?_)
            go_simp
            refine hK.out _ _ (fun _ _ => hkey) ?_
            clear hK K c0 c1 c2 c3
            refine wpAnyL_pureD (i := 11) 9 (.int .i64 0) rfl rfl (by kernel_rfl) (by kernel_rfl) (by kernel_rfl) (fun _ _ _ h => h) (Or.inl ⟨by rfl, fun u _ => ?_⟩) ?_
            · go_simp
            try simp only [Act.put]
            refine wpAnyL_done (by kernel_rfl) ?_ _
            simp only [List.setIfInBounds_toArray, List.set_cons_zero, List.set_cons_succ]
            obtain ⟨u, hu⟩ : ∃ u, u = ((x2.setCell ⟨x1.heap.size, 0, none⟩ (.string (A (i + 1)))).setCell ⟨x1.heap.size, 1, none⟩ (.string (B (i + 1)))) := ⟨_, rfl⟩
            rw [← hu] at hkey hkb ⊢
            clear hu
            obtain ⟨q, hq⟩ : ∃ q, q = x1.heap.size := ⟨_, rfl⟩
            have hgq : wr.heap.size ≤ q := by rw [hq]; exact hgex2
            rw [← hq] at hkb ⊢
            clear hq
            have hS9 := HS.out.keep hkey
            have hR9 := HRr.out.keep hkey
            have hB9 := hB.trans (hkey.mono hB.size)
            have hne : b6 < q := Nat.lt_of_lt_of_le HS.out.lt hgq
            have HS9 := Lib.hid hS9
            have HR9 := Lib.hid hR9
            have x0 := hkb.c0; have x1 := hkb.c1; have y0 := hS9.c0; have y1 := hS9.c1; have y2 := hS9.f0 0; have y3 := hS9.f0 1
            clear hS9 hR9 hkey hkb
            go_wp2
            go_roundw
            case rel =>
              refine ⟨i + 1, by omega, by go_num, (hB9.setCell (by simp; omega) _).setCell (by simp; omega) _, (HS9.out.set0 _).set1 _, ?_⟩
              exact (HR9.out.other _ _ (by simp; omega)).other _ _ (by simp; omega)
            case measure => simp [intOf]; omega
          · refine ⟨_, rfl, fun K hK => ?_⟩
            go_simp
            obtain ⟨x1, hWx1, hRx1, hbx1, hszx1⟩ := box1T 24 V1 (.string ⟨#[]⟩) (.string ⟨#[]⟩)
            have hBx1 : Below wr.heap.size wr x1 := hBV1.trans (hbx1.mono hBV1.size)
            have hgex1 := hBV1.size
            refine hK.out _ _ (fun _ => by rw [← hWx1]; exact hBx1) ?_
            clear hK K
            rw [← hWx1]
            have HWx1 := Lib.hid hWx1
            clear hWx1 hszx1
            try simp only [Act.put]
            refine wpAnyL_one (i := 5) (by kernel_rfl) rfl (fun K hK => ?_)
            go_simp
            go_at_call 28
            refine (C.out _).mono ?_
            rintro e x2 ⟨rfl, hbx2⟩
            have hBx2 : Below wr.heap.size wr x2 := hBx1.trans (hbx2.mono hBx1.size)
            show K _ _
            refine hK.out _ _ (fun _ _ => hBx2) ?_
            clear hK K
            try simp only [Act.put]
            refine wpAnyL_pureD (i := 6) 36 (.tuple #[.agg #[.string (A (i + 1)), .string (B (i + 1))], .int .i64 0]) rfl rfl (by kernel_rfl) (by kernel_rfl) (by kernel_rfl) (fun _ _ _ h => h) (Or.inl ⟨by rfl, fun u _ => ?_⟩) ?_
            · go_simp
            try simp only [Act.put]
            refine wpAnyL_pureD (i := 7) 43 (.agg #[.string (A (i + 1)), .string (B (i + 1))]) rfl rfl (by kernel_rfl) (by kernel_rfl) (by kernel_rfl) (fun _ _ _ h => h) (Or.inl ⟨by rfl, fun u _ => ?_⟩) ?_
            · go_simp
            try simp only [Act.put]
            refine wpAnyL_pureD (i := 8) 44 (.int .i64 0) rfl rfl (by kernel_rfl) (by kernel_rfl) (by kernel_rfl) (fun _ _ _ h => h) (Or.inl ⟨by rfl, fun u _ => ?_⟩) ?_
            · go_simp
            try simp only [Act.put]
            have hRy := hRx1.keep hbx2
            have c0 := hRy.c0; have c1 := hRy.c1; have c2 := hRy.f0 0; have c3 := hRy.f0 1
            have hkey : Below wr.heap.size wr ((x2.setCell ⟨V1.heap.size, 0, none⟩ (.string (A (i + 1)))).setCell ⟨V1.heap.size, 1, none⟩ (.string (B (i + 1)))) := (hBx2.setCell (by simpa using hgex1) _).setCell (by simpa using hgex1) _
            have hkb := (hRy.set0 (.string (A (i + 1)))).set1 (.string (B (i + 1)))
            refine wpAnyL_one (i := 10) (by kernel_rfl) rfl (fun K hK => ?_)
            go_simp
            refine hK.out _ _ (fun _ _ => hkey) ?_
            clear hK K c0 c1 c2 c3
            refine wpAnyL_pureD (i := 11) 9 (.int .i64 0) rfl rfl (by kernel_rfl) (by kernel_rfl) (by kernel_rfl) (fun _ _ _ h => h) (Or.inl ⟨by rfl, fun u _ => ?_⟩) ?_
            · go_simp
            try simp only [Act.put]
            refine wpAnyL_done (by kernel_rfl) ?_ _
            simp only [List.setIfInBounds_toArray, List.set_cons_zero, List.set_cons_succ]
            obtain ⟨u, hu⟩ : ∃ u, u = ((x2.setCell ⟨V1.heap.size, 0, none⟩ (.string (A (i + 1)))).setCell ⟨V1.heap.size, 1, none⟩ (.string (B (i + 1)))) := ⟨_, rfl⟩
            rw [← hu] at hkey hkb ⊢
            clear hu
            obtain ⟨q, hq⟩ : ∃ q, q = V1.heap.size := ⟨_, rfl⟩
            have hgq : wr.heap.size ≤ q := by rw [hq]; exact hgex1
            rw [← hq] at hkb ⊢
            clear hq
            have hS9 := HS.out.keep hkey
            have hR9 := HRr.out.keep hkey
            have hB9 := hB.trans (hkey.mono hB.size)
            have hne : b6 < q := Nat.lt_of_lt_of_le HS.out.lt hgq
            have HS9 := Lib.hid hS9
            have HR9 := Lib.hid hR9
            have x0 := hkb.c0; have x1 := hkb.c1; have y0 := hS9.c0; have y1 := hS9.c1; have y2 := hS9.f0 0; have y3 := hS9.f0 1
            clear hS9 hR9 hkey hkb
            go_wp2
            go_roundw
            case rel =>
              refine ⟨i + 1, by omega, by go_num, (hB9.setCell (by simp; omega) _).setCell (by simp; omega) _, (HS9.out.set0 _).set1 _, ?_⟩
              exact (HR9.out.other _ _ (by simp; omega)).other _ _ (by simp; omega)
            case measure => simp [intOf]; omega
        · obtain rfl : i = L.length := by omega
          have hS9 := HS.out
          have hR9 := HRr.out
          have y0 := hS9.c0; have y1 := hS9.c1
          have x0 := hR9.c0; have x1 := hR9.c1; have x2 := hR9.f0 0; have x3 := hR9.f0 1
          clear hS9 hR9
          go_wp2
          refine bodyPost_ret (v := .tuple #[.agg #[.string (A L.length), .string (B L.length)], .int .i64 0]) (by simp [results, Tryz.results39, go_sem, x0, x1]) rfl ⟨rfl, (hB.setCell (by simp <;> omega) _).setCell (by simp <;> omega) _⟩

set_option maxHeartbeats 6400000 in
set_option maxRecDepth 100000 in
theorem rsum_bad (a : Option Addr) (cap : Nat) (L : List (ByteArray × ByteArray)) (hl : L.length ≤ 4096) (A B : Nat → ByteArray) (p k : Nat) (hp : p < L.length) (hk : k ≠ 0) (HC : Hid (∀ j, j < L.length → ∀ w, Calls Tryz.prog 19 #[FrV (fat L j).1 (fat L j).2] w fun e w' => e = .returned (.int .i64 0) ∧ Below w.heap.size w w')) (H0 : Hid (A 0 = ⟨#[48]⟩ ∧ B 0 = ⟨#[49]⟩)) (HA : Hid (∀ j, j < p → ∀ w, Calls Tryz.prog 28 #[FrV (A j) (B j), FrV (fat L j).1 (fat L j).2] w (FrE w (A (j + 1)) (B (j + 1)) 0))) (HBd : Hid (∀ w, Calls Tryz.prog 28 #[FrV (A p) (B p), FrV (fat L p).1 (fat L p).2] w (FrE w ⟨#[]⟩ ⟨#[]⟩ k))) (w : World) (h : FsAt w a L) :
    Calls Tryz.prog 39 #[.slice a L.length cap] w (FrE w ⟨#[]⟩ ⟨#[]⟩ k) := by
  have d0 : decide (4096 < ((L.length : Nat) : Int)) = false := decide_eq_false (by omega)
  have H := Lib.hid h
  have hk0 : ¬ ((k : Nat) : Int) = 0 := by omega
  have hk1 : (((k : Nat) : Int) != 0) = true := by simp; omega
  clear hk
  unfold FrE at *
  unfold FrV at *
  clear h
  obtain ⟨W, hW, hR, hBl, hsz⟩ := box1T 24 w (.string ⟨#[]⟩) (.string ⟨#[]⟩)
  have HBL := Lib.hid hBl
  have HR := Lib.hid hR
  have HW := Lib.hid hW
  clear hR hBl hsz hW
  go_enter Tryz.func39, Tryz.ntmps39
  go_wp2
  rw [← HW.out]
  go_loopw [4] (fun v wr => ∃ i : Nat, i ≤ L.length ∧ v = .int .i64 i ∧ Below W.heap.size W wr) (fun v _ => L.length - (intOf v).toNat)
  case atStart => exact ⟨0, Nat.zero_le _, rfl, Below.refl _ _⟩
  case round =>
    obtain ⟨i, hi, rfl, hB⟩ := hrel
    have HBw := Lib.hid (HBL.out.trans (hB.mono HBL.out.size))
    by_cases hlt : i < L.length
    · have hiL : i < L.length := by omega
      obtain ⟨b, off, rfl, hb, hc, hd⟩ := (H.out.keep HBw.out) i hiL
      have C := Lib.hid (fun w => HC.out i hlt w)
      go_wp2_with fail
      refine (C.out _).mono ?_
      rintro e w1 ⟨rfl, hb1⟩
      have hB1 : Below W.heap.size W w1 := hB.trans (hb1.mono hB.size)
      clear hb1 hc hd
      go_wp2
      go_roundw
      case rel => exact ⟨i + 1, by omega, by go_num, hB1⟩
      case measure => simp [intOf]; omega
    · obtain rfl : i = L.length := by omega
      clear hlt
      have HWh := Lib.hid rfWhole0
      unfold FrOut FrV at HWh
      go_wp2_with fail
      refine (HWh.out _).mono ?_
      rintro e w5 ⟨rfl, hb5⟩
      have hB5 := HBw.out.trans (hb5.mono HBw.out.size)
      have HR5 := Lib.hid (HR.out.keep (hB.trans (hb5.mono hB.size)))
      obtain ⟨V, hV, hR7, hb7, hsz7⟩ := box1T 24 w5 (.string ⟨#[48]⟩) (.string ⟨#[49]⟩)
      have HBV := Lib.hid (hB5.trans (hb7.mono hB5.size))
      have HRV := Lib.hid (HR5.out.keep hb7)
      have hlt7 : w.heap.size < w5.heap.size := HR5.out.lt
      obtain ⟨b6, hb6⟩ : ∃ b6, b6 = w5.heap.size := ⟨_, rfl⟩
      have hR77 : Box 24 V b6 (.string (A 0)) (.string (B 0)) := by rw [H0.out.1, H0.out.2, hb6]; exact hR7
      have hge : w.heap.size < b6 := by rw [hb6]; exact hlt7
      have H77 := Lib.hid hR77
      have HV := Lib.hid hV
      clear hV hR7 hb7 hsz7 hlt7 hR77 hb5 hB5
      go_wp2
      rw [← HV.out, ← hb6]
      have HB6 := Lib.hid hb6
      clear hb6 HV HBw hB
      go_loopw [7] (fun v wr => ∃ i : Nat, i ≤ p ∧ v = .int .i64 i ∧ Below w.heap.size w wr ∧ Box 24 wr b6 (.string (A i)) (.string (B i)) ∧ Box 24 wr w.heap.size (.string ⟨#[]⟩) (.string ⟨#[]⟩)) (fun v _ => p - (intOf v).toNat)
      case atStart => exact ⟨0, Nat.zero_le _, rfl, HBV.out, H77.out, HRV.out⟩
      case round =>
        obtain ⟨i, hi, rfl, hB, hS, hR⟩ := hrel
        have HS := Lib.hid hS
        have HRr := Lib.hid hR
        clear hS hR
        by_cases hlt : i < p
        · have hiL : i < L.length := by omega
          obtain ⟨b, off, rfl, hb, hc, hd⟩ := (H.out.keep hB) i hiL
          have C := Lib.hid (fun w => HA.out i hlt w)
          go_wp2
          refine wp_region_late (S := fun u => Below wr.heap.size wr u) (X := []) (by kernel_rfl) ?_
          obtain ⟨V1, hV1⟩ : ∃ V1, V1 = wr.drew := ⟨_, rfl⟩
          rw [← hV1]
          have hBV1 : Below wr.heap.size wr V1 := by rw [hV1]; exact (Below.refl _ _).drew
          clear hV1
          refine wpAnyL_takeD (i := 0) 37 (.agg #[.string (A i), .string (B i)]) rfl rfl (by kernel_rfl) (by kernel_rfl) (by kernel_rfl) (by kernel_rfl) (by kernel_rfl) (fun _ _ _ h => h) hBV1 (Or.inl ⟨by rfl, fun u hu => ?_⟩) ?_
          · have t0 := (HS.out.keep hu).c0; have t1 := (HS.out.keep hu).c1
            go_simp
          try simp only [Act.put]
          refine wpAnyL_pureD (i := 1) 38 (.slice (some ⟨b, off, none⟩) L.length cap) rfl rfl (by kernel_rfl) (by kernel_rfl) (by kernel_rfl) (fun _ _ _ h => h) (Or.inl ⟨by rfl, fun u _ => ?_⟩) ?_
          · go_simp
          try simp only [Act.put]
          refine wpAnyL_pureD (i := 2) 39 (.int .i64 i) rfl rfl (by kernel_rfl) (by kernel_rfl) (by kernel_rfl) (fun _ _ _ h => h) (Or.inl ⟨by rfl, fun u _ => ?_⟩) ?_
          · go_simp
          try simp only [Act.put]
          refine wpAnyL_pureD (i := 3) 40 (.pointer (some ⟨b, off + i * 2, none⟩)) rfl rfl (by kernel_rfl) (by kernel_rfl) (by kernel_rfl) (fun _ _ _ h => h) (Or.inl ⟨by rfl, fun u _ => ?_⟩) ?_
          · go_simp
          try simp only [Act.put]
          refine wpAnyL_takeD (i := 4) 41 (.agg #[.string (fat L i).1, .string (fat L i).2]) rfl rfl (by kernel_rfl) (by kernel_rfl) (by kernel_rfl) (by kernel_rfl) (by kernel_rfl) (fun _ _ _ h => h) hBV1 (Or.inl ⟨by rfl, fun u hu => ?_⟩) ?_
          · have t0 := (hu.cell (p := ⟨b, off + i * 2, none⟩) hb).trans hc; have t1 := (hu.cell (p := ⟨b, off + i * 2 + 1, none⟩) hb).trans hd
            go_simp
          try simp only [Act.put]
          refine wpAnyL_some (rs := [5, 9]) (by kernel_rfl) (by simp) (fun i' hi' => ?_)
          rcases (show i' = 5 ∨ i' = 9 by simpa using hi') with rfl | rfl
          · refine ⟨_, rfl, fun K hK => ?_⟩
            go_simp
            go_at_call 28
            refine (C.out _).mono ?_
            rintro e x1 ⟨rfl, hbx1⟩
            have hBx1 : Below wr.heap.size wr x1 := hBV1.trans (hbx1.mono hBV1.size)
            show K _ _
            refine hK.out _ _ (fun _ => hBx1) ?_
            clear hK K
            try simp only [Act.put]
            refine wpAnyL_pureD (i := 6) 36 (.tuple #[.agg #[.string (A (i + 1)), .string (B (i + 1))], .int .i64 0]) rfl rfl (by kernel_rfl) (by kernel_rfl) (by kernel_rfl) (fun _ _ _ h => h) (Or.inl ⟨by rfl, fun u _ => ?_⟩) ?_
            · go_simp
            try simp only [Act.put]
            refine wpAnyL_pureD (i := 7) 43 (.agg #[.string (A (i + 1)), .string (B (i + 1))]) rfl rfl (by kernel_rfl) (by kernel_rfl) (by kernel_rfl) (fun _ _ _ h => h) (Or.inl ⟨by rfl, fun u _ => ?_⟩) ?_
            · go_simp
            try simp only [Act.put]
            refine wpAnyL_pureD (i := 8) 44 (.int .i64 0) rfl rfl (by kernel_rfl) (by kernel_rfl) (by kernel_rfl) (fun _ _ _ h => h) (Or.inl ⟨by rfl, fun u _ => ?_⟩) ?_
            · go_simp
            try simp only [Act.put]
            refine wpAnyL_one (i := 9) (by kernel_rfl) rfl (fun K hK => ?_)
            go_simp
            obtain ⟨x2, hWx2, hRx2, hbx2, hszx2⟩ := box1T 24 x1 (.string ⟨#[]⟩) (.string ⟨#[]⟩)
            have hBx2 : Below wr.heap.size wr x2 := hBx1.trans (hbx2.mono hBx1.size)
            have hgex2 := hBx1.size
            refine hK.out _ _ (fun _ _ => by rw [← hWx2]; exact hBx2) ?_
            clear hK K
            rw [← hWx2]
            have HWx2 := Lib.hid hWx2
            clear hWx2 hszx2
            try simp only [Act.put]
            have c0 := hRx2.c0; have c1 := hRx2.c1; have c2 := hRx2.f0 0; have c3 := hRx2.f0 1
            have hkey : Below wr.heap.size wr ((x2.setCell ⟨x1.heap.size, 0, none⟩ (.string (A (i + 1)))).setCell ⟨x1.heap.size, 1, none⟩ (.string (B (i + 1)))) := (hBx2.setCell (by simpa using hgex2) _).setCell (by simpa using hgex2) _
            have hkb := (hRx2.set0 (.string (A (i + 1)))).set1 (.string (B (i + 1)))
            refine wpAnyL_one (i := 10) (by kernel_rfl) rfl (fun K hK => ?_)
            go_simp
            refine hK.out _ _ (fun _ _ => hkey) ?_
            clear hK K c0 c1 c2 c3
            refine wpAnyL_pureD (i := 11) 9 (.int .i64 0) rfl rfl (by kernel_rfl) (by kernel_rfl) (by kernel_rfl) (fun _ _ _ h => h) (Or.inl ⟨by rfl, fun u _ => ?_⟩) ?_
            · go_simp
            try simp only [Act.put]
            refine wpAnyL_done (by kernel_rfl) ?_ _
            simp only [List.setIfInBounds_toArray, List.set_cons_zero, List.set_cons_succ]
            obtain ⟨u, hu⟩ : ∃ u, u = ((x2.setCell ⟨x1.heap.size, 0, none⟩ (.string (A (i + 1)))).setCell ⟨x1.heap.size, 1, none⟩ (.string (B (i + 1)))) := ⟨_, rfl⟩
            rw [← hu] at hkey hkb ⊢
            clear hu
            obtain ⟨q, hq⟩ : ∃ q, q = x1.heap.size := ⟨_, rfl⟩
            have hgq : wr.heap.size ≤ q := by rw [hq]; exact hgex2
            rw [← hq] at hkb ⊢
            clear hq
            have hS9 := HS.out.keep hkey
            have hR9 := HRr.out.keep hkey
            have hB9 := hB.trans (hkey.mono hB.size)
            have hne : b6 < q := Nat.lt_of_lt_of_le HS.out.lt hgq
            have HS9 := Lib.hid hS9
            have HR9 := Lib.hid hR9
            have x0 := hkb.c0; have x1 := hkb.c1; have y0 := hS9.c0; have y1 := hS9.c1; have y2 := hS9.f0 0; have y3 := hS9.f0 1
            clear hS9 hR9 hkey hkb
            go_wp2
            go_roundw
            case rel =>
              refine ⟨i + 1, by omega, by go_num, (hB9.setCell (by simp; omega) _).setCell (by simp; omega) _, (HS9.out.set0 _).set1 _, ?_⟩
              exact (HR9.out.other _ _ (by simp; omega)).other _ _ (by simp; omega)
            case measure => simp [intOf]; omega
          · refine ⟨_, rfl, fun K hK => ?_⟩
            go_simp
            obtain ⟨x1, hWx1, hRx1, hbx1, hszx1⟩ := box1T 24 V1 (.string ⟨#[]⟩) (.string ⟨#[]⟩)
            have hBx1 : Below wr.heap.size wr x1 := hBV1.trans (hbx1.mono hBV1.size)
            have hgex1 := hBV1.size
            refine hK.out _ _ (fun _ => by rw [← hWx1]; exact hBx1) ?_
            clear hK K
            rw [← hWx1]
            have HWx1 := Lib.hid hWx1
            clear hWx1 hszx1
            try simp only [Act.put]
            refine wpAnyL_one (i := 5) (by kernel_rfl) rfl (fun K hK => ?_)
            go_simp
            go_at_call 28
            refine (C.out _).mono ?_
            rintro e x2 ⟨rfl, hbx2⟩
            have hBx2 : Below wr.heap.size wr x2 := hBx1.trans (hbx2.mono hBx1.size)
            show K _ _
            refine hK.out _ _ (fun _ _ => hBx2) ?_
            clear hK K
            try simp only [Act.put]
            refine wpAnyL_pureD (i := 6) 36 (.tuple #[.agg #[.string (A (i + 1)), .string (B (i + 1))], .int .i64 0]) rfl rfl (by kernel_rfl) (by kernel_rfl) (by kernel_rfl) (fun _ _ _ h => h) (Or.inl ⟨by rfl, fun u _ => ?_⟩) ?_
            · go_simp
            try simp only [Act.put]
            refine wpAnyL_pureD (i := 7) 43 (.agg #[.string (A (i + 1)), .string (B (i + 1))]) rfl rfl (by kernel_rfl) (by kernel_rfl) (by kernel_rfl) (fun _ _ _ h => h) (Or.inl ⟨by rfl, fun u _ => ?_⟩) ?_
            · go_simp
            try simp only [Act.put]
            refine wpAnyL_pureD (i := 8) 44 (.int .i64 0) rfl rfl (by kernel_rfl) (by kernel_rfl) (by kernel_rfl) (fun _ _ _ h => h) (Or.inl ⟨by rfl, fun u _ => ?_⟩) ?_
            · go_simp
            try simp only [Act.put]
            have hRy := hRx1.keep hbx2
            have c0 := hRy.c0; have c1 := hRy.c1; have c2 := hRy.f0 0; have c3 := hRy.f0 1
            have hkey : Below wr.heap.size wr ((x2.setCell ⟨V1.heap.size, 0, none⟩ (.string (A (i + 1)))).setCell ⟨V1.heap.size, 1, none⟩ (.string (B (i + 1)))) := (hBx2.setCell (by simpa using hgex1) _).setCell (by simpa using hgex1) _
            have hkb := (hRy.set0 (.string (A (i + 1)))).set1 (.string (B (i + 1)))
            refine wpAnyL_one (i := 10) (by kernel_rfl) rfl (fun K hK => ?_)
            go_simp
            refine hK.out _ _ (fun _ _ => hkey) ?_
            clear hK K c0 c1 c2 c3
            refine wpAnyL_pureD (i := 11) 9 (.int .i64 0) rfl rfl (by kernel_rfl) (by kernel_rfl) (by kernel_rfl) (fun _ _ _ h => h) (Or.inl ⟨by rfl, fun u _ => ?_⟩) ?_
            · go_simp
            try simp only [Act.put]
            refine wpAnyL_done (by kernel_rfl) ?_ _
            simp only [List.setIfInBounds_toArray, List.set_cons_zero, List.set_cons_succ]
            obtain ⟨u, hu⟩ : ∃ u, u = ((x2.setCell ⟨V1.heap.size, 0, none⟩ (.string (A (i + 1)))).setCell ⟨V1.heap.size, 1, none⟩ (.string (B (i + 1)))) := ⟨_, rfl⟩
            rw [← hu] at hkey hkb ⊢
            clear hu
            obtain ⟨q, hq⟩ : ∃ q, q = V1.heap.size := ⟨_, rfl⟩
            have hgq : wr.heap.size ≤ q := by rw [hq]; exact hgex1
            rw [← hq] at hkb ⊢
            clear hq
            have hS9 := HS.out.keep hkey
            have hR9 := HRr.out.keep hkey
            have hB9 := hB.trans (hkey.mono hB.size)
            have hne : b6 < q := Nat.lt_of_lt_of_le HS.out.lt hgq
            have HS9 := Lib.hid hS9
            have HR9 := Lib.hid hR9
            have x0 := hkb.c0; have x1 := hkb.c1; have y0 := hS9.c0; have y1 := hS9.c1; have y2 := hS9.f0 0; have y3 := hS9.f0 1
            clear hS9 hR9 hkey hkb
            go_wp2
            go_roundw
            case rel =>
              refine ⟨i + 1, by omega, by go_num, (hB9.setCell (by simp; omega) _).setCell (by simp; omega) _, (HS9.out.set0 _).set1 _, ?_⟩
              exact (HR9.out.other _ _ (by simp; omega)).other _ _ (by simp; omega)
            case measure => simp [intOf]; omega
        · obtain rfl : i = p := by omega
          obtain ⟨b, off, rfl, hb, hc, hd⟩ := (H.out.keep hB) i hp
          go_wp2
          refine wp_region_late (S := fun u => Below wr.heap.size wr u) (X := []) (by kernel_rfl) ?_
          obtain ⟨V1, hV1⟩ : ∃ V1, V1 = wr.drew := ⟨_, rfl⟩
          rw [← hV1]
          have hBV1 : Below wr.heap.size wr V1 := by rw [hV1]; exact (Below.refl _ _).drew
          clear hV1
          refine wpAnyL_takeD (i := 0) 37 (.agg #[.string (A i), .string (B i)]) rfl rfl (by kernel_rfl) (by kernel_rfl) (by kernel_rfl) (by kernel_rfl) (by kernel_rfl) (fun _ _ _ h => h) hBV1 (Or.inl ⟨by rfl, fun u hu => ?_⟩) ?_
          · have t0 := (HS.out.keep hu).c0; have t1 := (HS.out.keep hu).c1
            go_simp
          try simp only [Act.put]
          refine wpAnyL_pureD (i := 1) 38 (.slice (some ⟨b, off, none⟩) L.length cap) rfl rfl (by kernel_rfl) (by kernel_rfl) (by kernel_rfl) (fun _ _ _ h => h) (Or.inl ⟨by rfl, fun u _ => ?_⟩) ?_
          · go_simp
          try simp only [Act.put]
          refine wpAnyL_pureD (i := 2) 39 (.int .i64 i) rfl rfl (by kernel_rfl) (by kernel_rfl) (by kernel_rfl) (fun _ _ _ h => h) (Or.inl ⟨by rfl, fun u _ => ?_⟩) ?_
          · go_simp
          try simp only [Act.put]
          refine wpAnyL_pureD (i := 3) 40 (.pointer (some ⟨b, off + i * 2, none⟩)) rfl rfl (by kernel_rfl) (by kernel_rfl) (by kernel_rfl) (fun _ _ _ h => h) (Or.inl ⟨by rfl, fun u _ => ?_⟩) ?_
          · go_simp
          try simp only [Act.put]
          refine wpAnyL_takeD (i := 4) 41 (.agg #[.string (fat L i).1, .string (fat L i).2]) rfl rfl (by kernel_rfl) (by kernel_rfl) (by kernel_rfl) (by kernel_rfl) (by kernel_rfl) (fun _ _ _ h => h) hBV1 (Or.inl ⟨by rfl, fun u hu => ?_⟩) ?_
          · have t0 := (hu.cell (p := ⟨b, off + i * 2, none⟩) hb).trans hc; have t1 := (hu.cell (p := ⟨b, off + i * 2 + 1, none⟩) hb).trans hd
            go_simp
          try simp only [Act.put]
          refine wpAnyL_some (rs := [5, 9]) (by kernel_rfl) (by simp) (fun i' hi' => ?_)
          rcases (show i' = 5 ∨ i' = 9 by simpa using hi') with rfl | rfl
          · refine ⟨_, rfl, fun K hK => ?_⟩
            go_simp
            go_at_call 28
            refine (HBd.out _).mono ?_
            rintro e x1 ⟨rfl, hbx1⟩
            have hBx1 : Below wr.heap.size wr x1 := hBV1.trans (hbx1.mono hBV1.size)
            show K _ _
            refine hK.out _ _ (fun _ => hBx1) ?_
            clear hK K
            try simp only [Act.put]
            refine wpAnyL_pureD (i := 6) 36 (.tuple #[.agg #[.string ⟨#[]⟩, .string ⟨#[]⟩], .int .i64 ((k : Nat) : Int)]) rfl rfl (by kernel_rfl) (by kernel_rfl) (by kernel_rfl) (fun _ _ _ h => h) (Or.inl ⟨by rfl, fun u _ => ?_⟩) ?_
            · go_simp
            try simp only [Act.put]
            refine wpAnyL_pureD (i := 7) 43 (.agg #[.string ⟨#[]⟩, .string ⟨#[]⟩]) rfl rfl (by kernel_rfl) (by kernel_rfl) (by kernel_rfl) (fun _ _ _ h => h) (Or.inl ⟨by rfl, fun u _ => ?_⟩) ?_
            · go_simp
            try simp only [Act.put]
            refine wpAnyL_pureD (i := 8) 44 (.int .i64 ((k : Nat) : Int)) rfl rfl (by kernel_rfl) (by kernel_rfl) (by kernel_rfl) (fun _ _ _ h => h) (Or.inl ⟨by rfl, fun u _ => ?_⟩) ?_
            · go_simp
            try simp only [Act.put]
            refine wpAnyL_one (i := 9) (by kernel_rfl) rfl (fun K hK => ?_)
            go_simp
            obtain ⟨x2, hWx2, hRx2, hbx2, hszx2⟩ := box1T 24 x1 (.string ⟨#[]⟩) (.string ⟨#[]⟩)
            have hBx2 : Below wr.heap.size wr x2 := hBx1.trans (hbx2.mono hBx1.size)
            have hgex2 := hBx1.size
            refine hK.out _ _ (fun _ _ => by rw [← hWx2]; exact hBx2) ?_
            clear hK K
            rw [← hWx2]
            have HWx2 := Lib.hid hWx2
            clear hWx2 hszx2
            try simp only [Act.put]
            have c0 := hRx2.c0; have c1 := hRx2.c1; have c2 := hRx2.f0 0; have c3 := hRx2.f0 1
            have hkey : Below wr.heap.size wr ((x2.setCell ⟨x1.heap.size, 0, none⟩ (.string ⟨#[]⟩)).setCell ⟨x1.heap.size, 1, none⟩ (.string ⟨#[]⟩)) := (hBx2.setCell (by simpa using hgex2) _).setCell (by simpa using hgex2) _
            have hkb := (hRx2.set0 (.string ⟨#[]⟩)).set1 (.string ⟨#[]⟩)
            refine wpAnyL_one (i := 10) (by kernel_rfl) rfl (fun K hK => ?_)
            go_simp
            refine hK.out _ _ (fun _ _ => hkey) ?_
            clear hK K c0 c1 c2 c3
            refine wpAnyL_pureD (i := 11) 9 (.int .i64 ((k : Nat) : Int)) rfl rfl (by kernel_rfl) (by kernel_rfl) (by kernel_rfl) (fun _ _ _ h => h) (Or.inl ⟨by rfl, fun u _ => ?_⟩) ?_
            · go_simp
            try simp only [Act.put]
            refine wpAnyL_done (by kernel_rfl) ?_ _
            simp only [List.setIfInBounds_toArray, List.set_cons_zero, List.set_cons_succ]
            obtain ⟨u, hu⟩ : ∃ u, u = ((x2.setCell ⟨x1.heap.size, 0, none⟩ (.string ⟨#[]⟩)).setCell ⟨x1.heap.size, 1, none⟩ (.string ⟨#[]⟩)) := ⟨_, rfl⟩
            rw [← hu] at hkey hkb ⊢
            clear hu
            obtain ⟨q, hq⟩ : ∃ q, q = x1.heap.size := ⟨_, rfl⟩
            have hgq : wr.heap.size ≤ q := by rw [hq]; exact hgex2
            rw [← hq] at hkb ⊢
            clear hq
            have hR9 := HRr.out.keep hkey
            have hB9 := hB.trans (hkey.mono hB.size)
            have x0 := hR9.c0; have x1 := hR9.c1; have x2 := hR9.f0 0; have x3 := hR9.f0 1
            clear hR9 hkey hkb
            go_wp2
            refine bodyPost_ret (v := .tuple #[.agg #[.string ⟨#[]⟩, .string ⟨#[]⟩], .int .i64 ((k : Nat) : Int)]) (by simp [results, Tryz.results39, go_sem, x0, x1]) rfl ⟨rfl, (hB9.setCell (by simp <;> omega) _).setCell (by simp <;> omega) _⟩
          · refine ⟨_, rfl, fun K hK => ?_⟩
            go_simp
            obtain ⟨x1, hWx1, hRx1, hbx1, hszx1⟩ := box1T 24 V1 (.string ⟨#[]⟩) (.string ⟨#[]⟩)
            have hBx1 : Below wr.heap.size wr x1 := hBV1.trans (hbx1.mono hBV1.size)
            have hgex1 := hBV1.size
            refine hK.out _ _ (fun _ => by rw [← hWx1]; exact hBx1) ?_
            clear hK K
            rw [← hWx1]
            have HWx1 := Lib.hid hWx1
            clear hWx1 hszx1
            try simp only [Act.put]
            refine wpAnyL_one (i := 5) (by kernel_rfl) rfl (fun K hK => ?_)
            go_simp
            go_at_call 28
            refine (HBd.out _).mono ?_
            rintro e x2 ⟨rfl, hbx2⟩
            have hBx2 : Below wr.heap.size wr x2 := hBx1.trans (hbx2.mono hBx1.size)
            show K _ _
            refine hK.out _ _ (fun _ _ => hBx2) ?_
            clear hK K
            try simp only [Act.put]
            refine wpAnyL_pureD (i := 6) 36 (.tuple #[.agg #[.string ⟨#[]⟩, .string ⟨#[]⟩], .int .i64 ((k : Nat) : Int)]) rfl rfl (by kernel_rfl) (by kernel_rfl) (by kernel_rfl) (fun _ _ _ h => h) (Or.inl ⟨by rfl, fun u _ => ?_⟩) ?_
            · go_simp
            try simp only [Act.put]
            refine wpAnyL_pureD (i := 7) 43 (.agg #[.string ⟨#[]⟩, .string ⟨#[]⟩]) rfl rfl (by kernel_rfl) (by kernel_rfl) (by kernel_rfl) (fun _ _ _ h => h) (Or.inl ⟨by rfl, fun u _ => ?_⟩) ?_
            · go_simp
            try simp only [Act.put]
            refine wpAnyL_pureD (i := 8) 44 (.int .i64 ((k : Nat) : Int)) rfl rfl (by kernel_rfl) (by kernel_rfl) (by kernel_rfl) (fun _ _ _ h => h) (Or.inl ⟨by rfl, fun u _ => ?_⟩) ?_
            · go_simp
            try simp only [Act.put]
            have hRy := hRx1.keep hbx2
            have c0 := hRy.c0; have c1 := hRy.c1; have c2 := hRy.f0 0; have c3 := hRy.f0 1
            have hkey : Below wr.heap.size wr ((x2.setCell ⟨V1.heap.size, 0, none⟩ (.string ⟨#[]⟩)).setCell ⟨V1.heap.size, 1, none⟩ (.string ⟨#[]⟩)) := (hBx2.setCell (by simpa using hgex1) _).setCell (by simpa using hgex1) _
            have hkb := (hRy.set0 (.string ⟨#[]⟩)).set1 (.string ⟨#[]⟩)
            refine wpAnyL_one (i := 10) (by kernel_rfl) rfl (fun K hK => ?_)
            go_simp
            refine hK.out _ _ (fun _ _ => hkey) ?_
            clear hK K c0 c1 c2 c3
            refine wpAnyL_pureD (i := 11) 9 (.int .i64 ((k : Nat) : Int)) rfl rfl (by kernel_rfl) (by kernel_rfl) (by kernel_rfl) (fun _ _ _ h => h) (Or.inl ⟨by rfl, fun u _ => ?_⟩) ?_
            · go_simp
            try simp only [Act.put]
            refine wpAnyL_done (by kernel_rfl) ?_ _
            simp only [List.setIfInBounds_toArray, List.set_cons_zero, List.set_cons_succ]
            obtain ⟨u, hu⟩ : ∃ u, u = ((x2.setCell ⟨V1.heap.size, 0, none⟩ (.string ⟨#[]⟩)).setCell ⟨V1.heap.size, 1, none⟩ (.string ⟨#[]⟩)) := ⟨_, rfl⟩
            rw [← hu] at hkey hkb ⊢
            clear hu
            obtain ⟨q, hq⟩ : ∃ q, q = V1.heap.size := ⟨_, rfl⟩
            have hgq : wr.heap.size ≤ q := by rw [hq]; exact hgex1
            rw [← hq] at hkb ⊢
            clear hq
            have hR9 := HRr.out.keep hkey
            have hB9 := hB.trans (hkey.mono hB.size)
            have x0 := hR9.c0; have x1 := hR9.c1; have x2 := hR9.f0 0; have x3 := hR9.f0 1
            clear hR9 hkey hkb
            go_wp2
            refine bodyPost_ret (v := .tuple #[.agg #[.string ⟨#[]⟩, .string ⟨#[]⟩], .int .i64 ((k : Nat) : Int)]) (by simp [results, Tryz.results39, go_sem, x0, x1]) rfl ⟨rfl, (hB9.setCell (by simp <;> omega) _).setCell (by simp <;> omega) _⟩

end Go.Proofs.YtolkiimlchfmlaaGreatDoor

namespace Go.Proofs.YtolkiimlchfmlaaGreatDoor
open Go.RowKit Go.Proofs.Num

set_option maxHeartbeats 6400000 in
set_option maxRecDepth 100000 in
theorem sums_no (a : Option Addr) (cap : Nat) (L : List (ByteArray × ByteArray)) (HE : Hid (∀ w, FsAt w a L → Calls Tryz.prog 37 #[.slice a L.length cap] w fun e w' => e = .returned (.bool false) ∧ Below w.heap.size w w')) (w : World) (hL : FsAt w a L) (hT : Tab w) (hC : CutT w) :
    Calls Tryz.prog 6 #[.slice a L.length cap] w fun e w' => e = .returned (.bool true) ∧ Below w.heap.size w w' := by
  have HL := Lib.hid hL
  have HT := Lib.hid hT
  have HC := Lib.hid hC
  have HA := Lib.hid fawake
  clear hT hC hL
  go_enter Tryz.func6, Tryz.ntmps6
  go_wp2_with fail
  refine (HE.out _ HL.out).mono ?_
  rintro en w1 ⟨rfl, hb1⟩
  go_wp2_with fail
  refine (HA.out _ (HT.out.keep hb1) (HC.out.keep hb1)).mono ?_
  rintro en w2 ⟨rfl, hb2⟩
  go_wp2
  go_ret
  exact ⟨rfl, hb1.trans (hb2.mono hb1.size)⟩

set_option maxHeartbeats 6400000 in
set_option maxRecDepth 100000 in
theorem sums_yes (a : Option Addr) (cap : Nat) (L : List (ByteArray × ByteArray)) (A B : ByteArray) (k : Nat) (HE : Hid (∀ w, FsAt w a L → Calls Tryz.prog 37 #[.slice a L.length cap] w fun e w' => e = .returned (.bool true) ∧ Below w.heap.size w w'))
    (HS1 : Hid (∀ w, Tab w → FsAt w a L → Calls Tryz.prog 38 #[.slice a L.length cap] w (FrE w A B k))) (HS2 : Hid (∀ w, FsAt w a L → Calls Tryz.prog 39 #[.slice a L.length cap] w (FrE w A B k)))
    (w : World) (hL : FsAt w a L) (hT : Tab w) (hC : CutT w) :
    Calls Tryz.prog 6 #[.slice a L.length cap] w fun e w' => e = .returned (.bool true) ∧ Below w.heap.size w w' := by
  have HL := Lib.hid hL
  have HT := Lib.hid hT
  have HC := Lib.hid hC
  have HA := Lib.hid fawake
  clear hT hC hL
  unfold FrE FrV at *
  go_enter Tryz.func6, Tryz.ntmps6
  go_wp2_with fail
  refine (HE.out _ HL.out).mono ?_
  rintro en w1 ⟨rfl, hB1⟩
  go_wp2_with fail
  refine (HS1.out _ (HT.out.keep hB1) (HL.out.keep hB1)).mono ?_
  rintro en w2 ⟨rfl, hb2⟩
  have hB2 : Below w.heap.size w w2 := hB1.trans (hb2.mono hB1.size)
  obtain ⟨W2, hW2, hR2, hb22, hsz2⟩ := box1T 24 w2 (.string A) (.string B)
  have hB22 := hB2.trans (hb22.mono hB2.size)
  have HW2 := Lib.hid hW2
  have HK2 := Lib.hid hR2
  clear hb2 hB2 hW2 hR2 hb22 hsz2
  go_wp2_with fail
  rw [← HW2.out]
  refine (HS2.out _ (HL.out.keep hB22)).mono ?_
  rintro en w3 ⟨rfl, hb3⟩
  have hB3 : Below w.heap.size w w3 := hB22.trans (hb3.mono hB22.size)
  have HK3 := Lib.hid (HK2.out.keep hb3)
  obtain ⟨V, hV, hR3, hb33, hsz3⟩ := box1T 24 w3 (.string A) (.string B)
  have hB33 := hB3.trans (hb33.mono hB3.size)
  have HKa := Lib.hid (HK3.out.keep hb33)
  have HKb := Lib.hid hR3
  have HV := Lib.hid hV
  clear hb3 hB3 hV hR3 hb33 hsz3 hB22
  have HS : Hid (∀ y, Below V.heap.size V y → (Below V.heap.size V y ∧ y.cell? ⟨w2.heap.size, 0, none⟩ = some (.string A) ∧ y.cell? ⟨w2.heap.size, 1, none⟩ = some (.string B) ∧ y.cell? ⟨w3.heap.size, 0, none⟩ = some (.string A) ∧ y.cell? ⟨w3.heap.size, 1, none⟩ = some (.string B))) := fun y hy => ⟨hy, (HKa.out.keep hy).c0, (HKa.out.keep hy).c1, (HKb.out.keep hy).c0, (HKb.out.keep hy).c1⟩
  have HBV := Lib.hid hB33
  clear hB33
  go_wp2_with fail
  rw [← HV.out]
  refine (HA.out _ (HT.out.keep HBV.out) (HC.out.keep HBV.out)).mono ?_
  rintro en w4 ⟨rfl, hk2⟩
  obtain ⟨_, g0, g1, g2, g3⟩ := HS.out _ hk2
  go_wp2
  go_ret
  exact ⟨rfl, HBV.out.trans (hk2.mono HBV.out.size)⟩

theorem first_bad (P : Nat → Prop) [DecidablePred P] : ∀ N : Nat, (∀ j, j < N → P j) ∨ ∃ p, p < N ∧ ¬ P p ∧ ∀ j, j < p → P j
  | 0 => .inl (fun j h => by omega)
  | N + 1 => by
    rcases first_bad P N with h | ⟨p, hp, h1, h2⟩
    · by_cases hN : P N
      · left; intro j hj
        rcases Nat.lt_or_ge j N with g | g
        · exact h j g
        · obtain rfl : j = N := by omega
          exact hN
      · exact .inr ⟨N, by omega, hN, h⟩
    · exact .inr ⟨p, by omega, h1, h2⟩

/-- The sums on the way: numerator and denominator. -/
def acc (n d : Nat → Int) : Nat → Int × Int
  | 0 => (0, 1)
  | j + 1 => (lowN ((acc n d j).1 * d j + n j * (acc n d j).2) ((acc n d j).2 * d j), lowD ((acc n d j).1 * d j + n j * (acc n d j).2) ((acc n d j).2 * d j))
def accC (n d : Nat → Int) (j : Nat) : Nat := cc ((acc n d j).1 * d j) (n j * (acc n d j).2) ((acc n d j).1 * d j + n j * (acc n d j).2) ((acc n d j).2 * d j)

theorem cc_parts {x y z u : Int} (h : cc x y z u = 0) : te z = 0 ∧ te u = 0 := by
  unfold cc at h
  by_cases h1 : pc x y = 0
  · rw [h1, if_neg (by simp)] at h
    by_cases h2 : te z = 0
    · rw [h2, if_neg (by simp)] at h; exact ⟨h2, h⟩
    · rw [if_pos h2] at h; exact absurd h h2
  · rw [if_pos h1] at h; exact absurd h h1

theorem acc_good (n d : Nat → Int) (D : Nat) (hD : D = 1024) (hl : ∀ j, 0 < d j) : ∀ i, (∀ j, j < i → accC n d j = 0) → Low (acc n d i).1 (acc n d i).2 ∧ Few D (acc n d i).1 ∧ Few D (acc n d i).2
  | 0, _ => ⟨⟨by show (0 : Int) < 1; omega, by show Nat.gcd 0 1 = 1; rfl⟩, Nat.pow_pos (by omega), few_one (by omega)⟩
  | i + 1, h => by
    obtain ⟨g1, g2, g3⟩ := acc_good n d D hD hl i (fun j hj => h j (by omega))
    have h0 : (acc n d i).2 * d i ≠ 0 := by have := Int.mul_pos g1.1 (hl i); omega
    obtain ⟨t1, t2⟩ := cc_parts (h i (by omega))
    exact ⟨low_low h0, lowN_le (few_of_te hD t1) h0, lowD_le (few_of_te hD t2) h0⟩

set_option maxHeartbeats 6400000 in
theorem sums_any (a : Option Addr) (cap : Nat) (L : List (ByteArray × ByteArray)) (hsz : ∀ j, j < L.length → (fat L j).1.size ≤ 9223372036854775807 ∧ (fat L j).2.size ≤ 9223372036854775807) (w : World) (hL : FsAt w a L) (hT : Tab w) (hC : CutT w) :
    Calls Tryz.prog 6 #[.slice a L.length cap] w fun e w' => e = .returned (.bool true) ∧ Below w.heap.size w w' := by
  have hfew := fun j (hj : j < L.length) (w : World) => rfew2_any (fat L j).1 (fat L j).2 (hsz j hj).1 (hsz j hj).2 w
  rcases first_bad (fun j => (fewB (fat L j).1 && fewB (fat L j).2) = true) (min L.length 40) with hall | ⟨p, hp, hbad, hgood⟩
  · have HF : ∀ N, N ≤ min L.length 40 → ∀ j, j < N → ∀ w, Calls Tryz.prog 10 #[FrV (fat L j).1 (fat L j).2] w fun e w' => e = .returned (.bool true) ∧ Below w.heap.size w w' := fun N hN j hj w => by
      have := hfew j (by omega) w
      rwa [hall j (by omega)] at this
    by_cases h1 : L.length ≤ 40
    · have HE := fun w h => rfewall_s a cap L h1 (Lib.hid (HF L.length (by omega))) w h
      rcases first_bad (fun j => fchk (fat L j).1.data.toList (fat L j).2.data.toList = 0) L.length with hok | ⟨p, hp, hbad, hgood⟩
      · -- all are right
        have hr : ∀ j, j < L.length → ∃ x y, (fat L j).1 = T x ∧ (fat L j).2 = T y ∧ Few 60 x ∧ Few 60 y ∧ Low x y := fun j hj => by
          have h2 := hall j (by omega)
          exact few_right _ _ (by revert h2; cases fewB (fat L j).1 <;> simp) (by revert h2; cases fewB (fat L j).2 <;> simp) (hok j hj)
        obtain ⟨n, hn⟩ : ∃ n : Nat → Int, n = fun j => if j < L.length then parse (fat L j).1.data.toList else 0 := ⟨_, rfl⟩
        obtain ⟨d, hd⟩ : ∃ d : Nat → Int, d = fun j => if j < L.length then parse (fat L j).2.data.toList else 1 := ⟨_, rfl⟩
        have hr2 : ∀ j, j < L.length → (fat L j).1 = T (n j) ∧ (fat L j).2 = T (d j) ∧ Few 60 (n j) ∧ Few 60 (d j) ∧ Low (n j) (d j) := fun j hj => by
          obtain ⟨x, y, e1, e2, f1, f2, hl⟩ := hr j hj
          have n1 : n j = x := by rw [hn]; simp only [hj, if_true]; rw [e1, T_data, parse_itoa]
          have d1 : d j = y := by rw [hd]; simp only [hj, if_true]; rw [e2, T_data, parse_itoa]
          rw [n1, d1]; exact ⟨e1, e2, f1, f2, hl⟩
        have hdp : ∀ j, 0 < d j := fun j => by
          by_cases hj : j < L.length
          · exact (hr2 j hj).2.2.2.2.1
          · rw [hd]; simp only [hj, if_false]; omega
        clear hr hn hd
        obtain ⟨D, hD⟩ : ∃ D : Nat, D = 1024 := ⟨_, rfl⟩
        have P1 := fun j (hj : j < L.length) (w : World) (hT : Tab w) => fcheck_any (fat L j).1 (fat L j).2 (hsz j hj).1 (hsz j hj).2 w hT
        have P2 := fun j (hj : j < L.length) (w : World) => rfcheck_any (fat L j).1 (fat L j).2 (hsz j hj).1 (hsz j hj).2 w
        have C1 : ∀ j, j < L.length → ∀ w, Tab w → Calls Tryz.prog 18 #[FrV (fat L j).1 (fat L j).2] w fun e w' => e = .returned (.int .i64 0) ∧ Below w.heap.size w w' := fun j hj w hT => by
          have := P1 j hj w hT
          rwa [hok j hj] at this
        have C2 : ∀ j, j < L.length → ∀ w, Calls Tryz.prog 19 #[FrV (fat L j).1 (fat L j).2] w fun e w' => e = .returned (.int .i64 0) ∧ Below w.heap.size w w' := fun j hj w => by
          have := P2 j hj w
          rwa [hok j hj] at this
        have H0 : T (acc n d 0).1 = ⟨#[48]⟩ ∧ T (acc n d 0).2 = ⟨#[49]⟩ := ⟨T_naught, ft1⟩
        have step : ∀ i, i < L.length → (∀ j, j < i → accC n d j = 0) →
            (∀ w, Tab w → Calls Tryz.prog 65 #[FrV (T (acc n d i).1) (T (acc n d i).2), FrV (fat L i).1 (fat L i).2] w (FrE w (frA (accC n d i) ((acc n d i).1 * d i + n i * (acc n d i).2) ((acc n d i).2 * d i)) (frB (accC n d i) ((acc n d i).1 * d i + n i * (acc n d i).2) ((acc n d i).2 * d i)) (accC n d i))) ∧
            (∀ w, Calls Tryz.prog 28 #[FrV (T (acc n d i).1) (T (acc n d i).2), FrV (fat L i).1 (fat L i).2] w (FrE w (frA (accC n d i) ((acc n d i).1 * d i + n i * (acc n d i).2) ((acc n d i).2 * d i)) (frB (accC n d i) ((acc n d i).1 * d i + n i * (acc n d i).2) ((acc n d i).2 * d i)) (accC n d i))) := fun i hi hc => by
          obtain ⟨g1, g2, g3⟩ := acc_good n d D hD hdp i hc
          obtain ⟨e1, e2, f1, f2, hl⟩ := hr2 i hi
          rw [e1, e2]
          exact ⟨fun w hT => faddT _ _ _ _ g2 g3 (f1.le (by omega)) (f2.le (by omega)) (by omega) hD g1 hl w hT, fun w => rfAddT _ _ _ _ g2 g3 (f1.le (by omega)) (f2.le (by omega)) (by omega) hD g1 hl w⟩
        rcases first_bad (fun j => accC n d j = 0) L.length with hc | ⟨p, hp, hbad, hgood⟩
        · have A1 : ∀ j, j < L.length → ∀ w, Tab w → Calls Tryz.prog 65 #[FrV (T (acc n d j).1) (T (acc n d j).2), FrV (fat L j).1 (fat L j).2] w (FrE w (T (acc n d (j + 1)).1) (T (acc n d (j + 1)).2) 0) := fun j hj w hT => by
            have := (step j hj (fun i hi => hc i (by omega))).1 w hT
            rw [hc j hj, frA_zero, frB_zero] at this
            exact this
          have A2 : ∀ j, j < L.length → ∀ w, Calls Tryz.prog 28 #[FrV (T (acc n d j).1) (T (acc n d j).2), FrV (fat L j).1 (fat L j).2] w (FrE w (T (acc n d (j + 1)).1) (T (acc n d (j + 1)).2) 0) := fun j hj w => by
            have := (step j hj (fun i hi => hc i (by omega))).2 w
            rw [hc j hj, frA_zero, frB_zero] at this
            exact this
          exact sums_yes a cap L _ _ 0 (Lib.hid HE) (Lib.hid fun w hT h => psum_tot a cap L (by omega) (fun j => T (acc n d j).1) (fun j => T (acc n d j).2) (Lib.hid C1) (Lib.hid H0) (Lib.hid A1) w h hT)
            (Lib.hid fun w h => rsum_tot a cap L (by omega) (fun j => T (acc n d j).1) (fun j => T (acc n d j).2) (Lib.hid C2) (Lib.hid H0) (Lib.hid A2) w h) w hL hT hC
        · have A1 : ∀ j, j < p → ∀ w, Tab w → Calls Tryz.prog 65 #[FrV (T (acc n d j).1) (T (acc n d j).2), FrV (fat L j).1 (fat L j).2] w (FrE w (T (acc n d (j + 1)).1) (T (acc n d (j + 1)).2) 0) := fun j hj w hT => by
            have := (step j (by omega) (fun i hi => hgood i (by omega))).1 w hT
            rw [hgood j hj, frA_zero, frB_zero] at this
            exact this
          have A2 : ∀ j, j < p → ∀ w, Calls Tryz.prog 28 #[FrV (T (acc n d j).1) (T (acc n d j).2), FrV (fat L j).1 (fat L j).2] w (FrE w (T (acc n d (j + 1)).1) (T (acc n d (j + 1)).2) 0) := fun j hj w => by
            have := (step j (by omega) (fun i hi => hgood i (by omega))).2 w
            rw [hgood j hj, frA_zero, frB_zero] at this
            exact this
          obtain ⟨B1, B2⟩ := step p hp hgood
          rw [frA_bad hbad, frB_bad hbad] at B1 B2
          exact sums_yes a cap L _ _ _ (Lib.hid HE) (Lib.hid fun w hT h => psum_bad a cap L (by omega) (fun j => T (acc n d j).1) (fun j => T (acc n d j).2) p _ hp hbad (Lib.hid C1) (Lib.hid H0) (Lib.hid A1) (Lib.hid B1) w h hT)
            (Lib.hid fun w h => rsum_bad a cap L (by omega) (fun j => T (acc n d j).1) (fun j => T (acc n d j).2) p _ hp hbad (Lib.hid C2) (Lib.hid H0) (Lib.hid A2) (Lib.hid B2) w h) w hL hT hC
      · -- one is not right
        have C1 : ∀ j, j < p → ∀ w, Tab w → Calls Tryz.prog 18 #[FrV (fat L j).1 (fat L j).2] w fun e w' => e = .returned (.int .i64 0) ∧ Below w.heap.size w w' := fun j hj w hT => by
          have := fcheck_any (fat L j).1 (fat L j).2 (hsz j (by omega)).1 (hsz j (by omega)).2 w hT
          rwa [hgood j hj] at this
        have C2 : ∀ j, j < p → ∀ w, Calls Tryz.prog 19 #[FrV (fat L j).1 (fat L j).2] w fun e w' => e = .returned (.int .i64 0) ∧ Below w.heap.size w w' := fun j hj w => by
          have := rfcheck_any (fat L j).1 (fat L j).2 (hsz j (by omega)).1 (hsz j (by omega)).2 w
          rwa [hgood j hj] at this
        have B1 := fun w hT => fcheck_any (fat L p).1 (fat L p).2 (hsz p hp).1 (hsz p hp).2 w hT
        have B2 := fun w => rfcheck_any (fat L p).1 (fat L p).2 (hsz p hp).1 (hsz p hp).2 w
        exact sums_yes a cap L _ _ _ (Lib.hid HE) (Lib.hid fun w hT h => psum_chk a cap L (by omega) p _ hp hbad (Lib.hid C1) (Lib.hid B1) w h hT) (Lib.hid fun w h => rsum_chk a cap L (by omega) p _ hp hbad (Lib.hid C2) (Lib.hid B2) w h) w hL hT hC
    · have HE := HF 40 (by omega)
      by_cases h2 : L.length ≤ 4096
      · exact sums_no a cap L (Lib.hid fun w h => rfewall_f1 a cap L (by omega) h2 (Lib.hid HE) w h) w hL hT hC
      · by_cases h3 : L.length < 8192
        · exact sums_yes a cap L _ _ 5 (Lib.hid fun w h => rfewall_m a cap L (by omega) h3 (Lib.hid HE) w h) (Lib.hid fun w _ _ => psum_many a cap L.length (by omega) w) (Lib.hid fun w _ => rsum_many a cap L.length (by omega) w) w hL hT hC
        · exact sums_no a cap L (Lib.hid fun w h => rfewall_f2 a cap L (by omega) (Lib.hid HE) w h) w hL hT hC
  · have HF : ∀ j, j < p → ∀ w, Calls Tryz.prog 10 #[FrV (fat L j).1 (fat L j).2] w fun e w' => e = .returned (.bool true) ∧ Below w.heap.size w w' := fun j hj w => by
      have := hfew j (by omega) w
      rwa [hgood j hj] at this
    have HP := hfew p (by omega)
    rw [show (fewB (fat L p).1 && fewB (fat L p).2) = false by simpa using hbad] at HP
    exact sums_no a cap L (Lib.hid fun w h => rfewall_no a cap p L (by omega) (by omega) (Lib.hid HF) (Lib.hid HP) w h) w hL hT hC
end Go.Proofs.YtolkiimlchfmlaaGreatDoor
