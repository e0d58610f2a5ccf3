/- Abelian groups: the order of an element; how many elements vanish. And: Abelian groups: products, orders, exponents, diagonals and elements, in numbers. -/
import Derived.Test.YtnfmcdfdbipeoaaGreatDoorQ31
import Derived.Test.YtnfmcdfdbipeoaaGreatDoorQ33
import Derived.Test.YtnfmcdfdbipeoaaGreatDoorQ32
namespace Go.Proofs.YtnfmcdfdbipeoaaGreatDoor
open Go.RowKit Go.Proofs.Num

set_option maxHeartbeats 3200000 in
set_option maxRecDepth 100000 in
theorem orderOf_err (a b : Option Addr) (cap cap2 : Nat) (L G : List ByteArray) (k : Nat) (hk : k ≠ 0) (HC : Hid (∀ w, TsAt w a G → Tab w → Calls Tryz.prog 22 #[.slice a G.length cap] w (fun e w' => e = .returned (.int .i64 ((k : Nat) : Int)) ∧ Below w.heap.size w w'))) (w : World) (h : TsAt w a G) (_ : TsAt w b L) (hT : Tab w) :
    Calls Tryz.prog 41 #[.slice a G.length cap, .slice b L.length cap2] w (fun e w' => e = .returned (.tuple #[.string ⟨#[]⟩, .int .i64 ((k : Nat) : Int)]) ∧ Below w.heap.size w w') := by
  have H := Lib.hid h
  have HT := Lib.hid hT
  clear h hT
  have hk0 : ¬ ((k : Nat) : Int) = 0 := by omega
  have hk1 : (((k : Nat) : Int) != 0) = true := by simp; omega
  clear hk
  go_enter Tryz.func41, Tryz.ntmps41
  have hB0 : Below w.heap.size w w := Below.refl _ _
  go_wp2_with fail
  refine (HC.out _ (H.out.keep hB0) (HT.out.keep hB0)).mono ?_
  rintro e w1 ⟨rfl, hb1⟩
  have hB1 : Below w.heap.size w w1 := hB0.trans (hb1.mono hB0.size)
  clear hb1
  go_wp2
  go_ret2
  exact ⟨rfl, hB1⟩

set_option maxHeartbeats 3200000 in
set_option maxRecDepth 100000 in
theorem orderOf_in (a b : Option Addr) (cap cap2 : Nat) (L G : List ByteArray) (k : Nat) (hk : k ≠ 0) (HC : Hid (∀ w, TsAt w a G → Tab w → Calls Tryz.prog 22 #[.slice a G.length cap] w (fun e w' => e = .returned (.int .i64 0) ∧ Below w.heap.size w w'))) (HI : Hid (∀ w, TsAt w a G → TsAt w b L → Tab w → Calls Tryz.prog 75 #[.slice a G.length cap, .slice b L.length cap2] w (fun e w' => e = .returned (.int .i64 ((k : Nat) : Int)) ∧ Below w.heap.size w w'))) (w : World) (h : TsAt w a G) (h2 : TsAt w b L) (hT : Tab w) :
    Calls Tryz.prog 41 #[.slice a G.length cap, .slice b L.length cap2] w (fun e w' => e = .returned (.tuple #[.string ⟨#[]⟩, .int .i64 ((k : Nat) : Int)]) ∧ Below w.heap.size w w') := by
  have H := Lib.hid h
  have H2 := Lib.hid h2
  have HT := Lib.hid hT
  clear h h2 hT
  have hk0 : ¬ ((k : Nat) : Int) = 0 := by omega
  have hk1 : (((k : Nat) : Int) != 0) = true := by simp; omega
  clear hk
  go_enter Tryz.func41, Tryz.ntmps41
  have hB0 : Below w.heap.size w w := Below.refl _ _
  go_wp2_with fail
  refine (HC.out _ (H.out.keep hB0) (HT.out.keep hB0)).mono ?_
  rintro e w1 ⟨rfl, hb1⟩
  have hB1 : Below w.heap.size w w1 := hB0.trans (hb1.mono hB0.size)
  clear hb1
  go_wp2_with fail
  refine (HI.out _ (H.out.keep hB1) (H2.out.keep hB1) (HT.out.keep hB1)).mono ?_
  rintro e w2 ⟨rfl, hb2⟩
  have hB2 : Below w.heap.size w w2 := hB1.trans (hb2.mono hB1.size)
  clear hb2
  go_wp2
  go_ret2
  exact ⟨rfl, hB2⟩

set_option maxHeartbeats 3200000 in
set_option maxRecDepth 100000 in
theorem orderOf_ok (a b : Option Addr) (cap cap2 : Nat) (L G : List ByteArray) (n : Nat) (hn : n ≤ 4096) (fo : Nat → ByteArray) (P : Nat → ByteArray) (H0 : Hid (P 0 = ⟨#[49]⟩)) (HC : Hid (∀ w, TsAt w a G → Tab w → Calls Tryz.prog 22 #[.slice a G.length cap] w (fun e w' => e = .returned (.int .i64 0) ∧ Below w.heap.size w w'))) (HI : Hid (∀ w, TsAt w a G → TsAt w b L → Tab w → Calls Tryz.prog 75 #[.slice a G.length cap, .slice b L.length cap2] w (fun e w' => e = .returned (.int .i64 0) ∧ Below w.heap.size w w'))) (HP : Hid (∀ w, TsAt w b L → TsAt w a G → Tab w → Calls Tryz.prog 65 #[.slice b L.length cap2, .slice a G.length cap, (.func (.func 90) #[] #[])] w (GivesTs w (upto fo n) 0))) (HM : Hid (∀ j, j < n → ∀ w, Tab w → Calls Tryz.prog 91 #[.string (P j), .string (fo j)] w (fun e w' => e = .returned (.string (P (j + 1))) ∧ Below w.heap.size w w'))) (w : World) (h : TsAt w a G) (h2 : TsAt w b L) (hT : Tab w) :
    Calls Tryz.prog 41 #[.slice a G.length cap, .slice b L.length cap2] w (fun e w' => e = .returned (.tuple #[.string (P n), .int .i64 0]) ∧ Below w.heap.size w w') := by
  have H := Lib.hid h
  have H2 := Lib.hid h2
  have HT := Lib.hid hT
  clear h h2 hT
  go_enter Tryz.func41, Tryz.ntmps41
  have hB0 : Below w.heap.size w w := Below.refl _ _
  go_wp2_with fail
  refine (HC.out _ (H.out.keep hB0) (HT.out.keep hB0)).mono ?_
  rintro e w1 ⟨rfl, hb1⟩
  have hB1 : Below w.heap.size w w1 := hb1
  clear hb1 hB0
  go_wp2_with fail
  refine (HI.out _ (H.out.keep hB1) (H2.out.keep hB1) (HT.out.keep hB1)).mono ?_
  rintro e w2 ⟨rfl, hb2⟩
  have hB2 : Below w.heap.size w w2 := hB1.trans (hb2.mono hB1.size)
  clear hb2 hB1
  go_wp2_with fail
  refine (HP.out _ (H2.out.keep hB2) (H.out.keep hB2) (HT.out.keep hB2)).mono ?_
  rintro e w3 ⟨a3, c3, rfl, hz, hb3⟩
  have hB3 : Below w.heap.size w w3 := hB2.trans (hb3.mono hB2.size)
  have HZ := Lib.hid hz
  have HB3 := Lib.hid hB3
  have HU : Hid ((upto fo n).length = n) := upto_len fo n
  clear hb3 hB2 hz hB3
  go_wp2
  rw [HU.out]
  go_loopw [10, 32] (fun l v wr => ∃ i : Nat, i ≤ n ∧ v = .int .i64 i ∧ l = .string (P i) ∧ Below w3.heap.size w3 wr) (fun _ v _ => n - (intOf v).toNat)
  case atStart => exact ⟨0, Nat.zero_le _, rfl, by rw [H0.out], Below.refl _ _⟩
  case round =>
    obtain ⟨i, hi, rfl, rfl, hB⟩ := hrel
    by_cases hlt : i < n
    · obtain ⟨b3, o3, rfl, hb, hc⟩ := (HZ.out.keep hB) i (by rw [HU.out]; exact hlt)
      rw [sat_upto fo n i hlt] at hc
      have D := Lib.hid (fun w => HM.out i hlt w)
      have HTr := Lib.hid (HT.out.keep (HB3.out.trans (hB.mono HB3.out.size)))
      go_wp2_with fail
      refine (D.out _ HTr.out).mono ?_
      rintro e w4 ⟨rfl, hb4⟩
      have hB4 : Below w3.heap.size w3 w4 := hB.trans (hb4.mono hB.size)
      clear hb4 hc hb HTr
      go_wp2
      go_roundw
      case rel => exact ⟨i + 1, by omega, by go_num, rfl, hB4⟩
      case measure => simp [intOf]; omega
    · obtain rfl : i = n := by omega
      go_wp2
      go_ret2
      exact ⟨rfl, HB3.out.trans (hB.mono HB3.out.size)⟩

set_option maxHeartbeats 3200000 in
set_option maxRecDepth 100000 in
theorem count_err (a : Option Addr) (cap : Nat) (G : List ByteArray) (s : ByteArray) (k : Nat) (hk : k ≠ 0) (HC : Hid (∀ w, TsAt w a G → Tab w → Calls Tryz.prog 22 #[.slice a G.length cap] w (fun e w' => e = .returned (.int .i64 ((k : Nat) : Int)) ∧ Below w.heap.size w w'))) (w : World) (h : TsAt w a G) (hT : Tab w) :
    Calls Tryz.prog 38 #[.slice a G.length cap, .string s] w (fun e w' => e = .returned (.tuple #[.string ⟨#[]⟩, .int .i64 ((k : Nat) : Int)]) ∧ Below w.heap.size w w') := by
  have H := Lib.hid h
  have HT := Lib.hid hT
  clear h hT
  have hk0 : ¬ ((k : Nat) : Int) = 0 := by omega
  have hk1 : (((k : Nat) : Int) != 0) = true := by simp; omega
  clear hk
  go_enter Tryz.func38, Tryz.ntmps38
  have hB0 : Below w.heap.size w w := Below.refl _ _
  go_wp2_with fail
  refine (HC.out _ (H.out.keep hB0) (HT.out.keep hB0)).mono ?_
  rintro e w1 ⟨rfl, hb1⟩
  have hB1 : Below w.heap.size w w1 := hB0.trans (hb1.mono hB0.size)
  clear hb1
  go_wp2
  go_ret2
  exact ⟨rfl, hB1⟩

set_option maxHeartbeats 3200000 in
set_option maxRecDepth 100000 in
theorem count_arg (a : Option Addr) (cap : Nat) (G : List ByteArray) (s : ByteArray) (k : Nat) (hk : k ≠ 0) (HC : Hid (∀ w, TsAt w a G → Tab w → Calls Tryz.prog 22 #[.slice a G.length cap] w (fun e w' => e = .returned (.int .i64 0) ∧ Below w.heap.size w w'))) (HS : Hid (∀ w, Calls Tryz.prog 87 #[.string s] w (fun e w' => e = .returned (.tuple #[.int .i64 0, .int .i64 ((k : Nat) : Int)]) ∧ Below w.heap.size w w'))) (w : World) (h : TsAt w a G) (hT : Tab w) :
    Calls Tryz.prog 38 #[.slice a G.length cap, .string s] w (fun e w' => e = .returned (.tuple #[.string ⟨#[]⟩, .int .i64 ((k : Nat) : Int)]) ∧ Below w.heap.size w w') := by
  have H := Lib.hid h
  have HT := Lib.hid hT
  clear h hT
  have hk0 : ¬ ((k : Nat) : Int) = 0 := by omega
  have hk1 : (((k : Nat) : Int) != 0) = true := by simp; omega
  clear hk
  go_enter Tryz.func38, Tryz.ntmps38
  have hB0 : Below w.heap.size w w := Below.refl _ _
  go_wp2_with fail
  refine (HC.out _ (H.out.keep hB0) (HT.out.keep hB0)).mono ?_
  rintro e w1 ⟨rfl, hb1⟩
  have hB1 : Below w.heap.size w w1 := hB0.trans (hb1.mono hB0.size)
  clear hb1
  go_wp2_with fail
  refine (HS.out _).mono ?_
  rintro e w2 ⟨rfl, hb2⟩
  have hB2 : Below w.heap.size w w2 := hB1.trans (hb2.mono hB1.size)
  clear hb2
  go_wp2
  go_ret2
  exact ⟨rfl, hB2⟩

set_option maxHeartbeats 3200000 in
set_option maxRecDepth 100000 in
theorem count_neg (a : Option Addr) (cap : Nat) (G : List ByteArray) (s : ByteArray) (c : Int) (hc : c < 1) (HC : Hid (∀ w, TsAt w a G → Tab w → Calls Tryz.prog 22 #[.slice a G.length cap] w (fun e w' => e = .returned (.int .i64 0) ∧ Below w.heap.size w w'))) (HS : Hid (∀ w, Calls Tryz.prog 87 #[.string s] w (fun e w' => e = .returned (.tuple #[.int .i64 c, .int .i64 0]) ∧ Below w.heap.size w w'))) (w : World) (h : TsAt w a G) (hT : Tab w) :
    Calls Tryz.prog 38 #[.slice a G.length cap, .string s] w (fun e w' => e = .returned (.tuple #[.string ⟨#[]⟩, .int .i64 2]) ∧ Below w.heap.size w w') := by
  have H := Lib.hid h
  have HT := Lib.hid hT
  clear h hT
  have hc1 : decide (c < 1) = true := decide_eq_true hc
  clear hc
  go_enter Tryz.func38, Tryz.ntmps38
  have hB0 : Below w.heap.size w w := Below.refl _ _
  go_wp2_with fail
  refine (HC.out _ (H.out.keep hB0) (HT.out.keep hB0)).mono ?_
  rintro e w1 ⟨rfl, hb1⟩
  have hB1 : Below w.heap.size w w1 := hB0.trans (hb1.mono hB0.size)
  clear hb1
  go_wp2_with fail
  refine (HS.out _).mono ?_
  rintro e w2 ⟨rfl, hb2⟩
  have hB2 : Below w.heap.size w w2 := hB1.trans (hb2.mono hB1.size)
  clear hb2
  go_wp2
  go_ret2
  exact ⟨rfl, hB2⟩

/-- A list that is filled from its beginning. -/
def filled (g : Nat → ByteArray) (n i : Nat) : List ByteArray := upto g i ++ List.replicate (n - i) ⟨#[]⟩
theorem filled_zero (g : Nat → ByteArray) (n : Nat) : strs (filled g n 0) = List.replicate n (.string ⟨#[]⟩) := by simp [filled, upto_zero, strs]
theorem filled_end (g : Nat → ByteArray) (n : Nat) : filled g n n = upto g n := by simp [filled]
theorem filled_set (g : Nat → ByteArray) (n i : Nat) (hi : i < n) : (strs (filled g n i)).set i (.string (g i)) = strs (filled g n (i + 1)) := by
  unfold filled strs
  rw [List.map_append, List.map_append, List.set_append_right i _ (by simp [upto])]
  rw [show n - i = (n - (i + 1)) + 1 by omega, List.replicate_succ]
  simp [upto, List.range_succ]

set_option maxHeartbeats 3200000 in
set_option maxRecDepth 100000 in
theorem count_ok (a : Option Addr) (cap : Nat) (G : List ByteArray) (s : ByteArray) (hl : G.length ≤ 4096) (c d : Int) (hc : 1 ≤ c) (X : ByteArray) (g : Nat → ByteArray) (HC : Hid (∀ w, TsAt w a G → Tab w → Calls Tryz.prog 22 #[.slice a G.length cap] w (fun e w' => e = .returned (.int .i64 0) ∧ Below w.heap.size w w'))) (HS : Hid (∀ w, Calls Tryz.prog 87 #[.string s] w (fun e w' => e = .returned (.tuple #[.int .i64 c, .int .i64 0]) ∧ Below w.heap.size w w'))) (HG : Hid (∀ j, j < G.length → ∀ w, Tab w → Calls Tryz.prog 88 #[.string (sat G j), .string s] w (fun e w' => e = .returned (.tuple #[.string (g j), .int .i64 0]) ∧ Below w.heap.size w w'))) (HP : Hid (∀ (w : World) (a' : Option Addr) (c' : Nat), TsAt w a' (upto g G.length) → Tab w → Calls Tryz.prog 63 #[.slice a' G.length c'] w (fun e w' => e = .returned (.tuple #[.string X, .int .i64 d]) ∧ Below w.heap.size w w'))) (w : World) (h : TsAt w a G) (hT : Tab w) :
    Calls Tryz.prog 38 #[.slice a G.length cap, .string s] w (fun e w' => e = .returned (.tuple #[.string X, .int .i64 d]) ∧ Below w.heap.size w w') := by
  have H := Lib.hid h
  have HT := Lib.hid hT
  clear h hT
  have hc1 : decide (c < 1) = false := decide_eq_false (by omega)
  obtain ⟨i0, hi, hz0, hz1, hz2⟩ := info_parts info31
  clear hc
  go_enter Tryz.func38, Tryz.ntmps38
  have hB0 : Below w.heap.size w w := Below.refl _ _
  go_wp2_with fail
  refine (HC.out _ (H.out.keep hB0) (HT.out.keep hB0)).mono ?_
  rintro e w1 ⟨rfl, hb1⟩
  have hB1 : Below w.heap.size w w1 := hb1
  clear hb1 hB0
  go_wp2_with fail
  refine (HS.out _).mono ?_
  rintro e w2 ⟨rfl, hb2⟩
  have hB2 : Below w.heap.size w w2 := hB1.trans (hb2.mono hB1.size)
  have hbs := hB2.size
  clear hb2 hB1
  go_wp2_with (at_make; refine wpList_make_full _ rfl _ _ 22 rfl w.heap.size 31 i0 (.string ⟨#[]⟩) 1 Tryz.underlying22 hi hz0 hz1 _ _ _ _ G.length rfl rfl (by omega) (by omega) ?b2 ?b3 hbs ?_)
  case b2 => rw [hz2]; omega
  case b3 => unfold maxLen; omega
  intro w0 hown0 hgrow0
  rw [toList_madeCells_one, ← filled_zero g] at hown0
  have HOW0 := Lib.hid hown0
  have HB0 := Lib.hid (hB2.grown hgrow0 hbs (fun k h => by cases h))
  clear hown0 hgrow0 hB2
  go_wp2
  go_loopw [34] (fun l wr => ∃ i : Nat, i ≤ G.length ∧ l = .int .i64 i ∧ wr.ownsRow w.heap.size 31 1 (.slice (some ⟨w2.heap.size, 0, none⟩) G.length G.length) G.length (strs (filled g G.length i)) ∧ Below w.heap.size w wr) (fun l _ => G.length - (intOf l).toNat)
  case atStart => exact ⟨0, Nat.zero_le _, rfl, HOW0.out, HB0.out⟩
  case round =>
    clear HOW0 HB0
    obtain ⟨i, hi', rfl, hown, hB⟩ := hrel
    have HOW := Lib.hid hown
    clear hown
    by_cases hlt : i < G.length
    · obtain ⟨b1, o1, rfl, hb1, hc1'⟩ := (H.out.keep hB) i hlt
      have C := Lib.hid (fun w => HG.out i hlt w)
      go_wp2_with fail
      refine (C.out _ (HT.out.keep hB)).mono ?_
      rintro e w3 ⟨rfl, hb3⟩
      have hB3 : Below w.heap.size w w3 := hB.trans (hb3.mono hB.size)
      have hown3 := own_keep HOW.out hb3
      have hco : w3.cell? ⟨w2.heap.size, i, none⟩ = some (.string (sat (filled g G.length i) i)) := (hown3.cellAt i (by omega)).trans (strs_at _ _ (by simp [filled, upto]; omega))
      have hfo : w3.frozen? ⟨w2.heap.size, i, none⟩ = false := hown3.frozenAt i
      have hst := hown3.stored i (.string (g i))
      rw [filled_set g G.length i hlt] at hst
      have HST := Lib.hid hst
      clear hb3 hb1 hc1' hst hown3
      go_wp2
      go_roundw
      case rel => exact ⟨i + 1, by omega, by go_num, HST.out.1, hB3.grown HST.out.2 hB3.size (fun k hk => by cases hk; exact hbs)⟩
      case measure => simp [intOf]; omega
    · obtain rfl : i = G.length := by omega
      have HE := HOW.out
      rw [filled_end] at HE
      obtain ⟨a', c', e1, e2⟩ := TsAt.of_own (R := upto g G.length) (by rw [upto_len]; exact HE)
      rw [upto_len] at e1
      simp only [Value.slice.injEq, true_and] at e1
      obtain ⟨rfl, rfl⟩ := e1
      have HE2 := Lib.hid e2
      clear HE e2
      go_wp2_with fail
      refine (HP.out _ _ _ HE2.out (HT.out.keep hB)).mono ?_
      rintro e w3 ⟨rfl, hb3⟩
      have hB3 : Below w.heap.size w w3 := hB.trans (hb3.mono hB.size)
      clear hb3
      go_wp2
      go_ret2
      exact ⟨rfl, hB3⟩

set_option maxHeartbeats 3200000 in
set_option maxRecDepth 100000 in
theorem rcount_err (a : Option Addr) (cap : Nat) (G : List ByteArray) (s : ByteArray) (k : Nat) (hk : k ≠ 0) (HC : Hid (∀ w, TsAt w a G → Calls Tryz.prog 23 #[.slice a G.length cap] w (fun e w' => e = .returned (.int .i64 ((k : Nat) : Int)) ∧ Below w.heap.size w w'))) (w : World) (h : TsAt w a G) :
    Calls Tryz.prog 39 #[.slice a G.length cap, .string s] w (fun e w' => e = .returned (.tuple #[.string ⟨#[]⟩, .int .i64 ((k : Nat) : Int)]) ∧ Below w.heap.size w w') := by
  have H := Lib.hid h
  clear h
  have hk0 : ¬ ((k : Nat) : Int) = 0 := by omega
  have hk1 : (((k : Nat) : Int) != 0) = true := by simp; omega
  clear hk
  go_enter Tryz.func39, Tryz.ntmps39
  have hB0 : Below w.heap.size w w := Below.refl _ _
  go_wp2_with fail
  refine (HC.out _ (H.out.keep hB0)).mono ?_
  rintro e w1 ⟨rfl, hb1⟩
  have hB1 : Below w.heap.size w w1 := hB0.trans (hb1.mono hB0.size)
  clear hb1
  go_wp2
  go_ret2
  exact ⟨rfl, hB1⟩

set_option maxHeartbeats 3200000 in
set_option maxRecDepth 100000 in
theorem rcount_arg (a : Option Addr) (cap : Nat) (G : List ByteArray) (s : ByteArray) (k : Nat) (hk : k ≠ 0) (HC : Hid (∀ w, TsAt w a G → Calls Tryz.prog 23 #[.slice a G.length cap] w (fun e w' => e = .returned (.int .i64 0) ∧ Below w.heap.size w w'))) (HK : Hid (∀ w, Calls Tryz.prog 44 #[.string s] w (fun e w' => e = .returned (.int .i64 ((k : Nat) : Int)) ∧ Below w.heap.size w w'))) (w : World) (h : TsAt w a G) :
    Calls Tryz.prog 39 #[.slice a G.length cap, .string s] w (fun e w' => e = .returned (.tuple #[.string ⟨#[]⟩, .int .i64 ((k : Nat) : Int)]) ∧ Below w.heap.size w w') := by
  have H := Lib.hid h
  clear h
  have hk0 : ¬ ((k : Nat) : Int) = 0 := by omega
  have hk1 : (((k : Nat) : Int) != 0) = true := by simp; omega
  clear hk
  go_enter Tryz.func39, Tryz.ntmps39
  have hB0 : Below w.heap.size w w := Below.refl _ _
  go_wp2_with fail
  refine (HC.out _ (H.out.keep hB0)).mono ?_
  rintro e w1 ⟨rfl, hb1⟩
  have hB1 : Below w.heap.size w w1 := hB0.trans (hb1.mono hB0.size)
  clear hb1
  go_wp2_with fail
  refine (HK.out _).mono ?_
  rintro e w2 ⟨rfl, hb2⟩
  have hB2 : Below w.heap.size w w2 := hB1.trans (hb2.mono hB1.size)
  clear hb2
  go_wp2
  go_ret2
  exact ⟨rfl, hB2⟩

set_option maxHeartbeats 3200000 in
set_option maxRecDepth 100000 in
theorem rcount_neg (a : Option Addr) (cap : Nat) (G : List ByteArray) (s : ByteArray) (c : Int) (hc : c < 0) (HC : Hid (∀ w, TsAt w a G → Calls Tryz.prog 23 #[.slice a G.length cap] w (fun e w' => e = .returned (.int .i64 0) ∧ Below w.heap.size w w'))) (HK : Hid (∀ w, Calls Tryz.prog 44 #[.string s] w (fun e w' => e = .returned (.int .i64 0) ∧ Below w.heap.size w w'))) (HO : Hid (∀ w, Calls Tryz.prog 26 #[.string s, .string ⟨#[49]⟩] w (fun e w' => e = .returned (.int .i64 c) ∧ Below w.heap.size w w'))) (w : World) (h : TsAt w a G) :
    Calls Tryz.prog 39 #[.slice a G.length cap, .string s] w (fun e w' => e = .returned (.tuple #[.string ⟨#[]⟩, .int .i64 2]) ∧ Below w.heap.size w w') := by
  have H := Lib.hid h
  clear h
  have hc1 : decide (c < 0) = true := decide_eq_true hc
  clear hc
  go_enter Tryz.func39, Tryz.ntmps39
  have hB0 : Below w.heap.size w w := Below.refl _ _
  go_wp2_with fail
  refine (HC.out _ (H.out.keep hB0)).mono ?_
  rintro e w1 ⟨rfl, hb1⟩
  have hB1 : Below w.heap.size w w1 := hB0.trans (hb1.mono hB0.size)
  clear hb1
  go_wp2_with fail
  refine (HK.out _).mono ?_
  rintro e w2 ⟨rfl, hb2⟩
  have hB2 : Below w.heap.size w w2 := hB1.trans (hb2.mono hB1.size)
  clear hb2
  go_wp2_with fail
  refine (HO.out _).mono ?_
  rintro e w3 ⟨rfl, hb3⟩
  have hB3 : Below w.heap.size w w3 := hB2.trans (hb3.mono hB2.size)
  clear hb3
  go_wp2
  go_ret2
  exact ⟨rfl, hB3⟩

set_option maxHeartbeats 3200000 in
set_option maxRecDepth 100000 in
theorem rcount_ok (a : Option Addr) (cap : Nat) (G : List ByteArray) (s : ByteArray) (hl : G.length ≤ 4096) (c d : Int) (hc : 0 ≤ c) (X : ByteArray) (g Q : Nat → ByteArray) (H0 : Hid (Q 0 = ⟨#[49]⟩)) (HC : Hid (∀ w, TsAt w a G → Calls Tryz.prog 23 #[.slice a G.length cap] w (fun e w' => e = .returned (.int .i64 0) ∧ Below w.heap.size w w'))) (HK : Hid (∀ w, Calls Tryz.prog 44 #[.string s] w (fun e w' => e = .returned (.int .i64 0) ∧ Below w.heap.size w w'))) (HO : Hid (∀ w, Calls Tryz.prog 26 #[.string s, .string ⟨#[49]⟩] w (fun e w' => e = .returned (.int .i64 c) ∧ Below w.heap.size w w'))) (HG : Hid (∀ j, j < G.length → ∀ w, Calls Tryz.prog 89 #[.string (sat G j), .string s] w (fun e w' => e = .returned (.string (g j)) ∧ Below w.heap.size w w'))) (HM : Hid (∀ j, j < G.length → ∀ w, Calls Tryz.prog 69 #[.string (Q j), .string (g j)] w (fun e w' => e = .returned (.string (Q (j + 1))) ∧ Below w.heap.size w w'))) (HB : Hid (∀ w, Calls Tryz.prog 64 #[.string (Q G.length)] w (fun e w' => e = .returned (.tuple #[.string X, .int .i64 d]) ∧ Below w.heap.size w w'))) (w : World) (h : TsAt w a G) :
    Calls Tryz.prog 39 #[.slice a G.length cap, .string s] w (fun e w' => e = .returned (.tuple #[.string X, .int .i64 d]) ∧ Below w.heap.size w w') := by
  have H := Lib.hid h
  clear h
  have hc1 : decide (c < 0) = false := decide_eq_false (by omega)
  clear hc
  go_enter Tryz.func39, Tryz.ntmps39
  have hB0 : Below w.heap.size w w := Below.refl _ _
  go_wp2_with fail
  refine (HC.out _ (H.out.keep hB0)).mono ?_
  rintro e w1 ⟨rfl, hB1⟩
  go_wp2_with fail
  refine (HK.out _).mono ?_
  rintro e w2 ⟨rfl, hb2⟩
  have hB2 : Below w.heap.size w w2 := hB1.trans (hb2.mono hB1.size)
  clear hb2 hB1
  go_wp2_with fail
  refine (HO.out _).mono ?_
  rintro e w3 ⟨rfl, hb3⟩
  have HB3 := Lib.hid (hB2.trans (hb3.mono hB2.size))
  clear hb3 hB2 hB0
  go_wp2
  go_loopw [8, 9] (fun l v wr => ∃ i : Nat, i ≤ G.length ∧ v = .int .i64 i ∧ l = .string (Q i) ∧ Below w.heap.size w wr) (fun _ v _ => G.length - (intOf v).toNat)
  case atStart => exact ⟨0, Nat.zero_le _, rfl, by rw [H0.out], HB3.out⟩
  case round =>
    clear HB3
    obtain ⟨i, hi, rfl, rfl, hB⟩ := hrel
    by_cases hlt : i < G.length
    · obtain ⟨b1, o1, rfl, hb1, hc1'⟩ := (H.out.keep hB) i hlt
      have C := Lib.hid (fun w => HG.out i hlt w)
      have D := Lib.hid (fun w => HM.out i hlt w)
      go_wp2_with fail
      refine (C.out _).mono ?_
      rintro e w4 ⟨rfl, hb4⟩
      have hB4 : Below w.heap.size w w4 := hB.trans (hb4.mono hB.size)
      clear hb4 hc1' hb1
      go_wp2_with fail
      refine (D.out _).mono ?_
      rintro e w5 ⟨rfl, hb5⟩
      have hB5 : Below w.heap.size w w5 := hB4.trans (hb5.mono hB4.size)
      clear hb5 hB4
      go_wp2
      go_roundw
      case rel => exact ⟨i + 1, by omega, by go_num, rfl, hB5⟩
      case measure => simp [intOf]; omega
    · obtain rfl : i = G.length := by omega
      go_wp2_with fail
      refine (HB.out _).mono ?_
      rintro e w4 ⟨rfl, hb4⟩
      have hB4 : Below w.heap.size w w4 := hB.trans (hb4.mono hB.size)
      clear hb4
      go_wp2
      go_ret2
      exact ⟨rfl, hB4⟩

end Go.Proofs.YtnfmcdfdbipeoaaGreatDoor

namespace Go.Proofs.YtnfmcdfdbipeoaaGreatDoor
open Go.RowKit Go.Proofs.Num

theorem few_of_te {d : Nat} (hd : d = 1024) {z : Int} (h : te z = 0) : Few d z := by
  unfold te at h
  by_cases h1 : 1024 < Lib.nDigits z.natAbs
  · rw [if_pos h1] at h; omega
  · exact Nat.lt_of_lt_of_le (Lib.lt_pow_nDigits _) (Nat.pow_le_pow_right (by omega) (by omega))
/-- The text of a number, or none if it is too long. -/
def XS (z : Int) : ByteArray := ⟨(tx z).toArray⟩
theorem XS_ok {z : Int} (h : te z = 0) : XS z = T z := by
  unfold XS tx
  unfold te at h
  by_cases h1 : 1024 < Lib.nDigits z.natAbs
  · rw [if_pos h1] at h; omega
  · rw [if_neg h1]; apply ByteArray.ext; apply Array.ext'; rw [T_data]
theorem XS_long {z : Int} (h : te z ≠ 0) : XS z = ⟨#[]⟩ := by
  unfold XS tx
  unfold te at h
  by_cases h1 : 1024 < Lib.nDigits z.natAbs
  · rw [if_pos h1]
  · rw [if_neg h1] at h; omega
theorem te_long {z : Int} (h : te z ≠ 0) : te z = 11 := by rcases (show te z = 0 ∨ te z = 11 by unfold te; split <;> simp) with h1 | h1; exact absurd h1 h; exact h1

/-- The product of the first numbers. -/
def pr (L : List ByteArray) : Nat → Int
  | 0 => 1
  | j + 1 => pr L j * pz (sat L j)
theorem pr_pos {L : List ByteArray} {n : Nat} (h : ∀ j, j < n → 1 ≤ pz (sat L j)) : ∀ j, j ≤ n → 1 ≤ pr L j
  | 0, _ => by unfold pr; omega
  | j + 1, hj => by
    have h1 := pr_pos h j (by omega)
    have h2 := h j (by omega)
    unfold pr
    have := Int.mul_le_mul h1 h2 (by omega) (by omega)
    omega
theorem pr_mono {L : List ByteArray} {n : Nat} (h : ∀ j, j < n → 1 ≤ pz (sat L j)) (i : Nat) : ∀ k, i + k ≤ n → pr L i ≤ pr L (i + k)
  | 0, _ => Int.le_refl _
  | k + 1, hk => by
    have h1 := pr_mono h i k (by omega)
    have h2 := h (i + k) (by omega)
    have h3 := pr_pos h (i + k) (by omega)
    show pr L i ≤ pr L (i + k) * pz (sat L (i + k))
    have := Int.mul_le_mul_of_nonneg_left h2 (show 0 ≤ pr L (i + k) by omega)
    omega
theorem pr_few {L : List ByteArray} {n : Nat} (h : ∀ j, j < n → ck (sat L j) = 0) (d : Nat) (hd : d = 1024) : ∀ j, j ≤ n → Few (d * j + 1) (pr L j)
  | 0, _ => by unfold pr Few; rw [Nat.mul_zero, Nat.zero_add]; decide
  | j + 1, hj => by
    have h1 := pr_few h d hd j (by omega)
    have h2 := right_few (h j (by omega)) d hd
    have := h1.mul h2
    unfold pr
    exact this.le (by rw [Nat.mul_add, Nat.mul_one]; omega)
theorem pr_te {L : List ByteArray} {n : Nat} (h : ∀ j, j < n → 1 ≤ pz (sat L j)) (h0 : te (pr L n) = 0) (j : Nat) (hj : j ≤ n) : te (pr L j) = 0 := by
  obtain ⟨d, hd⟩ : ∃ d : Nat, d = 1024 := ⟨_, rfl⟩
  have h1 := few_of_te hd h0
  have h2 := pr_mono h j (n - j) (by omega)
  rw [show j + (n - j) = n by omega] at h2
  have h3 := pr_pos h j hj
  exact (h1.of_le (x := pr L j) (by omega)).te (by omega) (by omega)

theorem mul_right (x : Int) (s : ByteArray) (hx : te x = 0) (hs : ck s = 0) (hs2 : s.size ≤ 9223372036854775807) (w : World) (hT : Tab w) :
    Calls Tryz.prog 49 #[.string (T x), .string s] w (fun e w' => e = .returned (.tuple #[.string (XS (x * pz s)), .int .i64 ((te (x * pz s) : Nat) : Int)]) ∧ Below w.heap.size w w') := by
  obtain ⟨d, hd⟩ : ∃ d : Nat, d = 1024 := ⟨_, rfl⟩
  have h1 := few_of_te hd hx
  have e1 : chk (T x).data.toList = 0 := h1.chk (by omega) (by omega)
  have := mul_any (T x) s (h1.size (by omega) (by omega)) hs2 w hT
  unfold op2 at this
  rw [if_neg (by rw [e1]; simp), if_neg (show ¬ chk s.data.toList ≠ 0 from not_not_intro hs), show parse (T x).data.toList = x from pz_T x] at this
  exact this

theorem firstBadN (p : Nat → Prop) [DecidablePred p] : ∀ n, (∀ j, j < n → p j) ∨ ∃ q, q < n ∧ (∀ j, j < q → p j) ∧ ¬ p q
  | 0 => .inl fun j hj => by omega
  | n + 1 => by
    rcases firstBadN p n with h | ⟨q, hq, h1, h2⟩
    · by_cases hp : p n
      · exact .inl fun j hj => by rcases Nat.lt_succ_iff_lt_or_eq.1 hj with h3 | rfl; exact h j h3; exact hp
      · exact .inr ⟨n, by omega, h, hp⟩
    · exact .inr ⟨q, by omega, h1, h2⟩
/-- The product of a list. -/
theorem product_any (a : Option Addr) (cap : Nat) (L : List ByteArray) (hl : L.length ≤ 100000) (hsz : ∀ j, j < L.length → (sat L j).size ≤ 9223372036854775807) (hc : ∀ j, j < L.length → ck (sat L j) = 0) (hp : ∀ j, j < L.length → 1 ≤ pz (sat L j)) (w : World) (h : TsAt w a L) (hT : Tab w) :
    Calls Tryz.prog 63 #[.slice a L.length cap] w (fun e w' => e = .returned (.tuple #[.string (XS (pr L L.length)), .int .i64 ((te (pr L L.length) : Nat) : Int)]) ∧ Below w.heap.size w w') := by
  have H0 : Hid (T (pr L 0) = ⟨#[49]⟩) := T_one
  by_cases h0 : te (pr L L.length) = 0
  · rw [h0, XS_ok h0]
    refine product_ok a cap L hl (fun j => T (pr L j)) H0 (Lib.hid fun j hj w hT => ?_) w h hT
    have h2 := pr_te hp h0 (j + 1) hj
    have := mul_right (pr L j) (sat L j) (pr_te hp h0 j (by omega)) (hc j hj) (hsz j hj) w hT
    rw [show pr L j * pz (sat L j) = pr L (j + 1) from rfl, h2, XS_ok h2] at this
    exact this
  · rw [XS_long h0, te_long h0]
    rcases firstBadN (fun j => te (pr L (j + 1)) = 0) L.length with h1 | ⟨p, hp1, h1, h2⟩
    · exfalso
      apply h0
      rcases hn : L.length with _ | n
      · have : te (1 : Int) = 0 := (few_small (z := 1) (by decide)).te (by omega) (by omega)
        exact this
      · exact h1 n (by omega)
    · have hj : ∀ j, j ≤ p → te (pr L j) = 0 := by
        intro j hj
        rcases j with _ | j
        · exact (few_small (z := 1) (by decide)).te (by omega) (by omega)
        · exact h1 j (by omega)
      refine product_bad a cap L hl p hp1 11 (by omega) (fun j => T (pr L j)) H0 (Lib.hid fun j hj2 w hT => ?_) (Lib.hid fun w hT => ?_) w h hT
      · have h3 := hj (j + 1) (by omega)
        have := mul_right (pr L j) (sat L j) (hj j (by omega)) (hc j (by omega)) (hsz j (by omega)) w hT
        rw [show pr L j * pz (sat L j) = pr L (j + 1) from rfl, h3, XS_ok h3] at this
        exact this
      · have := mul_right (pr L p) (sat L p) (hj p (by omega)) (hc p hp1) (hsz p hp1) w hT
        rw [show pr L p * pz (sat L p) = pr L (p + 1) from rfl, te_long h2, XS_long h2] at this
        exact this

theorem size_any (a : Option Addr) (cap : Nat) (L : List ByteArray) (hl : L.length ≤ 16) (hc : ∀ j, j < L.length → ck (sat L j) = 0) (w : World) (h : TsAt w a L) :
    Calls Tryz.prog 27 #[.slice a L.length cap] w (OutR w (T (pr L L.length))) := by
  obtain ⟨d, hd⟩ : ∃ d : Nat, d = 1024 := ⟨_, rfl⟩
  refine rsize_any a cap L (by omega) (fun j => T (pr L j)) T_one (Lib.hid fun j hj w => ?_) w h
  have h1 := pr_few hc d hd j (by omega)
  have := rtimes_any (pr L j) (pz (sat L j)) h1 (right_few (hc j hj) d hd) (by omega) (by rw [hd]; omega) (by omega) (by omega) w
  rw [← right_T (hc j hj)] at this
  exact this

/-- The order of a group, and the error. -/
def ordS (L : List ByteArray) : ByteArray := if gck fck L = 0 then XS (pr L L.length) else ⟨#[]⟩
def ordC (L : List ByteArray) : Nat := if gck fck L = 0 then te (pr L L.length) else gck fck L

theorem order_any (a : Option Addr) (cap : Nat) (L : List ByteArray) (hsz : L.length ≤ 16 → ∀ j, j < L.length → (sat L j).size ≤ 9223372036854775807) (w : World) (h : TsAt w a L) (hT : Tab w) :
    Calls Tryz.prog 16 #[.slice a L.length cap] w (fun e w' => e = .returned (.tuple #[.string (ordS L), .int .i64 ((ordC L : Nat) : Int)]) ∧ Below w.heap.size w w') := by
  have HC := Lib.hid (fun w h hT => gcheck_any a cap L hsz w h hT)
  unfold ordS ordC
  by_cases h0 : gck fck L = 0
  · rw [if_pos h0, if_pos h0]
    have h1 := gck_right h0
    rw [h0] at HC
    exact order_ok a cap L _ _ HC (Lib.hid fun w h hT => product_any a cap L (by omega) (hsz h1.1) (fun j hj => (right_at h0 j hj).1) (fun j hj => by have := (right_at h0 j hj).2; omega) w h hT) w h hT
  · rw [if_neg h0, if_neg h0]
    exact order_err a cap L _ h0 HC w h hT
theorem rorderG_any (a : Option Addr) (cap : Nat) (L : List ByteArray) (hsz : L.length ≤ 16 → ∀ j, j < L.length → (sat L j).size ≤ 9223372036854775807) (w : World) (h : TsAt w a L) (hT : Tab w) :
    Calls Tryz.prog 17 #[.slice a L.length cap] w (fun e w' => e = .returned (.tuple #[.string (ordS L), .int .i64 ((ordC L : Nat) : Int)]) ∧ Below w.heap.size w w') := by
  have HC := Lib.hid (fun w h => rgcheck_any a cap L hsz w h)
  unfold ordS ordC
  by_cases h0 : gck fck L = 0
  · rw [if_pos h0, if_pos h0]
    have h1 := gck_right h0
    rw [h0] at HC
    obtain ⟨d, hd⟩ : ∃ d : Nat, d = 1024 := ⟨_, rfl⟩
    have hf := pr_few (fun j hj => (right_at h0 j hj).1) d hd L.length (Nat.le_refl _)
    have hle : d * L.length ≤ 1024 * 16 := by rw [hd]; exact Nat.mul_le_mul_left _ h1.1
    exact rorder_ok a cap L _ _ _ HC (Lib.hid fun w h => size_any a cap L h1.1 (fun j hj => (right_at h0 j hj).1) w h) (Lib.hid fun w => rbounded _ hf (by omega) (by omega) w) w h hT
  · rw [if_neg h0, if_neg h0]
    exact rorder_err a cap L _ h0 HC w h hT

/-- The last factor; 1 if there is none. -/
def lastS (L : List ByteArray) : ByteArray := la L L.length
def expS (L : List ByteArray) : ByteArray := if gck fck L = 0 then lastS L else ⟨#[]⟩
theorem expo_any (a : Option Addr) (cap : Nat) (L : List ByteArray) (hsz : L.length ≤ 16 → ∀ j, j < L.length → (sat L j).size ≤ 9223372036854775807) (w : World) (h : TsAt w a L) (hT : Tab w) :
    Calls Tryz.prog 18 #[.slice a L.length cap] w (fun e w' => e = .returned (.tuple #[.string (expS L), .int .i64 ((gck fck L : Nat) : Int)]) ∧ Below w.heap.size w w') := by
  have HC := Lib.hid (fun w h hT => gcheck_any a cap L hsz w h hT)
  unfold expS
  by_cases h0 : gck fck L = 0
  · rw [if_pos h0, h0]
    have h1 := gck_right h0
    rw [h0] at HC
    unfold lastS
    rcases hn : L.length with _ | n
    · rw [hn] at HC
      have := expo_nil a cap L HC w h hT
      rw [← T_one] at this
      exact this
    · rw [hn] at HC
      exact expo_last a cap L n hn (by omega) HC w h hT
  · rw [if_neg h0]
    exact expo_err a cap L _ h0 HC w h hT
theorem last_any (a : Option Addr) (cap : Nat) (L : List ByteArray) (hl : L.length ≤ 4096) (w : World) (h : TsAt w a L) : Calls Tryz.prog 40 #[.slice a L.length cap] w (fun e w' => e = .returned (.string (lastS L)) ∧ Below w.heap.size w w') := by
  unfold lastS
  rcases hn : L.length with _ | n
  · have := last_nil a cap w
    rw [← T_one] at this
    exact this
  · exact last_some a cap L n hn (by omega) w h
theorem rexpo_any (a : Option Addr) (cap : Nat) (L : List ByteArray) (hsz : L.length ≤ 16 → ∀ j, j < L.length → (sat L j).size ≤ 9223372036854775807) (w : World) (h : TsAt w a L) (hT : Tab w) :
    Calls Tryz.prog 19 #[.slice a L.length cap] w (fun e w' => e = .returned (.tuple #[.string (expS L), .int .i64 ((gck fck L : Nat) : Int)]) ∧ Below w.heap.size w w') := by
  have HC := Lib.hid (fun w h => rgcheck_any a cap L hsz w h)
  unfold expS
  by_cases h0 : gck fck L = 0
  · rw [if_pos h0, h0]
    have h1 := gck_right h0
    rw [h0] at HC
    exact rexpo_ok a cap L _ HC (Lib.hid fun w h => last_any a cap L (by omega) w h) w h hT
  · rw [if_neg h0]
    exact rexpo_err a cap L _ h0 HC w h hT

theorem GivesTs.of_nil {w : World} {c : Int} {e : Ending} {w' : World} (h : e = .returned (.tuple #[.slice none 0 0, .int .i64 c]) ∧ Below w.heap.size w w') : GivesTs w [] c e w' :=
  ⟨none, 0, h.1, fun j hj => by simp at hj, h.2⟩

/-- The group of a diagonal. -/
def ofL (L : List ByteArray) : List ByteArray := if gck dck L = 0 then ones L else []
theorem of_any (a : Option Addr) (cap : Nat) (L : List ByteArray) (hsz : L.length ≤ 16 → ∀ j, j < L.length → (sat L j).size ≤ 9223372036854775807) (w : World) (h : TsAt w a L) (hT : Tab w) :
    Calls Tryz.prog 14 #[.slice a L.length cap] w (GivesTs w (ofL L) ((gck dck L : Nat) : Int)) := by
  have HC := Lib.hid (chain_d_any a cap L hsz w h hT)
  unfold ofL
  by_cases h0 : gck dck L = 0
  · rw [if_pos h0, h0]
    rw [h0] at HC
    have hl : L.length ≤ 16 := by
      apply Classical.byContradiction
      intro hn
      unfold gck at h0
      rw [if_pos (by omega)] at h0
      omega
    exact of_ok' a cap L (by omega) w h HC
  · rw [if_neg h0]
    exact (of_err a cap L.length _ h0 w HC).mono fun e w' h => GivesTs.of_nil h
theorem rminus_right (s : ByteArray) (hs : ck s = 0) (w : World) : Calls Tryz.prog 61 #[.string s] w (fun e w' => e = .returned (.bool (decide (pz s < 0))) ∧ w = w') := by
  have := minus_any (pz s) w
  rw [← right_T hs] at this
  exact this
theorem zero_text (s : ByteArray) (hs : ck s = 0) : (s.toList == [48]) = decide (pz s = 0) := by
  have := T_is_zero (pz s)
  rw [← right_T hs] at this
  exact this
theorem rof_any (a : Option Addr) (cap : Nat) (L : List ByteArray) (hsz : L.length ≤ 16 → ∀ j, j < L.length → (sat L j).size ≤ 9223372036854775807) (w : World) (h : TsAt w a L) :
    Calls Tryz.prog 15 #[.slice a L.length cap] w (GivesTs w (ofL L) ((gck dck L : Nat) : Int)) := by
  unfold ofL
  by_cases hl : 16 < L.length
  · have e : gck dck L = 5 := by unfold gck; rw [if_pos hl]
    rw [e, if_neg (by omega)]
    exact (rof_many a L.length cap hl w).mono fun e w' h => GivesTs.of_nil h
  · have hl' : L.length ≤ 16 := by omega
    have HS := hsz hl'
    have HC : ∀ i, i < L.length → ck (sat L i) = 0 → ∀ w, Calls Tryz.prog 44 #[.string (sat L i)] w (fun e w' => e = .returned (.int .i64 0) ∧ Below w.heap.size w w') := by
      intro i hi h0 w
      have := rcheck_right (sat L i) (HS i hi) w
      rw [h0] at this
      exact this
    have HM : ∀ i, dck (sat L i) = 0 → ∀ w, Calls Tryz.prog 61 #[.string (sat L i)] w (fun e w' => e = .returned (.bool false) ∧ w = w') := by
      intro i h0 w
      have := rminus_right (sat L i) (dck_zero h0).1 w
      rw [decide_eq_false (by have := (dck_zero h0).2; omega)] at this
      exact this
    have HQ : ∀ i, dck (sat L i) = 0 → ((sat L i).toList == [48]) = false := by
      intro i h0
      rw [zero_text _ (dck_zero h0).1]
      exact decide_eq_false (by have := (dck_zero h0).2; omega)
    have HD : ∀ j, j + 1 < L.length → good dck L j → good dck L (j + 1) → ∀ w, Calls Tryz.prog 62 #[.string (sat L j), .string (sat L (j + 1))] w (fun e w' => e = .returned (.bool true) ∧ Below w.heap.size w w') := by
      intro j hj h1 h2 w
      have h3 := dck_zero h1.1
      have := divides_right (sat L j) (sat L (j + 1)) h3.1 (dck_zero h2.1).1 (by omega) w
      rw [decide_eq_true (show rz (pz (sat L (j + 1))) (pz (sat L j)) = 0 from h2.2)] at this
      exact this
    rcases gck_ways dck L hl' with ⟨e, hg⟩ | ⟨q, hq, hg, ⟨h1, e⟩ | ⟨h1, h2, e⟩⟩
    · rw [e, if_pos rfl]
      exact rof_ok a cap L hl' (Lib.hid fun j hj w => HC j hj (dck_zero (hg j hj).1).1 w) (Lib.hid fun j hj w => HM j (hg j hj).1 w) (Lib.hid fun j hj => HQ j (hg j hj).1)
        (Lib.hid fun j hj w => HD j hj (hg j (by omega)) (hg (j + 1) hj) w) w h
    · rw [e, if_neg h1]
      refine Calls.mono (R := fun e w' => e = .returned (.tuple #[.slice none 0 0, .int .i64 ((dck (sat L q) : Nat) : Int)]) ∧ Below w.heap.size w w') ?_ fun e w' h => GivesTs.of_nil h
      by_cases h0 : ck (sat L q) = 0
      · by_cases h2 : pz (sat L q) < 0
        · have e2 : dck (sat L q) = 2 := by unfold dck; rw [if_neg (by simp [h0]), if_pos h2]
          rw [e2]
          have hm := rminus_right (sat L q) h0
          rw [decide_eq_true h2] at hm
          exact rof_minus a cap L hl' q hq (Lib.hid fun j hj w => HC j (by omega) (dck_zero (hg j hj).1).1 w) (Lib.hid fun j hj w => HM j (hg j hj).1 w) (Lib.hid fun j hj => HQ j (hg j hj).1)
            (Lib.hid fun j hj w => HD j (by omega) (hg j (by omega)) (hg (j + 1) hj) w) (Lib.hid fun w => HC q hq h0 w) (Lib.hid hm) w h
        · have h3 : pz (sat L q) = 0 := by
            apply Classical.byContradiction
            intro hn
            apply h1
            unfold dck
            rw [if_neg (by simp [h0]), if_neg h2, if_neg hn]
          have e2 : dck (sat L q) = 10 := by unfold dck; rw [if_neg (by simp [h0]), if_neg h2, if_pos h3]
          rw [e2]
          have hm := rminus_right (sat L q) h0
          rw [decide_eq_false h2] at hm
          exact rof_zero a cap L hl' q hq (Lib.hid fun j hj w => HC j (by omega) (dck_zero (hg j hj).1).1 w) (Lib.hid fun j hj w => HM j (hg j hj).1 w) (Lib.hid fun j hj => HQ j (hg j hj).1)
            (Lib.hid fun j hj w => HD j (by omega) (hg j (by omega)) (hg (j + 1) hj) w) (Lib.hid fun w => HC q hq h0 w) (Lib.hid hm) (by rw [zero_text _ h0]; exact decide_eq_true h3) w h
      · have e2 : dck (sat L q) = ck (sat L q) := by unfold dck; rw [if_pos h0]
        rw [e2]
        exact rof_one a cap L hl' q hq (ck (sat L q)) h0 (Lib.hid fun j hj w => HC j (by omega) (dck_zero (hg j hj).1).1 w) (Lib.hid fun j hj w => HM j (hg j hj).1 w) (Lib.hid fun j hj => HQ j (hg j hj).1)
          (Lib.hid fun j hj w => HD j (by omega) (hg j (by omega)) (hg (j + 1) hj) w) (Lib.hid fun w => rcheck_right _ (HS q hq) w) w h
    · rw [e, if_neg (by omega)]
      refine Calls.mono (R := fun e w' => e = .returned (.tuple #[.slice none 0 0, .int .i64 9]) ∧ Below w.heap.size w w') ?_ fun e w' h => GivesTs.of_nil h
      have h0 := dck_zero h1
      rcases q with _ | m
      · exfalso
        apply h2
        show rz _ (pz (T 1)) = 0
        rw [pz_T]
        unfold rz qz
        simp
      · have h3 := dck_zero (hg m (by omega)).1
        have hd := divides_right (sat L m) (sat L (m + 1)) h3.1 h0.1 (by omega)
        rw [decide_eq_false (show ¬ rz (pz (sat L (m + 1))) (pz (sat L m)) = 0 from h2)] at hd
        exact rof_order a cap L hl' m hq (Lib.hid fun j hj w => HC j (by omega) (dck_zero (hg j hj).1).1 w) (Lib.hid fun j hj w => HM j (hg j hj).1 w) (Lib.hid fun j hj => HQ j (hg j hj).1)
          (Lib.hid fun j hj w => HD j (by omega) (hg j (by omega)) (hg (j + 1) hj) w) (Lib.hid fun w => HC (m + 1) hq h0.1 w) (Lib.hid fun w => HM (m + 1) h1 w) (HQ (m + 1) h1) (Lib.hid hd) w h

/-- The first error of a list of texts. -/
def elc (L G : List ByteArray) : Nat → Nat
  | 0 => 0
  | n + 1 => if elc L G n ≠ 0 then elc L G n else ck (sat L n)
theorem elc_ways (L G : List ByteArray) : ∀ n, (elc L G n = 0 ∧ ∀ j, j < n → ck (sat L j) = 0) ∨ ∃ q, q < n ∧ (∀ j, j < q → ck (sat L j) = 0) ∧ ck (sat L q) ≠ 0 ∧ elc L G n = ck (sat L q)
  | 0 => .inl ⟨rfl, fun j hj => by omega⟩
  | n + 1 => by
    unfold elc
    rcases elc_ways L G n with ⟨h, h1⟩ | ⟨q, hq, h1, h2, h3⟩
    · rw [h]
      by_cases h2 : ck (sat L n) = 0
      · exact .inl ⟨by simp [h2], fun j hj => by rcases Nat.lt_succ_iff_lt_or_eq.1 hj with h3 | rfl; exact h1 j h3; exact h2⟩
      · exact .inr ⟨n, by omega, h1, h2, by simp⟩
    · exact .inr ⟨q, by omega, h1, h2, by rw [if_pos (by omega)]; exact h3⟩
/-- The residues of a list of texts. -/
def elF (L G : List ByteArray) (j : Nat) : ByteArray := T (rz (pz (sat L j)) (pz (sat G j)))
def eleC (L G : List ByteArray) : Nat := if gck fck G ≠ 0 then gck fck G else if L.length ≠ G.length then 8 else elc L G G.length
def eleL (L G : List ByteArray) : List ByteArray := if eleC L G = 0 then upto (elF L G) G.length else []

theorem rem_err_any (s r : ByteArray) (hs2 : s.size ≤ 9223372036854775807) (hr2 : r.size ≤ 9223372036854775807) (hs : ck s ≠ 0) (w : World) :
    Calls Tryz.prog 46 #[.string s, .string r] w (fun e w' => e = .returned (.tuple #[.string ⟨#[]⟩, .int .i64 ((ck s : Nat) : Int)]) ∧ Below w.heap.size w w') := by
  have e : chkD s.data.toList r.data.toList = ck s := by
    unfold chkD chk2
    rw [if_pos (show chk s.data.toList ≠ 0 from hs), if_pos (show chk s.data.toList ≠ 0 from hs)]
  have := rem_err 0 (divTo_all 0) s r hs2 hr2 (by rw [e]; exact hs) w
  rw [e] at this
  exact this

theorem elem_any (a b : Option Addr) (cap cap2 : Nat) (L G : List ByteArray) (hsz : G.length ≤ 16 → ∀ j, j < G.length → (sat G j).size ≤ 9223372036854775807) (hsz2 : ∀ j, j < L.length → (sat L j).size ≤ 9223372036854775807) (w : World) (h : TsAt w a G) (h2 : TsAt w b L) (hT : Tab w) :
    Calls Tryz.prog 20 #[.slice a G.length cap, .slice b L.length cap2] w (GivesTs w (eleL L G) ((eleC L G : Nat) : Int)) := by
  have HC := Lib.hid (fun w h hT => gcheck_any a cap G hsz w h hT)
  unfold eleL
  by_cases h0 : gck fck G = 0
  · have h1 := gck_right h0
    rw [h0] at HC
    by_cases hn : L.length = G.length
    · have e : eleC L G = elc L G G.length := by unfold eleC; rw [if_neg (by simp [h0]), if_neg (by simp [hn])]
      rw [e]
      have HR : ∀ j, j < G.length → ck (sat L j) = 0 → ∀ w, Tab w → Calls Tryz.prog 46 #[.string (sat L j), .string (sat G j)] w (fun e w' => e = .returned (.tuple #[.string (elF L G j), .int .i64 0]) ∧ Below w.heap.size w w') := fun j hj hc w hT => rem_right _ _ hc (right_at h0 j hj).1 (by have := (right_at h0 j hj).2; omega) w hT
      rcases elc_ways L G G.length with ⟨e1, h3⟩ | ⟨q, hq, h3, h4, e1⟩
      · rw [e1, if_pos rfl]
        exact elem_ok a b cap cap2 L G _ HC (Lib.hid fun w hb ha hT => comb_rem_ok b a cap2 cap L G hn (by omega) (elF L G) (Lib.hid fun j hj w hT => HR j hj (h3 j hj) w hT) w hb ha hT) w h h2 hT
      · rw [e1, if_neg h4]
        exact (elem_bad a b cap cap2 L G _ HC (Lib.hid fun w hb ha hT => comb_rem_bad b a cap2 cap L G hn (by omega) q hq (ck (sat L q)) h4 ⟨#[]⟩ (elF L G) (Lib.hid fun j hj w hT => HR j (by omega) (h3 j hj) w hT) (Lib.hid fun w _ => rem_err_any _ _ (hsz2 q (by omega)) (hsz h1.1 q hq) h4 w) w hb ha hT) w h h2 hT).mono fun e w' h => GivesTs.of_nil h
    · have e : eleC L G = 8 := by unfold eleC; rw [if_neg (by simp [h0]), if_pos hn]
      rw [e, if_neg (by omega)]
      exact (elem_bad a b cap cap2 L G 8 HC (Lib.hid fun w _ _ _ => comb_rem_shape b a L.length G.length cap2 cap hn w) w h h2 hT).mono fun e w' h => GivesTs.of_nil h
  · have e : eleC L G = gck fck G := by unfold eleC; rw [if_pos h0]
    rw [e, if_neg h0]
    exact (elem_err a b cap cap2 L G _ h0 HC w h h2 hT).mono fun e w' h => GivesTs.of_nil h
theorem relem_any (a b : Option Addr) (cap cap2 : Nat) (L G : List ByteArray) (hsz : G.length ≤ 16 → ∀ j, j < G.length → (sat G j).size ≤ 9223372036854775807) (hsz2 : ∀ j, j < L.length → (sat L j).size ≤ 9223372036854775807) (w : World) (h : TsAt w a G) (h2 : TsAt w b L) (hT : Tab w) :
    Calls Tryz.prog 21 #[.slice a G.length cap, .slice b L.length cap2] w (GivesTs w (eleL L G) ((eleC L G : Nat) : Int)) := by
  have HC := Lib.hid (fun w h => rgcheck_any a cap G hsz w h)
  unfold eleL
  by_cases h0 : gck fck G = 0
  · have h1 := gck_right h0
    rw [h0] at HC
    by_cases hn : L.length = G.length
    · have e : eleC L G = elc L G G.length := by unfold eleC; rw [if_neg (by simp [h0]), if_neg (by simp [hn])]
      rw [e]
      have HK : ∀ j, j < G.length → ck (sat L j) = 0 → ∀ w, Calls Tryz.prog 44 #[.string (sat L j)] w (fun e w' => e = .returned (.int .i64 0) ∧ Below w.heap.size w w') := fun j hj hc w => by
        have := rcheck_right (sat L j) (hsz2 j (by omega)) w
        rw [hc] at this
        exact this
      rw [hn]
      rcases elc_ways L G G.length with ⟨e1, h3⟩ | ⟨q, hq, h3, h4, e1⟩
      · rw [e1, if_pos rfl]
        refine relem_ok a b cap cap2 L G hn (by omega) HC (Lib.hid fun j hj w => HK j hj (h3 j hj) w) _ (Lib.hid fun w ha hb => ?_) w h h2 hT
        exact rreduced a b cap cap2 G L (by omega) (elF L G) (Lib.hid fun j hj w => rest_right _ _ (h3 j hj) (right_at h0 j hj).1 (by have := (right_at h0 j hj).2; omega) w) w ha hb hn
      · rw [e1, if_neg h4]
        exact (relem_bad a b cap cap2 L G hn (by omega) HC q hq _ h4 (Lib.hid fun j hj w => HK j (by omega) (h3 j hj) w) (Lib.hid fun w => rcheck_right _ (hsz2 q (by omega)) w) w h h2 hT).mono fun e w' h => GivesTs.of_nil h
    · have e : eleC L G = 8 := by unfold eleC; rw [if_neg (by simp [h0]), if_pos hn]
      rw [e, if_neg (by omega)]
      exact (relem_shape a b cap cap2 L G hn HC w h h2 hT).mono fun e w' h => GivesTs.of_nil h
  · have e : eleC L G = gck fck G := by unfold eleC; rw [if_pos h0]
    rw [e, if_neg h0]
    exact (relem_err a b cap cap2 L G _ h0 HC w h h2 hT).mono fun e w' h => GivesTs.of_nil h

end Go.Proofs.YtnfmcdfdbipeoaaGreatDoor
