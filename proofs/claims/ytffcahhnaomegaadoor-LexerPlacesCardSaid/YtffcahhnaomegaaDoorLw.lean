/- The chapter's examples of the lexer: awake returns true. -/
import Derived.Test.YtffcahhnaomegaaDoorLf
import Derived.Test.YtffcahhnaomegaaDoorLm
import Derived.Test.YtffcahhnaomegaaDoorLs
import Derived.Test.YtffcahhnaomegaaDoorLu
import Derived.Test.YtffcahhnaomegaaDoorLv
namespace Go.Proofs.YtffcahhnaomegaaDoor
open Go.RowKit Go.Proofs.Lx

theorem TkAt.of_block {w : World} {g : Nat} {L : List Tk} {cs : Array Value} (h : w.heap[g]? = some (.cells cs 28 (0, 0))) (hc : cs = (tks L).toArray) : TkAt w (some ⟨g, 0, none⟩) L := by
  have hc2 : ∀ i, w.cell? ⟨g, i, none⟩ = (tks L)[i]? := fun i => by rw [cell_of_row w g i cs 28 (0, 0) h, hc]; simp
  have hlt : g < w.heap.size := (Array.getElem?_eq_some_iff.1 h).1
  intro j hj
  refine ⟨g, 0, rfl, hlt, ?_, ?_, ?_⟩
  · rw [Nat.zero_add, hc2]; exact tks_at L j 0 hj (by omega)
  · rw [Nat.zero_add, hc2]; exact tks_at L j 1 hj (by omega)
  · rw [Nat.zero_add, hc2]; exact tks_at L j 2 hj (by omega)
def A0 : List Tk := [⟨0, [97], 0⟩, ⟨1, [50], 1⟩, ⟨2, [45], 3⟩, ⟨1, [51], 4⟩, ⟨3, [], 5⟩]
theorem sc0 : scanF (5 + 1) [97, 50, 32, 45, 51] 0 [] = (A0, 0, 0) := by decide +kernel
theorem S0_any (w : World) : Calls Tryd.prog 5 #[.string ⟨#[97, 50, 32, 45, 51]⟩] w (fun e w' => ∃ a c, e = .returned (.tuple #[.slice a 5 c, .int .i64 0, .int .i64 0]) ∧ TkAt w' a A0 ∧ Below w.heap.size w w') := by
  refine (pscan_ok ⟨#[97, 50, 32, 45, 51]⟩ (by decide) w).mono ?_
  rintro e w' ⟨a, c, he, ht, hb⟩
  rw [show scanF (ByteArray.size ⟨#[97, 50, 32, 45, 51]⟩ + 1) (bl ⟨#[97, 50, 32, 45, 51]⟩) 0 [] = _ from sc0] at he ht
  exact ⟨a, c, he, ht, hb⟩
theorem sc1 : scanF (5 + 1) [51, 32, 63, 32, 52] 0 [] = ([], 2, 4) := by decide +kernel
theorem S1_any (w : World) : Calls Tryd.prog 5 #[.string ⟨#[51, 32, 63, 32, 52]⟩] w (fun e w' => (∃ a c, e = .returned (.tuple #[.slice a 0 c, .int .i64 2, .int .i64 4])) ∧ Below w.heap.size w w') := by
  refine (pscan_ok ⟨#[51, 32, 63, 32, 52]⟩ (by decide) w).mono ?_
  rintro e w' ⟨a, c, he, _, hb⟩
  rw [show scanF (ByteArray.size ⟨#[51, 32, 63, 32, 52]⟩ + 1) (bl ⟨#[51, 32, 63, 32, 52]⟩) 0 [] = _ from sc1] at he
  exact ⟨⟨a, c, he⟩, hb⟩
theorem sc2 : scanF (5 + 1) [97, 32, 48, 48, 55] 0 [] = ([], 2, 3) := by decide +kernel
theorem S2_any (w : World) : Calls Tryd.prog 5 #[.string ⟨#[97, 32, 48, 48, 55]⟩] w (fun e w' => (∃ a c, e = .returned (.tuple #[.slice a 0 c, .int .i64 2, .int .i64 3])) ∧ Below w.heap.size w w') := by
  refine (pscan_ok ⟨#[97, 32, 48, 48, 55]⟩ (by decide) w).mono ?_
  rintro e w' ⟨a, c, he, _, hb⟩
  rw [show scanF (ByteArray.size ⟨#[97, 32, 48, 48, 55]⟩ + 1) (bl ⟨#[97, 32, 48, 48, 55]⟩) 0 [] = _ from sc2] at he
  exact ⟨⟨a, c, he⟩, hb⟩
def A3 : List Tk := [⟨2, [40], 0⟩, ⟨0, [97], 2⟩, ⟨2, [91], 4⟩, ⟨0, [98], 6⟩, ⟨2, [93], 8⟩, ⟨2, [41], 10⟩, ⟨0, [99], 12⟩, ⟨3, [], 13⟩]
theorem sc3 : scanF (13 + 1) [40, 32, 97, 32, 91, 32, 98, 32, 93, 32, 41, 32, 99] 0 [] = (A3, 0, 0) := by decide +kernel
theorem S3_any (w : World) : Calls Tryd.prog 5 #[.string ⟨#[40, 32, 97, 32, 91, 32, 98, 32, 93, 32, 41, 32, 99]⟩] w (fun e w' => ∃ a c, e = .returned (.tuple #[.slice a 8 c, .int .i64 0, .int .i64 0]) ∧ TkAt w' a A3 ∧ Below w.heap.size w w') := by
  refine (pscan_ok ⟨#[40, 32, 97, 32, 91, 32, 98, 32, 93, 32, 41, 32, 99]⟩ (by decide) w).mono ?_
  rintro e w' ⟨a, c, he, ht, hb⟩
  rw [show scanF (ByteArray.size ⟨#[40, 32, 97, 32, 91, 32, 98, 32, 93, 32, 41, 32, 99]⟩ + 1) (bl ⟨#[40, 32, 97, 32, 91, 32, 98, 32, 93, 32, 41, 32, 99]⟩) 0 [] = _ from sc3] at he ht
  exact ⟨a, c, he, ht, hb⟩
def A4 : List Tk := [⟨2, [40], 0⟩, ⟨2, [93], 2⟩, ⟨3, [], 3⟩]
theorem sc4 : scanF (3 + 1) [40, 32, 93] 0 [] = (A4, 0, 0) := by decide +kernel
theorem S4_any (w : World) : Calls Tryd.prog 5 #[.string ⟨#[40, 32, 93]⟩] w (fun e w' => ∃ a c, e = .returned (.tuple #[.slice a 3 c, .int .i64 0, .int .i64 0]) ∧ TkAt w' a A4 ∧ Below w.heap.size w w') := by
  refine (pscan_ok ⟨#[40, 32, 93]⟩ (by decide) w).mono ?_
  rintro e w' ⟨a, c, he, ht, hb⟩
  rw [show scanF (ByteArray.size ⟨#[40, 32, 93]⟩ + 1) (bl ⟨#[40, 32, 93]⟩) 0 [] = _ from sc4] at he ht
  exact ⟨a, c, he, ht, hb⟩
def A5 : List Tk := [⟨0, [97], 0⟩, ⟨2, [61], 2⟩, ⟨2, [45], 4⟩, ⟨1, [49, 50], 6⟩, ⟨3, [], 8⟩]
theorem sc5 : scanF (8 + 1) [97, 32, 61, 32, 45, 32, 49, 50] 0 [] = (A5, 0, 0) := by decide +kernel
theorem S5_any (w : World) : Calls Tryd.prog 5 #[.string ⟨#[97, 32, 61, 32, 45, 32, 49, 50]⟩] w (fun e w' => ∃ a c, e = .returned (.tuple #[.slice a 5 c, .int .i64 0, .int .i64 0]) ∧ TkAt w' a A5 ∧ Below w.heap.size w w') := by
  refine (pscan_ok ⟨#[97, 32, 61, 32, 45, 32, 49, 50]⟩ (by decide) w).mono ?_
  rintro e w' ⟨a, c, he, ht, hb⟩
  rw [show scanF (ByteArray.size ⟨#[97, 32, 61, 32, 45, 32, 49, 50]⟩ + 1) (bl ⟨#[97, 32, 61, 32, 45, 32, 49, 50]⟩) 0 [] = _ from sc5] at he ht
  exact ⟨a, c, he, ht, hb⟩
def A6 : List Tk := [⟨2, [45], 0⟩, ⟨1, [48], 2⟩, ⟨3, [], 3⟩]
theorem sc6 : scanF (3 + 1) [45, 32, 48] 0 [] = (A6, 0, 0) := by decide +kernel
theorem S6_any (w : World) : Calls Tryd.prog 5 #[.string ⟨#[45, 32, 48]⟩] w (fun e w' => ∃ a c, e = .returned (.tuple #[.slice a 3 c, .int .i64 0, .int .i64 0]) ∧ TkAt w' a A6 ∧ Below w.heap.size w w') := by
  refine (pscan_ok ⟨#[45, 32, 48]⟩ (by decide) w).mono ?_
  rintro e w' ⟨a, c, he, ht, hb⟩
  rw [show scanF (ByteArray.size ⟨#[45, 32, 48]⟩ + 1) (bl ⟨#[45, 32, 48]⟩) 0 [] = _ from sc6] at he ht
  exact ⟨a, c, he, ht, hb⟩

theorem J0_any (a : Option Addr) (c : Nat) (w : World) (h : TkAt w a A0) : Calls Tryd.prog 8 #[.slice a 5 c] w (fun e w' => e = .returned (.tuple #[.string ⟨#[97, 32, 50, 45, 51]⟩, .int .i64 0]) ∧ Below w.heap.size w w') := by
  have := pjoin_few a c A0 (by decide) (by decide) w h
  rw [show joinR A0 = ([97, 32, 50, 45, 51], 0) from by decide +kernel] at this
  exact this
theorem C3a_any (a : Option Addr) (c : Nat) (w : World) (h : TkAt w a A3) : Calls Tryd.prog 9 #[.slice a 8 c, .int .i64 0] w (fun e w' => e = .returned (.tuple #[.int .i64 5, .int .i64 0]) ∧ Below w.heap.size w w') := by
  have := pclose_any a c A3 (by decide) 0 w h
  rw [show closeR A3 0 = (5, 0) from by decide +kernel] at this
  exact this
theorem C3b_any (a : Option Addr) (c : Nat) (w : World) (h : TkAt w a A3) : Calls Tryd.prog 9 #[.slice a 8 c, .int .i64 2] w (fun e w' => e = .returned (.tuple #[.int .i64 4, .int .i64 0]) ∧ Below w.heap.size w w') := by
  have := pclose_any a c A3 (by decide) 2 w h
  rw [show closeR A3 2 = (4, 0) from by decide +kernel] at this
  exact this
theorem C4_any (a : Option Addr) (c : Nat) (w : World) (h : TkAt w a A4) : Calls Tryd.prog 9 #[.slice a 3 c, .int .i64 0] w (fun e w' => e = .returned (.tuple #[.int .i64 0, .int .i64 3]) ∧ Below w.heap.size w w') := by
  have := pclose_any a c A4 (by decide) 0 w h
  rw [show closeR A4 0 = (0, 3) from by decide +kernel] at this
  exact this
theorem G5_any (a : Option Addr) (c : Nat) (w : World) (h : TkAt w a A5) : Calls Tryd.prog 11 #[.slice a 5 c, .int .i64 2] w (fun e w' => e = .returned (.tuple #[.int .i64 (-12), .int .i64 4, .int .i64 0]) ∧ Below w.heap.size w w') :=
  signed_12 a c A5 2 (by decide) (by decide) 4 6 rfl rfl w h
theorem G6_any (a : Option Addr) (c : Nat) (w : World) (h : TkAt w a A6) : Calls Tryd.prog 11 #[.slice a 3 c, .int .i64 0] w (fun e w' => e = .returned (.tuple #[.int .i64 0, .int .i64 0, .int .i64 4]) ∧ Below w.heap.size w w') :=
  signed_0 a c A6 0 (by decide) (by decide) 0 2 rfl rfl w h
theorem E0_any (a b : Option Addr) (c d : Nat) (w : World) (h : TkAt w a A0) (h2 : TkAt w b A0) : Calls Tryd.prog 10 #[.slice a 5 c, .slice b 5 d] w (fun e w' => e = .returned (.bool true) ∧ Below w.heap.size w w') :=
  equal_true a b c d A0 (by decide) w h h2

/-- awake returns true. -/
def Awake : Prop := ∀ w, Calls Tryd.prog 4 #[] w (fun e w' => e = .returned (.bool true) ∧ Below w.heap.size w w')

set_option maxHeartbeats 12800000 in
set_option maxRecDepth 100000 in
theorem awake_any : Awake := by
  intro w
  go_enter Tryd.func4, Tryd.ntmps4
  have hB0 : Below w.heap.size w w := Below.refl _ _
  go_wp2_with fail
  refine (S0_any _).mono ?_
  rintro e w1 ⟨a0, c0, rfl, ht0, hbz⟩
  have hB1 : Below w.heap.size w w1 := hB0.trans (hbz.mono hB0.size)
  have HA1 := Lib.hid ht0
  clear ht0
  clear hbz
  go_wp2_with fail
  refine (J0_any _ _ _ HA1.out).mono ?_
  rintro e w2 ⟨rfl, hbz⟩
  have hB2 : Below w.heap.size w w2 := hB1.trans (hbz.mono hB1.size)
  have HA2 := Lib.hid (HA1.out.keep hbz)
  clear hbz
  go_wp2_with fail
  refine (S1_any _).mono ?_
  rintro e w3 ⟨⟨a1, c1, rfl⟩, hbz⟩
  have hB3 : Below w.heap.size w w3 := hB2.trans (hbz.mono hB2.size)
  have HA3 := Lib.hid (HA2.out.keep hbz)
  clear hbz
  go_wp2_with fail
  refine (S2_any _).mono ?_
  rintro e w4 ⟨⟨a2, c2, rfl⟩, hbz⟩
  have hB4 : Below w.heap.size w w4 := hB3.trans (hbz.mono hB3.size)
  have HA4 := Lib.hid (HA3.out.keep hbz)
  clear hbz
  have HW4 := Lib.hid hB4
  clear hB4
  go_wp2_with fail
  refine (S3_any _).mono ?_
  rintro e w5 ⟨a3, c3, rfl, ht3, hbz⟩
  have hB5 : Below w.heap.size w w5 := (HW4.out.alloc HW4.out.size _).trans (hbz.mono (by rw [World.size_alloc]; have := HW4.out.size; omega))
  have HA5 := Lib.hid ((HA4.out.keep ((Below.refl _ _).alloc (Nat.le_refl _) _)).keep hbz)
  have HV5 := Lib.hid ((TkAt.of_block (L := A0) (heap_alloc_new w4 (Obj.cells #[.int .i64 0, .string ⟨#[97]⟩, .int .i64 0, .int .i64 1, .string ⟨#[50]⟩, .int .i64 1, .int .i64 2, .string ⟨#[45]⟩, .int .i64 3, .int .i64 1, .string ⟨#[51]⟩, .int .i64 4, .int .i64 3, .string ⟨#[]⟩, .int .i64 5] 28)) (by rfl)).keep hbz)
  have HC5 := Lib.hid ht3
  clear hbz ht3
  go_wp2_with fail
  refine (C3a_any _ _ _ HC5.out).mono ?_
  rintro e w6 ⟨rfl, hbz⟩
  have hB6 : Below w.heap.size w w6 := hB5.trans (hbz.mono hB5.size)
  have HA6 := Lib.hid (HA5.out.keep hbz)
  have HV6 := Lib.hid (HV5.out.keep hbz)
  have HC6 := Lib.hid (HC5.out.keep hbz)
  clear hbz
  go_wp2_with fail
  refine (C3b_any _ _ _ HC6.out).mono ?_
  rintro e w7 ⟨rfl, hbz⟩
  have hB7 : Below w.heap.size w w7 := hB6.trans (hbz.mono hB6.size)
  have HA7 := Lib.hid (HA6.out.keep hbz)
  have HV7 := Lib.hid (HV6.out.keep hbz)
  clear hbz
  go_wp2_with fail
  refine (S4_any _).mono ?_
  rintro e w8 ⟨a4, c4, rfl, ht4, hbz⟩
  have hB8 : Below w.heap.size w w8 := hB7.trans (hbz.mono hB7.size)
  have HA8 := Lib.hid (HA7.out.keep hbz)
  have HV8 := Lib.hid (HV7.out.keep hbz)
  have HD8 := Lib.hid ht4
  clear ht4
  clear hbz
  go_wp2_with fail
  refine (C4_any _ _ _ HD8.out).mono ?_
  rintro e w9 ⟨rfl, hbz⟩
  have hB9 : Below w.heap.size w w9 := hB8.trans (hbz.mono hB8.size)
  have HA9 := Lib.hid (HA8.out.keep hbz)
  have HV9 := Lib.hid (HV8.out.keep hbz)
  clear hbz
  go_wp2_with fail
  refine (E0_any _ _ _ _ _ HA9.out HV9.out).mono ?_
  rintro e w10 ⟨rfl, hbz⟩
  have hB10 : Below w.heap.size w w10 := hB9.trans (hbz.mono hB9.size)
  clear hbz
  go_wp2_with fail
  refine (S5_any _).mono ?_
  rintro e w11 ⟨a5, c5, rfl, ht5, hbz⟩
  have hB11 : Below w.heap.size w w11 := hB10.trans (hbz.mono hB10.size)
  have HF11 := Lib.hid ht5
  clear ht5
  clear hbz
  go_wp2_with fail
  refine (G5_any _ _ _ HF11.out).mono ?_
  rintro e w12 ⟨rfl, hbz⟩
  have hB12 : Below w.heap.size w w12 := hB11.trans (hbz.mono hB11.size)
  clear hbz
  go_wp2_with fail
  refine (S6_any _).mono ?_
  rintro e w13 ⟨a6, c6, rfl, ht6, hbz⟩
  have hB13 : Below w.heap.size w w13 := hB12.trans (hbz.mono hB12.size)
  have HG13 := Lib.hid ht6
  clear ht6
  clear hbz
  go_wp2_with fail
  refine (G6_any _ _ _ HG13.out).mono ?_
  rintro e w14 ⟨rfl, hbz⟩
  have hB14 : Below w.heap.size w w14 := hB13.trans (hbz.mono hB13.size)
  clear hbz
  go_wp2
  go_ret
  exact ⟨rfl, hB14⟩
end Go.Proofs.YtffcahhnaomegaaDoor
