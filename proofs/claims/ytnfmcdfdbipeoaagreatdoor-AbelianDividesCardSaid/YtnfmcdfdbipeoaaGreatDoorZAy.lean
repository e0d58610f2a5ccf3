/- Abelian groups: sums, opposites and multiples of elements, walked. -/
import Derived.Test.YtnfmcdfdbipeoaaGreatDoorZAv
import Derived.Test.YtnfmcdfdbipeoaaGreatDoorZAx
namespace Go.Proofs.YtnfmcdfdbipeoaaGreatDoor
open Go.RowKit Go.Proofs.Num

/-- A text lies in a box. -/
def KAt (w : World) (kb : Nat) (k : ByteArray) : Prop := kb < w.heap.size ∧ w.cell? ⟨kb, 0, none⟩ = some (.string k)
def TK (w : World) (kb : Nat) (k : ByteArray) : Prop := Tab w ∧ KAt w kb k
theorem TK.keep {w w' : World} {kb : Nat} {k : ByteArray} (h : TK w kb k) (hb : Below w.heap.size w w') : TK w' kb k :=
  ⟨h.1.keep hb, Nat.lt_of_lt_of_le h.2.1 hb.size, (hb.cell (p := ⟨kb, 0, none⟩) h.2.1).trans h.2.2⟩

set_option maxHeartbeats 3200000 in
set_option maxRecDepth 100000 in
theorem times1_any (s r k X : ByteArray) (c : Int) (kb : Nat) (HM : Hid (∀ w, Tab w → Calls Tryz.prog 86 #[.string k, .string s, .string r] w (fun e w' => e = .returned (.tuple #[.string X, .int .i64 c]) ∧ Below w.heap.size w w'))) (w : World) (hT : TK w kb k) :
    Calls Tryz.prog 85 #[.string s, .string r, .pointer (some ⟨kb, 0, none⟩)] w (fun e w' => e = .returned (.tuple #[.string X, .int .i64 c]) ∧ Below w.heap.size w w') := by
  have h1 := hT.2.2
  have HT := Lib.hid hT.1
  clear hT
  go_enter Tryz.func85, Tryz.ntmps85
  go_wp2_with fail
  refine (HM.out _ HT.out).mono ?_
  rintro e w1 ⟨rfl, hb1⟩
  go_wp2
  go_ret2
  exact ⟨rfl, hb1⟩

set_option maxHeartbeats 3200000 in
set_option maxRecDepth 100000 in
theorem comb_times_ok (a b : Option Addr) (c1 c2 : Nat) (L G : List ByteArray) (hL : L.length = G.length) (hl : G.length ≤ 4096) (kb : Nat) (k0 : ByteArray) (f : Nat → ByteArray) (HO : Hid (∀ j, j < G.length → ∀ w, TK w kb k0 → Calls Tryz.prog 85 #[.string (sat L j), .string (sat G j), .pointer (some ⟨kb, 0, none⟩)] w (fun e w' => e = .returned (.tuple #[.string (f j), .int .i64 0]) ∧ Below w.heap.size w w'))) (w : World) (h1 : TsAt w a L) (h2 : TsAt w b G) (hT : TK w kb k0) :
    Calls Tryz.prog 65 #[.slice a L.length c1, .slice b G.length c2, (.func (.func 85) #[] #[.pointer (some ⟨kb, 0, none⟩)])] w (GivesTs w (upto f G.length) 0) := by
  rw [hL]
  have H1 := Lib.hid h1
  have H2 := Lib.hid h2
  have HT := Lib.hid hT
  obtain ⟨i0, hi, hz0, hz1, hz2⟩ := info_parts info31
  have HL := Lib.hid hL
  clear h1 h2 hT hL
  go_enter Tryz.func65, Tryz.ntmps65
  go_wp2_with (at_make; refine wpList_make_own _ rfl _ _ 22 rfl w.heap.size 31 i0 (.string ⟨#[]⟩) 1 Tryz.underlying22 hi hz0 hz1 _ _ _ G.length rfl rfl (by omega) ?b2 ?b3 (Nat.le_refl _) ?_)
  case b2 => rw [hz2]; omega
  case b3 => unfold maxLen; omega
  intro w0 hown0 hgrow0
  have hB0 : Below w.heap.size w w0 := (Below.refl _ _).grown hgrow0 (Nat.le_refl _) (fun k h => by cases h)
  have HB0 := Lib.hid hB0
  clear hgrow0 hB0
  go_wp2
  go_loopw [8, 22] (fun v l wr => ∃ i : Nat, i ≤ G.length ∧ l = .int .i64 i ∧ v = .slice (some ⟨w.heap.size, 0, none⟩) i G.length ∧ wr.ownsRow w.heap.size 31 1 (.slice (some ⟨w.heap.size, 0, none⟩) i G.length) i (strs (upto f i)) ∧ Below w.heap.size w wr) (fun _ l _ => G.length - (intOf l).toNat)
  case atStart => exact ⟨0, Nat.zero_le _, rfl, rfl, hown0, HB0.out⟩
  case round =>
    clear hown0
    obtain ⟨i, hi', rfl, rfl, hown, hB⟩ := hrel
    have HOW := Lib.hid hown
    clear hown
    by_cases hlt : i < G.length
    · obtain ⟨b1, o1, rfl, hb1, hc1⟩ := (H1.out.keep hB) i (by rw [HL.out]; omega)
      obtain ⟨b2, o2, rfl, hb2, hc2⟩ := (H2.out.keep hB) i (by omega)
      have hiG : i < G.length := by omega
      have HS : Hid (∀ x, Below wr.heap.size wr x → (Below wr.heap.size wr x ∧ x.cell? ⟨b1, o1 + i, none⟩ = some (.string (sat L i)) ∧ x.cell? ⟨b2, o2 + i, none⟩ = some (.string (sat G i)))) := fun x hx => ⟨hx, (hx.cell (p := ⟨b1, o1 + i, none⟩) hb1).trans hc1, (hx.cell (p := ⟨b2, o2 + i, none⟩) hb2).trans hc2⟩
      clear hb1 hb2 hc1 hc2
      have C := Lib.hid (fun w => HO.out i hlt w)
      go_wp2
      have hk2 : Below wr.heap.size wr wr.drew := (Below.refl _ _).drew
      have HTr := Lib.hid (HT.out.keep hB)
      obtain ⟨_, f0, f1⟩ := HS.out _ hk2
      go_region_held3 (fun x => Below wr.heap.size wr x ∧ x.cell? ⟨b1, o1 + i, none⟩ = some (.string (sat L i)) ∧ x.cell? ⟨b2, o2 + i, none⟩ = some (.string (sat G i)))
    (first | exact HS.out _ (by assumption) | exact HS.out _ (Below.drew (by assumption)) | (refine HS.out _ ?_; exact Below.alloc hk2 hk2.size _))
    (first | (go_at_call 85; refine (C.out _ (HTr.out.keep hk2)).mono ?_; rintro e wz ⟨rfl, hbz⟩; have hk3 := hk2.trans (hbz.mono hk2.size); clear hbz hk2; have hk2 := hk3; clear hk3))
      rename_i hHeldz
      clear hHeldz
      have hB1 : Below w.heap.size w wz := hB.trans (hk2.mono hB.size)
      have HOW1 := Lib.hid (own_keep HOW.out hk2)
      clear f0 f1 hk2 HTr
      have hbs := hB1.size
      go_wp2_with (at_builtin; refine wpList_append_fits _ rfl _ _ 22 rfl w.heap.size 31 i0 1 Tryz.underlying22 hi hz1 w.heap.size i G.length _ rfl (HOW1.out.alloc _) ⟨wz.heap.size, 0, none⟩ 1 1 [.string (f i)] rfl rfl (lit_one _ _) (by simp [Value.oneCell']) (by omega) ?_; intro w1 hown1 hgrow1)
      rw [← strs_one, ← strs_append, ← upto_succ] at hown1
      have HOW2 := Lib.hid hown1
      have hB2 : Below w.heap.size w w1 := below_push (v := .slice (some ⟨w.heap.size, 0, none⟩) i G.length) hB1 (fun k hk => by simp [Value.ownBlock] at hk; omega) hgrow1
      clear hown1 hgrow1
      go_wp2
      go_roundw
      case rel => exact ⟨i + 1, by omega, by go_num, rfl, HOW2.out, hB2⟩
      case measure => simp [intOf]; omega
    · obtain rfl : i = G.length := by omega
      have HE : Hid (∃ a' c', Value.slice (some ⟨w.heap.size, 0, none⟩) G.length G.length = .slice a' (upto f G.length).length c' ∧ TsAt wr a' (upto f G.length)) := by
        have := HOW.out
        rw [← upto_len f G.length] at this
        rw [upto_len] at this
        exact TsAt.of_own (by rw [upto_len]; exact this)
      go_wp2
      go_ret2
      obtain ⟨a', c', e1, e2⟩ := HE.out
      exact ⟨a', c', by rw [e1]; rfl, e2, hB⟩

set_option maxHeartbeats 3200000 in
set_option maxRecDepth 100000 in
theorem negE_err (a b : Option Addr) (cap c1 : Nat) (L G : List ByteArray) (k : Nat) (hk : k ≠ 0) (HC : Hid (∀ w, TsAt w a G → Tab w → Calls Tryz.prog 22 #[.slice a G.length cap] w (fun e w' => e = .returned (.int .i64 ((k : Nat) : Int)) ∧ Below w.heap.size w w'))) (w : World) (h : TsAt w a G) (hT : Tab w) :
    Calls Tryz.prog 34 #[.slice a G.length cap, .slice b L.length c1] w (fun e w' => e = .returned (.tuple #[.slice none 0 0, .int .i64 ((k : Nat) : Int)]) ∧ Below w.heap.size w w') := by
  have H := Lib.hid h
  have HT := Lib.hid hT
  clear h hT
  have hk0 : ¬ ((k : Nat) : Int) = 0 := by omega
  have hk1 : (((k : Nat) : Int) != 0) = true := by simp; omega
  clear hk
  go_enter Tryz.func34, Tryz.ntmps34
  have hB0 : Below w.heap.size w w := Below.refl _ _
  go_wp2_with fail
  refine (HC.out _ (H.out.keep hB0) (HT.out.keep hB0)).mono ?_
  rintro e w1 ⟨rfl, hb1⟩
  have hB1 : Below w.heap.size w w1 := hB0.trans (hb1.mono hB0.size)
  clear hb1
  go_wp2
  go_ret2
  exact ⟨rfl, hB1⟩

set_option maxHeartbeats 3200000 in
set_option maxRecDepth 100000 in
theorem negE_in (a b : Option Addr) (cap c1 : Nat) (L G : List ByteArray) (k : Nat) (hk : k ≠ 0) (HC : Hid (∀ w, TsAt w a G → Tab w → Calls Tryz.prog 22 #[.slice a G.length cap] w (fun e w' => e = .returned (.int .i64 0) ∧ Below w.heap.size w w'))) (HI : Hid (∀ w, TsAt w a G → TsAt w b L → Tab w → Calls Tryz.prog 75 #[.slice a G.length cap, .slice b L.length c1] w (fun e w' => e = .returned (.int .i64 ((k : Nat) : Int)) ∧ Below w.heap.size w w'))) (w : World) (h : TsAt w a G) (h2 : TsAt w b L) (hT : Tab w) :
    Calls Tryz.prog 34 #[.slice a G.length cap, .slice b L.length c1] w (fun e w' => e = .returned (.tuple #[.slice none 0 0, .int .i64 ((k : Nat) : Int)]) ∧ Below w.heap.size w w') := by
  have H := Lib.hid h
  have H2 := Lib.hid h2
  have HT := Lib.hid hT
  clear h h2 hT
  have hk0 : ¬ ((k : Nat) : Int) = 0 := by omega
  have hk1 : (((k : Nat) : Int) != 0) = true := by simp; omega
  clear hk
  go_enter Tryz.func34, Tryz.ntmps34
  have hB0 : Below w.heap.size w w := Below.refl _ _
  go_wp2_with fail
  refine (HC.out _ (H.out.keep hB0) (HT.out.keep hB0)).mono ?_
  rintro e w1 ⟨rfl, hb1⟩
  have hB1 : Below w.heap.size w w1 := hB0.trans (hb1.mono hB0.size)
  clear hb1
  go_wp2_with fail
  refine (HI.out _ (H.out.keep hB1) (H2.out.keep hB1) (HT.out.keep hB1)).mono ?_
  rintro e w2 ⟨rfl, hb2⟩
  have hB2 : Below w.heap.size w w2 := hB1.trans (hb2.mono hB1.size)
  clear hb2
  go_wp2
  go_ret2
  exact ⟨rfl, hB2⟩

set_option maxHeartbeats 3200000 in
set_option maxRecDepth 100000 in
theorem negE_ok (a b : Option Addr) (cap c1 : Nat) (L G : List ByteArray) (Z : List ByteArray) (HC : Hid (∀ w, TsAt w a G → Tab w → Calls Tryz.prog 22 #[.slice a G.length cap] w (fun e w' => e = .returned (.int .i64 0) ∧ Below w.heap.size w w'))) (HI : Hid (∀ w, TsAt w a G → TsAt w b L → Tab w → Calls Tryz.prog 75 #[.slice a G.length cap, .slice b L.length c1] w (fun e w' => e = .returned (.int .i64 0) ∧ Below w.heap.size w w'))) (HP : Hid (∀ w, TsAt w b L → TsAt w a G → Tab w → Calls Tryz.prog 65 #[.slice b L.length c1, .slice a G.length cap, (.func (.func 82) #[] #[])] w (GivesTs w Z 0))) (w : World) (h : TsAt w a G) (h2 : TsAt w b L) (hT : Tab w) :
    Calls Tryz.prog 34 #[.slice a G.length cap, .slice b L.length c1] w (GivesTs w Z 0) := by
  have H := Lib.hid h
  have H2 := Lib.hid h2
  have HT := Lib.hid hT
  clear h h2 hT
  go_enter Tryz.func34, Tryz.ntmps34
  have hB0 : Below w.heap.size w w := Below.refl _ _
  go_wp2_with fail
  refine (HC.out _ (H.out.keep hB0) (HT.out.keep hB0)).mono ?_
  rintro e w1 ⟨rfl, hb1⟩
  have hB1 : Below w.heap.size w w1 := hB0.trans (hb1.mono hB0.size)
  clear hb1
  go_wp2_with fail
  refine (HI.out _ (H.out.keep hB1) (H2.out.keep hB1) (HT.out.keep hB1)).mono ?_
  rintro e w2 ⟨rfl, hb2⟩
  have hB2 : Below w.heap.size w w2 := hB1.trans (hb2.mono hB1.size)
  clear hb2
  go_wp2_with fail
  refine (HP.out _ (H2.out.keep hB2) (H.out.keep hB2) (HT.out.keep hB2)).mono ?_
  rintro e w3 ⟨a', c', rfl, hz, hb3⟩
  have hB3 : Below w.heap.size w w3 := hB2.trans (hb3.mono hB2.size)
  have HZ := Lib.hid hz
  clear hz hb3
  go_wp2
  go_ret2
  exact ⟨a', c', rfl, HZ.out, hB3⟩

set_option maxHeartbeats 3200000 in
set_option maxRecDepth 100000 in
theorem addE_err (a b d : Option Addr) (cap c1 c2 : Nat) (L M G : List ByteArray) (k : Nat) (hk : k ≠ 0) (HC : Hid (∀ w, TsAt w a G → Tab w → Calls Tryz.prog 22 #[.slice a G.length cap] w (fun e w' => e = .returned (.int .i64 ((k : Nat) : Int)) ∧ Below w.heap.size w w'))) (w : World) (h : TsAt w a G) (hT : Tab w) :
    Calls Tryz.prog 32 #[.slice a G.length cap, .slice b L.length c1, .slice d M.length c2] w (fun e w' => e = .returned (.tuple #[.slice none 0 0, .int .i64 ((k : Nat) : Int)]) ∧ Below w.heap.size w w') := by
  have H := Lib.hid h
  have HT := Lib.hid hT
  clear h hT
  have hk0 : ¬ ((k : Nat) : Int) = 0 := by omega
  have hk1 : (((k : Nat) : Int) != 0) = true := by simp; omega
  clear hk
  go_enter Tryz.func32, Tryz.ntmps32
  have hB0 : Below w.heap.size w w := Below.refl _ _
  go_wp2_with fail
  refine (HC.out _ (H.out.keep hB0) (HT.out.keep hB0)).mono ?_
  rintro e w1 ⟨rfl, hb1⟩
  have hB1 : Below w.heap.size w w1 := hB0.trans (hb1.mono hB0.size)
  clear hb1
  go_wp2
  go_ret2
  exact ⟨rfl, hB1⟩

set_option maxHeartbeats 3200000 in
set_option maxRecDepth 100000 in
theorem addE_in (a b d : Option Addr) (cap c1 c2 : Nat) (L M G : List ByteArray) (k : Nat) (hk : k ≠ 0) (HC : Hid (∀ w, TsAt w a G → Tab w → Calls Tryz.prog 22 #[.slice a G.length cap] w (fun e w' => e = .returned (.int .i64 0) ∧ Below w.heap.size w w'))) (HI : Hid (∀ w, TsAt w a G → TsAt w b L → Tab w → Calls Tryz.prog 75 #[.slice a G.length cap, .slice b L.length c1] w (fun e w' => e = .returned (.int .i64 ((k : Nat) : Int)) ∧ Below w.heap.size w w'))) (w : World) (h : TsAt w a G) (h2 : TsAt w b L) (hT : Tab w) :
    Calls Tryz.prog 32 #[.slice a G.length cap, .slice b L.length c1, .slice d M.length c2] w (fun e w' => e = .returned (.tuple #[.slice none 0 0, .int .i64 ((k : Nat) : Int)]) ∧ Below w.heap.size w w') := by
  have H := Lib.hid h
  have H2 := Lib.hid h2
  have HT := Lib.hid hT
  clear h h2 hT
  have hk0 : ¬ ((k : Nat) : Int) = 0 := by omega
  have hk1 : (((k : Nat) : Int) != 0) = true := by simp; omega
  clear hk
  go_enter Tryz.func32, Tryz.ntmps32
  have hB0 : Below w.heap.size w w := Below.refl _ _
  go_wp2_with fail
  refine (HC.out _ (H.out.keep hB0) (HT.out.keep hB0)).mono ?_
  rintro e w1 ⟨rfl, hb1⟩
  have hB1 : Below w.heap.size w w1 := hB0.trans (hb1.mono hB0.size)
  clear hb1
  go_wp2_with fail
  refine (HI.out _ (H.out.keep hB1) (H2.out.keep hB1) (HT.out.keep hB1)).mono ?_
  rintro e w2 ⟨rfl, hb2⟩
  have hB2 : Below w.heap.size w w2 := hB1.trans (hb2.mono hB1.size)
  clear hb2
  go_wp2
  go_ret2
  exact ⟨rfl, hB2⟩

set_option maxHeartbeats 3200000 in
set_option maxRecDepth 100000 in
theorem addE_in2 (a b d : Option Addr) (cap c1 c2 : Nat) (L M G : List ByteArray) (k : Nat) (hk : k ≠ 0) (HC : Hid (∀ w, TsAt w a G → Tab w → Calls Tryz.prog 22 #[.slice a G.length cap] w (fun e w' => e = .returned (.int .i64 0) ∧ Below w.heap.size w w'))) (HI : Hid (∀ w, TsAt w a G → TsAt w b L → Tab w → Calls Tryz.prog 75 #[.slice a G.length cap, .slice b L.length c1] w (fun e w' => e = .returned (.int .i64 0) ∧ Below w.heap.size w w'))) (HI3 : Hid (∀ w, TsAt w a G → TsAt w d M → Tab w → Calls Tryz.prog 75 #[.slice a G.length cap, .slice d M.length c2] w (fun e w' => e = .returned (.int .i64 ((k : Nat) : Int)) ∧ Below w.heap.size w w'))) (w : World) (h : TsAt w a G) (h2 : TsAt w b L) (h3 : TsAt w d M) (hT : Tab w) :
    Calls Tryz.prog 32 #[.slice a G.length cap, .slice b L.length c1, .slice d M.length c2] w (fun e w' => e = .returned (.tuple #[.slice none 0 0, .int .i64 ((k : Nat) : Int)]) ∧ Below w.heap.size w w') := by
  have H := Lib.hid h
  have H2 := Lib.hid h2
  have H3 := Lib.hid h3
  have HT := Lib.hid hT
  clear h h2 h3 hT
  have hk0 : ¬ ((k : Nat) : Int) = 0 := by omega
  have hk1 : (((k : Nat) : Int) != 0) = true := by simp; omega
  clear hk
  go_enter Tryz.func32, Tryz.ntmps32
  have hB0 : Below w.heap.size w w := Below.refl _ _
  go_wp2_with fail
  refine (HC.out _ (H.out.keep hB0) (HT.out.keep hB0)).mono ?_
  rintro e w1 ⟨rfl, hb1⟩
  have hB1 : Below w.heap.size w w1 := hB0.trans (hb1.mono hB0.size)
  clear hb1
  go_wp2_with fail
  refine (HI.out _ (H.out.keep hB1) (H2.out.keep hB1) (HT.out.keep hB1)).mono ?_
  rintro e w2 ⟨rfl, hb2⟩
  have hB2 : Below w.heap.size w w2 := hB1.trans (hb2.mono hB1.size)
  clear hb2
  go_wp2_with fail
  refine (HI3.out _ (H.out.keep hB2) (H3.out.keep hB2) (HT.out.keep hB2)).mono ?_
  rintro e w3 ⟨rfl, hb3⟩
  have hB3 : Below w.heap.size w w3 := hB2.trans (hb3.mono hB2.size)
  clear hb3
  go_wp2
  go_ret2
  exact ⟨rfl, hB3⟩

set_option maxHeartbeats 3200000 in
set_option maxRecDepth 100000 in
theorem addE_ok (a b d : Option Addr) (cap c1 c2 : Nat) (L M G : List ByteArray) (Z : List ByteArray) (HC : Hid (∀ w, TsAt w a G → Tab w → Calls Tryz.prog 22 #[.slice a G.length cap] w (fun e w' => e = .returned (.int .i64 0) ∧ Below w.heap.size w w'))) (HI : Hid (∀ w, TsAt w a G → TsAt w b L → Tab w → Calls Tryz.prog 75 #[.slice a G.length cap, .slice b L.length c1] w (fun e w' => e = .returned (.int .i64 0) ∧ Below w.heap.size w w'))) (HI3 : Hid (∀ w, TsAt w a G → TsAt w d M → Tab w → Calls Tryz.prog 75 #[.slice a G.length cap, .slice d M.length c2] w (fun e w' => e = .returned (.int .i64 0) ∧ Below w.heap.size w w'))) (n : Nat) (ga gb : Nat → ByteArray) (HP : Hid (∀ w, TsAt w b L → TsAt w d M → Calls Tryz.prog 76 #[.slice b L.length c1, .slice d M.length c2, (.func (.func 77) #[] #[])] w (GivesPs w ga gb n))) (HQ : Hid (∀ (w : World) (a' : Option Addr) (c' : Nat), PsAt w a' ga gb n → TsAt w a G → Tab w → Calls Tryz.prog 78 #[.slice a' n c', .slice a G.length cap, (.func (.func 79) #[] #[])] w (GivesTs w Z 0))) (w : World) (h : TsAt w a G) (h2 : TsAt w b L) (h3 : TsAt w d M) (hT : Tab w) :
    Calls Tryz.prog 32 #[.slice a G.length cap, .slice b L.length c1, .slice d M.length c2] w (GivesTs w Z 0) := by
  have H := Lib.hid h
  have H2 := Lib.hid h2
  have H3 := Lib.hid h3
  have HT := Lib.hid hT
  clear h h2 h3 hT
  go_enter Tryz.func32, Tryz.ntmps32
  have hB0 : Below w.heap.size w w := Below.refl _ _
  go_wp2_with fail
  refine (HC.out _ (H.out.keep hB0) (HT.out.keep hB0)).mono ?_
  rintro e w1 ⟨rfl, hb1⟩
  have hB1 : Below w.heap.size w w1 := hB0.trans (hb1.mono hB0.size)
  clear hb1
  go_wp2_with fail
  refine (HI.out _ (H.out.keep hB1) (H2.out.keep hB1) (HT.out.keep hB1)).mono ?_
  rintro e w2 ⟨rfl, hb2⟩
  have hB2 : Below w.heap.size w w2 := hB1.trans (hb2.mono hB1.size)
  clear hb2
  go_wp2_with fail
  refine (HI3.out _ (H.out.keep hB2) (H3.out.keep hB2) (HT.out.keep hB2)).mono ?_
  rintro e w3 ⟨rfl, hb3⟩
  have hB3 : Below w.heap.size w w3 := hB2.trans (hb3.mono hB2.size)
  clear hb3
  go_wp2_with fail
  refine (HP.out _ (H2.out.keep hB3) (H3.out.keep hB3)).mono ?_
  rintro e w4 ⟨a4, c4, rfl, hz4, hb4⟩
  have hB4 : Below w.heap.size w w4 := hB3.trans (hb4.mono hB3.size)
  have HZ4 := Lib.hid hz4
  clear hz4 hb4
  go_wp2_with fail
  refine (HQ.out _ _ _ HZ4.out (H.out.keep hB4) (HT.out.keep hB4)).mono ?_
  rintro e w5 ⟨a', c', rfl, hz, hb5⟩
  have hB5 : Below w.heap.size w w5 := hB4.trans (hb5.mono hB4.size)
  have HZ := Lib.hid hz
  clear hz hb5
  go_wp2
  go_ret2
  exact ⟨a', c', rfl, HZ.out, hB5⟩

set_option maxHeartbeats 3200000 in
set_option maxRecDepth 100000 in
theorem timesE_err (a b : Option Addr) (cap c1 : Nat) (L G : List ByteArray) (s : ByteArray) (k : Nat) (hk' : k ≠ 0) (HC : Hid (∀ w, TsAt w a G → Tab w → Calls Tryz.prog 22 #[.slice a G.length cap] w (fun e w' => e = .returned (.int .i64 ((k : Nat) : Int)) ∧ Below w.heap.size w w'))) (w : World) (h : TsAt w a G) (hT : Tab w) :
    Calls Tryz.prog 36 #[.slice a G.length cap, .string s, .slice b L.length c1] w (fun e w' => e = .returned (.tuple #[.slice none 0 0, .int .i64 ((k : Nat) : Int)]) ∧ Below w.heap.size w w') := by
  have H := Lib.hid h
  have HT := Lib.hid hT
  clear h hT
  obtain ⟨W, hW⟩ : ∃ W, W = w.alloc (.cells #[.string s] 31) := ⟨_, rfl⟩
  have hlt : w.heap.size < W.heap.size := by rw [hW, World.size_alloc]; omega
  have hcl : W.cell? ⟨w.heap.size, 0, none⟩ = some (.string s) := by rw [hW]; exact cell_of_row _ _ 0 _ 31 (0, 0) (heap_alloc_new w _)
  have hB0 : Below w.heap.size w W := by rw [hW]; exact (Below.refl _ _).alloc (Nat.le_refl _) _
  have HW := Lib.hid hW
  have HB0 := Lib.hid hB0
  clear hW hlt hcl hB0
  have hk0 : ¬ ((k : Nat) : Int) = 0 := by omega
  have hk1 : (((k : Nat) : Int) != 0) = true := by simp; omega
  clear hk'
  go_enter Tryz.func36, Tryz.ntmps36
  go_wp2_with fail
  rw [← HW.out]
  have hB0 := HB0.out
  have hk : Below W.heap.size W W := Below.refl _ _
  refine (HC.out _ (H.out.keep (HB0.out.trans (hk.mono HB0.out.size))) (HT.out.keep (HB0.out.trans (hk.mono HB0.out.size)))).mono ?_
  rintro e w1 ⟨rfl, hb1⟩
  have hk9 := hk.trans (hb1.mono hk.size)
  clear hk hb1
  have hk := hk9
  clear hk9
  go_wp2
  go_ret2
  exact ⟨rfl, (HB0.out.trans (hk.mono HB0.out.size))⟩

set_option maxHeartbeats 3200000 in
set_option maxRecDepth 100000 in
theorem timesE_arg (a b : Option Addr) (cap c1 : Nat) (L G : List ByteArray) (s : ByteArray) (k : Nat) (hk' : k ≠ 0) (HC : Hid (∀ w, TsAt w a G → Tab w → Calls Tryz.prog 22 #[.slice a G.length cap] w (fun e w' => e = .returned (.int .i64 0) ∧ Below w.heap.size w w'))) (HK : Hid (∀ w, Calls Tryz.prog 84 #[.string s] w (fun e w' => e = .returned (.int .i64 ((k : Nat) : Int)) ∧ Below w.heap.size w w'))) (w : World) (h : TsAt w a G) (hT : Tab w) :
    Calls Tryz.prog 36 #[.slice a G.length cap, .string s, .slice b L.length c1] w (fun e w' => e = .returned (.tuple #[.slice none 0 0, .int .i64 ((k : Nat) : Int)]) ∧ Below w.heap.size w w') := by
  have H := Lib.hid h
  have HT := Lib.hid hT
  clear h hT
  obtain ⟨W, hW⟩ : ∃ W, W = w.alloc (.cells #[.string s] 31) := ⟨_, rfl⟩
  have hlt : w.heap.size < W.heap.size := by rw [hW, World.size_alloc]; omega
  have hcl : W.cell? ⟨w.heap.size, 0, none⟩ = some (.string s) := by rw [hW]; exact cell_of_row _ _ 0 _ 31 (0, 0) (heap_alloc_new w _)
  have hB0 : Below w.heap.size w W := by rw [hW]; exact (Below.refl _ _).alloc (Nat.le_refl _) _
  have HK0 : Hid (KAt W w.heap.size s) := ⟨hlt, hcl⟩
  have HW := Lib.hid hW
  have HB0 := Lib.hid hB0
  clear hW hlt hcl hB0
  have hk0 : ¬ ((k : Nat) : Int) = 0 := by omega
  have hk1 : (((k : Nat) : Int) != 0) = true := by simp; omega
  clear hk'
  go_enter Tryz.func36, Tryz.ntmps36
  go_wp2_with fail
  rw [← HW.out]
  have hB0 := HB0.out
  have hk : Below W.heap.size W W := Below.refl _ _
  refine (HC.out _ (H.out.keep (HB0.out.trans (hk.mono HB0.out.size))) (HT.out.keep (HB0.out.trans (hk.mono HB0.out.size)))).mono ?_
  rintro e w1 ⟨rfl, hb1⟩
  have hk9 := hk.trans (hb1.mono hk.size)
  clear hk hb1
  have hk := hk9
  clear hk9
  have x0 : w1.cell? ⟨w.heap.size, 0, none⟩ = some (.string s) := (hk.cell (p := ⟨w.heap.size, 0, none⟩) HK0.out.1).trans HK0.out.2
  go_wp2_with fail
  refine (HK.out _).mono ?_
  rintro e w2 ⟨rfl, hb2⟩
  have hk9 := hk.trans (hb2.mono hk.size)
  clear hk hb2
  have hk := hk9
  clear hk9
  clear x0
  go_wp2
  go_ret2
  exact ⟨rfl, (HB0.out.trans (hk.mono HB0.out.size))⟩

set_option maxHeartbeats 3200000 in
set_option maxRecDepth 100000 in
theorem timesE_in (a b : Option Addr) (cap c1 : Nat) (L G : List ByteArray) (s : ByteArray) (k : Nat) (hk' : k ≠ 0) (HC : Hid (∀ w, TsAt w a G → Tab w → Calls Tryz.prog 22 #[.slice a G.length cap] w (fun e w' => e = .returned (.int .i64 0) ∧ Below w.heap.size w w'))) (HK : Hid (∀ w, Calls Tryz.prog 84 #[.string s] w (fun e w' => e = .returned (.int .i64 0) ∧ Below w.heap.size w w'))) (HI : Hid (∀ w, TsAt w a G → TsAt w b L → Tab w → Calls Tryz.prog 75 #[.slice a G.length cap, .slice b L.length c1] w (fun e w' => e = .returned (.int .i64 ((k : Nat) : Int)) ∧ Below w.heap.size w w'))) (w : World) (h : TsAt w a G) (h2 : TsAt w b L) (hT : Tab w) :
    Calls Tryz.prog 36 #[.slice a G.length cap, .string s, .slice b L.length c1] w (fun e w' => e = .returned (.tuple #[.slice none 0 0, .int .i64 ((k : Nat) : Int)]) ∧ Below w.heap.size w w') := by
  have H := Lib.hid h
  have H2 := Lib.hid h2
  have HT := Lib.hid hT
  clear h h2 hT
  obtain ⟨W, hW⟩ : ∃ W, W = w.alloc (.cells #[.string s] 31) := ⟨_, rfl⟩
  have hlt : w.heap.size < W.heap.size := by rw [hW, World.size_alloc]; omega
  have hcl : W.cell? ⟨w.heap.size, 0, none⟩ = some (.string s) := by rw [hW]; exact cell_of_row _ _ 0 _ 31 (0, 0) (heap_alloc_new w _)
  have hB0 : Below w.heap.size w W := by rw [hW]; exact (Below.refl _ _).alloc (Nat.le_refl _) _
  have HK0 : Hid (KAt W w.heap.size s) := ⟨hlt, hcl⟩
  have HW := Lib.hid hW
  have HB0 := Lib.hid hB0
  clear hW hlt hcl hB0
  have hk0 : ¬ ((k : Nat) : Int) = 0 := by omega
  have hk1 : (((k : Nat) : Int) != 0) = true := by simp; omega
  clear hk'
  go_enter Tryz.func36, Tryz.ntmps36
  go_wp2_with fail
  rw [← HW.out]
  have hB0 := HB0.out
  have hk : Below W.heap.size W W := Below.refl _ _
  refine (HC.out _ (H.out.keep (HB0.out.trans (hk.mono HB0.out.size))) (HT.out.keep (HB0.out.trans (hk.mono HB0.out.size)))).mono ?_
  rintro e w1 ⟨rfl, hb1⟩
  have hk9 := hk.trans (hb1.mono hk.size)
  clear hk hb1
  have hk := hk9
  clear hk9
  have x0 : w1.cell? ⟨w.heap.size, 0, none⟩ = some (.string s) := (hk.cell (p := ⟨w.heap.size, 0, none⟩) HK0.out.1).trans HK0.out.2
  go_wp2_with fail
  refine (HK.out _).mono ?_
  rintro e w2 ⟨rfl, hb2⟩
  have hk9 := hk.trans (hb2.mono hk.size)
  clear hk hb2
  have hk := hk9
  clear hk9
  clear x0
  go_wp2_with fail
  refine (HI.out _ (H.out.keep (HB0.out.trans (hk.mono HB0.out.size))) (H2.out.keep (HB0.out.trans (hk.mono HB0.out.size))) (HT.out.keep (HB0.out.trans (hk.mono HB0.out.size)))).mono ?_
  rintro e w3 ⟨rfl, hb3⟩
  have hk9 := hk.trans (hb3.mono hk.size)
  clear hk hb3
  have hk := hk9
  clear hk9
  go_wp2
  go_ret2
  exact ⟨rfl, (HB0.out.trans (hk.mono HB0.out.size))⟩

set_option maxHeartbeats 3200000 in
set_option maxRecDepth 100000 in
theorem timesE_ok (a b : Option Addr) (cap c1 : Nat) (L G : List ByteArray) (s : ByteArray) (Z : List ByteArray) (HC : Hid (∀ w, TsAt w a G → Tab w → Calls Tryz.prog 22 #[.slice a G.length cap] w (fun e w' => e = .returned (.int .i64 0) ∧ Below w.heap.size w w'))) (HK : Hid (∀ w, Calls Tryz.prog 84 #[.string s] w (fun e w' => e = .returned (.int .i64 0) ∧ Below w.heap.size w w'))) (HI : Hid (∀ w, TsAt w a G → TsAt w b L → Tab w → Calls Tryz.prog 75 #[.slice a G.length cap, .slice b L.length c1] w (fun e w' => e = .returned (.int .i64 0) ∧ Below w.heap.size w w'))) (HP : Hid (∀ (w : World) (kb : Nat), TsAt w b L → TsAt w a G → TK w kb s → Calls Tryz.prog 65 #[.slice b L.length c1, .slice a G.length cap, (.func (.func 85) #[] #[.pointer (some ⟨kb, 0, none⟩)])] w (GivesTs w Z 0))) (w : World) (h : TsAt w a G) (h2 : TsAt w b L) (hT : Tab w) :
    Calls Tryz.prog 36 #[.slice a G.length cap, .string s, .slice b L.length c1] w (GivesTs w Z 0) := by
  have H := Lib.hid h
  have H2 := Lib.hid h2
  have HT := Lib.hid hT
  clear h h2 hT
  obtain ⟨W, hW⟩ : ∃ W, W = w.alloc (.cells #[.string s] 31) := ⟨_, rfl⟩
  have hlt : w.heap.size < W.heap.size := by rw [hW, World.size_alloc]; omega
  have hcl : W.cell? ⟨w.heap.size, 0, none⟩ = some (.string s) := by rw [hW]; exact cell_of_row _ _ 0 _ 31 (0, 0) (heap_alloc_new w _)
  have hB0 : Below w.heap.size w W := by rw [hW]; exact (Below.refl _ _).alloc (Nat.le_refl _) _
  have HK0 : Hid (KAt W w.heap.size s) := ⟨hlt, hcl⟩
  have HW := Lib.hid hW
  have HB0 := Lib.hid hB0
  clear hW hlt hcl hB0
  go_enter Tryz.func36, Tryz.ntmps36
  go_wp2_with fail
  rw [← HW.out]
  have hB0 := HB0.out
  have hk : Below W.heap.size W W := Below.refl _ _
  refine (HC.out _ (H.out.keep (HB0.out.trans (hk.mono HB0.out.size))) (HT.out.keep (HB0.out.trans (hk.mono HB0.out.size)))).mono ?_
  rintro e w1 ⟨rfl, hb1⟩
  have hk9 := hk.trans (hb1.mono hk.size)
  clear hk hb1
  have hk := hk9
  clear hk9
  have x0 : w1.cell? ⟨w.heap.size, 0, none⟩ = some (.string s) := (hk.cell (p := ⟨w.heap.size, 0, none⟩) HK0.out.1).trans HK0.out.2
  go_wp2_with fail
  refine (HK.out _).mono ?_
  rintro e w2 ⟨rfl, hb2⟩
  have hk9 := hk.trans (hb2.mono hk.size)
  clear hk hb2
  have hk := hk9
  clear hk9
  clear x0
  go_wp2_with fail
  refine (HI.out _ (H.out.keep (HB0.out.trans (hk.mono HB0.out.size))) (H2.out.keep (HB0.out.trans (hk.mono HB0.out.size))) (HT.out.keep (HB0.out.trans (hk.mono HB0.out.size)))).mono ?_
  rintro e w3 ⟨rfl, hb3⟩
  have hk9 := hk.trans (hb3.mono hk.size)
  clear hk hb3
  have hk := hk9
  clear hk9
  go_wp2_with fail
  have hkk : KAt w3 w.heap.size s := ⟨Nat.lt_of_lt_of_le HK0.out.1 hk.size, (hk.cell (p := ⟨w.heap.size, 0, none⟩) HK0.out.1).trans HK0.out.2⟩
  refine (HP.out _ _ (H2.out.keep (HB0.out.trans (hk.mono HB0.out.size))) (H.out.keep (HB0.out.trans (hk.mono HB0.out.size))) ⟨HT.out.keep (HB0.out.trans (hk.mono HB0.out.size)), hkk⟩).mono ?_
  rintro e w4 ⟨a', c', rfl, hz, hb4⟩
  have hk9 := hk.trans (hb4.mono hk.size)
  clear hk hb4 hkk
  have hk := hk9
  clear hk9
  have HZ := Lib.hid hz
  clear hz
  go_wp2
  go_ret2
  exact ⟨a', c', rfl, HZ.out, (HB0.out.trans (hk.mono HB0.out.size))⟩

set_option maxHeartbeats 3200000 in
set_option maxRecDepth 100000 in
theorem rnegE_err (a b : Option Addr) (cap c1 : Nat) (L G : List ByteArray) (k : Nat) (hk : k ≠ 0) (HC : Hid (∀ w, TsAt w a G → Calls Tryz.prog 23 #[.slice a G.length cap] w (fun e w' => e = .returned (.int .i64 ((k : Nat) : Int)) ∧ Below w.heap.size w w'))) (w : World) (h : TsAt w a G) :
    Calls Tryz.prog 35 #[.slice a G.length cap, .slice b L.length c1] w (fun e w' => e = .returned (.tuple #[.slice none 0 0, .int .i64 ((k : Nat) : Int)]) ∧ Below w.heap.size w w') := by
  have H := Lib.hid h
  clear h
  have hk0 : ¬ ((k : Nat) : Int) = 0 := by omega
  have hk1 : (((k : Nat) : Int) != 0) = true := by simp; omega
  clear hk
  go_enter Tryz.func35, Tryz.ntmps35
  have hB0 : Below w.heap.size w w := Below.refl _ _
  go_wp2_with fail
  refine (HC.out _ (H.out.keep hB0)).mono ?_
  rintro e w1 ⟨rfl, hb1⟩
  have hB1 : Below w.heap.size w w1 := hB0.trans (hb1.mono hB0.size)
  clear hb1
  go_wp2
  go_ret2
  exact ⟨rfl, hB1⟩

set_option maxHeartbeats 3200000 in
set_option maxRecDepth 100000 in
theorem rnegE_in (a b : Option Addr) (cap c1 : Nat) (L G : List ByteArray) (k : Nat) (hk : k ≠ 0) (HC : Hid (∀ w, TsAt w a G → Calls Tryz.prog 23 #[.slice a G.length cap] w (fun e w' => e = .returned (.int .i64 0) ∧ Below w.heap.size w w'))) (HI : Hid (∀ w, TsAt w a G → TsAt w b L → Calls Tryz.prog 80 #[.slice a G.length cap, .slice b L.length c1] w (fun e w' => e = .returned (.int .i64 ((k : Nat) : Int)) ∧ Below w.heap.size w w'))) (w : World) (h : TsAt w a G) (h2 : TsAt w b L) :
    Calls Tryz.prog 35 #[.slice a G.length cap, .slice b L.length c1] w (fun e w' => e = .returned (.tuple #[.slice none 0 0, .int .i64 ((k : Nat) : Int)]) ∧ Below w.heap.size w w') := by
  have H := Lib.hid h
  have H2 := Lib.hid h2
  clear h h2
  have hk0 : ¬ ((k : Nat) : Int) = 0 := by omega
  have hk1 : (((k : Nat) : Int) != 0) = true := by simp; omega
  clear hk
  go_enter Tryz.func35, Tryz.ntmps35
  have hB0 : Below w.heap.size w w := Below.refl _ _
  go_wp2_with fail
  refine (HC.out _ (H.out.keep hB0)).mono ?_
  rintro e w1 ⟨rfl, hb1⟩
  have hB1 : Below w.heap.size w w1 := hB0.trans (hb1.mono hB0.size)
  clear hb1
  go_wp2_with fail
  refine (HI.out _ (H.out.keep hB1) (H2.out.keep hB1)).mono ?_
  rintro e w2 ⟨rfl, hb2⟩
  have hB2 : Below w.heap.size w w2 := hB1.trans (hb2.mono hB1.size)
  clear hb2
  go_wp2
  go_ret2
  exact ⟨rfl, hB2⟩

set_option maxHeartbeats 3200000 in
set_option maxRecDepth 100000 in
theorem rnegE_ok (a b : Option Addr) (cap c1 : Nat) (L G : List ByteArray) (Z : List ByteArray) (HC : Hid (∀ w, TsAt w a G → Calls Tryz.prog 23 #[.slice a G.length cap] w (fun e w' => e = .returned (.int .i64 0) ∧ Below w.heap.size w w'))) (HI : Hid (∀ w, TsAt w a G → TsAt w b L → Calls Tryz.prog 80 #[.slice a G.length cap, .slice b L.length c1] w (fun e w' => e = .returned (.int .i64 0) ∧ Below w.heap.size w w'))) (HP : Hid (∀ w, TsAt w a G → TsAt w b L → Calls Tryz.prog 83 #[.slice a G.length cap, .string ⟨#[45, 49]⟩, .slice b L.length c1] w (GivesL w Z))) (w : World) (h : TsAt w a G) (h2 : TsAt w b L) :
    Calls Tryz.prog 35 #[.slice a G.length cap, .slice b L.length c1] w (GivesTs w Z 0) := by
  have H := Lib.hid h
  have H2 := Lib.hid h2
  clear h h2
  go_enter Tryz.func35, Tryz.ntmps35
  have hB0 : Below w.heap.size w w := Below.refl _ _
  go_wp2_with fail
  refine (HC.out _ (H.out.keep hB0)).mono ?_
  rintro e w1 ⟨rfl, hb1⟩
  have hB1 : Below w.heap.size w w1 := hB0.trans (hb1.mono hB0.size)
  clear hb1
  go_wp2_with fail
  refine (HI.out _ (H.out.keep hB1) (H2.out.keep hB1)).mono ?_
  rintro e w2 ⟨rfl, hb2⟩
  have hB2 : Below w.heap.size w w2 := hB1.trans (hb2.mono hB1.size)
  clear hb2
  go_wp2_with fail
  refine (HP.out _ (H.out.keep hB2) (H2.out.keep hB2)).mono ?_
  rintro e w3 ⟨a', c', rfl, hz, hb3⟩
  have hB3 : Below w.heap.size w w3 := hB2.trans (hb3.mono hB2.size)
  have HZ := Lib.hid hz
  clear hz hb3
  go_wp2
  go_ret2
  exact ⟨a', c', rfl, HZ.out, hB3⟩

set_option maxHeartbeats 3200000 in
set_option maxRecDepth 100000 in
theorem raddE_err (a b d : Option Addr) (cap c1 c2 : Nat) (L M G : List ByteArray) (k : Nat) (hk : k ≠ 0) (HC : Hid (∀ w, TsAt w a G → Calls Tryz.prog 23 #[.slice a G.length cap] w (fun e w' => e = .returned (.int .i64 ((k : Nat) : Int)) ∧ Below w.heap.size w w'))) (w : World) (h : TsAt w a G) :
    Calls Tryz.prog 33 #[.slice a G.length cap, .slice b L.length c1, .slice d M.length c2] w (fun e w' => e = .returned (.tuple #[.slice none 0 0, .int .i64 ((k : Nat) : Int)]) ∧ Below w.heap.size w w') := by
  have H := Lib.hid h
  clear h
  have hk0 : ¬ ((k : Nat) : Int) = 0 := by omega
  have hk1 : (((k : Nat) : Int) != 0) = true := by simp; omega
  clear hk
  go_enter Tryz.func33, Tryz.ntmps33
  have hB0 : Below w.heap.size w w := Below.refl _ _
  go_wp2_with fail
  refine (HC.out _ (H.out.keep hB0)).mono ?_
  rintro e w1 ⟨rfl, hb1⟩
  have hB1 : Below w.heap.size w w1 := hB0.trans (hb1.mono hB0.size)
  clear hb1
  go_wp2
  go_ret2
  exact ⟨rfl, hB1⟩

set_option maxHeartbeats 3200000 in
set_option maxRecDepth 100000 in
theorem raddE_in (a b d : Option Addr) (cap c1 c2 : Nat) (L M G : List ByteArray) (k : Nat) (hk : k ≠ 0) (HC : Hid (∀ w, TsAt w a G → Calls Tryz.prog 23 #[.slice a G.length cap] w (fun e w' => e = .returned (.int .i64 0) ∧ Below w.heap.size w w'))) (HI : Hid (∀ w, TsAt w a G → TsAt w b L → Calls Tryz.prog 80 #[.slice a G.length cap, .slice b L.length c1] w (fun e w' => e = .returned (.int .i64 ((k : Nat) : Int)) ∧ Below w.heap.size w w'))) (w : World) (h : TsAt w a G) (h2 : TsAt w b L) :
    Calls Tryz.prog 33 #[.slice a G.length cap, .slice b L.length c1, .slice d M.length c2] w (fun e w' => e = .returned (.tuple #[.slice none 0 0, .int .i64 ((k : Nat) : Int)]) ∧ Below w.heap.size w w') := by
  have H := Lib.hid h
  have H2 := Lib.hid h2
  clear h h2
  have hk0 : ¬ ((k : Nat) : Int) = 0 := by omega
  have hk1 : (((k : Nat) : Int) != 0) = true := by simp; omega
  clear hk
  go_enter Tryz.func33, Tryz.ntmps33
  have hB0 : Below w.heap.size w w := Below.refl _ _
  go_wp2_with fail
  refine (HC.out _ (H.out.keep hB0)).mono ?_
  rintro e w1 ⟨rfl, hb1⟩
  have hB1 : Below w.heap.size w w1 := hB0.trans (hb1.mono hB0.size)
  clear hb1
  go_wp2_with fail
  refine (HI.out _ (H.out.keep hB1) (H2.out.keep hB1)).mono ?_
  rintro e w2 ⟨rfl, hb2⟩
  have hB2 : Below w.heap.size w w2 := hB1.trans (hb2.mono hB1.size)
  clear hb2
  go_wp2
  go_ret2
  exact ⟨rfl, hB2⟩

set_option maxHeartbeats 3200000 in
set_option maxRecDepth 100000 in
theorem raddE_in2 (a b d : Option Addr) (cap c1 c2 : Nat) (L M G : List ByteArray) (k : Nat) (hk : k ≠ 0) (HC : Hid (∀ w, TsAt w a G → Calls Tryz.prog 23 #[.slice a G.length cap] w (fun e w' => e = .returned (.int .i64 0) ∧ Below w.heap.size w w'))) (HI : Hid (∀ w, TsAt w a G → TsAt w b L → Calls Tryz.prog 80 #[.slice a G.length cap, .slice b L.length c1] w (fun e w' => e = .returned (.int .i64 0) ∧ Below w.heap.size w w'))) (HI3 : Hid (∀ w, TsAt w a G → TsAt w d M → Calls Tryz.prog 80 #[.slice a G.length cap, .slice d M.length c2] w (fun e w' => e = .returned (.int .i64 ((k : Nat) : Int)) ∧ Below w.heap.size w w'))) (w : World) (h : TsAt w a G) (h2 : TsAt w b L) (h3 : TsAt w d M) :
    Calls Tryz.prog 33 #[.slice a G.length cap, .slice b L.length c1, .slice d M.length c2] w (fun e w' => e = .returned (.tuple #[.slice none 0 0, .int .i64 ((k : Nat) : Int)]) ∧ Below w.heap.size w w') := by
  have H := Lib.hid h
  have H2 := Lib.hid h2
  have H3 := Lib.hid h3
  clear h h2 h3
  have hk0 : ¬ ((k : Nat) : Int) = 0 := by omega
  have hk1 : (((k : Nat) : Int) != 0) = true := by simp; omega
  clear hk
  go_enter Tryz.func33, Tryz.ntmps33
  have hB0 : Below w.heap.size w w := Below.refl _ _
  go_wp2_with fail
  refine (HC.out _ (H.out.keep hB0)).mono ?_
  rintro e w1 ⟨rfl, hb1⟩
  have hB1 : Below w.heap.size w w1 := hB0.trans (hb1.mono hB0.size)
  clear hb1
  go_wp2_with fail
  refine (HI.out _ (H.out.keep hB1) (H2.out.keep hB1)).mono ?_
  rintro e w2 ⟨rfl, hb2⟩
  have hB2 : Below w.heap.size w w2 := hB1.trans (hb2.mono hB1.size)
  clear hb2
  go_wp2_with fail
  refine (HI3.out _ (H.out.keep hB2) (H3.out.keep hB2)).mono ?_
  rintro e w3 ⟨rfl, hb3⟩
  have hB3 : Below w.heap.size w w3 := hB2.trans (hb3.mono hB2.size)
  clear hb3
  go_wp2
  go_ret2
  exact ⟨rfl, hB3⟩

set_option maxHeartbeats 3200000 in
set_option maxRecDepth 100000 in
theorem raddE_ok (a b d : Option Addr) (cap c1 c2 : Nat) (L M G : List ByteArray) (Z : List ByteArray) (HC : Hid (∀ w, TsAt w a G → Calls Tryz.prog 23 #[.slice a G.length cap] w (fun e w' => e = .returned (.int .i64 0) ∧ Below w.heap.size w w'))) (HI : Hid (∀ w, TsAt w a G → TsAt w b L → Calls Tryz.prog 80 #[.slice a G.length cap, .slice b L.length c1] w (fun e w' => e = .returned (.int .i64 0) ∧ Below w.heap.size w w'))) (HI3 : Hid (∀ w, TsAt w a G → TsAt w d M → Calls Tryz.prog 80 #[.slice a G.length cap, .slice d M.length c2] w (fun e w' => e = .returned (.int .i64 0) ∧ Below w.heap.size w w'))) (HP : Hid (∀ w, TsAt w a G → TsAt w b L → TsAt w d M → Calls Tryz.prog 81 #[.slice a G.length cap, .slice b L.length c1, .slice d M.length c2] w (GivesL w Z))) (w : World) (h : TsAt w a G) (h2 : TsAt w b L) (h3 : TsAt w d M) :
    Calls Tryz.prog 33 #[.slice a G.length cap, .slice b L.length c1, .slice d M.length c2] w (GivesTs w Z 0) := by
  have H := Lib.hid h
  have H2 := Lib.hid h2
  have H3 := Lib.hid h3
  clear h h2 h3
  go_enter Tryz.func33, Tryz.ntmps33
  have hB0 : Below w.heap.size w w := Below.refl _ _
  go_wp2_with fail
  refine (HC.out _ (H.out.keep hB0)).mono ?_
  rintro e w1 ⟨rfl, hb1⟩
  have hB1 : Below w.heap.size w w1 := hB0.trans (hb1.mono hB0.size)
  clear hb1
  go_wp2_with fail
  refine (HI.out _ (H.out.keep hB1) (H2.out.keep hB1)).mono ?_
  rintro e w2 ⟨rfl, hb2⟩
  have hB2 : Below w.heap.size w w2 := hB1.trans (hb2.mono hB1.size)
  clear hb2
  go_wp2_with fail
  refine (HI3.out _ (H.out.keep hB2) (H3.out.keep hB2)).mono ?_
  rintro e w3 ⟨rfl, hb3⟩
  have hB3 : Below w.heap.size w w3 := hB2.trans (hb3.mono hB2.size)
  clear hb3
  go_wp2_with fail
  refine (HP.out _ (H.out.keep hB3) (H2.out.keep hB3) (H3.out.keep hB3)).mono ?_
  rintro e w4 ⟨a', c', rfl, hz, hb4⟩
  have hB4 : Below w.heap.size w w4 := hB3.trans (hb4.mono hB3.size)
  have HZ := Lib.hid hz
  clear hz hb4
  go_wp2
  go_ret2
  exact ⟨a', c', rfl, HZ.out, hB4⟩

set_option maxHeartbeats 3200000 in
set_option maxRecDepth 100000 in
theorem rtimesE_err (a b : Option Addr) (cap c1 : Nat) (L G : List ByteArray) (s : ByteArray) (k : Nat) (hk : k ≠ 0) (HC : Hid (∀ w, TsAt w a G → Calls Tryz.prog 23 #[.slice a G.length cap] w (fun e w' => e = .returned (.int .i64 ((k : Nat) : Int)) ∧ Below w.heap.size w w'))) (w : World) (h : TsAt w a G) :
    Calls Tryz.prog 37 #[.slice a G.length cap, .string s, .slice b L.length c1] w (fun e w' => e = .returned (.tuple #[.slice none 0 0, .int .i64 ((k : Nat) : Int)]) ∧ Below w.heap.size w w') := by
  have H := Lib.hid h
  clear h
  have hk0 : ¬ ((k : Nat) : Int) = 0 := by omega
  have hk1 : (((k : Nat) : Int) != 0) = true := by simp; omega
  clear hk
  go_enter Tryz.func37, Tryz.ntmps37
  have hB0 : Below w.heap.size w w := Below.refl _ _
  go_wp2_with fail
  refine (HC.out _ (H.out.keep hB0)).mono ?_
  rintro e w1 ⟨rfl, hb1⟩
  have hB1 : Below w.heap.size w w1 := hB0.trans (hb1.mono hB0.size)
  clear hb1
  go_wp2
  go_ret2
  exact ⟨rfl, hB1⟩

set_option maxHeartbeats 3200000 in
set_option maxRecDepth 100000 in
theorem rtimesE_arg (a b : Option Addr) (cap c1 : Nat) (L G : List ByteArray) (s : ByteArray) (k : Nat) (hk : k ≠ 0) (HC : Hid (∀ w, TsAt w a G → Calls Tryz.prog 23 #[.slice a G.length cap] w (fun e w' => e = .returned (.int .i64 0) ∧ Below w.heap.size w w'))) (HK : Hid (∀ w, Calls Tryz.prog 44 #[.string s] w (fun e w' => e = .returned (.int .i64 ((k : Nat) : Int)) ∧ Below w.heap.size w w'))) (w : World) (h : TsAt w a G) :
    Calls Tryz.prog 37 #[.slice a G.length cap, .string s, .slice b L.length c1] w (fun e w' => e = .returned (.tuple #[.slice none 0 0, .int .i64 ((k : Nat) : Int)]) ∧ Below w.heap.size w w') := by
  have H := Lib.hid h
  clear h
  have hk0 : ¬ ((k : Nat) : Int) = 0 := by omega
  have hk1 : (((k : Nat) : Int) != 0) = true := by simp; omega
  clear hk
  go_enter Tryz.func37, Tryz.ntmps37
  have hB0 : Below w.heap.size w w := Below.refl _ _
  go_wp2_with fail
  refine (HC.out _ (H.out.keep hB0)).mono ?_
  rintro e w1 ⟨rfl, hb1⟩
  have hB1 : Below w.heap.size w w1 := hB0.trans (hb1.mono hB0.size)
  clear hb1
  go_wp2_with fail
  refine (HK.out _).mono ?_
  rintro e w2 ⟨rfl, hb2⟩
  have hB2 : Below w.heap.size w w2 := hB1.trans (hb2.mono hB1.size)
  clear hb2
  go_wp2
  go_ret2
  exact ⟨rfl, hB2⟩

set_option maxHeartbeats 3200000 in
set_option maxRecDepth 100000 in
theorem rtimesE_in (a b : Option Addr) (cap c1 : Nat) (L G : List ByteArray) (s : ByteArray) (k : Nat) (hk : k ≠ 0) (HC : Hid (∀ w, TsAt w a G → Calls Tryz.prog 23 #[.slice a G.length cap] w (fun e w' => e = .returned (.int .i64 0) ∧ Below w.heap.size w w'))) (HK : Hid (∀ w, Calls Tryz.prog 44 #[.string s] w (fun e w' => e = .returned (.int .i64 0) ∧ Below w.heap.size w w'))) (HI : Hid (∀ w, TsAt w a G → TsAt w b L → Calls Tryz.prog 80 #[.slice a G.length cap, .slice b L.length c1] w (fun e w' => e = .returned (.int .i64 ((k : Nat) : Int)) ∧ Below w.heap.size w w'))) (w : World) (h : TsAt w a G) (h2 : TsAt w b L) :
    Calls Tryz.prog 37 #[.slice a G.length cap, .string s, .slice b L.length c1] w (fun e w' => e = .returned (.tuple #[.slice none 0 0, .int .i64 ((k : Nat) : Int)]) ∧ Below w.heap.size w w') := by
  have H := Lib.hid h
  have H2 := Lib.hid h2
  clear h h2
  have hk0 : ¬ ((k : Nat) : Int) = 0 := by omega
  have hk1 : (((k : Nat) : Int) != 0) = true := by simp; omega
  clear hk
  go_enter Tryz.func37, Tryz.ntmps37
  have hB0 : Below w.heap.size w w := Below.refl _ _
  go_wp2_with fail
  refine (HC.out _ (H.out.keep hB0)).mono ?_
  rintro e w1 ⟨rfl, hb1⟩
  have hB1 : Below w.heap.size w w1 := hB0.trans (hb1.mono hB0.size)
  clear hb1
  go_wp2_with fail
  refine (HK.out _).mono ?_
  rintro e w2 ⟨rfl, hb2⟩
  have hB2 : Below w.heap.size w w2 := hB1.trans (hb2.mono hB1.size)
  clear hb2
  go_wp2_with fail
  refine (HI.out _ (H.out.keep hB2) (H2.out.keep hB2)).mono ?_
  rintro e w3 ⟨rfl, hb3⟩
  have hB3 : Below w.heap.size w w3 := hB2.trans (hb3.mono hB2.size)
  clear hb3
  go_wp2
  go_ret2
  exact ⟨rfl, hB3⟩

set_option maxHeartbeats 3200000 in
set_option maxRecDepth 100000 in
theorem rtimesE_ok (a b : Option Addr) (cap c1 : Nat) (L G : List ByteArray) (s : ByteArray) (Z : List ByteArray) (HC : Hid (∀ w, TsAt w a G → Calls Tryz.prog 23 #[.slice a G.length cap] w (fun e w' => e = .returned (.int .i64 0) ∧ Below w.heap.size w w'))) (HK : Hid (∀ w, Calls Tryz.prog 44 #[.string s] w (fun e w' => e = .returned (.int .i64 0) ∧ Below w.heap.size w w'))) (HI : Hid (∀ w, TsAt w a G → TsAt w b L → Calls Tryz.prog 80 #[.slice a G.length cap, .slice b L.length c1] w (fun e w' => e = .returned (.int .i64 0) ∧ Below w.heap.size w w'))) (HP : Hid (∀ w, TsAt w a G → TsAt w b L → Calls Tryz.prog 83 #[.slice a G.length cap, .string s, .slice b L.length c1] w (GivesL w Z))) (w : World) (h : TsAt w a G) (h2 : TsAt w b L) :
    Calls Tryz.prog 37 #[.slice a G.length cap, .string s, .slice b L.length c1] w (GivesTs w Z 0) := by
  have H := Lib.hid h
  have H2 := Lib.hid h2
  clear h h2
  go_enter Tryz.func37, Tryz.ntmps37
  have hB0 : Below w.heap.size w w := Below.refl _ _
  go_wp2_with fail
  refine (HC.out _ (H.out.keep hB0)).mono ?_
  rintro e w1 ⟨rfl, hb1⟩
  have hB1 : Below w.heap.size w w1 := hB0.trans (hb1.mono hB0.size)
  clear hb1
  go_wp2_with fail
  refine (HK.out _).mono ?_
  rintro e w2 ⟨rfl, hb2⟩
  have hB2 : Below w.heap.size w w2 := hB1.trans (hb2.mono hB1.size)
  clear hb2
  go_wp2_with fail
  refine (HI.out _ (H.out.keep hB2) (H2.out.keep hB2)).mono ?_
  rintro e w3 ⟨rfl, hb3⟩
  have hB3 : Below w.heap.size w w3 := hB2.trans (hb3.mono hB2.size)
  clear hb3
  go_wp2_with fail
  refine (HP.out _ (H.out.keep hB3) (H2.out.keep hB3)).mono ?_
  rintro e w4 ⟨a', c', rfl, hz, hb4⟩
  have hB4 : Below w.heap.size w w4 := hB3.trans (hb4.mono hB3.size)
  have HZ := Lib.hid hz
  clear hz hb4
  go_wp2
  go_ret2
  exact ⟨a', c', rfl, HZ.out, hB4⟩

end Go.Proofs.YtnfmcdfdbipeoaaGreatDoor
