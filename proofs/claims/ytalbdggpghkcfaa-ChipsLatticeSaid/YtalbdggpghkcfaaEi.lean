/- The law Lattice. -/
import Derived.Test.YtalbdggpghkcfaaEf
import Derived.Test.YtalbdggpghkcfaaEg0
namespace Go.Proofs.Ytalbdggpghkcfaa
open Go.RowKit Go.Proofs.Gr Go.Proofs.Cp
attribute [local go_sem] Oper.semAt_some

theorem ord_vals (A B : List Int) : ordD A B = -1 ∨ ordD A B = 0 ∨ ordD A B = 1 := by
  induction A generalizing B with
  | nil => right; left; rw [ordD]; simp
  | cons a A ih =>
    cases B with
    | nil => right; left; rw [ordD]; simp
    | cons b B =>
      rw [ordD]
      by_cases h1 : a < b
      · rw [if_pos h1]; left; rfl
      · rw [if_neg h1]
        by_cases h2 : b < a
        · rw [if_pos h2]; right; right; rfl
        · rw [if_neg h2]; exact ih B
theorem ord_neg {A B : List Int} (h : A.length = B.length) : ordD B A = -ordD A B := by
  induction A generalizing B with
  | nil => cases B with
    | nil => rfl
    | cons b B => simp at h
  | cons a A ih =>
    cases B with
    | nil => simp at h
    | cons b B =>
      rw [ordD, ordD]
      by_cases h1 : a < b
      · have h2 : ¬ b < a := by omega
        rw [if_neg h2, if_pos h1, if_pos h1]; rfl
      · by_cases h2 : b < a
        · rw [if_pos h2, if_neg h1, if_pos h2]
        · rw [if_neg h2, if_neg h1, if_neg h1, if_neg h2]; exact ih (by simpa using h)
theorem ord_abv {A B : List Int} (h : A.length = B.length) (hab : ∀ j, j < A.length → iAt B j ≤ iAt A j) : 0 ≤ ordD A B := by
  induction A generalizing B with
  | nil => rw [ordD]; exact Int.le_refl _; simp
  | cons a A ih =>
    cases B with
    | nil => simp at h
    | cons b B =>
      rw [ordD]
      have h0 : b ≤ a := hab 0 (by simp)
      rw [if_neg (by omega)]
      by_cases h2 : b < a
      · rw [if_pos h2]; omega
      · rw [if_neg h2]; exact ih (by simpa using h) fun j hj => hab (j + 1) (by simpa using hj)
structure LatF (A B X Y S : List Int) (c : Int) (up sm : Bool) : Prop where
  meet : cmbK (fun x y => min x y) A B = 0 ∧ cmbL (fun x y => min x y) A B = X
  join : cmbK (fun x y => max x y) A B = 0 ∧ cmbL (fun x y => max x y) A B = Y
  ya : abvV Y A = true ∧ bothD Y A = 0
  yb : abvV Y B = true ∧ bothD Y B = 0
  ax : abvV A X = true ∧ bothD A X = 0
  bx : abvV B X = true ∧ bothD B X = 0
  s : cmbK (fun x y => x + y) A B = 0 ∧ cmbL (fun x y => x + y) A B = S
  t : cmbK (fun x y => x + y) X Y = 0 ∧ cmbL (fun x y => x + y) X Y = S
  cab : cmpV A B = c ∧ bothD A B = 0
  cba : cmpV B A = -c ∧ bothD B A = 0
  fup : abvV A B = up
  fsm : decide (A = B) = sm
  cases : (c = -1 ∧ sm = false ∧ up = false) ∨ (c = 0 ∧ sm = true) ∨ (c = 1 ∧ sm = false)
  lens : A.length ≤ 1000 ∧ B.length ≤ 1000 ∧ X.length ≤ 1000 ∧ Y.length ≤ 1000 ∧ S.length ≤ 1000
theorem lat_facts {n : Nat} {A B : List Int} (bA : Bd 60 n A) (bB : Bd 60 n B) : ∃ X Y S c up sm, LatF A B X Y S c up sm := by
  have fm : ∀ x y : Int, -60 ≤ x ∧ x ≤ 60 → -60 ≤ y ∧ y ≤ 60 → -60 ≤ (fun x y => min x y) x y ∧ (fun x y => min x y) x y ≤ 60 := fun x y hx hy => by simp only; omega
  have fx : ∀ x y : Int, -60 ≤ x ∧ x ≤ 60 → -60 ≤ y ∧ y ≤ 60 → -60 ≤ (fun x y => max x y) x y ∧ (fun x y => max x y) x y ≤ 60 := fun x y hx hy => by simp only; omega
  have f120 : ∀ x y : Int, -60 ≤ x ∧ x ≤ 60 → -60 ≤ y ∧ y ≤ 60 → -120 ≤ (fun x y => x + y) x y ∧ (fun x y => x + y) x y ≤ 120 := fun x y hx hy => by simp only; omega
  have bX := Bd.zip bA bB fm
  have bY := Bd.zip bA bB fx
  have bS := Bd.zip bA bB f120
  have l1 := bA.le
  have hl : A.length = B.length := by rw [bA.len, bB.len]
  have bo : ∀ {P Q : List Int}, Bd 60 n P → Bd 60 n Q → bothD P Q = 0 := fun h h' => both_of (h.div (by omega)) (h'.div (by omega)) (by rw [h.len, h'.len])
  have ab : ∀ {P Q : List Int}, Bd 60 n P → Bd 60 n Q → (∀ j, j < n → iAt Q j ≤ iAt P j) → abvV P Q = true ∧ bothD P Q = 0 := fun h h' hh => by
    refine ⟨?_, bo h h'⟩
    unfold abvV abvB
    rw [if_pos (bo h h')]
    exact decide_eq_true fun j hj => hh j (by rw [← h.len]; exact hj)
  have at_ : ∀ (f : Int → Int → Int) j, j < n → iAt (zipD f A B) j = f (iAt A j) (iAt B j) := fun f j hj => zip_at f hl j (by rw [bA.len]; exact hj)
  have hst : zipD (fun x y => x + y) (zipD (fun x y => min x y) A B) (zipD (fun x y => max x y) A B) = zipD (fun x y => x + y) A B := eq_of_at (by rw [(Bd.zip bX bY f120).len, bS.len]) fun j hj => by
    rw [(Bd.zip bX bY f120).len] at hj
    rw [zip_at _ (by rw [bX.len, bY.len]) j (by rw [bX.len]; exact hj), at_ _ j hj, at_ _ j hj, at_ _ j hj]
    omega
  refine ⟨zipD (fun x y => min x y) A B, zipD (fun x y => max x y) A B, zipD (fun x y => x + y) A B, ordD A B, abvV A B, decide (A = B), ?_⟩
  exact {
    meet := Bd.cmb bA bB (by omega) (by omega) (by decide) fm
    join := Bd.cmb bA bB (by omega) (by omega) (by decide) fx
    ya := ab bY bA fun j hj => by rw [at_ _ j hj]; omega
    yb := ab bY bB fun j hj => by rw [at_ _ j hj]; omega
    ax := ab bA bX fun j hj => by rw [at_ _ j hj]; omega
    bx := ab bB bX fun j hj => by rw [at_ _ j hj]; omega
    s := Bd.cmb bA bB (by omega) (by omega) (by decide) f120
    t := by have := Bd.cmb bX bY (by omega) (by omega) (by decide) f120; rwa [hst] at this
    cab := ⟨by unfold cmpV; rw [if_pos (bo bA bB)], bo bA bB⟩
    cba := ⟨by unfold cmpV; rw [if_pos (bo bB bA), ord_neg hl], bo bB bA⟩
    fup := rfl
    fsm := rfl
    cases := by
      rcases ord_vals A B with h | h | h
      · refine Or.inl ⟨h, decide_eq_false fun e => ?_, ?_⟩
        · rw [(ord_zero hl).2 e] at h; omega
        · unfold abvV abvB
          rw [if_pos (bo bA bB)]
          refine decide_eq_false fun hh => ?_
          have := ord_abv hl hh
          omega
      · exact Or.inr (Or.inl ⟨h, decide_eq_true ((ord_zero hl).1 h)⟩)
      · exact Or.inr (Or.inr ⟨h, decide_eq_false fun e => by rw [(ord_zero hl).2 e] at h; omega⟩)
    lens := ⟨by have := bA.len; omega, by have := bB.len; omega, by have := bX.len; omega, by have := bY.len; omega, by have := bS.len; omega⟩ }
set_option maxHeartbeats 12800000 in
set_option maxRecDepth 100000 in
theorem lattice_any (a : Option Addr) (c : Nat) (A : List Int) (b : Option Addr) (d : Nat) (B : List Int) (w : World) (h1 : IsAt w a A) (h2 : IsAt w b B) :
    Calls Try.prog 10 #[.slice a A.length c, .slice b B.length d] w (fun e w' => e = .returned (.bool true) ∧ Below w.heap.size w w') := by
  have HAW := Lib.hid (fun w => awake_any w)
  have HB : Hid (Below w.heap.size w w) := Lib.hid (Below.refl _ _)
  have PA := Lib.hid h1
  have PB := Lib.hid h2
  clear h1 h2
  have HBAB := Lib.hid (fun u h1 h2 => rBoth_all a b c d A B u h1 h2)
  by_cases k1 : bothD A B ≠ 0
  · generalize bothD A B = kab at *
    have q0 : (((kab : Nat) : Int) != 0) = true := by rw [bne_iff_ne]; omega
    go_enter Try.func10, Try.ntmps10
    go_wp2_with fail
    refine (HBAB.out w PA.out PB.out).mono ?_
    rintro e w0 ⟨rfl, hb⟩
    replace PA := Lib.hid (PA.out.keep hb)
    replace PB := Lib.hid (PB.out.keep hb)
    replace HB := Lib.hid (HB.out.trans (hb.mono HB.out.size))
    clear hb
    go_wp2_with fail
    refine (HAW.out w0).mono ?_
    rintro e w1 ⟨rfl, hb⟩
    replace PA := Lib.hid (PA.out.keep hb)
    replace PB := Lib.hid (PB.out.keep hb)
    replace HB := Lib.hid (HB.out.trans (hb.mono HB.out.size))
    clear hb
    go_wp2
    go_ret
    exact ⟨rfl, HB.out⟩
  have k1' : bothD A B = 0 := by omega
  rw [k1'] at HBAB
  obtain ⟨dA, dB, -⟩ := both_div k1'
  have HSA := Lib.hid (fun u h => rSmall_any a c A (by have := dA.le; omega) u h)
  have HSB := Lib.hid (fun u h => rSmall_any b d B (by have := dB.le; omega) u h)
  by_cases sA : smallD A = false
  · rw [sA] at HSA
    go_enter Try.func10, Try.ntmps10
    go_wp2_with fail
    refine (HBAB.out w PA.out PB.out).mono ?_
    rintro e w0 ⟨rfl, hb⟩
    replace PA := Lib.hid (PA.out.keep hb)
    replace PB := Lib.hid (PB.out.keep hb)
    replace HB := Lib.hid (HB.out.trans (hb.mono HB.out.size))
    clear hb
    go_wp2_with fail
    refine (HSA.out w0 PA.out).mono ?_
    rintro e w1 ⟨rfl, hb⟩
    replace PA := Lib.hid (PA.out.keep hb)
    replace PB := Lib.hid (PB.out.keep hb)
    replace HB := Lib.hid (HB.out.trans (hb.mono HB.out.size))
    clear hb
    go_wp2_with fail
    refine (HAW.out w1).mono ?_
    rintro e w2 ⟨rfl, hb⟩
    replace PA := Lib.hid (PA.out.keep hb)
    replace PB := Lib.hid (PB.out.keep hb)
    replace HB := Lib.hid (HB.out.trans (hb.mono HB.out.size))
    clear hb
    go_wp2
    go_ret
    exact ⟨rfl, HB.out⟩
  have tA : smallD A = true := by cases h : smallD A with
    | false => exact absurd h sA
    | true => rfl
  rw [tA] at HSA
  by_cases sB : smallD B = false
  · rw [sB] at HSB
    go_enter Try.func10, Try.ntmps10
    go_wp2_with fail
    refine (HBAB.out w PA.out PB.out).mono ?_
    rintro e w0 ⟨rfl, hb⟩
    replace PA := Lib.hid (PA.out.keep hb)
    replace PB := Lib.hid (PB.out.keep hb)
    replace HB := Lib.hid (HB.out.trans (hb.mono HB.out.size))
    clear hb
    go_wp2_with fail
    refine (HSA.out w0 PA.out).mono ?_
    rintro e w1 ⟨rfl, hb⟩
    replace PA := Lib.hid (PA.out.keep hb)
    replace PB := Lib.hid (PB.out.keep hb)
    replace HB := Lib.hid (HB.out.trans (hb.mono HB.out.size))
    clear hb
    go_wp2_with fail
    refine (HSB.out w1 PB.out).mono ?_
    rintro e w2 ⟨rfl, hb⟩
    replace PA := Lib.hid (PA.out.keep hb)
    replace PB := Lib.hid (PB.out.keep hb)
    replace HB := Lib.hid (HB.out.trans (hb.mono HB.out.size))
    clear hb
    go_wp2_with fail
    refine (HAW.out w2).mono ?_
    rintro e w3 ⟨rfl, hb⟩
    replace PA := Lib.hid (PA.out.keep hb)
    replace PB := Lib.hid (PB.out.keep hb)
    replace HB := Lib.hid (HB.out.trans (hb.mono HB.out.size))
    clear hb
    go_wp2
    go_ret
    exact ⟨rfl, HB.out⟩
  have tB : smallD B = true := by cases h : smallD B with
    | false => exact absurd h sB
    | true => rfl
  rw [tB] at HSB
  obtain ⟨n, bA, bB⟩ := both_bd k1' tA tB
  obtain ⟨X, Y, S, cv, up, sm, hL⟩ := lat_facts bA bB
  obtain ⟨lA, lB, lX, lY, lS⟩ := hL.lens
  clear k1 k1' dA dB sA sB tA tB bA bB
  have C1 : Hid (∀ u a b c d, IsAt u a A → IsAt u b B → Calls Try.prog 42 #[.slice a A.length c, .slice b B.length d] u (fun e x => ∃ p q, e = .returned (.tuple #[.slice p X.length q, .int .i64 0]) ∧ IsAt x p X ∧ Below u.heap.size u x)) := Lib.hid fun u a b c d h1 h2 => by
    have := pMeet_any a b c d A B lA lB u h1 h2
    rw [hL.meet.1, hL.meet.2] at this
    exact this
  have C2 : Hid (∀ u a b c d, IsAt u a A → IsAt u b B → Calls Try.prog 44 #[.slice a A.length c, .slice b B.length d] u (fun e x => ∃ p q, e = .returned (.tuple #[.slice p Y.length q, .int .i64 0]) ∧ IsAt x p Y ∧ Below u.heap.size u x)) := Lib.hid fun u a b c d h1 h2 => by
    have := pJoin_any a b c d A B lA lB u h1 h2
    rw [hL.join.1, hL.join.2] at this
    exact this
  have C3 : Hid (∀ u a b c d, IsAt u a Y → IsAt u b A → Calls Try.prog 40 #[.slice a Y.length c, .slice b A.length d] u (fun e x => e = .returned (.tuple #[.bool true, .int .i64 0]) ∧ Below u.heap.size u x)) := Lib.hid fun u a b c d h1 h2 => by
    have := pAbove_any a b c d Y A lY lA u h1 h2
    rw [hL.ya.1, hL.ya.2] at this
    exact this
  have C4 : Hid (∀ u a b c d, IsAt u a A → IsAt u b X → Calls Try.prog 40 #[.slice a A.length c, .slice b X.length d] u (fun e x => e = .returned (.tuple #[.bool true, .int .i64 0]) ∧ Below u.heap.size u x)) := Lib.hid fun u a b c d h1 h2 => by
    have := pAbove_any a b c d A X lA lX u h1 h2
    rw [hL.ax.1, hL.ax.2] at this
    exact this
  have C5 : Hid (∀ u a b c d, IsAt u a Y → IsAt u b B → Calls Try.prog 40 #[.slice a Y.length c, .slice b B.length d] u (fun e x => e = .returned (.tuple #[.bool true, .int .i64 0]) ∧ Below u.heap.size u x)) := Lib.hid fun u a b c d h1 h2 => by
    have := pAbove_any a b c d Y B lY lB u h1 h2
    rw [hL.yb.1, hL.yb.2] at this
    exact this
  have C6 : Hid (∀ u a b c d, IsAt u a B → IsAt u b X → Calls Try.prog 40 #[.slice a B.length c, .slice b X.length d] u (fun e x => e = .returned (.tuple #[.bool true, .int .i64 0]) ∧ Below u.heap.size u x)) := Lib.hid fun u a b c d h1 h2 => by
    have := pAbove_any a b c d B X lB lX u h1 h2
    rw [hL.bx.1, hL.bx.2] at this
    exact this
  have C7 : Hid (∀ u a b c d, IsAt u a A → IsAt u b B → Calls Try.prog 21 #[.slice a A.length c, .slice b B.length d] u (fun e x => ∃ p q, e = .returned (.tuple #[.slice p S.length q, .int .i64 0]) ∧ IsAt x p S ∧ Below u.heap.size u x)) := Lib.hid fun u a b c d h1 h2 => by
    have := pAdd_any a b c d A B lA lB u h1 h2
    rw [hL.s.1, hL.s.2] at this
    exact this
  have C8 : Hid (∀ u a b c d, IsAt u a X → IsAt u b Y → Calls Try.prog 21 #[.slice a X.length c, .slice b Y.length d] u (fun e x => ∃ p q, e = .returned (.tuple #[.slice p S.length q, .int .i64 0]) ∧ IsAt x p S ∧ Below u.heap.size u x)) := Lib.hid fun u a b c d h1 h2 => by
    have := pAdd_any a b c d X Y lX lY u h1 h2
    rw [hL.t.1, hL.t.2] at this
    exact this
  have C9 : Hid (∀ u a b c d, IsAt u a A → IsAt u b B → Calls Try.prog 38 #[.slice a A.length c, .slice b B.length d] u (fun e x => e = .returned (.tuple #[.int .i64 (cv), .int .i64 0]) ∧ Below u.heap.size u x)) := Lib.hid fun u a b c d h1 h2 => by
    have := pCompare_any a b c d A B lA lB u h1 h2
    rw [hL.cab.1, hL.cab.2] at this
    exact this
  have C10 : Hid (∀ u a b c d, IsAt u a B → IsAt u b A → Calls Try.prog 38 #[.slice a B.length c, .slice b A.length d] u (fun e x => e = .returned (.tuple #[.int .i64 (-cv), .int .i64 0]) ∧ Below u.heap.size u x)) := Lib.hid fun u a b c d h1 h2 => by
    have := pCompare_any a b c d B A lB lA u h1 h2
    rw [hL.cba.1, hL.cba.2] at this
    exact this
  have C11 : Hid (∀ u a b c d, IsAt u a A → IsAt u b B → Calls Try.prog 40 #[.slice a A.length c, .slice b B.length d] u (fun e x => e = .returned (.tuple #[.bool up, .int .i64 0]) ∧ Below u.heap.size u x)) := Lib.hid fun u a b c d h1 h2 => by
    have := pAbove_any a b c d A B lA lB u h1 h2
    rw [hL.fup, hL.cab.2] at this
    exact this
  have C12 : Hid (∀ u a b c d, IsAt u a A → IsAt u b B → Calls Try.prog 20 #[.slice a A.length c, .slice b B.length d] u (fun e x => e = .returned (.bool sm) ∧ Below u.heap.size u x)) := Lib.hid fun u a b c d h1 h2 => by
    have := rSame_any a b c d A B lA lB u h1 h2
    rw [hL.fsm] at this
    exact this
  have HSM := Lib.hid same_true
  have HCS := Lib.hid hL.cases
  clear hL
  go_enter Try.func10, Try.ntmps10
  go_wp2_with fail
  refine (HBAB.out w PA.out PB.out).mono ?_
  rintro e w0 ⟨rfl, hb⟩
  replace PA := Lib.hid (PA.out.keep hb)
  replace PB := Lib.hid (PB.out.keep hb)
  replace HB := Lib.hid (HB.out.trans (hb.mono HB.out.size))
  clear hb
  go_wp2_with fail
  refine (HSA.out w0 PA.out).mono ?_
  rintro e w1 ⟨rfl, hb⟩
  replace PA := Lib.hid (PA.out.keep hb)
  replace PB := Lib.hid (PB.out.keep hb)
  replace HB := Lib.hid (HB.out.trans (hb.mono HB.out.size))
  clear hb
  go_wp2_with fail
  refine (HSB.out w1 PB.out).mono ?_
  rintro e w2 ⟨rfl, hb⟩
  replace PA := Lib.hid (PA.out.keep hb)
  replace PB := Lib.hid (PB.out.keep hb)
  replace HB := Lib.hid (HB.out.trans (hb.mono HB.out.size))
  clear hb
  go_wp2_with fail
  refine (C1.out w2 _ _ _ _ PA.out PB.out).mono ?_
  rintro e w3 ⟨p1, q1, rfl, hpX, hb⟩
  replace PA := Lib.hid (PA.out.keep hb)
  replace PB := Lib.hid (PB.out.keep hb)
  replace HB := Lib.hid (HB.out.trans (hb.mono HB.out.size))
  clear hb
  have PX := Lib.hid hpX
  clear hpX
  go_wp2_with fail
  refine (C2.out w3 _ _ _ _ PA.out PB.out).mono ?_
  rintro e w4 ⟨p2, q2, rfl, hpY, hb⟩
  replace PA := Lib.hid (PA.out.keep hb)
  replace PB := Lib.hid (PB.out.keep hb)
  replace PX := Lib.hid (PX.out.keep hb)
  replace HB := Lib.hid (HB.out.trans (hb.mono HB.out.size))
  clear hb
  have PY := Lib.hid hpY
  clear hpY
  obtain ⟨V5, hV5⟩ : ∃ V, V = w4.alloc (Obj.cells #[.slice a A.length c, .slice b B.length d] 23) := ⟨_, rfl⟩
  have hsV5 : w4.heap.size = w4.heap.size := rfl
  have hpLL : RowAt 1 encD V5 (some ⟨w4.heap.size, 0, none⟩) [DX.mk a A c, DX.mk b B d] := by rw [← hsV5, hV5]; exact lits_row w4 [DX.mk a A c, DX.mk b B d]
  have HSV5 : Hid (V5.heap.size = w4.heap.size + 1) := Lib.hid (by rw [hV5, World.size_alloc, hsV5])
  have hb : Below w4.heap.size w4 V5 := by rw [hV5]; exact (Below.refl _ _).alloc (Nat.le_refl _) _
  have HV5 := Lib.hid hV5
  clear hV5 hsV5
  replace PA := Lib.hid (PA.out.keep hb)
  replace PB := Lib.hid (PB.out.keep hb)
  replace PX := Lib.hid (PX.out.keep hb)
  replace PY := Lib.hid (PY.out.keep hb)
  replace HB := Lib.hid (HB.out.trans (hb.mono HB.out.size))
  clear hb
  have PLL := Lib.hid hpLL
  clear hpLL
  go_wp2
  rw [← HV5.out]
  go_loopw [53] (fun x wr => ∃ i : Nat, i ≤ 2 ∧ x = .int .i64 i ∧ Below V5.heap.size V5 wr) (fun x _ => 2 - (intOf x).toNat)
  case atStart => exact ⟨0, by omega, rfl, Below.refl _ _⟩
  case round =>
    obtain ⟨i, hi, rfl, hb⟩ := hrel
    have HBV := Lib.hid hb
    replace PA := Lib.hid (PA.out.keep hb)
    replace PB := Lib.hid (PB.out.keep hb)
    replace PX := Lib.hid (PX.out.keep hb)
    replace PY := Lib.hid (PY.out.keep hb)
    replace PLL := Lib.hid (PLL.out.keep hb)
    replace HB := Lib.hid (HB.out.trans (hb.mono HB.out.size))
    clear hb
    rcases (show i = 0 ∨ i = 1 ∨ i = 2 by omega) with rfl | rfl | rfl
    · have HB9 : Hid (Below wr.heap.size wr wr) := Lib.hid (Below.refl _ _)
      obtain ⟨bl, ol, hbl, ql, xl⟩ := PLL.out.div 0 (by simp)
      injection hbl with hbl
      injection hbl with el1 el2
      subst el1 el2
      have xl2 : wr.cell? ⟨w4.heap.size, 0, none⟩ = some (.slice a A.length c) := by have h9 := xl; rw [Nat.zero_add] at h9; exact h9
      clear xl
      go_wp2_with fail
      refine (C3.out wr _ _ _ _ PY.out PA.out).mono ?_
      rintro e w6 ⟨rfl, hb⟩
      replace PA := Lib.hid (PA.out.keep hb)
      replace PB := Lib.hid (PB.out.keep hb)
      replace PX := Lib.hid (PX.out.keep hb)
      replace PY := Lib.hid (PY.out.keep hb)
      replace PLL := Lib.hid (PLL.out.keep hb)
      replace HB9 := Lib.hid (HB9.out.trans (hb.mono HB9.out.size))
      replace HB := Lib.hid (HB.out.trans (hb.mono HB.out.size))
      clear hb
      go_wp2_with fail
      refine (C4.out w6 _ _ _ _ PA.out PX.out).mono ?_
      rintro e w7 ⟨rfl, hb⟩
      replace PA := Lib.hid (PA.out.keep hb)
      replace PB := Lib.hid (PB.out.keep hb)
      replace PX := Lib.hid (PX.out.keep hb)
      replace PY := Lib.hid (PY.out.keep hb)
      replace PLL := Lib.hid (PLL.out.keep hb)
      replace HB9 := Lib.hid (HB9.out.trans (hb.mono HB9.out.size))
      replace HB := Lib.hid (HB.out.trans (hb.mono HB.out.size))
      clear hb
      have HBN : Hid (Below V5.heap.size V5 w7) := Lib.hid (HBV.out.trans (HB9.out.mono HBV.out.size))
      go_wp2
      go_roundw
      case rel => exact ⟨1, by omega, by go_num, HBN.out⟩
      case measure => simp [intOf]
    · have HB9 : Hid (Below wr.heap.size wr wr) := Lib.hid (Below.refl _ _)
      obtain ⟨bl, ol, hbl, ql, xl⟩ := PLL.out.div 1 (by simp)
      injection hbl with hbl
      injection hbl with el1 el2
      subst el1 el2
      have xl2 : wr.cell? ⟨w4.heap.size, 1, none⟩ = some (.slice b B.length d) := by have h9 := xl; rw [Nat.zero_add] at h9; exact h9
      clear xl
      go_wp2_with fail
      refine (C5.out wr _ _ _ _ PY.out PB.out).mono ?_
      rintro e w6 ⟨rfl, hb⟩
      replace PA := Lib.hid (PA.out.keep hb)
      replace PB := Lib.hid (PB.out.keep hb)
      replace PX := Lib.hid (PX.out.keep hb)
      replace PY := Lib.hid (PY.out.keep hb)
      replace PLL := Lib.hid (PLL.out.keep hb)
      replace HB9 := Lib.hid (HB9.out.trans (hb.mono HB9.out.size))
      replace HB := Lib.hid (HB.out.trans (hb.mono HB.out.size))
      clear hb
      go_wp2_with fail
      refine (C6.out w6 _ _ _ _ PB.out PX.out).mono ?_
      rintro e w7 ⟨rfl, hb⟩
      replace PA := Lib.hid (PA.out.keep hb)
      replace PB := Lib.hid (PB.out.keep hb)
      replace PX := Lib.hid (PX.out.keep hb)
      replace PY := Lib.hid (PY.out.keep hb)
      replace PLL := Lib.hid (PLL.out.keep hb)
      replace HB9 := Lib.hid (HB9.out.trans (hb.mono HB9.out.size))
      replace HB := Lib.hid (HB.out.trans (hb.mono HB.out.size))
      clear hb
      have HBN : Hid (Below V5.heap.size V5 w7) := Lib.hid (HBV.out.trans (HB9.out.mono HBV.out.size))
      go_wp2
      go_roundw
      case rel => exact ⟨2, by omega, by go_num, HBN.out⟩
      case measure => simp [intOf]
    · clear PLL
      go_wp2_with fail
      refine (C7.out wr _ _ _ _ PA.out PB.out).mono ?_
      rintro e w6 ⟨p7, q7, rfl, hpS1, hb⟩
      replace PA := Lib.hid (PA.out.keep hb)
      replace PB := Lib.hid (PB.out.keep hb)
      replace PX := Lib.hid (PX.out.keep hb)
      replace PY := Lib.hid (PY.out.keep hb)
      replace HB := Lib.hid (HB.out.trans (hb.mono HB.out.size))
      clear hb
      have PS1 := Lib.hid hpS1
      clear hpS1
      go_wp2_with fail
      refine (C8.out w6 _ _ _ _ PX.out PY.out).mono ?_
      rintro e w7 ⟨p8, q8, rfl, hpS2, hb⟩
      replace PA := Lib.hid (PA.out.keep hb)
      replace PB := Lib.hid (PB.out.keep hb)
      replace PX := Lib.hid (PX.out.keep hb)
      replace PY := Lib.hid (PY.out.keep hb)
      replace PS1 := Lib.hid (PS1.out.keep hb)
      replace HB := Lib.hid (HB.out.trans (hb.mono HB.out.size))
      clear hb
      have PS2 := Lib.hid hpS2
      clear hpS2
      go_wp2_with fail
      refine (HSM.out w7 _ _ _ _ S lS PS1.out PS2.out).mono ?_
      rintro e w8 ⟨rfl, hb⟩
      clear PS1
      clear PS2
      replace PA := Lib.hid (PA.out.keep hb)
      replace PB := Lib.hid (PB.out.keep hb)
      replace PX := Lib.hid (PX.out.keep hb)
      replace PY := Lib.hid (PY.out.keep hb)
      replace HB := Lib.hid (HB.out.trans (hb.mono HB.out.size))
      clear hb
      go_wp2_with fail
      refine (C9.out w8 _ _ _ _ PA.out PB.out).mono ?_
      rintro e w9 ⟨rfl, hb⟩
      replace PA := Lib.hid (PA.out.keep hb)
      replace PB := Lib.hid (PB.out.keep hb)
      replace PX := Lib.hid (PX.out.keep hb)
      replace PY := Lib.hid (PY.out.keep hb)
      replace HB := Lib.hid (HB.out.trans (hb.mono HB.out.size))
      clear hb
      go_wp2_with fail
      refine (C10.out w9 _ _ _ _ PB.out PA.out).mono ?_
      rintro e w10 ⟨rfl, hb⟩
      replace PA := Lib.hid (PA.out.keep hb)
      replace PB := Lib.hid (PB.out.keep hb)
      replace PX := Lib.hid (PX.out.keep hb)
      replace PY := Lib.hid (PY.out.keep hb)
      replace HB := Lib.hid (HB.out.trans (hb.mono HB.out.size))
      clear hb
      go_wp2_with fail
      refine (C11.out w10 _ _ _ _ PA.out PB.out).mono ?_
      rintro e w11 ⟨rfl, hb⟩
      replace PA := Lib.hid (PA.out.keep hb)
      replace PB := Lib.hid (PB.out.keep hb)
      replace PX := Lib.hid (PX.out.keep hb)
      replace PY := Lib.hid (PY.out.keep hb)
      replace HB := Lib.hid (HB.out.trans (hb.mono HB.out.size))
      clear hb
      rcases HCS.out with ⟨rfl, rfl, rfl⟩ | ⟨rfl, rfl⟩ | ⟨rfl, rfl⟩
      · clear HCS
        go_wp2_with fail
        refine (C12.out w11 _ _ _ _ PA.out PB.out).mono ?_
        rintro e w12 ⟨rfl, hb⟩
        replace PA := Lib.hid (PA.out.keep hb)
        replace PB := Lib.hid (PB.out.keep hb)
        replace PX := Lib.hid (PX.out.keep hb)
        replace PY := Lib.hid (PY.out.keep hb)
        replace HB := Lib.hid (HB.out.trans (hb.mono HB.out.size))
        clear hb
        go_wp2_with fail
        refine (HAW.out w12).mono ?_
        rintro e w13 ⟨rfl, hb⟩
        replace PA := Lib.hid (PA.out.keep hb)
        replace PB := Lib.hid (PB.out.keep hb)
        replace PX := Lib.hid (PX.out.keep hb)
        replace PY := Lib.hid (PY.out.keep hb)
        replace HB := Lib.hid (HB.out.trans (hb.mono HB.out.size))
        clear hb
        go_wp2
        go_ret
        exact ⟨rfl, HB.out⟩
      · clear HCS
        cases up
        all_goals (
          go_wp2_with fail
          refine (C12.out w11 _ _ _ _ PA.out PB.out).mono ?_
          rintro e w12 ⟨rfl, hb⟩
          replace PA := Lib.hid (PA.out.keep hb)
          replace PB := Lib.hid (PB.out.keep hb)
          replace PX := Lib.hid (PX.out.keep hb)
          replace PY := Lib.hid (PY.out.keep hb)
          replace HB := Lib.hid (HB.out.trans (hb.mono HB.out.size))
          clear hb
          go_wp2_with fail
          refine (HAW.out w12).mono ?_
          rintro e w13 ⟨rfl, hb⟩
          replace PA := Lib.hid (PA.out.keep hb)
          replace PB := Lib.hid (PB.out.keep hb)
          replace PX := Lib.hid (PX.out.keep hb)
          replace PY := Lib.hid (PY.out.keep hb)
          replace HB := Lib.hid (HB.out.trans (hb.mono HB.out.size))
          clear hb
          go_wp2
          go_ret
          exact ⟨rfl, HB.out⟩)
      · clear HCS
        cases up
        all_goals (
          go_wp2_with fail
          refine (C12.out w11 _ _ _ _ PA.out PB.out).mono ?_
          rintro e w12 ⟨rfl, hb⟩
          replace PA := Lib.hid (PA.out.keep hb)
          replace PB := Lib.hid (PB.out.keep hb)
          replace PX := Lib.hid (PX.out.keep hb)
          replace PY := Lib.hid (PY.out.keep hb)
          replace HB := Lib.hid (HB.out.trans (hb.mono HB.out.size))
          clear hb
          go_wp2_with fail
          refine (HAW.out w12).mono ?_
          rintro e w13 ⟨rfl, hb⟩
          replace PA := Lib.hid (PA.out.keep hb)
          replace PB := Lib.hid (PB.out.keep hb)
          replace PX := Lib.hid (PX.out.keep hb)
          replace PY := Lib.hid (PY.out.keep hb)
          replace HB := Lib.hid (HB.out.trans (hb.mono HB.out.size))
          clear hb
          go_wp2
          go_ret
          exact ⟨rfl, HB.out⟩)
end Go.Proofs.Ytalbdggpghkcfaa
