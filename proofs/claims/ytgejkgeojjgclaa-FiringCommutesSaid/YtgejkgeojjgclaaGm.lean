/- Subset of both; Cut of the reference. -/
import Derived.Test.YtgejkgeojjgclaaGl
namespace Go.Proofs.Ytgejkgeojjgclaa
open Go.RowKit Go.Proofs.Gr

/-- The error of the number i of a set. -/
def sErr (n : Int) (S : List Int) (i : Nat) : Nat := if isV n (iAt S i) = false then 2 else if 0 < i ∧ iAt S i ≤ iAt S (i - 1) then 9 else 0
def subE (n : Int) (S : List Int) : Nat := firstE (sErr n S) S.length
/-- The error of a graph and a set. -/
def chkS (n : Int) (L : List E) (S : List Int) : Nat := if chkG n L ≠ 0 then chkG n L else subE n S

set_option maxHeartbeats 12800000 in
set_option maxRecDepth 100000 in
theorem psubset_any (n : Int) (a : Option Addr) (cap : Nat) (L : List E) (hL : L.length ≤ 100000) (b : Option Addr) (c : Nat) (S : List Int) (hS : S.length ≤ 100000) (w : World) (h : EsAt w a L) (hv : IsAt w b S) :
    Calls Try.prog 85 #[gv n a L.length cap, .slice b S.length c] w (GivesN w (chkS n L S : Nat)) := by
  have HC := Lib.hid (fun w h => check_any n a cap L (by omega) w h)
  have HIV := Lib.hid (fun v w => isVertex_any n a L.length cap v w)
  have hE : Hid (chkS n L S = if chkG n L ≠ 0 then chkG n L else firstE (sErr n S) S.length) := Lib.hid rfl
  unfold GivesN gv at *
  generalize chkS n L S = R at *
  obtain ⟨W, hW⟩ : ∃ W, W = w.alloc (Obj.cells #[.int .i64 n, .slice a L.length cap] 24) := ⟨_, rfl⟩
  have hB0 : Below w.heap.size w W := by rw [hW]; exact (Below.refl _ w).alloc (Nat.le_refl _) _
  have hG : Blk W w.heap.size 24 #[.int .i64 n, .slice a L.length cap] := by rw [hW]; exact Blk.new _ _ _
  have hWs : W.heap.size = w.heap.size + 1 := by rw [hW]; simp
  have HWS := Lib.hid hWs
  have HW := Lib.hid hW
  have HB0 := Lib.hid hB0
  have HG := Lib.hid hG
  have HE := Lib.hid (h.keep hB0)
  have g0 : W.cell? ⟨w.heap.size, 0, none⟩ = some (.int .i64 n) := hG.cell 0
  have g1 : W.cell? ⟨w.heap.size, 1, none⟩ = some (.slice a L.length cap) := hG.cell 1
  clear hB0 hG hW hWs
  have HVs := Lib.hid (hv.keep HB0.out)
  generalize chkG n L = k at *
  clear h hv
  by_cases hk : k ≠ 0
  · have hE2 : Hid (R = k) := Lib.hid (by rw [hE.out, if_pos hk])
    have q0 : (((k : Nat) : Int) != 0) = true := by rw [bne_iff_ne]; omega
    clear hE
    go_enter Try.func85, Try.ntmps85
    go_wp2_with fail
    rw [← HW.out]
    refine (HC.out _ HE.out).mono ?_
    rintro e w1 ⟨rfl, hb⟩
    have HB1 := Lib.hid hb
    clear hb
    go_wp2
    go_ret
    exact ⟨by rw [hE2.out]; rfl, HB0.out.trans (HB1.out.mono HB0.out.size)⟩
  obtain rfl : k = 0 := by omega
  have HR : Hid (R = firstE (sErr n S) S.length) := Lib.hid (by rw [hE.out, if_neg (by simp)])
  clear hE hk
  go_enter Try.func85, Try.ntmps85
  go_wp2_with fail
  rw [← HW.out]
  refine (HC.out _ HE.out).mono ?_
  rintro e w1 ⟨rfl, hb⟩
  have HB1 := Lib.hid hb
  have g0' : w1.cell? ⟨w.heap.size, 0, none⟩ = some (.int .i64 n) := (HG.out.below hb HG.out.lt).cell 0
  have g1' : w1.cell? ⟨w.heap.size, 1, none⟩ = some (.slice a L.length cap) := (HG.out.below hb HG.out.lt).cell 1
  clear hb
  generalize L.length = l0 at *
  go_wp2
  go_loopw [15] (fun v wr => ∃ i : Nat, i ≤ S.length ∧ v = .int .i64 i ∧ (∀ j, j < i → sErr n S j = 0) ∧ Below W.heap.size W wr) (fun v _ => S.length - (intOf v).toNat)
  case atStart => exact ⟨0, by omega, rfl, fun j hj => by omega, HB1.out⟩
  case round =>
    obtain ⟨i, hi, rfl, hz, hb⟩ := hrel
    have HBr := Lib.hid hb
    have HZ := Lib.hid hz
    have g0' : wr.cell? ⟨w.heap.size, 0, none⟩ = some (.int .i64 n) := (HG.out.below hb HG.out.lt).cell 0
    have g1' : wr.cell? ⟨w.heap.size, 1, none⟩ = some (.slice a l0 cap) := (HG.out.below hb HG.out.lt).cell 1
    by_cases hlt : i < S.length
    · obtain ⟨b1, o1, hbb, q1, x1⟩ := (HVs.out.keep hb).one i hlt
      subst hbb
      have HV1 := Lib.hid (HIV.out (iAt S i) wr)
      have i1 : (i : Int) < ((S.length : Nat) : Int) := by omega
      have HEr : Hid (sErr n S i = if isV n (iAt S i) = false then 2 else if 0 < i ∧ iAt S i ≤ iAt S (i - 1) then 9 else 0) := Lib.hid rfl
      have HFI : Hid (sErr n S i ≠ 0 → R = sErr n S i) := Lib.hid (fun hne => by rw [HR.out]; exact firstE_at HZ.out hne hlt)
      have HNX : Hid (sErr n S i = 0 → ∀ j, j < i + 1 → sErr n S j = 0) := Lib.hid (fun h0 j hj => by
        by_cases e : j = i
        · subst e; exact h0
        · exact HZ.out j (by omega))
      have HPREV : Hid (∀ m, i = m + 1 → ∀ x, Below W.heap.size W x → x.cell? ⟨b1, o1 + m, none⟩ = some (.int .i64 (iAt S m))) := Lib.hid (fun m hm x hx => by
        obtain ⟨b2, o2, h2, q2, y1⟩ := (HVs.out.keep hx).one m (by omega)
        simp only [Option.some.injEq, Addr.mk.injEq, and_true] at h2
        obtain ⟨rfl, rfl⟩ := h2
        exact y1)
      have HX1 : Hid (∀ x, Below W.heap.size W x → x.cell? ⟨b1, o1 + i, none⟩ = some (.int .i64 (iAt S i))) := Lib.hid (fun x hx => by
        obtain ⟨b2, o2, h2, q2, y1⟩ := (HVs.out.keep hx).one i hlt
        simp only [Option.some.injEq, Addr.mk.injEq, and_true] at h2
        obtain ⟨rfl, rfl⟩ := h2
        exact y1)
      generalize sErr n S i = er at *
      generalize hzz : iAt S i = z at *
      generalize isV n z = q at *
      clear hb hz hzz
      cases q
      · have HEr' : er = 2 := by rw [HEr.out]; rfl
        go_wp2_with fail
        refine HV1.out.mono ?_
        rintro e w2 ⟨rfl, hb2⟩
        have HB2 := Lib.hid (HBr.out.trans (hb2.mono HBr.out.size))
        clear hb2
        go_wp2
        go_ret
        exact ⟨by rw [HFI.out (by rw [HEr']; omega), HEr']; rfl, HB0.out.trans (HB2.out.mono HB0.out.size)⟩
      · rcases Nat.eq_zero_or_pos i with hi0 | hi0
        · subst hi0
          have HEr' : er = 0 := by rw [HEr.out, if_neg (by simp), if_neg (by omega)]
          simp only [Nat.add_zero] at x1
          go_wp2_with fail
          refine HV1.out.mono ?_
          rintro e w2 ⟨rfl, hb2⟩
          have HB2 := Lib.hid (HBr.out.trans (hb2.mono HBr.out.size))
          clear hb2
          go_wp2
          go_roundw
          case rel => exact ⟨0 + 1, by omega, by go_num, HNX.out HEr', HB2.out⟩
          case measure => simp [intOf]; omega
        · obtain ⟨m, rfl⟩ : ∃ m, i = m + 1 := ⟨i - 1, by omega⟩
          have HP := Lib.hid (fun x hx => HPREV.out m rfl x hx)
          rw [show m + 1 - 1 = m from rfl] at HEr
          generalize iAt S m = y at *
          have z6 : IntKind.i64.wrap (m : Int) = (m : Int) := IntWalk.i64_in _ (by omega)
          have z2 : (0 : Int) ≤ (m : Int) := by omega
          have z3 : (m : Int) < ((S.length : Nat) : Int) := by omega
          have z4 : (0 : Int) < ((m + 1 : Nat) : Int) := by omega
          have z5 : (0 : Int) < (m : Int) + 1 := by omega
          by_cases hzy : z ≤ y
          · have HEr' : er = 9 := by rw [HEr.out, if_neg (by simp), if_pos ⟨by omega, hzy⟩]
            have c1 : decide (z ≤ y) = true := decide_eq_true hzy
            go_wp2_with fail
            refine HV1.out.mono ?_
            rintro e w2 ⟨rfl, hb2⟩
            have hk2 := HBr.out.trans (hb2.mono HBr.out.size)
            have y1 := HP.out _ hk2
            have x1' := HX1.out _ hk2
            have HB2 := Lib.hid hk2
            clear hb2 hk2
            go_wp2
            go_ret
            exact ⟨by rw [HFI.out (by rw [HEr']; omega), HEr']; rfl, HB0.out.trans (HB2.out.mono HB0.out.size)⟩
          · have HEr' : er = 0 := by rw [HEr.out, if_neg (by simp), if_neg (fun h => hzy h.2)]
            have c1 : decide (z ≤ y) = false := decide_eq_false hzy
            go_wp2_with fail
            refine HV1.out.mono ?_
            rintro e w2 ⟨rfl, hb2⟩
            have hk2 := HBr.out.trans (hb2.mono HBr.out.size)
            have y1 := HP.out _ hk2
            have x1' := HX1.out _ hk2
            have HB2 := Lib.hid hk2
            clear hb2 hk2
            go_wp2
            go_roundw
            case rel => exact ⟨m + 1 + 1, by omega, by go_num, HNX.out HEr', HB2.out⟩
            case measure => simp [intOf]; omega
    · obtain rfl : i = S.length := by omega
      have HF : Hid (R = 0) := Lib.hid (by rw [HR.out]; exact firstE_zero hz)
      clear hb hz
      go_wp2
      go_ret
      exact ⟨by rw [HF.out]; rfl, HB0.out.trans (HBr.out.mono HB0.out.size)⟩
set_option maxHeartbeats 12800000 in
set_option maxRecDepth 100000 in
theorem rsubset_any (n : Int) (a : Option Addr) (cap : Nat) (L : List E) (b : Option Addr) (c : Nat) (S : List Int) (hS : S.length ≤ 100000) (w : World) (h : EsAt w a L) (hv : IsAt w b S) :
    Calls Try.prog 46 #[gv n a L.length cap, .slice b S.length c] w (GivesN w (subE n S : Nat)) := by
  have HIV := Lib.hid (fun v w => vertex_any n a L.length cap v w)
  have HR : Hid (subE n S = firstE (sErr n S) S.length) := Lib.hid rfl
  unfold GivesN gv at *
  generalize subE n S = R at *
  obtain ⟨W, hW⟩ : ∃ W, W = w.alloc (Obj.cells #[.int .i64 n, .slice a L.length cap] 24) := ⟨_, rfl⟩
  have hB0 : Below w.heap.size w W := by rw [hW]; exact (Below.refl _ w).alloc (Nat.le_refl _) _
  have hG : Blk W w.heap.size 24 #[.int .i64 n, .slice a L.length cap] := by rw [hW]; exact Blk.new _ _ _
  have hWs : W.heap.size = w.heap.size + 1 := by rw [hW]; simp
  have HWS := Lib.hid hWs
  have HW := Lib.hid hW
  have HB0 := Lib.hid hB0
  have HG := Lib.hid hG
  have HE := Lib.hid (h.keep hB0)
  have g0 : W.cell? ⟨w.heap.size, 0, none⟩ = some (.int .i64 n) := hG.cell 0
  have g1 : W.cell? ⟨w.heap.size, 1, none⟩ = some (.slice a L.length cap) := hG.cell 1
  clear hB0 hG hW hWs
  have HVs := Lib.hid (hv.keep HB0.out)
  clear h hv HE
  go_enter Try.func46, Try.ntmps46
  go_wp2
  rw [← HW.out]
  generalize L.length = l0 at *
  go_loopw [5] (fun v wr => ∃ i : Nat, i ≤ S.length ∧ v = .int .i64 i ∧ (∀ j, j < i → sErr n S j = 0) ∧ Below W.heap.size W wr) (fun v _ => S.length - (intOf v).toNat)
  case atStart => exact ⟨0, by omega, rfl, fun j hj => by omega, Below.refl _ _⟩
  case round =>
    obtain ⟨i, hi, rfl, hz, hb⟩ := hrel
    have HBr := Lib.hid hb
    have HZ := Lib.hid hz
    have g0' : wr.cell? ⟨w.heap.size, 0, none⟩ = some (.int .i64 n) := (HG.out.below hb HG.out.lt).cell 0
    have g1' : wr.cell? ⟨w.heap.size, 1, none⟩ = some (.slice a l0 cap) := (HG.out.below hb HG.out.lt).cell 1
    by_cases hlt : i < S.length
    · obtain ⟨b1, o1, hbb, q1, x1⟩ := (HVs.out.keep hb).one i hlt
      subst hbb
      have i1 : (i : Int) < ((S.length : Nat) : Int) := by omega
      have HEr : Hid (sErr n S i = if isV n (iAt S i) = false then 2 else if 0 < i ∧ iAt S i ≤ iAt S (i - 1) then 9 else 0) := Lib.hid rfl
      have HFI : Hid (sErr n S i ≠ 0 → R = sErr n S i) := Lib.hid (fun hne => by rw [HR.out]; exact firstE_at HZ.out hne hlt)
      have HNX : Hid (sErr n S i = 0 → ∀ j, j < i + 1 → sErr n S j = 0) := Lib.hid (fun h0 j hj => by
        by_cases e : j = i
        · subst e; exact h0
        · exact HZ.out j (by omega))
      have HPREV : Hid (∀ m, i = m + 1 → ∀ x, Below W.heap.size W x → x.cell? ⟨b1, o1 + m, none⟩ = some (.int .i64 (iAt S m))) := Lib.hid (fun m hm x hx => by
        obtain ⟨b2, o2, h2, q2, y1⟩ := (HVs.out.keep hx).one m (by omega)
        simp only [Option.some.injEq, Addr.mk.injEq, and_true] at h2
        obtain ⟨rfl, rfl⟩ := h2
        exact y1)
      have HX1 : Hid (∀ x, Below W.heap.size W x → x.cell? ⟨b1, o1 + i, none⟩ = some (.int .i64 (iAt S i))) := Lib.hid (fun x hx => by
        obtain ⟨b2, o2, h2, q2, y1⟩ := (HVs.out.keep hx).one i hlt
        simp only [Option.some.injEq, Addr.mk.injEq, and_true] at h2
        obtain ⟨rfl, rfl⟩ := h2
        exact y1)
      generalize sErr n S i = er at *
      generalize hzz : iAt S i = z at *
      clear hb hz hzz
      have HV2 := Lib.hid (fun w => HIV.out z w)
      have HS : Hid (∀ x, Below wr.heap.size wr x → (Below wr.heap.size wr x ∧ x.cell? ⟨w.heap.size, 0, none⟩ = some (.int .i64 n) ∧ x.cell? ⟨w.heap.size, 1, none⟩ = some (.slice a l0 cap) ∧ x.cell? ⟨b1, o1 + i, none⟩ = some (.int .i64 z))) := fun x hx => by
        have hWx := HBr.out.trans (hx.mono HBr.out.size)
        exact ⟨hx, (HG.out.below hWx HG.out.lt).cell 0, (HG.out.below hWx HG.out.lt).cell 1, HX1.out x hWx⟩
      generalize hqq : isV n z = q at *
      cases q
      · have HEr' : er = 2 := by rw [HEr.out]; rfl
        go_wp2
        have hk1 : Below wr.heap.size wr wr.drew := (Below.refl _ _).drew
        obtain ⟨_, f0, f1, f2⟩ := HS.out _ hk1
        have hk2 := hk1
        clear hk1
        go_region_held3 (fun x => Below wr.heap.size wr x ∧ x.cell? ⟨w.heap.size, 0, none⟩ = some (.int .i64 n) ∧ x.cell? ⟨w.heap.size, 1, none⟩ = some (.slice a l0 cap) ∧ x.cell? ⟨b1, o1 + i, none⟩ = some (.int .i64 z))
          (first | exact HS.out _ (by assumption) | exact HS.out _ (Below.drew (by assumption)))
          (first | (go_at_call 59; refine (HV2.out _).mono ?_; rintro e w2 ⟨rfl, hbz⟩; have hk3 := hk2.trans (hbz.mono hk2.size); clear hbz hk2; have hk2 := hk3; clear hk3))
        rename_i hHeldz
        clear hHeldz
        have hk4 := HBr.out.trans (hk2.mono HBr.out.size)
        have HB2 := Lib.hid hk4
        clear hk2 hk4
        go_wp2
        go_ret
        exact ⟨by rw [HFI.out (by rw [HEr']; omega), HEr']; rfl, HB0.out.trans (HB2.out.mono HB0.out.size)⟩
      · rcases Nat.eq_zero_or_pos i with hi0 | hi0
        · subst hi0
          have HEr' : er = 0 := by rw [HEr.out, if_neg (by simp), if_neg (by omega)]
          simp only [Nat.add_zero] at x1 HS
          go_wp2
          have hk1 : Below wr.heap.size wr wr.drew := (Below.refl _ _).drew
          obtain ⟨_, f0, f1, f2⟩ := HS.out _ hk1
          have hk2 := hk1
          clear hk1
          go_region_held3 (fun x => Below wr.heap.size wr x ∧ x.cell? ⟨w.heap.size, 0, none⟩ = some (.int .i64 n) ∧ x.cell? ⟨w.heap.size, 1, none⟩ = some (.slice a l0 cap) ∧ x.cell? ⟨b1, o1, none⟩ = some (.int .i64 z))
            (first | exact HS.out _ (by assumption) | exact HS.out _ (Below.drew (by assumption)))
            (first | (go_at_call 59; refine (HV2.out _).mono ?_; rintro e w2 ⟨rfl, hbz⟩; have hk3 := hk2.trans (hbz.mono hk2.size); clear hbz hk2; have hk2 := hk3; clear hk3))
          rename_i hHeldz
          clear hHeldz
          have hk4 := HBr.out.trans (hk2.mono HBr.out.size)
          have HB2 := Lib.hid hk4
          have hz4 : decide ((0 : Int) < 0) = false := by decide
          clear hk2 hk4
          go_wp2
          go_quiet (fail)
          go_wp2
          go_roundw
          case rel => exact ⟨0 + 1, by omega, by go_num, HNX.out HEr', below_drewN HB2.out _⟩
          case measure => simp [intOf]; omega
        · obtain ⟨m, rfl⟩ : ∃ m, i = m + 1 := ⟨i - 1, by omega⟩
          have HP := Lib.hid (fun x hx => HPREV.out m rfl x hx)
          rw [show m + 1 - 1 = m from rfl] at HEr
          generalize iAt S m = y at *
          have z6 : IntKind.i64.wrap (m : Int) = (m : Int) := IntWalk.i64_in _ (by omega)
          have z2 : (0 : Int) ≤ (m : Int) := by omega
          have z3 : (m : Int) < ((S.length : Nat) : Int) := by omega
          have z4 : (0 : Int) < ((m + 1 : Nat) : Int) := by omega
          have z5 : (0 : Int) < (m : Int) + 1 := by omega
          have z7 : (0 : Int) ≤ (m : Int) + 1 := by omega
          have z8 : (m : Int) + 1 < ((S.length : Nat) : Int) := by omega
          by_cases hzy : z ≤ y
          · have HEr' : er = 9 := by rw [HEr.out, if_neg (by simp), if_pos ⟨by omega, hzy⟩]
            have c1 : decide (z ≤ y) = true := decide_eq_true hzy
            go_wp2
            have hk1 : Below wr.heap.size wr wr.drew := (Below.refl _ _).drew
            obtain ⟨_, f0, f1, f2⟩ := HS.out _ hk1
            have hk2 := hk1
            clear hk1
            go_region_held3 (fun x => Below wr.heap.size wr x ∧ x.cell? ⟨w.heap.size, 0, none⟩ = some (.int .i64 n) ∧ x.cell? ⟨w.heap.size, 1, none⟩ = some (.slice a l0 cap) ∧ x.cell? ⟨b1, o1 + (m + 1), none⟩ = some (.int .i64 z))
              (first | exact HS.out _ (by assumption) | exact HS.out _ (Below.drew (by assumption)))
              (first | (go_at_call 59; refine (HV2.out _).mono ?_; rintro e w2 ⟨rfl, hbz⟩; have hk3 := hk2.trans (hbz.mono hk2.size); clear hbz hk2; have hk2 := hk3; clear hk3))
            rename_i hHeldz
            clear hHeldz
            have hk4 := HBr.out.trans (hk2.mono HBr.out.size)
            have HB2 := Lib.hid hk4
            have y1 := HP.out _ hk4
            have x1' := HX1.out _ hk4
            clear hk2 hk4
            go_wp2
            go_quiet (fail)
            go_wp2
            go_ret
            exact ⟨by rw [HFI.out (by rw [HEr']; omega), HEr']; rfl, HB0.out.trans ((below_drewN HB2.out _).mono HB0.out.size)⟩
          · have HEr' : er = 0 := by rw [HEr.out, if_neg (by simp), if_neg (fun h => hzy h.2)]
            have c1 : decide (z ≤ y) = false := decide_eq_false hzy
            go_wp2
            have hk1 : Below wr.heap.size wr wr.drew := (Below.refl _ _).drew
            obtain ⟨_, f0, f1, f2⟩ := HS.out _ hk1
            have hk2 := hk1
            clear hk1
            go_region_held3 (fun x => Below wr.heap.size wr x ∧ x.cell? ⟨w.heap.size, 0, none⟩ = some (.int .i64 n) ∧ x.cell? ⟨w.heap.size, 1, none⟩ = some (.slice a l0 cap) ∧ x.cell? ⟨b1, o1 + (m + 1), none⟩ = some (.int .i64 z))
              (first | exact HS.out _ (by assumption) | exact HS.out _ (Below.drew (by assumption)))
              (first | (go_at_call 59; refine (HV2.out _).mono ?_; rintro e w2 ⟨rfl, hbz⟩; have hk3 := hk2.trans (hbz.mono hk2.size); clear hbz hk2; have hk2 := hk3; clear hk3))
            rename_i hHeldz
            clear hHeldz
            have hk4 := HBr.out.trans (hk2.mono HBr.out.size)
            have HB2 := Lib.hid hk4
            have y1 := HP.out _ hk4
            have x1' := HX1.out _ hk4
            clear hk2 hk4
            go_wp2
            go_quiet (fail)
            go_wp2
            go_roundw
            case rel => exact ⟨m + 1 + 1, by omega, by go_num, HNX.out HEr', below_drewN HB2.out _⟩
            case measure => simp [intOf]; omega
    · obtain rfl : i = S.length := by omega
      have HF : Hid (R = 0) := Lib.hid (by rw [HR.out]; exact firstE_zero hz)
      clear hb hz
      go_wp2
      go_ret
      exact ⟨by rw [HF.out]; rfl, HB0.out.trans (HBr.out.mono HB0.out.size)⟩
end Go.Proofs.Ytgejkgeojjgclaa
