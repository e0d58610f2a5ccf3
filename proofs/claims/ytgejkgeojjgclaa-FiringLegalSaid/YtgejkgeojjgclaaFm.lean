/- Count of the program. -/
import Derived.Test.YtgejkgeojjgclaaFl
namespace Go.Proofs.Ytgejkgeojjgclaa
open Go.RowKit Go.Proofs.Gr Go.Proofs.Cp
attribute [local go_sem] Oper.semAt_some

/-- How often the vertices occur among the first moves. -/
def couL (N : Nat) (A : List Int) : Nat → List Int
  | 0 => List.replicate N 0
  | k + 1 => (couL N A k).set (iAt A k).toNat (iAt (couL N A k) (iAt A k).toNat + 1)
theorem couL_len (N : Nat) (A : List Int) (k : Nat) : (couL N A k).length = N := by
  induction k with
  | zero => simp [couL]
  | succ k ih => rw [couL, List.length_set, ih]
theorem couL_rng (N : Nat) (A : List Int) (k : Nat) : ∀ v, 0 ≤ iAt (couL N A k) v ∧ iAt (couL N A k) v ≤ k := by
  induction k with
  | zero =>
    intro v
    have : iAt (couL N A 0) v = 0 := by
      unfold iAt couL
      rw [List.getD_eq_getElem?_getD, List.getElem?_replicate]
      split <;> rfl
    omega
  | succ k ih =>
    intro v
    rw [couL]
    generalize (iAt A k).toNat = u
    have h1 := ih u
    have h2 := ih v
    unfold iAt at h1 h2 ⊢
    rw [List.getD_eq_getElem?_getD, List.getElem?_set]
    split
    · split
      · simp only [Option.getD_some]; omega
      · simp only [Option.getD_none]; omega
    · rw [List.getD_eq_getElem?_getD] at h2; omega
def couK (n : Int) (L : List E) (A : List Int) : Nat := if chkG n L ≠ 0 then chkG n L else movK n A
def couV (n : Int) (L : List E) (A : List Int) : List Int := if couK n L A ≠ 0 then [] else couL n.toNat A A.length
set_option maxHeartbeats 12800000 in
set_option maxRecDepth 100000 in
theorem pCount_any (n : Int) (a : Option Addr) (cap : Nat) (L : List E) (hL : L.length ≤ 100000) (sa : Option Addr) (sc : Nat) (A : List Int) (hA : A.length ≤ 100000) (w : World) (h : EsAt w a L) (hs : IsAt w sa A) :
    Calls Try.prog 35 #[gv n a L.length cap, .slice sa A.length sc] w (GivesIE w (couV n L A) (couK n L A)) := by
  have HC := Lib.hid (fun w h => check_any n a cap L (by omega) w h)
  have HCM := Lib.hid (fun w h => pckMoves_any n a L.length cap sa sc A hA w h)
  have HR1 : Hid (chkG n L ≠ 0 → couK n L A = chkG n L ∧ couV n L A = []) := Lib.hid fun h => by
    have : couK n L A = chkG n L := by unfold couK; rw [if_pos h]
    exact ⟨this, by unfold couV; rw [if_pos (by rw [this]; exact h)]⟩
  have HR2 : Hid (chkG n L = 0 → movK n A ≠ 0 → couK n L A = movK n A ∧ couV n L A = []) := Lib.hid fun h h' => by
    have : couK n L A = movK n A := by unfold couK; rw [if_neg (by omega)]
    exact ⟨this, by unfold couV; rw [if_pos (by rw [this]; exact h')]⟩
  have HR3 : Hid (chkG n L = 0 → movK n A = 0 → (couK n L A = 0 ∧ couV n L A = couL n.toNat A A.length) ∧ (1 ≤ n ∧ n ≤ 12) ∧ A.length ≤ 4096 ∧ ∀ i, i < A.length → 0 ≤ iAt A i ∧ iAt A i < n) := Lib.hid fun h h' => by
    have : couK n L A = 0 := by unfold couK; rw [if_neg (by omega)]; exact h'
    exact ⟨⟨this, by unfold couV; rw [if_neg (by omega)]⟩, chkG_n h, movK_zero h'⟩
  have HS0 : Hid (couL n.toNat A 0 = List.replicate n.toNat 0) := Lib.hid rfl
  have HSS : Hid (∀ k, couL n.toNat A (k + 1) = (couL n.toNat A k).set (iAt A k).toNat (iAt (couL n.toNat A k) (iAt A k).toNat + 1)) := Lib.hid fun _ => rfl
  have HSL := Lib.hid (fun k => couL_len n.toNat A k)
  have HSR := Lib.hid (fun k v => couL_rng n.toNat A k v)
  generalize couK n L A = RK at *
  generalize couV n L A = RV at *
  generalize chkG n L = K at *
  generalize movK n A = M at *
  generalize couL n.toNat A = Z at *
  unfold GivesIE gv at *
  unfold GivesN at HC
  obtain ⟨W, hW⟩ : ∃ W, W = w.alloc (Obj.cells #[.int .i64 n, .slice a L.length cap] 24) := ⟨_, rfl⟩
  have hB0 : Below w.heap.size w W := by rw [hW]; exact (Below.refl _ w).alloc (Nat.le_refl _) _
  have hG : Blk W w.heap.size 24 #[.int .i64 n, .slice a L.length cap] := by rw [hW]; exact Blk.new _ _ _
  have HW := Lib.hid hW
  have HB0 := Lib.hid hB0
  have HE1 := Lib.hid (h.keep hB0)
  have HF : Hid (∀ u, Below W.heap.size W u → u.cell? ⟨w.heap.size, 0, none⟩ = some (.int .i64 n) ∧ u.cell? ⟨w.heap.size, 1, none⟩ = some (.slice a L.length cap)) := Lib.hid fun u hu => ⟨(hG.below hu hG.lt).cell 0, (hG.below hu hG.lt).cell 1⟩
  obtain ⟨g0, g1⟩ := HF.out W (Below.refl _ _)
  have HHS := Lib.hid (hs.keep hB0)
  rw [hW] at g0 g1
  clear hs hB0 hG hW h
  go_enter Try.func35, Try.ntmps35
  go_wp2_with fail
  rw [← HW.out]
  refine (HC.out _ HE1.out).mono ?_
  rintro e w1 ⟨rfl, hb⟩
  have HB1 := Lib.hid hb
  clear g0 g1
  obtain ⟨g0, g1⟩ := HF.out w1 hb
  clear hb
  by_cases hk : K ≠ 0
  · have q0 : (((K : Nat) : Int) != 0) = true := by rw [bne_iff_ne]; omega
    have HR := Lib.hid (HR1.out hk)
    clear hk
    go_wp2
    go_ret2
    exact ⟨none, 0, by rw [HR.out.1, HR.out.2]; rfl, by rw [HR.out.2]; exact RowAt.nil _ _ _ _, HB0.out.trans (HB1.out.mono HB0.out.size)⟩
  · have hK0 : K = 0 := by omega
    have HR2a := Lib.hid (HR2.out hK0)
    have HR3a := Lib.hid (HR3.out hK0)
    clear hk HR1 HC HR2 HR3
    subst hK0
    go_wp2_with fail
    refine (HCM.out _ (HHS.out.keep HB1.out)).mono ?_
    rintro e w2 ⟨rfl, hb⟩
    have hb2 := HB1.out.trans (hb.mono HB1.out.size)
    have HB2 := Lib.hid hb2
    clear g0 g1
    obtain ⟨g0, g1⟩ := HF.out w2 hb2
    clear hb hb2
    by_cases hm : M ≠ 0
    · have q0 : (((M : Nat) : Int) != 0) = true := by rw [bne_iff_ne]; omega
      have HR := Lib.hid (HR2a.out hm)
      clear hm
      go_wp2
      go_ret2
      exact ⟨none, 0, by rw [HR.out.1, HR.out.2]; rfl, by rw [HR.out.2]; exact RowAt.nil _ _ _ _, HB0.out.trans (HB2.out.mono HB0.out.size)⟩
    · have hM0 : M = 0 := by omega
      have HR3b := Lib.hid (HR3a.out hM0)
      clear hm HR2a HCM HR3a
      subst hM0
      have hn := HR3b.out.2.1
      have HAR := Lib.hid HR3b.out.2.2.2
      have HAL := Lib.hid HR3b.out.2.2.1
      have HR := Lib.hid HR3b.out.1
      clear HR3b
      obtain ⟨N, rfl⟩ : ∃ N : Nat, n = N := ⟨n.toNat, by omega⟩
      rw [Int.toNat_natCast] at HS0 HSL
      have hmk : (Instr.makeSlice 26 (.int .i64 (N : Int)) (.int .i64 (N : Int))).run Try.prog w2 = .ok (.slice (some ⟨w2.heap.size, 0, none⟩) N N) (w2.alloc (.cells (flat encI (List.replicate N 0)).toArray 3)) := make_scr N (by omega) _
      obtain ⟨W9, hW9⟩ : ∃ v, v = w2.alloc (.cells (flat encI (List.replicate N 0)).toArray 3) := ⟨_, rfl⟩
      obtain ⟨g, hgg⟩ : ∃ v, v = w2.heap.size := ⟨_, rfl⟩
      have HRB : Hid (RowB encI 3 W9 g (Z 0)) := Lib.hid (by rw [HS0.out, hW9, hgg]; exact RowB.new _ _ _ _)
      have HBL : Hid (Below W.heap.size W W9) := Lib.hid (by rw [hW9]; exact HB2.out.alloc HB2.out.size _)
      have HGE : Hid (W.heap.size ≤ g) := Lib.hid (by rw [hgg]; exact HB2.out.size)
      rw [← hW9, ← hgg] at hmk
      clear hW9 hgg
      go_wp2
      go_loopw [27] (fun x wr => ∃ i : Nat, i ≤ A.length ∧ x = .int .i64 i ∧ RowB encI 3 wr g (Z i) ∧ Below W.heap.size W wr) (fun x _ => A.length - (intOf x).toNat)
      case atStart => exact ⟨0, by omega, rfl, HRB.out, HBL.out⟩
      case round =>
        obtain ⟨i, hi, rfl, hp, hb⟩ := hrel
        have HBR := Lib.hid hb
        have HPW := Lib.hid hp
        by_cases hlt : i < A.length
        · have i1 : (i : Int) < (A.length : Int) := by omega
          have i2 : (0 : Int) ≤ (i : Int) := by omega
          have HLT := Lib.hid hlt
          obtain ⟨b1, o1, hb1, q1, x1⟩ := (HHS.out.keep hb).one i hlt
          subst hb1
          have har := HAR.out i hlt
          have HZI := Lib.hid (HSS.out i)
          have HQL := Lib.hid (HSL.out i)
          obtain ⟨u, hu⟩ : ∃ u : Nat, iAt A i = u := ⟨(iAt A i).toNat, by omega⟩
          rw [hu] at x1 har HZI
          rw [Int.toNat_natCast] at HZI
          have j1 : (u : Int) < (N : Int) := by omega
          have j2 : (0 : Int) ≤ (u : Int) := by omega
          have s1 := hp.cell u (by rw [HQL.out]; omega)
          have s2 : wr.frozen? ⟨g, u, none⟩ = false := Blk.frozen hp u
          have hold := HSR.out i u
          have hal := HAL.out
          have o1 : 0 ≤ iAt (Z i) u := hold.1
          have o2 : iAt (Z i) u ≤ 4096 := by omega
          have HPN : Hid (RowB encI 3 (wr.setCell ⟨g, u, none⟩ (.int .i64 (iAt (Z i) u + 1))) g (Z (i + 1))) := Lib.hid (by rw [HZI.out]; exact hp.set u _)
          have HBN : Hid (Below W.heap.size W (wr.setCell ⟨g, u, none⟩ (.int .i64 (iAt (Z i) u + 1)))) := Lib.hid (hb.setCell (p := ⟨g, u, none⟩) HGE.out _)
          generalize iAt (Z i) u = old at *
          clear hp hb hu hlt har hold hal
          go_wp2
          go_roundw
          case rel => exact ⟨i + 1, by have := HLT.out; omega, by go_num, HPN.out, HBN.out⟩
          case measure => have := HLT.out; simp [intOf]; omega
        · obtain rfl : i = A.length := by omega
          have i1 : ¬ (A.length : Int) < (A.length : Int) := by omega
          have HPS : Hid (IsAt wr (some ⟨g, 0, none⟩) (Z A.length)) := Lib.hid (hp.row encI_len)
          have HLN := Lib.hid (HSL.out A.length)
          clear hp hb HPW g0 g1
          go_wp2
          go_ret2
          first | exact ⟨some ⟨g, 0, none⟩, ⟨N, by rw [HR.out.1, HR.out.2, HLN.out]; rfl⟩, by rw [HR.out.2]; exact HPS.out, HB0.out.trans (HBR.out.mono HB0.out.size)⟩ | exact ⟨some ⟨g, 0, none⟩, N, by rw [HR.out.1, HR.out.2, HLN.out]; rfl, by rw [HR.out.2]; exact HPS.out, HB0.out.trans (HBR.out.mono HB0.out.size)⟩
end Go.Proofs.Ytgejkgeojjgclaa
