/- Fire, Borrow, FireSet of the program. -/
import Derived.Test.YtgejkgeojjgclaaFf
namespace Go.Proofs.Ytgejkgeojjgclaa
open Go.RowKit Go.Proofs.Gr Go.Proofs.Cp
attribute [local go_sem] Oper.semAt_some

/-- The error of a graph, a divisor and a set. -/
def setK (n : Int) (L : List E) (D A : List Int) : Nat := if chkGD n L D ≠ 0 then chkGD n L D else chkS n L A
/-- A script that is filled in. -/
def setL (N : Nat) (t : Int) (A : List Int) : Nat → List Int
  | 0 => List.replicate N 0
  | k + 1 => (setL N t A k).set (iAt A k).toNat t
theorem setL_len (N : Nat) (t : Int) (A : List Int) (k : Nat) : (setL N t A k).length = N := by
  induction k with
  | zero => simp [setL]
  | succ k ih => rw [setL, List.length_set, ih]
theorem setL_rng (N : Nat) (t : Int) (A : List Int) (ht : -1 ≤ t ∧ t ≤ 1) (k : Nat) : ∀ z ∈ setL N t A k, -1 ≤ z ∧ z ≤ 1 := by
  induction k with
  | zero => intro z hz; rw [setL, List.mem_replicate] at hz; omega
  | succ k ih =>
    intro z hz
    rw [setL] at hz
    rcases List.mem_or_eq_of_mem_set hz with h | h
    · exact ih z h
    · omega
def setS (n t : Int) (A : List Int) : List Int := setL n.toNat t A A.length
theorem setK_zero {n : Int} {L : List E} {D A : List Int} (h : setK n L D A = 0) : chkGD n L D = 0 ∧ ∀ i, i < A.length → 0 ≤ iAt A i ∧ iAt A i < n := by
  unfold setK at h
  by_cases h1 : chkGD n L D ≠ 0
  · rw [if_pos h1] at h; exact absurd h h1
  · rw [if_neg h1] at h
    refine ⟨by omega, fun i hi => ?_⟩
    unfold chkS at h
    by_cases h2 : chkG n L ≠ 0
    · rw [if_pos h2] at h; exact absurd h h2
    · rw [if_neg h2] at h
      have := firstE_all h i hi
      unfold sErr at this
      by_cases h3 : isV n (iAt A i) = false
      · rw [if_pos h3] at this; omega
      · have h4 : isV n (iAt A i) = true := by cases h : isV n (iAt A i) with
          | false => exact absurd h h3
          | true => rfl
        unfold isV at h4
        rw [Bool.and_eq_true, decide_eq_true_iff, decide_eq_true_iff] at h4
        exact h4
set_option maxHeartbeats 12800000 in
set_option maxRecDepth 100000 in
theorem pckSet_any (n : Int) (a : Option Addr) (cap : Nat) (L : List E) (hL : L.length ≤ 100000) (b : Option Addr) (c : Nat) (D : List Int) (hD : D.length ≤ 1000) (sa : Option Addr) (sc : Nat) (A : List Int) (hA : A.length ≤ 100000) (w : World) (h : EsAt w a L) (ho : IsAt w b D) (hs : IsAt w sa A) :
    Calls Try.prog 63 #[gv n a L.length cap, .slice b D.length c, .slice sa A.length sc] w (GivesN w (setK n L D A : Nat)) := by
  have HC := Lib.hid (fun w h ho => pckD_any n a cap L hL b c D hD w h ho)
  have HC2 := Lib.hid (fun w h ho => psubset_any n a cap L hL sa sc A hA w h ho)
  have HAK : Hid (setK n L D A = if chkGD n L D ≠ 0 then chkGD n L D else chkS n L A) := Lib.hid rfl
  unfold GivesN gv at *
  generalize setK n L D A = ak at *
  generalize chkGD n L D = k at *
  generalize chkS n L A = k2 at *
  obtain ⟨W, hW⟩ : ∃ W, W = w.alloc (Obj.cells #[.int .i64 n, .slice a L.length cap] 24) := ⟨_, rfl⟩
  have hB0 : Below w.heap.size w W := by rw [hW]; exact (Below.refl _ w).alloc (Nat.le_refl _) _
  have hG : Blk W w.heap.size 24 #[.int .i64 n, .slice a L.length cap] := by rw [hW]; exact Blk.new _ _ _
  have hWs : W.heap.size = w.heap.size + 1 := by rw [hW]; simp
  have HW := Lib.hid hW
  have HWS := Lib.hid hWs
  have HB0 := Lib.hid hB0
  have HE1 := Lib.hid (h.keep hB0)
  have HF : Hid (∀ u, Below W.heap.size W u → u.cell? ⟨w.heap.size, 0, none⟩ = some (.int .i64 n) ∧ u.cell? ⟨w.heap.size, 1, none⟩ = some (.slice a L.length cap)) := Lib.hid fun u hu => ⟨(hG.below hu hG.lt).cell 0, (hG.below hu hG.lt).cell 1⟩
  obtain ⟨g0, g1⟩ := HF.out W (Below.refl _ _)
  have HHO := Lib.hid (ho.keep hB0)
  have HHS := Lib.hid (hs.keep hB0)
  clear ho hs hB0 hG hW hWs h
  go_enter Try.func63, Try.ntmps63
  go_wp2_with fail
  rw [← HW.out]
  refine (HC.out _ HE1.out HHO.out).mono ?_
  rintro e w1 ⟨rfl, hb⟩
  have HB1 := Lib.hid hb
  clear g0 g1
  obtain ⟨g0, g1⟩ := HF.out w1 hb
  clear hb
  by_cases hk : k ≠ 0
  · have q0 : (((k : Nat) : Int) != 0) = true := by rw [bne_iff_ne]; omega
    have HR : Hid (ak = k) := Lib.hid (by rw [HAK.out, if_pos hk])
    clear hk
    go_wp2
    go_ret
    exact ⟨by rw [HR.out]; rfl, HB0.out.trans (HB1.out.mono HB0.out.size)⟩
  · obtain rfl : k = 0 := by omega
    have HR : Hid (ak = k2) := Lib.hid (by rw [HAK.out, if_neg hk])
    clear hk
    go_wp2_with fail
    refine (HC2.out _ (HE1.out.keep HB1.out) (HHS.out.keep HB1.out)).mono ?_
    rintro e w2 ⟨rfl, hb⟩
    have HB2 := Lib.hid (HB1.out.trans (hb.mono HB1.out.size))
    clear hb
    go_wp2
    go_ret
    exact ⟨by rw [HR.out]; rfl, HB0.out.trans (HB2.out.mono HB0.out.size)⟩
set_option maxRecDepth 100000 in
theorem make_scr (n : Nat) (hn : n ≤ 10000000) (w : World) : (Instr.makeSlice 26 (.int .i64 (n : Int)) (.int .i64 (n : Int))).run Try.prog w = .ok (.slice (some ⟨w.heap.size, 0, none⟩) n n) (w.alloc (.cells (flat encI (List.replicate n 0)).toArray 3)) := by
  obtain ⟨i0, hi0, hz0, hz1, hz2⟩ := info_parts infoI
  have h := run_make (P := Try.prog) w 26 3 i0 (.int .i64 0) Try.underlying26 hi0 hz0 .i64 .i64 n n (by omega) (by omega) (by rw [hz2]; omega) (by omega)
  rw [h]
  simp only [Int.toNat_natCast, hz1, Nat.mul_one]
  rw [flat_rep encI 0 (.int .i64 0) 1 rfl]
  congr 2
  refine congrArg (fun c => Obj.cells c 3) (Array.toList_inj.1 ?_)
  rw [show (Value.int .i64 0).cells = #[.int .i64 0] from rfl, toList_madeCells_one]; simp
set_option maxHeartbeats 12800000 in
set_option maxRecDepth 100000 in
theorem pfired_any (n : Int) (a : Option Addr) (cap : Nat) (L : List E) (hL : L.length ≤ 100000) (b : Option Addr) (c : Nat) (D : List Int) (hD : D.length ≤ 1000) (sa : Option Addr) (sc : Nat) (A : List Int) (hA : A.length ≤ 100000) (t : Int) (ht : -1 ≤ t ∧ t ≤ 1) (w : World) (h : EsAt w a L) (ho : IsAt w b D) (hs : IsAt w sa A) :
    Calls Try.prog 58 #[gv n a L.length cap, .slice b D.length c, .slice sa A.length sc, .int .i64 t] w (GivesIE w (resV (setK n L D A) D (setS n t A) L) (resK (setK n L D A) D (setS n t A) L)) := by
  have HC := Lib.hid (fun w h ho hs => pckSet_any n a cap L hL b c D hD sa sc A hA w h ho hs)
  have HX1 : Hid (setK n L D A ≠ 0 → resK (setK n L D A) D (setS n t A) L = setK n L D A ∧ resV (setK n L D A) D (setS n t A) L = []) := Lib.hid fun h => res_err _ _ _ h
  have HX2 : Hid (setK n L D A = 0 → resK (setK n L D A) D (setS n t A) L = chK D (setS n t A) L ∧ resV (setK n L D A) D (setS n t A) L = chV D (setS n t A) L) := Lib.hid fun h => res_ok _ _ _ h
  have HNN : Hid (setK n L D A = 0 → (1 ≤ n ∧ n ≤ 12) ∧ ∀ i, i < A.length → 0 ≤ iAt A i ∧ iAt A i < n) := Lib.hid fun h => ⟨⟨(chkGD_zero (setK_zero h).1).1.lo, (chkGD_zero (setK_zero h).1).1.hi⟩, (setK_zero h).2⟩
  have HCH : Hid (setK n L D A = 0 → ∀ p q u, EsAt u a L → IsAt u b D → IsAt u p (setS n t A) → Calls Try.prog 50 #[gv n a L.length cap, .slice b D.length c, .slice p n.toNat q] u (GivesIE u (chV D (setS n t A) L) (chK D (setS n t A) L))) := Lib.hid fun hz p q u h1 h2 h3 => by
    obtain ⟨hR, hd, hl⟩ := chkGD_zero (setK_zero hz).1
    have hln : (setS n t A).length = n.toNat := setL_len _ _ _ _
    have h12 := hR.lo
    have h13 := hR.hi
    have hdv : Div (setS n t A) := ⟨by omega, by omega, fun z hz => by have := setL_rng n.toNat t A ht A.length z hz; omega⟩
    have := pchanged_gd n a cap L hL hR b c D hd hl p q (setS n t A) hdv (by omega) u h1 h2 h3
    rwa [hln] at this
  have HS0 : Hid (setL n.toNat t A 0 = List.replicate n.toNat 0) := Lib.hid rfl
  have HSS : Hid (∀ k, setL n.toNat t A (k + 1) = (setL n.toNat t A k).set (iAt A k).toNat t) := Lib.hid fun _ => rfl
  have HSL := Lib.hid (fun k => setL_len n.toNat t A k)
  have HSE : Hid (setL n.toNat t A A.length = setS n t A) := Lib.hid rfl
  unfold GivesN GivesIE gv at *
  generalize resK (setK n L D A) D (setS n t A) L = RK at *
  generalize resV (setK n L D A) D (setS n t A) L = RV at *
  generalize setK n L D A = k at *
  generalize chV D (setS n t A) L = X at *
  generalize chK D (setS n t A) L = K at *
  generalize setS n t A = SS at *
  generalize setL n.toNat t A = Z at *
  obtain ⟨W, hW⟩ : ∃ W, W = w.alloc (Obj.cells #[.int .i64 n, .slice a L.length cap] 24) := ⟨_, rfl⟩
  have hB0 : Below w.heap.size w W := by rw [hW]; exact (Below.refl _ w).alloc (Nat.le_refl _) _
  have hG : Blk W w.heap.size 24 #[.int .i64 n, .slice a L.length cap] := by rw [hW]; exact Blk.new _ _ _
  have hWs : W.heap.size = w.heap.size + 1 := by rw [hW]; simp
  have HW := Lib.hid hW
  have HWS := Lib.hid hWs
  have HB0 := Lib.hid hB0
  have HE1 := Lib.hid (h.keep hB0)
  have HF : Hid (∀ u, Below W.heap.size W u → u.cell? ⟨w.heap.size, 0, none⟩ = some (.int .i64 n) ∧ u.cell? ⟨w.heap.size, 1, none⟩ = some (.slice a L.length cap)) := Lib.hid fun u hu => ⟨(hG.below hu hG.lt).cell 0, (hG.below hu hG.lt).cell 1⟩
  obtain ⟨g0, g1⟩ := HF.out W (Below.refl _ _)
  have HHO := Lib.hid (ho.keep hB0)
  have HHS := Lib.hid (hs.keep hB0)
  clear ho hs hB0 hG hW hWs h
  go_enter Try.func58, Try.ntmps58
  go_wp2_with fail
  rw [← HW.out]
  refine (HC.out _ HE1.out HHO.out HHS.out).mono ?_
  rintro e w1 ⟨rfl, hb⟩
  have HB1 := Lib.hid hb
  clear g0 g1
  obtain ⟨g0, g1⟩ := HF.out w1 hb
  clear hb
  by_cases hk : k ≠ 0
  · have q0 : (((k : Nat) : Int) != 0) = true := by rw [bne_iff_ne]; omega
    have HR := Lib.hid (HX1.out hk)
    have HBE := Lib.hid (HB0.out.trans (HB1.out.mono HB0.out.size))
    clear hk
    go_wp2
    go_ret2
    exact ⟨none, 0, by rw [HR.out.1, HR.out.2]; rfl, by rw [HR.out.2]; exact RowAt.nil _ _ _ _, HBE.out⟩
  obtain rfl : k = 0 := by omega
  have HR := Lib.hid (HX2.out rfl)
  have HCH1 := Lib.hid (HCH.out rfl)
  have hn := (HNN.out rfl).1
  have HAR := Lib.hid (HNN.out rfl).2
  clear hk HC HX1 HX2 HCH HNN
  obtain ⟨N, rfl⟩ : ∃ N : Nat, n = N := ⟨n.toNat, by omega⟩
  rw [Int.toNat_natCast] at HCH1 HS0 HSL
  have hmk : (Instr.makeSlice 26 (.int .i64 (N : Int)) (.int .i64 (N : Int))).run Try.prog w1 = .ok (.slice (some ⟨w1.heap.size, 0, none⟩) N N) (w1.alloc (.cells (flat encI (List.replicate N 0)).toArray 3)) := make_scr N (by omega) _
  obtain ⟨W9, hW9⟩ : ∃ v, v = w1.alloc (.cells (flat encI (List.replicate N 0)).toArray 3) := ⟨_, rfl⟩
  obtain ⟨g, hgg⟩ : ∃ v, v = w1.heap.size := ⟨_, rfl⟩
  have HRB : Hid (RowB encI 3 W9 g (Z 0)) := Lib.hid (by rw [HS0.out, hW9, hgg]; exact RowB.new _ _ _ _)
  have HBL : Hid (Below W.heap.size W W9) := Lib.hid (by rw [hW9]; exact HB1.out.alloc HB1.out.size _)
  have HGE : Hid (W.heap.size ≤ g) := Lib.hid (by rw [hgg]; exact HB1.out.size)
  rw [← hW9, ← hgg] at hmk
  clear hW9 hgg
  go_wp2
  go_loopw [26] (fun x wr => ∃ i : Nat, i ≤ A.length ∧ x = .int .i64 i ∧ RowB encI 3 wr g (Z i) ∧ Below W.heap.size W wr) (fun x _ => A.length - (intOf x).toNat)
  case atStart => exact ⟨0, by omega, rfl, HRB.out, HBL.out⟩
  case round =>
    obtain ⟨i, hi, rfl, hp, hb⟩ := hrel
    have HBR := Lib.hid hb
    have HPW := Lib.hid hp
    by_cases hlt : i < A.length
    · have i1 : (i : Int) < (A.length : Int) := by omega
      have i2 : (0 : Int) ≤ (i : Int) := by omega
      have HLT := Lib.hid hlt
      obtain ⟨b1, o1, hb1, q1, x1⟩ := (HHS.out.keep hb).one i hlt
      subst hb1
      have har := HAR.out i hlt
      have HZI := Lib.hid (HSS.out i)
      have HQL := Lib.hid (HSL.out i)
      obtain ⟨u, hu⟩ : ∃ u : Nat, iAt A i = u := ⟨(iAt A i).toNat, by omega⟩
      rw [hu] at x1 har HZI
      rw [Int.toNat_natCast] at HZI
      have j1 : (u : Int) < (N : Int) := by omega
      have j2 : (0 : Int) ≤ (u : Int) := by omega
      have s1 := hp.cell u (by rw [HQL.out]; omega)
      have s2 : wr.frozen? ⟨g, u, none⟩ = false := Blk.frozen hp u
      have HPN : Hid (RowB encI 3 (wr.setCell ⟨g, u, none⟩ (.int .i64 t)) g (Z (i + 1))) := Lib.hid (by rw [HZI.out]; exact hp.set u t)
      have HBN : Hid (Below W.heap.size W (wr.setCell ⟨g, u, none⟩ (.int .i64 t))) := Lib.hid (hb.setCell (p := ⟨g, u, none⟩) HGE.out _)
      generalize iAt (Z i) u = old at s1
      clear hp hb hu hlt har
      go_wp2
      go_roundw
      case rel => exact ⟨i + 1, by have := HLT.out; omega, by go_num, HPN.out, HBN.out⟩
      case measure => have := HLT.out; simp [intOf]; omega
    · obtain rfl : i = A.length := by omega
      have i1 : ¬ (A.length : Int) < (A.length : Int) := by omega
      rw [HSE.out] at hp
      have HPS : Hid (IsAt wr (some ⟨g, 0, none⟩) SS) := Lib.hid (hp.row encI_len)
      clear hp hb HPW g0 g1
      obtain ⟨g0, g1⟩ := HF.out wr HBR.out
      go_wp2_with fail
      refine (HCH1.out (some ⟨g, 0, none⟩) N wr (HE1.out.keep HBR.out) (HHO.out.keep HBR.out) HPS.out).mono ?_
      rintro e w3 ⟨p9, q9, rfl, hr9, hb9⟩
      have HBE := Lib.hid (HB0.out.trans ((HBR.out.trans (hb9.mono HBR.out.size)).mono HB0.out.size))
      have HR9 := Lib.hid hr9
      clear hb9 hr9
      go_wp2
      go_ret2
      first | exact ⟨p9, ⟨q9, by rw [HR.out.1, HR.out.2]; rfl⟩, by rw [HR.out.2]; exact HR9.out, HBE.out⟩ | exact ⟨p9, q9, by rw [HR.out.1, HR.out.2]; rfl, by rw [HR.out.2]; exact HR9.out, HBE.out⟩
set_option maxHeartbeats 12800000 in
set_option maxRecDepth 100000 in
theorem pFire_any (n : Int) (a : Option Addr) (cap : Nat) (L : List E) (hL : L.length ≤ 100000) (b : Option Addr) (c : Nat) (D : List Int) (hD : D.length ≤ 1000) (v : Int) (w : World) (h : EsAt w a L) (ho : IsAt w b D) :
    Calls Try.prog 22 #[gv n a L.length cap, .slice b D.length c, .int .i64 v] w (GivesIE w (resV (setK n L D [v]) D (setS n (1) [v]) L) (resK (setK n L D [v]) D (setS n (1) [v]) L)) := by
  obtain ⟨W, hW⟩ : ∃ W, W = w.alloc (Obj.cells #[.int .i64 n, .slice a L.length cap] 24) := ⟨_, rfl⟩
  obtain ⟨W2, hW2⟩ : ∃ V, V = W.alloc (Obj.cells #[.int .i64 v] 3) := ⟨_, rfl⟩
  have hB0 : Below w.heap.size w W := by rw [hW]; exact (Below.refl _ w).alloc (Nat.le_refl _) _
  have hB1 : Below W.heap.size W W2 := by rw [hW2]; exact (Below.refl _ W).alloc (Nat.le_refl _) _
  have hB2 : Below w.heap.size w W2 := hB0.trans (hB1.mono hB0.size)
  have hWs : W.heap.size = w.heap.size + 1 := by rw [hW]; simp
  have hG0 : Blk W w.heap.size 24 #[.int .i64 n, .slice a L.length cap] := by rw [hW]; exact Blk.new _ _ _
  have g0 := hG0.cell 0
  have g1 := hG0.cell 1
  simp only [List.getElem?_toArray, List.getElem?_cons_zero, List.getElem?_cons_succ] at g0 g1
  have hv : IsAt W2 (some ⟨w.heap.size + 1, 0, none⟩) [v] := by rw [hW2, ← hWs]; exact (RowB.new encI W 3 [v]).row encI_len
  have HC : Hid (Calls Try.prog 58 #[gv n a L.length cap, .slice b D.length c, .slice (some ⟨w.heap.size + 1, 0, none⟩) 1 1, .int .i64 (1)] W2 (GivesIE W2 (resV (setK n L D [v]) D (setS n (1) [v]) L) (resK (setK n L D [v]) D (setS n (1) [v]) L))) := Lib.hid (pfired_any n a cap L hL b c D hD (some ⟨w.heap.size + 1, 0, none⟩) 1 [v] (by simp) (1) (by omega) W2 (h.keep hB2) (ho.keep hB2) hv)
  have HW := Lib.hid hW
  have HW2 := Lib.hid hW2
  have HB2 := Lib.hid hB2
  unfold GivesIE gv at *
  generalize resV (setK n L D [v]) D (setS n (1) [v]) L = X at *
  generalize resK (setK n L D [v]) D (setS n (1) [v]) L = K at *
  rw [hW] at g0 g1
  clear h ho hW hW2 hB0 hB1 hB2 hWs hG0 hv
  go_enter Try.func22, Try.ntmps22
  go_wp2_with fail
  rw [← HW.out, ← HW2.out]
  refine HC.out.mono ?_
  rintro e w1 ⟨p9, q9, rfl, hr, hb⟩
  have HR := Lib.hid hr
  have HB := Lib.hid (HB2.out.trans (hb.mono HB2.out.size))
  clear hr hb
  go_wp2
  go_ret2
  exact ⟨p9, q9, rfl, HR.out, HB.out⟩
set_option maxHeartbeats 12800000 in
set_option maxRecDepth 100000 in
theorem pBorrow_any (n : Int) (a : Option Addr) (cap : Nat) (L : List E) (hL : L.length ≤ 100000) (b : Option Addr) (c : Nat) (D : List Int) (hD : D.length ≤ 1000) (v : Int) (w : World) (h : EsAt w a L) (ho : IsAt w b D) :
    Calls Try.prog 24 #[gv n a L.length cap, .slice b D.length c, .int .i64 v] w (GivesIE w (resV (setK n L D [v]) D (setS n (-1) [v]) L) (resK (setK n L D [v]) D (setS n (-1) [v]) L)) := by
  obtain ⟨W, hW⟩ : ∃ W, W = w.alloc (Obj.cells #[.int .i64 n, .slice a L.length cap] 24) := ⟨_, rfl⟩
  obtain ⟨W2, hW2⟩ : ∃ V, V = W.alloc (Obj.cells #[.int .i64 v] 3) := ⟨_, rfl⟩
  have hB0 : Below w.heap.size w W := by rw [hW]; exact (Below.refl _ w).alloc (Nat.le_refl _) _
  have hB1 : Below W.heap.size W W2 := by rw [hW2]; exact (Below.refl _ W).alloc (Nat.le_refl _) _
  have hB2 : Below w.heap.size w W2 := hB0.trans (hB1.mono hB0.size)
  have hWs : W.heap.size = w.heap.size + 1 := by rw [hW]; simp
  have hG0 : Blk W w.heap.size 24 #[.int .i64 n, .slice a L.length cap] := by rw [hW]; exact Blk.new _ _ _
  have g0 := hG0.cell 0
  have g1 := hG0.cell 1
  simp only [List.getElem?_toArray, List.getElem?_cons_zero, List.getElem?_cons_succ] at g0 g1
  have hv : IsAt W2 (some ⟨w.heap.size + 1, 0, none⟩) [v] := by rw [hW2, ← hWs]; exact (RowB.new encI W 3 [v]).row encI_len
  have HC : Hid (Calls Try.prog 58 #[gv n a L.length cap, .slice b D.length c, .slice (some ⟨w.heap.size + 1, 0, none⟩) 1 1, .int .i64 (-1)] W2 (GivesIE W2 (resV (setK n L D [v]) D (setS n (-1) [v]) L) (resK (setK n L D [v]) D (setS n (-1) [v]) L))) := Lib.hid (pfired_any n a cap L hL b c D hD (some ⟨w.heap.size + 1, 0, none⟩) 1 [v] (by simp) (-1) (by omega) W2 (h.keep hB2) (ho.keep hB2) hv)
  have HW := Lib.hid hW
  have HW2 := Lib.hid hW2
  have HB2 := Lib.hid hB2
  unfold GivesIE gv at *
  generalize resV (setK n L D [v]) D (setS n (-1) [v]) L = X at *
  generalize resK (setK n L D [v]) D (setS n (-1) [v]) L = K at *
  rw [hW] at g0 g1
  clear h ho hW hW2 hB0 hB1 hB2 hWs hG0 hv
  go_enter Try.func24, Try.ntmps24
  go_wp2_with fail
  rw [← HW.out, ← HW2.out]
  refine HC.out.mono ?_
  rintro e w1 ⟨p9, q9, rfl, hr, hb⟩
  have HR := Lib.hid hr
  have HB := Lib.hid (HB2.out.trans (hb.mono HB2.out.size))
  clear hr hb
  go_wp2
  go_ret2
  exact ⟨p9, q9, rfl, HR.out, HB.out⟩
set_option maxHeartbeats 12800000 in
set_option maxRecDepth 100000 in
theorem pFireSet_any (n : Int) (a : Option Addr) (cap : Nat) (L : List E) (hL : L.length ≤ 100000) (b : Option Addr) (c : Nat) (D : List Int) (hD : D.length ≤ 1000) (sa : Option Addr) (sc : Nat) (A : List Int) (hA : A.length ≤ 100000) (w : World) (h : EsAt w a L) (ho : IsAt w b D) (hs : IsAt w sa A) :
    Calls Try.prog 26 #[gv n a L.length cap, .slice b D.length c, .slice sa A.length sc] w (GivesIE w (resV (setK n L D A) D (setS n 1 A) L) (resK (setK n L D A) D (setS n 1 A) L)) := by
  have HC := Lib.hid (fun w h ho hs => pfired_any n a cap L hL b c D hD sa sc A hA 1 (by omega) w h ho hs)
  unfold GivesIE gv at *
  generalize resV (setK n L D A) D (setS n 1 A) L = X at *
  generalize resK (setK n L D A) D (setS n 1 A) L = K at *
  obtain ⟨W, hW⟩ : ∃ W, W = w.alloc (Obj.cells #[.int .i64 n, .slice a L.length cap] 24) := ⟨_, rfl⟩
  have hB0 : Below w.heap.size w W := by rw [hW]; exact (Below.refl _ w).alloc (Nat.le_refl _) _
  have hG : Blk W w.heap.size 24 #[.int .i64 n, .slice a L.length cap] := by rw [hW]; exact Blk.new _ _ _
  have hWs : W.heap.size = w.heap.size + 1 := by rw [hW]; simp
  have HW := Lib.hid hW
  have HWS := Lib.hid hWs
  have HB0 := Lib.hid hB0
  have HE1 := Lib.hid (h.keep hB0)
  have HF : Hid (∀ u, Below W.heap.size W u → u.cell? ⟨w.heap.size, 0, none⟩ = some (.int .i64 n) ∧ u.cell? ⟨w.heap.size, 1, none⟩ = some (.slice a L.length cap)) := Lib.hid fun u hu => ⟨(hG.below hu hG.lt).cell 0, (hG.below hu hG.lt).cell 1⟩
  obtain ⟨g0, g1⟩ := HF.out W (Below.refl _ _)
  have HHO := Lib.hid (ho.keep hB0)
  have HHS := Lib.hid (hs.keep hB0)
  clear ho hs hB0 hG hW hWs h
  go_enter Try.func26, Try.ntmps26
  go_wp2_with fail
  rw [← HW.out]
  refine (HC.out _ HE1.out HHO.out HHS.out).mono ?_
  rintro e w1 ⟨p9, q9, rfl, hr, hb⟩
  have HR := Lib.hid hr
  have HB := Lib.hid (HB0.out.trans (hb.mono HB0.out.size))
  clear hr hb
  go_wp2
  go_ret2
  exact ⟨p9, q9, rfl, HR.out, HB.out⟩
end Go.Proofs.Ytgejkgeojjgclaa
