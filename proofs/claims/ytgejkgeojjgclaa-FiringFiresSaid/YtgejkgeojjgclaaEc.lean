/- The laws Fires, Legal and Plays. -/
import Derived.Test.YtgejkgeojjgclaaEa
import Derived.Test.YtgejkgeojjgclaaFx
import Derived.Test.YtgejkgeojjgclaaFy
namespace Go.Proofs.Ytgejkgeojjgclaa
open Go.RowKit Go.Proofs.Gr Go.Proofs.Cp
attribute [local go_sem] Oper.semAt_some

theorem chV_len (Q S : List Int) (L : List E) : (chV Q S L).length ≤ Q.length := by
  unfold chV
  split
  · simp
  · rw [chD_len]; exact Nat.le_refl _
theorem plyR_len (n : Int) (L : List E) (A : List Int) : ∀ (i : Nat) (Q : List Int), (plyR n L A i Q).1.length ≤ Q.length := by
  induction A with
  | nil => intro i Q; exact Nat.le_refl _
  | cons v A ih =>
    intro i Q
    rw [plyR]
    split
    · simp
    · split
      · simp
      · exact Nat.le_trans (ih _ _) (chV_len _ _ _)
theorem plaR_len (n : Int) (L : List E) (D A : List Int) : (plaR n L D A).1.length ≤ D.length := by
  unfold plaR
  split
  · simp
  · split
    · simp
    · exact plyR_len _ _ _ _ _
theorem couV_len (n : Int) (L : List E) (A : List Int) : (couV n L A).length ≤ 1000 := by
  unfold couV
  split
  · simp
  · rename_i h
    have h0 : chkG n L = 0 := by
      unfold couK at h
      by_cases h1 : chkG n L ≠ 0
      · rw [if_pos h1] at h; omega
      · omega
    have := chkG_n h0
    rw [couL_len]; omega
set_option maxHeartbeats 12800000 in
set_option maxRecDepth 100000 in
theorem fires_any (n : Int) (a : Option Addr) (cap : Nat) (L : List E) (b : Option Addr) (c : Nat) (D : List Int) (sa : Option Addr) (sc : Nat) (A : List Int) (w : World) (h : EsAt w a L) (ho : IsAt w b D) (hs : IsAt w sa A) :
    Calls Try.prog 5 #[gv n a L.length cap, .slice b D.length c, .slice sa A.length sc] w (fun e w' => e = .returned (.bool true) ∧ Below w.heap.size w w') := by
  have HAW := Lib.hid (fun w => awake_any w)
  by_cases hf : fewD n L D = false
  · have HFW : Hid (∀ u, EsAt u a L → Calls Try.prog 12 #[gv n a L.length cap, .slice b D.length c] u (fun e w' => e = .returned (.bool false) ∧ Below u.heap.size u w')) := Lib.hid fun u h => by
      have := rFewD_any n a cap L b c D u h
      rwa [hf] at this
    clear hf
    unfold gv at *
    obtain ⟨W, hW⟩ : ∃ W, W = w.alloc (Obj.cells #[.int .i64 n, .slice a L.length cap] 24) := ⟨_, rfl⟩
    have hB0 : Below w.heap.size w W := by rw [hW]; exact (Below.refl _ w).alloc (Nat.le_refl _) _
    have hG : Blk W w.heap.size 24 #[.int .i64 n, .slice a L.length cap] := by rw [hW]; exact Blk.new _ _ _
    have HW := Lib.hid hW
    have HSW : Hid (W.heap.size = w.heap.size + 1) := Lib.hid (by rw [hW]; simp)
    have HB0 := Lib.hid hB0
    have HF : Hid (∀ u, Below W.heap.size W u → u.cell? ⟨w.heap.size, 0, none⟩ = some (.int .i64 n) ∧ u.cell? ⟨w.heap.size, 1, none⟩ = some (.slice a L.length cap)) := Lib.hid fun u hu => ⟨(hG.below hu hG.lt).cell 0, (hG.below hu hG.lt).cell 1⟩
    have HB : Hid (Below W.heap.size W W) := Lib.hid (Below.refl _ _)
    have PEE := Lib.hid (h.keep hB0)
    have PD := Lib.hid (ho.keep hB0)
    have PS := Lib.hid (hs.keep hB0)
    clear hW hB0 hG h ho hs
    go_enter Try.func5, Try.ntmps5
    go_wp2_with fail
    rw [← HW.out]
    refine (HFW.out W PEE.out).mono ?_
    rintro e w0 ⟨rfl, hb⟩
    replace PEE := Lib.hid (PEE.out.keep hb)
    replace PD := Lib.hid (PD.out.keep hb)
    replace PS := Lib.hid (PS.out.keep hb)
    replace HB := Lib.hid (HB.out.trans (hb.mono HB.out.size))
    clear hb
    obtain ⟨g0, g1⟩ := HF.out w0 HB.out
    go_wp2_with fail
    refine (HAW.out w0).mono ?_
    rintro e w1 ⟨rfl, hb⟩
    replace PEE := Lib.hid (PEE.out.keep hb)
    replace PD := Lib.hid (PD.out.keep hb)
    replace PS := Lib.hid (PS.out.keep hb)
    replace HB := Lib.hid (HB.out.trans (hb.mono HB.out.size))
    clear hb
    clear g0 g1
    obtain ⟨g0, g1⟩ := HF.out w1 HB.out
    go_wp2
    go_ret
    exact ⟨rfl, HB0.out.trans (HB.out.mono HB0.out.size)⟩
  have hf : fewD n L D = true := by cases hh : fewD n L D with | true => rfl | false => exact absurd hh hf
  have HFW : Hid (∀ u, EsAt u a L → Calls Try.prog 12 #[gv n a L.length cap, .slice b D.length c] u (fun e w' => e = .returned (.bool true) ∧ Below u.heap.size u w')) := Lib.hid fun u h => by
    have := rFewD_any n a cap L b c D u h
    rwa [hf] at this
  obtain ⟨hl, hd⟩ := few_both hf
  clear hf
  by_cases hg : 20 < A.length
  · have i9 : (A.length : Int) > 20 := by omega
    clear hg hl hd
    unfold gv at *
    obtain ⟨W, hW⟩ : ∃ W, W = w.alloc (Obj.cells #[.int .i64 n, .slice a L.length cap] 24) := ⟨_, rfl⟩
    have hB0 : Below w.heap.size w W := by rw [hW]; exact (Below.refl _ w).alloc (Nat.le_refl _) _
    have hG : Blk W w.heap.size 24 #[.int .i64 n, .slice a L.length cap] := by rw [hW]; exact Blk.new _ _ _
    have HW := Lib.hid hW
    have HSW : Hid (W.heap.size = w.heap.size + 1) := Lib.hid (by rw [hW]; simp)
    have HB0 := Lib.hid hB0
    have HF : Hid (∀ u, Below W.heap.size W u → u.cell? ⟨w.heap.size, 0, none⟩ = some (.int .i64 n) ∧ u.cell? ⟨w.heap.size, 1, none⟩ = some (.slice a L.length cap)) := Lib.hid fun u hu => ⟨(hG.below hu hG.lt).cell 0, (hG.below hu hG.lt).cell 1⟩
    have HB : Hid (Below W.heap.size W W) := Lib.hid (Below.refl _ _)
    have PEE := Lib.hid (h.keep hB0)
    have PD := Lib.hid (ho.keep hB0)
    have PS := Lib.hid (hs.keep hB0)
    clear hW hB0 hG h ho hs
    go_enter Try.func5, Try.ntmps5
    go_wp2_with fail
    rw [← HW.out]
    refine (HFW.out W PEE.out).mono ?_
    rintro e w0 ⟨rfl, hb⟩
    replace PEE := Lib.hid (PEE.out.keep hb)
    replace PD := Lib.hid (PD.out.keep hb)
    replace PS := Lib.hid (PS.out.keep hb)
    replace HB := Lib.hid (HB.out.trans (hb.mono HB.out.size))
    clear hb
    obtain ⟨g0, g1⟩ := HF.out w0 HB.out
    go_wp2_with fail
    refine (HAW.out w0).mono ?_
    rintro e w1 ⟨rfl, hb⟩
    replace PEE := Lib.hid (PEE.out.keep hb)
    replace PD := Lib.hid (PD.out.keep hb)
    replace PS := Lib.hid (PS.out.keep hb)
    replace HB := Lib.hid (HB.out.trans (hb.mono HB.out.size))
    clear hb
    clear g0 g1
    obtain ⟨g0, g1⟩ := HF.out w1 HB.out
    go_wp2
    go_ret
    exact ⟨rfl, HB0.out.trans (HB.out.mono HB0.out.size)⟩
  have hg : A.length ≤ 20 := by omega
  have i9 : ¬ (A.length : Int) > 20 := by omega
  by_cases h0 : A.length = 0
  · have i0 : ¬ (A.length : Int) > 0 := by omega
    have HP1 := Lib.hid (fun u h ho => pFire_any n a cap L (by omega) b c D (by omega) (-1) u h ho)
    have HR1 := Lib.hid (fun u h ho => rFire_any n a cap L (by omega) b c D (by omega) (-1) u h ho)
    have LX1 : Hid ((resV (setK n L D [(-1)]) D (setS n (1) [(-1)]) L).length ≤ 1000) := Lib.hid (by have := resV_len (setK n L D [(-1)]) D (setS n (1) [(-1)]) L; omega)
    have HP2 := Lib.hid (fun u h ho => pBorrow_any n a cap L (by omega) b c D (by omega) (-1) u h ho)
    have HR2 := Lib.hid (fun u h ho => rBorrow_any n a cap L (by omega) b c D (by omega) (-1) u h ho)
    have LX2 : Hid ((resV (setK n L D [(-1)]) D (setS n (-1) [(-1)]) L).length ≤ 1000) := Lib.hid (by have := resV_len (setK n L D [(-1)]) D (setS n (-1) [(-1)]) L; omega)
    have HP3 := Lib.hid (fun u h ho hs => pFireSet_any n a cap L (by omega) b c D (by omega) sa sc A (by omega) u h ho hs)
    have HR3 := Lib.hid (fun u h ho hs => rFireSet_any n a cap L (by omega) b c D (by omega) sa sc A (by omega) u h ho hs)
    have LX3 : Hid ((resV (setK n L D A) D (setS n 1 A) L).length ≤ 1000) := Lib.hid (by have := resV_len (setK n L D A) D (setS n 1 A) L; omega)
    have HSM := Lib.hid same_true
    unfold GivesIE gv at *
    generalize resV (setK n L D [(-1)]) D (setS n (1) [(-1)]) L = X1 at *
    generalize resK (setK n L D [(-1)]) D (setS n (1) [(-1)]) L = K1 at *
    generalize resV (setK n L D [(-1)]) D (setS n (-1) [(-1)]) L = X2 at *
    generalize resK (setK n L D [(-1)]) D (setS n (-1) [(-1)]) L = K2 at *
    generalize resV (setK n L D A) D (setS n 1 A) L = X3 at *
    generalize resK (setK n L D A) D (setS n 1 A) L = K3 at *
    clear hl hd hg
    clear h0
    obtain ⟨W, hW⟩ : ∃ W, W = w.alloc (Obj.cells #[.int .i64 n, .slice a L.length cap] 24) := ⟨_, rfl⟩
    have hB0 : Below w.heap.size w W := by rw [hW]; exact (Below.refl _ w).alloc (Nat.le_refl _) _
    have hG : Blk W w.heap.size 24 #[.int .i64 n, .slice a L.length cap] := by rw [hW]; exact Blk.new _ _ _
    have HW := Lib.hid hW
    have HSW : Hid (W.heap.size = w.heap.size + 1) := Lib.hid (by rw [hW]; simp)
    have HB0 := Lib.hid hB0
    have HF : Hid (∀ u, Below W.heap.size W u → u.cell? ⟨w.heap.size, 0, none⟩ = some (.int .i64 n) ∧ u.cell? ⟨w.heap.size, 1, none⟩ = some (.slice a L.length cap)) := Lib.hid fun u hu => ⟨(hG.below hu hG.lt).cell 0, (hG.below hu hG.lt).cell 1⟩
    have HB : Hid (Below W.heap.size W W) := Lib.hid (Below.refl _ _)
    have PEE := Lib.hid (h.keep hB0)
    have PD := Lib.hid (ho.keep hB0)
    have PS := Lib.hid (hs.keep hB0)
    clear hW hB0 hG h ho hs
    go_enter Try.func5, Try.ntmps5
    go_wp2_with fail
    rw [← HW.out]
    refine (HFW.out W PEE.out).mono ?_
    rintro e w0 ⟨rfl, hb⟩
    replace PEE := Lib.hid (PEE.out.keep hb)
    replace PD := Lib.hid (PD.out.keep hb)
    replace PS := Lib.hid (PS.out.keep hb)
    replace HB := Lib.hid (HB.out.trans (hb.mono HB.out.size))
    clear hb
    obtain ⟨g0, g1⟩ := HF.out w0 HB.out
    go_wp2_with fail
    refine (HP1.out w0 PEE.out PD.out).mono ?_
    rintro e w1 ⟨p1, q1, rfl, hpY1, hb⟩
    replace PEE := Lib.hid (PEE.out.keep hb)
    replace PD := Lib.hid (PD.out.keep hb)
    replace PS := Lib.hid (PS.out.keep hb)
    replace HB := Lib.hid (HB.out.trans (hb.mono HB.out.size))
    clear hb
    have PY1 := Lib.hid hpY1
    clear hpY1
    clear g0 g1
    obtain ⟨g0, g1⟩ := HF.out w1 HB.out
    go_wp2_with fail
    refine (HR1.out w1 PEE.out PD.out).mono ?_
    rintro e w2 ⟨p2, q2, rfl, hpY2, hb⟩
    replace PEE := Lib.hid (PEE.out.keep hb)
    replace PD := Lib.hid (PD.out.keep hb)
    replace PS := Lib.hid (PS.out.keep hb)
    replace PY1 := Lib.hid (PY1.out.keep hb)
    replace HB := Lib.hid (HB.out.trans (hb.mono HB.out.size))
    clear hb
    have PY2 := Lib.hid hpY2
    clear hpY2
    clear g0 g1
    obtain ⟨g0, g1⟩ := HF.out w2 HB.out
    go_wp2_with fail
    refine (HSM.out w2 _ _ _ _ X1 LX1.out PY1.out PY2.out).mono ?_
    rintro e w3 ⟨rfl, hb⟩
    clear PY1
    clear PY2
    replace PEE := Lib.hid (PEE.out.keep hb)
    replace PD := Lib.hid (PD.out.keep hb)
    replace PS := Lib.hid (PS.out.keep hb)
    replace HB := Lib.hid (HB.out.trans (hb.mono HB.out.size))
    clear hb
    clear g0 g1
    obtain ⟨g0, g1⟩ := HF.out w3 HB.out
    go_wp2_with fail
    refine (HP2.out w3 PEE.out PD.out).mono ?_
    rintro e w4 ⟨p3, q3, rfl, hpZ1, hb⟩
    replace PEE := Lib.hid (PEE.out.keep hb)
    replace PD := Lib.hid (PD.out.keep hb)
    replace PS := Lib.hid (PS.out.keep hb)
    replace HB := Lib.hid (HB.out.trans (hb.mono HB.out.size))
    clear hb
    have PZ1 := Lib.hid hpZ1
    clear hpZ1
    clear g0 g1
    obtain ⟨g0, g1⟩ := HF.out w4 HB.out
    go_wp2_with fail
    refine (HR2.out w4 PEE.out PD.out).mono ?_
    rintro e w5 ⟨p4, q4, rfl, hpZ2, hb⟩
    replace PEE := Lib.hid (PEE.out.keep hb)
    replace PD := Lib.hid (PD.out.keep hb)
    replace PS := Lib.hid (PS.out.keep hb)
    replace PZ1 := Lib.hid (PZ1.out.keep hb)
    replace HB := Lib.hid (HB.out.trans (hb.mono HB.out.size))
    clear hb
    have PZ2 := Lib.hid hpZ2
    clear hpZ2
    clear g0 g1
    obtain ⟨g0, g1⟩ := HF.out w5 HB.out
    go_wp2_with fail
    refine (HP3.out w5 PEE.out PD.out PS.out).mono ?_
    rintro e w6 ⟨p5, q5, rfl, hpU1, hb⟩
    replace PEE := Lib.hid (PEE.out.keep hb)
    replace PD := Lib.hid (PD.out.keep hb)
    replace PS := Lib.hid (PS.out.keep hb)
    replace PZ1 := Lib.hid (PZ1.out.keep hb)
    replace PZ2 := Lib.hid (PZ2.out.keep hb)
    replace HB := Lib.hid (HB.out.trans (hb.mono HB.out.size))
    clear hb
    have PU1 := Lib.hid hpU1
    clear hpU1
    clear g0 g1
    obtain ⟨g0, g1⟩ := HF.out w6 HB.out
    go_wp2_with fail
    refine (HR3.out w6 PEE.out PD.out PS.out).mono ?_
    rintro e w7 ⟨p6, q6, rfl, hpU2, hb⟩
    clear PEE
    clear PD
    clear PS
    replace PZ1 := Lib.hid (PZ1.out.keep hb)
    replace PZ2 := Lib.hid (PZ2.out.keep hb)
    replace PU1 := Lib.hid (PU1.out.keep hb)
    replace HB := Lib.hid (HB.out.trans (hb.mono HB.out.size))
    clear hb
    have PU2 := Lib.hid hpU2
    clear hpU2
    clear g0 g1
    obtain ⟨g0, g1⟩ := HF.out w7 HB.out
    go_wp2_with fail
    refine (HSM.out w7 _ _ _ _ X2 LX2.out PZ1.out PZ2.out).mono ?_
    rintro e w8 ⟨rfl, hb⟩
    clear PZ1
    clear PZ2
    replace PU1 := Lib.hid (PU1.out.keep hb)
    replace PU2 := Lib.hid (PU2.out.keep hb)
    replace HB := Lib.hid (HB.out.trans (hb.mono HB.out.size))
    clear hb
    clear g0 g1
    obtain ⟨g0, g1⟩ := HF.out w8 HB.out
    go_wp2_with fail
    refine (HSM.out w8 _ _ _ _ X3 LX3.out PU1.out PU2.out).mono ?_
    rintro e w9 ⟨rfl, hb⟩
    clear PU1
    clear PU2
    replace HB := Lib.hid (HB.out.trans (hb.mono HB.out.size))
    clear hb
    clear g0 g1
    obtain ⟨g0, g1⟩ := HF.out w9 HB.out
    go_wp2_with fail
    refine (HAW.out w9).mono ?_
    rintro e w10 ⟨rfl, hb⟩
    replace HB := Lib.hid (HB.out.trans (hb.mono HB.out.size))
    clear hb
    clear g0 g1
    obtain ⟨g0, g1⟩ := HF.out w10 HB.out
    go_wp2
    go_ret
    exact ⟨rfl, HB0.out.trans (HB.out.mono HB0.out.size)⟩
  have h0 : 0 < A.length := by omega
  have i0 : (A.length : Int) > 0 := by omega
  have i00 : (0 : Int) < (A.length : Int) := by omega
  have HPOS := Lib.hid h0
  obtain ⟨b1, o1, rfl, -, -⟩ := hs.one 0 h0
  have HP1 := Lib.hid (fun u h ho => pFire_any n a cap L (by omega) b c D (by omega) (iAt A 0) u h ho)
  have HR1 := Lib.hid (fun u h ho => rFire_any n a cap L (by omega) b c D (by omega) (iAt A 0) u h ho)
  have LX1 : Hid ((resV (setK n L D [(iAt A 0)]) D (setS n (1) [(iAt A 0)]) L).length ≤ 1000) := Lib.hid (by have := resV_len (setK n L D [(iAt A 0)]) D (setS n (1) [(iAt A 0)]) L; omega)
  have HP2 := Lib.hid (fun u h ho => pBorrow_any n a cap L (by omega) b c D (by omega) (iAt A 0) u h ho)
  have HR2 := Lib.hid (fun u h ho => rBorrow_any n a cap L (by omega) b c D (by omega) (iAt A 0) u h ho)
  have LX2 : Hid ((resV (setK n L D [(iAt A 0)]) D (setS n (-1) [(iAt A 0)]) L).length ≤ 1000) := Lib.hid (by have := resV_len (setK n L D [(iAt A 0)]) D (setS n (-1) [(iAt A 0)]) L; omega)
  have HP3 := Lib.hid (fun u h ho hs => pFireSet_any n a cap L (by omega) b c D (by omega) (some ⟨b1, o1, none⟩) sc A (by omega) u h ho hs)
  have HR3 := Lib.hid (fun u h ho hs => rFireSet_any n a cap L (by omega) b c D (by omega) (some ⟨b1, o1, none⟩) sc A (by omega) u h ho hs)
  have LX3 : Hid ((resV (setK n L D A) D (setS n 1 A) L).length ≤ 1000) := Lib.hid (by have := resV_len (setK n L D A) D (setS n 1 A) L; omega)
  have HSM := Lib.hid same_true
  unfold GivesIE gv at *
  generalize resV (setK n L D [(iAt A 0)]) D (setS n (1) [(iAt A 0)]) L = X1 at *
  generalize resK (setK n L D [(iAt A 0)]) D (setS n (1) [(iAt A 0)]) L = K1 at *
  generalize resV (setK n L D [(iAt A 0)]) D (setS n (-1) [(iAt A 0)]) L = X2 at *
  generalize resK (setK n L D [(iAt A 0)]) D (setS n (-1) [(iAt A 0)]) L = K2 at *
  generalize resV (setK n L D A) D (setS n 1 A) L = X3 at *
  generalize resK (setK n L D A) D (setS n 1 A) L = K3 at *
  clear hl hd hg
  clear h0
  obtain ⟨W, hW⟩ : ∃ W, W = w.alloc (Obj.cells #[.int .i64 n, .slice a L.length cap] 24) := ⟨_, rfl⟩
  have hB0 : Below w.heap.size w W := by rw [hW]; exact (Below.refl _ w).alloc (Nat.le_refl _) _
  have hG : Blk W w.heap.size 24 #[.int .i64 n, .slice a L.length cap] := by rw [hW]; exact Blk.new _ _ _
  have HW := Lib.hid hW
  have HSW : Hid (W.heap.size = w.heap.size + 1) := Lib.hid (by rw [hW]; simp)
  have HB0 := Lib.hid hB0
  have HF : Hid (∀ u, Below W.heap.size W u → u.cell? ⟨w.heap.size, 0, none⟩ = some (.int .i64 n) ∧ u.cell? ⟨w.heap.size, 1, none⟩ = some (.slice a L.length cap)) := Lib.hid fun u hu => ⟨(hG.below hu hG.lt).cell 0, (hG.below hu hG.lt).cell 1⟩
  have HB : Hid (Below W.heap.size W W) := Lib.hid (Below.refl _ _)
  have PEE := Lib.hid (h.keep hB0)
  have PD := Lib.hid (ho.keep hB0)
  have PS := Lib.hid (hs.keep hB0)
  clear hW hB0 hG h ho hs
  go_enter Try.func5, Try.ntmps5
  go_wp2_with fail
  rw [← HW.out]
  refine (HFW.out W PEE.out).mono ?_
  rintro e w0 ⟨rfl, hb⟩
  replace PEE := Lib.hid (PEE.out.keep hb)
  replace PD := Lib.hid (PD.out.keep hb)
  replace PS := Lib.hid (PS.out.keep hb)
  replace HB := Lib.hid (HB.out.trans (hb.mono HB.out.size))
  clear hb
  obtain ⟨g0, g1⟩ := HF.out w0 HB.out
  obtain ⟨b9, o9, e9, -, x1⟩ := PS.out.one 0 HPOS.out
  injection e9 with e9
  injection e9 with e8 e7
  subst e8 e7
  rw [Nat.add_zero] at x1
  generalize iAt A 0 = v0 at *
  go_wp2_with fail
  refine (HP1.out w0 PEE.out PD.out).mono ?_
  rintro e w1 ⟨p1, q1, rfl, hpY1, hb⟩
  replace PEE := Lib.hid (PEE.out.keep hb)
  replace PD := Lib.hid (PD.out.keep hb)
  replace PS := Lib.hid (PS.out.keep hb)
  replace HB := Lib.hid (HB.out.trans (hb.mono HB.out.size))
  clear hb
  have PY1 := Lib.hid hpY1
  clear hpY1
  clear g0 g1
  obtain ⟨g0, g1⟩ := HF.out w1 HB.out
  clear x1
  go_wp2_with fail
  refine (HR1.out w1 PEE.out PD.out).mono ?_
  rintro e w2 ⟨p2, q2, rfl, hpY2, hb⟩
  replace PEE := Lib.hid (PEE.out.keep hb)
  replace PD := Lib.hid (PD.out.keep hb)
  replace PS := Lib.hid (PS.out.keep hb)
  replace PY1 := Lib.hid (PY1.out.keep hb)
  replace HB := Lib.hid (HB.out.trans (hb.mono HB.out.size))
  clear hb
  have PY2 := Lib.hid hpY2
  clear hpY2
  clear g0 g1
  obtain ⟨g0, g1⟩ := HF.out w2 HB.out
  go_wp2_with fail
  refine (HSM.out w2 _ _ _ _ X1 LX1.out PY1.out PY2.out).mono ?_
  rintro e w3 ⟨rfl, hb⟩
  clear PY1
  clear PY2
  replace PEE := Lib.hid (PEE.out.keep hb)
  replace PD := Lib.hid (PD.out.keep hb)
  replace PS := Lib.hid (PS.out.keep hb)
  replace HB := Lib.hid (HB.out.trans (hb.mono HB.out.size))
  clear hb
  clear g0 g1
  obtain ⟨g0, g1⟩ := HF.out w3 HB.out
  go_wp2_with fail
  refine (HP2.out w3 PEE.out PD.out).mono ?_
  rintro e w4 ⟨p3, q3, rfl, hpZ1, hb⟩
  replace PEE := Lib.hid (PEE.out.keep hb)
  replace PD := Lib.hid (PD.out.keep hb)
  replace PS := Lib.hid (PS.out.keep hb)
  replace HB := Lib.hid (HB.out.trans (hb.mono HB.out.size))
  clear hb
  have PZ1 := Lib.hid hpZ1
  clear hpZ1
  clear g0 g1
  obtain ⟨g0, g1⟩ := HF.out w4 HB.out
  go_wp2_with fail
  refine (HR2.out w4 PEE.out PD.out).mono ?_
  rintro e w5 ⟨p4, q4, rfl, hpZ2, hb⟩
  replace PEE := Lib.hid (PEE.out.keep hb)
  replace PD := Lib.hid (PD.out.keep hb)
  replace PS := Lib.hid (PS.out.keep hb)
  replace PZ1 := Lib.hid (PZ1.out.keep hb)
  replace HB := Lib.hid (HB.out.trans (hb.mono HB.out.size))
  clear hb
  have PZ2 := Lib.hid hpZ2
  clear hpZ2
  clear g0 g1
  obtain ⟨g0, g1⟩ := HF.out w5 HB.out
  go_wp2_with fail
  refine (HP3.out w5 PEE.out PD.out PS.out).mono ?_
  rintro e w6 ⟨p5, q5, rfl, hpU1, hb⟩
  replace PEE := Lib.hid (PEE.out.keep hb)
  replace PD := Lib.hid (PD.out.keep hb)
  replace PS := Lib.hid (PS.out.keep hb)
  replace PZ1 := Lib.hid (PZ1.out.keep hb)
  replace PZ2 := Lib.hid (PZ2.out.keep hb)
  replace HB := Lib.hid (HB.out.trans (hb.mono HB.out.size))
  clear hb
  have PU1 := Lib.hid hpU1
  clear hpU1
  clear g0 g1
  obtain ⟨g0, g1⟩ := HF.out w6 HB.out
  go_wp2_with fail
  refine (HR3.out w6 PEE.out PD.out PS.out).mono ?_
  rintro e w7 ⟨p6, q6, rfl, hpU2, hb⟩
  clear PEE
  clear PD
  clear PS
  replace PZ1 := Lib.hid (PZ1.out.keep hb)
  replace PZ2 := Lib.hid (PZ2.out.keep hb)
  replace PU1 := Lib.hid (PU1.out.keep hb)
  replace HB := Lib.hid (HB.out.trans (hb.mono HB.out.size))
  clear hb
  have PU2 := Lib.hid hpU2
  clear hpU2
  clear g0 g1
  obtain ⟨g0, g1⟩ := HF.out w7 HB.out
  go_wp2_with fail
  refine (HSM.out w7 _ _ _ _ X2 LX2.out PZ1.out PZ2.out).mono ?_
  rintro e w8 ⟨rfl, hb⟩
  clear PZ1
  clear PZ2
  replace PU1 := Lib.hid (PU1.out.keep hb)
  replace PU2 := Lib.hid (PU2.out.keep hb)
  replace HB := Lib.hid (HB.out.trans (hb.mono HB.out.size))
  clear hb
  clear g0 g1
  obtain ⟨g0, g1⟩ := HF.out w8 HB.out
  go_wp2_with fail
  refine (HSM.out w8 _ _ _ _ X3 LX3.out PU1.out PU2.out).mono ?_
  rintro e w9 ⟨rfl, hb⟩
  clear PU1
  clear PU2
  replace HB := Lib.hid (HB.out.trans (hb.mono HB.out.size))
  clear hb
  clear g0 g1
  obtain ⟨g0, g1⟩ := HF.out w9 HB.out
  go_wp2_with fail
  refine (HAW.out w9).mono ?_
  rintro e w10 ⟨rfl, hb⟩
  replace HB := Lib.hid (HB.out.trans (hb.mono HB.out.size))
  clear hb
  clear g0 g1
  obtain ⟨g0, g1⟩ := HF.out w10 HB.out
  go_wp2
  go_ret
  exact ⟨rfl, HB0.out.trans (HB.out.mono HB0.out.size)⟩
set_option maxHeartbeats 12800000 in
set_option maxRecDepth 100000 in
theorem legal_any (n : Int) (a : Option Addr) (cap : Nat) (L : List E) (b : Option Addr) (c : Nat) (D : List Int) (sa : Option Addr) (sc : Nat) (A : List Int) (w : World) (h : EsAt w a L) (ho : IsAt w b D) (hs : IsAt w sa A) :
    Calls Try.prog 6 #[gv n a L.length cap, .slice b D.length c, .slice sa A.length sc] w (fun e w' => e = .returned (.bool true) ∧ Below w.heap.size w w') := by
  have HAW := Lib.hid (fun w => awake_any w)
  by_cases hf : fewD n L D = false
  · have HFW : Hid (∀ u, EsAt u a L → Calls Try.prog 12 #[gv n a L.length cap, .slice b D.length c] u (fun e w' => e = .returned (.bool false) ∧ Below u.heap.size u w')) := Lib.hid fun u h => by
      have := rFewD_any n a cap L b c D u h
      rwa [hf] at this
    clear hf
    unfold gv at *
    obtain ⟨W, hW⟩ : ∃ W, W = w.alloc (Obj.cells #[.int .i64 n, .slice a L.length cap] 24) := ⟨_, rfl⟩
    have hB0 : Below w.heap.size w W := by rw [hW]; exact (Below.refl _ w).alloc (Nat.le_refl _) _
    have hG : Blk W w.heap.size 24 #[.int .i64 n, .slice a L.length cap] := by rw [hW]; exact Blk.new _ _ _
    have HW := Lib.hid hW
    have HSW : Hid (W.heap.size = w.heap.size + 1) := Lib.hid (by rw [hW]; simp)
    have HB0 := Lib.hid hB0
    have HF : Hid (∀ u, Below W.heap.size W u → u.cell? ⟨w.heap.size, 0, none⟩ = some (.int .i64 n) ∧ u.cell? ⟨w.heap.size, 1, none⟩ = some (.slice a L.length cap)) := Lib.hid fun u hu => ⟨(hG.below hu hG.lt).cell 0, (hG.below hu hG.lt).cell 1⟩
    have HB : Hid (Below W.heap.size W W) := Lib.hid (Below.refl _ _)
    have PEE := Lib.hid (h.keep hB0)
    have PD := Lib.hid (ho.keep hB0)
    have PS := Lib.hid (hs.keep hB0)
    clear hW hB0 hG h ho hs
    go_enter Try.func6, Try.ntmps6
    go_wp2_with fail
    rw [← HW.out]
    refine (HFW.out W PEE.out).mono ?_
    rintro e w0 ⟨rfl, hb⟩
    replace PEE := Lib.hid (PEE.out.keep hb)
    replace PD := Lib.hid (PD.out.keep hb)
    replace PS := Lib.hid (PS.out.keep hb)
    replace HB := Lib.hid (HB.out.trans (hb.mono HB.out.size))
    clear hb
    obtain ⟨g0, g1⟩ := HF.out w0 HB.out
    go_wp2_with fail
    refine (HAW.out w0).mono ?_
    rintro e w1 ⟨rfl, hb⟩
    replace PEE := Lib.hid (PEE.out.keep hb)
    replace PD := Lib.hid (PD.out.keep hb)
    replace PS := Lib.hid (PS.out.keep hb)
    replace HB := Lib.hid (HB.out.trans (hb.mono HB.out.size))
    clear hb
    clear g0 g1
    obtain ⟨g0, g1⟩ := HF.out w1 HB.out
    go_wp2
    go_ret
    exact ⟨rfl, HB0.out.trans (HB.out.mono HB0.out.size)⟩
  have hf : fewD n L D = true := by cases hh : fewD n L D with | true => rfl | false => exact absurd hh hf
  have HFW : Hid (∀ u, EsAt u a L → Calls Try.prog 12 #[gv n a L.length cap, .slice b D.length c] u (fun e w' => e = .returned (.bool true) ∧ Below u.heap.size u w')) := Lib.hid fun u h => by
    have := rFewD_any n a cap L b c D u h
    rwa [hf] at this
  obtain ⟨hl, hd⟩ := few_both hf
  clear hf
  by_cases hg : 20 < A.length
  · have i9 : (A.length : Int) > 20 := by omega
    clear hg hl hd
    unfold gv at *
    obtain ⟨W, hW⟩ : ∃ W, W = w.alloc (Obj.cells #[.int .i64 n, .slice a L.length cap] 24) := ⟨_, rfl⟩
    have hB0 : Below w.heap.size w W := by rw [hW]; exact (Below.refl _ w).alloc (Nat.le_refl _) _
    have hG : Blk W w.heap.size 24 #[.int .i64 n, .slice a L.length cap] := by rw [hW]; exact Blk.new _ _ _
    have HW := Lib.hid hW
    have HSW : Hid (W.heap.size = w.heap.size + 1) := Lib.hid (by rw [hW]; simp)
    have HB0 := Lib.hid hB0
    have HF : Hid (∀ u, Below W.heap.size W u → u.cell? ⟨w.heap.size, 0, none⟩ = some (.int .i64 n) ∧ u.cell? ⟨w.heap.size, 1, none⟩ = some (.slice a L.length cap)) := Lib.hid fun u hu => ⟨(hG.below hu hG.lt).cell 0, (hG.below hu hG.lt).cell 1⟩
    have HB : Hid (Below W.heap.size W W) := Lib.hid (Below.refl _ _)
    have PEE := Lib.hid (h.keep hB0)
    have PD := Lib.hid (ho.keep hB0)
    have PS := Lib.hid (hs.keep hB0)
    clear hW hB0 hG h ho hs
    go_enter Try.func6, Try.ntmps6
    go_wp2_with fail
    rw [← HW.out]
    refine (HFW.out W PEE.out).mono ?_
    rintro e w0 ⟨rfl, hb⟩
    replace PEE := Lib.hid (PEE.out.keep hb)
    replace PD := Lib.hid (PD.out.keep hb)
    replace PS := Lib.hid (PS.out.keep hb)
    replace HB := Lib.hid (HB.out.trans (hb.mono HB.out.size))
    clear hb
    obtain ⟨g0, g1⟩ := HF.out w0 HB.out
    go_wp2_with fail
    refine (HAW.out w0).mono ?_
    rintro e w1 ⟨rfl, hb⟩
    replace PEE := Lib.hid (PEE.out.keep hb)
    replace PD := Lib.hid (PD.out.keep hb)
    replace PS := Lib.hid (PS.out.keep hb)
    replace HB := Lib.hid (HB.out.trans (hb.mono HB.out.size))
    clear hb
    clear g0 g1
    obtain ⟨g0, g1⟩ := HF.out w1 HB.out
    go_wp2
    go_ret
    exact ⟨rfl, HB0.out.trans (HB.out.mono HB0.out.size)⟩
  have hg : A.length ≤ 20 := by omega
  have i9 : ¬ (A.length : Int) > 20 := by omega
  by_cases h0 : A.length = 0
  · have i0 : ¬ (A.length : Int) > 0 := by omega
    have HP1 := Lib.hid (fun u h ho => pLegal_any n a cap L (by omega) b c D (by omega) n u h ho)
    have HR1 := Lib.hid (fun u h ho => rLegal_any n a cap L (by omega) b c D (by omega) n u h ho)
    have HP3 := Lib.hid (fun u h ho hs => pLegalSet_any n a cap L (by omega) b c D (by omega) sa sc A (by omega) u h ho hs)
    have HR3 := Lib.hid (fun u h ho hs => rLegalSet_any n a cap L (by omega) b c D (by omega) sa sc A (by omega) u h ho hs)
    unfold gv at *
    generalize legV n L D [n] = X1 at *
    generalize setK n L D [n] = K1 at *
    generalize legV n L D A = X3 at *
    generalize setK n L D A = K3 at *
    clear hl hd hg
    clear h0
    obtain ⟨W, hW⟩ : ∃ W, W = w.alloc (Obj.cells #[.int .i64 n, .slice a L.length cap] 24) := ⟨_, rfl⟩
    have hB0 : Below w.heap.size w W := by rw [hW]; exact (Below.refl _ w).alloc (Nat.le_refl _) _
    have hG : Blk W w.heap.size 24 #[.int .i64 n, .slice a L.length cap] := by rw [hW]; exact Blk.new _ _ _
    have HW := Lib.hid hW
    have HSW : Hid (W.heap.size = w.heap.size + 1) := Lib.hid (by rw [hW]; simp)
    have HB0 := Lib.hid hB0
    have HF : Hid (∀ u, Below W.heap.size W u → u.cell? ⟨w.heap.size, 0, none⟩ = some (.int .i64 n) ∧ u.cell? ⟨w.heap.size, 1, none⟩ = some (.slice a L.length cap)) := Lib.hid fun u hu => ⟨(hG.below hu hG.lt).cell 0, (hG.below hu hG.lt).cell 1⟩
    have HB : Hid (Below W.heap.size W W) := Lib.hid (Below.refl _ _)
    have PEE := Lib.hid (h.keep hB0)
    have PD := Lib.hid (ho.keep hB0)
    have PS := Lib.hid (hs.keep hB0)
    clear hW hB0 hG h ho hs
    go_enter Try.func6, Try.ntmps6
    go_wp2_with fail
    rw [← HW.out]
    refine (HFW.out W PEE.out).mono ?_
    rintro e w0 ⟨rfl, hb⟩
    replace PEE := Lib.hid (PEE.out.keep hb)
    replace PD := Lib.hid (PD.out.keep hb)
    replace PS := Lib.hid (PS.out.keep hb)
    replace HB := Lib.hid (HB.out.trans (hb.mono HB.out.size))
    clear hb
    obtain ⟨g0, g1⟩ := HF.out w0 HB.out
    go_wp2_with fail
    refine (HP1.out w0 PEE.out PD.out).mono ?_
    rintro e w1 ⟨rfl, hb⟩
    replace PEE := Lib.hid (PEE.out.keep hb)
    replace PD := Lib.hid (PD.out.keep hb)
    replace PS := Lib.hid (PS.out.keep hb)
    replace HB := Lib.hid (HB.out.trans (hb.mono HB.out.size))
    clear hb
    clear g0 g1
    obtain ⟨g0, g1⟩ := HF.out w1 HB.out
    go_wp2_with fail
    refine (HR1.out w1 PEE.out PD.out).mono ?_
    rintro e w2 ⟨rfl, hb⟩
    replace PEE := Lib.hid (PEE.out.keep hb)
    replace PD := Lib.hid (PD.out.keep hb)
    replace PS := Lib.hid (PS.out.keep hb)
    replace HB := Lib.hid (HB.out.trans (hb.mono HB.out.size))
    clear hb
    clear g0 g1
    obtain ⟨g0, g1⟩ := HF.out w2 HB.out
    go_wp2_with fail
    refine (HP3.out w2 PEE.out PD.out PS.out).mono ?_
    rintro e w3 ⟨rfl, hb⟩
    replace PEE := Lib.hid (PEE.out.keep hb)
    replace PD := Lib.hid (PD.out.keep hb)
    replace PS := Lib.hid (PS.out.keep hb)
    replace HB := Lib.hid (HB.out.trans (hb.mono HB.out.size))
    clear hb
    clear g0 g1
    obtain ⟨g0, g1⟩ := HF.out w3 HB.out
    go_wp2_with fail
    refine (HR3.out w3 PEE.out PD.out PS.out).mono ?_
    rintro e w4 ⟨rfl, hb⟩
    clear PEE
    clear PD
    clear PS
    replace HB := Lib.hid (HB.out.trans (hb.mono HB.out.size))
    clear hb
    clear g0 g1
    obtain ⟨g0, g1⟩ := HF.out w4 HB.out
    go_wp2_with fail
    refine (HAW.out w4).mono ?_
    rintro e w5 ⟨rfl, hb⟩
    replace HB := Lib.hid (HB.out.trans (hb.mono HB.out.size))
    clear hb
    clear g0 g1
    obtain ⟨g0, g1⟩ := HF.out w5 HB.out
    go_wp2
    go_ret
    exact ⟨rfl, HB0.out.trans (HB.out.mono HB0.out.size)⟩
  have h0 : 0 < A.length := by omega
  have i0 : (A.length : Int) > 0 := by omega
  have i00 : (0 : Int) < (A.length : Int) := by omega
  have HPOS := Lib.hid h0
  obtain ⟨b1, o1, rfl, -, -⟩ := hs.one 0 h0
  have HP1 := Lib.hid (fun u h ho => pLegal_any n a cap L (by omega) b c D (by omega) (iAt A 0) u h ho)
  have HR1 := Lib.hid (fun u h ho => rLegal_any n a cap L (by omega) b c D (by omega) (iAt A 0) u h ho)
  have HP3 := Lib.hid (fun u h ho hs => pLegalSet_any n a cap L (by omega) b c D (by omega) (some ⟨b1, o1, none⟩) sc A (by omega) u h ho hs)
  have HR3 := Lib.hid (fun u h ho hs => rLegalSet_any n a cap L (by omega) b c D (by omega) (some ⟨b1, o1, none⟩) sc A (by omega) u h ho hs)
  unfold gv at *
  generalize legV n L D [(iAt A 0)] = X1 at *
  generalize setK n L D [(iAt A 0)] = K1 at *
  generalize legV n L D A = X3 at *
  generalize setK n L D A = K3 at *
  clear hl hd hg
  clear h0
  obtain ⟨W, hW⟩ : ∃ W, W = w.alloc (Obj.cells #[.int .i64 n, .slice a L.length cap] 24) := ⟨_, rfl⟩
  have hB0 : Below w.heap.size w W := by rw [hW]; exact (Below.refl _ w).alloc (Nat.le_refl _) _
  have hG : Blk W w.heap.size 24 #[.int .i64 n, .slice a L.length cap] := by rw [hW]; exact Blk.new _ _ _
  have HW := Lib.hid hW
  have HSW : Hid (W.heap.size = w.heap.size + 1) := Lib.hid (by rw [hW]; simp)
  have HB0 := Lib.hid hB0
  have HF : Hid (∀ u, Below W.heap.size W u → u.cell? ⟨w.heap.size, 0, none⟩ = some (.int .i64 n) ∧ u.cell? ⟨w.heap.size, 1, none⟩ = some (.slice a L.length cap)) := Lib.hid fun u hu => ⟨(hG.below hu hG.lt).cell 0, (hG.below hu hG.lt).cell 1⟩
  have HB : Hid (Below W.heap.size W W) := Lib.hid (Below.refl _ _)
  have PEE := Lib.hid (h.keep hB0)
  have PD := Lib.hid (ho.keep hB0)
  have PS := Lib.hid (hs.keep hB0)
  clear hW hB0 hG h ho hs
  go_enter Try.func6, Try.ntmps6
  go_wp2_with fail
  rw [← HW.out]
  refine (HFW.out W PEE.out).mono ?_
  rintro e w0 ⟨rfl, hb⟩
  replace PEE := Lib.hid (PEE.out.keep hb)
  replace PD := Lib.hid (PD.out.keep hb)
  replace PS := Lib.hid (PS.out.keep hb)
  replace HB := Lib.hid (HB.out.trans (hb.mono HB.out.size))
  clear hb
  obtain ⟨g0, g1⟩ := HF.out w0 HB.out
  obtain ⟨b9, o9, e9, -, x1⟩ := PS.out.one 0 HPOS.out
  injection e9 with e9
  injection e9 with e8 e7
  subst e8 e7
  rw [Nat.add_zero] at x1
  generalize iAt A 0 = v0 at *
  go_wp2_with fail
  refine (HP1.out w0 PEE.out PD.out).mono ?_
  rintro e w1 ⟨rfl, hb⟩
  replace PEE := Lib.hid (PEE.out.keep hb)
  replace PD := Lib.hid (PD.out.keep hb)
  replace PS := Lib.hid (PS.out.keep hb)
  replace HB := Lib.hid (HB.out.trans (hb.mono HB.out.size))
  clear hb
  clear g0 g1
  obtain ⟨g0, g1⟩ := HF.out w1 HB.out
  clear x1
  go_wp2_with fail
  refine (HR1.out w1 PEE.out PD.out).mono ?_
  rintro e w2 ⟨rfl, hb⟩
  replace PEE := Lib.hid (PEE.out.keep hb)
  replace PD := Lib.hid (PD.out.keep hb)
  replace PS := Lib.hid (PS.out.keep hb)
  replace HB := Lib.hid (HB.out.trans (hb.mono HB.out.size))
  clear hb
  clear g0 g1
  obtain ⟨g0, g1⟩ := HF.out w2 HB.out
  go_wp2_with fail
  refine (HP3.out w2 PEE.out PD.out PS.out).mono ?_
  rintro e w3 ⟨rfl, hb⟩
  replace PEE := Lib.hid (PEE.out.keep hb)
  replace PD := Lib.hid (PD.out.keep hb)
  replace PS := Lib.hid (PS.out.keep hb)
  replace HB := Lib.hid (HB.out.trans (hb.mono HB.out.size))
  clear hb
  clear g0 g1
  obtain ⟨g0, g1⟩ := HF.out w3 HB.out
  go_wp2_with fail
  refine (HR3.out w3 PEE.out PD.out PS.out).mono ?_
  rintro e w4 ⟨rfl, hb⟩
  clear PEE
  clear PD
  clear PS
  replace HB := Lib.hid (HB.out.trans (hb.mono HB.out.size))
  clear hb
  clear g0 g1
  obtain ⟨g0, g1⟩ := HF.out w4 HB.out
  go_wp2_with fail
  refine (HAW.out w4).mono ?_
  rintro e w5 ⟨rfl, hb⟩
  replace HB := Lib.hid (HB.out.trans (hb.mono HB.out.size))
  clear hb
  clear g0 g1
  obtain ⟨g0, g1⟩ := HF.out w5 HB.out
  go_wp2
  go_ret
  exact ⟨rfl, HB0.out.trans (HB.out.mono HB0.out.size)⟩
set_option maxHeartbeats 12800000 in
set_option maxRecDepth 100000 in
theorem plays_any (n : Int) (a : Option Addr) (cap : Nat) (L : List E) (b : Option Addr) (c : Nat) (D : List Int) (sa : Option Addr) (sc : Nat) (A : List Int) (w : World) (h : EsAt w a L) (ho : IsAt w b D) (hs : IsAt w sa A) :
    Calls Try.prog 7 #[gv n a L.length cap, .slice b D.length c, .slice sa A.length sc] w (fun e w' => e = .returned (.bool true) ∧ Below w.heap.size w w') := by
  have HAW := Lib.hid (fun w => awake_any w)
  by_cases hf : fewD n L D = false
  · have HFW : Hid (∀ u, EsAt u a L → Calls Try.prog 12 #[gv n a L.length cap, .slice b D.length c] u (fun e w' => e = .returned (.bool false) ∧ Below u.heap.size u w')) := Lib.hid fun u h => by
      have := rFewD_any n a cap L b c D u h
      rwa [hf] at this
    clear hf
    unfold gv at *
    obtain ⟨W, hW⟩ : ∃ W, W = w.alloc (Obj.cells #[.int .i64 n, .slice a L.length cap] 24) := ⟨_, rfl⟩
    have hB0 : Below w.heap.size w W := by rw [hW]; exact (Below.refl _ w).alloc (Nat.le_refl _) _
    have hG : Blk W w.heap.size 24 #[.int .i64 n, .slice a L.length cap] := by rw [hW]; exact Blk.new _ _ _
    have HW := Lib.hid hW
    have HSW : Hid (W.heap.size = w.heap.size + 1) := Lib.hid (by rw [hW]; simp)
    have HB0 := Lib.hid hB0
    have HF : Hid (∀ u, Below W.heap.size W u → u.cell? ⟨w.heap.size, 0, none⟩ = some (.int .i64 n) ∧ u.cell? ⟨w.heap.size, 1, none⟩ = some (.slice a L.length cap)) := Lib.hid fun u hu => ⟨(hG.below hu hG.lt).cell 0, (hG.below hu hG.lt).cell 1⟩
    have HB : Hid (Below W.heap.size W W) := Lib.hid (Below.refl _ _)
    have PEE := Lib.hid (h.keep hB0)
    have PD := Lib.hid (ho.keep hB0)
    have PS := Lib.hid (hs.keep hB0)
    clear hW hB0 hG h ho hs
    go_enter Try.func7, Try.ntmps7
    go_wp2_with fail
    rw [← HW.out]
    refine (HFW.out W PEE.out).mono ?_
    rintro e w0 ⟨rfl, hb⟩
    replace PEE := Lib.hid (PEE.out.keep hb)
    replace PD := Lib.hid (PD.out.keep hb)
    replace PS := Lib.hid (PS.out.keep hb)
    replace HB := Lib.hid (HB.out.trans (hb.mono HB.out.size))
    clear hb
    obtain ⟨g0, g1⟩ := HF.out w0 HB.out
    go_wp2_with fail
    refine (HAW.out w0).mono ?_
    rintro e w1 ⟨rfl, hb⟩
    replace PEE := Lib.hid (PEE.out.keep hb)
    replace PD := Lib.hid (PD.out.keep hb)
    replace PS := Lib.hid (PS.out.keep hb)
    replace HB := Lib.hid (HB.out.trans (hb.mono HB.out.size))
    clear hb
    clear g0 g1
    obtain ⟨g0, g1⟩ := HF.out w1 HB.out
    go_wp2
    go_ret
    exact ⟨rfl, HB0.out.trans (HB.out.mono HB0.out.size)⟩
  have hf : fewD n L D = true := by cases hh : fewD n L D with | true => rfl | false => exact absurd hh hf
  have HFW : Hid (∀ u, EsAt u a L → Calls Try.prog 12 #[gv n a L.length cap, .slice b D.length c] u (fun e w' => e = .returned (.bool true) ∧ Below u.heap.size u w')) := Lib.hid fun u h => by
    have := rFewD_any n a cap L b c D u h
    rwa [hf] at this
  obtain ⟨hl, hd⟩ := few_both hf
  clear hf
  by_cases hg : fewM A.length = false
  · have HF2 : Hid (∀ u, Calls Try.prog 32 #[.slice sa A.length sc] u (fun e w' => e = .returned (.bool false) ∧ u = w')) := Lib.hid fun u => by
      have := rFewM_any sa A.length sc u
      rwa [hg] at this
    clear hg hl hd
    unfold gv at *
    obtain ⟨W, hW⟩ : ∃ W, W = w.alloc (Obj.cells #[.int .i64 n, .slice a L.length cap] 24) := ⟨_, rfl⟩
    have hB0 : Below w.heap.size w W := by rw [hW]; exact (Below.refl _ w).alloc (Nat.le_refl _) _
    have hG : Blk W w.heap.size 24 #[.int .i64 n, .slice a L.length cap] := by rw [hW]; exact Blk.new _ _ _
    have HW := Lib.hid hW
    have HSW : Hid (W.heap.size = w.heap.size + 1) := Lib.hid (by rw [hW]; simp)
    have HB0 := Lib.hid hB0
    have HF : Hid (∀ u, Below W.heap.size W u → u.cell? ⟨w.heap.size, 0, none⟩ = some (.int .i64 n) ∧ u.cell? ⟨w.heap.size, 1, none⟩ = some (.slice a L.length cap)) := Lib.hid fun u hu => ⟨(hG.below hu hG.lt).cell 0, (hG.below hu hG.lt).cell 1⟩
    have HB : Hid (Below W.heap.size W W) := Lib.hid (Below.refl _ _)
    have PEE := Lib.hid (h.keep hB0)
    have PD := Lib.hid (ho.keep hB0)
    have PS := Lib.hid (hs.keep hB0)
    clear hW hB0 hG h ho hs
    go_enter Try.func7, Try.ntmps7
    go_wp2_with fail
    rw [← HW.out]
    refine (HFW.out W PEE.out).mono ?_
    rintro e w0 ⟨rfl, hb⟩
    replace PEE := Lib.hid (PEE.out.keep hb)
    replace PD := Lib.hid (PD.out.keep hb)
    replace PS := Lib.hid (PS.out.keep hb)
    replace HB := Lib.hid (HB.out.trans (hb.mono HB.out.size))
    clear hb
    obtain ⟨g0, g1⟩ := HF.out w0 HB.out
    go_wp2_with fail
    refine (HF2.out w0).mono ?_
    rintro e w9 ⟨rfl, rfl⟩
    go_wp2_with fail
    refine (HAW.out w0).mono ?_
    rintro e w1 ⟨rfl, hb⟩
    replace PEE := Lib.hid (PEE.out.keep hb)
    replace PD := Lib.hid (PD.out.keep hb)
    replace PS := Lib.hid (PS.out.keep hb)
    replace HB := Lib.hid (HB.out.trans (hb.mono HB.out.size))
    clear hb
    clear g0 g1
    obtain ⟨g0, g1⟩ := HF.out w1 HB.out
    go_wp2
    go_ret
    exact ⟨rfl, HB0.out.trans (HB.out.mono HB0.out.size)⟩
  have hg : fewM A.length = true := by cases hh : fewM A.length with | true => rfl | false => exact absurd hh hg
  have HF2 : Hid (∀ u, Calls Try.prog 32 #[.slice sa A.length sc] u (fun e w' => e = .returned (.bool true) ∧ u = w')) := Lib.hid fun u => by
    have := rFewM_any sa A.length sc u
    rwa [hg] at this
  have ha : A.length ≤ 8192 := by
    unfold fewM at hg
    rw [Bool.or_eq_true, Bool.and_eq_true, decide_eq_true_iff, decide_eq_true_iff, decide_eq_true_iff] at hg
    omega
  obtain ⟨X, i, k, hR⟩ : ∃ X i k, plaR n L D A = (X, i, k) := ⟨_, _, _, rfl⟩
  have hxl := plaR_len n L D A
  rw [hR] at hxl
  have LX : Hid (X.length ≤ 1000) := Lib.hid (by have : X.length ≤ D.length := hxl; omega)
  have PPOST : Hid (∀ u, EsAt u a L → IsAt u b D → IsAt u sa A → Calls Try.prog 33 #[gv n a L.length cap, .slice b D.length c, .slice sa A.length sc] u (fun e w' => ∃ p q, e = .returned (.tuple #[.slice p X.length q, .int .i64 (i : Nat), .int .i64 (k : Nat)]) ∧ IsAt w' p X ∧ Below u.heap.size u w')) := Lib.hid fun u h1 h2 h3 => by
    have := pPlay_any n a cap L (by omega) b c D (by omega) sa sc A (by omega) u h1 h2 h3
    rw [hR] at this
    exact this
  have RPOST : Hid (∀ u, EsAt u a L → IsAt u b D → IsAt u sa A → Calls Try.prog 34 #[gv n a L.length cap, .slice b D.length c, .slice sa A.length sc] u (fun e w' => ∃ p q, e = .returned (.tuple #[.slice p X.length q, .int .i64 (i : Nat), .int .i64 (k : Nat)]) ∧ IsAt w' p X ∧ Below u.heap.size u w')) := Lib.hid fun u h1 h2 h3 => by
    have := rPlay_any n a cap L (by omega) b c D (by omega) sa sc A (by omega) u h1 h2 h3
    rw [hR] at this
    exact this
  have HPC := Lib.hid (fun u h hs => pCount_any n a cap L (by omega) sa sc A (by omega) u h hs)
  have HRC := Lib.hid (fun u h hs => rCount_any n a cap L (by omega) sa sc A (by omega) u h hs)
  have LY := Lib.hid (couV_len n L A)
  have HSM := Lib.hid same_true
  have HSS : Hid (∀ (u : World) (a b : Option Addr) (c d : Nat) (L : List Int), L.length ≤ 1000 → IsAt u a L → IsAt u b L → Calls Try.prog 37 #[.slice a L.length c, .slice b L.length d] u (fun e x => e = .returned (.bool true) ∧ Below u.heap.size u x)) := Lib.hid fun u a b c d L hl h1 h2 => by
    have := rSameScr_any a b c d L L hl hl u h1 h2
    rwa [decide_eq_true rfl] at this
  unfold GivesIE gv at *
  generalize couV n L A = Y at *
  generalize couK n L A = K at *
  clear hl hd hg ha hR hxl
  obtain ⟨W, hW⟩ : ∃ W, W = w.alloc (Obj.cells #[.int .i64 n, .slice a L.length cap] 24) := ⟨_, rfl⟩
  have hB0 : Below w.heap.size w W := by rw [hW]; exact (Below.refl _ w).alloc (Nat.le_refl _) _
  have hG : Blk W w.heap.size 24 #[.int .i64 n, .slice a L.length cap] := by rw [hW]; exact Blk.new _ _ _
  have HW := Lib.hid hW
  have HSW : Hid (W.heap.size = w.heap.size + 1) := Lib.hid (by rw [hW]; simp)
  have HB0 := Lib.hid hB0
  have HF : Hid (∀ u, Below W.heap.size W u → u.cell? ⟨w.heap.size, 0, none⟩ = some (.int .i64 n) ∧ u.cell? ⟨w.heap.size, 1, none⟩ = some (.slice a L.length cap)) := Lib.hid fun u hu => ⟨(hG.below hu hG.lt).cell 0, (hG.below hu hG.lt).cell 1⟩
  have HB : Hid (Below W.heap.size W W) := Lib.hid (Below.refl _ _)
  have PEE := Lib.hid (h.keep hB0)
  have PD := Lib.hid (ho.keep hB0)
  have PS := Lib.hid (hs.keep hB0)
  clear hW hB0 hG h ho hs
  go_enter Try.func7, Try.ntmps7
  go_wp2_with fail
  rw [← HW.out]
  refine (HFW.out W PEE.out).mono ?_
  rintro e w0 ⟨rfl, hb⟩
  replace PEE := Lib.hid (PEE.out.keep hb)
  replace PD := Lib.hid (PD.out.keep hb)
  replace PS := Lib.hid (PS.out.keep hb)
  replace HB := Lib.hid (HB.out.trans (hb.mono HB.out.size))
  clear hb
  obtain ⟨g0, g1⟩ := HF.out w0 HB.out
  go_wp2_with fail
  refine (HF2.out w0).mono ?_
  rintro e w9 ⟨rfl, rfl⟩
  go_wp2_with fail
  refine (PPOST.out w0 PEE.out PD.out PS.out).mono ?_
  rintro e w1 ⟨p1, q1, rfl, hpX1, hb⟩
  replace PEE := Lib.hid (PEE.out.keep hb)
  replace PD := Lib.hid (PD.out.keep hb)
  replace PS := Lib.hid (PS.out.keep hb)
  replace HB := Lib.hid (HB.out.trans (hb.mono HB.out.size))
  clear hb
  have PX1 := Lib.hid hpX1
  clear hpX1
  clear g0 g1
  obtain ⟨g0, g1⟩ := HF.out w1 HB.out
  go_wp2_with fail
  refine (RPOST.out w1 PEE.out PD.out PS.out).mono ?_
  rintro e w2 ⟨p2, q2, rfl, hpX2, hb⟩
  clear PD
  replace PEE := Lib.hid (PEE.out.keep hb)
  replace PS := Lib.hid (PS.out.keep hb)
  replace PX1 := Lib.hid (PX1.out.keep hb)
  replace HB := Lib.hid (HB.out.trans (hb.mono HB.out.size))
  clear hb
  have PX2 := Lib.hid hpX2
  clear hpX2
  clear g0 g1
  obtain ⟨g0, g1⟩ := HF.out w2 HB.out
  go_wp2_with fail
  refine (HPC.out w2 PEE.out PS.out).mono ?_
  rintro e w3 ⟨p3, q3, rfl, hpY1, hb⟩
  replace PEE := Lib.hid (PEE.out.keep hb)
  replace PS := Lib.hid (PS.out.keep hb)
  replace PX1 := Lib.hid (PX1.out.keep hb)
  replace PX2 := Lib.hid (PX2.out.keep hb)
  replace HB := Lib.hid (HB.out.trans (hb.mono HB.out.size))
  clear hb
  have PY1 := Lib.hid hpY1
  clear hpY1
  clear g0 g1
  obtain ⟨g0, g1⟩ := HF.out w3 HB.out
  go_wp2_with fail
  refine (HRC.out w3 PEE.out PS.out).mono ?_
  rintro e w4 ⟨p4, q4, rfl, hpY2, hb⟩
  clear PS
  clear PEE
  replace PX1 := Lib.hid (PX1.out.keep hb)
  replace PX2 := Lib.hid (PX2.out.keep hb)
  replace PY1 := Lib.hid (PY1.out.keep hb)
  replace HB := Lib.hid (HB.out.trans (hb.mono HB.out.size))
  clear hb
  have PY2 := Lib.hid hpY2
  clear hpY2
  clear g0 g1
  obtain ⟨g0, g1⟩ := HF.out w4 HB.out
  go_wp2_with fail
  refine (HSM.out w4 _ _ _ _ X LX.out PX1.out PX2.out).mono ?_
  rintro e w5 ⟨rfl, hb⟩
  clear PX1
  clear PX2
  replace PY1 := Lib.hid (PY1.out.keep hb)
  replace PY2 := Lib.hid (PY2.out.keep hb)
  replace HB := Lib.hid (HB.out.trans (hb.mono HB.out.size))
  clear hb
  clear g0 g1
  obtain ⟨g0, g1⟩ := HF.out w5 HB.out
  go_wp2_with fail
  refine (HSS.out w5 _ _ _ _ Y LY.out PY1.out PY2.out).mono ?_
  rintro e w6 ⟨rfl, hb⟩
  clear PY1
  clear PY2
  replace HB := Lib.hid (HB.out.trans (hb.mono HB.out.size))
  clear hb
  clear g0 g1
  obtain ⟨g0, g1⟩ := HF.out w6 HB.out
  go_wp2_with fail
  refine (HAW.out w6).mono ?_
  rintro e w7 ⟨rfl, hb⟩
  replace HB := Lib.hid (HB.out.trans (hb.mono HB.out.size))
  clear hb
  clear g0 g1
  obtain ⟨g0, g1⟩ := HF.out w7 HB.out
  go_wp2
  go_ret
  exact ⟨rfl, HB0.out.trans (HB.out.mono HB0.out.size)⟩
end Go.Proofs.Ytgejkgeojjgclaa
