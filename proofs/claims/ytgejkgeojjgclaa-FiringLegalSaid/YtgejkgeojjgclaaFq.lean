/- One and Of of the reference. -/
import Derived.Test.YtgejkgeojjgclaaFo
namespace Go.Proofs.Ytgejkgeojjgclaa
open Go.RowKit Go.Proofs.Gr Go.Proofs.Cp
attribute [local go_sem] Oper.semAt_some

set_option maxHeartbeats 12800000 in
set_option maxRecDepth 100000 in
theorem rOne_any (N : Nat) (a : Option Addr) (m cap : Nat) (hN : N ≤ 1000) (v : Nat) (hv : v < N) (t : Int) (w : World) :
    Calls Try.prog 60 #[gv N a m cap, .int .i64 (v : Int), .int .i64 t] w (fun e w' => ∃ p q, e = .returned (.slice p N q) ∧ IsAt w' p (setS N t [(v : Int)]) ∧ Below w.heap.size w w') := by
  have HS : Hid (setS N t [(v : Int)] = (List.replicate N 0).set v t) := Lib.hid rfl
  generalize setS N t [(v : Int)] = Z at *
  unfold gv
  obtain ⟨W, hW⟩ : ∃ W, W = w.alloc (Obj.cells #[.int .i64 (N : Int), .slice a m cap] 24) := ⟨_, rfl⟩
  have hB0 : Below w.heap.size w W := by rw [hW]; exact (Below.refl _ w).alloc (Nat.le_refl _) _
  have hG : Blk W w.heap.size 24 #[.int .i64 (N : Int), .slice a m cap] := by rw [hW]; exact Blk.new _ _ _
  have g0 := hG.cell 0
  simp only [List.getElem?_toArray, List.getElem?_cons_zero] at g0
  have hmk : (Instr.makeSlice 26 (.int .i64 (N : Int)) (.int .i64 (N : Int))).run Try.prog W = .ok (.slice (some ⟨W.heap.size, 0, none⟩) N N) (W.alloc (.cells (flat encI (List.replicate N 0)).toArray 3)) := make_scr N (by omega) _
  obtain ⟨W9, hW9⟩ : ∃ v, v = W.alloc (.cells (flat encI (List.replicate N 0)).toArray 3) := ⟨_, rfl⟩
  obtain ⟨g, hgg⟩ : ∃ v, v = W.heap.size := ⟨_, rfl⟩
  have hR0 : RowB encI 3 W9 g (List.replicate N 0) := by rw [hW9, hgg]; exact RowB.new _ _ _ _
  have HBL : Hid (Below w.heap.size w W9) := Lib.hid (by rw [hW9]; exact hB0.alloc hB0.size _)
  have HGE : Hid (w.heap.size ≤ g) := Lib.hid (by rw [hgg]; exact hB0.size)
  rw [← hW9, ← hgg] at hmk
  rw [hW] at g0 hmk
  have i1 : (v : Int) < (N : Int) := by omega
  have i2 : (0 : Int) ≤ (v : Int) := by omega
  have s1 := hR0.cell v (by rw [List.length_replicate]; exact hv)
  have s2 : W9.frozen? ⟨g, v, none⟩ = false := Blk.frozen hR0 v
  have HP : Hid (IsAt (W9.setCell ⟨g, v, none⟩ (.int .i64 t)) (some ⟨g, 0, none⟩) Z) := Lib.hid (by rw [HS.out]; exact (hR0.set v t).row encI_len)
  have HB : Hid (Below w.heap.size w (W9.setCell ⟨g, v, none⟩ (.int .i64 t))) := Lib.hid (HBL.out.setCell (p := ⟨g, v, none⟩) HGE.out _)
  generalize iAt (List.replicate N 0) v = old at s1
  clear hW hB0 hG hW9 hgg hR0 hv hN
  go_enter Try.func60, Try.ntmps60
  go_wp2
  go_ret
  first | exact ⟨some ⟨g, 0, none⟩, ⟨N, rfl⟩, HP.out, HB.out⟩ | exact ⟨some ⟨g, 0, none⟩, N, rfl, HP.out, HB.out⟩
set_option maxHeartbeats 12800000 in
set_option maxRecDepth 100000 in
theorem rOf_any (N : Nat) (a : Option Addr) (m cap : Nat) (hN : N ≤ 1000) (sa : Option Addr) (sc : Nat) (A : List Int) (hA : A.length ≤ 100000) (hr : ∀ i, i < A.length → 0 ≤ iAt A i ∧ iAt A i < N) (w : World) (hs : IsAt w sa A) :
    Calls Try.prog 61 #[gv N a m cap, .slice sa A.length sc] w (fun e w' => ∃ p q, e = .returned (.slice p N q) ∧ IsAt w' p (setS N 1 A) ∧ Below w.heap.size w w') := by
  have HS0 : Hid (setL N 1 A 0 = List.replicate N 0) := Lib.hid rfl
  have HSS : Hid (∀ k, setL N 1 A (k + 1) = (setL N 1 A k).set (iAt A k).toNat 1) := Lib.hid fun _ => rfl
  have HSL := Lib.hid (fun k => setL_len N 1 A k)
  have HSE : Hid (setL N 1 A A.length = setS N 1 A) := Lib.hid rfl
  have HHS := Lib.hid hs
  have HAR := Lib.hid hr
  generalize setS N 1 A = SS at *
  generalize setL N 1 A = Z at *
  unfold gv
  obtain ⟨W, hW⟩ : ∃ W, W = w.alloc (Obj.cells #[.int .i64 (N : Int), .slice a m cap] 24) := ⟨_, rfl⟩
  have hB0 : Below w.heap.size w W := by rw [hW]; exact (Below.refl _ w).alloc (Nat.le_refl _) _
  have hG : Blk W w.heap.size 24 #[.int .i64 (N : Int), .slice a m cap] := by rw [hW]; exact Blk.new _ _ _
  have g0 := hG.cell 0
  simp only [List.getElem?_toArray, List.getElem?_cons_zero] at g0
  have hmk : (Instr.makeSlice 26 (.int .i64 (N : Int)) (.int .i64 (N : Int))).run Try.prog W = .ok (.slice (some ⟨W.heap.size, 0, none⟩) N N) (W.alloc (.cells (flat encI (List.replicate N 0)).toArray 3)) := make_scr N (by omega) _
  obtain ⟨W9, hW9⟩ : ∃ v, v = W.alloc (.cells (flat encI (List.replicate N 0)).toArray 3) := ⟨_, rfl⟩
  obtain ⟨g, hgg⟩ : ∃ v, v = W.heap.size := ⟨_, rfl⟩
  have hR0 : RowB encI 3 W9 g (List.replicate N 0) := by rw [hW9, hgg]; exact RowB.new _ _ _ _
  have HBL : Hid (Below w.heap.size w W9) := Lib.hid (by rw [hW9]; exact hB0.alloc hB0.size _)
  have HGE : Hid (w.heap.size ≤ g) := Lib.hid (by rw [hgg]; exact hB0.size)
  rw [← hW9, ← hgg] at hmk
  rw [hW] at g0 hmk
  have HRB : Hid (RowB encI 3 W9 g (Z 0)) := Lib.hid (by rw [HS0.out]; exact hR0)
  clear hW hB0 hG hW9 hgg hR0 hN hs hr
  go_enter Try.func61, Try.ntmps61
  go_wp2
  go_loopw [6] (fun x wr => ∃ i : Nat, i ≤ A.length ∧ x = .int .i64 i ∧ RowB encI 3 wr g (Z i) ∧ Below w.heap.size w wr) (fun x _ => A.length - (intOf x).toNat)
  case atStart => exact ⟨0, by omega, rfl, HRB.out, HBL.out⟩
  case round =>
    obtain ⟨i, hi, rfl, hp, hb⟩ := hrel
    have HBR := Lib.hid hb
    by_cases hlt : i < A.length
    · have i1 : (i : Int) < (A.length : Int) := by omega
      have i2 : (0 : Int) ≤ (i : Int) := by omega
      have HLT := Lib.hid hlt
      obtain ⟨b1, o1, hb1, q1, x1⟩ := (HHS.out.keep hb).one i hlt
      subst hb1
      have har := HAR.out i hlt
      have HZI := Lib.hid (HSS.out i)
      have HQL := Lib.hid (HSL.out i)
      obtain ⟨u, hu⟩ : ∃ u : Nat, iAt A i = u := ⟨(iAt A i).toNat, by omega⟩
      rw [hu] at x1 har HZI
      rw [Int.toNat_natCast] at HZI
      have j1 : (u : Int) < (N : Int) := by omega
      have j2 : (0 : Int) ≤ (u : Int) := by omega
      have s1 := hp.cell u (by rw [HQL.out]; omega)
      have s2 : wr.frozen? ⟨g, u, none⟩ = false := Blk.frozen hp u
      have HPN : Hid (RowB encI 3 (wr.setCell ⟨g, u, none⟩ (.int .i64 1)) g (Z (i + 1))) := Lib.hid (by rw [HZI.out]; exact hp.set u 1)
      have HBN : Hid (Below w.heap.size w (wr.setCell ⟨g, u, none⟩ (.int .i64 1))) := Lib.hid (hb.setCell (p := ⟨g, u, none⟩) HGE.out _)
      generalize iAt (Z i) u = old at s1
      clear hp hb hu hlt har
      go_wp2
      go_roundw
      case rel => exact ⟨i + 1, by have := HLT.out; omega, by go_num, HPN.out, HBN.out⟩
      case measure => have := HLT.out; simp [intOf]; omega
    · obtain rfl : i = A.length := by omega
      have i1 : ¬ (A.length : Int) < (A.length : Int) := by omega
      rw [HSE.out] at hp
      have HPS : Hid (IsAt wr (some ⟨g, 0, none⟩) SS) := Lib.hid (hp.row encI_len)
      clear hp hb
      go_wp2
      go_ret
      first | exact ⟨some ⟨g, 0, none⟩, ⟨N, rfl⟩, HPS.out, HBR.out⟩ | exact ⟨some ⟨g, 0, none⟩, N, rfl, HPS.out, HBR.out⟩
end Go.Proofs.Ytgejkgeojjgclaa
