/- LegalSet and Legal of the program. -/
import Derived.Test.YtgejkgeojjgclaaFg
import Derived.Test.YtgejkgeojjgclaaFi
namespace Go.Proofs.Ytgejkgeojjgclaa
open Go.RowKit Go.Proofs.Gr Go.Proofs.Cp
attribute [local go_sem] Oper.semAt_some

/-- What LegalSet answers. -/
def legV (n : Int) (L : List E) (D A : List Int) : Bool := if setK n L D A = 0 then legB L D A else false
set_option maxHeartbeats 12800000 in
set_option maxRecDepth 100000 in
theorem pLegalSet_any (n : Int) (a : Option Addr) (cap : Nat) (L : List E) (hL : L.length ≤ 100000) (b : Option Addr) (c : Nat) (D : List Int) (hD : D.length ≤ 1000) (sa : Option Addr) (sc : Nat) (A : List Int) (hA : A.length ≤ 100000) (w : World) (h : EsAt w a L) (ho : IsAt w b D) (hs : IsAt w sa A) :
    Calls Try.prog 30 #[gv n a L.length cap, .slice b D.length c, .slice sa A.length sc] w (fun e w' => e = .returned (.tuple #[.bool (legV n L D A), .int .i64 (setK n L D A : Nat)]) ∧ Below w.heap.size w w') := by
  have HC := Lib.hid (fun w h ho hs => pckSet_any n a cap L hL b c D hD sa sc A hA w h ho hs)
  have HLG : Hid (setK n L D A = 0 → ∀ u, EsAt u a L → IsAt u b D → IsAt u sa A → Calls Try.prog 64 #[gv n a L.length cap, .slice b D.length c, .slice sa A.length sc] u (fun e w' => e = .returned (.bool (legB L D A)) ∧ Below u.heap.size u w')) := Lib.hid fun hz u h1 h2 h3 => by
    obtain ⟨hR, hd, hl⟩ := chkGD_zero (setK_zero hz).1
    have hr := (setK_zero hz).2
    subst hl
    exact pisLegal_any D.length a cap L hL hR b c D hd rfl sa sc A hA hr u h1 h2 h3
  have HV1 : Hid (setK n L D A ≠ 0 → legV n L D A = false) := Lib.hid fun h => by unfold legV; rw [if_neg h]
  have HV2 : Hid (setK n L D A = 0 → legV n L D A = legB L D A) := Lib.hid fun h => by unfold legV; rw [if_pos h]
  generalize setK n L D A = K at *
  generalize legB L D A = B at *
  generalize legV n L D A = V at *
  unfold gv at *
  obtain ⟨W, hW⟩ : ∃ W, W = w.alloc (Obj.cells #[.int .i64 n, .slice a L.length cap] 24) := ⟨_, rfl⟩
  have hB0 : Below w.heap.size w W := by rw [hW]; exact (Below.refl _ w).alloc (Nat.le_refl _) _
  have hG : Blk W w.heap.size 24 #[.int .i64 n, .slice a L.length cap] := by rw [hW]; exact Blk.new _ _ _
  have HW := Lib.hid hW
  have HB0 := Lib.hid hB0
  have HE1 := Lib.hid (h.keep hB0)
  have HF : Hid (∀ u, Below W.heap.size W u → u.cell? ⟨w.heap.size, 0, none⟩ = some (.int .i64 n) ∧ u.cell? ⟨w.heap.size, 1, none⟩ = some (.slice a L.length cap)) := Lib.hid fun u hu => ⟨(hG.below hu hG.lt).cell 0, (hG.below hu hG.lt).cell 1⟩
  obtain ⟨g0, g1⟩ := HF.out W (Below.refl _ _)
  have HHO := Lib.hid (ho.keep hB0)
  have HHS := Lib.hid (hs.keep hB0)
  rw [hW] at g0 g1
  clear ho hs hB0 hG hW h
  go_enter Try.func30, Try.ntmps30
  go_wp2_with fail
  rw [← HW.out]
  refine (HC.out _ HE1.out HHO.out HHS.out).mono ?_
  rintro e w1 ⟨rfl, hb⟩
  have HB1 := Lib.hid hb
  clear g0 g1
  obtain ⟨g0, g1⟩ := HF.out w1 hb
  clear hb
  by_cases hk : K ≠ 0
  · have q0 : (((K : Nat) : Int) != 0) = true := by rw [bne_iff_ne]; omega
    have HR := Lib.hid (HV1.out hk)
    clear hk
    go_wp2
    go_ret2
    exact ⟨by rw [HR.out]; rfl, HB0.out.trans (HB1.out.mono HB0.out.size)⟩
  · obtain rfl : K = 0 := by omega
    have HR := Lib.hid (HV2.out rfl)
    clear hk
    go_wp2_with fail
    refine (HLG.out (by trivial) w1 (HE1.out.keep HB1.out) (HHO.out.keep HB1.out) (HHS.out.keep HB1.out)).mono ?_
    rintro e w2 ⟨rfl, hb⟩
    have HB2 := Lib.hid (HB1.out.trans (hb.mono HB1.out.size))
    clear hb
    go_wp2
    go_ret2
    exact ⟨by rw [HR.out]; rfl, HB0.out.trans (HB2.out.mono HB0.out.size)⟩
set_option maxHeartbeats 12800000 in
set_option maxRecDepth 100000 in
theorem pLegal_any (n : Int) (a : Option Addr) (cap : Nat) (L : List E) (hL : L.length ≤ 100000) (b : Option Addr) (c : Nat) (D : List Int) (hD : D.length ≤ 1000) (v : Int) (w : World) (h : EsAt w a L) (ho : IsAt w b D) :
    Calls Try.prog 28 #[gv n a L.length cap, .slice b D.length c, .int .i64 v] w (fun e w' => e = .returned (.tuple #[.bool (legV n L D [v]), .int .i64 (setK n L D [v] : Nat)]) ∧ Below w.heap.size w w') := by
  obtain ⟨W, hW⟩ : ∃ W, W = w.alloc (Obj.cells #[.int .i64 n, .slice a L.length cap] 24) := ⟨_, rfl⟩
  obtain ⟨W2, hW2⟩ : ∃ V, V = W.alloc (Obj.cells #[.int .i64 v] 3) := ⟨_, rfl⟩
  have hB0 : Below w.heap.size w W := by rw [hW]; exact (Below.refl _ w).alloc (Nat.le_refl _) _
  have hB1 : Below W.heap.size W W2 := by rw [hW2]; exact (Below.refl _ W).alloc (Nat.le_refl _) _
  have hB2 : Below w.heap.size w W2 := hB0.trans (hB1.mono hB0.size)
  have hWs : W.heap.size = w.heap.size + 1 := by rw [hW]; simp
  have hG0 : Blk W w.heap.size 24 #[.int .i64 n, .slice a L.length cap] := by rw [hW]; exact Blk.new _ _ _
  have g0 := hG0.cell 0
  have g1 := hG0.cell 1
  simp only [List.getElem?_toArray, List.getElem?_cons_zero, List.getElem?_cons_succ] at g0 g1
  have hv : IsAt W2 (some ⟨w.heap.size + 1, 0, none⟩) [v] := by rw [hW2, ← hWs]; exact (RowB.new encI W 3 [v]).row encI_len
  have HC : Hid (Calls Try.prog 30 #[gv n a L.length cap, .slice b D.length c, .slice (some ⟨w.heap.size + 1, 0, none⟩) 1 1] W2 (fun e w' => e = .returned (.tuple #[.bool (legV n L D [v]), .int .i64 (setK n L D [v] : Nat)]) ∧ Below W2.heap.size W2 w')) := Lib.hid (pLegalSet_any n a cap L hL b c D hD (some ⟨w.heap.size + 1, 0, none⟩) 1 [v] (by simp) W2 (h.keep hB2) (ho.keep hB2) hv)
  have HW := Lib.hid hW
  have HW2 := Lib.hid hW2
  have HB2 := Lib.hid hB2
  unfold gv at *
  generalize legV n L D [v] = X at *
  generalize setK n L D [v] = K at *
  rw [hW] at g0 g1
  clear h ho hW hW2 hB0 hB1 hB2 hWs hG0 hv
  go_enter Try.func28, Try.ntmps28
  go_wp2_with fail
  rw [← HW.out, ← HW2.out]
  refine HC.out.mono ?_
  rintro e w1 ⟨rfl, hb⟩
  have HB := Lib.hid (HB2.out.trans (hb.mono HB2.out.size))
  clear hb
  go_wp2
  go_ret2
  exact ⟨rfl, HB.out⟩
end Go.Proofs.Ytgejkgeojjgclaa
