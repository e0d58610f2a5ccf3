/- Apply of the program. -/
import Derived.Test.YtgejkgeojjgclaaFe
namespace Go.Proofs.Ytgejkgeojjgclaa
open Go.RowKit Go.Proofs.Gr Go.Proofs.Cp
attribute [local go_sem] Oper.semAt_some

def appK (n : Int) (L : List E) (D S : List Int) : Nat := if chkGD n L D ≠ 0 then chkGD n L D else chkGD n L S
set_option maxHeartbeats 12800000 in
set_option maxRecDepth 100000 in
theorem pApply_any (n : Int) (a : Option Addr) (cap : Nat) (L : List E) (hL : L.length ≤ 100000) (b : Option Addr) (c : Nat) (D : List Int) (hD : D.length ≤ 1000) (sa : Option Addr) (sc : Nat) (S : List Int) (hS : S.length ≤ 1000) (w : World) (h : EsAt w a L) (ho : IsAt w b D) (hs : IsAt w sa S) :
    Calls Try.prog 20 #[gv n a L.length cap, .slice b D.length c, .slice sa S.length sc] w (GivesIE w (resV (appK n L D S) D S L) (resK (appK n L D S) D S L)) := by
  have HC := Lib.hid (fun w h ho => pckD_any n a cap L hL b c D hD w h ho)
  have HC2 := Lib.hid (fun w h ho => pckS_any n a cap L hL sa sc S hS w h ho)
  have HAK : Hid (appK n L D S = if chkGD n L D ≠ 0 then chkGD n L D else chkGD n L S) := Lib.hid rfl
  have HX1 : Hid (appK n L D S ≠ 0 → resK (appK n L D S) D S L = appK n L D S ∧ resV (appK n L D S) D S L = []) := Lib.hid fun h => res_err _ _ _ h
  have HX2 : Hid (appK n L D S = 0 → resK (appK n L D S) D S L = chK D S L ∧ resV (appK n L D S) D S L = chV D S L) := Lib.hid fun h => res_ok _ _ _ h
  have HCH : Hid (chkGD n L D = 0 → chkGD n L S = 0 → ∀ u, EsAt u a L → IsAt u b D → IsAt u sa S → Calls Try.prog 50 #[gv n a L.length cap, .slice b D.length c, .slice sa S.length sc] u (GivesIE u (chV D S L) (chK D S L))) := Lib.hid fun hz hy u h1 h2 h3 => by
    obtain ⟨hR, hd, hl⟩ := chkGD_zero hz
    obtain ⟨-, hd2, hl2⟩ := chkGD_zero hy
    exact pchanged_gd n a cap L hL hR b c D hd hl sa sc S hd2 hl2 u h1 h2 h3
  unfold GivesN GivesIE gv at *
  generalize resK (appK n L D S) D S L = RK at *
  generalize resV (appK n L D S) D S L = RV at *
  generalize appK n L D S = ak at *
  generalize chkGD n L D = k at *
  generalize chkGD n L S = k2 at *
  generalize chV D S L = X at *
  generalize chK D S L = K at *
  obtain ⟨W, hW⟩ : ∃ W, W = w.alloc (Obj.cells #[.int .i64 n, .slice a L.length cap] 24) := ⟨_, rfl⟩
  have hB0 : Below w.heap.size w W := by rw [hW]; exact (Below.refl _ w).alloc (Nat.le_refl _) _
  have hG : Blk W w.heap.size 24 #[.int .i64 n, .slice a L.length cap] := by rw [hW]; exact Blk.new _ _ _
  have hWs : W.heap.size = w.heap.size + 1 := by rw [hW]; simp
  have HW := Lib.hid hW
  have HWS := Lib.hid hWs
  have HB0 := Lib.hid hB0
  have HE1 := Lib.hid (h.keep hB0)
  have HF : Hid (∀ u, Below W.heap.size W u → u.cell? ⟨w.heap.size, 0, none⟩ = some (.int .i64 n) ∧ u.cell? ⟨w.heap.size, 1, none⟩ = some (.slice a L.length cap)) := Lib.hid fun u hu => ⟨(hG.below hu hG.lt).cell 0, (hG.below hu hG.lt).cell 1⟩
  obtain ⟨g0, g1⟩ := HF.out W (Below.refl _ _)
  have HHO := Lib.hid (ho.keep hB0)
  have HHS := Lib.hid (hs.keep hB0)
  clear ho hs hB0 hG hW hWs h
  go_enter Try.func20, Try.ntmps20
  go_wp2_with fail
  rw [← HW.out]
  refine (HC.out _ HE1.out HHO.out).mono ?_
  rintro e w1 ⟨rfl, hb⟩
  have HB1 := Lib.hid hb
  clear g0 g1
  obtain ⟨g0, g1⟩ := HF.out w1 hb
  clear hb
  by_cases hk : k ≠ 0
  · have q0 : (((k : Nat) : Int) != 0) = true := by rw [bne_iff_ne]; omega
    have ha : ak = k := by rw [HAK.out, if_pos hk]
    rw [ha] at HX1
    have HR := Lib.hid (HX1.out hk)
    have HBE := Lib.hid (HB0.out.trans (HB1.out.mono HB0.out.size))
    clear hk ha
    go_wp2
    go_ret2
    exact ⟨none, 0, by rw [HR.out.1, HR.out.2]; rfl, by rw [HR.out.2]; exact RowAt.nil _ _ _ _, HBE.out⟩
  obtain rfl : k = 0 := by omega
  have ha : ak = k2 := by rw [HAK.out, if_neg hk]
  subst ha
  clear hk HC
  go_wp2_with fail
  refine (HC2.out _ (HE1.out.keep HB1.out) (HHS.out.keep HB1.out)).mono ?_
  rintro e w2 ⟨rfl, hb⟩
  have HB2 := Lib.hid (HB1.out.trans (hb.mono HB1.out.size))
  clear g0 g1 hb
  obtain ⟨g0, g1⟩ := HF.out w2 HB2.out
  by_cases hk : ak ≠ 0
  · have q0 : (((ak : Nat) : Int) != 0) = true := by rw [bne_iff_ne]; omega
    have HR := Lib.hid (HX1.out hk)
    have HBE := Lib.hid (HB0.out.trans (HB2.out.mono HB0.out.size))
    clear hk
    go_wp2
    go_ret2
    exact ⟨none, 0, by rw [HR.out.1, HR.out.2]; rfl, by rw [HR.out.2]; exact RowAt.nil _ _ _ _, HBE.out⟩
  obtain rfl : ak = 0 := by omega
  have HR := Lib.hid (HX2.out rfl)
  have HCH1 := Lib.hid (HCH.out (by first | exact rfl | trivial) (by first | exact rfl | trivial))
  clear hk HX1 HX2 HCH HC2
  go_wp2_with fail
  refine (HCH1.out w2 (HE1.out.keep HB2.out) (HHO.out.keep HB2.out) (HHS.out.keep HB2.out)).mono ?_
  rintro e w3 ⟨p9, q9, rfl, hr9, hb9⟩
  have HBE := Lib.hid (HB0.out.trans ((HB2.out.trans (hb9.mono HB2.out.size)).mono HB0.out.size))
  have HR9 := Lib.hid hr9
  clear hb9 hr9
  go_wp2
  go_ret2
  exact ⟨p9, q9, by rw [HR.out.1, HR.out.2]; rfl, by rw [HR.out.2]; exact HR9.out, HBE.out⟩
end Go.Proofs.Ytgejkgeojjgclaa
