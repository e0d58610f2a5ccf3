/- Cut of the reference. -/
import Derived.Test.YtlnaahkheankoaaQ04
namespace Go.Proofs.Ytlnaahkheankoaa
open Go.RowKit Go.Proofs.Gr

/-- The numbers with a property, in order. -/
def cutI (f : Nat → Bool) : Nat → List Int
  | 0 => []
  | e + 1 => cutI f e ++ (if f e then [(e : Int)] else [])
theorem cutI_le (f : Nat → Bool) (n : Nat) : (cutI f n).length ≤ n := by
  induction n with
  | zero => simp [cutI]
  | succ n ih => rw [cutI, List.length_append]; split <;> simp <;> omega
/-- A single edge leads out of a set. -/
def outB (S : List Int) (p : Int × Int) : Bool := S.contains p.1 != S.contains p.2
/-- The cut of a set. -/
def cutG (L : List E) (S : List Int) : List Int := cutI (fun e => outB S (pAt (endsG L) e)) (endsG L).length
theorem ends_all {n : Int} {L : List E} (h : Right n L) : (endsG L).length ≤ 50 * L.length := by
  have := ends_le h L.length
  rwa [List.take_length] at this

set_option maxHeartbeats 12800000 in
set_option maxRecDepth 100000 in
theorem rcut_any (n : Int) (a : Option Addr) (cap : Nat) (L : List E) (hL : L.length ≤ 100000) (hR : Right n L) (b : Option Addr) (c : Nat) (S : List Int) (hS : S.length ≤ 100000) (w : World) (h : EsAt w a L) (hv : IsAt w b S) :
    Calls Try.prog 50 #[gv n a L.length cap, .slice b S.length c] w (GivesI w (cutG L S)) := by
  obtain ⟨i0, hi0, hz0, hz1, hz2⟩ := info_parts infoI
  have HC := Lib.hid (fun w h => rends_any n a cap L hL hR w h)
  have HH := Lib.hid (fun v w h => holds_any b c S hS v w h)
  have hle := ends_all hR
  have hCG : Hid (cutG L S = cutI (fun e => outB S (pAt (endsG L) e)) (endsG L).length) := Lib.hid rfl
  unfold GivesI
  unfold GivesP gv at *
  rw [hCG.out]
  obtain ⟨W, hW⟩ : ∃ W, W = w.alloc (Obj.cells #[.int .i64 n, .slice a L.length cap] 24) := ⟨_, rfl⟩
  have hB0 : Below w.heap.size w W := by rw [hW]; exact (Below.refl _ w).alloc (Nat.le_refl _) _
  have hG : Blk W w.heap.size 24 #[.int .i64 n, .slice a L.length cap] := by rw [hW]; exact Blk.new _ _ _
  have hWs : W.heap.size = w.heap.size + 1 := by rw [hW]; simp
  have HWS := Lib.hid hWs
  have HW := Lib.hid hW
  have HB0 := Lib.hid hB0
  have HG := Lib.hid hG
  have HE := Lib.hid (h.keep hB0)
  have g0 : W.cell? ⟨w.heap.size, 0, none⟩ = some (.int .i64 n) := hG.cell 0
  have g1 : W.cell? ⟨w.heap.size, 1, none⟩ = some (.slice a L.length cap) := hG.cell 1
  clear hB0 hG hW hWs
  have HVs := Lib.hid (hv.keep HB0.out)
  generalize endsG L = P at *
  have HST : Hid (∀ e, cutI (fun e => outB S (pAt P e)) (e + 1) = cutI (fun e => outB S (pAt P e)) e ++ (if outB S (pAt P e) then [(e : Int)] else [])) := Lib.hid fun e => rfl
  have HCL := Lib.hid (fun e => cutI_le (fun e => outB S (pAt P e)) e)
  have HZ0 : Hid (cutI (fun e => outB S (pAt P e)) 0 = []) := Lib.hid rfl
  generalize hF : cutI (fun e => outB S (pAt P e)) = F at *
  clear h hv hR hF hCG
  go_enter Try.func50, Try.ntmps50
  go_wp2_with fail
  rw [← HW.out]
  refine (HC.out _ HE.out).mono ?_
  rintro e w1 ⟨a', c', rfl, ht, hb⟩
  have HB1 := Lib.hid hb
  have HP := Lib.hid ht
  have g0' : w1.cell? ⟨w.heap.size, 0, none⟩ = some (.int .i64 n) := (HG.out.below hb HG.out.lt).cell 0
  have g1' : w1.cell? ⟨w.heap.size, 1, none⟩ = some (.slice a L.length cap) := (HG.out.below hb HG.out.lt).cell 1
  clear hb ht
  go_wp2
  go_loopw [5, 7] (fun s x wr => ∃ j : Nat, j ≤ P.length ∧ x = .int .i64 j ∧ wr.ownsRow w1.heap.size 3 1 s (F j).length (flat encI (F j)) ∧ Below w1.heap.size w1 wr) (fun _ x _ => P.length - (intOf x).toNat)
  case atStart => exact ⟨0, by omega, rfl, by rw [HZ0.out]; exact World.ownsRow_nil _ _ _ _, Below.refl _ _⟩
  case round =>
    obtain ⟨j, hj, rfl, hown, hb⟩ := hrel
    have HBr := Lib.hid hb
    have HOW := Lib.hid hown
    have HBW : Hid (Below W.heap.size W wr) := Lib.hid (HB1.out.trans (hb.mono HB1.out.size))
    by_cases hlt : j < P.length
    · obtain ⟨b1, o1, ha, q1, x1, x2⟩ := (HP.out.keep hb).two j hlt
      subst ha
      have hst := HST.out j
      have hcl := HCL.out j
      generalize F j = l at *
      have EO : Hid (outB S (pAt P j) = (S.contains (pAt P j).1 != S.contains (pAt P j).2)) := Lib.hid rfl
      generalize outB S (pAt P j) = o at *
      generalize pAt P j = T at *
      obtain ⟨ta, tb⟩ := T
      simp only at x1 x2
      have HH1 := Lib.hid (fun w h => HH.out ta w h)
      have HH2 := Lib.hid (fun w h => HH.out tb w h)
      have EO2 : Hid (o = (S.contains ta != S.contains tb)) := Lib.hid EO.out
      generalize S.contains ta = r1 at *
      generalize S.contains tb = r2 at *
      have HVw := Lib.hid (HVs.out.keep HBW.out)
      have i0' : (0 : Int) ≤ (j : Int) := by omega
      have i1 : (j : Int) < ((P.length : Nat) : Int) := by omega
      have HS : Hid (∀ x, Below wr.heap.size wr x → (Below wr.heap.size wr x ∧ x.cell? ⟨b1, o1 + j * 2, none⟩ = some (.int .i64 ta) ∧ x.cell? ⟨b1, o1 + j * 2 + 1, none⟩ = some (.int .i64 tb))) := fun x hx => ⟨hx, (hx.cell (p := ⟨b1, o1 + j * 2, none⟩) q1).trans x1, (hx.cell (p := ⟨b1, o1 + j * 2 + 1, none⟩) q1).trans x2⟩
      have HST2 := Lib.hid hst
      clear hb hown hst EO x1 x2
      cases r1
      · cases r2
        · have HO : o = false := by rw [EO2.out]; rfl
          have HS2 : Hid (F (j + 1) = l) := Lib.hid (by rw [HST2.out, HO]; simp)
          go_wp2
          have hk2 : Below wr.heap.size wr wr.drew := (Below.refl _ _).drew
          obtain ⟨_, f0, f1⟩ := HS.out _ hk2
          go_region_held3 (fun x => Below wr.heap.size wr x ∧ x.cell? ⟨b1, o1 + j * 2, none⟩ = some (.int .i64 ta) ∧ x.cell? ⟨b1, o1 + j * 2 + 1, none⟩ = some (.int .i64 tb))
            (first | exact HS.out _ (by assumption) | exact HS.out _ (Below.drew (by assumption)))
            (first | (go_at_call 80; (first | (with_reducible refine (HH1.out _ (HVw.out.keep hk2)).mono ?_) | (with_reducible refine (HH2.out _ (HVw.out.keep hk2)).mono ?_)); rintro e wz ⟨rfl, rfl⟩))
          obtain ⟨V, hV⟩ : ∃ V, V = wr.drew := ⟨_, rfl⟩
          have hkV : Below wr.heap.size wr V := by rw [hV]; exact (Below.refl _ _).drew
          rw [← hV]
          have HB2 : Hid (Below w1.heap.size w1 V) := Lib.hid (HBr.out.trans (hkV.mono HBr.out.size))
          have HOW1 := Lib.hid (own_keep HOW.out hkV)
          clear hk2 hkV hV f0 f1
          go_wp2
          go_roundw
          case rel => exact ⟨j + 1, by omega, by go_num, by rw [HS2.out]; exact HOW1.out, HB2.out⟩
          case measure => simp [intOf]; omega
        · have HO : o = true := by rw [EO2.out]; rfl
          have HS2 : Hid (F (j + 1) = l ++ [(j : Int)]) := Lib.hid (by rw [HST2.out, HO]; simp)
          go_wp2
          have hk2 : Below wr.heap.size wr wr.drew := (Below.refl _ _).drew
          obtain ⟨_, f0, f1⟩ := HS.out _ hk2
          go_region_held3 (fun x => Below wr.heap.size wr x ∧ x.cell? ⟨b1, o1 + j * 2, none⟩ = some (.int .i64 ta) ∧ x.cell? ⟨b1, o1 + j * 2 + 1, none⟩ = some (.int .i64 tb))
            (first | exact HS.out _ (by assumption) | exact HS.out _ (Below.drew (by assumption)))
            (first | (go_at_call 80; (first | (with_reducible refine (HH1.out _ (HVw.out.keep hk2)).mono ?_) | (with_reducible refine (HH2.out _ (HVw.out.keep hk2)).mono ?_)); rintro e wz ⟨rfl, rfl⟩))
          obtain ⟨V, hV⟩ : ∃ V, V = wr.drew := ⟨_, rfl⟩
          have hkV : Below wr.heap.size wr V := by rw [hV]; exact (Below.refl _ _).drew
          rw [← hV]
          have HB2 : Hid (Below w1.heap.size w1 V) := Lib.hid (HBr.out.trans (hkV.mono HBr.out.size))
          have HOW1 := Lib.hid (own_keep HOW.out hkV)
          clear hk2 hkV hV f0 f1
          go_wp2_with (at_builtin; refine wpList_append_own _ rfl _ _ 28 rfl w1.heap.size 3 i0 (.int .i64 0) 1 8 Try.underlying28 hi0 hz0 hz1 hz2 rfl (by decide) _ _ _ rfl (HOW1.out.alloc _) ⟨_, 0, none⟩ 1 1 [.int .i64 j] rfl rfl (lit_row _ _ _) (by simp [Value.oneCell']) (by unfold maxLen; omega) (by omega) (by rw [World.size_alloc]; have := HB2.out.size; omega) ?_; intro v1 w3 hown1 hgrow1 _; have hB3 : Below w1.heap.size w1 w3 := below_push (w := w1) HB2.out (fun k hk => (HOW1.out.lt k hk).1) hgrow1)
          have HOW3 : Hid (w3.ownsRow w1.heap.size 3 1 v1 (l ++ [(j : Int)]).length (flat encI (l ++ [(j : Int)]))) := by
            rw [List.length_append, flatI_snoc]
            exact hown1
          have HB3 := Lib.hid hB3
          clear hown1 hgrow1 hB3
          go_wp2
          go_roundw
          case rel => exact ⟨j + 1, by omega, by go_num, by rw [HS2.out]; exact HOW3.out, HB3.out⟩
          case measure => simp [intOf]; omega
      · cases r2
        · have HO : o = true := by rw [EO2.out]; rfl
          have HS2 : Hid (F (j + 1) = l ++ [(j : Int)]) := Lib.hid (by rw [HST2.out, HO]; simp)
          go_wp2
          have hk2 : Below wr.heap.size wr wr.drew := (Below.refl _ _).drew
          obtain ⟨_, f0, f1⟩ := HS.out _ hk2
          go_region_held3 (fun x => Below wr.heap.size wr x ∧ x.cell? ⟨b1, o1 + j * 2, none⟩ = some (.int .i64 ta) ∧ x.cell? ⟨b1, o1 + j * 2 + 1, none⟩ = some (.int .i64 tb))
            (first | exact HS.out _ (by assumption) | exact HS.out _ (Below.drew (by assumption)))
            (first | (go_at_call 80; (first | (with_reducible refine (HH1.out _ (HVw.out.keep hk2)).mono ?_) | (with_reducible refine (HH2.out _ (HVw.out.keep hk2)).mono ?_)); rintro e wz ⟨rfl, rfl⟩))
          obtain ⟨V, hV⟩ : ∃ V, V = wr.drew := ⟨_, rfl⟩
          have hkV : Below wr.heap.size wr V := by rw [hV]; exact (Below.refl _ _).drew
          rw [← hV]
          have HB2 : Hid (Below w1.heap.size w1 V) := Lib.hid (HBr.out.trans (hkV.mono HBr.out.size))
          have HOW1 := Lib.hid (own_keep HOW.out hkV)
          clear hk2 hkV hV f0 f1
          go_wp2_with (at_builtin; refine wpList_append_own _ rfl _ _ 28 rfl w1.heap.size 3 i0 (.int .i64 0) 1 8 Try.underlying28 hi0 hz0 hz1 hz2 rfl (by decide) _ _ _ rfl (HOW1.out.alloc _) ⟨_, 0, none⟩ 1 1 [.int .i64 j] rfl rfl (lit_row _ _ _) (by simp [Value.oneCell']) (by unfold maxLen; omega) (by omega) (by rw [World.size_alloc]; have := HB2.out.size; omega) ?_; intro v1 w3 hown1 hgrow1 _; have hB3 : Below w1.heap.size w1 w3 := below_push (w := w1) HB2.out (fun k hk => (HOW1.out.lt k hk).1) hgrow1)
          have HOW3 : Hid (w3.ownsRow w1.heap.size 3 1 v1 (l ++ [(j : Int)]).length (flat encI (l ++ [(j : Int)]))) := by
            rw [List.length_append, flatI_snoc]
            exact hown1
          have HB3 := Lib.hid hB3
          clear hown1 hgrow1 hB3
          go_wp2
          go_roundw
          case rel => exact ⟨j + 1, by omega, by go_num, by rw [HS2.out]; exact HOW3.out, HB3.out⟩
          case measure => simp [intOf]; omega
        · have HO : o = false := by rw [EO2.out]; rfl
          have HS2 : Hid (F (j + 1) = l) := Lib.hid (by rw [HST2.out, HO]; simp)
          go_wp2
          have hk2 : Below wr.heap.size wr wr.drew := (Below.refl _ _).drew
          obtain ⟨_, f0, f1⟩ := HS.out _ hk2
          go_region_held3 (fun x => Below wr.heap.size wr x ∧ x.cell? ⟨b1, o1 + j * 2, none⟩ = some (.int .i64 ta) ∧ x.cell? ⟨b1, o1 + j * 2 + 1, none⟩ = some (.int .i64 tb))
            (first | exact HS.out _ (by assumption) | exact HS.out _ (Below.drew (by assumption)))
            (first | (go_at_call 80; (first | (with_reducible refine (HH1.out _ (HVw.out.keep hk2)).mono ?_) | (with_reducible refine (HH2.out _ (HVw.out.keep hk2)).mono ?_)); rintro e wz ⟨rfl, rfl⟩))
          obtain ⟨V, hV⟩ : ∃ V, V = wr.drew := ⟨_, rfl⟩
          have hkV : Below wr.heap.size wr V := by rw [hV]; exact (Below.refl _ _).drew
          rw [← hV]
          have HB2 : Hid (Below w1.heap.size w1 V) := Lib.hid (HBr.out.trans (hkV.mono HBr.out.size))
          have HOW1 := Lib.hid (own_keep HOW.out hkV)
          clear hk2 hkV hV f0 f1
          go_wp2
          go_roundw
          case rel => exact ⟨j + 1, by omega, by go_num, by rw [HS2.out]; exact HOW1.out, HB2.out⟩
          case measure => simp [intOf]; omega
    · obtain rfl : j = P.length := by omega
      obtain ⟨a2, c2, e1, e2⟩ := RowAt.of_own encI_len HOW.out
      have E1 := Lib.hid e1
      have E2 := Lib.hid e2
      clear hb hown e1 e2
      go_wp2
      go_ret
      exact ⟨a2, c2, by rw [← E1.out]; rfl, E2.out, HB0.out.trans (HBW.out.mono HB0.out.size)⟩
end Go.Proofs.Ytlnaahkheankoaa
