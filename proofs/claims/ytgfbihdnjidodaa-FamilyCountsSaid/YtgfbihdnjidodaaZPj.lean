/- FamilyJoins whole. -/
import Derived.Test.YtgfbihdnjidodaaZPi
namespace Go.Proofs.Ytgfbihdnjidodaa
open Go.RowKit Go.Shelf Go.Proofs.Gr

theorem joT_parts {kind : Nat} {L : List Int} (h : joT kind L = true) : (compsU (famN kind L : Nat) (famJ kind L) = 1 ∧ 0 ≤ sizeG (famJ kind L) ∧ sizeG (famJ kind L) ≤ 10000) ∧ (kind = 7 ∨ ((∀ x ∈ cycM kind L, 2 ≤ x) ∧ okP (cycM kind L) = true)) := by
  unfold joT at h
  rw [Bool.and_eq_true, Bool.or_eq_true, Bool.and_eq_true, decide_eq_true_eq, decide_eq_true_eq, List.all_eq_true] at h
  refine ⟨h.1, h.2.imp id fun h2 => ⟨fun x hx => ?_, h2.2⟩⟩
  have := h2.1 x hx
  simpa using this
theorem famJ_right {kind : Nat} (hk : kind ≤ 8) {L : List Int} (h : famE kind L = 0) : Right (famN kind L : Nat) (famJ kind L) := by
  obtain ⟨h1, h2, -, -, h5⟩ := fam_facts hk h
  obtain ⟨-, -, -, -, g5, -, -⟩ := goodP_of h5
  exact joinT_right _ _ h1 h2 g5
theorem prod_nil {M : List Int} (e : M = []) (i : Nat) (hi : i ≤ M.length) : 0 ≤ prodI M i ∧ prodI M i ≤ 4611686018427387904 := by
  subst e
  obtain rfl : i = 0 := by simpa using hi
  exact ⟨by decide, by decide⟩
theorem joinsF_any (z : Int) (a : Option Addr) (cap : Nat) (L : List Int) (w : World) (h : IsAt w a L) : Calls Try.prog 5 #[.int .i64 z, .slice a L.length cap] w (fun e x => e = .returned (.bool true) ∧ Below w.heap.size w x) := by
  by_cases hlen : 40 < L.length
  · exact joins_long z a cap L hlen w
  have hL : L.length ≤ 1000000 := by omega
  by_cases hz : z < 0 ∨ 8 < z
  · exact joins_wrong z 1 (by omega) a cap L hlen (fun w _ => rgiven_bad z hz a cap L.length w) w h
  obtain ⟨kind, rfl⟩ : ∃ kind : Nat, z = (kind : Int) := ⟨z.toNat, by omega⟩
  have hk : kind ≤ 8 := by omega
  by_cases h0 : famE kind L ≠ 0
  · exact joins_wrong _ _ h0 a cap L hlen (fun w h => rgiven_any kind hk a cap L hL w h) w h
  have h0 : famE kind L = 0 := by omega
  have hR := famJ_right hk h0
  have hJ := famJ_len hk h0
  obtain ⟨f1, f2, -, -, -⟩ := fam_facts hk h0
  obtain ⟨⟨hc, hs0, hs1⟩, hcy⟩ := joT_parts (fam_joins kind hk L h0)
  have hck := right_chk hR
  have hp1 : partsR (famJ kind L) (famN kind L) = 1 := by have := comps_parts hR; omega
  have HG : Hid (∀ w, IsAt w a L → Calls Try.prog 15 #[.int .i64 (kind : Nat), .slice a L.length cap] w (fun e x => e = .returned (.int .i64 0) ∧ Below w.heap.size w x)) := Lib.hid fun w h => by
    have := rgiven_any kind hk a cap L hL w h
    rw [h0] at this
    exact this
  have HM := Lib.hid (fun w h => conMk kind L (famN kind L) (famJ kind L) hk hL h0 rfl rfl a cap w h)
  have HGE := Lib.hid (fun w h => conGe kind L (famN kind L) (famJ kind L) _ hk hL h0 rfl rfl hJ hck rfl a cap w h)
  have HCK : Hid (∀ b c w, EsAt w b (famJ kind L) → Calls Try.prog 16 #[.agg #[.int .i64 (famN kind L : Nat), .slice b (famJ kind L).length c]] w (fun e x => e = .returned (.int .i64 0) ∧ Below w.heap.size w x)) := Lib.hid fun b c w h => by
    have := rcheck_any (famN kind L : Nat) b c (famJ kind L) (by omega) w h
    rw [hck] at this
    exact this
  have HCO := Lib.hid (fun b c w h => rconnected_one (famN kind L) (by omega) b c (famJ kind L) hJ hR hp1 w h)
  have HSZ := Lib.hid (fun b c w h => rsize_any (famN kind L : Nat) b c (famJ kind L) hJ hR w h)
  have hG : genU (famN kind L : Nat) (famJ kind L) = sizeG (famJ kind L) - (famN kind L : Nat) + 1 := by unfold genU; rw [hc]
  by_cases h7 : kind = 7
  · have e1 : cycE kind L = 15 := by unfold cycE; rw [if_neg (by omega), if_pos h7]
    have e2 : cycM kind L = [] := by unfold cycM; rw [if_neg (fun hh => hh.2 h7)]
    have HTR := Lib.hid (fun w h => pTrees_of kind hk L hL 0 (by rw [if_neg (by omega)]) (fun i hi => prod_nil e2 i hi) a cap w h)
    have HCY := Lib.hid (fun w h => pCyc_all kind hk a cap L hL w h)
    rw [e1] at HTR HCY
    exact joins_grid kind a cap L hlen (famN kind L) f2 (famJ kind L) (sizeG (famJ kind L)) _ 0 ⟨hs0, hs1⟩ hG 15 (cycM kind L) (by omega) rfl HG HM HGE HCK HCO HSZ HTR HCY w h
  · have e1 : cycE kind L = 0 := by unfold cycE; rw [if_neg (by omega), if_neg h7]
    obtain ⟨g1, g2⟩ := hcy.resolve_left h7
    have HTR := Lib.hid (fun w h => conTr kind L _ hk hL e1 g2 rfl a cap w h)
    have HCY := Lib.hid (fun w h => conCy kind L _ hk hL rfl e1 a cap w h)
    exact joins_ok kind a cap L hlen (famN kind L) f2 (famJ kind L) (sizeG (famJ kind L)) _ _ ⟨hs0, hs1⟩ hG 0 (cycM kind L) (by omega) rfl (fun i hi => by have := g1 _ (List.getElem_mem hi); rw [iAt_get _ i hi] at this; exact this) (okP_of g2) rfl (cycM_len kind L hk) HG HM HGE HCK HCO HSZ HTR HCY w h
end Go.Proofs.Ytgfbihdnjidodaa
