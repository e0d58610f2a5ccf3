/- The law of moves, whole. -/
import Derived.Test.YtndjjafpdiehdaaZMm
import Derived.Test.YtndjjafpdiehdaaQ18
namespace Go.Proofs.Ytndjjafpdiehdaa
open Go.RowKit Go.Shelf Go.Proofs.Gr

/-- Which places are taken when the first s edges but one have gone there. -/
def setsB (m e : Nat) (k : Nat → Nat) : Nat → List Bool
  | 0 => List.replicate m false
  | s + 1 => if s = e then setsB m e k s else (setsB m e k s).set (k s) true
theorem setsB_len (m e : Nat) (k : Nat → Nat) (s : Nat) : (setsB m e k s).length = m := by
  induction s with
  | zero => unfold setsB; rw [List.length_replicate]
  | succ s ih =>
    unfold setsB
    split
    · exact ih
    · rw [List.length_set]; exact ih
theorem setsB_of {m e : Nat} {k : Nat → Nat} {s j : Nat} (h : bAt (setsB m e k s) j = true) : ∃ t, t < s ∧ t ≠ e ∧ k t = j := by
  induction s with
  | zero =>
    unfold setsB bAt at h
    rw [List.getD_eq_getElem?_getD, List.getElem?_replicate] at h
    split at h <;> simp at h
  | succ s ih =>
    unfold setsB at h
    split at h
    · obtain ⟨t, h1, h2⟩ := ih h
      exact ⟨t, by omega, h2⟩
    · by_cases hj : k s = j
      · exact ⟨s, by omega, by assumption, hj⟩
      · have h3 : bAt ((setsB m e k s).set (k s) true) j = bAt (setsB m e k s) j := by
          unfold bAt
          rw [List.getD_eq_getElem?_getD, List.getD_eq_getElem?_getD, List.getElem?_set_ne hj]
        rw [h3] at h
        obtain ⟨t, h1, h2⟩ := ih h
        exact ⟨t, by omega, h2⟩
theorem setsB_no {m e : Nat} {k : Nat → Nat} {s : Nat} (hs : s < m) (hse : s ≠ e) (hk : ∀ t u, t < m → u < m → t ≠ e → u ≠ e → k t = k u → t = u) : bAt (setsB m e k s) (k s) = false := by
  cases h : bAt (setsB m e k s) (k s) with
  | false => rfl
  | true =>
    obtain ⟨t, h1, h2, h3⟩ := setsB_of h
    have := hk t s (by omega) hs h2 hse h3
    omega
theorem mvF_min (f : Int → Int) (x y : Int) : mvF f (x, y) = (min (f x) (f y), max (f x) (f y)) := by
  unfold mvF mnP mxP
  refine Prod.ext ?_ ?_
  · show (if f y < f x then f y else f x) = min (f x) (f y); split <;> omega
  · show (if f x < f y then f y else f x) = max (f x) (f y); split <;> omega
theorem OneM {n : Int} {a : Option Addr} {cap : Nat} {L : List E} {e : Int} {b : Bool} (h : oneG n L e = b) : Hid (∀ w, EsAt w a L → Calls Try.prog 32 #[.agg #[.int .i64 n, .slice a L.length cap], .int .i64 e] w (fun e w' => e = .returned (.bool b) ∧ Below w.heap.size w w')) :=
  Lib.hid fun w hE => by have := one_any n a cap L e w hE; rw [h] at this; exact this
theorem moves_any (n : Int) (a : Option Addr) (cap : Nat) (L : List E) (e : Int) (w : World) (h : EsAt w a L) :
    Calls Try.prog 8 #[gv n a L.length cap, .int .i64 e] w (GivesB w true) := by
  cases hf : oneG n L e with
  | false => exact moves_dark n a cap L e (OneM hf) awakeC_any w h
  | true =>
    obtain ⟨hfew, hk, he0, he⟩ := one_of hf
    have hR := right_of hk
    have hlo := hR.lo
    have hhi := hR.hi
    have hL := few_len hfew
    have h9 := few_ends hfew hk
    have hsz := endsG_len hR.rng
    obtain ⟨N, rfl, -, -⟩ := nat_of_right hk
    obtain ⟨e, rfl⟩ := Int.eq_ofNat_of_zero_le he0
    have hep : e < (endsG L).length := by omega
    have hsg : sgE N L e = 0 := by unfold sgE; rw [if_neg (by omega), if_neg (by omega)]
    have hpe := ends_in hR (pAt (endsG L) e) (by rw [← pAt_get _ e hep]; exact List.getElem_mem _)
    have hfn := mgF_n (n := N) hpe.1 hpe.2
    obtain ⟨M, hM⟩ : ∃ M : Nat, mgF (pAt (endsG L) e) N = M := ⟨(mgF (pAt (endsG L) e) N).toNat, by
      have : 0 ≤ mgF (pAt (endsG L) e) N := by rw [hfn]; split <;> omega
      omega⟩
    have hFA := fine_del hR h9 e
    have hFB := fine_con hR h9 e hep M hM
    have hdl := dropP_len (endsG L) e hep
    have hJA : (mkG N (dropP (endsG L) e)).length ≤ 100000 := joinT_small _ _ (by omega)
    have hJB : (mkG M (mvP (mgF (pAt (endsG L) e)) (dropP (endsG L) e))).length ≤ 100000 := joinT_small _ _ (by have := hFB.hi; omega)
    have hXe := ends_del hR e hFA
    have hYp := ends_con e (mgF (pAt (endsG L) e)) hFB
    have hYs := ends_asc (mk_right hFB)
    have hA := plc_asc (ends_asc hR) e
    have HD := Lib.hid fun w h => pDelete_ok N a cap L (by omega) e hsg N _ 0 (makes_del hR (by omega) e hep) w h
    have HC := Lib.hid fun w h => pContract_ok N a cap L (by omega) e hsg M _ 0 (makes_con hR h9 e hep M hM) w h
    have HV := Lib.hid fun w h => pVertices_ok N a cap L (by omega) e hsg w h
    have HG := Lib.hid fun w h => pSingles_ok N a cap L (by omega) e hsg (by omega) w h
    have RK : ∀ (n : Nat) (J : List E), J.length ≤ 100000 → Right n J → Hid (∀ a c w, EsAt w a J → Calls Try.prog 37 #[.agg #[.int .i64 n, .slice a J.length c]] w (fun e w' => e = .returned (.int .i64 0) ∧ Below w.heap.size w w')) := fun n J hl hr => Lib.hid fun a c w h => by have := rcheck_any n a c J (by omega) w h; rw [right_chk hr] at this; exact this
    have RE : ∀ (n : Nat) (J : List E), J.length ≤ 100000 → Right n J → Hid (∀ a c w, EsAt w a J → Calls Try.prog 34 #[.agg #[.int .i64 n, .slice a J.length c]] w (fun e w' => ∃ b d, e = .returned (.slice b (endsG J).length d) ∧ PsAt w' b (endsG J) ∧ Below w.heap.size w w')) := fun n J hl hr => Lib.hid fun a c w h => rends_any n a c J hl hr w h
    have hYl : (endsG (mkG M (mvP (mgF (pAt (endsG L) e)) (dropP (endsG L) e)))).length + 1 = (endsG L).length := by
      rw [hYp.length_eq]
      have := dropP_len (mvP (mgF (pAt (endsG L) e)) (endsG L)) e (by rw [mvP_len]; exact hep)
      rw [mvP_len] at this
      exact this
    have HEA := RE N _ hJA (mk_right hFA)
    rw [hXe] at HEA
    rw [hA] at HG
    have hka : ∀ s, s < (endsG L).length → s ≠ e → iAt (lessL (endsG L).length e) s = ((iAt (lessL (endsG L).length e) s).toNat : Int) ∧ (iAt (lessL (endsG L).length e) s).toNat < (dropP (endsG L) e).length ∧ pAt (dropP (endsG L) e) (iAt (lessL (endsG L).length e) s).toNat = pAt (endsG L) s := by
      intro s hs hse
      obtain ⟨k, h1, h2, h3⟩ := less_at (P := endsG L) hs hse
      rw [if_pos hep] at h2
      have h4 : (iAt (lessL (endsG L).length e) s).toNat = k := by omega
      rw [h4]
      refine ⟨h1, by omega, ?_⟩
      unfold pAt
      rw [List.getD_eq_getElem?_getD, List.getD_eq_getElem?_getD, h3]
    have hin : ∀ s, s < (endsG L).length → pAt (endsG L) s = (((pAt (endsG L) s).1.toNat : Int), ((pAt (endsG L) s).2.toNat : Int)) ∧ (pAt (endsG L) s).1.toNat < N ∧ (pAt (endsG L) s).2.toNat < N := by
      intro s hs
      have h1 := ends_in hR (pAt (endsG L) s) (by rw [← pAt_get _ s hs]; exact List.getElem_mem _)
      refine ⟨?_, by omega, by omega⟩
      refine Prod.ext ?_ ?_
      · show _ = ((pAt (endsG L) s).1.toNat : Int); omega
      · show _ = ((pAt (endsG L) s).2.toNat : Int); omega
    have hml : (mvP (mgF (pAt (endsG L) e)) (endsG L)).length = (endsG L).length := mvP_len _ _
    refine moves_ok N a cap L e _ _ M (endsG L) (dropP (endsG L) e) (endsG (mkG M (mvP (mgF (pAt (endsG L) e)) (dropP (endsG L) e)))) _ _ _ hep (by omega) (by rw [plL_len]) (by rw [lessL_len]) (by rw [plc_len, hml]) hdl hYl
      (fun s => (iAt (lessL (endsG L).length e) s).toNat) (fun s => cntI (mvP (mgF (pAt (endsG L) e)) (endsG L)) e s (mvP (mgF (pAt (endsG L) e)) (endsG L)).length)
      (fun s => (pAt (endsG L) s).1.toNat) (fun s => (pAt (endsG L) s).2.toNat)
      (setsB (endsG L).length e fun s => (iAt (lessL (endsG L).length e) s).toNat) (setsB (endsG L).length e fun s => cntI (mvP (mgF (pAt (endsG L) e)) (endsG L)) e s (mvP (mgF (pAt (endsG L) e)) (endsG L)).length)
      (Lib.hid ?_) (Lib.hid ?_) (Lib.hid ?_) (Lib.hid hka) (Lib.hid ?_) (Lib.hid fun s => ⟨setsB_len _ _ _ s, setsB_len _ _ _ s⟩) (Lib.hid ⟨rfl, rfl⟩) (Lib.hid ?_) (Lib.hid ?_) (Lib.hid ?_)
      (OneM hf) awakeC_any HD HC HV HG (RK N _ hJA (mk_right hFA)) (RK M _ hJB (mk_right hFB)) (RE N L (by omega) hR) HEA (RE M _ hJB (mk_right hFB)) w h
    · rw [lessL_at _ _ _ hep, if_pos rfl]
    · rw [plc_at _ _ _ (by rw [hml]; exact hep), if_pos rfl]
    · intro s hs
      obtain ⟨h1, h2, h3⟩ := hin s hs
      rw [plL_len]
      exact ⟨h1, h2, h3⟩
    · intro s hs hse
      obtain ⟨h1, h2, h3⟩ := hin s hs
      have h4 := place_at (Q := mvP (mgF (pAt (endsG L) e)) (endsG L)) (by rw [hml]; exact hep) (by rw [hml]; exact hs) hse hYs hYp
      refine ⟨?_, h4.1, ?_⟩
      · rw [plc_at _ _ _ (by rw [hml]; exact hs), if_neg hse]
      · rw [h4.2, mvP_at _ _ _ hs, plL_at _ _ _ h2, plL_at _ _ _ h3]
        conv => lhs; rw [h1]
        exact mvF_min _ _ _
    · constructor <;> (conv => lhs; unfold setsB) <;> rw [if_pos rfl]
    · intro s hs hse
      constructor <;> (conv => lhs; unfold setsB) <;> rw [if_neg hse]
    · intro s hs hse
      refine ⟨setsB_no hs hse fun t u ht hu hte hue hh => ?_, setsB_no hs hse fun t u ht hu hte hue hh => ?_⟩
      · have h1 := (hka t ht hte).1
        have h2 := (hka u hu hue).1
        exact less_inj ht hu hte hue (by rw [h1, h2]; exact congrArg Int.ofNat hh)
      · exact place_inj (by rw [hml]; exact ht) (by rw [hml]; exact hu) hte hue hh
end Go.Proofs.Ytndjjafpdiehdaa
