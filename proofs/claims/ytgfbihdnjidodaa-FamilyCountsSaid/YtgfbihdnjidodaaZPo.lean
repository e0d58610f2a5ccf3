/- FamilyCounts whole. -/
import Derived.Test.YtgfbihdnjidodaaZPm
import Derived.Test.YtgfbihdnjidodaaZPn
namespace Go.Proofs.Ytgfbihdnjidodaa
open Go.RowKit Go.Shelf Go.Proofs.Gr

theorem coT_parts {kind : Nat} {L : List Int} (h : coT kind L = true) (h7 : ¬ kind = 7) (hs : ¬ 10 < sizeG (famJ kind L)) (hn : ¬ 7 < famN kind L) : (((endsG (famJ kind L)).length : Int) = sizeG (famJ kind L)) ∧ (∀ p ∈ endsG (famJ kind L), (0 ≤ p.1 ∧ p.1 < (famN kind L : Nat)) ∧ 0 ≤ p.2 ∧ p.2 < (famN kind L : Nat)) ∧ ((enuN (famN kind L) (endsG (famJ kind L)) (endsG (famJ kind L)).length (2 ^ (endsG (famJ kind L)).length) : Nat) : Int) = prodI (cycM kind L) (cycM kind L).length := by
  unfold coT at h
  rw [decide_eq_false h7, decide_eq_false hs, decide_eq_false hn, Bool.false_or, Bool.false_or, Bool.false_or, Bool.and_eq_true, Bool.and_eq_true, decide_eq_true_eq, decide_eq_true_eq, List.all_eq_true] at h
  refine ⟨h.1, fun p hp => ?_, h.2.2⟩
  have := h.2.1 p hp
  rwa [decide_eq_true_eq] at this
theorem enum_any (N : Nat) (h1 : 1 ≤ N) (h2 : N ≤ 12) (J : List E) (hJ : J.length ≤ 100000) (hR : Right N J) (P : List (Int × Int)) (hPe : endsG J = P) (hP : (P.length : Int) = sizeG J) (hs : P.length ≤ 10) (hr : ∀ p ∈ P, (0 ≤ p.1 ∧ p.1 < (N : Int)) ∧ 0 ≤ p.2 ∧ p.2 < (N : Int)) (b : Option Addr) (c : Nat) (w : World) (h : EsAt w b J) :
    Calls Try.prog 19 #[.agg #[.int .i64 (N : Nat), .slice b J.length c]] w (fun e x => e = .returned (.int .i64 (enuN N P P.length (2 ^ P.length) : Nat)) ∧ Below w.heap.size w x) := by
  have hT : 2 ^ P.length ≤ 1024 := Nat.pow_le_pow_right (show 0 < 2 by omega) hs
  have hsl : ∀ u, (subL u P.length).length ≤ P.length := fun u => subL_len u P.length
  have hsr : ∀ u j, j < (subL u P.length).length → 0 ≤ iAt (subL u P.length) j ∧ iAt (subL u P.length) j < P.length := fun u j hj => by
    have := subL_mem u P.length _ (List.getElem_mem hj)
    rwa [iAt_get _ j hj] at this
  have hmem : ∀ u, ∀ p ∈ selP P (subL u P.length) (subL u P.length).length, (0 ≤ p.1 ∧ p.1 < (N : Int)) ∧ 0 ≤ p.2 ∧ p.2 < (N : Int) := fun u p hp =>
    hr p (selP_mem P (subL u P.length) _ (fun j hj => by have := hsr u j hj; omega) p hp)
  have hcnt : ∀ u x y, cntT (selP P (subL u P.length) (subL u P.length).length) (selP P (subL u P.length) (subL u P.length).length).length x y ≤ 50 := fun u x y => by
    have := (cntT_le (selP P (subL u P.length) (subL u P.length).length) (selP P (subL u P.length) (subL u P.length).length).length x y).2
    have h3 := selP_len P (subL u P.length) (subL u P.length).length
    have h4 := hsl u
    omega
  have hMk : ∀ u, Makes N (selP P (subL u P.length) (subL u P.length).length) N (mkW N P (subL u P.length)) 0 := fun u =>
    makes_right N h1 h2 _ (by rw [selP_len]; have := hsl u; omega) (hmem u) (hcnt u)
  refine renum_walk N ⟨h1, h2⟩ b c J P.length (2 ^ P.length) (by omega) ?_ (Lib.hid (rpower2_any P.length (by omega))) (fun u => subL u P.length) (Lib.hid fun u w hu => rsubsetN_any P.length u (by omega) hu w) (fun u => mkW N P (subL u P.length)) ?_ (fun u => decide (compsU (N : Nat) (mkW N P (subL u P.length)) = 1)) ?_ (enuN N P P.length) (Lib.hid rfl) (Lib.hid fun _ => rfl) (Lib.hid (enuN_le N P P.length)) w h
  · exact Lib.hid fun w h => by have := rsize_any N b c J hJ hR w h; rw [← hP] at this; exact this
  · refine Lib.hid fun u b2 c2 w _ h h2' => ?_
    have := rwith_any (N : Nat) b c J hJ hR b2 c2 (subL u P.length) (by have := hsl u; omega) (by rw [hPe]; exact hsr u) (N : Nat) (mkW N P (subL u P.length)) (Lib.hid (by rw [hPe]; exact (hMk u).2.2)) w h h2'
    refine this.mono ?_
    rintro e x ⟨a', c', rfl, he, -, hb⟩
    exact ⟨a', c', rfl, he, hb⟩
  · exact Lib.hid fun u a c w _ h => rconnected_any N (by omega) a c (mkW N P (subL u P.length)) (hMk u).1 (joinT_right _ _ h1 h2 (hcnt u)) w h
theorem countsF_any (z : Int) (a : Option Addr) (cap : Nat) (L : List Int) (w : World) (h : IsAt w a L) : Calls Try.prog 4 #[.int .i64 z, .slice a L.length cap] w (fun e x => e = .returned (.bool true) ∧ Below w.heap.size w x) := by
  by_cases hlen : 40 < L.length
  · exact counts_long z a cap L hlen w
  have hL : L.length ≤ 1000000 := by omega
  by_cases hz : z < 0 ∨ 8 < z
  · exact counts_wrong z 1 (by omega) a cap L hlen (fun w _ => rgiven_bad z hz a cap L.length w) w h
  obtain ⟨kind, rfl⟩ : ∃ kind : Nat, z = (kind : Int) := ⟨z.toNat, by omega⟩
  have hk : kind ≤ 8 := by omega
  by_cases h0 : famE kind L ≠ 0
  · exact counts_wrong _ _ h0 a cap L hlen (fun w h => rgiven_any kind hk a cap L hL w h) w h
  have h0 : famE kind L = 0 := by omega
  have hR := famJ_right hk h0
  have hJ := famJ_len hk h0
  obtain ⟨f1, f2, -, -, -⟩ := fam_facts hk h0
  have hck := right_chk hR
  have HG : Hid (∀ w, IsAt w a L → Calls Try.prog 15 #[.int .i64 (kind : Nat), .slice a L.length cap] w (fun e x => e = .returned (.int .i64 0) ∧ Below w.heap.size w x)) := Lib.hid fun w h => by
    have := rgiven_any kind hk a cap L hL w h
    rw [h0] at this
    exact this
  have HM := Lib.hid (fun w h => conMk kind L (famN kind L) (famJ kind L) hk hL h0 rfl rfl a cap w h)
  have HCK : Hid (∀ b c w, EsAt w b (famJ kind L) → Calls Try.prog 16 #[.agg #[.int .i64 (famN kind L : Nat), .slice b (famJ kind L).length c]] w (fun e x => e = .returned (.int .i64 0) ∧ Below w.heap.size w x)) := Lib.hid fun b c w h => by
    have := rcheck_any (famN kind L : Nat) b c (famJ kind L) (by omega) w h
    rw [hck] at this
    exact this
  have HSZ := Lib.hid (fun b c w h => rsize_any (famN kind L : Nat) b c (famJ kind L) hJ hR w h)
  by_cases hs : 10 < sizeG (famJ kind L)
  · exact counts_big kind a cap L hlen (famN kind L) (famJ kind L) _ hs HG HM HCK HSZ w h
  by_cases hn : 7 < famN kind L
  · exact counts_wide kind a cap L hlen (famN kind L) (famJ kind L) _ hs hn HG HM HCK HSZ w h
  by_cases h7 : kind = 7
  · have e1 : cycE kind L = 15 := by unfold cycE; rw [if_neg (by omega), if_pos h7]
    have e2 : cycM kind L = [] := by unfold cycM; rw [if_neg (fun hh => hh.2 h7)]
    have HTR := Lib.hid (fun w h => pTrees_of kind hk L hL 0 (by rw [if_neg (by omega)]) (fun i hi => prod_nil e2 i hi) a cap w h)
    rw [e1] at HTR
    exact counts_grid kind a cap L hlen (famN kind L) (famJ kind L) _ 0 15 hs hn (by omega) rfl HG HM HCK HSZ HTR w h
  · have e1 : cycE kind L = 0 := by unfold cycE; rw [if_neg (by omega), if_neg h7]
    obtain ⟨-, hcy⟩ := joT_parts (fam_joins kind hk L h0)
    obtain ⟨-, g2⟩ := hcy.resolve_left h7
    obtain ⟨k1, k2, k3⟩ := coT_parts (fam_counts kind hk L h0) h7 hs hn
    have HTR := Lib.hid (fun w h => conTr kind L _ hk hL e1 g2 k3.symm a cap w h)
    have HEN := Lib.hid (fun b c w h => enum_any (famN kind L) f1 f2 (famJ kind L) hJ hR (endsG (famJ kind L)) rfl k1 (by omega) k2 b c w h)
    exact counts_ok kind a cap L hlen (famN kind L) (famJ kind L) _ _ 0 hs hn (by omega) rfl HG HM HCK HSZ HTR HEN w h
end Go.Proofs.Ytgfbihdnjidodaa
