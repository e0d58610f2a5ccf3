/- The law of orders, in numbers: the two ways end at the same graph. -/
import Derived.Test.YtndjjafpdiehdaaZMo
import Derived.Test.YtndjjafpdiehdaaQ16
namespace Go.Proofs.Ytndjjafpdiehdaa
open Go.RowKit Go.Shelf Go.Proofs.Gr

theorem sg_of {N : Nat} {L : List E} (hR : Right N L) {k : Nat} (hk : k < (endsG L).length) : sgE N L k = 0 := by
  unfold sgE
  rw [if_neg (by rw [right_chk hR]; simp), if_neg (by omega)]
theorem small_mk {n : Nat} {Q : List (Int × Int)} (hF : Fine n Q) : (mkG n Q).length ≤ 100000 := joinT_small _ _ (by have := hF.hi; omega)
theorem right_len {N : Nat} {L : List E} (hR : Right N L) : L.length ≤ 100000 := by
  have h : (mkG N (endsG L)).length ≤ 100000 := joinT_small _ _ (by have := hR.hi; omega)
  rw [mk_self hR] at h
  exact h
/-- Deleting, of any graph that is right. -/
theorem del_any {N : Nat} {L : List E} (hR : Right N L) (h9 : (endsG L).length ≤ 9) (e : Nat) (he : e < (endsG L).length) :
    Fine N (dropP (endsG L) e) ∧ endsG (mkG N (dropP (endsG L) e)) = dropP (endsG L) e ∧ ∀ a cap w, EsAt w a L → Calls Try.prog 13 #[.agg #[.int .i64 N, .slice a L.length cap], .int .i64 (e : Int)] w (fun e' w' => ∃ a1 c1, e' = .returned (.tuple #[.agg #[.int .i64 N, .slice a1 (mkG N (dropP (endsG L) e)).length c1], .int .i64 ((0 : Nat) : Int)]) ∧ EsAt w' a1 (mkG N (dropP (endsG L) e)) ∧ Below w.heap.size w w') := by
  have hF := fine_del hR h9 e
  have hl := hR.hi
  exact ⟨hF, ends_del hR e hF, fun a cap w h => pDelete_ok N a cap L (right_len hR) e (sg_of hR he) N _ 0 (makes_del hR (by omega) e he) w h⟩
/-- Contracting, of any graph that is right. -/
theorem con_any {N : Nat} {L : List E} (hR : Right N L) (h9 : (endsG L).length ≤ 9) (e : Nat) (he : e < (endsG L).length) (M : Nat) (hM : mgF (pAt (endsG L) e) N = M) :
    Fine M (mvP (mgF (pAt (endsG L) e)) (dropP (endsG L) e)) ∧ (endsG (mkG M (mvP (mgF (pAt (endsG L) e)) (dropP (endsG L) e)))).Perm (dropP (mvP (mgF (pAt (endsG L) e)) (endsG L)) e) ∧ ∀ a cap w, EsAt w a L → Calls Try.prog 15 #[.agg #[.int .i64 N, .slice a L.length cap], .int .i64 (e : Int)] w (fun e' w' => ∃ a1 c1, e' = .returned (.tuple #[.agg #[.int .i64 M, .slice a1 (mkG M (mvP (mgF (pAt (endsG L) e)) (dropP (endsG L) e))).length c1], .int .i64 ((0 : Nat) : Int)]) ∧ EsAt w' a1 (mkG M (mvP (mgF (pAt (endsG L) e)) (dropP (endsG L) e))) ∧ Below w.heap.size w w') := by
  have hF := fine_con hR h9 e he M hM
  exact ⟨hF, ends_con e _ hF, fun a cap w h => pContract_ok N a cap L (right_len hR) e (sg_of hR he) M _ 0 (makes_con hR h9 e he M hM) w h⟩
/-- The number of vertices behind contracting. -/
theorem con_n {N : Nat} {L : List E} (hR : Right N L) (e : Nat) (he : e < (endsG L).length) : ∃ M : Nat, mgF (pAt (endsG L) e) N = M := by
  have hpe := ends_in hR (pAt (endsG L) e) (by rw [← pAt_get _ e he]; exact List.getElem_mem _)
  have hfn := mgF_n (n := N) hpe.1 hpe.2
  exact ⟨(mgF (pAt (endsG L) e) N).toNat, by
    have : 0 ≤ mgF (pAt (endsG L) e) N := by rw [hfn]; split <;> omega
    omega⟩
theorem len_del {P : List (Int × Int)} {e : Nat} (he : e < P.length) (h9 : P.length ≤ 9) : (dropP P e).length ≤ 9 := by
  have := dropP_len P e he; omega
/-- Deleting two. -/
theorem del_del {N : Nat} {L : List E} (hR : Right N L) (h9 : (endsG L).length ≤ 9) {e f : Nat} (he : e < (endsG L).length) (hf : f < (endsG L).length) (hef : f ≠ e) :
    ∀ a cap w, EsAt w a (mkG N (dropP (endsG L) e)) → Calls Try.prog 13 #[.agg #[.int .i64 N, .slice a (mkG N (dropP (endsG L) e)).length cap], .int .i64 (nwI e f : Nat)] w (fun e' w' => ∃ a1 c1, e' = .returned (.tuple #[.agg #[.int .i64 N, .slice a1 (mkG N (dropP (dropP (endsG L) e) (nwI e f))).length c1], .int .i64 ((0 : Nat) : Int)]) ∧ EsAt w' a1 (mkG N (dropP (dropP (endsG L) e) (nwI e f))) ∧ Below w.heap.size w w') := by
  obtain ⟨hF, hX, -⟩ := del_any hR h9 e he
  have h1 := nw_at he hf hef
  have h2 := (del_any (mk_right hF) (by rw [hX]; exact len_del he h9) (nwI e f) (by rw [hX]; exact h1.1)).2.2
  rw [hX] at h2
  exact h2
/-- Deleting one, then contracting the other one. -/
theorem del_con {N : Nat} {L : List E} (hR : Right N L) (h9 : (endsG L).length ≤ 9) {e f : Nat} (he : e < (endsG L).length) (hf : f < (endsG L).length) (hef : f ≠ e) (M : Nat) (hM : mgF (pAt (endsG L) f) N = M) :
    ∀ a cap w, EsAt w a (mkG N (dropP (endsG L) e)) → Calls Try.prog 15 #[.agg #[.int .i64 N, .slice a (mkG N (dropP (endsG L) e)).length cap], .int .i64 (nwI e f : Nat)] w (fun e' w' => ∃ a1 c1, e' = .returned (.tuple #[.agg #[.int .i64 M, .slice a1 (mkG M (mvP (mgF (pAt (endsG L) f)) (dropP (dropP (endsG L) e) (nwI e f)))).length c1], .int .i64 ((0 : Nat) : Int)]) ∧ EsAt w' a1 (mkG M (mvP (mgF (pAt (endsG L) f)) (dropP (dropP (endsG L) e) (nwI e f)))) ∧ Below w.heap.size w w') := by
  obtain ⟨hF, hX, -⟩ := del_any hR h9 e he
  have h1 := nw_at he hf hef
  have h2 := (con_any (mk_right hF) (by rw [hX]; exact len_del he h9) (nwI e f) (by rw [hX]; exact h1.1) M (by rw [hX, h1.2]; exact hM)).2.2
  rw [hX, h1.2] at h2
  exact h2
/-- Where a single edge lies behind contracting, and what is left without it. -/
theorem con_left {N : Nat} {L : List E} (hR : Right N L) (h9 : (endsG L).length ≤ 9) {e f : Nat} (he : e < (endsG L).length) (hf : f < (endsG L).length) (hef : f ≠ e) (M : Nat) (hM : mgF (pAt (endsG L) e) N = M) (k : Nat) (hk : k = cntI (mvP (mgF (pAt (endsG L) e)) (endsG L)) e f (endsG L).length) :
    k < (endsG (mkG M (mvP (mgF (pAt (endsG L) e)) (dropP (endsG L) e)))).length ∧ pAt (endsG (mkG M (mvP (mgF (pAt (endsG L) e)) (dropP (endsG L) e)))) k = mvF (mgF (pAt (endsG L) e)) (pAt (endsG L) f) ∧
    (endsG (mkG M (mvP (mgF (pAt (endsG L) e)) (dropP (endsG L) e)))).length ≤ 9 ∧
    (dropP (endsG (mkG M (mvP (mgF (pAt (endsG L) e)) (dropP (endsG L) e)))) k).Perm (mvP (mgF (pAt (endsG L) e)) (dropP (dropP (endsG L) e) (nwI e f))) := by
  obtain ⟨hF, hY, -⟩ := con_any hR h9 e he M hM
  have hml : (mvP (mgF (pAt (endsG L) e)) (endsG L)).length = (endsG L).length := mvP_len _ _
  have h1 := place_at (Q := mvP (mgF (pAt (endsG L) e)) (endsG L)) (by rw [hml]; exact he) (by rw [hml]; exact hf) hef (ends_asc (mk_right hF)) hY
  rw [hml, ← hk] at h1
  have h2 := drop2_perm (Q := mvP (mgF (pAt (endsG L) e)) (endsG L)) (by rw [hml]; exact he) (by rw [hml]; exact hf) hef hY h1.1 h1.2
  rw [← mvP_drop, ← mvP_drop] at h2
  refine ⟨h1.1, ?_, ?_, h2⟩
  · rw [h1.2, mvP_at _ _ _ hf]
  · rw [hY.length_eq]; exact len_del (by rw [hml]; exact he) (by rw [hml]; exact h9)
/-- Contracting one, then deleting the other one. -/
theorem con_del {N : Nat} {L : List E} (hR : Right N L) (h9 : (endsG L).length ≤ 9) {e f : Nat} (he : e < (endsG L).length) (hf : f < (endsG L).length) (hef : f ≠ e) (M : Nat) (hM : mgF (pAt (endsG L) e) N = M) (k : Nat) (hk : k = cntI (mvP (mgF (pAt (endsG L) e)) (endsG L)) e f (endsG L).length) :
    ∀ a cap w, EsAt w a (mkG M (mvP (mgF (pAt (endsG L) e)) (dropP (endsG L) e))) → Calls Try.prog 13 #[.agg #[.int .i64 M, .slice a (mkG M (mvP (mgF (pAt (endsG L) e)) (dropP (endsG L) e))).length cap], .int .i64 (k : Nat)] w (fun e' w' => ∃ a1 c1, e' = .returned (.tuple #[.agg #[.int .i64 M, .slice a1 (mkG M (mvP (mgF (pAt (endsG L) e)) (dropP (dropP (endsG L) e) (nwI e f)))).length c1], .int .i64 ((0 : Nat) : Int)]) ∧ EsAt w' a1 (mkG M (mvP (mgF (pAt (endsG L) e)) (dropP (dropP (endsG L) e) (nwI e f)))) ∧ Below w.heap.size w w') := by
  obtain ⟨hF, -, -⟩ := con_any hR h9 e he M hM
  obtain ⟨h1, -, h3, h4⟩ := con_left hR h9 he hf hef M hM k hk
  obtain ⟨h5, -, h6⟩ := del_any (mk_right hF) h3 k h1
  rw [mk_perm h5.rng h4] at h6
  exact h6
/-- Contracting two. -/
theorem con_con {N : Nat} {L : List E} (hR : Right N L) (h9 : (endsG L).length ≤ 9) {e f : Nat} (he : e < (endsG L).length) (hf : f < (endsG L).length) (hef : f ≠ e) (M : Nat) (hM : mgF (pAt (endsG L) e) N = M) (k : Nat) (hk : k = cntI (mvP (mgF (pAt (endsG L) e)) (endsG L)) e f (endsG L).length)
    (F : Int → Int) (hF0 : ∀ v, F v = mgF (mvF (mgF (pAt (endsG L) e)) (pAt (endsG L) f)) (mgF (pAt (endsG L) e) v)) (M2 : Nat) (hM2 : F N = M2) :
    ∀ a cap w, EsAt w a (mkG M (mvP (mgF (pAt (endsG L) e)) (dropP (endsG L) e))) → Calls Try.prog 15 #[.agg #[.int .i64 M, .slice a (mkG M (mvP (mgF (pAt (endsG L) e)) (dropP (endsG L) e))).length cap], .int .i64 (k : Nat)] w (fun e' w' => ∃ a1 c1, e' = .returned (.tuple #[.agg #[.int .i64 M2, .slice a1 (mkG M2 (mvP F (dropP (dropP (endsG L) e) (nwI e f)))).length c1], .int .i64 ((0 : Nat) : Int)]) ∧ EsAt w' a1 (mkG M2 (mvP F (dropP (dropP (endsG L) e) (nwI e f)))) ∧ Below w.heap.size w w') := by
  obtain ⟨hF, -, -⟩ := con_any hR h9 e he M hM
  obtain ⟨h1, h2, h3, h4⟩ := con_left hR h9 he hf hef M hM k hk
  obtain ⟨h5, -, h6⟩ := con_any (mk_right hF) h3 k h1 M2 (by rw [h2, ← hM, ← hF0]; exact hM2)
  rw [h2] at h5 h6
  have h7 := h4.map (mvF (mgF (mvF (mgF (pAt (endsG L) e)) (pAt (endsG L) f))))
  have h8 : mkG M2 (mvP (mgF (mvF (mgF (pAt (endsG L) e)) (pAt (endsG L) f))) (dropP (endsG (mkG M (mvP (mgF (pAt (endsG L) e)) (dropP (endsG L) e)))) k)) = mkG M2 (mvP F (dropP (dropP (endsG L) e) (nwI e f))) := by
    rw [mk_perm h5.rng h7, show F = (fun v => mgF (mvF (mgF (pAt (endsG L) e)) (pAt (endsG L) f)) (mgF (pAt (endsG L) e) v)) from funext hF0]
    exact congrArg (mkG M2) (mvP_mvP (mgF (pAt (endsG L) e)) (mgF (mvF (mgF (pAt (endsG L) e)) (pAt (endsG L) f))) _)
  rw [h8] at h6
  exact h6
/-- A graph in which two ends are merged behind deleting is the one with the edge contracted. -/
theorem del_merge {N : Nat} {L : List E} (hR : Right N L) (h9 : (endsG L).length ≤ 9) (e : Nat) (he : e < (endsG L).length) (hpq : (pAt (endsG L) e).1 ≠ (pAt (endsG L) e).2) (M : Nat) (hM : mgF (pAt (endsG L) e) N = M) :
    ∀ a cap w, EsAt w a (mkG N (dropP (endsG L) e)) → Calls Try.prog 19 #[.agg #[.int .i64 N, .slice a (mkG N (dropP (endsG L) e)).length cap], .int .i64 (pAt (endsG L) e).1, .int .i64 (pAt (endsG L) e).2] w (fun e' w' => ∃ a1 c1, e' = .returned (.tuple #[.agg #[.int .i64 M, .slice a1 (mkG M (mvP (mgF (pAt (endsG L) e)) (dropP (endsG L) e))).length c1], .int .i64 ((0 : Nat) : Int)]) ∧ EsAt w' a1 (mkG M (mvP (mgF (pAt (endsG L) e)) (dropP (endsG L) e))) ∧ Below w.heap.size w w') := by
  obtain ⟨hF, hX, -⟩ := del_any hR h9 e he
  have hpe := ends_in hR (pAt (endsG L) e) (by rw [← pAt_get _ e he]; exact List.getElem_mem _)
  intro a cap w h
  refine pMerge_ok N a cap _ (small_mk hF) _ _ (right_chk (mk_right hF)) hpe.1 hpe.2 hpq M _ 0 ?_ w h
  rw [hX]
  exact makes_con hR h9 e he M hM
end Go.Proofs.Ytndjjafpdiehdaa
