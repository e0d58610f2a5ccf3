/- The laws of numbers, of collecting, of refining and of changes, whole. -/
import Derived.Test.YtndjjafpdiehdaaZMe
import Derived.Test.YtndjjafpdiehdaaQ18
import Derived.Test.YtndjjafpdiehdaaQ16
namespace Go.Proofs.Ytndjjafpdiehdaa
open Go.RowKit Go.Shelf Go.Proofs.Gr

theorem numbers_any (n : Int) (a : Option Addr) (cap : Nat) (L : List E) (e : Int) (w : World) (h : EsAt w a L) :
    Calls Try.prog 4 #[gv n a L.length cap, .int .i64 e] w (GivesB w true) := by
  cases hf : fewG n L with
  | false => exact numbers_dark n a cap L e (FewHid hf) awakeC_any w h
  | true =>
    have hl := few_len hf
    by_cases hk : sgE n L e = 0
    · obtain ⟨h0, he0, he⟩ := sgE_zero hk
      have h9 := few_ends hf h0
      obtain ⟨N, rfl, -, -⟩ := nat_of_right h0
      obtain ⟨e, rfl⟩ := Int.eq_ofNat_of_zero_le he0
      exact numbers_of N a cap L e (plc (endsG L) e) (plc (mvP (mgF (pAt (endsG L) e)) (endsG L)) e) (by rw [plc_len]; omega) (by rw [plc_len, mvP_len]; omega) 0 (FewHid hf) awakeC_any
        (Lib.hid fun w h => pSingles_ok N a cap L (by omega) e hk (by omega) w h) (Lib.hid fun w h => rSingles_ok N a cap L (by omega) e hk (by omega) w h) w h
    · exact numbers_of n a cap L e [] [] (by simp) (by simp) (sgE n L e) (FewHid hf) awakeC_any
        (Lib.hid fun w h => pSingles_err n a cap L (by omega) e hk w h) (Lib.hid fun w h => rSingles_err n a cap L (by omega) e hk w h) w h
theorem dv_len {n : Int} {D : List Int} (h : dvE n D = 0) : (D.length : Int) = n := by
  unfold dvE at h
  split at h
  · omega
  · omega
theorem collects_any (n : Int) (a : Option Addr) (cap : Nat) (L : List E) (e : Int) (b : Option Addr) (c : Nat) (D : List Int) (w : World) (h : EsAt w a L) (hd : IsAt w b D) :
    Calls Try.prog 6 #[gv n a L.length cap, .int .i64 e, .slice b D.length c] w (GivesB w true) := by
  cases hf : fewG n L with
  | false => exact collects_dark n a cap L e b c D (FewHid hf) awakeC_any w h hd
  | true =>
    have hl := few_len hf
    by_cases hD : 40 < D.length
    · exact collects_long n a cap L e b c D hD (FewHid hf) awakeC_any w h hd
    by_cases hk : sgE n L e = 0
    · by_cases hv : dvE n D = 0
      · obtain ⟨h0, he0, he⟩ := sgE_zero hk
        obtain ⟨N, rfl, -, -⟩ := nat_of_right h0
        obtain ⟨e, rfl⟩ := Int.eq_ofNat_of_zero_le he0
        have hpe := ends_in (right_of h0) (pAt (endsG L) e) (by rw [← pAt_get _ e (by omega)]; exact List.getElem_mem _)
        have hfn := mgF_n (n := N) hpe.1 hpe.2
        have hM : (mgF (pAt (endsG L) e) N).toNat ≤ 12 := by
          have := chkG_n h0
          rw [hfn]; split <;> omega
        have hA : (colR (mgF (pAt (endsG L) e)) D (mgF (pAt (endsG L) e) N).toNat).length ≤ 100000 := by
          unfold colR
          split
          · rw [colL_len]; omega
          · simp
        exact collects_of N a cap L e b c D (by omega) _ hA _ (FewHid hf) awakeC_any
          (Lib.hid fun w h hd => pCol_ok N a cap L (by omega) e b c D (by omega) hk hv w h hd) (Lib.hid fun w h hd => rCol_ok N a cap L (by omega) e b c D (by omega) hk hv w h hd) w h hd
      · exact collects_of n a cap L e b c D (by omega) [] (by simp) (dvE n D) (FewHid hf) awakeC_any
          (Lib.hid fun w h hd => pCol_dv n a cap L (by omega) e b c D (by omega) hk hv w h hd) (Lib.hid fun w h hd => rCol_dv n a cap L (by omega) e b c D (by omega) hk hv w h hd) w h hd
    · exact collects_of n a cap L e b c D (by omega) [] (by simp) (sgE n L e) (FewHid hf) awakeC_any
        (Lib.hid fun w h _ => pCol_sg n a cap L (by omega) e b c D hk w h) (Lib.hid fun w h _ => rCol_sg n a cap L (by omega) e b c D hk w h) w h hd
theorem refines_any (n : Int) (a : Option Addr) (cap : Nat) (L : List E) (k : Int) (b : Option Addr) (c : Nat) (D : List Int) (w : World) (h : EsAt w a L) (hd : IsAt w b D) :
    Calls Try.prog 5 #[gv n a L.length cap, .int .i64 k, .slice b D.length c] w (GivesB w true) := by
  cases hf : fewG n L with
  | false => exact refines_dark n a cap L k b c D (FewHid hf) awakeC_any w h hd
  | true =>
    have hl := few_len hf
    by_cases hD : 40 < D.length
    · exact refines_long n a cap L k b c D hD (FewHid hf) awakeC_any w h hd
    by_cases hk : subKE n L k = 0
    · obtain ⟨h0, q, hq, rfl, hx⟩ := subKE_zero hk
      have hR := right_of h0
      have h9 := few_ends hf h0
      obtain ⟨N, hN⟩ : ∃ N : Nat, n + (q : Int) * (endsG L).length = N := ⟨(n + (q : Int) * (endsG L).length).toNat, by
        have := hR.lo
        have : 0 ≤ (q : Int) * ((endsG L).length : Int) := Int.mul_nonneg (by omega) (by omega)
        omega⟩
      have hm := makes_sub hR (by omega) q N hN (by omega)
      have hJ := hm.1
      by_cases hv : dvE n D = 0
      · have hdl := dv_len hv
        exact refines_of n a cap L ((q : Int) + 1) b c D (by omega) _ _ hJ 0 (D ++ List.replicate (q * (endsG L).length) 0) (by
            have : q * (endsG L).length ≤ 11 * 9 := Nat.mul_le_mul hq h9
            rw [List.length_append, List.length_replicate]; omega) 0 (FewHid hf) awakeC_any
          (Lib.hid fun w h => pSub_ok n a cap L (by omega) q hq h0 hx _ _ 0 hm w h) (Lib.hid fun w h => rSub_ok n a cap L (by omega) q hk _ _ 0 hm w h)
          (Lib.hid fun w h hd => pSpr_ok n a cap L (by omega) q b c D (by omega) (by omega) hk hv w h hd) (Lib.hid fun w h hd => rSpr_ok n a cap L (by omega) q b c D (by omega) hk hv w h hd) w h hd
      · exact refines_of n a cap L ((q : Int) + 1) b c D (by omega) _ _ hJ 0 [] (by simp) (dvE n D) (FewHid hf) awakeC_any
          (Lib.hid fun w h => pSub_ok n a cap L (by omega) q hq h0 hx _ _ 0 hm w h) (Lib.hid fun w h => rSub_ok n a cap L (by omega) q hk _ _ 0 hm w h)
          (Lib.hid fun w h hd => pSpr_dv n a cap L (by omega) ((q : Int) + 1) b c D (by omega) (by omega) hk hv w h hd) (Lib.hid fun w h hd => rSpr_dv n a cap L (by omega) ((q : Int) + 1) b c D (by omega) hk hv w h hd) w h hd
    · exact refines_of n a cap L k b c D (by omega) 0 [] (by simp) (subKE n L k) [] (by simp) (subKE n L k) (FewHid hf) awakeC_any
        (Lib.hid fun w h => pSub_err n a cap L (by omega) k hk w h) (Lib.hid fun w h => rSub_err n a cap L (by omega) k hk w h)
        (Lib.hid fun w h _ => pSpr_sub n a cap L (by omega) k b c D hk w h) (Lib.hid fun w h _ => rSpr_sub n a cap L (by omega) k b c D hk w h) w h hd
theorem del_both (n : Int) (L : List E) (hL : L.length ≤ 100000) (e : Int) (hb : chkG n L = 0 → (endsG L).length ≤ 4096) : ∃ m J k, List.length J ≤ 100000 ∧ (∀ a cap w, EsAt w a L → Calls Try.prog 13 #[gv n a L.length cap, .int .i64 e] w (GivesGW w m J k)) ∧ (∀ a cap w, EsAt w a L → Calls Try.prog 14 #[gv n a L.length cap, .int .i64 e] w (GivesGW w m J k)) := by
  by_cases hk : sgE n L e = 0
  · obtain ⟨h0, he0, he⟩ := sgE_zero hk
    obtain ⟨N, rfl, -, -⟩ := nat_of_right h0
    obtain ⟨e, rfl⟩ := Int.eq_ofNat_of_zero_le he0
    have hm := makes_del (right_of h0) (hb h0) e (by omega)
    exact ⟨_, _, _, hm.1, fun a cap w h => pDelete_ok N a cap L hL e hk _ _ _ hm w h, fun a cap w h => rDelete_ok N a cap L hL e hk _ _ hm w h⟩
  · exact ⟨_, _, _, by simp, fun a cap w h => pDelete_err n a cap L hL e hk w h, fun a cap w h => rDelete_err n a cap L hL e hk w h⟩
theorem con_both (n : Int) (L : List E) (hL : L.length ≤ 100000) (e : Int) (hb : chkG n L = 0 → (endsG L).length ≤ 4096) : ∃ m J k, List.length J ≤ 100000 ∧ (∀ a cap w, EsAt w a L → Calls Try.prog 15 #[gv n a L.length cap, .int .i64 e] w (GivesGW w m J k)) ∧ (∀ a cap w, EsAt w a L → Calls Try.prog 16 #[gv n a L.length cap, .int .i64 e] w (GivesGW w m J k)) := by
  by_cases hk : sgE n L e = 0
  · obtain ⟨h0, he0, he⟩ := sgE_zero hk
    obtain ⟨N, rfl, -, -⟩ := nat_of_right h0
    obtain ⟨e, rfl⟩ := Int.eq_ofNat_of_zero_le he0
    have := hb h0
    obtain ⟨m, J, k, hm⟩ := makes_some (mgF (pAt (endsG L) e) N) (mvP (mgF (pAt (endsG L) e)) (dropP (endsG L) e)) (by rw [mvP_len]; have := dropP_len (endsG L) e (by omega); omega)
    exact ⟨m, J, k, hm.1, fun a cap w h => pContract_ok N a cap L hL e hk m J k hm w h, fun a cap w h => rContract_ok N a cap L hL e hk m J k hm w h⟩
  · exact ⟨_, _, _, by simp, fun a cap w h => pContract_err n a cap L hL e hk w h, fun a cap w h => rContract_err n a cap L hL e hk w h⟩
theorem ver_both (n : Int) (L : List E) (hL : L.length ≤ 100000) (e : Int) : ∃ V k, List.length V ≤ 100000 ∧ (∀ a cap w, EsAt w a L → Calls Try.prog 17 #[gv n a L.length cap, .int .i64 e] w (GivesIK w V k)) ∧ (∀ a cap w, EsAt w a L → Calls Try.prog 18 #[gv n a L.length cap, .int .i64 e] w (GivesIK w V k)) := by
  by_cases hk : sgE n L e = 0
  · obtain ⟨h0, he0, he⟩ := sgE_zero hk
    obtain ⟨N, rfl, -, -⟩ := nat_of_right h0
    obtain ⟨e, rfl⟩ := Int.eq_ofNat_of_zero_le he0
    have := chkG_n h0
    exact ⟨_, _, by rw [plL_len]; omega, fun a cap w h => pVertices_ok N a cap L hL e hk w h, fun a cap w h => rVertices_ok N a cap L hL e hk w h⟩
  · exact ⟨_, _, by simp, fun a cap w h => pVertices_err n a cap L hL e hk w h, fun a cap w h => rVertices_err n a cap L hL e hk w h⟩
theorem mer_both (n : Int) (L : List E) (hL : L.length ≤ 100000) (x y : Int) (hb : chkG n L = 0 → (endsG L).length ≤ 4096) : ∃ m J k, List.length J ≤ 100000 ∧ (∀ a cap w, EsAt w a L → Calls Try.prog 19 #[gv n a L.length cap, .int .i64 x, .int .i64 y] w (GivesGW w m J k)) ∧ (∀ a cap w, EsAt w a L → Calls Try.prog 20 #[gv n a L.length cap, .int .i64 x, .int .i64 y] w (GivesGW w m J k)) := by
  by_cases hk : chkG n L = 0
  · obtain ⟨N, rfl, -, -⟩ := nat_of_right hk
    have h1 := hb hk
    by_cases hx : 0 ≤ x ∧ x < N
    · by_cases hy : 0 ≤ y ∧ y < N
      · by_cases hxy : x = y
        · subst hxy
          exact ⟨_, _, _, by simp, fun a cap w h => pMerge_same N a cap L hL x hk hx w h, fun a cap w h => rMerge_same N a cap L hL x hk hx w h⟩
        · obtain ⟨m, J, k, hm⟩ := makes_some (mgF (x, y) N) (mvP (mgF (x, y)) (endsG L)) (by rw [mvP_len]; omega)
          exact ⟨m, J, k, hm.1, fun a cap w h => pMerge_ok N a cap L hL x y hk hx hy hxy m J k hm w h, fun a cap w h => rMerge_ok N a cap L hL x y hk hx hy hxy m J k hm w h⟩
      · exact ⟨_, _, _, by simp, fun a cap w h => pMerge_y N a cap L hL x y hk hx hy w h, fun a cap w h => rMerge_y N a cap L hL x y hk hx hy w h⟩
    · exact ⟨_, _, _, by simp, fun a cap w h => pMerge_x N a cap L hL x y hk hx w h, fun a cap w h => rMerge_x N a cap L hL x y hk hx w h⟩
  · exact ⟨_, _, _, by simp, fun a cap w h => pMerge_chk n a cap L hL x y hk w h, fun a cap w h => rMerge_chk n a cap L hL x y hk w h⟩
theorem changes_any' (n : Int) (a : Option Addr) (cap : Nat) (L : List E) (e x y : Int) (w : World) (h : EsAt w a L) :
    Calls Try.prog 3 #[gv n a L.length cap, .int .i64 e, .agg #[.int .i64 x, .int .i64 y]] w (GivesB w true) := by
  cases hf : fewG n L with
  | false =>
    by_cases h3 : 3 < L.length
    · exact changes_dark n a cap L e x y h3 (FewHid hf) awakeC_any w h
    · have hb : chkG n L = 0 → (endsG L).length ≤ 4096 := fun hk => by
        have h1 := endsG_len (right_of hk).rng
        have h2 := size_bound (right_of hk).rng
        omega
      obtain ⟨m1, J1, k1, j1, p1, q1⟩ := del_both n L (by omega) e hb
      obtain ⟨m2, J2, k2, j2, p2, q2⟩ := con_both n L (by omega) e hb
      obtain ⟨V, k3, j3, p3, q3⟩ := ver_both n L (by omega) e
      obtain ⟨m4, J4, k4, j4, p4, q4⟩ := mer_both n L (by omega) x y hb
      exact changes_short n a cap L e x y (by omega) m1 m2 m4 J1 J2 J4 j1 j2 j4 V j3 k1 k2 k3 k4 (FewHid hf) awakeC_any (Lib.hid (p1 a cap)) (Lib.hid (q1 a cap)) (Lib.hid (p2 a cap)) (Lib.hid (q2 a cap)) (Lib.hid (p3 a cap)) (Lib.hid (q3 a cap)) (Lib.hid (p4 a cap)) (Lib.hid (q4 a cap)) w h
  | true =>
    have hl := few_len hf
    have hb : chkG n L = 0 → (endsG L).length ≤ 4096 := fun hk => by have := few_ends hf hk; omega
    obtain ⟨m1, J1, k1, j1, p1, q1⟩ := del_both n L (by omega) e hb
    obtain ⟨m2, J2, k2, j2, p2, q2⟩ := con_both n L (by omega) e hb
    obtain ⟨V, k3, j3, p3, q3⟩ := ver_both n L (by omega) e
    obtain ⟨m4, J4, k4, j4, p4, q4⟩ := mer_both n L (by omega) x y hb
    exact changes_few n a cap L e x y m1 m2 m4 J1 J2 J4 j1 j2 j4 V j3 k1 k2 k3 k4 (FewHid hf) awakeC_any (Lib.hid (p1 a cap)) (Lib.hid (q1 a cap)) (Lib.hid (p2 a cap)) (Lib.hid (q2 a cap)) (Lib.hid (p3 a cap)) (Lib.hid (q3 a cap)) (Lib.hid (p4 a cap)) (Lib.hid (q4 a cap)) w h
end Go.Proofs.Ytndjjafpdiehdaa
