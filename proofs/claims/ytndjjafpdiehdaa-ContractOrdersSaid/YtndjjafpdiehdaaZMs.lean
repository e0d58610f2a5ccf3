/- The law of orders, whole. -/
import Derived.Test.YtndjjafpdiehdaaZMr
import Derived.Test.YtndjjafpdiehdaaZMt
import Derived.Test.YtndjjafpdiehdaaZMq
import Derived.Test.YtndjjafpdiehdaaQ18
namespace Go.Proofs.Ytndjjafpdiehdaa
open Go.RowKit Go.Shelf Go.Proofs.Gr

theorem OneO {n : Int} {a : Option Addr} {cap : Nat} {L : List E} {e : Int} {b : Bool} (h : oneG n L e = b) : Hid (∀ w, EsAt w a L → Calls Try.prog 32 #[.agg #[.int .i64 n, .slice a L.length cap], .int .i64 e] w (fun e w' => e = .returned (.bool b) ∧ Below w.heap.size w w')) :=
  Lib.hid fun w hE => by have := one_any n a cap L e w hE; rw [h] at this; exact this
theorem less_nw {P : List (Int × Int)} (hs : P.Pairwise (fun p q => ltP q p = false)) {e f : Nat} (hf : f < P.length) (hef : f ≠ e) : iAt (plc P e) f = (nwI e f : Nat) := by
  rw [plc_asc hs, lessL_at _ _ _ hf, if_neg hef]
  unfold nwI
  split <;> split <;> omega
theorem orders_any (n : Int) (a : Option Addr) (cap : Nat) (L : List E) (e f : Int) (w : World) (h : EsAt w a L) :
    Calls Try.prog 9 #[gv n a L.length cap, .int .i64 e, .int .i64 f] w (GivesB w true) := by
  cases h1 : oneG n L e with
  | false => exact orders_dark1 n a cap L e f (OneO h1) awakeC_any w h
  | true =>
    cases h2 : oneG n L f with
    | false => exact orders_dark2 n a cap L e f (OneO h1) (OneO h2) awakeC_any w h
    | true =>
      by_cases hef0 : e = f
      · subst hef0
        exact orders_same n a cap L e (OneO h1) (OneO h1) awakeC_any w h
      · obtain ⟨hfew, hk, he0, he⟩ := one_of h1
        obtain ⟨-, -, hf0, hf⟩ := one_of h2
        have hR := right_of hk
        have hhi := hR.hi
        have hL := few_len hfew
        have h9 := few_ends hfew hk
        have hsz := endsG_len hR.rng
        obtain ⟨N, rfl, -, -⟩ := nat_of_right hk
        obtain ⟨e, rfl⟩ := Int.eq_ofNat_of_zero_le he0
        obtain ⟨f, rfl⟩ := Int.eq_ofNat_of_zero_le hf0
        have hep : e < (endsG L).length := by omega
        have hfp : f < (endsG L).length := by omega
        have hef : f ≠ e := by rintro rfl; exact hef0 rfl
        have hRR := dropP_comm hep hfp hef
        have hs := ends_asc hR
        obtain ⟨Me, hMe⟩ := con_n hR e hep
        obtain ⟨Mf, hMf⟩ := con_n hR f hfp
        have hce := con_any hR h9 e hep Me hMe
        have hcf := con_any hR h9 f hfp Mf hMf
        have hde := del_any hR h9 e hep
        have hdf := del_any hR h9 f hfp
        have hmle : (mvP (mgF (pAt (endsG L) e)) (endsG L)).length = (endsG L).length := mvP_len _ _
        have hmlf : (mvP (mgF (pAt (endsG L) f)) (endsG L)).length = (endsG L).length := mvP_len _ _
        have hA1 : iAt (plc (endsG L) e) f = (nwI e f : Nat) := less_nw hs hfp hef
        have hA2 : iAt (plc (endsG L) f) e = (nwI f e : Nat) := less_nw hs hep (Ne.symm hef)
        have hB1 : iAt (plc (mvP (mgF (pAt (endsG L) e)) (endsG L)) e) f = (cntI (mvP (mgF (pAt (endsG L) e)) (endsG L)) e f (endsG L).length : Nat) := by
          rw [plc_at _ _ _ (by rw [hmle]; exact hfp), if_neg hef, hmle]
        have hB2 : iAt (plc (mvP (mgF (pAt (endsG L) f)) (endsG L)) f) e = (cntI (mvP (mgF (pAt (endsG L) f)) (endsG L)) f e (endsG L).length : Nat) := by
          rw [plc_at _ _ _ (by rw [hmlf]; exact hep), if_neg (Ne.symm hef), hmlf]
        obtain ⟨k1, hk1⟩ : ∃ k, k = cntI (mvP (mgF (pAt (endsG L) e)) (endsG L)) e f (endsG L).length := ⟨_, rfl⟩
        obtain ⟨k2, hk2⟩ : ∃ k, k = cntI (mvP (mgF (pAt (endsG L) f)) (endsG L)) f e (endsG L).length := ⟨_, rfl⟩
        rw [← hk1] at hB1
        rw [← hk2] at hB2
        obtain ⟨F, hF⟩ : ∃ F : Int → Int, ∀ v, F v = mgF (mvF (mgF (pAt (endsG L) e)) (pAt (endsG L) f)) (mgF (pAt (endsG L) e) v) := ⟨_, fun _ => rfl⟩
        have hl := con_left hR h9 hep hfp hef Me hMe k1 hk1
        obtain ⟨M2, hM2⟩ := con_n (mk_right hce.1) k1 hl.1
        have hF2 := (con_any (mk_right hce.1) hl.2.2.1 k1 hl.1 M2 hM2).1
        have hM2F : F N = M2 := by rw [hF, hMe, ← hl.2.1]; exact hM2
        have D1 := del_del hR h9 hep hfp hef
        have D2 := del_del hR h9 hfp hep (Ne.symm hef)
        rw [← hRR] at D2
        have C1 := con_con hR h9 hep hfp hef Me hMe k1 hk1 F hF M2 hM2F
        have C2 := con_con hR h9 hfp hep (Ne.symm hef) Mf hMf k2 hk2 F (fun v => by rw [hF]; exact mg_comm _ _ v) M2 hM2F
        rw [← hRR] at C2
        have X1 := del_con hR h9 hep hfp hef Mf hMf
        have X2 := con_del hR h9 hfp hep (Ne.symm hef) Mf hMf k2 hk2
        rw [← hRR] at X2
        have SM : ∀ (m : Nat) (Q : List (Int × Int)), m ≤ 12 → Hid (∀ a1 c1 a2 c2 w, EsAt w a1 (mkG m Q) → EsAt w a2 (mkG m Q) → Calls Try.prog 21 #[.agg #[.int .i64 m, .slice a1 (mkG m Q).length c1], .agg #[.int .i64 m, .slice a2 (mkG m Q).length c2]] w (fun e w' => e = .returned (.bool true) ∧ Below w.heap.size w w')) :=
          fun m Q hm => Lib.hid fun a1 c1 a2 c2 w h1 h2 => same_any m a1 a2 c1 c2 _ w (joinT_small _ _ (by omega)) h1 h2
        have HGE := Lib.hid fun w h => pSingles_ok N a cap L (by omega) e (sg_of hR hep) (by omega) w h
        have HGF := Lib.hid fun w h => pSingles_ok N a cap L (by omega) f (sg_of hR hfp) (by omega) w h
        have HEN := Lib.hid fun w h => rends_any N a cap L (by omega) hR w h
        have L1 : (plc (endsG L) e).length = (endsG L).length := plc_len _ _
        have L2 : (plc (mvP (mgF (pAt (endsG L) e)) (endsG L)) e).length = (endsG L).length := by rw [plc_len, hmle]
        have L3 : (plc (endsG L) f).length = (endsG L).length := plc_len _ _
        have L4 : (plc (mvP (mgF (pAt (endsG L) f)) (endsG L)) f).length = (endsG L).length := by rw [plc_len, hmlf]
        have HK2 := Lib.hid fun B w1 hB h => after_DD N a cap L B e (nwI e f : Nat) N N _ _ (Lib.hid (hde.2.2 a cap)) (Lib.hid D1) w1 hB h
        have HK3 := Lib.hid fun B w1 hB h => after_DD N a cap L B f (nwI f e : Nat) N N _ _ (Lib.hid (hdf.2.2 a cap)) (Lib.hid D2) w1 hB h
        have HK4 := Lib.hid fun B w1 hB h => after_CC N a cap L B e (k1 : Nat) Me M2 _ _ (Lib.hid (hce.2.2 a cap)) (Lib.hid C1) w1 hB h
        have HK5 := Lib.hid fun B w1 hB h => after_CC N a cap L B f (k2 : Nat) Mf M2 _ _ (Lib.hid (hcf.2.2 a cap)) (Lib.hid C2) w1 hB h
        have HK6 := Lib.hid fun B w1 hB h => after_DC N a cap L B e (nwI e f : Nat) N Mf _ _ (Lib.hid (hde.2.2 a cap)) (Lib.hid X1) w1 hB h
        have HK7 := Lib.hid fun B w1 hB h => after_CD N a cap L B f (k2 : Nat) Mf Mf _ _ (Lib.hid (hcf.2.2 a cap)) (Lib.hid X2) w1 hB h
        rw [← hA1] at HK2 HK6
        rw [← hA2] at HK3
        rw [← hB1] at HK4
        rw [← hB2] at HK5 HK7
        by_cases hpq : (pAt (endsG L) e).1 = (pAt (endsG L) e).2
        · exact orders_loop N a cap L e f _ _ _ _ (endsG L).length hep hfp (Ne.symm hef) L1 L2 L3 L4 _ _ _ _ _ _ (endsG L) rfl _ _ hpq (OneO h1) (OneO h2) awakeC_any HGE HGF HK2 HK3 HK4 HK5 HK6 HK7
            (SM _ _ (by omega)) (SM _ _ hF2.hi) (SM _ _ hcf.1.hi) (Lib.hid rfl) HEN w h
        · exact orders_ok N a cap L e f _ _ _ _ (endsG L).length hep hfp (Ne.symm hef) L1 L2 L3 L4 _ _ _ Me _ _ _ _ _ (endsG L) rfl _ _ hpq (OneO h1) (OneO h2) awakeC_any HGE HGF HK2 HK3 HK4 HK5 HK6 HK7
            (SM _ _ (by omega)) (SM _ _ hF2.hi) (SM _ _ hcf.1.hi) (Lib.hid rfl) HEN (Lib.hid (hde.2.2 a cap)) (Lib.hid (hce.2.2 a cap)) (Lib.hid (del_merge hR h9 e hep hpq Me hMe)) (SM _ _ hce.1.hi) w h
end Go.Proofs.Ytndjjafpdiehdaa
