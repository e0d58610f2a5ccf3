/- The laws of degrees and of counts, whole. -/
import Derived.Test.YtndjjafpdiehdaaZMi
import Derived.Test.YtndjjafpdiehdaaZMj
namespace Go.Proofs.Ytndjjafpdiehdaa
open Go.RowKit Go.Shelf Go.Proofs.Gr

theorem OneHid {n : Int} {a : Option Addr} {cap : Nat} {L : List E} {e : Int} {b : Bool} (h : oneG n L e = b) : Hid (∀ w, EsAt w a L → Calls Try.prog 32 #[.agg #[.int .i64 n, .slice a L.length cap], .int .i64 e] w (fun e w' => e = .returned (.bool b) ∧ Below w.heap.size w w')) :=
  Lib.hid fun w hE => by have := one_any n a cap L e w hE; rw [h] at this; exact this
theorem sums_ok (D : List Int) (B : Int) (h6 : B ≤ 1000000) (hD : ∀ i, i < D.length → -B ≤ iAt D i ∧ iAt D i ≤ B) (hl : D.length ≤ 40) (i : Nat) (hi : i ≤ D.length) : -1000000000 ≤ sumD (D.take i) ∧ sumD (D.take i) ≤ 1000000000 := by
  have h1 := sumD_bound D B hD i hi
  have h2 : B * (i : Int) ≤ 1000000 * (i : Int) := Int.mul_le_mul_of_nonneg_right h6 (by omega)
  omega
theorem iAt_app (D R : List Int) (i : Nat) (B : Int) (hB : 0 ≤ B) (hD : ∀ i, i < D.length → -B ≤ iAt D i ∧ iAt D i ≤ B) (hR : ∀ z ∈ R, z = 0) (hi : i < (D ++ R).length) : -B ≤ iAt (D ++ R) i ∧ iAt (D ++ R) i ≤ B := by
  rw [← iAt_get _ i hi]
  by_cases h : i < D.length
  · rw [List.getElem_append_left h, iAt_get D i h]; exact hD i h
  · have := hR _ (by rw [List.getElem_append_right (by omega)]; exact List.getElem_mem (by rw [List.length_append] at hi; omega) : (D ++ R)[i] ∈ R)
    rw [this]; omega
theorem degrees_any (n : Int) (a : Option Addr) (cap : Nat) (L : List E) (e : Int) (b : Option Addr) (c : Nat) (D : List Int) (w : World) (h : EsAt w a L) (hd : IsAt w b D) :
    Calls Try.prog 10 #[gv n a L.length cap, .int .i64 e, .slice b D.length c] w (GivesB w true) := by
  cases hf : oneG n L e with
  | false => exact degs_dark n a cap L e b c D (OneHid hf) awakeC_any w h hd
  | true =>
    by_cases hl : (D.length : Int) = n
    · obtain ⟨hfew, hk, he0, he⟩ := one_of hf
      have hR := right_of hk
      have hlo := hR.lo
      have hhi := hR.hi
      cases hs : D.all smD with
      | false => exact degs_big n a cap L e b c D hl (OneHid hf) (Lib.hid fun w h => by have := pcontD_any b c D (by omega) w h; rw [hs] at this; exact this) awakeC_any w h hd
      | true =>
        have hL := few_len hfew
        have h9 := few_ends hfew hk
        have hsz := endsG_len hR.rng
        obtain ⟨N, rfl, -, -⟩ := nat_of_right hk
        obtain ⟨e, rfl⟩ := Int.eq_ofNat_of_zero_le he0
        have hep : e < (endsG L).length := by omega
        have hsg : sgE N L e = 0 := by unfold sgE; rw [if_neg (by omega), if_neg (by omega)]
        have hdv : dvE N D = 0 := by unfold dvE; rw [if_neg (by omega), if_pos (sm_rng hs)]
        have hpe := ends_in hR (pAt (endsG L) e) (by rw [← pAt_get _ e hep]; exact List.getElem_mem _)
        have hfn := mgF_n (n := N) hpe.1 hpe.2
        obtain ⟨M, hM⟩ : ∃ M : Nat, mgF (pAt (endsG L) e) N = M := ⟨(mgF (pAt (endsG L) e) N).toNat, by
          have : 0 ≤ mgF (pAt (endsG L) e) N := by rw [hfn]; split <;> omega
          omega⟩
        have hcs := col_small (mgF (pAt (endsG L) e)) D M hs (by omega)
        have hcl := colL_len (mgF (pAt (endsG L) e)) D M D.length
        have hM12 : M ≤ 12 := by rw [hM] at hfn; split at hfn <;> omega
        have hcb := fun j => col_bound (mgF (pAt (endsG L) e)) D 1000 (by decide) (sm_at hs) M D.length (Nat.le_refl _) j
        have hsum : sumD (colL (mgF (pAt (endsG L) e)) D M D.length) = sumD D := by
          rw [col_sum _ _ _ (fun i hi => by have := mgF_rng (n := N) hpe.1 hpe.2 i (by omega); rwa [hM] at this) _ (Nat.le_refl _), List.take_length]
        have HC : Hid (∀ w, EsAt w a L → IsAt w b D → Calls Try.prog 30 #[.agg #[.int .i64 N, .slice a L.length cap], .int .i64 e, .slice b D.length c] w (fun e' w' => ∃ b1 d1, e' = .returned (.tuple #[.slice b1 (colL (mgF (pAt (endsG L) e)) D M D.length).length d1, .int .i64 ((0 : Nat) : Int)]) ∧ IsAt w' b1 (colL (mgF (pAt (endsG L) e)) D M D.length) ∧ Below w.heap.size w w')) := Lib.hid fun w h hd => by
          have := pCol_ok N a cap L (by omega) e b c D (by omega) hsg hdv w h hd
          rw [hM, show ((M : Nat) : Int).toNat = M by omega, hcs.1, hcs.2] at this
          exact this
        have HG := Lib.hid fun w h => pContract_ok N a cap L (by omega) e hsg M _ 0 (makes_con hR h9 e hep M hM) w h
        have HCT : Hid (∀ w, IsAt w b D → Calls Try.prog 46 #[.slice b D.length c, .func (.func 47) #[] #[]] w (fun e w' => e = .returned (.bool false) ∧ Below w.heap.size w w')) := Lib.hid fun w h => by have := pcontD_any b c D (by omega) w h; rw [hs] at this; exact this
        have HS1 : Hid (∀ b d w, IsAt w b (colL (mgF (pAt (endsG L) e)) D M D.length) → Calls Try.prog 48 #[.slice b (colL (mgF (pAt (endsG L) e)) D M D.length).length d] w (fun e w' => e = .returned (.int .i64 (sumD D)) ∧ Below w.heap.size w w')) := Lib.hid fun b d w h => by
          have := dgr2_any b d _ (by rw [hcl]; omega) (sums_ok _ 12000 (by decide) (fun i _ => by have := hcb i; omega) (by rw [hcl]; omega)) w h
          rwa [hsum] at this
        have HS2 : Hid (∀ b d w, IsAt w b D → Calls Try.prog 48 #[.slice b D.length d] w (fun e w' => e = .returned (.int .i64 (sumD D)) ∧ Below w.heap.size w w')) := Lib.hid fun b d w h =>
          dgr2_any b d D (by omega) (sums_ok _ 1000 (by decide) (sm_at hs) (by omega)) w h
        by_cases hx : 12 < (N : Int) + (endsG L).length
        · have hsub : subKE N L 2 = 5 := by
            unfold subKE
            rw [if_neg (by omega), if_neg (by omega), if_pos (by omega)]
          refine degs_many N a cap L e b c D hl _ M (by rw [hcl]) _ (sumD D) (OneHid hf) HCT awakeC_any HC HG HS1 HS2 (Lib.hid fun w h hd => (pSpr_sub N a cap L (by omega) 2 b c D (by rw [hsub]; decide) w h).mono ?_) w h hd
          rintro e w' ⟨b1, d1, rfl, -, hb⟩
          exact ⟨b1, d1, by rw [hsub]; rfl, hb⟩
        · have hsub : subKE N L ((1 : Nat) + 1) = 0 := by
            unfold subKE
            rw [if_neg (by omega), if_neg (by omega), if_neg (by omega)]
          have HP := Lib.hid fun w h hd => pSpr_okC N a cap L (by omega) 1 b c D (by omega) (by omega) hsub hdv w h hd
          have hBl : (D ++ List.replicate (1 * (endsG L).length) 0).length = D.length + (endsG L).length := by rw [List.length_append, List.length_replicate, Nat.one_mul]
          refine degs_ok N a cap L e b c D hl _ M (by rw [hcl]) _ (sumD D) (by omega) (D ++ List.replicate (1 * (endsG L).length) 0) (by rw [hBl]; omega) (List.take_left' rfl) (OneHid hf) HCT awakeC_any HC HG HS1 HS2 HP (Lib.hid fun b d w h => ?_) w h hd
          have := dgr2_any b d _ (by rw [hBl]; omega) (sums_ok _ 1000 (by decide) (fun i hi => iAt_app D _ i 1000 (by decide) (sm_at hs) (fun z hz => by rw [List.mem_replicate] at hz; exact hz.2) hi) (by rw [hBl]; omega)) w h
          rw [sumD_append, sumD_rep, Int.add_zero] at this
          exact this
    · exact degs_len n a cap L e b c D hl (OneHid hf) awakeC_any w h hd
theorem counts_any' (n : Int) (a : Option Addr) (cap : Nat) (L : List E) (e k0 : Int) (h0 : 0 ≤ k0) (w : World) (h : EsAt w a L) :
    Calls Try.prog 7 #[gv n a L.length cap, .int .i64 e, .int .u8 k0] w (GivesB w true) := by
  cases hf : oneG n L e with
  | false => exact counts_dark n a cap L e k0 (OneHid hf) awakeC_any w h
  | true =>
    obtain ⟨hfew, hk, he0, he⟩ := one_of hf
    have hR := right_of hk
    have hlo := hR.lo
    have hhi := hR.hi
    have hL := few_len hfew
    have h9 := few_ends hfew hk
    have hsz := endsG_len hR.rng
    obtain ⟨N, rfl, -, -⟩ := nat_of_right hk
    obtain ⟨e, rfl⟩ := Int.eq_ofNat_of_zero_le he0
    have hep : e < (endsG L).length := by omega
    have hsg : sgE N L e = 0 := by unfold sgE; rw [if_neg (by omega), if_neg (by omega)]
    have hpe := ends_in hR (pAt (endsG L) e) (by rw [← pAt_get _ e hep]; exact List.getElem_mem _)
    have hfn := mgF_n (n := N) hpe.1 hpe.2
    obtain ⟨M, hM⟩ : ∃ M : Nat, mgF (pAt (endsG L) e) N = M := ⟨(mgF (pAt (endsG L) e) N).toNat, by
      have : 0 ≤ mgF (pAt (endsG L) e) N := by rw [hfn]; split <;> omega
      omega⟩
    have hFA := fine_del hR h9 e
    have hFB := fine_con hR h9 e hep M hM
    have hdl := dropP_len (endsG L) e hep
    have hsA := size_mk hFA
    have hsB := size_mk hFB
    rw [mvP_len] at hsB
    have hpB := parts_con hR e hep M hM hFB
    have hJA : (mkG N (dropP (endsG L) e)).length ≤ 100000 := joinT_small _ _ (by omega)
    have hJB : (mkG M (mvP (mgF (pAt (endsG L) e)) (dropP (endsG L) e))).length ≤ 100000 := joinT_small _ _ (by have := hFB.hi; omega)
    have hpl : partsR L N ≤ N := by unfold partsR; exact psR_le L N N
    obtain ⟨q, hq2, hqe⟩ : ∃ q : Nat, q ≤ 2 ∧ (q : Int) = k0 % 3 := ⟨(k0 % 3).toNat, by omega, by omega⟩
    have hk1 : IntKind.i64.wrap (k0.tmod 3) = (q : Int) := by
      rw [Int.tmod_eq_emod_of_nonneg h0, ← hqe]
      exact IntWalk.i64_in _ (by omega)
    have hk0 : IntKind.i64.wrap (1 + (q : Int)) = (q : Int) + 1 := by rw [Int.add_comm]; exact IntWalk.i64_in _ (by omega)
    have HD := Lib.hid fun w h => pDelete_ok N a cap L (by omega) e hsg N _ 0 (makes_del hR (by omega) e hep) w h
    have HC := Lib.hid fun w h => pContract_ok N a cap L (by omega) e hsg M _ 0 (makes_con hR h9 e hep M hM) w h
    have PK : ∀ (n : Nat) (J : List E), J.length ≤ 100000 → Right n J → Hid (∀ a c w, EsAt w a J → Calls Try.prog 33 #[.agg #[.int .i64 n, .slice a J.length c]] w (fun e w' => e = .returned (.int .i64 0) ∧ Below w.heap.size w w')) := fun n J hl hr => Lib.hid fun a c w h => by have := check_any n a c J (by omega) w h; rw [right_chk hr] at this; exact this
    have RK : ∀ (n : Nat) (J : List E), J.length ≤ 100000 → Right n J → Hid (∀ a c w, EsAt w a J → Calls Try.prog 37 #[.agg #[.int .i64 n, .slice a J.length c]] w (fun e w' => e = .returned (.int .i64 0) ∧ Below w.heap.size w w')) := fun n J hl hr => Lib.hid fun a c w h => by have := rcheck_any n a c J (by omega) w h; rw [right_chk hr] at this; exact this
    have RS : ∀ (n : Nat) (J : List E) (z : Int), J.length ≤ 100000 → Right n J → sizeG J = z → Hid (∀ a c w, EsAt w a J → Calls Try.prog 35 #[.agg #[.int .i64 n, .slice a J.length c]] w (fun e w' => e = .returned (.int .i64 z) ∧ Below w.heap.size w w')) := fun n J z hl hr hz => Lib.hid fun a c w h => by have := rsize_any n a c J hl hr w h; rw [hz] at this; exact this
    have RG : ∀ (n : Nat) (J : List E) (z : Int), n ≤ 12 → J.length ≤ 100000 → Right n J → sizeG J - n + (partsR J n : Nat) = z → Hid (∀ a c w, EsAt w a J → Calls Try.prog 36 #[.agg #[.int .i64 n, .slice a J.length c]] w (fun e w' => e = .returned (.int .i64 z) ∧ Below w.heap.size w w')) := fun n J z hn hl hr hz => Lib.hid fun a c w h => by have := rgenus_any n (by omega) a c J hl hr w h; rw [hz] at this; exact this
    have HEN := Lib.hid fun w h => rends_any N a cap L (by omega) hR w h
    have HPE : Hid (pAt (endsG L) e = ((pAt (endsG L) e).1, (pAt (endsG L) e).2)) := Lib.hid rfl
    have HSZ := RS N L (sizeG L) (by omega) hR rfl
    have HGN := RG N L _ (by omega) (by omega) hR rfl
    have HSA := RS N _ (sizeG L - 1) hJA (mk_right hFA) (by rw [hsA]; omega)
    have HSB := RS M _ (sizeG L - 1) hJB (mk_right hFB) (by rw [hsB]; omega)
    have hsz1 : 1 ≤ sizeG L ∧ sizeG L ≤ 10 := by omega
    have hGb : -1000 ≤ sizeG L - N + (partsR L N : Nat) ∧ sizeG L - N + (partsR L N : Nat) ≤ 1000 := by omega
    have hn12 : 1 ≤ (N : Int) ∧ (N : Int) ≤ 12 := by omega
    have hmul : (q : Int) * ((endsG L).length : Int) = ((q * (endsG L).length : Nat) : Int) := by push_cast; rfl
    -- the graph that is subdivided
    have SUB : N + q * (endsG L).length ≤ 12 → ∃ (JC : List E) (MC : Nat), MC = N + q * (endsG L).length ∧ JC.length ≤ 100000 ∧ Right MC JC ∧ sizeG JC = ((q : Int) + 1) * sizeG L ∧ sizeG JC - MC + (partsR JC MC : Nat) = sizeG L - N + (partsR L N : Nat) ∧ (∀ v : Int, (N : Int) ≤ v → v < MC → valZ v JC MC + 2 * betw v v JC = 2) ∧ ∀ w, EsAt w a L → Calls Try.prog 25 #[gv N a L.length cap, .int .i64 ((q : Int) + 1)] w (GivesGW w MC JC 0) := by
      intro h12
      have hF := fine_sub hR h9 q _ rfl h12
      have e1 : (N : Int) + (q : Int) * ((endsG L).length : Int) = ((N + q * (endsG L).length : Nat) : Int) := by push_cast; rfl
      have hms := makes_sub hR (by omega) q _ e1 h12
      have hsC := size_mk hF
      have hpC := parts_sub hR q _ rfl hF
      have hsl : ((subP N q (endsG L) (endsG L).length).length : Int) = ((q : Int) + 1) * sizeG L := by
        rw [subP_len, ← hsz]; push_cast; rw [Int.mul_comm]
      refine ⟨_, _, rfl, joinT_small _ _ (by omega), mk_right hF, by rw [← hsl]; exact hsC, ?_, ?_, fun w h => pSub_ok N a cap L (by omega) q (by omega) hk (by omega) _ _ 0 hms w h⟩
      · rw [show joinT (cntT (subP N q (endsG L) (endsG L).length) (subP N q (endsG L) (endsG L).length).length) (N + q * (endsG L).length) (N + q * (endsG L).length) = mkG (N + q * (endsG L).length) (subP N q (endsG L) (endsG L).length) from rfl, hpC, hsC, hsl, ← hsz]
        push_cast
        rw [Int.add_mul, Int.one_mul]; omega
      · intro v hv1 hv2
        show valZ v (mkG (N + q * (endsG L).length) (subP N q (endsG L) (endsG L).length)) (N + q * (endsG L).length) + 2 * betw v v (mkG (N + q * (endsG L).length) (subP N q (endsG L) (endsG L).length)) = 2
        have hb : betw v v (mkG (N + q * (endsG L).length) (subP N q (endsG L) (endsG L).length)) = sumL (loopE v) (mkG (N + q * (endsG L).length) (subP N q (endsG L) (endsG L).length)) := by
          unfold betw; rw [Int.min_self, Int.max_self, bet_loop]
        rw [valZ_oth v _ (mk_right hF).rng, hb, degP_mk hF, sub_deg q (endsG L) (fun p hp => ⟨(ends_in hR p hp).1.2, (ends_in hR p hp).2.2⟩) v hv1 _ (Nat.le_refl _), nxP_eq, if_pos (by omega)]
    have hbad : ¬ N + q * (endsG L).length ≤ 12 → Hid (∀ w, EsAt w a L → Calls Try.prog 25 #[.agg #[.int .i64 N, .slice a L.length cap], .int .i64 ((q : Int) + 1)] w (fun e w' => ∃ a1 c1, e = .returned (.tuple #[.agg #[.int .i64 0, .slice a1 0 c1], .int .i64 5]) ∧ Below w.heap.size w w')) := fun hx => by
      refine Lib.hid fun w h => (pSub_many N a cap L (by omega) q (by omega) hk (by omega) w h).mono ?_
      rintro e w' ⟨a1, c1, rfl, -, hb⟩
      exact ⟨a1, c1, rfl, hb⟩
    have HDGf : ∀ (MC : Nat) (JC : List E), MC ≤ 12 → JC.length ≤ 100000 → Right MC JC → (∀ v : Int, (N : Int) ≤ v → v < MC → valZ v JC MC + 2 * betw v v JC = 2) → Hid (∀ v : Int, (N : Int) ≤ v → v < MC → ∀ a c w, EsAt w a JC → Calls Try.prog 38 #[.agg #[.int .i64 MC, .slice a JC.length c], .int .i64 v] w (fun e w' => e = .returned (.int .i64 2) ∧ Below w.heap.size w w')) := fun MC JC h12 hl hr hd => Lib.hid fun v h1 h2 a c w h => by
      have := rdegree_any MC a c JC hl hr v w h
      rw [hd v h1 h2] at this
      exact this
    by_cases hx : (pAt (endsG L) e).1 = (pAt (endsG L) e).2
    · rw [if_pos hx] at hfn
      obtain rfl : M = N := by omega
      have HGB := RG M _ (sizeG L - M + (partsR L M : Nat) - 1) (by omega) hJB (mk_right hFB) (by rw [hsB, hpB]; omega)
      by_cases h12 : M + q * (endsG L).length ≤ 12
      · obtain ⟨JC, MC, hMC, hl, hr, hsC, hgC, hdg, HSU⟩ := SUB h12
        exact counts_loop_ok M a cap L e k0 _ _ (endsG L) hep _ _ (sizeG L) _ hsz1 hGb hn12 (OneHid hf) awakeC_any HD HC (PK M _ hJA (mk_right hFA)) (PK M _ hJB (mk_right hFB)) HEN HPE HSZ HGN (RK M _ hJA (mk_right hFA)) (RK M _ hJB (mk_right hFB)) HSA HSB HGB hx q hq2 hk1 hk0 JC MC (by omega) (Lib.hid HSU) (RK MC JC hl hr) (RS MC JC _ hl hr hsC) (RG MC JC _ (by omega) hl hr hgC) (HDGf MC JC (by omega) hl hr hdg) w h
      · exact counts_loop_many M a cap L e k0 _ _ (endsG L) hep _ _ (sizeG L) _ hsz1 hGb hn12 (OneHid hf) awakeC_any HD HC (PK M _ hJA (mk_right hFA)) (PK M _ hJB (mk_right hFB)) HEN HPE HSZ HGN (RK M _ hJA (mk_right hFA)) (RK M _ hJB (mk_right hFB)) HSA HSB HGB hx q hk1 hk0 (hbad h12) w h
    · rw [if_neg hx] at hfn
      have hMN : (M : Int) = (N : Int) - 1 := by omega
      have HGB := RG M _ (sizeG L - N + (partsR L N : Nat)) (by omega) hJB (mk_right hFB) (by rw [hsB, hpB]; omega)
      have K1 := PK M _ hJB (mk_right hFB)
      have K2 := RK M _ hJB (mk_right hFB)
      rw [hMN] at HC HGB HSB K1 K2
      by_cases h12 : N + q * (endsG L).length ≤ 12
      · obtain ⟨JC, MC, hMC, hl, hr, hsC, hgC, hdg, HSU⟩ := SUB h12
        exact counts_edge_ok N a cap L e k0 _ _ (endsG L) hep _ _ (sizeG L) _ hsz1 hGb hn12 (OneHid hf) awakeC_any HD HC (PK N _ hJA (mk_right hFA)) K1 HEN HPE HSZ HGN (RK N _ hJA (mk_right hFA)) K2 HSA HSB HGB hx q hq2 hk1 hk0 JC MC (by omega) (Lib.hid HSU) (RK MC JC hl hr) (RS MC JC _ hl hr hsC) (RG MC JC _ (by omega) hl hr hgC) (HDGf MC JC (by omega) hl hr hdg) w h
      · exact counts_edge_many N a cap L e k0 _ _ (endsG L) hep _ _ (sizeG L) _ hsz1 hGb hn12 (OneHid hf) awakeC_any HD HC (PK N _ hJA (mk_right hFA)) K1 HEN HPE HSZ HGN (RK N _ hJA (mk_right hFA)) K2 HSA HSB HGB hx q hk1 hk0 (hbad h12) w h
end Go.Proofs.Ytndjjafpdiehdaa
