/- The graph made from ends, by the program. -/
import Derived.Test.YtjaafneoinidkaaHi
namespace Go.Proofs.Ytjaafneoinidkaa
open Go.RowKit Go.Shelf Go.Proofs.Gr Go.Maps
attribute [local go_sem] Oper.semAt_some

/-- The graph of sums is the one that a table says. -/
theorem coll_join {A : List ((Int × Int) × Int)} {t : Nat → Nat → Int} {n : Nat} (hn : n ≤ 1000000) (hA : ∀ x ∈ A, 1 ≤ x.2 ∧ 0 ≤ x.1.1 ∧ x.1.1 ≤ x.1.2 ∧ x.1.2 < n) (ht : ∀ a b : Nat, a < n → b < n → a ≤ b → t a b = accF A ((a : Int), (b : Int)))
    {L : List E} (hs : L.Pairwise (fun x y => ltE x y = true)) (hm : ∀ x, x ∈ L ↔ (W64 x.a ∧ W64 x.b) ∧ 0 < x.m ∧ x.m = accF A (x.a, x.b)) : L = joinT t n n := by
  refine ltE_ext hs (joinT_asc _ _ _) fun e => ?_
  rw [hm, joinT_mem]
  constructor
  · rintro ⟨h1, h2, h3⟩
    have h4 : 0 < accF A (e.a, e.b) := by omega
    obtain ⟨x, hx, hk⟩ := (accF_pos A (fun x hx => (hA x hx).1) _).1 h4
    have h5 := hA x hx
    rw [hk] at h5
    simp only at h5
    refine ⟨e.a.toNat, e.b.toNat, by omega, by omega, by omega, ?_, ?_⟩
    · rw [ht _ _ (by omega) (by omega) (by omega), show ((e.a.toNat : Int), (e.b.toNat : Int)) = (e.a, e.b) by rw [Int.toNat_of_nonneg (by omega), Int.toNat_of_nonneg (by omega)]]; exact h4
    · rw [ht _ _ (by omega) (by omega) (by omega), Int.toNat_of_nonneg (by omega), Int.toNat_of_nonneg (by omega), ← h3]
  · rintro ⟨a, b, h1, h2, h3, h4, rfl⟩
    rw [ht a b h1 h2 h3] at h4 ⊢
    exact ⟨⟨w64_of (by simp only; omega) (by simp only; omega), w64_of (by simp only; omega) (by simp only; omega)⟩, h4, rfl⟩
/-- The single edges of some pairs. -/
def prs (P : List (Int × Int)) (i : Nat) : List ((Int × Int) × Int) := (P.take i).map fun p => ((mnP p, mxP p), 1)
theorem prs_succ (P : List (Int × Int)) (i : Nat) (h : i < P.length) : prs P (i + 1) = prs P i ++ [((mnP (pAt P i), mxP (pAt P i)), 1)] := by
  unfold prs
  rw [List.take_succ_eq_append_getElem h, List.map_append, pAt_get]; rfl
theorem prs_one (P : List (Int × Int)) (i : Nat) : ∀ x ∈ prs P i, 1 ≤ x.2 := by
  intro x hx
  obtain ⟨p, _, rfl⟩ := List.mem_map.1 hx
  exact Int.le_refl _
theorem prs_le (P : List (Int × Int)) (i : Nat) (p : Int × Int) : accF (prs P i) p ≤ i := by
  have h := accF_le (prs P i) 1 (by omega) (fun x hx => by
    obtain ⟨q, _, rfl⟩ := List.mem_map.1 hx
    exact Int.le_refl _) p
  have : (prs P i).length ≤ i := by unfold prs; rw [List.length_map, List.length_take]; omega
  omega
theorem mem_pAt {P : List (Int × Int)} {i : Nat} {p : Int × Int} (h : p ∈ P.take i) : ∃ j, j < i ∧ j < P.length ∧ p = pAt P j := by
  obtain ⟨j, hj, rfl⟩ := List.mem_iff_getElem.1 h
  rw [List.length_take] at hj
  refine ⟨j, by omega, by omega, ?_⟩
  rw [List.getElem_take, pAt_get]
theorem pErr_zero {n : Int} {P : List (Int × Int)} {j : Nat} (h : pErr n P j = 0) : (0 ≤ (pAt P j).1 ∧ (pAt P j).1 < n) ∧ 0 ≤ (pAt P j).2 ∧ (pAt P j).2 < n := by
  unfold pErr at h
  split at h
  · rename_i h1
    simp only [isV, Bool.and_eq_true, decide_eq_true_eq] at h1
    exact h1
  · omega
theorem prs_rng {n : Int} {P : List (Int × Int)} {i : Nat} (h : ∀ j, j < i → pErr n P j = 0) : ∀ x ∈ prs P i, 1 ≤ x.2 ∧ 0 ≤ x.1.1 ∧ x.1.1 ≤ x.1.2 ∧ x.1.2 < n := by
  intro x hx
  obtain ⟨p, hp, rfl⟩ := List.mem_map.1 hx
  obtain ⟨j, hj, _, rfl⟩ := mem_pAt hp
  have h1 := pErr_zero (h j hj)
  unfold mnP mxP
  simp only
  split <;> split <;> omega
theorem cntT_acc {n : Int} (P : List (Int × Int)) (i : Nat) (hi : i ≤ P.length) (h : ∀ j, j < i → pErr n P j = 0) (x y : Nat) : cntT P i x y = accF (prs P i) ((x : Int), (y : Int)) := by
  induction i with
  | zero => rfl
  | succ i ih =>
    have h1 := ih (by omega) (fun j hj => h j (by omega))
    have h2 := pErr_zero (h i (by omega))
    rw [prs_succ P i (by omega), accF_snoc, ← h1]
    show (if x = (mnP (pAt P i)).toNat ∧ y = (mxP (pAt P i)).toNat then cntT P i x y + 1 else cntT P i x y) = _
    have h3 : 0 ≤ mnP (pAt P i) ∧ 0 ≤ mxP (pAt P i) := by unfold mnP mxP; split <;> split <;> omega
    by_cases e : x = (mnP (pAt P i)).toNat ∧ y = (mxP (pAt P i)).toNat
    · rw [if_pos e, if_pos]
      rw [Prod.mk.injEq]; omega
    · rw [if_neg e, if_neg]
      · omega
      · rw [Prod.mk.injEq]; omega
theorem make_k5 {n : Nat} {P : List (Int × Int)} (h : ∀ j, j < P.length → pErr n P j = 0) (p : Int × Int) (hp : 50 < accF (prs P P.length) p) : ∃ x y, x < n ∧ y < n ∧ 50 < cntT P P.length x y := by
  obtain ⟨x, hx, hk⟩ := (accF_pos _ (prs_one P P.length) p).1 (by omega)
  have h5 := prs_rng h x hx
  rw [hk] at h5
  refine ⟨p.1.toNat, p.2.toNat, by omega, by omega, ?_⟩
  rw [cntT_acc P P.length (Nat.le_refl _) h, Int.toNat_of_nonneg (by omega), Int.toNat_of_nonneg (by omega)]
  exact hp
theorem make_k0 {n : Nat} (hn : n ≤ 12) {P : List (Int × Int)} (h : ∀ j, j < P.length → pErr n P j = 0) (hp : ∀ p : Int × Int, W64 p.1 → W64 p.2 → accF (prs P P.length) p ≤ 50) (x y : Nat) (hx : x < n) (hy : y < n) : cntT P P.length x y ≤ 50 := by
  rw [cntT_acc P P.length (Nat.le_refl _) h]
  exact hp _ (w64_of (by simp only; omega) (by simp only; omega)) (w64_of (by simp only; omega) (by simp only; omega))
set_option maxHeartbeats 12800000 in
set_option maxRecDepth 100000 in
theorem pmake_ok (n : Nat) (hn0 : 1 ≤ n) (hn : n ≤ 12) (b : Option Addr) (cp : Nat) (P : List (Int × Int)) (hP : P.length ≤ 4096) (w : World) (hp : PsAt w b P) :
    Calls Try.prog 23 #[.int .i64 n, .slice b P.length cp] w (fun e w' => ∃ k, GivesGE w (if k = 0 then n else 0) (if k = 0 then joinT (cntT P P.length) n n else []) k e w' ∧
      ((k = 2 ∧ ∃ j, j < P.length ∧ pErr n P j ≠ 0) ∨ (k = 5 ∧ (∀ j, j < P.length → pErr n P j = 0) ∧ ∃ x y, x < n ∧ y < n ∧ 50 < cntT P P.length x y) ∨ (k = 0 ∧ (∀ j, j < P.length → pErr n P j = 0) ∧ ∀ x y, x < n → y < n → cntT P P.length x y ≤ 50))) := by
  have hmm := @run_makeMap Try.prog
  have HC := Lib.hid (fun w => check_any (n : Int) none 0 [] (by simp) w (RowAt.nil _ _ _ _))
  have hc0 : chkG (n : Int) [] = 0 := by unfold chkG; rw [if_neg (by omega)]; rfl
  rw [hc0] at HC
  have HV := Lib.hid (fun v w => isVertex_any (n : Int) none 0 0 v w)
  have HADD := Lib.hid (fun b m hm A hA x y c hx hy hc hbd w h => padd_any b m hm A hA x y c hx hy hc hbd w h)
  have HGR := Lib.hid (fun b m hm F w h => pgraph_any b m hm F (n : Int) w h)
  unfold GivesGE
  unfold GivesG at HGR
  unfold GivesN gv at *
  simp only [List.length_nil] at HC
  obtain ⟨W, hW⟩ : ∃ W, W = (w.alloc (Obj.cells #[.int .i64 0, .slice none 0 0] 24)).alloc (Obj.cells #[.int .i64 n, .slice none 0 0] 24) := ⟨_, rfl⟩
  have hB0 : Below w.heap.size w W := by rw [hW]; exact ((Below.refl _ w).alloc (Nat.le_refl _) _).alloc (by simp) _
  have hR : Blk W w.heap.size 24 #[.int .i64 0, .slice none 0 0] := by rw [hW]; exact (Blk.new _ _ _).alloc _
  have hG : Blk W (w.heap.size + 1) 24 #[.int .i64 n, .slice none 0 0] := by
    rw [hW]
    have h9 := Blk.new (w.alloc (Obj.cells #[.int .i64 0, .slice none 0 0] 24)) 24 #[.int .i64 n, .slice none 0 0]
    rwa [World.size_alloc] at h9
  have HW := Lib.hid hW
  have HB0 := Lib.hid hB0
  have HR0 := Lib.hid hR
  have HG := Lib.hid hG
  have HPs := Lib.hid (hp.keep hB0)
  have g0 : W.cell? ⟨w.heap.size + 1, 0, none⟩ = some (.int .i64 n) := hG.cell 0
  have g1 : W.cell? ⟨w.heap.size + 1, 1, none⟩ = some (.slice none 0 0) := hG.cell 1
  have a3 : decide (4096 < ((P.length : Nat) : Int)) = false := decide_eq_false (by omega)
  clear hB0 hR hG hW hp hc0
  go_enter Try.func23, Try.ntmps23
  go_wp2_with fail
  rw [← HW.out]
  refine (HC.out W).mono ?_
  rintro e w1 ⟨rfl, hb⟩
  have HB1 := Lib.hid hb
  have HC1 := Lib.hid (Coll.made w1)
  have HBM : Hid (Below W.heap.size W (w1.alloc (.map #[] 0))) := Lib.hid (hb.alloc hb.size _)
  have HMS : Hid (W.heap.size ≤ w1.heap.size) := Lib.hid hb.size
  clear hb
  go_wp2
  go_loopw [28] (fun x wr => ∃ i : Nat, i ≤ P.length ∧ x = .int .i64 i ∧ (∀ j, j < i → pErr n P j = 0) ∧ Coll wr w1.heap.size i (accF (prs P i)) ∧ Below W.heap.size W wr) (fun x _ => P.length - (intOf x).toNat)
  case atStart => exact ⟨0, by omega, rfl, fun j hj => by omega, HC1.out, HBM.out⟩
  case round =>
    obtain ⟨i, hi, rfl, hz, hcl, hb⟩ := hrel
    have HZ := Lib.hid hz
    have HCL := Lib.hid hcl
    have HBR := Lib.hid hb
    by_cases hlt : i < P.length
    · obtain ⟨b1, o1, rfl, q1, x1, x2⟩ := (HPs.out.keep hb).two i hlt
      have HEr : Hid (pErr n P i = if isV n (pAt P i).1 = true ∧ isV n (pAt P i).2 = true then 0 else 2) := Lib.hid rfl
      have HPS := Lib.hid (prs_succ P i hlt)
      have hLE := prs_le P i
      have hON := prs_one P i
      obtain ⟨T, hTe⟩ : ∃ T, T = pAt P i := ⟨_, rfl⟩
      rw [← hTe] at x1 x2 HEr HPS
      obtain ⟨p1, p2⟩ := T
      simp only at x1 x2 HEr
      have i1 : (i : Int) < ((P.length : Nat) : Int) := by omega
      have HVA := Lib.hid (fun w => HV.out p1 w)
      have HVB := Lib.hid (fun w => HV.out p2 w)
      have HRA : Hid (isV n p1 = true → 0 ≤ p1 ∧ p1 < n) := Lib.hid (fun h => by simpa [isV] using h)
      have HRB : Hid (isV n p2 = true → 0 ≤ p2 ∧ p2 < n) := Lib.hid (fun h => by simpa [isV] using h)
      generalize isV n p1 = va at *
      generalize isV n p2 = vb at *
      have HBV : Hid (Below W.heap.size W (wr.alloc (Obj.cells #[.int .i64 p1, .int .i64 p2] 37))) := Lib.hid (hb.alloc hb.size _)
      have HCV : Hid (Coll (wr.alloc (Obj.cells #[.int .i64 p1, .int .i64 p2] 37)) w1.heap.size i (accF (prs P i))) := Lib.hid (hcl.alloc _)
      obtain ⟨V, hV⟩ : ∃ V, V = wr.alloc (Obj.cells #[.int .i64 p1, .int .i64 p2] 37) := ⟨_, rfl⟩
      have HQV : Hid (Blk V wr.heap.size 37 #[.int .i64 p1, .int .i64 p2]) := Lib.hid (by rw [hV]; exact Blk.new _ _ _)
      rw [← hV] at HBV HCV
      have HVe := Lib.hid hV
      have HFAC : Hid (∀ x, Below V.heap.size V x → (x.cell? ⟨w.heap.size + 1, 0, none⟩ = some (.int .i64 n) ∧ x.cell? ⟨w.heap.size + 1, 1, none⟩ = some (.slice none 0 0) ∧ x.cell? ⟨wr.heap.size, 0, none⟩ = some (.int .i64 p1) ∧ x.cell? ⟨wr.heap.size, 1, none⟩ = some (.int .i64 p2))) :=
        Lib.hid fun x hx => ⟨(HG.out.below (HBV.out.trans (hx.mono HBV.out.size)) HG.out.lt).cell 0, (HG.out.below (HBV.out.trans (hx.mono HBV.out.size)) HG.out.lt).cell 1, (HQV.out.below hx HQV.out.lt).cell 0, (HQV.out.below hx HQV.out.lt).cell 1⟩
      have y0 : (wr.alloc (Obj.cells #[.int .i64 p1, .int .i64 p2] 37)).cell? ⟨w.heap.size + 1, 0, none⟩ = some (.int .i64 n) := by rw [← hV]; exact (HFAC.out _ (Below.refl _ V)).1
      have y1 : (wr.alloc (Obj.cells #[.int .i64 p1, .int .i64 p2] 37)).cell? ⟨w.heap.size + 1, 1, none⟩ = some (.slice none 0 0) := by rw [← hV]; exact (HFAC.out _ (Below.refl _ V)).2.1
      clear hb hTe hz hV hcl
      cases va
      · have HE2 : Hid (pErr n P i = 2) := Lib.hid (by rw [HEr.out]; rfl)
        go_wp2_with fail
        rw [← HVe.out]
        refine (HVA.out _).mono ?_
        rintro e w4 ⟨rfl, hb4⟩
        have hk4 := HBV.out.trans (hb4.mono HBV.out.size)
        have hRr : Blk w4 w.heap.size 24 #[.int .i64 0, .slice none 0 0] := HR0.out.below hk4 HR0.out.lt
        have r1 : w4.cell? ⟨w.heap.size, 0, none⟩ = some (.int .i64 0) := hRr.cell 0
        have r3 : w4.frozen? ⟨w.heap.size, 0, none⟩ = false := hRr.frozen 0
        have r2 : (w4.setCell ⟨w.heap.size, 0, none⟩ (.int .i64 0)).cell? ⟨w.heap.size, 1, none⟩ = some (.slice none 0 0) := (hRr.set_ 0 (.int .i64 0)).cell 1
        have r4 : (w4.setCell ⟨w.heap.size, 0, none⟩ (.int .i64 0)).frozen? ⟨w.heap.size, 1, none⟩ = false := (hRr.set_ 0 (.int .i64 0)).frozen 1
        have hRf := (hRr.set_ 0 (.int .i64 0)).set_ 1 (.slice none 0 0)
        have r5 : ((w4.setCell ⟨w.heap.size, 0, none⟩ (.int .i64 0)).setCell ⟨w.heap.size, 1, none⟩ (.slice none 0 0)).cell? ⟨w.heap.size, 0, none⟩ = some (.int .i64 0) := hRf.cell 0
        have r6 : ((w4.setCell ⟨w.heap.size, 0, none⟩ (.int .i64 0)).setCell ⟨w.heap.size, 1, none⟩ (.slice none 0 0)).cell? ⟨w.heap.size, 1, none⟩ = some (.slice none 0 0) := hRf.cell 1
        have HBF : Hid (Below w.heap.size w ((w4.setCell ⟨w.heap.size, 0, none⟩ (.int .i64 0)).setCell ⟨w.heap.size, 1, none⟩ (.slice none 0 0))) := Lib.hid (((HB0.out.trans (hk4.mono HB0.out.size)).setCell (p := ⟨w.heap.size, 0, none⟩) (Nat.le_refl _) _).setCell (p := ⟨w.heap.size, 1, none⟩) (Nat.le_refl _) _)
        clear hRr hRf
        clear hb4 hk4
        go_wp2
        refine bodyPost_ret (v := .tuple #[.agg #[.int .i64 0, .slice none 0 0], .int .i64 2]) (by simp [results, Try.results23, go_sem, r5, r6]) rfl ?_
        exact ⟨2, ⟨none, 0, rfl, RowAt.nil _ _ _ _, World.ownsRow_nil _ _ _ _, HBF.out⟩, Or.inl ⟨rfl, i, hlt, by rw [HE2.out]; decide⟩⟩
      · cases vb
        · have HE2 : Hid (pErr n P i = 2) := Lib.hid (by rw [HEr.out]; rfl)
          go_wp2_with fail
          rw [← HVe.out]
          refine (HVA.out _).mono ?_
          rintro e w3 ⟨rfl, hb3⟩
          obtain ⟨f0, f1, f2, f3⟩ := HFAC.out _ hb3
          have HK3 := Lib.hid hb3
          clear hb3
          go_wp2_with fail
          refine (HVB.out _).mono ?_
          rintro e w4 ⟨rfl, hb4⟩
          have hk4 := HBV.out.trans ((HK3.out.trans (hb4.mono HK3.out.size)).mono HBV.out.size)
          have hRr : Blk w4 w.heap.size 24 #[.int .i64 0, .slice none 0 0] := HR0.out.below hk4 HR0.out.lt
          have r1 : w4.cell? ⟨w.heap.size, 0, none⟩ = some (.int .i64 0) := hRr.cell 0
          have r3 : w4.frozen? ⟨w.heap.size, 0, none⟩ = false := hRr.frozen 0
          have r2 : (w4.setCell ⟨w.heap.size, 0, none⟩ (.int .i64 0)).cell? ⟨w.heap.size, 1, none⟩ = some (.slice none 0 0) := (hRr.set_ 0 (.int .i64 0)).cell 1
          have r4 : (w4.setCell ⟨w.heap.size, 0, none⟩ (.int .i64 0)).frozen? ⟨w.heap.size, 1, none⟩ = false := (hRr.set_ 0 (.int .i64 0)).frozen 1
          have hRf := (hRr.set_ 0 (.int .i64 0)).set_ 1 (.slice none 0 0)
          have r5 : ((w4.setCell ⟨w.heap.size, 0, none⟩ (.int .i64 0)).setCell ⟨w.heap.size, 1, none⟩ (.slice none 0 0)).cell? ⟨w.heap.size, 0, none⟩ = some (.int .i64 0) := hRf.cell 0
          have r6 : ((w4.setCell ⟨w.heap.size, 0, none⟩ (.int .i64 0)).setCell ⟨w.heap.size, 1, none⟩ (.slice none 0 0)).cell? ⟨w.heap.size, 1, none⟩ = some (.slice none 0 0) := hRf.cell 1
          have HBF : Hid (Below w.heap.size w ((w4.setCell ⟨w.heap.size, 0, none⟩ (.int .i64 0)).setCell ⟨w.heap.size, 1, none⟩ (.slice none 0 0))) := Lib.hid (((HB0.out.trans (hk4.mono HB0.out.size)).setCell (p := ⟨w.heap.size, 0, none⟩) (Nat.le_refl _) _).setCell (p := ⟨w.heap.size, 1, none⟩) (Nat.le_refl _) _)
          clear hRr hRf
          clear hb4 hk4
          go_wp2
          refine bodyPost_ret (v := .tuple #[.agg #[.int .i64 0, .slice none 0 0], .int .i64 2]) (by simp [results, Try.results23, go_sem, r5, r6]) rfl ?_
          exact ⟨2, ⟨none, 0, rfl, RowAt.nil _ _ _ _, World.ownsRow_nil _ _ _ _, HBF.out⟩, Or.inl ⟨rfl, i, hlt, by rw [HE2.out]; decide⟩⟩
        · have HE0 : Hid (pErr n P i = 0) := Lib.hid (by rw [HEr.out]; rfl)
          have hra := HRA.out rfl
          have hrb := HRB.out rfl
          have HSUM := Lib.hid (fun w h => HADD.out w1.heap.size i (by omega) (prs P i) hON p1 p2 1 (w64_of (by omega) (by omega)) (w64_of (by omega) (by omega)) (by omega) (by have := hLE (mnP (p1, p2), mxP (p1, p2)); omega) w h)
          rw [← HPS.out] at HSUM
          clear hra hrb hLE hON
          go_wp2_with fail
          rw [← HVe.out]
          refine (HVA.out _).mono ?_
          rintro e w3 ⟨rfl, hb3⟩
          obtain ⟨f0, f1, f2, f3⟩ := HFAC.out _ hb3
          have HK3 := Lib.hid hb3
          clear hb3
          go_wp2_with fail
          refine (HVB.out _).mono ?_
          rintro e w4 ⟨rfl, hb4⟩
          have HK4 : Hid (Below V.heap.size V w4) := Lib.hid (HK3.out.trans (hb4.mono HK3.out.size))
          obtain ⟨d0, d1, d2, d3⟩ := HFAC.out _ HK4.out
          clear hb4 f0 f1 f2 f3
          go_wp2_with fail
          refine (HSUM.out w4 (HCV.out.below HK4.out HCV.out.lt)).mono ?_
          rintro e w5 ⟨rfl, hc5, hg5⟩
          have hb5 := (HBV.out.trans (HK4.out.mono HBV.out.size)).grown hg5 (by have := HBV.out.size; have := HK4.out.size; omega) (fun j hj => by injection hj with hj; have := HMS.out; omega)
          have HB5 := Lib.hid hb5
          have HC5 := Lib.hid hc5
          clear hb5 hc5 hg5
          go_wp2
          go_roundw
          case rel => exact ⟨i + 1, by omega, by go_num, fun j hj => by
            by_cases e : j = i
            · subst e; exact HE0.out
            · exact HZ.out j (by omega), HC5.out, HB5.out⟩
          case measure => simp [intOf]; omega
    · obtain rfl : i = P.length := by omega
      have HCJ := Lib.hid (fun L hs hm => coll_join (t := cntT P P.length) (n := n) (L := L) (by omega) (prs_rng HZ.out) (fun a b _ _ _ => cntT_acc P P.length (Nat.le_refl _) HZ.out a b) hs hm)
      have HK5 := Lib.hid (fun p hp => make_k5 HZ.out p hp)
      have HK0 := Lib.hid (fun hp => make_k0 hn HZ.out hp)
      generalize accF (prs P P.length) = F at *
      obtain ⟨D, ho, hs⟩ := hcl
      have HS := Lib.hid hs
      have hbr := HBR.out
      clear hz hb hs
      go_wp2_with (first
        | (at_range; refine wpList_range_own _ rfl _ 77 rfl 37 3 lawK Try.underlying77 _ w1.heap.size P.length D rfl ho ?_; intro w0 hrg0 hg0 hs0)
        | go_in)
      go_frame
      have hb0 : Below W.heap.size W w0 := hbr.grown hg0 hbr.size (fun j hj => by cases hj)
      have HWR : Hid (W.heap.size ≤ wr.heap.size) := Lib.hid hbr.size
      clear hbr hg0 hs0
      generalize wr.heap.size = rb at *
      clear HCL HBR ho
      go_loopw [12] (fun _ wr => ∃ (left : Lit → Bool) (cnt : Nat), wr.ranges Try.prog 37 plE w1.heap.size rb P.length D left cnt ∧ (∀ p : Int × Int, W64 p.1 → W64 p.2 → Maps.has D (kl p) = true → left (kl p) = false → F p ≤ 50) ∧ Below W.heap.size W wr) (fun _ wr => wr.rangeLeft w1.heap.size rb)
      case atStart => exact ⟨_, _, hrg0, (fun p _ _ h1 h2 => by rw [h1] at h2; cases h2), hb0⟩
      case round =>
        obtain ⟨left, cnt, hrg, hle, hb⟩ := hrel
        have HLE := Lib.hid hle
        have HB := Lib.hid hb
        clear hle hb
        go_wp2_with (first
          | (at_next; refine wpList_next_coll rfl _ rfl w1.heap.size rb P.length D left cnt rfl hrg ?_ ?_)
          | go_in)
        · intro hc0 hl0
          have HALL := Lib.hid (HK0.out fun p h1 h2 => by
            cases h3 : Maps.has D (kl p) with
            | true => exact HLE.out p h1 h2 h3 (hl0 _)
            | false =>
              have h4 := (HS.out p h1 h2).1
              rw [h3] at h4
              have := of_decide_eq_false h4.symm
              omega)
          have HCO : Hid (Coll wr w1.heap.size P.length F) := Lib.hid ⟨D, hrg.owns, HS.out⟩
          clear hrg hl0 hc0
          go_wp2_with fail
          refine (HGR.out w1.heap.size P.length (by omega) F wr HCO.out).mono ?_
          rintro e w2 ⟨L, hL1, hL2, hL3, a9, c9, rfl, hEs, hown2, hb2⟩
          have hbw := HB.out.trans (hb2.mono HB.out.size)
          obtain rfl := HCJ.out L hL1 hL2
          generalize hJ : joinT (cntT P P.length) n n = J at *
          have HJ := Lib.hid hJ
          clear hJ
          have hRr : Blk w2 w.heap.size 24 #[.int .i64 0, .slice none 0 0] := HR0.out.below hbw HR0.out.lt
          have r1 : w2.cell? ⟨w.heap.size, 0, none⟩ = some (.int .i64 0) := hRr.cell 0
          have r3 : w2.frozen? ⟨w.heap.size, 0, none⟩ = false := hRr.frozen 0
          have r2 : (w2.setCell ⟨w.heap.size, 0, none⟩ (.int .i64 n)).cell? ⟨w.heap.size, 1, none⟩ = some (.slice none 0 0) := (hRr.set_ 0 (.int .i64 n)).cell 1
          have r4 : (w2.setCell ⟨w.heap.size, 0, none⟩ (.int .i64 n)).frozen? ⟨w.heap.size, 1, none⟩ = false := (hRr.set_ 0 (.int .i64 n)).frozen 1
          have hRf := (hRr.set_ 0 (.int .i64 n)).set_ 1 (.slice a9 J.length c9)
          have r5 : ((w2.setCell ⟨w.heap.size, 0, none⟩ (.int .i64 n)).setCell ⟨w.heap.size, 1, none⟩ (.slice a9 J.length c9)).cell? ⟨w.heap.size, 0, none⟩ = some (.int .i64 n) := hRf.cell 0
          have r6 : ((w2.setCell ⟨w.heap.size, 0, none⟩ (.int .i64 n)).setCell ⟨w.heap.size, 1, none⟩ (.slice a9 J.length c9)).cell? ⟨w.heap.size, 1, none⟩ = some (.slice a9 J.length c9) := hRf.cell 1
          have e0 := (ownsRow_setCell_below (ownsRow_setCell_below (hown2.mono (base' := w.heap.size + 1) (by have := HB.out.size; have := HR0.out.lt; omega)) (a := ⟨w.heap.size, 0, none⟩) (Nat.lt_succ_self _) (.int .i64 n)) (a := ⟨w.heap.size, 1, none⟩) (Nat.lt_succ_self _) (.slice a9 J.length c9))
          have E3 := Lib.hid (e0.mono (base' := w.heap.size) (by omega))
          obtain ⟨a', c', e1, e2⟩ := RowAt.of_own encE_len3 e0
          clear e0
          have E1 := Lib.hid e1
          have E2 := Lib.hid e2
          have HBF : Hid (Below w.heap.size w ((w2.setCell ⟨w.heap.size, 0, none⟩ (.int .i64 n)).setCell ⟨w.heap.size, 1, none⟩ (.slice a9 J.length c9))) := Lib.hid (((HB0.out.trans (hbw.mono HB0.out.size)).setCell (p := ⟨w.heap.size, 0, none⟩) (Nat.le_refl _) _).setCell (p := ⟨w.heap.size, 1, none⟩) (Nat.le_refl _) _)
          clear hRr hRf hbw hEs hown2 hb2 e1 e2 hL1 hL2 hL3
          go_wp2
          refine bodyPost_ret (v := .tuple #[.agg #[.int .i64 n, .slice a9 J.length c9], .int .i64 0]) (by simp [results, Try.results23, go_sem, r5, r6]) rfl ?_
          injection E1.out with q1 q2 q3
          have hq := E2.out
          rw [← q1] at hq
          refine ⟨0, ?_, Or.inr (Or.inr ⟨rfl, HZ.out, HALL.out⟩)⟩
          rw [if_pos rfl, if_pos rfl, HJ.out]
          exact ⟨a9, c9, rfl, hq, E3.out, HBF.out⟩
        · intro p1 p2 c w3 cnt1 hp1 hp2 hwc hlx hat hrg1 hlt1 hg1 hs1 hen
          have hF := (HS.out (p1, p2) hp1 hp2).2
          rw [hat] at hF
          have HcF : Hid (c = F (p1, p2)) := Lib.hid (by injection hF with hF; injection hF)
          have hb3 : Below W.heap.size W w3 := HB.out.grown hg1 HB.out.size (fun j hj => by injection hj with hj; have := HWR.out; omega)
          have HB3 := Lib.hid hb3
          have HRG := Lib.hid hrg1
          have HLL : Hid (w3.rangeLeft w1.heap.size rb = cnt1 ∧ wr.rangeLeft w1.heap.size rb = cnt) := Lib.hid ⟨hrg1.left_eq, hrg.left_eq⟩
          clear hF hrg1 hg1 hs1 hat hwc hrg
          by_cases h50 : 50 < c
          · have d50 : decide (50 < c) = true := decide_eq_true h50
            have hRr : Blk w3 w.heap.size 24 #[.int .i64 0, .slice none 0 0] := HR0.out.below hb3 HR0.out.lt
            have r1 : w3.cell? ⟨w.heap.size, 0, none⟩ = some (.int .i64 0) := hRr.cell 0
            have r3 : w3.frozen? ⟨w.heap.size, 0, none⟩ = false := hRr.frozen 0
            have r2 : (w3.setCell ⟨w.heap.size, 0, none⟩ (.int .i64 0)).cell? ⟨w.heap.size, 1, none⟩ = some (.slice none 0 0) := (hRr.set_ 0 (.int .i64 0)).cell 1
            have r4 : (w3.setCell ⟨w.heap.size, 0, none⟩ (.int .i64 0)).frozen? ⟨w.heap.size, 1, none⟩ = false := (hRr.set_ 0 (.int .i64 0)).frozen 1
            have hRf := (hRr.set_ 0 (.int .i64 0)).set_ 1 (.slice none 0 0)
            have r5 : ((w3.setCell ⟨w.heap.size, 0, none⟩ (.int .i64 0)).setCell ⟨w.heap.size, 1, none⟩ (.slice none 0 0)).cell? ⟨w.heap.size, 0, none⟩ = some (.int .i64 0) := hRf.cell 0
            have r6 : ((w3.setCell ⟨w.heap.size, 0, none⟩ (.int .i64 0)).setCell ⟨w.heap.size, 1, none⟩ (.slice none 0 0)).cell? ⟨w.heap.size, 1, none⟩ = some (.slice none 0 0) := hRf.cell 1
            have HBF : Hid (Below w.heap.size w ((w3.setCell ⟨w.heap.size, 0, none⟩ (.int .i64 0)).setCell ⟨w.heap.size, 1, none⟩ (.slice none 0 0))) := Lib.hid (((HB0.out.trans (hb3.mono HB0.out.size)).setCell (p := ⟨w.heap.size, 0, none⟩) (Nat.le_refl _) _).setCell (p := ⟨w.heap.size, 1, none⟩) (Nat.le_refl _) _)
            clear hRr hRf
            clear hb3
            go_wp2
            refine bodyPost_ret (v := .tuple #[.agg #[.int .i64 0, .slice none 0 0], .int .i64 5]) (by simp [results, Try.results23, go_sem, r5, r6]) rfl ?_
            exact ⟨5, ⟨none, 0, rfl, RowAt.nil _ _ _ _, World.ownsRow_nil _ _ _ _, HBF.out⟩, Or.inr (Or.inl ⟨rfl, HZ.out, HK5.out (p1, p2) (by rw [← HcF.out]; exact h50)⟩)⟩
          · have d50 : decide (50 < c) = false := decide_eq_false h50
            clear hb3
            go_wp2
            go_roundw
            case rel => exact ⟨_, cnt1, HRG.out, fun p h1 h2 h3 h4 => by
              by_cases e : p = (p1, p2)
              · subst e; rw [← HcF.out]; omega
              · refine HLE.out p h1 h2 h3 ?_
                have h5 : (kl p).sameKey (kl (p1, p2)) = false := Maps.sameKey_ne (fun e' => e (kl_inj h1 h2 hp1 hp2 e'))
                simpa [h5] using h4, HB3.out⟩
            case measure => rw [HLL.out.1, HLL.out.2]; exact hlt1
set_option maxHeartbeats 12800000 in
set_option maxRecDepth 100000 in
theorem pmake_bad (n : Int) (hn : n < 1 ∨ 12 < n) (b : Option Addr) (cp : Nat) (P : List (Int × Int))  (w : World) :
    Calls Try.prog 23 #[.int .i64 n, .slice b P.length cp] w (GivesGE w 0 [] 2) := by
  have HC := Lib.hid (fun w => check_any n none 0 [] (by simp) w (RowAt.nil _ _ _ _))
  have hc0 : chkG n [] = 2 := by unfold chkG; rw [if_pos (by omega)]
  rw [hc0] at HC
  unfold GivesGE
  unfold GivesN gv at *
  simp only [List.length_nil] at HC
  obtain ⟨W, hW⟩ : ∃ W, W = (w.alloc (Obj.cells #[.int .i64 0, .slice none 0 0] 24)).alloc (Obj.cells #[.int .i64 n, .slice none 0 0] 24) := ⟨_, rfl⟩
  have hB0 : Below w.heap.size w W := by rw [hW]; exact ((Below.refl _ w).alloc (Nat.le_refl _) _).alloc (by simp) _
  have hR : Blk W w.heap.size 24 #[.int .i64 0, .slice none 0 0] := by rw [hW]; exact (Blk.new _ _ _).alloc _
  have hG : Blk W (w.heap.size + 1) 24 #[.int .i64 n, .slice none 0 0] := by
    rw [hW]
    have h9 := Blk.new (w.alloc (Obj.cells #[.int .i64 0, .slice none 0 0] 24)) 24 #[.int .i64 n, .slice none 0 0]
    rwa [World.size_alloc] at h9
  have HW := Lib.hid hW
  have HB0 := Lib.hid hB0
  have HR0 := Lib.hid hR
  have g0 : W.cell? ⟨w.heap.size + 1, 0, none⟩ = some (.int .i64 n) := hG.cell 0
  have g1 : W.cell? ⟨w.heap.size + 1, 1, none⟩ = some (.slice none 0 0) := hG.cell 1
  clear hB0 hR hG hW hc0
  go_enter Try.func23, Try.ntmps23
  go_wp2_with fail
  rw [← HW.out]
  refine (HC.out W).mono ?_
  rintro e w1 ⟨rfl, hb⟩
  have hRr : Blk w1 w.heap.size 24 #[.int .i64 0, .slice none 0 0] := HR0.out.below hb HR0.out.lt
  have r1 : w1.cell? ⟨w.heap.size, 0, none⟩ = some (.int .i64 0) := hRr.cell 0
  have r3 : w1.frozen? ⟨w.heap.size, 0, none⟩ = false := hRr.frozen 0
  have r2 : (w1.setCell ⟨w.heap.size, 0, none⟩ (.int .i64 0)).cell? ⟨w.heap.size, 1, none⟩ = some (.slice none 0 0) := (hRr.set_ 0 (.int .i64 0)).cell 1
  have r4 : (w1.setCell ⟨w.heap.size, 0, none⟩ (.int .i64 0)).frozen? ⟨w.heap.size, 1, none⟩ = false := (hRr.set_ 0 (.int .i64 0)).frozen 1
  have hRf := (hRr.set_ 0 (.int .i64 0)).set_ 1 (.slice none 0 0)
  have r5 : ((w1.setCell ⟨w.heap.size, 0, none⟩ (.int .i64 0)).setCell ⟨w.heap.size, 1, none⟩ (.slice none 0 0)).cell? ⟨w.heap.size, 0, none⟩ = some (.int .i64 0) := hRf.cell 0
  have r6 : ((w1.setCell ⟨w.heap.size, 0, none⟩ (.int .i64 0)).setCell ⟨w.heap.size, 1, none⟩ (.slice none 0 0)).cell? ⟨w.heap.size, 1, none⟩ = some (.slice none 0 0) := hRf.cell 1
  have HBF : Hid (Below w.heap.size w ((w1.setCell ⟨w.heap.size, 0, none⟩ (.int .i64 0)).setCell ⟨w.heap.size, 1, none⟩ (.slice none 0 0))) := Lib.hid (((HB0.out.trans (hb.mono HB0.out.size)).setCell (p := ⟨w.heap.size, 0, none⟩) (Nat.le_refl _) _).setCell (p := ⟨w.heap.size, 1, none⟩) (Nat.le_refl _) _)
  clear hRr hRf
  clear hb
  go_wp2
  refine bodyPost_ret (v := .tuple #[.agg #[.int .i64 0, .slice none 0 0], .int .i64 2]) (by simp [results, Try.results23, go_sem, r5, r6]) rfl ?_
  exact ⟨none, 0, rfl, RowAt.nil _ _ _ _, World.ownsRow_nil _ _ _ _, HBF.out⟩
set_option maxHeartbeats 12800000 in
set_option maxRecDepth 100000 in
theorem pmake_many (n : Int) (hn0 : 1 ≤ n) (hn : n ≤ 12) (b : Option Addr) (cp : Nat) (P : List (Int × Int)) (hP : 4096 < P.length) (w : World) :
    Calls Try.prog 23 #[.int .i64 n, .slice b P.length cp] w (GivesGE w 0 [] 5) := by
  have HC := Lib.hid (fun w => check_any n none 0 [] (by simp) w (RowAt.nil _ _ _ _))
  have hc0 : chkG n [] = 0 := by unfold chkG; rw [if_neg (by omega)]; rfl
  rw [hc0] at HC
  unfold GivesGE
  unfold GivesN gv at *
  simp only [List.length_nil] at HC
  obtain ⟨W, hW⟩ : ∃ W, W = (w.alloc (Obj.cells #[.int .i64 0, .slice none 0 0] 24)).alloc (Obj.cells #[.int .i64 n, .slice none 0 0] 24) := ⟨_, rfl⟩
  have hB0 : Below w.heap.size w W := by rw [hW]; exact ((Below.refl _ w).alloc (Nat.le_refl _) _).alloc (by simp) _
  have hR : Blk W w.heap.size 24 #[.int .i64 0, .slice none 0 0] := by rw [hW]; exact (Blk.new _ _ _).alloc _
  have hG : Blk W (w.heap.size + 1) 24 #[.int .i64 n, .slice none 0 0] := by
    rw [hW]
    have h9 := Blk.new (w.alloc (Obj.cells #[.int .i64 0, .slice none 0 0] 24)) 24 #[.int .i64 n, .slice none 0 0]
    rwa [World.size_alloc] at h9
  have HW := Lib.hid hW
  have HB0 := Lib.hid hB0
  have HR0 := Lib.hid hR
  have g0 : W.cell? ⟨w.heap.size + 1, 0, none⟩ = some (.int .i64 n) := hG.cell 0
  have g1 : W.cell? ⟨w.heap.size + 1, 1, none⟩ = some (.slice none 0 0) := hG.cell 1
  have a3 : decide (4096 < ((P.length : Nat) : Int)) = true := decide_eq_true (by omega)
  clear hB0 hR hG hW hc0
  go_enter Try.func23, Try.ntmps23
  go_wp2_with fail
  rw [← HW.out]
  refine (HC.out W).mono ?_
  rintro e w1 ⟨rfl, hb⟩
  have hRr : Blk w1 w.heap.size 24 #[.int .i64 0, .slice none 0 0] := HR0.out.below hb HR0.out.lt
  have r1 : w1.cell? ⟨w.heap.size, 0, none⟩ = some (.int .i64 0) := hRr.cell 0
  have r3 : w1.frozen? ⟨w.heap.size, 0, none⟩ = false := hRr.frozen 0
  have r2 : (w1.setCell ⟨w.heap.size, 0, none⟩ (.int .i64 0)).cell? ⟨w.heap.size, 1, none⟩ = some (.slice none 0 0) := (hRr.set_ 0 (.int .i64 0)).cell 1
  have r4 : (w1.setCell ⟨w.heap.size, 0, none⟩ (.int .i64 0)).frozen? ⟨w.heap.size, 1, none⟩ = false := (hRr.set_ 0 (.int .i64 0)).frozen 1
  have hRf := (hRr.set_ 0 (.int .i64 0)).set_ 1 (.slice none 0 0)
  have r5 : ((w1.setCell ⟨w.heap.size, 0, none⟩ (.int .i64 0)).setCell ⟨w.heap.size, 1, none⟩ (.slice none 0 0)).cell? ⟨w.heap.size, 0, none⟩ = some (.int .i64 0) := hRf.cell 0
  have r6 : ((w1.setCell ⟨w.heap.size, 0, none⟩ (.int .i64 0)).setCell ⟨w.heap.size, 1, none⟩ (.slice none 0 0)).cell? ⟨w.heap.size, 1, none⟩ = some (.slice none 0 0) := hRf.cell 1
  have HBF : Hid (Below w.heap.size w ((w1.setCell ⟨w.heap.size, 0, none⟩ (.int .i64 0)).setCell ⟨w.heap.size, 1, none⟩ (.slice none 0 0))) := Lib.hid (((HB0.out.trans (hb.mono HB0.out.size)).setCell (p := ⟨w.heap.size, 0, none⟩) (Nat.le_refl _) _).setCell (p := ⟨w.heap.size, 1, none⟩) (Nat.le_refl _) _)
  clear hRr hRf
  clear hb
  go_wp2
  refine bodyPost_ret (v := .tuple #[.agg #[.int .i64 0, .slice none 0 0], .int .i64 5]) (by simp [results, Try.results23, go_sem, r5, r6]) rfl ?_
  exact ⟨none, 0, rfl, RowAt.nil _ _ _ _, World.ownsRow_nil _ _ _ _, HBF.out⟩
end Go.Proofs.Ytjaafneoinidkaa
