/- The graph with other numbers of its vertices, by the program. -/
import Derived.Test.YtjaafneoinidkaaHk
import Derived.Test.YtjaafneoinidkaaHd
import Derived.Test.YtjaafneoinidkaaLateD
namespace Go.Proofs.Ytjaafneoinidkaa
open Go.RowKit Go.Shelf Go.Proofs.Gr Go.Maps
attribute [local go_sem] Oper.semAt_some

theorem pcontains_any (b1 o1 c i : Nat) (S : List Int) (hi : i ≤ S.length) (hS : S.length ≤ 100000) (v : Int) (w : World) (h : IsAt w (some ⟨b1, o1, none⟩) S) :
    Calls Try.prog 66 #[.slice (some ⟨b1, o1, none⟩) i c, .int .i64 v] w (fun e w' => e = .returned (.bool ((S.take i).contains v)) ∧ w = w') :=
  (Try.slices_Contains_int b1 o1 i c S v w hi (by omega) (fun j hj => by
    obtain ⟨b', o', h1, h2, h3⟩ := h.one j hj
    injection h1 with h1
    injection h1 with e1 e2
    subst e1 e2
    rw [h3]; rfl)).mono fun _ _ ⟨h1, h2⟩ => ⟨h1, h2.symm⟩
/-- What the edges add under new numbers. -/
def relA (L : List E) (S : List Int) : List ((Int × Int) × Int) := L.map fun e => ((mnP (iAt S e.a.toNat, iAt S e.b.toNat), mxP (iAt S e.a.toNat, iAt S e.b.toNat)), e.m)
theorem relA_succ (L : List E) (S : List Int) (i : Nat) (h : i < L.length) : relA (L.take (i + 1)) S = relA (L.take i) S ++ [((mnP (iAt S (eAt L i).a.toNat, iAt S (eAt L i).b.toNat), mxP (iAt S (eAt L i).a.toNat, iAt S (eAt L i).b.toNat)), (eAt L i).m)] := by
  unfold relA
  rw [List.take_succ_eq_append_getElem h, List.map_append, eAt_get]; rfl
/-- The new graph. -/
def relG (L : List E) (S : List Int) : List E := joinT (fun x y => betw (ixZ S x) (ixZ S y) L) S.length S.length
theorem nErr_rng {n : Int} {S : List Int} {i : Nat} (h : nErr n S i = 0) : 0 ≤ iAt S i ∧ iAt S i < n ∧ (S.take i).contains (iAt S i) = false := by
  unfold nErr at h
  split at h
  · omega
  · split at h
    · omega
    · rename_i h1 h2
      exact ⟨by omega, by omega, by simpa using h2⟩
theorem nErr_nodup {n : Int} {S : List Int} (h : ∀ j, j < S.length → nErr n S j = 0) : S.Nodup := by
  rw [List.nodup_iff_pairwise_ne, List.pairwise_iff_getElem]
  intro i j hi hj hij he
  have h1 := (nErr_rng (h j hj)).2.2
  rw [← iAt_get S j hj, ← he] at h1
  have : S[i] ∈ S.take j := List.mem_iff_getElem.2 ⟨i, by rw [List.length_take]; omega, by rw [List.getElem_take]⟩
  simp [this] at h1
theorem ren_all {S : List Int} (h : ∀ j, j < S.length → nErr S.length S j = 0) (x : Nat) (hx : x < S.length) : S.contains (x : Int) = true := by
  cases hc : S.contains (x : Int) with
  | true => rfl
  | false =>
    have hm : (x : Int) ∉ S := by simpa using hc
    have h1 := len_le ((x : Int) :: S) ((List.range S.length).map fun k : Nat => (k : Int)) (List.pairwise_cons.2 ⟨fun y hy e => hm (e ▸ hy), nErr_nodup h⟩) fun y hy => by
      rw [List.mem_map]
      rcases List.mem_cons.1 hy with rfl | hy
      · exact ⟨x, List.mem_range.2 hx, rfl⟩
      · obtain ⟨j, hj, rfl⟩ := List.mem_iff_getElem.1 hy
        have h2 := nErr_rng (h j hj)
        rw [← iAt_get S j hj] at h2
        exact ⟨S[j].toNat, List.mem_range.2 (by omega), by omega⟩
    rw [List.length_cons, List.length_map, List.length_range] at h1
    omega
theorem ren_ix {S : List Int} (h : ∀ j, j < S.length → nErr S.length S j = 0) (i : Nat) (hi : i < S.length) : ixZ S (iAt S i) = i := by
  unfold ixZ
  rw [← iAt_get S i hi, if_pos (by simp), (nErr_nodup h).idxOf_getElem i hi]
theorem relA_rng {L : List E} {S : List Int} (hr : ∀ e ∈ L, 0 ≤ e.a ∧ e.a ≤ e.b ∧ e.b < (S.length : Int) ∧ 1 ≤ e.m ∧ e.m ≤ 50) (h : ∀ j, j < S.length → nErr S.length S j = 0) : ∀ x ∈ relA L S, 1 ≤ x.2 ∧ x.2 ≤ 50 ∧ 0 ≤ x.1.1 ∧ x.1.1 ≤ x.1.2 ∧ x.1.2 < (S.length : Int) := by
  intro x hx
  obtain ⟨e, he, rfl⟩ := List.mem_map.1 hx
  have h3 := hr e he
  have h4 := nErr_rng (h e.a.toNat (by omega))
  have h5 := nErr_rng (h e.b.toNat (by omega))
  refine ⟨h3.2.2.2.1, h3.2.2.2.2, ?_⟩
  unfold mnP mxP
  simp only
  split <;> split <;> omega
theorem relA_bound {L : List E} {S : List Int} (hr : ∀ e ∈ L, 0 ≤ e.a ∧ e.a ≤ e.b ∧ e.b < (S.length : Int) ∧ 1 ≤ e.m ∧ e.m ≤ 50) (i : Nat) (p : Int × Int) : accF (relA (L.take i) S) p ≤ 50 * L.length := by
  have h1 := accF_le (relA (L.take i) S) 50 (by omega) (fun x hx => by
    obtain ⟨e, he, rfl⟩ := List.mem_map.1 hx
    exact (hr e (List.mem_of_mem_take he)).2.2.2.2) p
  have h2 : (relA (L.take i) S).length ≤ L.length := by unfold relA; rw [List.length_map, List.length_take]; omega
  have h3 : (50 : Int) * ((relA (L.take i) S).length : Int) ≤ 50 * (L.length : Int) := Int.mul_le_mul_of_nonneg_left (by omega) (by omega)
  omega
theorem relA_acc {L : List E} {S : List Int} (hr : ∀ e ∈ L, 0 ≤ e.a ∧ e.a ≤ e.b ∧ e.b < (S.length : Int) ∧ 1 ≤ e.m ∧ e.m ≤ 50) (h : ∀ j, j < S.length → nErr S.length S j = 0) (x y : Nat) (hx : x < S.length) (hy : y < S.length) (hxy : x ≤ y) : betw (ixZ S x) (ixZ S y) L = accF (relA L S) ((x : Int), (y : Int)) := by
  have hX := ixZ_mem (ren_all h x hx)
  have hY := ixZ_mem (ren_all h y hy)
  unfold betw
  induction L with
  | nil => rfl
  | cons e r ih =>
    have h1 := ih (fun z hz => hr z (List.mem_cons_of_mem _ hz))
    have h2 := hr e (by simp)
    rw [bet, h1]
    show _ = accF (_ :: _) _
    rw [accF]
    congr 1
    have ha : e.a.toNat < S.length := by omega
    have hb : e.b.toNat < S.length := by omega
    have ea := ren_ix h e.a.toNat ha
    have eb := ren_ix h e.b.toNat hb
    have key : (e.a = min (ixZ S x) (ixZ S y) ∧ e.b = max (ixZ S x) (ixZ S y)) ↔ (mnP (iAt S e.a.toNat, iAt S e.b.toNat), mxP (iAt S e.a.toNat, iAt S e.b.toNat)) = ((x : Int), (y : Int)) := by
      rw [Prod.mk.injEq]
      constructor
      · rintro ⟨k1, k2⟩
        unfold mnP mxP
        simp only
        rcases Int.le_total (ixZ S x) (ixZ S y) with h3 | h3
        · rw [Int.min_eq_left h3] at k1
          rw [Int.max_eq_right h3] at k2
          rw [k1, k2, hX.2.2, hY.2.2]
          split <;> split <;> omega
        · rw [Int.min_eq_right h3] at k1
          rw [Int.max_eq_left h3] at k2
          rw [k1, k2, hX.2.2, hY.2.2]
          split <;> split <;> omega
      · unfold mnP mxP
        simp only
        rintro ⟨k1, k2⟩
        by_cases h3 : iAt S e.b.toNat < iAt S e.a.toNat
        · rw [if_pos h3] at k1
          rw [if_neg (by omega)] at k2
          rw [k2] at ea
          rw [k1] at eb
          omega
        · rw [if_neg h3] at k1
          have k3 : iAt S e.b.toNat = (y : Int) := by
            split at k2
            · exact k2
            · omega
          rw [k1] at ea
          rw [k3] at eb
          omega
    by_cases hk : e.a = min (ixZ S x) (ixZ S y) ∧ e.b = max (ixZ S x) (ixZ S y)
    · rw [if_pos hk, if_pos (key.1 hk)]
    · rw [if_neg hk, if_neg (fun h => hk (key.2 h))]
set_option maxHeartbeats 12800000 in
set_option maxRecDepth 100000 in
theorem prelabel_err (n : Int) (a : Option Addr) (cap : Nat) (L : List E) (hL : L.length ≤ 100000) (b : Option Addr) (c : Nat) (S : List Int) (h0 : chkG n L ≠ 0) (w : World) (h : EsAt w a L) (hv : IsAt w b S) :
    Calls Try.prog 43 #[gv n a L.length cap, .slice b S.length c] w (GivesGE w 0 [] (chkG n L)) := by
  have HC := Lib.hid (fun w h => check_any n a cap L (by omega) w h)
  generalize chkG n L = k at *
  have q0 : (((k : Nat) : Int) != 0) = true := by rw [bne_iff_ne]; omega
  unfold GivesGE
  unfold GivesN gv at *
  obtain ⟨W, hW⟩ : ∃ W, W = (w.alloc (Obj.cells #[.int .i64 n, .slice a L.length cap] 24)).alloc (Obj.cells #[.int .i64 0, .slice none 0 0] 24) := ⟨_, rfl⟩
  have hB0 : Below w.heap.size w W := by rw [hW]; exact ((Below.refl _ w).alloc (Nat.le_refl _) _).alloc (by simp) _
  have hG : Blk W w.heap.size 24 #[.int .i64 n, .slice a L.length cap] := by rw [hW]; exact (Blk.new _ _ _).alloc _
  have hR : Blk W (w.heap.size + 1) 24 #[.int .i64 0, .slice none 0 0] := by
    rw [hW]
    have h9 := Blk.new (w.alloc (Obj.cells #[.int .i64 n, .slice a L.length cap] 24)) 24 #[.int .i64 0, .slice none 0 0]
    rwa [World.size_alloc] at h9
  have HW := Lib.hid hW
  have HB0 := Lib.hid hB0
  have HG := Lib.hid hG
  have HR0 := Lib.hid hR
  have HE := Lib.hid (h.keep hB0)
  have HVv := Lib.hid (hv.keep hB0)
  have g0 : W.cell? ⟨w.heap.size, 0, none⟩ = some (.int .i64 n) := hG.cell 0
  have g1 : W.cell? ⟨w.heap.size, 1, none⟩ = some (.slice a L.length cap) := hG.cell 1
  clear hB0 hG hR hW h hv
  go_enter Try.func43, Try.ntmps43
  go_wp2_with fail
  rw [← HW.out]
  refine (HC.out W HE.out).mono ?_
  rintro e w1 ⟨rfl, hb⟩
  have hRr : Blk w1 (w.heap.size + 1) 24 #[.int .i64 0, .slice none 0 0] := HR0.out.below hb HR0.out.lt
  have r1 : w1.cell? ⟨w.heap.size + 1, 0, none⟩ = some (.int .i64 0) := hRr.cell 0
  have r3 : w1.frozen? ⟨w.heap.size + 1, 0, none⟩ = false := hRr.frozen 0
  have r2 : (w1.setCell ⟨w.heap.size + 1, 0, none⟩ (.int .i64 0)).cell? ⟨w.heap.size + 1, 1, none⟩ = some (.slice none 0 0) := (hRr.set_ 0 (.int .i64 0)).cell 1
  have r4 : (w1.setCell ⟨w.heap.size + 1, 0, none⟩ (.int .i64 0)).frozen? ⟨w.heap.size + 1, 1, none⟩ = false := (hRr.set_ 0 (.int .i64 0)).frozen 1
  have hRf := (hRr.set_ 0 (.int .i64 0)).set_ 1 (.slice none 0 0)
  have r5 : ((w1.setCell ⟨w.heap.size + 1, 0, none⟩ (.int .i64 0)).setCell ⟨w.heap.size + 1, 1, none⟩ (.slice none 0 0)).cell? ⟨w.heap.size + 1, 0, none⟩ = some (.int .i64 0) := hRf.cell 0
  have r6 : ((w1.setCell ⟨w.heap.size + 1, 0, none⟩ (.int .i64 0)).setCell ⟨w.heap.size + 1, 1, none⟩ (.slice none 0 0)).cell? ⟨w.heap.size + 1, 1, none⟩ = some (.slice none 0 0) := hRf.cell 1
  have HBF : Hid (Below w.heap.size w ((w1.setCell ⟨w.heap.size + 1, 0, none⟩ (.int .i64 0)).setCell ⟨w.heap.size + 1, 1, none⟩ (.slice none 0 0))) := Lib.hid (((HB0.out.trans (hb.mono HB0.out.size)).setCell (p := ⟨w.heap.size + 1, 0, none⟩) (Nat.le_succ _) _).setCell (p := ⟨w.heap.size + 1, 1, none⟩) (Nat.le_succ _) _)
  clear hRr hRf
  clear hb
  go_wp2
  refine bodyPost_ret (v := .tuple #[.agg #[.int .i64 0, .slice none 0 0], .int .i64 (k : Nat)]) (by simp [results, Try.results43, go_sem, r5, r6]) rfl ?_
  exact ⟨none, 0, rfl, RowAt.nil _ _ _ _, World.ownsRow_nil _ _ _ _, HBF.out⟩
set_option maxHeartbeats 12800000 in
set_option maxRecDepth 100000 in
theorem prelabel_shape (n : Int) (a : Option Addr) (cap : Nat) (L : List E) (hL : L.length ≤ 100000) (b : Option Addr) (c : Nat) (S : List Int) (h0 : chkG n L = 0) (hn : (S.length : Int) ≠ n) (w : World) (h : EsAt w a L) (hv : IsAt w b S) :
    Calls Try.prog 43 #[gv n a L.length cap, .slice b S.length c] w (GivesGE w 0 [] 8) := by
  have HC := Lib.hid (fun w h => check_any n a cap L (by omega) w h)
  rw [h0] at HC
  have q0 : (((S.length : Nat) : Int) != n) = true := by rw [bne_iff_ne]; exact hn
  unfold GivesGE
  unfold GivesN gv at *
  clear h0 hn
  obtain ⟨W, hW⟩ : ∃ W, W = (w.alloc (Obj.cells #[.int .i64 n, .slice a L.length cap] 24)).alloc (Obj.cells #[.int .i64 0, .slice none 0 0] 24) := ⟨_, rfl⟩
  have hB0 : Below w.heap.size w W := by rw [hW]; exact ((Below.refl _ w).alloc (Nat.le_refl _) _).alloc (by simp) _
  have hG : Blk W w.heap.size 24 #[.int .i64 n, .slice a L.length cap] := by rw [hW]; exact (Blk.new _ _ _).alloc _
  have hR : Blk W (w.heap.size + 1) 24 #[.int .i64 0, .slice none 0 0] := by
    rw [hW]
    have h9 := Blk.new (w.alloc (Obj.cells #[.int .i64 n, .slice a L.length cap] 24)) 24 #[.int .i64 0, .slice none 0 0]
    rwa [World.size_alloc] at h9
  have HW := Lib.hid hW
  have HB0 := Lib.hid hB0
  have HG := Lib.hid hG
  have HR0 := Lib.hid hR
  have HE := Lib.hid (h.keep hB0)
  have HVv := Lib.hid (hv.keep hB0)
  have g0 : W.cell? ⟨w.heap.size, 0, none⟩ = some (.int .i64 n) := hG.cell 0
  have g1 : W.cell? ⟨w.heap.size, 1, none⟩ = some (.slice a L.length cap) := hG.cell 1
  clear hB0 hG hR hW h hv
  go_enter Try.func43, Try.ntmps43
  go_wp2_with fail
  rw [← HW.out]
  refine (HC.out W HE.out).mono ?_
  rintro e w1 ⟨rfl, hb⟩
  have m0 : w1.cell? ⟨w.heap.size, 0, none⟩ = some (.int .i64 n) := (HG.out.below hb HG.out.lt).cell 0
  have hRr : Blk w1 (w.heap.size + 1) 24 #[.int .i64 0, .slice none 0 0] := HR0.out.below hb HR0.out.lt
  have r1 : w1.cell? ⟨w.heap.size + 1, 0, none⟩ = some (.int .i64 0) := hRr.cell 0
  have r3 : w1.frozen? ⟨w.heap.size + 1, 0, none⟩ = false := hRr.frozen 0
  have r2 : (w1.setCell ⟨w.heap.size + 1, 0, none⟩ (.int .i64 0)).cell? ⟨w.heap.size + 1, 1, none⟩ = some (.slice none 0 0) := (hRr.set_ 0 (.int .i64 0)).cell 1
  have r4 : (w1.setCell ⟨w.heap.size + 1, 0, none⟩ (.int .i64 0)).frozen? ⟨w.heap.size + 1, 1, none⟩ = false := (hRr.set_ 0 (.int .i64 0)).frozen 1
  have hRf := (hRr.set_ 0 (.int .i64 0)).set_ 1 (.slice none 0 0)
  have r5 : ((w1.setCell ⟨w.heap.size + 1, 0, none⟩ (.int .i64 0)).setCell ⟨w.heap.size + 1, 1, none⟩ (.slice none 0 0)).cell? ⟨w.heap.size + 1, 0, none⟩ = some (.int .i64 0) := hRf.cell 0
  have r6 : ((w1.setCell ⟨w.heap.size + 1, 0, none⟩ (.int .i64 0)).setCell ⟨w.heap.size + 1, 1, none⟩ (.slice none 0 0)).cell? ⟨w.heap.size + 1, 1, none⟩ = some (.slice none 0 0) := hRf.cell 1
  have HBF : Hid (Below w.heap.size w ((w1.setCell ⟨w.heap.size + 1, 0, none⟩ (.int .i64 0)).setCell ⟨w.heap.size + 1, 1, none⟩ (.slice none 0 0))) := Lib.hid (((HB0.out.trans (hb.mono HB0.out.size)).setCell (p := ⟨w.heap.size + 1, 0, none⟩) (Nat.le_succ _) _).setCell (p := ⟨w.heap.size + 1, 1, none⟩) (Nat.le_succ _) _)
  clear hRr hRf
  clear hb
  go_wp2
  refine bodyPost_ret (v := .tuple #[.agg #[.int .i64 0, .slice none 0 0], .int .i64 8]) (by simp [results, Try.results43, go_sem, r5, r6]) rfl ?_
  exact ⟨none, 0, rfl, RowAt.nil _ _ _ _, World.ownsRow_nil _ _ _ _, HBF.out⟩
set_option maxHeartbeats 12800000 in
set_option maxRecDepth 100000 in
theorem prelabel_main (a : Option Addr) (cap : Nat) (L : List E) (hL : L.length ≤ 100000) (b : Option Addr) (c : Nat) (S : List Int) (hc : S.length ≤ c) (h0 : chkG (S.length : Int) L = 0) (w : World) (h : EsAt w a L) (hv : IsAt w b S) :
    Calls Try.prog 43 #[gv S.length a L.length cap, .slice b S.length c] w (GivesGE w (if firstE (nErr S.length S) S.length = 0 then (S.length : Int) else 0) (if firstE (nErr S.length S) S.length = 0 then relG L S else []) (firstE (nErr S.length S) S.length)) := by
  obtain ⟨n, hn⟩ : ∃ n : Int, n = S.length := ⟨_, rfl⟩
  have hmm := @run_makeMap Try.prog
  have HC := Lib.hid (fun w h => check_any (S.length : Int) a cap L (by omega) w h)
  rw [h0] at HC
  have hRt := right_of h0
  have hlo := hRt.lo
  have hhi := hRt.hi
  have HRG := Lib.hid hRt.rng
  have HV := Lib.hid (fun v w => isVertex_any (S.length : Int) a L.length cap v w)
  have HCT := Lib.hid (fun b1 o1 i hi v w h => pcontains_any b1 o1 c i S hi (by omega) v w h)
  have HADD := Lib.hid (fun b m hm A hA x y c hx hy hc hbd w h => padd_any b m hm A hA x y c hx hy hc hbd w h)
  have HGR := Lib.hid (fun b m hm F w h => pgraph_any b m hm F (S.length : Int) w h)
  have HA0 : Hid (relA (L.take 0) S = []) := Lib.hid rfl
  have HRR : Hid (firstE (nErr S.length S) S.length = firstE (nErr S.length S) S.length) := Lib.hid rfl
  obtain ⟨R, hR⟩ : ∃ R, R = firstE (nErr S.length S) S.length := ⟨_, rfl⟩
  have HR := Lib.hid hR
  rw [← hR]
  clear HRR hR
  unfold GivesGE
  unfold GivesG at HGR
  unfold GivesN gv at *
  rw [← hn]
  rw [← hn] at HC HV HRG
  obtain ⟨N0, hN0⟩ : ∃ N0, N0 = (if R = 0 then n else 0) := ⟨_, rfl⟩
  obtain ⟨J0, hJ0⟩ : ∃ J0, J0 = (if R = 0 then relG L S else []) := ⟨_, rfl⟩
  rw [← hN0, ← hJ0]
  have HN0 := Lib.hid hN0
  have HJ0 := Lib.hid hJ0
  clear hN0 hJ0
  obtain ⟨W, hW⟩ : ∃ W, W = (w.alloc (Obj.cells #[.int .i64 n, .slice a L.length cap] 24)).alloc (Obj.cells #[.int .i64 0, .slice none 0 0] 24) := ⟨_, rfl⟩
  have hB0 : Below w.heap.size w W := by rw [hW]; exact ((Below.refl _ w).alloc (Nat.le_refl _) _).alloc (by simp) _
  have hG : Blk W w.heap.size 24 #[.int .i64 n, .slice a L.length cap] := by rw [hW]; exact (Blk.new _ _ _).alloc _
  have hR : Blk W (w.heap.size + 1) 24 #[.int .i64 0, .slice none 0 0] := by
    rw [hW]
    have h9 := Blk.new (w.alloc (Obj.cells #[.int .i64 n, .slice a L.length cap] 24)) 24 #[.int .i64 0, .slice none 0 0]
    rwa [World.size_alloc] at h9
  have HW := Lib.hid hW
  have HB0 := Lib.hid hB0
  have HG := Lib.hid hG
  have HR0 := Lib.hid hR
  have HE := Lib.hid (h.keep hB0)
  have HVv := Lib.hid (hv.keep hB0)
  have g0 : W.cell? ⟨w.heap.size, 0, none⟩ = some (.int .i64 n) := hG.cell 0
  have g1 : W.cell? ⟨w.heap.size, 1, none⟩ = some (.slice a L.length cap) := hG.cell 1
  clear hB0 hG hR hW h hv
  have HN := Lib.hid hn
  have q0 : (((S.length : Nat) : Int) != n) = false := by rw [bne_eq_false_iff_eq]; exact hn.symm
  clear hRt h0 hn
  go_enter Try.func43, Try.ntmps43
  go_wp2_with fail
  rw [← HW.out]
  refine (HC.out W HE.out).mono ?_
  rintro e w1 ⟨rfl, hb⟩
  have m0 : w1.cell? ⟨w.heap.size, 0, none⟩ = some (.int .i64 n) := (HG.out.below hb HG.out.lt).cell 0
  have HB1 := Lib.hid hb
  clear hb
  go_wp2
  go_loopw [26] (fun x wr => ∃ i : Nat, i ≤ S.length ∧ x = .int .i64 i ∧ (∀ j, j < i → nErr S.length S j = 0) ∧ Below W.heap.size W wr) (fun x _ => S.length - (intOf x).toNat)
  case atStart => exact ⟨0, by omega, rfl, fun j hj => by omega, HB1.out⟩
  case round =>
    obtain ⟨i, hi, rfl, hz, hb⟩ := hrel
    have HZ := Lib.hid hz
    have HB := Lib.hid hb
    by_cases hlt : i < S.length
    · have hVr := HVv.out.keep hb
      obtain ⟨b1, o1, hbb, q1, x1⟩ := hVr.one i hlt
      subst hbb
      have i1 : (i : Int) < ((S.length : Nat) : Int) := by omega
      have i0 : (0 : Int) ≤ (i : Int) := by omega
      have i2 : (i : Int) ≤ (c : Int) := by omega
      have HEr : Hid (nErr S.length S i = if iAt S i < 0 ∨ (S.length : Int) ≤ iAt S i then 2 else if (S.take i).contains (iAt S i) = true then 7 else 0) := Lib.hid rfl
      have HFI : Hid (nErr S.length S i ≠ 0 → R = nErr S.length S i) := Lib.hid (fun hne => by rw [HR.out]; exact firstE_at HZ.out hne hlt)
      have HNX : Hid (nErr S.length S i = 0 → ∀ j, j < i + 1 → nErr S.length S j = 0) := Lib.hid (fun h0 j hj => by
        by_cases e : j = i
        · subst e; exact h0
        · exact HZ.out j (by omega))
      have HCI := Lib.hid (fun v w h => HCT.out b1 o1 i hi v w h)
      have HVK := Lib.hid (fun x hx => hVr.keep (w' := x) hx)
      have HISV : Hid (isV n (iAt S i) = (decide (0 ≤ iAt S i) && decide (iAt S i < n))) := Lib.hid rfl
      generalize nErr S.length S i = er at *
      generalize iAt S i = z at *
      have HVZ := Lib.hid (fun w => HV.out z w)
      have HCZ := Lib.hid (fun w h => HCI.out z w h)
      generalize isV n z = va at *
      generalize (S.take i).contains z = r at *
      have g0' : wr.cell? ⟨w.heap.size, 0, none⟩ = some (.int .i64 n) := (HG.out.below hb HG.out.lt).cell 0
      have g1' : wr.cell? ⟨w.heap.size, 1, none⟩ = some (.slice a L.length cap) := (HG.out.below hb HG.out.lt).cell 1
      clear hb hz hVr
      cases va
      · have HF2 : Hid (R = 2) := Lib.hid (by
          have h1 : er = 2 := by
            rw [HEr.out, if_pos]
            have h2 := HISV.out
            have h3 := HN.out
            by_cases h4 : 0 ≤ z
            · by_cases h5 : z < n
              · rw [decide_eq_true h4, decide_eq_true h5] at h2; cases h2
              · omega
            · omega
          rw [HFI.out (by omega), h1])
        go_wp2_with fail
        refine (HVZ.out _).mono ?_
        rintro e w4 ⟨rfl, hb4⟩
        have hk4 := HB.out.trans (hb4.mono HB.out.size)
        have hRr : Blk w4 (w.heap.size + 1) 24 #[.int .i64 0, .slice none 0 0] := HR0.out.below hk4 HR0.out.lt
        have r1 : w4.cell? ⟨w.heap.size + 1, 0, none⟩ = some (.int .i64 0) := hRr.cell 0
        have r3 : w4.frozen? ⟨w.heap.size + 1, 0, none⟩ = false := hRr.frozen 0
        have r2 : (w4.setCell ⟨w.heap.size + 1, 0, none⟩ (.int .i64 0)).cell? ⟨w.heap.size + 1, 1, none⟩ = some (.slice none 0 0) := (hRr.set_ 0 (.int .i64 0)).cell 1
        have r4 : (w4.setCell ⟨w.heap.size + 1, 0, none⟩ (.int .i64 0)).frozen? ⟨w.heap.size + 1, 1, none⟩ = false := (hRr.set_ 0 (.int .i64 0)).frozen 1
        have hRf := (hRr.set_ 0 (.int .i64 0)).set_ 1 (.slice none 0 0)
        have r5 : ((w4.setCell ⟨w.heap.size + 1, 0, none⟩ (.int .i64 0)).setCell ⟨w.heap.size + 1, 1, none⟩ (.slice none 0 0)).cell? ⟨w.heap.size + 1, 0, none⟩ = some (.int .i64 0) := hRf.cell 0
        have r6 : ((w4.setCell ⟨w.heap.size + 1, 0, none⟩ (.int .i64 0)).setCell ⟨w.heap.size + 1, 1, none⟩ (.slice none 0 0)).cell? ⟨w.heap.size + 1, 1, none⟩ = some (.slice none 0 0) := hRf.cell 1
        have HBF : Hid (Below w.heap.size w ((w4.setCell ⟨w.heap.size + 1, 0, none⟩ (.int .i64 0)).setCell ⟨w.heap.size + 1, 1, none⟩ (.slice none 0 0))) := Lib.hid (((HB0.out.trans (hk4.mono HB0.out.size)).setCell (p := ⟨w.heap.size + 1, 0, none⟩) (Nat.le_succ _) _).setCell (p := ⟨w.heap.size + 1, 1, none⟩) (Nat.le_succ _) _)
        clear hRr hRf
        clear hb4 hk4
        go_wp2
        refine bodyPost_ret (v := .tuple #[.agg #[.int .i64 0, .slice none 0 0], .int .i64 2]) (by simp [results, Try.results43, go_sem, r5, r6]) rfl ?_
        have e8 := HN0.out
        have e9 := HJ0.out
        rw [HF2.out, if_neg (by decide)] at e8 e9
        rw [e8, e9, HF2.out]
        exact ⟨none, 0, rfl, RowAt.nil _ _ _ _, World.ownsRow_nil _ _ _ _, HBF.out⟩
      · have hin : 0 ≤ z ∧ z < n := by
          have h2 := HISV.out
          rw [eq_comm, Bool.and_eq_true, decide_eq_true_eq, decide_eq_true_eq] at h2
          exact h2
        have HIN := Lib.hid hin
        clear hin
        cases r
        · have HE0 : Hid (er = 0) := Lib.hid (by
            rw [HEr.out, if_neg (by have := HIN.out; have := HN.out; omega), if_neg (by decide)])
          go_wp2_with fail
          refine (HVZ.out _).mono ?_
          rintro e w3 ⟨rfl, hb3⟩
          have HK3 := Lib.hid hb3
          clear hb3
          go_wp2_with fail
          refine (HCZ.out w3 (HVK.out w3 HK3.out)).mono ?_
          rintro e w4 ⟨rfl, rfl⟩
          have HB4 := Lib.hid (HB.out.trans (HK3.out.mono HB.out.size))
          go_wp2
          go_roundw
          case rel => exact ⟨i + 1, by omega, by go_num, HNX.out HE0.out, HB4.out⟩
          case measure => simp [intOf]; omega
        · have HF7 : Hid (R = 7) := Lib.hid (by
            have h1 : er = 7 := by rw [HEr.out, if_neg (by have := HIN.out; have := HN.out; omega), if_pos rfl]
            rw [HFI.out (by omega), h1])
          go_wp2_with fail
          refine (HVZ.out _).mono ?_
          rintro e w3 ⟨rfl, hb3⟩
          have HK3 := Lib.hid hb3
          clear hb3
          go_wp2_with fail
          refine (HCZ.out w3 (HVK.out w3 HK3.out)).mono ?_
          rintro e w4 ⟨rfl, rfl⟩
          have hk4 := HB.out.trans (HK3.out.mono HB.out.size)
          have hRr : Blk w3 (w.heap.size + 1) 24 #[.int .i64 0, .slice none 0 0] := HR0.out.below hk4 HR0.out.lt
          have r1 : w3.cell? ⟨w.heap.size + 1, 0, none⟩ = some (.int .i64 0) := hRr.cell 0
          have r3 : w3.frozen? ⟨w.heap.size + 1, 0, none⟩ = false := hRr.frozen 0
          have r2 : (w3.setCell ⟨w.heap.size + 1, 0, none⟩ (.int .i64 0)).cell? ⟨w.heap.size + 1, 1, none⟩ = some (.slice none 0 0) := (hRr.set_ 0 (.int .i64 0)).cell 1
          have r4 : (w3.setCell ⟨w.heap.size + 1, 0, none⟩ (.int .i64 0)).frozen? ⟨w.heap.size + 1, 1, none⟩ = false := (hRr.set_ 0 (.int .i64 0)).frozen 1
          have hRf := (hRr.set_ 0 (.int .i64 0)).set_ 1 (.slice none 0 0)
          have r5 : ((w3.setCell ⟨w.heap.size + 1, 0, none⟩ (.int .i64 0)).setCell ⟨w.heap.size + 1, 1, none⟩ (.slice none 0 0)).cell? ⟨w.heap.size + 1, 0, none⟩ = some (.int .i64 0) := hRf.cell 0
          have r6 : ((w3.setCell ⟨w.heap.size + 1, 0, none⟩ (.int .i64 0)).setCell ⟨w.heap.size + 1, 1, none⟩ (.slice none 0 0)).cell? ⟨w.heap.size + 1, 1, none⟩ = some (.slice none 0 0) := hRf.cell 1
          have HBF : Hid (Below w.heap.size w ((w3.setCell ⟨w.heap.size + 1, 0, none⟩ (.int .i64 0)).setCell ⟨w.heap.size + 1, 1, none⟩ (.slice none 0 0))) := Lib.hid (((HB0.out.trans (hk4.mono HB0.out.size)).setCell (p := ⟨w.heap.size + 1, 0, none⟩) (Nat.le_succ _) _).setCell (p := ⟨w.heap.size + 1, 1, none⟩) (Nat.le_succ _) _)
          clear hRr hRf
          clear hk4
          go_wp2
          refine bodyPost_ret (v := .tuple #[.agg #[.int .i64 0, .slice none 0 0], .int .i64 7]) (by simp [results, Try.results43, go_sem, r5, r6]) rfl ?_
          have e8 := HN0.out
          have e9 := HJ0.out
          rw [HF7.out, if_neg (by decide)] at e8 e9
          rw [e8, e9, HF7.out]
          exact ⟨none, 0, rfl, RowAt.nil _ _ _ _, World.ownsRow_nil _ _ _ _, HBF.out⟩
    · obtain rfl : i = S.length := by omega
      have HF0 : Hid (R = 0) := Lib.hid (by rw [HR.out]; exact firstE_zero HZ.out)
      have HRG2 : Hid (∀ e ∈ L, 0 ≤ e.a ∧ e.a ≤ e.b ∧ e.b < (S.length : Int) ∧ 1 ≤ e.m ∧ e.m ≤ 50) := Lib.hid (by rw [← HN.out]; exact HRG.out)
      have HJN : Hid (∀ M, M.Pairwise (fun x y => ltE x y = true) → (∀ x, x ∈ M ↔ (W64 x.a ∧ W64 x.b) ∧ 0 < x.m ∧ x.m = accF (relA (L.take L.length) S) (x.a, x.b)) → M = relG L S) := Lib.hid (fun M hs hm => by
        rw [List.take_length] at hm
        exact coll_join (by omega) (fun x hx => by have := relA_rng HRG2.out HZ.out x hx; exact ⟨this.1, this.2.2⟩) (fun x y hx hy hxy => relA_acc HRG2.out HZ.out x y hx hy hxy) hs hm)
      have HC2 : Hid (Coll (wr.alloc (.map #[] 0)) wr.heap.size 0 (accF (relA (L.take 0) S))) := Lib.hid (by rw [HA0.out]; exact Coll.made wr)
      have HB2 : Hid (Below W.heap.size W (wr.alloc (.map #[] 0))) := Lib.hid (hb.alloc hb.size _)
      have HMS : Hid (W.heap.size ≤ wr.heap.size) := Lib.hid hb.size
      have g0' : (wr.alloc (.map #[] 0)).cell? ⟨w.heap.size, 0, none⟩ = some (.int .i64 n) := (HG.out.below HB2.out HG.out.lt).cell 0
      have g1' : (wr.alloc (.map #[] 0)).cell? ⟨w.heap.size, 1, none⟩ = some (.slice a L.length cap) := (HG.out.below HB2.out HG.out.lt).cell 1
      clear hz hb HB
      generalize hM1 : wr.heap.size = M1 at *
      have HM1 := Lib.hid hM1
      clear hM1
      go_wp2
      rw [HM1.out]
      clear HM1
      go_loopw [47] (fun x wr => ∃ i : Nat, i ≤ L.length ∧ x = .int .i64 i ∧ Coll wr M1 i (accF (relA (L.take i) S)) ∧ Below W.heap.size W wr) (fun x _ => L.length - (intOf x).toNat)
      case atStart => exact ⟨0, by omega, rfl, HC2.out, HB2.out⟩
      case round =>
        obtain ⟨i, hi, rfl, hcl, hb⟩ := hrel
        have HCL := Lib.hid hcl
        have HBr := Lib.hid hb
        by_cases hlt : i < L.length
        · obtain ⟨T, hTe⟩ : ∃ T, T = eAt L i := ⟨_, rfl⟩
          have HTS := Lib.hid (relA_succ L S i hlt)
          have hrT := HRG2.out T (by rw [hTe, ← eAt_get L i hlt]; exact List.getElem_mem hlt)
          have HBD := Lib.hid (fun p => relA_bound HRG2.out i p)
          have HON : Hid (∀ x ∈ relA (L.take i) S, 1 ≤ x.2) := Lib.hid (fun x hx => (relA_rng (fun e he => HRG2.out e (List.mem_of_mem_take he)) HZ.out x hx).1)
          rw [← hTe] at HTS
          obtain ⟨b1, o1, ha, q1, x1, x2, x3⟩ := (HE.out.keep hb).three i hlt
          subst ha
          rw [← hTe] at x1 x2 x3
          obtain ⟨ta, tb, tm⟩ := T
          simp only at x1 x2 x3 hrT HTS
          obtain ⟨ja, rfl⟩ : ∃ ja : Nat, ta = (ja : Int) := ⟨ta.toNat, by omega⟩
          obtain ⟨jb, rfl⟩ : ∃ jb : Nat, tb = (jb : Int) := ⟨tb.toNat, by omega⟩
          rw [Int.toNat_natCast, Int.toNat_natCast] at HTS
          have i1 : (i : Int) < ((L.length : Nat) : Int) := by omega
          have j1 : (ja : Int) < ((S.length : Nat) : Int) := by omega
          have j2 : (jb : Int) < ((S.length : Nat) : Int) := by omega
          have HBVV : Hid (Below W.heap.size W (wr.alloc (Obj.cells #[.int .i64 (ja : Int), .int .i64 (jb : Int), .int .i64 tm] 71))) := Lib.hid (hb.alloc hb.size _)
          have HCVV : Hid (Coll (wr.alloc (Obj.cells #[.int .i64 (ja : Int), .int .i64 (jb : Int), .int .i64 tm] 71)) M1 i (accF (relA (L.take i) S))) := Lib.hid (hcl.alloc _)
          obtain ⟨V, hV⟩ : ∃ V, V = wr.alloc (Obj.cells #[.int .i64 (ja : Int), .int .i64 (jb : Int), .int .i64 tm] 71) := ⟨_, rfl⟩
          have hQV : Blk V wr.heap.size 71 #[.int .i64 (ja : Int), .int .i64 (jb : Int), .int .i64 tm] := by rw [hV]; exact Blk.new _ _ _
          rw [← hV] at HBVV HCVV
          have hVV := HVv.out.keep HBVV.out
          obtain ⟨b2, o2, hbb, q2, ya⟩ := hVV.one ja (by omega)
          obtain ⟨b3, o3, hbb3, q3, yb⟩ := hVV.one jb (by omega)
          subst hbb
          injection hbb3 with hbb3
          injection hbb3 with e2 e3
          subst e2 e3
          have na := nErr_rng (HZ.out ja (by omega))
          have nb := nErr_rng (HZ.out jb (by omega))
          generalize iAt S ja = za at *
          generalize iAt S jb = zb at *
          have HSUM := Lib.hid (fun w h => HADD.out M1 i (by omega) (relA (L.take i) S) HON.out za zb tm (w64_of (by omega) (by omega)) (w64_of (by omega) (by omega)) (by omega) (by have := HBD.out (mnP (za, zb), mxP (za, zb)); omega) w h)
          rw [← HTS.out] at HSUM
          have HS : Hid (∀ u, Below V.heap.size V u → u.cell? ⟨wr.heap.size, 0, none⟩ = some (.int .i64 (ja : Int)) ∧ u.cell? ⟨wr.heap.size, 1, none⟩ = some (.int .i64 (jb : Int)) ∧ u.cell? ⟨wr.heap.size, 2, none⟩ = some (.int .i64 tm) ∧ u.cell? ⟨b2, o2 + ja, none⟩ = some (.int .i64 za) ∧ u.cell? ⟨b2, o2 + jb, none⟩ = some (.int .i64 zb)) :=
            Lib.hid fun u hu => ⟨(hQV.below hu hQV.lt).cell 0, (hQV.below hu hQV.lt).cell 1, (hQV.below hu hQV.lt).cell 2, (hu.cell (p := ⟨b2, o2 + ja, none⟩) q2).trans ya, (hu.cell (p := ⟨b2, o2 + jb, none⟩) q3).trans yb⟩
          have hk2 : Below V.heap.size V V.drew := (Below.refl _ V).drew
          have HVe := Lib.hid hV
          clear hb hTe hcl na nb hV hQV hVV ya yb hrT q2 q3
          go_wp2
          rw [← HVe.out]
          refine wp_region_late (S := fun u => Below V.heap.size V u) (X := [13]) (by kernel_rfl) ?_
          refine wpAnyL_pureD (i := 0) 51 (.map (some M1)) rfl rfl (by kernel_rfl) (by kernel_rfl) (by kernel_rfl) (fun _ _ _ h => h) (Or.inl ⟨by rfl, fun u _ => ?_⟩) ?_
          · go_simp
          try simp only [Act.put, List.setIfInBounds_toArray, List.set_cons_zero, List.set_cons_succ]
          refine wpAnyL_pureD (i := 1) 52 (.slice (some ⟨b2, o2, none⟩) S.length c) rfl rfl (by kernel_rfl) (by kernel_rfl) (by kernel_rfl) (fun _ _ _ h => h) (Or.inl ⟨by rfl, fun u _ => ?_⟩) ?_
          · go_simp
          try simp only [Act.put, List.setIfInBounds_toArray, List.set_cons_zero, List.set_cons_succ]
          refine wpAnyL_pureD (i := 2) 53 (.pointer (some ⟨wr.heap.size, 0, none⟩)) rfl rfl (by kernel_rfl) (by kernel_rfl) (by kernel_rfl) (fun _ _ _ h => h) (Or.inl ⟨by rfl, fun u _ => ?_⟩) ?_
          · go_simp
          try simp only [Act.put, List.setIfInBounds_toArray, List.set_cons_zero, List.set_cons_succ]
          refine wpAnyL_takeD (i := 3) 54 (.int .i64 (ja : Int)) rfl rfl (by kernel_rfl) (by kernel_rfl) (by kernel_rfl) (by kernel_rfl) (by kernel_rfl) (fun _ _ _ h => h) hk2 (Or.inl ⟨by rfl, fun u hu => ?_⟩) ?_
          · obtain ⟨z0', z1', z2', z3', z4'⟩ := HS.out u hu
            go_simp
          try simp only [Act.put, List.setIfInBounds_toArray, List.set_cons_zero, List.set_cons_succ]
          refine wpAnyL_pureD (i := 4) 55 (.pointer (some ⟨b2, o2 + ja, none⟩)) rfl rfl (by kernel_rfl) (by kernel_rfl) (by kernel_rfl) (fun _ _ _ h => h) (Or.inl ⟨by rfl, fun u _ => ?_⟩) ?_
          · go_simp
          try simp only [Act.put, List.setIfInBounds_toArray, List.set_cons_zero, List.set_cons_succ]
          refine wpAnyL_takeD (i := 5) 56 (.int .i64 za) rfl rfl (by kernel_rfl) (by kernel_rfl) (by kernel_rfl) (by kernel_rfl) (by kernel_rfl) (fun _ _ _ h => h) hk2 (Or.inl ⟨by rfl, fun u hu => ?_⟩) ?_
          · obtain ⟨z0', z1', z2', z3', z4'⟩ := HS.out u hu
            go_simp
          try simp only [Act.put, List.setIfInBounds_toArray, List.set_cons_zero, List.set_cons_succ]
          refine wpAnyL_pureD (i := 6) 57 (.slice (some ⟨b2, o2, none⟩) S.length c) rfl rfl (by kernel_rfl) (by kernel_rfl) (by kernel_rfl) (fun _ _ _ h => h) (Or.inl ⟨by rfl, fun u _ => ?_⟩) ?_
          · go_simp
          try simp only [Act.put, List.setIfInBounds_toArray, List.set_cons_zero, List.set_cons_succ]
          refine wpAnyL_pureD (i := 7) 58 (.pointer (some ⟨wr.heap.size, 1, none⟩)) rfl rfl (by kernel_rfl) (by kernel_rfl) (by kernel_rfl) (fun _ _ _ h => h) (Or.inl ⟨by rfl, fun u _ => ?_⟩) ?_
          · go_simp
          try simp only [Act.put, List.setIfInBounds_toArray, List.set_cons_zero, List.set_cons_succ]
          refine wpAnyL_takeD (i := 8) 59 (.int .i64 (jb : Int)) rfl rfl (by kernel_rfl) (by kernel_rfl) (by kernel_rfl) (by kernel_rfl) (by kernel_rfl) (fun _ _ _ h => h) hk2 (Or.inl ⟨by rfl, fun u hu => ?_⟩) ?_
          · obtain ⟨z0', z1', z2', z3', z4'⟩ := HS.out u hu
            go_simp
          try simp only [Act.put, List.setIfInBounds_toArray, List.set_cons_zero, List.set_cons_succ]
          refine wpAnyL_pureD (i := 9) 60 (.pointer (some ⟨b2, o2 + jb, none⟩)) rfl rfl (by kernel_rfl) (by kernel_rfl) (by kernel_rfl) (fun _ _ _ h => h) (Or.inl ⟨by rfl, fun u _ => ?_⟩) ?_
          · go_simp
          try simp only [Act.put, List.setIfInBounds_toArray, List.set_cons_zero, List.set_cons_succ]
          refine wpAnyL_takeD (i := 10) 61 (.int .i64 zb) rfl rfl (by kernel_rfl) (by kernel_rfl) (by kernel_rfl) (by kernel_rfl) (by kernel_rfl) (fun _ _ _ h => h) hk2 (Or.inl ⟨by rfl, fun u hu => ?_⟩) ?_
          · obtain ⟨z0', z1', z2', z3', z4'⟩ := HS.out u hu
            go_simp
          try simp only [Act.put, List.setIfInBounds_toArray, List.set_cons_zero, List.set_cons_succ]
          refine wpAnyL_pureD (i := 11) 62 (.pointer (some ⟨wr.heap.size, 2, none⟩)) rfl rfl (by kernel_rfl) (by kernel_rfl) (by kernel_rfl) (fun _ _ _ h => h) (Or.inl ⟨by rfl, fun u _ => ?_⟩) ?_
          · go_simp
          try simp only [Act.put, List.setIfInBounds_toArray, List.set_cons_zero, List.set_cons_succ]
          refine wpAnyL_takeD (i := 12) 63 (.int .i64 tm) rfl rfl (by kernel_rfl) (by kernel_rfl) (by kernel_rfl) (by kernel_rfl) (by kernel_rfl) (fun _ _ _ h => h) hk2 (Or.inl ⟨by rfl, fun u hu => ?_⟩) ?_
          · obtain ⟨z0', z1', z2', z3', z4'⟩ := HS.out u hu
            go_simp
          try simp only [Act.put, List.setIfInBounds_toArray, List.set_cons_zero, List.set_cons_succ]
          refine wpAnyL_one (i := 13) (by kernel_rfl) rfl (fun K hK => ?_)
          go_simp
          go_at_call 59
          refine (HSUM.out _ (HCVV.out.below hk2 HCVV.out.lt)).mono ?_
          rintro e w5 ⟨rfl, hc5, hg5⟩
          have hb5 := (HBVV.out.trans (hk2.mono HBVV.out.size)).grown hg5 (by have := HBVV.out.size; have := hk2.size; omega) (fun j hj => by injection hj with hj; have := HMS.out; omega)
          have HB5 := Lib.hid hb5
          have HC5 := Lib.hid hc5
          clear hb5 hc5 hg5 hk2
          show K _ _
          refine hK.out _ _ (fun h => absurd (by decide) h) ?_
          clear hK K
          refine wpAnyL_done (by kernel_rfl) ?_ _
          go_wp2
          go_roundw
          case rel => exact ⟨i + 1, by omega, by go_num, HC5.out, HB5.out⟩
          case measure => simp [intOf]; omega
        · obtain rfl : i = L.length := by omega
          have m1 : wr.cell? ⟨w.heap.size, 0, none⟩ = some (.int .i64 n) := (HG.out.below hb HG.out.lt).cell 0
          clear hcl hb
          go_wp2_with fail
          rw [HN.out]
          refine (HGR.out M1 L.length (by omega) _ wr HCL.out).mono ?_
          rintro e w2 ⟨M, hL1, hL2, hL3, a9, c9, rfl, hEs, hown2, hb2⟩
          have hbw := HBr.out.trans (hb2.mono HBr.out.size)
          obtain rfl := HJN.out M hL1 hL2
          generalize hJ : relG L S = J at *
          have HJ := Lib.hid hJ
          clear hJ
          have hRr : Blk w2 (w.heap.size + 1) 24 #[.int .i64 0, .slice none 0 0] := HR0.out.below hbw HR0.out.lt
          have r1 : w2.cell? ⟨w.heap.size + 1, 0, none⟩ = some (.int .i64 0) := hRr.cell 0
          have r3 : w2.frozen? ⟨w.heap.size + 1, 0, none⟩ = false := hRr.frozen 0
          have r2 : (w2.setCell ⟨w.heap.size + 1, 0, none⟩ (.int .i64 (S.length : Int))).cell? ⟨w.heap.size + 1, 1, none⟩ = some (.slice none 0 0) := (hRr.set_ 0 (.int .i64 (S.length : Int))).cell 1
          have r4 : (w2.setCell ⟨w.heap.size + 1, 0, none⟩ (.int .i64 (S.length : Int))).frozen? ⟨w.heap.size + 1, 1, none⟩ = false := (hRr.set_ 0 (.int .i64 (S.length : Int))).frozen 1
          have hRf := (hRr.set_ 0 (.int .i64 (S.length : Int))).set_ 1 (.slice a9 J.length c9)
          have r5 : ((w2.setCell ⟨w.heap.size + 1, 0, none⟩ (.int .i64 (S.length : Int))).setCell ⟨w.heap.size + 1, 1, none⟩ (.slice a9 J.length c9)).cell? ⟨w.heap.size + 1, 0, none⟩ = some (.int .i64 (S.length : Int)) := hRf.cell 0
          have r6 : ((w2.setCell ⟨w.heap.size + 1, 0, none⟩ (.int .i64 (S.length : Int))).setCell ⟨w.heap.size + 1, 1, none⟩ (.slice a9 J.length c9)).cell? ⟨w.heap.size + 1, 1, none⟩ = some (.slice a9 J.length c9) := hRf.cell 1
          have e0 := (ownsRow_setCell_below (ownsRow_setCell_below (hown2.mono (base' := w.heap.size + 2) (by have := HBr.out.size; have := HR0.out.lt; omega)) (a := ⟨w.heap.size + 1, 0, none⟩) (Nat.lt_succ_self _) (.int .i64 (S.length : Int))) (a := ⟨w.heap.size + 1, 1, none⟩) (Nat.lt_succ_self _) (.slice a9 J.length c9))
          have E3 := Lib.hid (e0.mono (base' := w.heap.size) (by omega))
          obtain ⟨a', c', e1, e2⟩ := RowAt.of_own encE_len3 e0
          clear e0
          have E1 := Lib.hid e1
          have E2 := Lib.hid e2
          have HBF : Hid (Below w.heap.size w ((w2.setCell ⟨w.heap.size + 1, 0, none⟩ (.int .i64 (S.length : Int))).setCell ⟨w.heap.size + 1, 1, none⟩ (.slice a9 J.length c9))) := Lib.hid (((HB0.out.trans (hbw.mono HB0.out.size)).setCell (p := ⟨w.heap.size + 1, 0, none⟩) (Nat.le_succ _) _).setCell (p := ⟨w.heap.size + 1, 1, none⟩) (Nat.le_succ _) _)
          clear hRr hRf hbw hEs hown2 hb2 e1 e2 hL1 hL2 hL3 m1
          go_wp2
          refine bodyPost_ret (v := .tuple #[.agg #[.int .i64 (S.length : Int), .slice a9 J.length c9], .int .i64 0]) (by simp [results, Try.results43, go_sem, r5, r6]) rfl ?_
          injection E1.out with q1 q2 q3
          have hq := E2.out
          rw [← q1] at hq
          have e8 := HN0.out
          have e9 := HJ0.out
          rw [HF0.out, if_pos rfl] at e8 e9
          rw [e8, e9, HF0.out, HN.out]
          exact ⟨a9, c9, rfl, hq, E3.out, HBF.out⟩
end Go.Proofs.Ytjaafneoinidkaa
