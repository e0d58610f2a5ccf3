/- A graph that is subdivided, by the program. And: What graphs come out, in numbers; subdividing, whole. And: Small graphs of the laws; lists that are the same; the chapter's examples. And: Graphs that are made from ends, in numbers: their ends, what they join, the parts behind contracting. And: The law of division. -/
import Derived.Test.YtndjjafpdiehdaaQ15
import Derived.Deep.AppendLies
import Derived.Test.YtndjjafpdiehdaaQ16
import Derived.Test.YtndjjafpdiehdaaQ14
import Derived.Test.YtndjjafpdiehdaaQ07
namespace Go.Proofs.Ytndjjafpdiehdaa
open Go.RowKit Go.Shelf Go.Proofs.Gr
attribute [local go_sem] Oper.semAt_some

/-- The error of subdividing. -/
def subKE (n : Int) (L : List E) (k : Int) : Nat := if chkG n L ≠ 0 then chkG n L else if k < 1 ∨ 12 < k then 2 else if 12 < n + (k - 1) * (endsG L).length then 5 else 0
/-- A list of one's own that does not lie in a block. -/
def Off (s : Value) (B : Nat) : Prop := ∀ k, s.ownBlock = some k → k ≠ B
set_option maxHeartbeats 12800000 in
set_option maxRecDepth 100000 in
theorem pSub_chk (n : Int) (a : Option Addr) (cap : Nat) (L : List E) (hL : L.length ≤ 100000) (kk : Int) (hk : chkG n L ≠ 0) (w : World) (h : EsAt w a L) :
    Calls Try.prog 25 #[gv n a L.length cap, .int .i64 kk] w (GivesGW w 0 [] (chkG n L)) := by
  have HC := Lib.hid (fun w h => pends_any n a cap L hL w h)
  rw [if_neg hk] at HC
  generalize chkG n L = k at *
  have q0 : (((k : Nat) : Int) != 0) = true := by rw [bne_iff_ne]; omega
  unfold GivesGW gv at *
  unfold GivesPE at HC
  obtain ⟨W, hW⟩ : ∃ W, W = (w.alloc (Obj.cells #[.int .i64 n, .slice a L.length cap] 24)).alloc (Obj.cells #[.int .i64 0, .slice none 0 0] 24) := ⟨_, rfl⟩
  have hB0 : Below w.heap.size w W := by rw [hW]; exact ((Below.refl _ w).alloc (Nat.le_refl _) _).alloc (by simp) _
  have hG : Blk W w.heap.size 24 #[.int .i64 n, .slice a L.length cap] := by rw [hW]; exact (Blk.new _ _ _).alloc _
  have hWs : W.heap.size = w.heap.size + 2 := by rw [hW]; simp
  have hR : Blk W (w.heap.size + 1) 24 #[.int .i64 0, .slice none 0 0] := by
    rw [hW]
    have := Blk.new (w.alloc (Obj.cells #[.int .i64 n, .slice a L.length cap] 24)) 24 #[.int .i64 0, .slice none 0 0]
    rwa [World.size_alloc] at this
  have HR1 := Lib.hid hR
  have HW := Lib.hid hW
  have HWS := Lib.hid hWs
  have HB0 := Lib.hid hB0
  have HE := Lib.hid (h.keep hB0)
  have HF : Hid (∀ u, Below W.heap.size W u → u.cell? ⟨w.heap.size, 0, none⟩ = some (.int .i64 n) ∧ u.cell? ⟨w.heap.size, 1, none⟩ = some (.slice a L.length cap)) := Lib.hid fun u hu => ⟨(hG.below hu hG.lt).cell 0, (hG.below hu hG.lt).cell 1⟩
  obtain ⟨g0, g1⟩ := HF.out W (Below.refl _ _)
  clear hB0 hG hW hWs h hR
  go_enter Try.func25, Try.ntmps25
  go_wp2_with fail
  rw [← HW.out]
  refine (HC.out _ HE.out).mono ?_
  rintro r w1 ⟨a1, c1, rfl, -, hb⟩
  clear g0 g1
  have hRr : Blk w1 (w.heap.size + 1) 24 #[.int .i64 0, .slice none 0 0] := HR1.out.below hb HR1.out.lt
  have r1 : w1.cell? ⟨w.heap.size + 1, 0, none⟩ = some (.int .i64 0) := hRr.cell 0
  have r3 : w1.frozen? ⟨w.heap.size + 1, 0, none⟩ = false := hRr.frozen 0
  have r2 : w1.cell? ⟨w.heap.size + 1, 1, none⟩ = some (.slice none 0 0) := hRr.cell 1
  have r4 : w1.frozen? ⟨w.heap.size + 1, 1, none⟩ = false := hRr.frozen 1
  have r7 : (w1.setCell ⟨w.heap.size + 1, 0, none⟩ (.int .i64 0)).cell? ⟨w.heap.size + 1, 1, none⟩ = some (.slice none 0 0) := (hRr.set_ 0 (.int .i64 0)).cell 1
  have r8 : (w1.setCell ⟨w.heap.size + 1, 0, none⟩ (.int .i64 0)).frozen? ⟨w.heap.size + 1, 1, none⟩ = false := (hRr.set_ 0 (.int .i64 0)).frozen 1
  have HEND := Lib.hid (HB0.out.trans (hb.mono HB0.out.size))
  have HEND2 := Lib.hid ((HEND.out.setCell (p := ⟨w.heap.size + 1, 0, none⟩) (by show w.heap.size ≤ w.heap.size + 1; omega) (.int .i64 0)).setCell (p := ⟨w.heap.size + 1, 1, none⟩) (by show w.heap.size ≤ w.heap.size + 1; omega) (.slice none 0 0))
  have r5 : ((w1.setCell ⟨w.heap.size + 1, 0, none⟩ (.int .i64 0)).setCell ⟨w.heap.size + 1, 1, none⟩ (.slice none 0 0)).cell? ⟨w.heap.size + 1, 0, none⟩ = some (.int .i64 0) := ((hRr.set_ 0 (.int .i64 0)).set_ 1 (.slice none 0 0)).cell 0
  have r6 : ((w1.setCell ⟨w.heap.size + 1, 0, none⟩ (.int .i64 0)).setCell ⟨w.heap.size + 1, 1, none⟩ (.slice none 0 0)).cell? ⟨w.heap.size + 1, 1, none⟩ = some (.slice none 0 0) := ((hRr.set_ 0 (.int .i64 0)).set_ 1 (.slice none 0 0)).cell 1
  clear hRr hb
  go_wp2
  refine bodyPost_ret (v := .tuple #[.agg #[.int .i64 0, .slice none 0 0], .int .i64 (k : Nat)]) (by simp [results, Try.results25, go_sem, r5, r6]) rfl ?_
  exact ⟨none, 0, rfl, RowAt.nil _ _ _ _, by first | exact HEND2.out | exact HEND.out⟩
set_option maxHeartbeats 12800000 in
set_option maxRecDepth 100000 in
theorem pSub_k (n : Int) (a : Option Addr) (cap : Nat) (L : List E) (hL : L.length ≤ 100000) (kk : Int) (h0 : chkG n L = 0) (hx : kk < 1 ∨ 12 < kk) (w : World) (h : EsAt w a L) :
    Calls Try.prog 25 #[gv n a L.length cap, .int .i64 kk] w (GivesGW w 0 [] 2) := by
  have HC := Lib.hid (fun w h => pends_any n a cap L hL w h)
  have hln : (endsG L).length ≤ 50 * 100000 := by have := ends_all (right_of h0); omega
  rw [h0, if_pos rfl] at HC
  generalize endsG L = P at *
  unfold GivesGW gv at *
  unfold GivesPE at HC
  clear h0 hln
  by_cases h1 : kk < 1
  · have d1 : decide (kk < 1) = true := decide_eq_true (by omega)
    clear hx
    obtain ⟨W, hW⟩ : ∃ W, W = (w.alloc (Obj.cells #[.int .i64 n, .slice a L.length cap] 24)).alloc (Obj.cells #[.int .i64 0, .slice none 0 0] 24) := ⟨_, rfl⟩
    have hB0 : Below w.heap.size w W := by rw [hW]; exact ((Below.refl _ w).alloc (Nat.le_refl _) _).alloc (by simp) _
    have hG : Blk W w.heap.size 24 #[.int .i64 n, .slice a L.length cap] := by rw [hW]; exact (Blk.new _ _ _).alloc _
    have hWs : W.heap.size = w.heap.size + 2 := by rw [hW]; simp
    have hR : Blk W (w.heap.size + 1) 24 #[.int .i64 0, .slice none 0 0] := by
      rw [hW]
      have := Blk.new (w.alloc (Obj.cells #[.int .i64 n, .slice a L.length cap] 24)) 24 #[.int .i64 0, .slice none 0 0]
      rwa [World.size_alloc] at this
    have HR1 := Lib.hid hR
    have HW := Lib.hid hW
    have HWS := Lib.hid hWs
    have HB0 := Lib.hid hB0
    have HE := Lib.hid (h.keep hB0)
    have HF : Hid (∀ u, Below W.heap.size W u → u.cell? ⟨w.heap.size, 0, none⟩ = some (.int .i64 n) ∧ u.cell? ⟨w.heap.size, 1, none⟩ = some (.slice a L.length cap)) := Lib.hid fun u hu => ⟨(hG.below hu hG.lt).cell 0, (hG.below hu hG.lt).cell 1⟩
    obtain ⟨g0, g1⟩ := HF.out W (Below.refl _ _)
    clear hB0 hG hW hWs h hR
    go_enter Try.func25, Try.ntmps25
    go_wp2_with fail
    rw [← HW.out]
    refine (HC.out _ HE.out).mono ?_
    rintro r w1 ⟨a1, c1, rfl, -, hb⟩
    clear g0 g1
    have hRr : Blk w1 (w.heap.size + 1) 24 #[.int .i64 0, .slice none 0 0] := HR1.out.below hb HR1.out.lt
    have r1 : w1.cell? ⟨w.heap.size + 1, 0, none⟩ = some (.int .i64 0) := hRr.cell 0
    have r3 : w1.frozen? ⟨w.heap.size + 1, 0, none⟩ = false := hRr.frozen 0
    have r2 : w1.cell? ⟨w.heap.size + 1, 1, none⟩ = some (.slice none 0 0) := hRr.cell 1
    have r4 : w1.frozen? ⟨w.heap.size + 1, 1, none⟩ = false := hRr.frozen 1
    have r7 : (w1.setCell ⟨w.heap.size + 1, 0, none⟩ (.int .i64 0)).cell? ⟨w.heap.size + 1, 1, none⟩ = some (.slice none 0 0) := (hRr.set_ 0 (.int .i64 0)).cell 1
    have r8 : (w1.setCell ⟨w.heap.size + 1, 0, none⟩ (.int .i64 0)).frozen? ⟨w.heap.size + 1, 1, none⟩ = false := (hRr.set_ 0 (.int .i64 0)).frozen 1
    have HEND := Lib.hid (HB0.out.trans (hb.mono HB0.out.size))
    have HEND2 := Lib.hid ((HEND.out.setCell (p := ⟨w.heap.size + 1, 0, none⟩) (by show w.heap.size ≤ w.heap.size + 1; omega) (.int .i64 0)).setCell (p := ⟨w.heap.size + 1, 1, none⟩) (by show w.heap.size ≤ w.heap.size + 1; omega) (.slice none 0 0))
    have r5 : ((w1.setCell ⟨w.heap.size + 1, 0, none⟩ (.int .i64 0)).setCell ⟨w.heap.size + 1, 1, none⟩ (.slice none 0 0)).cell? ⟨w.heap.size + 1, 0, none⟩ = some (.int .i64 0) := ((hRr.set_ 0 (.int .i64 0)).set_ 1 (.slice none 0 0)).cell 0
    have r6 : ((w1.setCell ⟨w.heap.size + 1, 0, none⟩ (.int .i64 0)).setCell ⟨w.heap.size + 1, 1, none⟩ (.slice none 0 0)).cell? ⟨w.heap.size + 1, 1, none⟩ = some (.slice none 0 0) := ((hRr.set_ 0 (.int .i64 0)).set_ 1 (.slice none 0 0)).cell 1
    clear hRr hb
    go_wp2
    refine bodyPost_ret (v := .tuple #[.agg #[.int .i64 0, .slice none 0 0], .int .i64 2]) (by simp [results, Try.results25, go_sem, r5, r6]) rfl ?_
    exact ⟨none, 0, rfl, RowAt.nil _ _ _ _, by first | exact HEND2.out | exact HEND.out⟩
  · have d1 : decide (kk < 1) = false := decide_eq_false (by omega)
    have d2 : 12 < kk := by omega
    clear hx
    obtain ⟨W, hW⟩ : ∃ W, W = (w.alloc (Obj.cells #[.int .i64 n, .slice a L.length cap] 24)).alloc (Obj.cells #[.int .i64 0, .slice none 0 0] 24) := ⟨_, rfl⟩
    have hB0 : Below w.heap.size w W := by rw [hW]; exact ((Below.refl _ w).alloc (Nat.le_refl _) _).alloc (by simp) _
    have hG : Blk W w.heap.size 24 #[.int .i64 n, .slice a L.length cap] := by rw [hW]; exact (Blk.new _ _ _).alloc _
    have hWs : W.heap.size = w.heap.size + 2 := by rw [hW]; simp
    have hR : Blk W (w.heap.size + 1) 24 #[.int .i64 0, .slice none 0 0] := by
      rw [hW]
      have := Blk.new (w.alloc (Obj.cells #[.int .i64 n, .slice a L.length cap] 24)) 24 #[.int .i64 0, .slice none 0 0]
      rwa [World.size_alloc] at this
    have HR1 := Lib.hid hR
    have HW := Lib.hid hW
    have HWS := Lib.hid hWs
    have HB0 := Lib.hid hB0
    have HE := Lib.hid (h.keep hB0)
    have HF : Hid (∀ u, Below W.heap.size W u → u.cell? ⟨w.heap.size, 0, none⟩ = some (.int .i64 n) ∧ u.cell? ⟨w.heap.size, 1, none⟩ = some (.slice a L.length cap)) := Lib.hid fun u hu => ⟨(hG.below hu hG.lt).cell 0, (hG.below hu hG.lt).cell 1⟩
    obtain ⟨g0, g1⟩ := HF.out W (Below.refl _ _)
    clear hB0 hG hW hWs h hR
    go_enter Try.func25, Try.ntmps25
    go_wp2_with fail
    rw [← HW.out]
    refine (HC.out _ HE.out).mono ?_
    rintro r w1 ⟨a1, c1, rfl, -, hb⟩
    clear g0 g1
    have hRr : Blk w1 (w.heap.size + 1) 24 #[.int .i64 0, .slice none 0 0] := HR1.out.below hb HR1.out.lt
    have r1 : w1.cell? ⟨w.heap.size + 1, 0, none⟩ = some (.int .i64 0) := hRr.cell 0
    have r3 : w1.frozen? ⟨w.heap.size + 1, 0, none⟩ = false := hRr.frozen 0
    have r2 : w1.cell? ⟨w.heap.size + 1, 1, none⟩ = some (.slice none 0 0) := hRr.cell 1
    have r4 : w1.frozen? ⟨w.heap.size + 1, 1, none⟩ = false := hRr.frozen 1
    have r7 : (w1.setCell ⟨w.heap.size + 1, 0, none⟩ (.int .i64 0)).cell? ⟨w.heap.size + 1, 1, none⟩ = some (.slice none 0 0) := (hRr.set_ 0 (.int .i64 0)).cell 1
    have r8 : (w1.setCell ⟨w.heap.size + 1, 0, none⟩ (.int .i64 0)).frozen? ⟨w.heap.size + 1, 1, none⟩ = false := (hRr.set_ 0 (.int .i64 0)).frozen 1
    have HEND := Lib.hid (HB0.out.trans (hb.mono HB0.out.size))
    have HEND2 := Lib.hid ((HEND.out.setCell (p := ⟨w.heap.size + 1, 0, none⟩) (by show w.heap.size ≤ w.heap.size + 1; omega) (.int .i64 0)).setCell (p := ⟨w.heap.size + 1, 1, none⟩) (by show w.heap.size ≤ w.heap.size + 1; omega) (.slice none 0 0))
    have r5 : ((w1.setCell ⟨w.heap.size + 1, 0, none⟩ (.int .i64 0)).setCell ⟨w.heap.size + 1, 1, none⟩ (.slice none 0 0)).cell? ⟨w.heap.size + 1, 0, none⟩ = some (.int .i64 0) := ((hRr.set_ 0 (.int .i64 0)).set_ 1 (.slice none 0 0)).cell 0
    have r6 : ((w1.setCell ⟨w.heap.size + 1, 0, none⟩ (.int .i64 0)).setCell ⟨w.heap.size + 1, 1, none⟩ (.slice none 0 0)).cell? ⟨w.heap.size + 1, 1, none⟩ = some (.slice none 0 0) := ((hRr.set_ 0 (.int .i64 0)).set_ 1 (.slice none 0 0)).cell 1
    clear hRr hb
    go_wp2
    refine bodyPost_ret (v := .tuple #[.agg #[.int .i64 0, .slice none 0 0], .int .i64 2]) (by simp [results, Try.results25, go_sem, r5, r6]) rfl ?_
    exact ⟨none, 0, rfl, RowAt.nil _ _ _ _, by first | exact HEND2.out | exact HEND.out⟩
set_option maxHeartbeats 12800000 in
set_option maxRecDepth 100000 in
theorem pSub_many (n : Int) (a : Option Addr) (cap : Nat) (L : List E) (hL : L.length ≤ 100000) (q : Nat) (hq : q ≤ 11) (h0 : chkG n L = 0) (hx : 12 < n + (q : Int) * (endsG L).length) (w : World) (h : EsAt w a L) :
    Calls Try.prog 25 #[gv n a L.length cap, .int .i64 ((q : Int) + 1)] w (GivesGW w 0 [] 5) := by
  have hnr := chkG_n h0
  have HC := Lib.hid (fun w h => pends_any n a cap L hL w h)
  have hln : (endsG L).length ≤ 50 * 100000 := by have := ends_all (right_of h0); omega
  rw [h0, if_pos rfl] at HC
  generalize endsG L = P at *
  unfold GivesGW gv at *
  unfold GivesPE at HC
  clear h0
  have d1 : decide ((q : Int) + 1 < 1) = false := decide_eq_false (by omega)
  have d2 : ¬ 12 < (q : Int) + 1 := by omega
  have p0 : 0 ≤ (q : Int) * (P.length : Int) := Int.mul_nonneg (by omega) (by omega)
  have p1 : (q : Int) * (P.length : Int) ≤ 11 * (P.length : Int) := Int.mul_le_mul_of_nonneg_right (by omega) (by omega)
  obtain ⟨W, hW⟩ : ∃ W, W = (w.alloc (Obj.cells #[.int .i64 n, .slice a L.length cap] 24)).alloc (Obj.cells #[.int .i64 0, .slice none 0 0] 24) := ⟨_, rfl⟩
  have hB0 : Below w.heap.size w W := by rw [hW]; exact ((Below.refl _ w).alloc (Nat.le_refl _) _).alloc (by simp) _
  have hG : Blk W w.heap.size 24 #[.int .i64 n, .slice a L.length cap] := by rw [hW]; exact (Blk.new _ _ _).alloc _
  have hWs : W.heap.size = w.heap.size + 2 := by rw [hW]; simp
  have hR : Blk W (w.heap.size + 1) 24 #[.int .i64 0, .slice none 0 0] := by
    rw [hW]
    have := Blk.new (w.alloc (Obj.cells #[.int .i64 n, .slice a L.length cap] 24)) 24 #[.int .i64 0, .slice none 0 0]
    rwa [World.size_alloc] at this
  have HR1 := Lib.hid hR
  have HW := Lib.hid hW
  have HWS := Lib.hid hWs
  have HB0 := Lib.hid hB0
  have HE := Lib.hid (h.keep hB0)
  have HF : Hid (∀ u, Below W.heap.size W u → u.cell? ⟨w.heap.size, 0, none⟩ = some (.int .i64 n) ∧ u.cell? ⟨w.heap.size, 1, none⟩ = some (.slice a L.length cap)) := Lib.hid fun u hu => ⟨(hG.below hu hG.lt).cell 0, (hG.below hu hG.lt).cell 1⟩
  obtain ⟨g0, g1⟩ := HF.out W (Below.refl _ _)
  clear hB0 hG hW hWs h hR
  go_enter Try.func25, Try.ntmps25
  go_wp2_with fail
  rw [← HW.out]
  refine (HC.out _ HE.out).mono ?_
  rintro r w1 ⟨a1, c1, rfl, -, hb⟩
  clear g0 g1
  obtain ⟨g0, g1⟩ := HF.out w1 hb
  have hRr : Blk w1 (w.heap.size + 1) 24 #[.int .i64 0, .slice none 0 0] := HR1.out.below hb HR1.out.lt
  have r1 : w1.cell? ⟨w.heap.size + 1, 0, none⟩ = some (.int .i64 0) := hRr.cell 0
  have r3 : w1.frozen? ⟨w.heap.size + 1, 0, none⟩ = false := hRr.frozen 0
  have r2 : w1.cell? ⟨w.heap.size + 1, 1, none⟩ = some (.slice none 0 0) := hRr.cell 1
  have r4 : w1.frozen? ⟨w.heap.size + 1, 1, none⟩ = false := hRr.frozen 1
  have r7 : (w1.setCell ⟨w.heap.size + 1, 0, none⟩ (.int .i64 0)).cell? ⟨w.heap.size + 1, 1, none⟩ = some (.slice none 0 0) := (hRr.set_ 0 (.int .i64 0)).cell 1
  have r8 : (w1.setCell ⟨w.heap.size + 1, 0, none⟩ (.int .i64 0)).frozen? ⟨w.heap.size + 1, 1, none⟩ = false := (hRr.set_ 0 (.int .i64 0)).frozen 1
  have HEND := Lib.hid (HB0.out.trans (hb.mono HB0.out.size))
  have HEND2 := Lib.hid ((HEND.out.setCell (p := ⟨w.heap.size + 1, 0, none⟩) (by show w.heap.size ≤ w.heap.size + 1; omega) (.int .i64 0)).setCell (p := ⟨w.heap.size + 1, 1, none⟩) (by show w.heap.size ≤ w.heap.size + 1; omega) (.slice none 0 0))
  have r5 : ((w1.setCell ⟨w.heap.size + 1, 0, none⟩ (.int .i64 0)).setCell ⟨w.heap.size + 1, 1, none⟩ (.slice none 0 0)).cell? ⟨w.heap.size + 1, 0, none⟩ = some (.int .i64 0) := ((hRr.set_ 0 (.int .i64 0)).set_ 1 (.slice none 0 0)).cell 0
  have r6 : ((w1.setCell ⟨w.heap.size + 1, 0, none⟩ (.int .i64 0)).setCell ⟨w.heap.size + 1, 1, none⟩ (.slice none 0 0)).cell? ⟨w.heap.size + 1, 1, none⟩ = some (.slice none 0 0) := ((hRr.set_ 0 (.int .i64 0)).set_ 1 (.slice none 0 0)).cell 1
  clear hRr hb
  go_wp2
  refine bodyPost_ret (v := .tuple #[.agg #[.int .i64 0, .slice none 0 0], .int .i64 5]) (by simp [results, Try.results25, go_sem, r5, r6]) rfl ?_
  exact ⟨none, 0, rfl, RowAt.nil _ _ _ _, by first | exact HEND2.out | exact HEND.out⟩
set_option maxHeartbeats 12800000 in
set_option maxRecDepth 100000 in
theorem pSub_ok (n : Int) (a : Option Addr) (cap : Nat) (L : List E) (hL : L.length ≤ 100000) (q : Nat) (hq : q ≤ 11) (h0 : chkG n L = 0) (hx : n + (q : Int) * (endsG L).length ≤ 12) (m : Int) (J : List E) (k : Nat) (hM : Makes (n + (q : Int) * (endsG L).length) (subP n q (endsG L) (endsG L).length) m J k) (w : World) (h : EsAt w a L) :
    Calls Try.prog 25 #[gv n a L.length cap, .int .i64 ((q : Int) + 1)] w (GivesGW w m J k) := by
  obtain ⟨i0, hi0, hz0, hz1, hz2⟩ := info_parts infoP
  have hnr := chkG_n h0
  obtain ⟨hJl, hM, -⟩ := hM
  have HC := Lib.hid (fun w h => pends_any n a cap L hL w h)
  have hln : (endsG L).length ≤ 50 * 100000 := by have := ends_all (right_of h0); omega
  rw [h0, if_pos rfl] at HC
  generalize endsG L = P at *
  have d1 : decide ((q : Int) + 1 < 1) = false := decide_eq_false (by omega)
  have d2 : ¬ 12 < (q : Int) + 1 := by omega
  have p0 : 0 ≤ (q : Int) * (P.length : Int) := Int.mul_nonneg (by omega) (by omega)
  have p1 : (q : Int) * (P.length : Int) ≤ 11 * (P.length : Int) := Int.mul_le_mul_of_nonneg_right (by omega) (by omega)
  have HM := Lib.hid hM
  have HSL : Hid (∀ i, i ≤ P.length → (subP n q P i).length ≤ 60000000) := Lib.hid fun i hi => by
    rw [subP_len]
    have h1 : i * (q + 1) ≤ P.length * 12 := Nat.mul_le_mul hi (by omega)
    omega
  have HNL : Hid (∀ i, i ≤ P.length → 1 ≤ nxP n q i ∧ nxP n q i ≤ 12) := Lib.hid fun i hi => by
    have h1 := nxP_low n q i
    have h2 := nxP_mono n q i P.length hi
    rw [nxP_eq n q P.length] at h2
    omega
  have HS0 : Hid (subP n q P 0 = []) := Lib.hid rfl
  have HSS : Hid (∀ i, subP n q P (i + 1) = subP n q P i ++ wayP (pAt P i).1 (nxP n q i) q ++ [(lastP (pAt P i).1 (nxP n q i) q, (pAt P i).2)]) := Lib.hid fun i => rfl
  have HN0 : Hid (nxP n q 0 = n) := Lib.hid rfl
  have HNS : Hid (∀ i, nxP n q (i + 1) = nxP n q i + q) := Lib.hid fun i => rfl
  have HW0 : Hid (∀ x nx, wayP x nx 0 = []) := Lib.hid fun _ _ => rfl
  have HYS : Hid (∀ x nx j, wayP x nx (j + 1) = wayP x nx j ++ [(lastP x nx j, nx + j)]) := Lib.hid fun _ _ _ => rfl
  have HWL := Lib.hid wayP_len
  have HL0 : Hid (∀ x nx, lastP x nx 0 = x) := Lib.hid fun _ _ => rfl
  have HLS := Lib.hid lastP_succ
  have HX0 : Hid (∀ nx : Int, nx + ((0 : Nat) : Int) = nx) := Lib.hid fun nx => by simp
  have HXS : Hid (∀ (nx : Int) (j : Nat), nx + ((j + 1 : Nat) : Int) = nx + (j : Int) + 1) := Lib.hid fun nx j => by omega
  generalize subP n q P = S at *
  generalize nxP n q = NX at *
  unfold GivesGW gv at *
  unfold GivesGE gv at *
  unfold GivesPE at HC
  clear hM h0
  obtain ⟨W, hW⟩ : ∃ W, W = (w.alloc (Obj.cells #[.int .i64 n, .slice a L.length cap] 24)).alloc (Obj.cells #[.int .i64 0, .slice none 0 0] 24) := ⟨_, rfl⟩
  have hB0 : Below w.heap.size w W := by rw [hW]; exact ((Below.refl _ w).alloc (Nat.le_refl _) _).alloc (by simp) _
  have hG : Blk W w.heap.size 24 #[.int .i64 n, .slice a L.length cap] := by rw [hW]; exact (Blk.new _ _ _).alloc _
  have hWs : W.heap.size = w.heap.size + 2 := by rw [hW]; simp
  have hR : Blk W (w.heap.size + 1) 24 #[.int .i64 0, .slice none 0 0] := by
    rw [hW]
    have := Blk.new (w.alloc (Obj.cells #[.int .i64 n, .slice a L.length cap] 24)) 24 #[.int .i64 0, .slice none 0 0]
    rwa [World.size_alloc] at this
  have HR1 := Lib.hid hR
  have HW := Lib.hid hW
  have HWS := Lib.hid hWs
  have HB0 := Lib.hid hB0
  have HE := Lib.hid (h.keep hB0)
  have HF : Hid (∀ u, Below W.heap.size W u → u.cell? ⟨w.heap.size, 0, none⟩ = some (.int .i64 n) ∧ u.cell? ⟨w.heap.size, 1, none⟩ = some (.slice a L.length cap)) := Lib.hid fun u hu => ⟨(hG.below hu hG.lt).cell 0, (hG.below hu hG.lt).cell 1⟩
  obtain ⟨g0, g1⟩ := HF.out W (Below.refl _ _)
  clear hB0 hG hW hWs h hR
  go_enter Try.func25, Try.ntmps25
  go_wp2_with fail
  rw [← HW.out]
  refine (HC.out _ HE.out).mono ?_
  rintro r w1 ⟨a1, c1, rfl, hp1, hb⟩
  clear g0 g1
  obtain ⟨g0, g1⟩ := HF.out w1 hb
  have HB1 := Lib.hid hb
  have HP := Lib.hid hp1
  clear hb hp1
  go_wp2
  clear g0 g1
  go_loopw [9, 10, 45] (fun s u x wr => ∃ i : Nat, i ≤ P.length ∧ x = .int .i64 i ∧ u = .int .i64 (NX i) ∧ wr.ownsRow w1.heap.size 25 2 s (S i).length (flat encP (S i)) ∧ Below w1.heap.size w1 wr) (fun _ _ x _ => P.length - (intOf x).toNat)
  case atStart => exact ⟨0, by omega, rfl, by rw [HN0.out], by rw [HS0.out]; exact World.ownsRow_nil _ _ _ _, Below.refl _ _⟩
  case round =>
    obtain ⟨i, hi, rfl, rfl, hown, hb⟩ := hrel
    by_cases hlt : i < P.length
    · have i1 : (i : Int) < (P.length : Int) := by omega
      have i2 : (0 : Int) ≤ (i : Int) := by omega
      obtain ⟨b1, o1, hbb, q1, x1, x2⟩ := (HP.out.keep hb).two i hlt
      subst hbb
      have HSn := Lib.hid (HSS.out i)
      have HNn := Lib.hid (HNS.out i)
      have hnl := HNL.out i (by omega)
      have hnu := HNL.out (i + 1) (by omega)
      rw [HNn.out] at hnu
      have hsl := HSL.out i (by omega)
      generalize NX i = nx at *
      generalize S i = Si at *
      generalize pAt P i = p at *
      obtain ⟨ta, tb⟩ := p
      simp only at x1 x2 HSn
      obtain ⟨V, hV⟩ : ∃ V, V = wr.alloc (Obj.cells #[.int .i64 ta, .int .i64 tb] 25) := ⟨_, rfl⟩
      obtain ⟨B, hBB⟩ : ∃ B, B = wr.heap.size := ⟨_, rfl⟩
      have hbV : Below w1.heap.size w1 V := by rw [hV]; exact hb.alloc hb.size _
      have hbx : Blk V B 25 #[.int .i64 ta, .int .i64 tb] := by rw [hV, hBB]; exact Blk.new _ _ _
      have how : V.ownsRow w1.heap.size 25 2 u9 Si.length (flat encP Si) := by rw [hV]; exact hown.alloc _
      have hof : Off u9 B := fun k hk => by have := (hown.lt k hk).2; omega
      have z0 : V.cell? ⟨B, 0, none⟩ = some (.int .i64 ta) := hbx.cell 0
      have z1 : V.cell? ⟨B, 1, none⟩ = some (.int .i64 tb) := hbx.cell 1
      have HV := Lib.hid hV
      have HBV := Lib.hid hbV
      have HBX0 := Lib.hid hbx
      have HOW0 := Lib.hid how
      have HOF0 := Lib.hid hof
      have hBs : V.heap.size = B + 1 := by rw [hV, hBB]; simp
      have HBS := Lib.hid hBs
      have HBB := Lib.hid hBB
      clear hV hbV hbx how hof hb hown hBB hBs
      go_wp2
      rw [← HV.out, ← HBB.out]
      go_loopw [9, 10, 13, 53] (fun s u l x wr => ∃ j : Nat, j ≤ q ∧ x = .int .i64 j ∧ u = .int .i64 (nx + j) ∧ l = .int .i64 (lastP ta nx j) ∧ wr.ownsRow w1.heap.size 25 2 s (Si ++ wayP ta nx j).length (flat encP (Si ++ wayP ta nx j)) ∧ Blk wr B 25 #[.int .i64 ta, .int .i64 tb] ∧ Off s B ∧ B < wr.heap.size ∧ Below w1.heap.size w1 wr) (fun _ _ _ x _ => q - (intOf x).toNat)
      case atStart => exact ⟨0, by omega, rfl, by rw [HX0.out nx], by rw [HL0.out ta nx], by rw [HW0.out ta nx]; simpa using HOW0.out, HBX0.out, HOF0.out, by rw [HBS.out]; omega, HBV.out⟩
      case round =>
        obtain ⟨j, hj, rfl, rfl, rfl, hown, hbx, hof, hBl, hb⟩ := hrel
        have HOW := Lib.hid hown
        have HBX := Lib.hid hbx
        have HOF := Lib.hid hof
        have HBr := Lib.hid hb
        have z0 : wr.cell? ⟨B, 0, none⟩ = some (.int .i64 ta) := hbx.cell 0
        have z1 : wr.cell? ⟨B, 1, none⟩ = some (.int .i64 tb) := hbx.cell 1
        have hwl := HWL.out ta nx j
        have HWn := Lib.hid (HYS.out ta nx j)
        have HLn := Lib.hid (HLS.out ta nx j)
        have hll : (Si ++ wayP ta nx j).length = Si.length + j := by rw [List.length_append, hwl]
        generalize hQQ : Si ++ wayP ta nx j = SW at *
        have hsw : SW.length ≤ 60000020 := by rw [hll]; omega
        generalize hla : lastP ta nx j = la at *
        have HLA := Lib.hid hla
        clear hla hll
        clear hown hbx hof hb hwl
        by_cases hlj : j < q
        · have j1 : (j : Int) < (q : Int) := by omega
          have HSW : Hid (Si ++ wayP ta nx (j + 1) = SW ++ [(la, nx + j)]) := Lib.hid (by rw [HWn.out, ← List.append_assoc, hQQ])
          clear hQQ HWn
          go_wp2_with (at_builtin; refine wpList_append_lies _ rfl _ _ 56 rfl w1.heap.size 25 i0 (.agg #[.int .i64 0, .int .i64 0]) 2 16 Try.underlying56 hi0 hz0 hz1 hz2 rfl (by decide) _ _ _ rfl (HOW.out.alloc _) ⟨_, 0, none⟩ 1 1 [.int .i64 la, .int .i64 (nx + j)] rfl rfl (lit_row _ _ _) (by simp [Value.oneCell']) (by decide) (by unfold maxLen; omega) (by omega) (by rw [World.size_alloc]; have := HBr.out.size; omega) (wr.heap.size + 1) (World.size_alloc ..) ?_; intro gn cn w3 hown1 hgrow1 hlie _; have hB3 : Below w1.heap.size w1 w3 := below_push (w := w1) HBr.out (fun k hk => (HOW.out.lt k hk).1) hgrow1; have hbx3 := (HBX.out.alloc (Obj.cells #[.int .i64 la, .int .i64 (nx + j)] 25)).grown hgrow1 (fun hk => HOF.out _ hk.symm rfl); have z0 : w3.cell? ⟨B, 0, none⟩ = some (.int .i64 ta) := hbx3.cell 0; have z1 : w3.cell? ⟨B, 1, none⟩ = some (.int .i64 tb) := hbx3.cell 1)
          have HOW3 : Hid (w3.ownsRow w1.heap.size 25 2 (.slice (some ⟨gn, 0, none⟩) (SW.length + 1) cn) (SW ++ [(la, nx + (j : Int))]).length (flat encP (SW ++ [(la, nx + (j : Int))]))) := by
            rw [List.length_append, flatP_snoc]
            exact hown1
          have HOF3 : Hid (Off (.slice (some ⟨gn, 0, none⟩) (SW.length + 1) cn) B) := Lib.hid fun k hk => by
            have e : gn = k := by simpa [Value.ownBlock] using hk
            rcases hlie with hh | hh
            · rw [← e]; exact HOF.out _ hh
            · omega
          have HBX3 := Lib.hid hbx3
          have HB3 := Lib.hid hB3
          have hBl3 : B < w3.heap.size := hbx3.lt
          clear hown1 hgrow1 hB3 hbx3 hlie
          go_wp2
          go_roundw
          case rel => exact ⟨j + 1, by omega, by go_num, by rw [HXS.out nx j], by rw [HLn.out], by rw [HSW.out]; exact HOW3.out, HBX3.out, HOF3.out, hBl3, HB3.out⟩
          case measure => simp [intOf]; omega
        · obtain rfl : j = q := by omega
          have j1 : ¬ (j : Int) < (j : Int) := by omega
          have HSW : Hid (S (i + 1) = SW ++ [(la, tb)]) := Lib.hid (by rw [HSn.out, ← hQQ, HLA.out])
          clear hQQ HWn
          go_wp2_with (at_builtin; refine wpList_append_lies _ rfl _ _ 56 rfl w1.heap.size 25 i0 (.agg #[.int .i64 0, .int .i64 0]) 2 16 Try.underlying56 hi0 hz0 hz1 hz2 rfl (by decide) _ _ _ rfl (HOW.out.alloc _) ⟨_, 0, none⟩ 1 1 [.int .i64 la, .int .i64 tb] rfl rfl (lit_row _ _ _) (by simp [Value.oneCell']) (by decide) (by unfold maxLen; omega) (by omega) (by rw [World.size_alloc]; have := HBr.out.size; omega) (wr.heap.size + 1) (World.size_alloc ..) ?_; intro gn cn w3 hown1 hgrow1 hlie _; have hB3 : Below w1.heap.size w1 w3 := below_push (w := w1) HBr.out (fun k hk => (HOW.out.lt k hk).1) hgrow1; have hbx3 := (HBX.out.alloc (Obj.cells #[.int .i64 la, .int .i64 tb] 25)).grown hgrow1 (fun hk => HOF.out _ hk.symm rfl); have z0 : w3.cell? ⟨B, 0, none⟩ = some (.int .i64 ta) := hbx3.cell 0; have z1 : w3.cell? ⟨B, 1, none⟩ = some (.int .i64 tb) := hbx3.cell 1)
          have HOW3 : Hid (w3.ownsRow w1.heap.size 25 2 (.slice (some ⟨gn, 0, none⟩) (SW.length + 1) cn) (SW ++ [(la, tb)]).length (flat encP (SW ++ [(la, tb)]))) := by
            rw [List.length_append, flatP_snoc]
            exact hown1
          have HB3 := Lib.hid hB3
          clear hown1 hgrow1 hB3 hbx3 hlie z0 z1
          go_wp2
          go_roundw
          case rel => exact ⟨i + 1, by omega, by go_num, by rw [HNn.out], by rw [HSW.out]; exact HOW3.out, HB3.out⟩
          case measure => simp [intOf]; omega
    · obtain rfl : i = P.length := by omega
      have i1 : ¬ (P.length : Int) < (P.length : Int) := by omega
      obtain ⟨sa, sc, rfl, hps⟩ := RowAt.of_own encP_len hown
      clear hown
      have hk2 : Below W.heap.size W wr := HB1.out.trans (hb.mono HB1.out.size)
      clear hb
      go_wp2_with fail
      refine (HM.out _ _ _ hps).mono ?_
      rintro r x5 ⟨a2, c2, rfl, -, he2, hb5⟩
      have hj5 : Below W.heap.size W x5 := hk2.trans (hb5.mono hk2.size)
      clear hps hb5
      have hRr : Blk x5 (w.heap.size + 1) 24 #[.int .i64 0, .slice none 0 0] := HR1.out.below hj5 HR1.out.lt
      obtain ⟨r1, r3, r2, r4, r5, r6, hes, hbf⟩ := tail_facts x5 wr.heap.size (w.heap.size + 1) w.heap.size m J a2 c2 he2 (by have := hk2.size; have := HWS.out; omega) hRr
      have HES := Lib.hid hes
      have HBF := Lib.hid (hbf w (HB0.out.trans (hj5.mono HB0.out.size)) (by omega))
      clear hRr hes hbf
      clear he2 hj5 hk2
      go_wp2
      refine bodyPost_ret (v := .tuple #[.agg #[.int .i64 m, .slice a2 J.length c2], .int .i64 ((k : Nat) : Int)]) (by simp [results, Try.results25, go_sem, r5, r6]) rfl ?_
      exact ⟨a2, c2, rfl, HES.out, HBF.out⟩
end Go.Proofs.Ytndjjafpdiehdaa

namespace Go.Proofs.Ytndjjafpdiehdaa
open Go.RowKit Go.Proofs.Gr

theorem cnt_key {n : Int} (P : List (Int × Int)) (hP : ∀ p ∈ P, (0 ≤ p.1 ∧ p.1 < n) ∧ 0 ≤ p.2 ∧ p.2 < n) (x y : Nat) : cntT P P.length x y = accF (P.map keyP) ((x : Int), (y : Int)) := by
  have hz : ∀ j, j < P.length → pErr n P j = 0 := fun j hj => by
    have := hP (pAt P j) (by rw [← pAt_get P j hj]; exact List.getElem_mem _)
    unfold pErr isV
    rw [if_pos (by simp; omega)]
  rw [cntT_acc P P.length (Nat.le_refl _) hz x y, prs_all]
theorem key_one (P : List (Int × Int)) : ∀ x ∈ P.map keyP, 1 ≤ x.2 := by
  intro x hx
  obtain ⟨p, -, rfl⟩ := List.mem_map.1 hx
  exact Int.le_refl _
theorem acc_drop (P : List (Int × Int)) (e : Nat) (z : Int × Int) : accF ((dropP P e).map keyP) z ≤ accF (P.map keyP) z := by
  have h1 : P = P.take e ++ (P.drop e) := (List.take_append_drop e P).symm
  have h2 : ∃ l, P.drop e = l ++ P.drop (e + 1) := by
    by_cases h : e < P.length
    · exact ⟨[P[e]], by rw [List.drop_eq_getElem_cons h]; rfl⟩
    · exact ⟨[], by rw [List.drop_eq_nil_of_le (by omega), List.drop_eq_nil_of_le (by omega)]; rfl⟩
  obtain ⟨l, hl⟩ := h2
  have h3 : accF (P.map keyP) z = accF ((P.take e).map keyP) z + (accF (l.map keyP) z + accF ((P.drop (e + 1)).map keyP) z) := by
    conv => lhs; rw [h1, hl]
    rw [List.map_append, List.map_append, accF_append, accF_append]
  have h4 := accF_nonneg (l.map keyP) (key_one l) z
  unfold dropP
  rw [List.map_append, accF_append, h3]
  omega
theorem ends_in {n : Int} {L : List E} (hR : Right n L) : ∀ p ∈ endsG L, (0 ≤ p.1 ∧ p.1 < n) ∧ 0 ≤ p.2 ∧ p.2 < n := fun p hp => by
  have := ends_rng hR.rng p hp; omega
theorem cnt_ends {n : Int} {L : List E} (hR : Right n L) (x y : Nat) : cntT (endsG L) (endsG L).length x y = bet x y L := by
  rw [cnt_key (endsG L) (ends_in hR) x y, ends_acc hR.rng]
/-- The graph without a single edge. -/
theorem makes_del {N : Nat} {L : List E} (hR : Right N L) (hl : (endsG L).length ≤ 4096) (e : Nat) (he : e < (endsG L).length) : Makes N (dropP (endsG L) e) N (joinT (cntT (dropP (endsG L) e) (dropP (endsG L) e).length) N N) 0 := by
  have hd : ∀ p ∈ dropP (endsG L) e, (0 ≤ p.1 ∧ p.1 < (N : Int)) ∧ 0 ≤ p.2 ∧ p.2 < (N : Int) := fun p hp => ends_in hR p (dropP_mem hp)
  have := hR.lo
  have := hR.hi
  refine makes_right N (by omega) (by omega) _ (by have := dropP_len (endsG L) e he; omega) hd fun x y => ?_
  rw [cnt_key _ hd x y]
  have h1 := acc_drop (endsG L) e ((x : Int), (y : Int))
  rw [ends_acc hR.rng] at h1
  exact Int.le_trans h1 (bet_max hR _ _)
/-- The graph that is subdivided. -/
theorem makes_sub {n : Int} {L : List E} (hR : Right n L) (hl : (endsG L).length ≤ 4096) (q : Nat) (N : Nat) (hx : n + (q : Int) * (endsG L).length = N) (hN : N ≤ 12) : Makes (n + (q : Int) * (endsG L).length) (subP n q (endsG L) (endsG L).length) N (joinT (cntT (subP n q (endsG L) (endsG L).length) (subP n q (endsG L) (endsG L).length).length) N N) 0 := by
  have h0 := hR.lo
  have hr := sub_rng h0 (fun p hp => ends_rng hR.rng p hp) q (endsG L).length (Nat.le_refl _)
  have hp0 : 0 ≤ (q : Int) * ((endsG L).length : Int) := Int.mul_nonneg (by omega) (by omega)
  rw [nxP_eq, hx] at hr
  rw [hx]
  by_cases hq : q = 0
  · subst hq
    rw [subP_one n (endsG L) _ (Nat.le_refl _), List.take_length]
    rw [subP_one n (endsG L) _ (Nat.le_refl _), List.take_length] at hr
    refine makes_right N (by omega) hN _ hl hr fun x y => ?_
    rw [cnt_ends hR]; exact bet_max hR _ _
  · have h22 := sub_small n q (by omega) (endsG L) h0 (by omega)
    refine makes_right N (by omega) hN _ (by omega) hr fun x y => ?_
    have := (cntT_le (subP n q (endsG L) (endsG L).length) (subP n q (endsG L) (endsG L).length).length x y).2
    omega
theorem subKE_zero {n : Int} {L : List E} {k : Int} (h : subKE n L k = 0) : chkG n L = 0 ∧ ∃ q : Nat, q ≤ 11 ∧ k = (q : Int) + 1 ∧ n + (q : Int) * (endsG L).length ≤ 12 := by
  unfold subKE at h
  split at h
  · omega
  · split at h
    · omega
    · split at h
      · omega
      · rename_i h1 h2 h3
        refine ⟨by omega, (k - 1).toNat, by omega, by omega, ?_⟩
        rw [show (((k - 1).toNat : Nat) : Int) = k - 1 by omega]
        omega
theorem pSub_err (n : Int) (a : Option Addr) (cap : Nat) (L : List E) (hL : L.length ≤ 100000) (k : Int) (hk : subKE n L k ≠ 0) (w : World) (h : EsAt w a L) :
    Calls Try.prog 25 #[gv n a L.length cap, .int .i64 k] w (GivesGW w 0 [] (subKE n L k)) := by
  by_cases h0 : chkG n L = 0
  · by_cases h1 : k < 1 ∨ 12 < k
    · have : subKE n L k = 2 := by unfold subKE; rw [if_neg (by omega), if_pos h1]
      rw [this]
      exact pSub_k n a cap L hL k h0 h1 w h
    · obtain ⟨q, rfl⟩ : ∃ q : Nat, k = (q : Int) + 1 := ⟨(k - 1).toNat, by omega⟩
      have e1 : (q : Int) + 1 - 1 = q := by omega
      by_cases h2 : 12 < n + (q : Int) * (endsG L).length
      · have : subKE n L ((q : Int) + 1) = 5 := by unfold subKE; rw [if_neg (by omega), if_neg h1, e1, if_pos h2]
        rw [this]
        exact pSub_many n a cap L hL q (by omega) h0 h2 w h
      · exfalso
        apply hk
        unfold subKE; rw [if_neg (by omega), if_neg h1, e1, if_neg h2]
  · have : subKE n L k = chkG n L := by unfold subKE; rw [if_pos h0]
    rw [this]
    exact pSub_chk n a cap L hL k h0 w h
end Go.Proofs.Ytndjjafpdiehdaa

namespace Go.Proofs.Ytndjjafpdiehdaa
open Go.RowKit Go.Shelf Go.Proofs.Gr
attribute [local go_sem] Oper.semAt_some

set_option maxHeartbeats 12800000 in
set_option maxRecDepth 100000 in
theorem rsameI_true (a b : Option Addr) (c d : Nat) (D : List Int) (hD : D.length ≤ 100000) (w : World) (h1 : IsAt w a D) (h2 : IsAt w b D) :
    Calls Try.prog 22 #[.slice a D.length c, .slice b D.length d] w (fun e w' => e = .returned (.bool true) ∧ Below w.heap.size w w') := by
  have d1 : ((D.length : Int) != (D.length : Int)) = false := by simp
  have H1 := Lib.hid h1
  have H2 := Lib.hid h2
  clear h1 h2
  go_enter Try.func22, Try.ntmps22
  go_wp2
  go_loopw [5] (fun x wr => ∃ i : Nat, i ≤ D.length ∧ x = .int .i64 i ∧ Below w.heap.size w wr) (fun x _ => D.length - (intOf x).toNat)
  case atStart => exact ⟨0, by omega, rfl, Below.refl _ _⟩
  case round =>
    obtain ⟨i, hi, rfl, hb⟩ := hrel
    by_cases hlt : i < D.length
    · have i1 : (i : Int) < (D.length : Int) := by omega
      have i2 : (0 : Int) ≤ (i : Int) := by omega
      obtain ⟨b1, o1, hb1, q1, x1⟩ := (H1.out.keep hb).one i hlt
      obtain ⟨b2, o2, hb2, q2, x2⟩ := (H2.out.keep hb).one i hlt
      subst hb1 hb2
      have HXY : Hid (∀ u, Below wr.heap.size wr u → u.cell? ⟨b1, o1 + i, none⟩ = some (.int .i64 (iAt D i)) ∧ u.cell? ⟨b2, o2 + i, none⟩ = some (.int .i64 (iAt D i))) := Lib.hid fun u hu => by
        obtain ⟨b3, o3, e1, -, y1⟩ := (H1.out.keep (hb.trans (hu.mono hb.size))).one i hlt
        obtain ⟨b4, o4, e2, -, y2⟩ := (H2.out.keep (hb.trans (hu.mono hb.size))).one i hlt
        injection e1 with e1; injection e1 with e3 e4
        injection e2 with e2; injection e2 with e5 e6
        subst e3 e4 e5 e6
        exact ⟨y1, y2⟩
      have HBr := Lib.hid hb
      clear hb x1 x2
      generalize iAt D i = z at *
      have d2 : (z != z) = false := by simp
      go_wp2
      have hj0 : Below wr.heap.size wr wr.drew := (Below.refl _ _).drew
      refine wp_region_late (S := fun u => Below wr.heap.size wr u) (X := []) (by kernel_rfl) ?_
      refine wpAnyL_pureD (i := 0) 17 (.slice (some ⟨b1, o1, none⟩) D.length c) rfl rfl (by kernel_rfl) (by kernel_rfl) (by kernel_rfl) (fun _ _ _ h => h) (Or.inl ⟨by rfl, fun u _ => ?_⟩) ?_
      · go_simp
      try simp only [Act.put, List.setIfInBounds_toArray, List.set_cons_zero, List.set_cons_succ]
      refine wpAnyL_pureD (i := 1) 18 (.int .i64 i) rfl rfl (by kernel_rfl) (by kernel_rfl) (by kernel_rfl) (fun _ _ _ h => h) (Or.inl ⟨by rfl, fun u _ => ?_⟩) ?_
      · go_simp
      try simp only [Act.put, List.setIfInBounds_toArray, List.set_cons_zero, List.set_cons_succ]
      refine wpAnyL_pureD (i := 2) 19 (.pointer (some ⟨b1, o1 + i, none⟩)) rfl rfl (by kernel_rfl) (by kernel_rfl) (by kernel_rfl) (fun _ _ _ h => h) (Or.inl ⟨by rfl, fun u _ => ?_⟩) ?_
      · go_simp
      try simp only [Act.put, List.setIfInBounds_toArray, List.set_cons_zero, List.set_cons_succ]
      refine wpAnyL_takeD (i := 3) 20 (.int .i64 z) rfl rfl (by kernel_rfl) (by kernel_rfl) (by kernel_rfl) (by kernel_rfl) (by kernel_rfl) (fun _ _ _ h => h) hj0 (Or.inl ⟨by rfl, fun u hu => ?_⟩) ?_
      · obtain ⟨t0, t1⟩ := HXY.out u hu
        go_simp
      try simp only [Act.put, List.setIfInBounds_toArray, List.set_cons_zero, List.set_cons_succ]
      refine wpAnyL_pureD (i := 4) 21 (.slice (some ⟨b2, o2, none⟩) D.length d) rfl rfl (by kernel_rfl) (by kernel_rfl) (by kernel_rfl) (fun _ _ _ h => h) (Or.inl ⟨by rfl, fun u _ => ?_⟩) ?_
      · go_simp
      try simp only [Act.put, List.setIfInBounds_toArray, List.set_cons_zero, List.set_cons_succ]
      refine wpAnyL_pureD (i := 5) 22 (.int .i64 i) rfl rfl (by kernel_rfl) (by kernel_rfl) (by kernel_rfl) (fun _ _ _ h => h) (Or.inl ⟨by rfl, fun u _ => ?_⟩) ?_
      · go_simp
      try simp only [Act.put, List.setIfInBounds_toArray, List.set_cons_zero, List.set_cons_succ]
      refine wpAnyL_pureD (i := 6) 23 (.pointer (some ⟨b2, o2 + i, none⟩)) rfl rfl (by kernel_rfl) (by kernel_rfl) (by kernel_rfl) (fun _ _ _ h => h) (Or.inl ⟨by rfl, fun u _ => ?_⟩) ?_
      · go_simp
      try simp only [Act.put, List.setIfInBounds_toArray, List.set_cons_zero, List.set_cons_succ]
      refine wpAnyL_takeD (i := 7) 24 (.int .i64 z) rfl rfl (by kernel_rfl) (by kernel_rfl) (by kernel_rfl) (by kernel_rfl) (by kernel_rfl) (fun _ _ _ h => h) hj0 (Or.inl ⟨by rfl, fun u hu => ?_⟩) ?_
      · obtain ⟨t0, t1⟩ := HXY.out u hu
        go_simp
      try simp only [Act.put, List.setIfInBounds_toArray, List.set_cons_zero, List.set_cons_succ]
      refine wpAnyL_pureD (i := 8) 25 (.bool false) rfl rfl (by kernel_rfl) (by kernel_rfl) (by kernel_rfl) (fun _ _ _ h => h) (Or.inl ⟨by rfl, fun u _ => ?_⟩) ?_
      · go_simp
      try simp only [Act.put, List.setIfInBounds_toArray, List.set_cons_zero, List.set_cons_succ]
      refine wpAnyL_done (by kernel_rfl) ?_ _
      try simp only [Act.put, List.setIfInBounds_toArray, List.set_cons_zero, List.set_cons_succ]
      have HBN := Lib.hid (HBr.out.trans (hj0.mono HBr.out.size))
      clear hj0
      go_wp2
      go_roundw
      case rel => exact ⟨i + 1, by omega, by go_num, HBN.out⟩
      case measure => simp [intOf]; omega
    · obtain rfl : i = D.length := by omega
      have i1 : ¬ (D.length : Int) < (D.length : Int) := by omega
      have HEND := Lib.hid hb
      clear hb
      go_wp2
      go_ret
      exact ⟨rfl, HEND.out⟩
set_option maxHeartbeats 12800000 in
set_option maxRecDepth 100000 in
theorem pequalD_true (a b : Option Addr) (c d : Nat) (D : List Int) (hD : D.length ≤ 100000) (w : World) (h1 : IsAt w a D) (h2 : IsAt w b D) :
    Calls Try.prog 49 #[.slice a D.length c, .slice b D.length d] w (fun e w' => e = .returned (.bool true) ∧ Below w.heap.size w w') := by
  have d1 : ((D.length : Int) != (D.length : Int)) = false := by simp
  have H1 := Lib.hid h1
  have H2 := Lib.hid h2
  clear h1 h2
  go_enter Try.func49, Try.ntmps49
  go_wp2
  go_loopw [13] (fun x wr => ∃ i : Nat, i ≤ D.length ∧ x = .int .i64 i ∧ Below w.heap.size w wr) (fun x _ => D.length - (intOf x).toNat)
  case atStart => exact ⟨0, by omega, rfl, Below.refl _ _⟩
  case round =>
    obtain ⟨i, hi, rfl, hb⟩ := hrel
    by_cases hlt : i < D.length
    · have i1 : (i : Int) < (D.length : Int) := by omega
      have i2 : (0 : Int) ≤ (i : Int) := by omega
      obtain ⟨b1, o1, hb1, q1, x1⟩ := (H1.out.keep hb).one i hlt
      obtain ⟨b2, o2, hb2, q2, x2⟩ := (H2.out.keep hb).one i hlt
      subst hb1 hb2
      have HXY : Hid (∀ u, Below wr.heap.size wr u → u.cell? ⟨b1, o1 + i, none⟩ = some (.int .i64 (iAt D i)) ∧ u.cell? ⟨b2, o2 + i, none⟩ = some (.int .i64 (iAt D i))) := Lib.hid fun u hu => by
        obtain ⟨b3, o3, e1, -, y1⟩ := (H1.out.keep (hb.trans (hu.mono hb.size))).one i hlt
        obtain ⟨b4, o4, e2, -, y2⟩ := (H2.out.keep (hb.trans (hu.mono hb.size))).one i hlt
        injection e1 with e1; injection e1 with e3 e4
        injection e2 with e2; injection e2 with e5 e6
        subst e3 e4 e5 e6
        exact ⟨y1, y2⟩
      have HBr := Lib.hid hb
      clear hb x1 x2
      generalize iAt D i = z at *
      have d2 : (z != z) = false := by simp
      go_wp2
      have hj0 : Below wr.heap.size wr wr.drew := (Below.refl _ _).drew
      refine wp_region_late (S := fun u => Below wr.heap.size wr u) (X := []) (by kernel_rfl) ?_
      refine wpAnyL_pureD (i := 0) 16 (.slice (some ⟨b1, o1, none⟩) D.length c) rfl rfl (by kernel_rfl) (by kernel_rfl) (by kernel_rfl) (fun _ _ _ h => h) (Or.inl ⟨by rfl, fun u _ => ?_⟩) ?_
      · go_simp
      try simp only [Act.put, List.setIfInBounds_toArray, List.set_cons_zero, List.set_cons_succ]
      refine wpAnyL_pureD (i := 1) 17 (.int .i64 i) rfl rfl (by kernel_rfl) (by kernel_rfl) (by kernel_rfl) (fun _ _ _ h => h) (Or.inl ⟨by rfl, fun u _ => ?_⟩) ?_
      · go_simp
      try simp only [Act.put, List.setIfInBounds_toArray, List.set_cons_zero, List.set_cons_succ]
      refine wpAnyL_pureD (i := 2) 18 (.pointer (some ⟨b1, o1 + i, none⟩)) rfl rfl (by kernel_rfl) (by kernel_rfl) (by kernel_rfl) (fun _ _ _ h => h) (Or.inl ⟨by rfl, fun u _ => ?_⟩) ?_
      · go_simp
      try simp only [Act.put, List.setIfInBounds_toArray, List.set_cons_zero, List.set_cons_succ]
      refine wpAnyL_takeD (i := 3) 19 (.int .i64 z) rfl rfl (by kernel_rfl) (by kernel_rfl) (by kernel_rfl) (by kernel_rfl) (by kernel_rfl) (fun _ _ _ h => h) hj0 (Or.inl ⟨by rfl, fun u hu => ?_⟩) ?_
      · obtain ⟨t0, t1⟩ := HXY.out u hu
        go_simp
      try simp only [Act.put, List.setIfInBounds_toArray, List.set_cons_zero, List.set_cons_succ]
      refine wpAnyL_pureD (i := 4) 20 (.slice (some ⟨b2, o2, none⟩) D.length d) rfl rfl (by kernel_rfl) (by kernel_rfl) (by kernel_rfl) (fun _ _ _ h => h) (Or.inl ⟨by rfl, fun u _ => ?_⟩) ?_
      · go_simp
      try simp only [Act.put, List.setIfInBounds_toArray, List.set_cons_zero, List.set_cons_succ]
      refine wpAnyL_pureD (i := 5) 21 (.int .i64 i) rfl rfl (by kernel_rfl) (by kernel_rfl) (by kernel_rfl) (fun _ _ _ h => h) (Or.inl ⟨by rfl, fun u _ => ?_⟩) ?_
      · go_simp
      try simp only [Act.put, List.setIfInBounds_toArray, List.set_cons_zero, List.set_cons_succ]
      refine wpAnyL_pureD (i := 6) 22 (.pointer (some ⟨b2, o2 + i, none⟩)) rfl rfl (by kernel_rfl) (by kernel_rfl) (by kernel_rfl) (fun _ _ _ h => h) (Or.inl ⟨by rfl, fun u _ => ?_⟩) ?_
      · go_simp
      try simp only [Act.put, List.setIfInBounds_toArray, List.set_cons_zero, List.set_cons_succ]
      refine wpAnyL_takeD (i := 7) 23 (.int .i64 z) rfl rfl (by kernel_rfl) (by kernel_rfl) (by kernel_rfl) (by kernel_rfl) (by kernel_rfl) (fun _ _ _ h => h) hj0 (Or.inl ⟨by rfl, fun u hu => ?_⟩) ?_
      · obtain ⟨t0, t1⟩ := HXY.out u hu
        go_simp
      try simp only [Act.put, List.setIfInBounds_toArray, List.set_cons_zero, List.set_cons_succ]
      refine wpAnyL_pureD (i := 8) 24 (.bool false) rfl rfl (by kernel_rfl) (by kernel_rfl) (by kernel_rfl) (fun _ _ _ h => h) (Or.inl ⟨by rfl, fun u _ => ?_⟩) ?_
      · go_simp
      try simp only [Act.put, List.setIfInBounds_toArray, List.set_cons_zero, List.set_cons_succ]
      refine wpAnyL_done (by kernel_rfl) ?_ _
      try simp only [Act.put, List.setIfInBounds_toArray, List.set_cons_zero, List.set_cons_succ]
      have HBN := Lib.hid (HBr.out.trans (hj0.mono HBr.out.size))
      clear hj0
      go_wp2
      go_roundw
      case rel => exact ⟨i + 1, by omega, by go_num, HBN.out⟩
      case measure => simp [intOf]; omega
    · obtain rfl : i = D.length := by omega
      have i1 : ¬ (D.length : Int) < (D.length : Int) := by omega
      have HEND := Lib.hid hb
      clear hb
      go_wp2
      go_ret
      exact ⟨rfl, HEND.out⟩
def fewG (n : Int) (L : List E) : Bool := decide (L.length ≤ 40) && (decide (chkG n L ≠ 0) || (decide (n ≤ 6) && decide (sizeG L ≤ 9)))
theorem few_len {n : Int} {L : List E} (h : fewG n L = true) : L.length ≤ 40 := by
  unfold fewG at h
  simp only [Bool.and_eq_true, decide_eq_true_eq] at h
  exact h.1
theorem few_size {n : Int} {L : List E} (h : fewG n L = true) (hk : chkG n L = 0) : n ≤ 6 ∧ sizeG L ≤ 9 := by
  unfold fewG at h
  simp only [Bool.and_eq_true, Bool.or_eq_true, decide_eq_true_eq] at h
  rcases h.2 with h1 | h1
  · exact absurd hk h1
  · exact h1
def oneG (n : Int) (L : List E) (e : Int) : Bool := fewG n L && decide (chkG n L = 0) && decide (0 ≤ e) && decide (e < sizeG L)
set_option maxHeartbeats 12800000 in
set_option maxRecDepth 100000 in
theorem small_long (n : Int) (a : Option Addr) (cap : Nat) (L : List E) (hl : 40 < L.length) (w : World) (h : EsAt w a L) :
    Calls Try.prog 50 #[gv n a L.length cap, .int .i64 6, .int .i64 9] w (GivesB w false) := by
  unfold GivesB gv
  obtain ⟨W, hW⟩ : ∃ W, W = w.alloc (Obj.cells #[.int .i64 n, .slice a L.length cap] 24) := ⟨_, rfl⟩
  have hB0 : Below w.heap.size w W := by rw [hW]; exact (Below.refl _ w).alloc (Nat.le_refl _) _
  have hG : Blk W w.heap.size 24 #[.int .i64 n, .slice a L.length cap] := by rw [hW]; exact Blk.new _ _ _
  have HW := Lib.hid hW
  have HB0 := Lib.hid hB0
  have hEz : EsAt W a L := h.keep hB0
  have HF : Hid (∀ x, Below W.heap.size W x → x.cell? ⟨w.heap.size, 0, none⟩ = some (.int .i64 n) ∧ x.cell? ⟨w.heap.size, 1, none⟩ = some (.slice a L.length cap) ∧ EsAt x a L) := Lib.hid fun x hx => ⟨(hG.below hx hG.lt).cell 0, (hG.below hx hG.lt).cell 1, hEz.keep hx⟩
  have hk0 : Below W.heap.size W W := Below.refl _ _
  obtain ⟨g0, g1, -⟩ := HF.out W hk0
  clear hB0 hG hW hEz h
  have l1 : (40 : Int) < (L.length : Int) := by omega
  go_enter Try.func50, Try.ntmps50
  go_wp2
  rw [← HW.out]
  go_ret
  exact ⟨rfl, HB0.out⟩
set_option maxHeartbeats 12800000 in
set_option maxRecDepth 100000 in
theorem small_err (n : Int) (a : Option Addr) (cap : Nat) (L : List E) (hl : L.length ≤ 40) (k : Nat) (hk : k ≠ 0) (HC : Hid (∀ w, EsAt w a L → Calls Try.prog 37 #[.agg #[.int .i64 n, .slice a L.length cap]] w (fun e w' => e = .returned (.int .i64 (k : Int)) ∧ Below w.heap.size w w'))) (w : World) (h : EsAt w a L) :
    Calls Try.prog 50 #[gv n a L.length cap, .int .i64 6, .int .i64 9] w (GivesB w true) := by
  unfold GivesB gv
  obtain ⟨W, hW⟩ : ∃ W, W = w.alloc (Obj.cells #[.int .i64 n, .slice a L.length cap] 24) := ⟨_, rfl⟩
  have hB0 : Below w.heap.size w W := by rw [hW]; exact (Below.refl _ w).alloc (Nat.le_refl _) _
  have hG : Blk W w.heap.size 24 #[.int .i64 n, .slice a L.length cap] := by rw [hW]; exact Blk.new _ _ _
  have HW := Lib.hid hW
  have HB0 := Lib.hid hB0
  have hEz : EsAt W a L := h.keep hB0
  have HF : Hid (∀ x, Below W.heap.size W x → x.cell? ⟨w.heap.size, 0, none⟩ = some (.int .i64 n) ∧ x.cell? ⟨w.heap.size, 1, none⟩ = some (.slice a L.length cap) ∧ EsAt x a L) := Lib.hid fun x hx => ⟨(hG.below hx hG.lt).cell 0, (hG.below hx hG.lt).cell 1, hEz.keep hx⟩
  have hk0 : Below W.heap.size W W := Below.refl _ _
  obtain ⟨g0, g1, -⟩ := HF.out W hk0
  clear hB0 hG hW hEz h
  have l1 : ¬ (40 : Int) < (L.length : Int) := by omega
  have q0 : (((k : Nat) : Int) != 0) = true := by rw [bne_iff_ne]; omega
  go_enter Try.func50, Try.ntmps50
  go_wp2_with fail
  rw [← HW.out]
  refine (HC.out _ (HF.out W hk0).2.2).mono ?_
  rintro e x1 ⟨rfl, hb1⟩
  have hk1 : Below W.heap.size W x1 := hk0.trans (hb1.mono hk0.size)
  clear hb1 hk0 g0 g1
  obtain ⟨g0, g1, -⟩ := HF.out x1 hk1
  have HEND := Lib.hid (HB0.out.trans (hk1.mono HB0.out.size))
  clear hk1 g0 g1
  go_wp2
  go_ret
  exact ⟨rfl, HEND.out⟩
set_option maxHeartbeats 12800000 in
set_option maxRecDepth 100000 in
theorem small_many (n : Int) (a : Option Addr) (cap : Nat) (L : List E) (hl : L.length ≤ 40) (hn : 6 < n) (HC : Hid (∀ w, EsAt w a L → Calls Try.prog 37 #[.agg #[.int .i64 n, .slice a L.length cap]] w (fun e w' => e = .returned (.int .i64 0) ∧ Below w.heap.size w w'))) (w : World) (h : EsAt w a L) :
    Calls Try.prog 50 #[gv n a L.length cap, .int .i64 6, .int .i64 9] w (GivesB w false) := by
  unfold GivesB gv
  obtain ⟨W, hW⟩ : ∃ W, W = w.alloc (Obj.cells #[.int .i64 n, .slice a L.length cap] 24) := ⟨_, rfl⟩
  have hB0 : Below w.heap.size w W := by rw [hW]; exact (Below.refl _ w).alloc (Nat.le_refl _) _
  have hG : Blk W w.heap.size 24 #[.int .i64 n, .slice a L.length cap] := by rw [hW]; exact Blk.new _ _ _
  have HW := Lib.hid hW
  have HB0 := Lib.hid hB0
  have hEz : EsAt W a L := h.keep hB0
  have HF : Hid (∀ x, Below W.heap.size W x → x.cell? ⟨w.heap.size, 0, none⟩ = some (.int .i64 n) ∧ x.cell? ⟨w.heap.size, 1, none⟩ = some (.slice a L.length cap) ∧ EsAt x a L) := Lib.hid fun x hx => ⟨(hG.below hx hG.lt).cell 0, (hG.below hx hG.lt).cell 1, hEz.keep hx⟩
  have hk0 : Below W.heap.size W W := Below.refl _ _
  obtain ⟨g0, g1, -⟩ := HF.out W hk0
  clear hB0 hG hW hEz h
  have l1 : ¬ (40 : Int) < (L.length : Int) := by omega
  have l2 : decide (n ≤ 6) = false := decide_eq_false (by omega)
  go_enter Try.func50, Try.ntmps50
  go_wp2_with fail
  rw [← HW.out]
  refine (HC.out _ (HF.out W hk0).2.2).mono ?_
  rintro e x1 ⟨rfl, hb1⟩
  have hk1 : Below W.heap.size W x1 := hk0.trans (hb1.mono hk0.size)
  clear hb1 hk0 g0 g1
  obtain ⟨g0, g1, -⟩ := HF.out x1 hk1
  have HEND := Lib.hid (HB0.out.trans (hk1.mono HB0.out.size))
  clear hk1
  go_wp2
  go_ret
  exact ⟨rfl, HEND.out⟩
set_option maxHeartbeats 12800000 in
set_option maxRecDepth 100000 in
theorem small_ok (n : Int) (a : Option Addr) (cap : Nat) (L : List E) (hl : L.length ≤ 40) (hn : n ≤ 6) (S : Int) (HC : Hid (∀ w, EsAt w a L → Calls Try.prog 37 #[.agg #[.int .i64 n, .slice a L.length cap]] w (fun e w' => e = .returned (.int .i64 0) ∧ Below w.heap.size w w'))) (HZ : Hid (∀ w, EsAt w a L → Calls Try.prog 35 #[.agg #[.int .i64 n, .slice a L.length cap]] w (fun e w' => e = .returned (.int .i64 S) ∧ Below w.heap.size w w'))) (w : World) (h : EsAt w a L) :
    Calls Try.prog 50 #[gv n a L.length cap, .int .i64 6, .int .i64 9] w (GivesB w (decide (S ≤ 9))) := by
  unfold GivesB gv
  obtain ⟨W, hW⟩ : ∃ W, W = w.alloc (Obj.cells #[.int .i64 n, .slice a L.length cap] 24) := ⟨_, rfl⟩
  have hB0 : Below w.heap.size w W := by rw [hW]; exact (Below.refl _ w).alloc (Nat.le_refl _) _
  have hG : Blk W w.heap.size 24 #[.int .i64 n, .slice a L.length cap] := by rw [hW]; exact Blk.new _ _ _
  have HW := Lib.hid hW
  have HB0 := Lib.hid hB0
  have hEz : EsAt W a L := h.keep hB0
  have HF : Hid (∀ x, Below W.heap.size W x → x.cell? ⟨w.heap.size, 0, none⟩ = some (.int .i64 n) ∧ x.cell? ⟨w.heap.size, 1, none⟩ = some (.slice a L.length cap) ∧ EsAt x a L) := Lib.hid fun x hx => ⟨(hG.below hx hG.lt).cell 0, (hG.below hx hG.lt).cell 1, hEz.keep hx⟩
  have hk0 : Below W.heap.size W W := Below.refl _ _
  obtain ⟨g0, g1, -⟩ := HF.out W hk0
  clear hB0 hG hW hEz h
  have l1 : ¬ (40 : Int) < (L.length : Int) := by omega
  go_enter Try.func50, Try.ntmps50
  go_wp2_with fail
  rw [← HW.out]
  refine (HC.out _ (HF.out W hk0).2.2).mono ?_
  rintro e x1 ⟨rfl, hb1⟩
  have hk1 : Below W.heap.size W x1 := hk0.trans (hb1.mono hk0.size)
  clear hb1 hk0 g0 g1
  obtain ⟨g0, g1, -⟩ := HF.out x1 hk1
  go_wp2_with fail
  refine (HZ.out _ (HF.out x1 hk1).2.2).mono ?_
  rintro e x2 ⟨rfl, hb2⟩
  have hk2 : Below W.heap.size W x2 := hk1.trans (hb2.mono hk1.size)
  clear hb2 hk1 g0 g1
  obtain ⟨g0, g1, -⟩ := HF.out x2 hk2
  have HEND := Lib.hid (HB0.out.trans (hk2.mono HB0.out.size))
  clear hk2 g0 g1
  go_wp2
  go_ret
  exact ⟨rfl, HEND.out⟩
theorem small_any (n : Int) (a : Option Addr) (cap : Nat) (L : List E) (w : World) (h : EsAt w a L) :
    Calls Try.prog 50 #[gv n a L.length cap, .int .i64 6, .int .i64 9] w (GivesB w (fewG n L)) := by
  have HF : fewG n L = (decide (L.length ≤ 40) && (decide (chkG n L ≠ 0) || (decide (n ≤ 6) && decide (sizeG L ≤ 9)))) := rfl
  by_cases hl : L.length ≤ 40
  · rw [decide_eq_true hl, Bool.true_and] at HF
    by_cases hk : chkG n L = 0
    · have hR := right_of hk
      have HC : Hid (∀ w, EsAt w a L → Calls Try.prog 37 #[.agg #[.int .i64 n, .slice a L.length cap]] w (fun e w' => e = .returned (.int .i64 0) ∧ Below w.heap.size w w')) := Lib.hid fun w h => by have := rcheck_any n a cap L (by omega) w h; rw [hk] at this; exact this
      rw [decide_eq_false (by omega), Bool.false_or] at HF
      by_cases hn : n ≤ 6
      · rw [decide_eq_true hn, Bool.true_and] at HF
        rw [HF]
        exact small_ok n a cap L hl hn (sizeG L) HC (Lib.hid fun w h => rsize_any n a cap L (by omega) hR w h) w h
      · rw [decide_eq_false hn, Bool.false_and] at HF
        rw [HF]
        exact small_many n a cap L hl (by omega) HC w h
    · rw [decide_eq_true hk, Bool.true_or] at HF
      rw [HF]
      exact small_err n a cap L hl (chkG n L) hk (Lib.hid fun w h => rcheck_any n a cap L (by omega) w h) w h
  · rw [decide_eq_false hl, Bool.false_and] at HF
    rw [HF]
    exact small_long n a cap L (by omega) w h
set_option maxHeartbeats 12800000 in
set_option maxRecDepth 100000 in
theorem few_of (n : Int) (a : Option Addr) (cap : Nat) (L : List E) (R : Bool) (HS : Hid (∀ w, EsAt w a L → Calls Try.prog 50 #[.agg #[.int .i64 n, .slice a L.length cap], .int .i64 6, .int .i64 9] w (fun e w' => e = .returned (.bool R) ∧ Below w.heap.size w w'))) (w : World) (h : EsAt w a L) :
    Calls Try.prog 11 #[gv n a L.length cap] w (GivesB w R) := by
  unfold GivesB gv
  obtain ⟨W, hW⟩ : ∃ W, W = w.alloc (Obj.cells #[.int .i64 n, .slice a L.length cap] 24) := ⟨_, rfl⟩
  have hB0 : Below w.heap.size w W := by rw [hW]; exact (Below.refl _ w).alloc (Nat.le_refl _) _
  have hG : Blk W w.heap.size 24 #[.int .i64 n, .slice a L.length cap] := by rw [hW]; exact Blk.new _ _ _
  have HW := Lib.hid hW
  have HB0 := Lib.hid hB0
  have hEz : EsAt W a L := h.keep hB0
  have HF : Hid (∀ x, Below W.heap.size W x → x.cell? ⟨w.heap.size, 0, none⟩ = some (.int .i64 n) ∧ x.cell? ⟨w.heap.size, 1, none⟩ = some (.slice a L.length cap) ∧ EsAt x a L) := Lib.hid fun x hx => ⟨(hG.below hx hG.lt).cell 0, (hG.below hx hG.lt).cell 1, hEz.keep hx⟩
  have hk0 : Below W.heap.size W W := Below.refl _ _
  obtain ⟨g0, g1, -⟩ := HF.out W hk0
  clear hB0 hG hW hEz h
  go_enter Try.func11, Try.ntmps11
  go_wp2_with fail
  rw [← HW.out]
  refine (HS.out _ (HF.out W hk0).2.2).mono ?_
  rintro e x1 ⟨rfl, hb1⟩
  have hk1 : Below W.heap.size W x1 := hk0.trans (hb1.mono hk0.size)
  clear hb1 hk0 g0 g1
  obtain ⟨g0, g1, -⟩ := HF.out x1 hk1
  have HEND := Lib.hid (HB0.out.trans (hk1.mono HB0.out.size))
  clear hk1 g0 g1
  go_wp2
  go_ret
  exact ⟨rfl, HEND.out⟩
theorem few_any (n : Int) (a : Option Addr) (cap : Nat) (L : List E) (w : World) (h : EsAt w a L) :
    Calls Try.prog 11 #[gv n a L.length cap] w (GivesB w (fewG n L)) :=
  few_of n a cap L (fewG n L) (Lib.hid fun w h => small_any n a cap L w h) w h
set_option maxHeartbeats 12800000 in
set_option maxRecDepth 100000 in
theorem one_dark (n : Int) (a : Option Addr) (cap : Nat) (L : List E) (e : Int) (HFW : Hid (∀ w, EsAt w a L → Calls Try.prog 11 #[.agg #[.int .i64 n, .slice a L.length cap]] w (fun e w' => e = .returned (.bool false) ∧ Below w.heap.size w w'))) (w : World) (h : EsAt w a L) :
    Calls Try.prog 32 #[gv n a L.length cap, .int .i64 e] w (GivesB w false) := by
  unfold GivesB gv
  obtain ⟨W, hW⟩ : ∃ W, W = w.alloc (Obj.cells #[.int .i64 n, .slice a L.length cap] 24) := ⟨_, rfl⟩
  have hB0 : Below w.heap.size w W := by rw [hW]; exact (Below.refl _ w).alloc (Nat.le_refl _) _
  have hG : Blk W w.heap.size 24 #[.int .i64 n, .slice a L.length cap] := by rw [hW]; exact Blk.new _ _ _
  have HW := Lib.hid hW
  have HB0 := Lib.hid hB0
  have hEz : EsAt W a L := h.keep hB0
  have HF : Hid (∀ x, Below W.heap.size W x → x.cell? ⟨w.heap.size, 0, none⟩ = some (.int .i64 n) ∧ x.cell? ⟨w.heap.size, 1, none⟩ = some (.slice a L.length cap) ∧ EsAt x a L) := Lib.hid fun x hx => ⟨(hG.below hx hG.lt).cell 0, (hG.below hx hG.lt).cell 1, hEz.keep hx⟩
  have hk0 : Below W.heap.size W W := Below.refl _ _
  obtain ⟨g0, g1, -⟩ := HF.out W hk0
  clear hB0 hG hW hEz h
  go_enter Try.func32, Try.ntmps32
  go_wp2_with fail
  rw [← HW.out]
  refine (HFW.out _ (HF.out W hk0).2.2).mono ?_
  rintro e x1 ⟨rfl, hb1⟩
  have hk1 : Below W.heap.size W x1 := hk0.trans (hb1.mono hk0.size)
  clear hb1 hk0 g0 g1
  obtain ⟨g0, g1, -⟩ := HF.out x1 hk1
  have HEND := Lib.hid (HB0.out.trans (hk1.mono HB0.out.size))
  clear hk1 g0 g1
  go_wp2
  go_ret
  exact ⟨rfl, HEND.out⟩
set_option maxHeartbeats 12800000 in
set_option maxRecDepth 100000 in
theorem one_err (n : Int) (a : Option Addr) (cap : Nat) (L : List E) (e : Int) (k : Nat) (hk : k ≠ 0) (HFW : Hid (∀ w, EsAt w a L → Calls Try.prog 11 #[.agg #[.int .i64 n, .slice a L.length cap]] w (fun e w' => e = .returned (.bool true) ∧ Below w.heap.size w w'))) (HC : Hid (∀ w, EsAt w a L → Calls Try.prog 37 #[.agg #[.int .i64 n, .slice a L.length cap]] w (fun e w' => e = .returned (.int .i64 (k : Int)) ∧ Below w.heap.size w w'))) (w : World) (h : EsAt w a L) :
    Calls Try.prog 32 #[gv n a L.length cap, .int .i64 e] w (GivesB w false) := by
  unfold GivesB gv
  obtain ⟨W, hW⟩ : ∃ W, W = w.alloc (Obj.cells #[.int .i64 n, .slice a L.length cap] 24) := ⟨_, rfl⟩
  have hB0 : Below w.heap.size w W := by rw [hW]; exact (Below.refl _ w).alloc (Nat.le_refl _) _
  have hG : Blk W w.heap.size 24 #[.int .i64 n, .slice a L.length cap] := by rw [hW]; exact Blk.new _ _ _
  have HW := Lib.hid hW
  have HB0 := Lib.hid hB0
  have hEz : EsAt W a L := h.keep hB0
  have HF : Hid (∀ x, Below W.heap.size W x → x.cell? ⟨w.heap.size, 0, none⟩ = some (.int .i64 n) ∧ x.cell? ⟨w.heap.size, 1, none⟩ = some (.slice a L.length cap) ∧ EsAt x a L) := Lib.hid fun x hx => ⟨(hG.below hx hG.lt).cell 0, (hG.below hx hG.lt).cell 1, hEz.keep hx⟩
  have hk0 : Below W.heap.size W W := Below.refl _ _
  obtain ⟨g0, g1, -⟩ := HF.out W hk0
  clear hB0 hG hW hEz h
  have q0 : (((k : Nat) : Int) == 0) = false := by rw [beq_eq_false_iff_ne]; omega
  go_enter Try.func32, Try.ntmps32
  go_wp2_with fail
  rw [← HW.out]
  refine (HFW.out _ (HF.out W hk0).2.2).mono ?_
  rintro e x1 ⟨rfl, hb1⟩
  have hk1 : Below W.heap.size W x1 := hk0.trans (hb1.mono hk0.size)
  clear hb1 hk0 g0 g1
  obtain ⟨g0, g1, -⟩ := HF.out x1 hk1
  go_wp2_with fail
  refine (HC.out _ (HF.out x1 hk1).2.2).mono ?_
  rintro e x2 ⟨rfl, hb2⟩
  have hk2 : Below W.heap.size W x2 := hk1.trans (hb2.mono hk1.size)
  clear hb2 hk1 g0 g1
  obtain ⟨g0, g1, -⟩ := HF.out x2 hk2
  have HEND := Lib.hid (HB0.out.trans (hk2.mono HB0.out.size))
  clear hk2 g0 g1
  go_wp2
  go_ret
  exact ⟨rfl, HEND.out⟩
set_option maxHeartbeats 12800000 in
set_option maxRecDepth 100000 in
theorem one_low (n : Int) (a : Option Addr) (cap : Nat) (L : List E) (e : Int) (he : e < 0) (HFW : Hid (∀ w, EsAt w a L → Calls Try.prog 11 #[.agg #[.int .i64 n, .slice a L.length cap]] w (fun e w' => e = .returned (.bool true) ∧ Below w.heap.size w w'))) (HC : Hid (∀ w, EsAt w a L → Calls Try.prog 37 #[.agg #[.int .i64 n, .slice a L.length cap]] w (fun e w' => e = .returned (.int .i64 0) ∧ Below w.heap.size w w'))) (w : World) (h : EsAt w a L) :
    Calls Try.prog 32 #[gv n a L.length cap, .int .i64 e] w (GivesB w false) := by
  unfold GivesB gv
  obtain ⟨W, hW⟩ : ∃ W, W = w.alloc (Obj.cells #[.int .i64 n, .slice a L.length cap] 24) := ⟨_, rfl⟩
  have hB0 : Below w.heap.size w W := by rw [hW]; exact (Below.refl _ w).alloc (Nat.le_refl _) _
  have hG : Blk W w.heap.size 24 #[.int .i64 n, .slice a L.length cap] := by rw [hW]; exact Blk.new _ _ _
  have HW := Lib.hid hW
  have HB0 := Lib.hid hB0
  have hEz : EsAt W a L := h.keep hB0
  have HF : Hid (∀ x, Below W.heap.size W x → x.cell? ⟨w.heap.size, 0, none⟩ = some (.int .i64 n) ∧ x.cell? ⟨w.heap.size, 1, none⟩ = some (.slice a L.length cap) ∧ EsAt x a L) := Lib.hid fun x hx => ⟨(hG.below hx hG.lt).cell 0, (hG.below hx hG.lt).cell 1, hEz.keep hx⟩
  have hk0 : Below W.heap.size W W := Below.refl _ _
  obtain ⟨g0, g1, -⟩ := HF.out W hk0
  clear hB0 hG hW hEz h
  have q0 : ¬ (0 : Int) ≤ e := by omega
  go_enter Try.func32, Try.ntmps32
  go_wp2_with fail
  rw [← HW.out]
  refine (HFW.out _ (HF.out W hk0).2.2).mono ?_
  rintro e x1 ⟨rfl, hb1⟩
  have hk1 : Below W.heap.size W x1 := hk0.trans (hb1.mono hk0.size)
  clear hb1 hk0 g0 g1
  obtain ⟨g0, g1, -⟩ := HF.out x1 hk1
  go_wp2_with fail
  refine (HC.out _ (HF.out x1 hk1).2.2).mono ?_
  rintro e x2 ⟨rfl, hb2⟩
  have hk2 : Below W.heap.size W x2 := hk1.trans (hb2.mono hk1.size)
  clear hb2 hk1 g0 g1
  obtain ⟨g0, g1, -⟩ := HF.out x2 hk2
  have HEND := Lib.hid (HB0.out.trans (hk2.mono HB0.out.size))
  clear hk2 g0 g1
  go_wp2
  go_ret
  exact ⟨rfl, HEND.out⟩
set_option maxHeartbeats 12800000 in
set_option maxRecDepth 100000 in
theorem one_ok (n : Int) (a : Option Addr) (cap : Nat) (L : List E) (e : Int) (he : 0 ≤ e) (S : Int) (HFW : Hid (∀ w, EsAt w a L → Calls Try.prog 11 #[.agg #[.int .i64 n, .slice a L.length cap]] w (fun e w' => e = .returned (.bool true) ∧ Below w.heap.size w w'))) (HC : Hid (∀ w, EsAt w a L → Calls Try.prog 37 #[.agg #[.int .i64 n, .slice a L.length cap]] w (fun e w' => e = .returned (.int .i64 0) ∧ Below w.heap.size w w'))) (HZ : Hid (∀ w, EsAt w a L → Calls Try.prog 35 #[.agg #[.int .i64 n, .slice a L.length cap]] w (fun e w' => e = .returned (.int .i64 S) ∧ Below w.heap.size w w'))) (w : World) (h : EsAt w a L) :
    Calls Try.prog 32 #[gv n a L.length cap, .int .i64 e] w (GivesB w (decide (e < S))) := by
  unfold GivesB gv
  obtain ⟨W, hW⟩ : ∃ W, W = w.alloc (Obj.cells #[.int .i64 n, .slice a L.length cap] 24) := ⟨_, rfl⟩
  have hB0 : Below w.heap.size w W := by rw [hW]; exact (Below.refl _ w).alloc (Nat.le_refl _) _
  have hG : Blk W w.heap.size 24 #[.int .i64 n, .slice a L.length cap] := by rw [hW]; exact Blk.new _ _ _
  have HW := Lib.hid hW
  have HB0 := Lib.hid hB0
  have hEz : EsAt W a L := h.keep hB0
  have HF : Hid (∀ x, Below W.heap.size W x → x.cell? ⟨w.heap.size, 0, none⟩ = some (.int .i64 n) ∧ x.cell? ⟨w.heap.size, 1, none⟩ = some (.slice a L.length cap) ∧ EsAt x a L) := Lib.hid fun x hx => ⟨(hG.below hx hG.lt).cell 0, (hG.below hx hG.lt).cell 1, hEz.keep hx⟩
  have hk0 : Below W.heap.size W W := Below.refl _ _
  obtain ⟨g0, g1, -⟩ := HF.out W hk0
  clear hB0 hG hW hEz h
  go_enter Try.func32, Try.ntmps32
  go_wp2_with fail
  rw [← HW.out]
  refine (HFW.out _ (HF.out W hk0).2.2).mono ?_
  rintro e x1 ⟨rfl, hb1⟩
  have hk1 : Below W.heap.size W x1 := hk0.trans (hb1.mono hk0.size)
  clear hb1 hk0 g0 g1
  obtain ⟨g0, g1, -⟩ := HF.out x1 hk1
  go_wp2_with fail
  refine (HC.out _ (HF.out x1 hk1).2.2).mono ?_
  rintro e x2 ⟨rfl, hb2⟩
  have hk2 : Below W.heap.size W x2 := hk1.trans (hb2.mono hk1.size)
  clear hb2 hk1 g0 g1
  obtain ⟨g0, g1, -⟩ := HF.out x2 hk2
  go_wp2_with fail
  refine (HZ.out _ (HF.out x2 hk2).2.2).mono ?_
  rintro e x3 ⟨rfl, hb3⟩
  have hk3 : Below W.heap.size W x3 := hk2.trans (hb3.mono hk2.size)
  clear hb3 hk2 g0 g1
  obtain ⟨g0, g1, -⟩ := HF.out x3 hk3
  have HEND := Lib.hid (HB0.out.trans (hk3.mono HB0.out.size))
  clear hk3 g0 g1
  go_wp2
  go_ret
  exact ⟨rfl, HEND.out⟩
theorem one_any (n : Int) (a : Option Addr) (cap : Nat) (L : List E) (e : Int) (w : World) (h : EsAt w a L) :
    Calls Try.prog 32 #[gv n a L.length cap, .int .i64 e] w (GivesB w (oneG n L e)) := by
  have HF : oneG n L e = (fewG n L && decide (chkG n L = 0) && decide (0 ≤ e) && decide (e < sizeG L)) := rfl
  have HFW := Lib.hid (fun w h => few_any n a cap L w h)
  unfold GivesB gv at HFW
  cases hf : fewG n L with
  | false =>
    rw [hf] at HF HFW
    rw [HF]
    exact one_dark n a cap L e HFW w h
  | true =>
    have hl := few_len hf
    rw [hf] at HF HFW
    by_cases hk : chkG n L = 0
    · have hR := right_of hk
      have HC : Hid (∀ w, EsAt w a L → Calls Try.prog 37 #[.agg #[.int .i64 n, .slice a L.length cap]] w (fun e w' => e = .returned (.int .i64 0) ∧ Below w.heap.size w w')) := Lib.hid fun w h => by have := rcheck_any n a cap L (by omega) w h; rw [hk] at this; exact this
      by_cases he : 0 ≤ e
      · rw [decide_eq_true hk, decide_eq_true he] at HF
        rw [HF]
        exact one_ok n a cap L e he (sizeG L) HFW HC (Lib.hid fun w h => rsize_any n a cap L (by omega) hR w h) w h
      · rw [decide_eq_false he] at HF
        rw [HF, Bool.and_false, Bool.false_and]
        exact one_low n a cap L e (by omega) HFW HC w h
    · rw [decide_eq_false hk] at HF
      rw [HF]
      exact one_err n a cap L e (chkG n L) hk HFW (Lib.hid fun w h => rcheck_any n a cap L (by omega) w h) w h
theorem few_ends {n : Int} {L : List E} (hf : fewG n L = true) (hk : chkG n L = 0) : (endsG L).length ≤ 9 := by
  have h1 := endsG_len (right_of hk).rng
  have h2 := few_size hf hk
  omega
theorem FewHid {n : Int} {a : Option Addr} {cap : Nat} {L : List E} {b : Bool} (h : fewG n L = b) : Hid (∀ w, EsAt w a L → Calls Try.prog 11 #[.agg #[.int .i64 n, .slice a L.length cap]] w (fun e w' => e = .returned (.bool b) ∧ Below w.heap.size w w')) :=
  Lib.hid fun w hE => by have := few_any n a cap L w hE; rw [h] at this; exact this
theorem nat_of_right {n : Int} {L : List E} (hk : chkG n L = 0) : ∃ N : Nat, n = N ∧ 1 ≤ N ∧ N ≤ 12 := by
  have := chkG_n hk
  exact ⟨n.toNat, by omega, by omega, by omega⟩
end Go.Proofs.Ytndjjafpdiehdaa

namespace Go.Proofs.Ytndjjafpdiehdaa
open Go.Proofs.Gr

theorem joinT_at (t : Nat → Nat → Int) (n x y : Nat) (hx : x < n) (hy : y < n) (hxy : x ≤ y) (h0 : 0 ≤ t x y) : bet x y (joinT t n n) = t x y := by
  by_cases h : 0 < t x y
  · have hm : (⟨x, y, t x y⟩ : E) ∈ joinT t n n := (joinT_mem _ _ _ _).2 ⟨x, y, hx, hy, hxy, h, rfl⟩
    obtain ⟨i, hi, he⟩ := mem_eAt hm
    rw [bet_first (joinT_asc t n n) i hi (by rw [← he]; exact ⟨rfl, rfl⟩), ← he]
  · rw [bet_none]
    · omega
    · intro e he hk
      obtain ⟨a, b, h1, h2, h3, h4, rfl⟩ := (joinT_mem _ _ _ _).1 he
      simp only at hk
      obtain ⟨k1, k2⟩ := hk
      obtain rfl : a = x := by omega
      obtain rfl : b = y := by omega
      exact h h4
/-- The graph made from ends. -/
def mkG (n : Nat) (Q : List (Int × Int)) : List E := joinT (cntT Q Q.length) n n
/-- Ends with the lesser one first. -/
def nrm (p : Int × Int) : Int × Int := (mnP p, mxP p)
def InN (n : Nat) (Q : List (Int × Int)) : Prop := ∀ p ∈ Q, (0 ≤ p.1 ∧ p.1 < (n : Int)) ∧ 0 ≤ p.2 ∧ p.2 < (n : Int)
/-- Ends of which a right graph can be made. -/
structure Fine (n : Nat) (Q : List (Int × Int)) : Prop where
  lo : 1 ≤ n
  hi : n ≤ 12
  rng : InN n Q
  few : ∀ x y, cntT Q Q.length x y ≤ 50
theorem fine_few {n : Nat} {Q : List (Int × Int)} (h0 : 1 ≤ n) (h1 : n ≤ 12) (h : InN n Q) (hl : Q.length ≤ 50) : Fine n Q :=
  ⟨h0, h1, h, fun x y => by have := (cntT_le Q Q.length x y).2; omega⟩
theorem mk_right {n : Nat} {Q : List (Int × Int)} (h : Fine n Q) : Right n (mkG n Q) := joinT_right _ _ h.lo h.hi h.few
theorem acc_count (Q : List (Int × Int)) (z : Int × Int) : accF (Q.map keyP) z = ((Q.map nrm).count z : Nat) := by
  induction Q with
  | nil => rfl
  | cons p r ih =>
    rw [List.map_cons, List.map_cons, accF, ih, List.count_cons]
    have e : (keyP p).1 = nrm p := rfl
    have e2 : (keyP p).2 = 1 := rfl
    rw [e, e2]
    by_cases h : nrm p = z
    · rw [if_pos h, if_pos (by simpa using h)]; omega
    · rw [if_neg h, if_neg (by simpa using h)]; omega
theorem nrm_id {p : Int × Int} (h : p.1 ≤ p.2) : nrm p = p := by
  obtain ⟨x, y⟩ := p
  unfold nrm mnP mxP
  simp only at h ⊢
  rw [if_neg (by omega)]
  congr 1
  split <;> omega
theorem ends_nrm {n : Int} {L : List E} (hR : Right n L) : (endsG L).map nrm = endsG L := by
  have : (endsG L).map nrm = (endsG L).map id := List.map_congr_left fun p hp => nrm_id (ends_rng hR.rng p hp).2.1
  rw [this, List.map_id]
theorem bet_count {n : Int} {L : List E} (hR : Right n L) (x y : Int) : bet x y L = ((endsG L).count (x, y) : Nat) := by
  rw [← ends_acc hR.rng, acc_count, ends_nrm hR]
theorem mk_bet {n : Nat} {Q : List (Int × Int)} (h : Fine n Q) (x y : Int) : bet x y (mkG n Q) = accF (Q.map keyP) (x, y) := by
  by_cases hz : 0 ≤ x ∧ x ≤ y ∧ y < n
  · obtain ⟨X, rfl⟩ := Int.eq_ofNat_of_zero_le hz.1
    obtain ⟨Y, rfl⟩ := Int.eq_ofNat_of_zero_le (show 0 ≤ y by omega)
    rw [← cnt_key Q h.rng]
    exact joinT_at _ n X Y (by omega) (by omega) (by omega) (cntT_le Q Q.length X Y).1
  · rw [bet_none fun e he hk => hz (by have := (mk_right h).rng e he; omega)]
    have h1 := accF_nonneg (Q.map keyP) (key_one Q) (x, y)
    by_cases h2 : 0 < accF (Q.map keyP) (x, y)
    · exfalso
      obtain ⟨u, hu, hk⟩ := (accF_pos (Q.map keyP) (key_one Q) (x, y)).1 h2
      obtain ⟨p, hp, rfl⟩ := List.mem_map.1 hu
      have h3 := h.rng p hp
      have h4 := mn_mx p
      have h5 : mnP p = x ∧ mxP p = y := by simpa [keyP] using hk
      omega
    · omega
/-- The ends of the graph that is made. -/
theorem ends_mk {n : Nat} {Q : List (Int × Int)} (h : Fine n Q) : (endsG (mkG n Q)).Perm (Q.map nrm) := by
  rw [List.perm_iff_count]
  rintro ⟨x, y⟩
  have h1 := bet_count (mk_right h) x y
  rw [mk_bet h, acc_count] at h1
  omega
theorem size_mk {n : Nat} {Q : List (Int × Int)} (h : Fine n Q) : sizeG (mkG n Q) = Q.length := by
  rw [← endsG_len (mk_right h).rng, (ends_mk h).length_eq, List.length_map]
theorem ends_mk_len {n : Nat} {Q : List (Int × Int)} (h : Fine n Q) : (endsG (mkG n Q)).length = Q.length := by
  rw [(ends_mk h).length_eq, List.length_map]
/-- The same ends, the same graph. -/
theorem mk_congr {n : Nat} {Q R : List (Int × Int)} (hQ : InN n Q) (hR : InN n R) (h : (Q.map nrm).Perm (R.map nrm)) : mkG n Q = mkG n R := by
  unfold mkG
  refine joinT_congr _ _ n n fun a b _ _ _ => ?_
  rw [cnt_key Q hQ, cnt_key R hR, acc_count, acc_count, h.count_eq]
theorem mk_self {N : Nat} {L : List E} (hR : Right N L) : mkG N (endsG L) = L := by
  unfold mkG
  refine (joinT_congr _ (fun a b => bet a b L) N N fun a b h1 h2 h3 => ?_).trans (joinT_bet hR)
  rw [cnt_key (endsG L) (ends_in hR), ends_acc hR.rng]
/-- Two vertices that a single edge joins. -/
def Adj (P : List (Int × Int)) (u v : Nat) : Prop := ∃ p ∈ P, (p.1 = u ∧ p.2 = v) ∨ (p.1 = v ∧ p.2 = u)
theorem eG_adj {n : Int} {L : List E} (hR : Right n L) (u v : Nat) : eG L u v = true ↔ Adj (endsG L) u v := by
  unfold eG betw
  rw [decide_eq_true_iff, bet_count hR]
  have h1 : ((0 : Int) < ((endsG L).count (min (u : Int) v, max (u : Int) v) : Nat)) ↔ (min (u : Int) v, max (u : Int) v) ∈ endsG L := by
    rw [← List.count_pos_iff]; omega
  rw [h1]
  constructor
  · intro h
    refine ⟨_, h, ?_⟩
    simp only
    omega
  · rintro ⟨p, hp, h⟩
    have h2 := ends_rng hR.rng p hp
    have : p = (min (u : Int) v, max (u : Int) v) := by
      obtain ⟨x, y⟩ := p
      simp only at h h2
      rw [Prod.mk.injEq]
      omega
    rw [← this]; exact hp
theorem adj_perm {P Q : List (Int × Int)} (h : P.Perm (Q.map nrm)) (u v : Nat) : Adj P u v ↔ Adj Q u v := by
  unfold Adj
  constructor
  · rintro ⟨p, hp, hk⟩
    obtain ⟨q, hq, rfl⟩ := List.mem_map.1 (h.mem_iff.1 hp)
    refine ⟨q, hq, ?_⟩
    have := mn_mx q
    simp only [nrm] at hk
    omega
  · rintro ⟨q, hq, hk⟩
    refine ⟨nrm q, h.mem_iff.2 (List.mem_map.2 ⟨q, hq, rfl⟩), ?_⟩
    have := mn_mx q
    simp only [nrm]
    omega
theorem eG_mk {n : Nat} {Q : List (Int × Int)} (h : Fine n Q) (u v : Nat) : eG (mkG n Q) u v = true ↔ Adj Q u v := by
  rw [eG_adj (mk_right h), adj_perm (ends_mk h)]
/-- One graph has at most as many parts as another one, if its vertices go there and what is joined there is joined here. -/
theorem parts_le2 {J L : List E} {n m : Nat} (σ : Nat → Nat) (hσ : ∀ u, u < n → σ u < m) (hJL : ∀ u v, u < n → v < n → Cn (eG L) m (σ u) (σ v) → Cn (eG J) n u v) : partsR J n ≤ partsR L m := by
  obtain ⟨p, hp, hpl⟩ := parts_least J n
  obtain ⟨q, hq, hql⟩ := parts_least L m
  rw [hp, hq, cntB_filter, cntB_filter]
  have least : ∀ r, r < m → ∃ s, s < m ∧ Cn (eG L) m s r ∧ q s = true := by
    intro r hr
    have : ∀ k, k ≤ r → (∃ s, s < m ∧ Cn (eG L) m s r ∧ ∀ u, u < s → ¬ Cn (eG L) m u r) ∨ ∀ u, u < k → ¬ Cn (eG L) m u r := by
      intro k hk
      induction k with
      | zero => exact .inr fun u hu => by omega
      | succ k ih =>
        rcases ih (by omega) with h1 | h1
        · exact .inl h1
        · by_cases h2 : Cn (eG L) m k r
          · exact .inl ⟨k, by omega, h2, h1⟩
          · refine .inr fun u hu => ?_
            by_cases e : u = k
            · subst e; exact h2
            · exact h1 u (by omega)
    rcases this r (Nat.le_refl _) with ⟨s, h1, h2, h3⟩ | h1
    · exact ⟨s, h1, h2, (hql s h1).2 fun u hu hk => h3 u hu (hk.trans h2)⟩
    · exact ⟨r, hr, .refl, (hql r hr).2 fun u hu hk => h1 u hu hk⟩
  have hch : ∀ s : Nat, ∃ t : Nat, s < n → t < m ∧ Cn (eG L) m t (σ s) ∧ q t = true := fun s => by
    by_cases hm : s < n
    · obtain ⟨t, ht⟩ := least (σ s) (hσ s hm)
      exact ⟨t, fun _ => ht⟩
    · exact ⟨0, fun h => absurd h hm⟩
  obtain ⟨f, hf⟩ := Classical.axiomOfChoice hch
  rw [← show (((List.range n).filter p).map f).length = ((List.range n).filter p).length from List.length_map _]
  refine len_le _ _ ?_ fun x hx => ?_
  · rw [List.pairwise_map]
    refine List.Pairwise.imp_of_mem ?_ ((List.pairwise_lt_range (n := n)).filter _)
    intro a b ha hb hab e
    have ha' : a < n ∧ p a = true := by simpa using ha
    have hb' : b < n ∧ p b = true := by simpa using hb
    have fa := hf a ha'.1
    have fb := hf b hb'.1
    rw [e] at fa
    exact (hpl b hb'.1).1 hb'.2 a hab (hJL a b ha'.1 hb'.1 ((fa.2.1.symm (eG_symm L)).trans fb.2.1))
  · obtain ⟨s, hm, rfl⟩ := List.mem_map.1 hx
    have hm' : s < n ∧ p s = true := by simpa using hm
    have fm := hf s hm'.1
    simpa using ⟨fm.1, fm.2.2⟩
theorem mgF_same {p : Int × Int} {u v : Int} (h : mgF p u = mgF p v) : u = v ∨ (u = p.1 ∧ v = p.2) ∨ (u = p.2 ∧ v = p.1) := by
  have := mn_mx p
  unfold mgF at h
  split at h <;> split at h <;> (try split at h) <;> (try split at h) <;> omega
theorem mgF_ends (p : Int × Int) : mgF p p.1 = mgF p p.2 := by
  have := mn_mx p
  unfold mgF
  split <;> split <;> (try split) <;> (try split) <;> omega
theorem mem_drop_or {α : Type} (P : List α) (e : Nat) (he : e < P.length) {p : α} (hp : p ∈ P) : p = P[e] ∨ p ∈ dropP P e := by
  have := (dropP_perm P e he).mem_iff.1 hp
  simpa using this
theorem mvF_adj (f : Int → Int) (p : Int × Int) (u v : Nat) : ((mvF f p).1 = u ∧ (mvF f p).2 = v ∨ (mvF f p).1 = v ∧ (mvF f p).2 = u) ↔ (f p.1 = u ∧ f p.2 = v ∨ f p.1 = v ∧ f p.2 = u) := by
  have := mn_mx (f p.1, f p.2)
  unfold mvF
  simp only at this ⊢
  omega
/-- Contracting keeps the number of components. -/
theorem parts_con {N : Nat} {L : List E} (hR : Right N L) (e : Nat) (he : e < (endsG L).length) (M : Nat) (hM : mgF (pAt (endsG L) e) N = M) (hF : Fine M (mvP (mgF (pAt (endsG L) e)) (dropP (endsG L) e))) : partsR (mkG M (mvP (mgF (pAt (endsG L) e)) (dropP (endsG L) e))) M = partsR L N := by
  have hpe : pAt (endsG L) e ∈ endsG L := by rw [← pAt_get _ e he]; exact List.getElem_mem he
  have hin := ends_in hR
  have hp := hin _ hpe
  have hmem : ∀ q ∈ endsG L, q = pAt (endsG L) e ∨ q ∈ dropP (endsG L) e := fun q hq => by
    have := mem_drop_or (endsG L) e he hq
    rwa [pAt_get] at this
  have hsub : ∀ q ∈ dropP (endsG L) e, q ∈ endsG L := fun q hq => dropP_mem hq
  have hadj := eG_adj hR
  have hadj2 := eG_mk hF
  generalize dropP (endsG L) e = D at *
  generalize pAt (endsG L) e = p at *
  have hfr := fun v hv => mgF_rng hp.1 hp.2 v hv
  rw [hM] at hfr
  have hn := mgF_n hp.1 hp.2
  rw [hM] at hn
  -- what is joined stays so
  have hone : ∀ u v, u < N → v < N → Cn (eG L) N u v → Cn (eG (mkG M (mvP (mgF p) D))) M (mgF p u).toNat (mgF p v).toNat := by
    intro u v hu hv h
    induction h with
    | refl => exact .refl
    | @step x y _ h1 h2 h3 ih =>
      have ax := hfr x (by omega)
      have ay := hfr y (by omega)
      obtain ⟨q, hq, hk⟩ := (hadj x y).1 h3
      rcases hmem q hq with rfl | hd
      · have := mgF_ends q
        have e2 : mgF q x = mgF q y := by
          rcases hk with ⟨k1, k2⟩ | ⟨k1, k2⟩
          · rw [← k1, ← k2]; exact this
          · rw [← k1, ← k2]; exact this.symm
        rw [← e2]; exact ih h1
      · refine .step (ih h1) (by omega) (by omega) ((hadj2 _ _).2 ⟨mvF (mgF p) q, List.mem_map.2 ⟨q, hd, rfl⟩, (mvF_adj _ _ _ _).2 ?_⟩)
        rw [Int.toNat_of_nonneg ax.1, Int.toNat_of_nonneg ay.1]
        rcases hk with ⟨k1, k2⟩ | ⟨k1, k2⟩
        · left; rw [k1, k2]; exact ⟨rfl, rfl⟩
        · right; rw [k1, k2]; exact ⟨rfl, rfl⟩
  -- what becomes one is joined
  have hjoin : ∀ u v : Nat, u < N → v < N → mgF p u = mgF p v → Cn (eG L) N u v := by
    intro u v hu hv h
    rcases mgF_same h with h | h | h
    · obtain rfl : u = v := by omega
      exact .refl
    · exact .step .refl hu hv ((hadj u v).2 ⟨p, hpe, .inl ⟨h.1.symm, h.2.symm⟩⟩)
    · exact .step .refl hu hv ((hadj u v).2 ⟨p, hpe, .inr ⟨h.2.symm, h.1.symm⟩⟩)
  have htwo : ∀ u : Nat, u < N → ∀ z, Cn (eG (mkG M (mvP (mgF p) D))) M (mgF p u).toNat z → ∀ v : Nat, v < N → mgF p v = z → Cn (eG L) N u v := by
    intro u hu z h
    induction h with
    | refl =>
      intro v hv hz
      have := hfr u (by omega)
      exact hjoin u v hu hv (by omega)
    | @step x y _ h1 h2 h3 ih =>
      intro v hv hz
      obtain ⟨q', hq', hk⟩ := (hadj2 x y).1 h3
      obtain ⟨q, hq, rfl⟩ := List.mem_map.1 hq'
      have hk := (mvF_adj _ _ _ _).1 hk
      have hqr := hin q (hsub q hq)
      obtain ⟨s, hs⟩ := Int.eq_ofNat_of_zero_le hqr.1.1
      obtain ⟨t, ht⟩ := Int.eq_ofNat_of_zero_le hqr.2.1
      rw [hs, ht] at hk hqr
      rcases hk with ⟨k1, k2⟩ | ⟨k1, k2⟩
      · exact ((ih s (by omega) k1).step (by omega) (by omega) ((hadj s t).2 ⟨q, hsub q hq, .inl ⟨hs, ht⟩⟩)).trans (hjoin t v (by omega) hv (by rw [k2, hz]))
      · exact ((ih t (by omega) k2).step (by omega) (by omega) ((hadj t s).2 ⟨q, hsub q hq, .inr ⟨hs, ht⟩⟩)).trans (hjoin s v (by omega) hv (by rw [k1, hz]))
  refine Nat.le_antisymm ?_ ?_
  · -- a vertex of each new one
    have hg : ∀ w : Nat, w < M → ∃ g : Nat, g < N ∧ mgF p g = w := by
      intro w hw
      have h1 := mn_mx p
      by_cases hx : p.1 = p.2
      · exact ⟨w, by rw [if_pos hx] at hn; omega, mgF_eq hx _⟩
      · rw [if_neg hx] at hn
        by_cases hlt : (w : Int) < mxP p
        · exact ⟨w, by omega, by unfold mgF; rw [if_pos (.inl hlt)]⟩
        · refine ⟨w + 1, by omega, ?_⟩
          unfold mgF
          rw [if_neg (by omega), if_neg (by omega)]; omega
    have hch : ∀ w : Nat, ∃ g : Nat, w < M → g < N ∧ mgF p g = w := fun w => by
      by_cases hw : w < M
      · obtain ⟨g, hg⟩ := hg w hw
        exact ⟨g, fun _ => hg⟩
      · exact ⟨0, fun h => absurd h hw⟩
    obtain ⟨g, hg⟩ := Classical.axiomOfChoice hch
    refine parts_le2 g (fun u hu => (hg u hu).1) fun u v hu hv h => ?_
    have := hone _ _ (hg u hu).1 (hg v hv).1 h
    rwa [(hg u hu).2, (hg v hv).2, Int.toNat_natCast, Int.toNat_natCast] at this
  · refine parts_le2 (fun u => (mgF p u).toNat) (fun u hu => by have := hfr u (by omega); omega) fun u v hu hv h => ?_
    exact htwo u hu _ h v hv (by have := hfr v (by omega); omega)
end Go.Proofs.Ytndjjafpdiehdaa

namespace Go.Proofs.Ytndjjafpdiehdaa
open Go.RowKit Go.Shelf Go.Proofs.Gr
attribute [local go_sem] Oper.semAt_some

/-- Two own lists lie apart. -/
def OwnApart (s t : Value) : Prop := ∀ k, s.ownBlock = some k → t.ownBlock = some k → False
theorem OwnApart.nil {t : Value} : OwnApart (.slice none 0 0) t := fun _ h => by cases h
theorem OwnApart.symm {s t : Value} (h : OwnApart s t) : OwnApart t s := fun k a b => h k b a
theorem own_far {w w' : World} {row : Option Nat} {B : Nat} {e : TypeId} {z : Nat} {v : Value} {n : Nat} {xs : List Value} (h : w.ownsRow B e z v n xs) (hg : w.grownBy w' row) (hne : ∀ k, v.ownBlock = some k → row ≠ some k) : w'.ownsRow B e z v n xs := by
  refine ⟨h.1, h.2.imp id ?_⟩
  rintro ⟨g, cap, cur, hv, hb, hc, hr⟩
  refine ⟨g, cap, cur, hv, hb, ?_, hr⟩
  have hlt : g < w.heap.size := by
    rcases Nat.lt_or_ge g w.heap.size with h | h
    · exact h
    · rw [Array.getElem?_eq_none h] at hc; cases hc
  rw [hg.block g hlt (fun e => hne g (by rw [hv]; rfl) e.symm)]; exact hc
theorem OwnApart.new {w : World} {B : Nat} {e : TypeId} {z : Nat} {s t : Value} {n : Nat} {xs : List Value} (hs : w.ownsRow B e z s n xs) (h : OwnApart s t) (g H : Nat) (hl : t.ownBlock = some g ∨ g = H) (hH : w.heap.size ≤ H) (n' c' : Nat) : OwnApart s (.slice (some ⟨g, 0, none⟩) n' c') := by
  intro k h1 h2
  have h3 : g = k := by simpa [Value.ownBlock] using h2
  rcases hl with hl | hl
  · exact h k h1 (by rw [hl, h3])
  · have := (hs.lt k h1).2; omega

theorem degS_le {n : Int} {L : List E} (h : ∀ e ∈ L, 0 ≤ e.a ∧ e.a ≤ e.b ∧ e.b < n ∧ 1 ≤ e.m ∧ e.m ≤ 50) (S : List Int) : 0 ≤ sumL (degS S) L ∧ sumL (degS S) L ≤ 2 * sizeG L := by
  unfold sizeG
  induction L with
  | nil => exact ⟨Int.le_refl 0, Int.le_refl 0⟩
  | cons e r ih =>
    have h1 := ih (fun x hx => h x (by simp [hx]))
    have h2 := h e (by simp)
    have h3 : 0 ≤ degS S e ∧ degS S e ≤ 2 * e.m := by
      unfold degS
      cases S.contains e.a <;> cases S.contains e.b <;> simp <;> omega
    rw [sumL, sumL]; omega
theorem cut_nil {n : Int} {L : List E} (h : ∀ e ∈ L, 0 ≤ e.a ∧ e.a ≤ e.b ∧ e.b < n ∧ 1 ≤ e.m ∧ e.m ≤ 50) : cutG L [] = [] := by
  have h1 := cut_count h []
  have h2 : sumL (fun e => if outB [] (e.a, e.b) = true then e.m else 0) L = 0 := by
    clear h h1
    induction L with
    | nil => rfl
    | cons e r ih => rw [sumL, ih]; simp [outB]
  exact List.length_eq_zero_iff.1 (by omega)
end Go.Proofs.Ytndjjafpdiehdaa
