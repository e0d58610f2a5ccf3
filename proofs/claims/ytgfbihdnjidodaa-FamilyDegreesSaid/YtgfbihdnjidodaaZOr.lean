/- The degrees of the vertices of kinds. -/
import Derived.Test.YtgfbihdnjidodaaQ18
import Derived.Test.YtgfbihdnjidodaaQ04
namespace Go.Proofs.Ytgfbihdnjidodaa
open Go.RowKit Go.Shelf Go.Proofs.Gr
attribute [local go_sem] Oper.semAt_some

/-- What is claimed of the degrees. -/
def degOK (kind : Nat) (L : List Int) (fi inn re : Int) : Bool := decide (famE kind L = 0) && decide (chkG (famN kind L : Nat) (famJ kind L) = 0) && decide (0 ≤ fi) && decide (fi ≤ (famN kind L : Nat)) && (List.range (famN kind L)).all fun v => decide (valZ (v : Int) (famJ kind L) (famN kind L) + 2 * betw (v : Int) (v : Int) (famJ kind L) = if (v : Int) < fi then inn else re)
set_option maxRecDepth 100000 in
theorem deg_all : ∀ r s : Fin 6, degOK 1 [1 + (r.1 : Int)] 0 0 2 = true ∧ degOK 3 [1 + (r.1 : Int)] 0 0 (1 + (r.1 : Int) - 1) = true ∧ degOK 4 [1 + (r.1 : Int)] 0 0 (1 + (r.1 : Int)) = true ∧ degOK 5 [1 + (r.1 : Int)] 1 (1 + (r.1 : Int)) 3 = true ∧ degOK 6 [1 + (r.1 : Int), 1 + (s.1 : Int)] (1 + (r.1 : Int)) (1 + (s.1 : Int)) (1 + (r.1 : Int)) = true ∧ degOK 2 [1 + (r.1 : Int)] 1 (1 + (r.1 : Int)) 1 = true := by decide +kernel
theorem degOK_of {kind : Nat} {L : List Int} {fi inn re : Int} (h : degOK kind L fi inn re = true) : famE kind L = 0 ∧ chkG (famN kind L : Nat) (famJ kind L) = 0 ∧ 0 ≤ fi ∧ fi ≤ (famN kind L : Nat) ∧ ∀ v : Nat, v < famN kind L → valZ (v : Int) (famJ kind L) (famN kind L) + 2 * betw (v : Int) (v : Int) (famJ kind L) = if (v : Int) < fi then inn else re := by
  unfold degOK at h
  simp only [Bool.and_eq_true, decide_eq_true_eq, List.all_eq_true, List.mem_range] at h
  exact ⟨h.1.1.1.1, h.1.1.1.2, h.1.1.2, h.1.2, h.2⟩
set_option maxHeartbeats 12800000 in
set_option maxRecDepth 100000 in
theorem degrees_walk (n m k l km : Int) (r s : Nat) (hn : n.tmod 6 = (r : Int)) (hm : m.tmod 6 = (s : Int)) (hk : 1 + (r : Int) = k) (hl : 1 + (s : Int) = l) (hkm : k - 1 = km) (hr : r < 6) (hs : s < 6) (h0 : 0 ≤ n) (h1 : n ≤ 255) (h2 : 0 ≤ m) (h3 : m ≤ 255) (N : Nat → Nat) (J : Nat → List E) (KD : Nat → Nat) (S : Nat → List Int) (FI IN RE : Nat → Int)
    (hKD : ∀ i, i < 6 → KD i = (fun i : Nat => if i = 0 then 1 else if i = 1 then 3 else if i = 2 then 4 else if i = 3 then 5 else if i = 4 then 6 else 2) i) (hS : ∀ i, i < 6 → S i = (fun i : Nat => if i = 0 then [k] else if i = 1 then [k] else if i = 2 then [k] else if i = 3 then [k] else if i = 4 then [k, l] else [k]) i) (hFI : ∀ i, i < 6 → FI i = (fun i : Nat => if i = 0 then 0 else if i = 1 then 0 else if i = 2 then 0 else if i = 3 then 1 else if i = 4 then k else 1) i) (hIN : ∀ i, i < 6 → IN i = (fun i : Nat => if i = 0 then 0 else if i = 1 then 0 else if i = 2 then 0 else if i = 3 then k else if i = 4 then l else k) i) (hRE : ∀ i, i < 6 → RE i = (fun i : Nat => if i = 0 then 2 else if i = 1 then km else if i = 2 then k else if i = 3 then 3 else if i = 4 then k else 1) i)
    (hN : ∀ i, i < 6 → N i ≤ 12 ∧ 0 ≤ FI i ∧ FI i ≤ (N i : Int))
    (hM : ∀ i, i < 6 → ∀ p cp w, IsAt w p (S i) → Calls Try.prog 12 #[.int .i64 (KD i : Nat), .slice p (S i).length cp] w (fun e x => ∃ a c, e = .returned (.tuple #[.agg #[.int .i64 (N i : Nat), .slice a (J i).length c], .int .i64 0]) ∧ EsAt x a (J i) ∧ Below w.heap.size w x))
    (hC : ∀ i, i < 6 → ∀ a c w, EsAt w a (J i) → Calls Try.prog 16 #[.agg #[.int .i64 (N i : Nat), .slice a (J i).length c]] w (fun e x => e = .returned (.int .i64 0) ∧ Below w.heap.size w x))
    (hD : ∀ i, i < 6 → ∀ v : Nat, v < N i → ∀ a c w, EsAt w a (J i) → Calls Try.prog 24 #[.agg #[.int .i64 (N i : Nat), .slice a (J i).length c], .int .i64 v] w (fun e x => e = .returned (.int .i64 (if (v : Int) < FI i then IN i else RE i)) ∧ Below w.heap.size w x))
    (w : World) : Calls Try.prog 7 #[.int .u8 n, .int .u8 m] w (fun e x => e = .returned (.bool true) ∧ Below w.heap.size w x) := by
  have HA := Lib.hid (fun w => awakeF_any w)
  have e2 : IntKind.i64.wrap k = k := IntWalk.i64_in _ (by omega)
  have e3 : IntKind.i64.wrap l = l := IntWalk.i64_in _ (by omega)
  have e4 : IntKind.i64.wrap km = km := IntWalk.i64_in _ (by omega)
  have HM := Lib.hid hM
  have HC := Lib.hid hC
  have HD := Lib.hid hD
  have HN := Lib.hid hN
  obtain ⟨Y, hY⟩ : ∃ Y, Y = (((((((w).alloc (Obj.cells #[.int .i64 k] 3)).alloc (Obj.cells #[.int .i64 k] 3)).alloc (Obj.cells #[.int .i64 k] 3)).alloc (Obj.cells #[.int .i64 k] 3)).alloc (Obj.cells #[.int .i64 k, .int .i64 l] 3)).alloc (Obj.cells #[.int .i64 k] 3)).alloc (Obj.cells #[.int .i64 1, .slice (some ⟨w.heap.size, 0, none⟩) 1 1, .int .i64 0, .int .i64 0, .int .i64 2, .int .i64 3, .slice (some ⟨w.heap.size + 1, 0, none⟩) 1 1, .int .i64 0, .int .i64 0, .int .i64 km, .int .i64 4, .slice (some ⟨w.heap.size + 1 + 1, 0, none⟩) 1 1, .int .i64 0, .int .i64 0, .int .i64 k, .int .i64 5, .slice (some ⟨w.heap.size + 1 + 1 + 1, 0, none⟩) 1 1, .int .i64 1, .int .i64 k, .int .i64 3, .int .i64 6, .slice (some ⟨w.heap.size + 1 + 1 + 1 + 1, 0, none⟩) 2 2, .int .i64 k, .int .i64 l, .int .i64 k, .int .i64 2, .slice (some ⟨w.heap.size + 1 + 1 + 1 + 1 + 1, 0, none⟩) 1 1, .int .i64 1, .int .i64 k, .int .i64 1] 46) := ⟨_, rfl⟩
  have hBY : Below w.heap.size w Y := by
    rw [hY]
    exact ((((((((Below.refl _ w).alloc (Nat.le_refl _) _).alloc (by simp) _).alloc (by simp; omega) _).alloc (by simp; omega) _).alloc (by simp; omega) _).alloc (by simp; omega) _).alloc (by simp; omega) _)
  have hYs : Y.heap.size = w.heap.size + 7 := by rw [hY]; simp
  have hTB : Blk Y (w.heap.size + 1 + 1 + 1 + 1 + 1 + 1) 46 #[.int .i64 1, .slice (some ⟨w.heap.size, 0, none⟩) 1 1, .int .i64 0, .int .i64 0, .int .i64 2, .int .i64 3, .slice (some ⟨w.heap.size + 1, 0, none⟩) 1 1, .int .i64 0, .int .i64 0, .int .i64 km, .int .i64 4, .slice (some ⟨w.heap.size + 1 + 1, 0, none⟩) 1 1, .int .i64 0, .int .i64 0, .int .i64 k, .int .i64 5, .slice (some ⟨w.heap.size + 1 + 1 + 1, 0, none⟩) 1 1, .int .i64 1, .int .i64 k, .int .i64 3, .int .i64 6, .slice (some ⟨w.heap.size + 1 + 1 + 1 + 1, 0, none⟩) 2 2, .int .i64 k, .int .i64 l, .int .i64 k, .int .i64 2, .slice (some ⟨w.heap.size + 1 + 1 + 1 + 1 + 1, 0, none⟩) 1 1, .int .i64 1, .int .i64 k, .int .i64 1] := by
    rw [hY]
    have := Blk.new (((((((w).alloc (Obj.cells #[.int .i64 k] 3)).alloc (Obj.cells #[.int .i64 k] 3)).alloc (Obj.cells #[.int .i64 k] 3)).alloc (Obj.cells #[.int .i64 k] 3)).alloc (Obj.cells #[.int .i64 k, .int .i64 l] 3)).alloc (Obj.cells #[.int .i64 k] 3)) 46 #[.int .i64 1, .slice (some ⟨w.heap.size, 0, none⟩) 1 1, .int .i64 0, .int .i64 0, .int .i64 2, .int .i64 3, .slice (some ⟨w.heap.size + 1, 0, none⟩) 1 1, .int .i64 0, .int .i64 0, .int .i64 km, .int .i64 4, .slice (some ⟨w.heap.size + 1 + 1, 0, none⟩) 1 1, .int .i64 0, .int .i64 0, .int .i64 k, .int .i64 5, .slice (some ⟨w.heap.size + 1 + 1 + 1, 0, none⟩) 1 1, .int .i64 1, .int .i64 k, .int .i64 3, .int .i64 6, .slice (some ⟨w.heap.size + 1 + 1 + 1 + 1, 0, none⟩) 2 2, .int .i64 k, .int .i64 l, .int .i64 k, .int .i64 2, .slice (some ⟨w.heap.size + 1 + 1 + 1 + 1 + 1, 0, none⟩) 1 1, .int .i64 1, .int .i64 k, .int .i64 1]
    rwa [show (((((((w).alloc (Obj.cells #[.int .i64 k] 3)).alloc (Obj.cells #[.int .i64 k] 3)).alloc (Obj.cells #[.int .i64 k] 3)).alloc (Obj.cells #[.int .i64 k] 3)).alloc (Obj.cells #[.int .i64 k, .int .i64 l] 3)).alloc (Obj.cells #[.int .i64 k] 3)).heap.size = w.heap.size + 1 + 1 + 1 + 1 + 1 + 1 by simp] at this
  have hr0 : IsAt Y (some ⟨w.heap.size, 0, none⟩) [k] := by
    have h9 := Blk.new (w) 3 #[.int .i64 k]
    
    have h8 : Blk Y (w.heap.size) 3 #[.int .i64 k] := by rw [hY]; exact ((((((h9).alloc _).alloc _).alloc _).alloc _).alloc _).alloc _
    exact RowAt.of_blkF (k := 1) (enc := encI) encI_len h8 rfl
  have hr1 : IsAt Y (some ⟨w.heap.size + 1, 0, none⟩) [k] := by
    have h9 := Blk.new ((w).alloc (Obj.cells #[.int .i64 k] 3)) 3 #[.int .i64 k]
    rw [show ((w).alloc (Obj.cells #[.int .i64 k] 3)).heap.size = w.heap.size + 1 by simp] at h9
    have h8 : Blk Y (w.heap.size + 1) 3 #[.int .i64 k] := by rw [hY]; exact (((((h9).alloc _).alloc _).alloc _).alloc _).alloc _
    exact RowAt.of_blkF (k := 1) (enc := encI) encI_len h8 rfl
  have hr2 : IsAt Y (some ⟨w.heap.size + 2, 0, none⟩) [k] := by
    have h9 := Blk.new (((w).alloc (Obj.cells #[.int .i64 k] 3)).alloc (Obj.cells #[.int .i64 k] 3)) 3 #[.int .i64 k]
    rw [show (((w).alloc (Obj.cells #[.int .i64 k] 3)).alloc (Obj.cells #[.int .i64 k] 3)).heap.size = w.heap.size + 2 by simp] at h9
    have h8 : Blk Y (w.heap.size + 2) 3 #[.int .i64 k] := by rw [hY]; exact ((((h9).alloc _).alloc _).alloc _).alloc _
    exact RowAt.of_blkF (k := 1) (enc := encI) encI_len h8 rfl
  have hr3 : IsAt Y (some ⟨w.heap.size + 3, 0, none⟩) [k] := by
    have h9 := Blk.new ((((w).alloc (Obj.cells #[.int .i64 k] 3)).alloc (Obj.cells #[.int .i64 k] 3)).alloc (Obj.cells #[.int .i64 k] 3)) 3 #[.int .i64 k]
    rw [show ((((w).alloc (Obj.cells #[.int .i64 k] 3)).alloc (Obj.cells #[.int .i64 k] 3)).alloc (Obj.cells #[.int .i64 k] 3)).heap.size = w.heap.size + 3 by simp] at h9
    have h8 : Blk Y (w.heap.size + 3) 3 #[.int .i64 k] := by rw [hY]; exact (((h9).alloc _).alloc _).alloc _
    exact RowAt.of_blkF (k := 1) (enc := encI) encI_len h8 rfl
  have hr4 : IsAt Y (some ⟨w.heap.size + 4, 0, none⟩) [k, l] := by
    have h9 := Blk.new (((((w).alloc (Obj.cells #[.int .i64 k] 3)).alloc (Obj.cells #[.int .i64 k] 3)).alloc (Obj.cells #[.int .i64 k] 3)).alloc (Obj.cells #[.int .i64 k] 3)) 3 #[.int .i64 k, .int .i64 l]
    rw [show (((((w).alloc (Obj.cells #[.int .i64 k] 3)).alloc (Obj.cells #[.int .i64 k] 3)).alloc (Obj.cells #[.int .i64 k] 3)).alloc (Obj.cells #[.int .i64 k] 3)).heap.size = w.heap.size + 4 by simp] at h9
    have h8 : Blk Y (w.heap.size + 4) 3 #[.int .i64 k, .int .i64 l] := by rw [hY]; exact ((h9).alloc _).alloc _
    exact RowAt.of_blkF (k := 1) (enc := encI) encI_len h8 rfl
  have hr5 : IsAt Y (some ⟨w.heap.size + 5, 0, none⟩) [k] := by
    have h9 := Blk.new ((((((w).alloc (Obj.cells #[.int .i64 k] 3)).alloc (Obj.cells #[.int .i64 k] 3)).alloc (Obj.cells #[.int .i64 k] 3)).alloc (Obj.cells #[.int .i64 k] 3)).alloc (Obj.cells #[.int .i64 k, .int .i64 l] 3)) 3 #[.int .i64 k]
    rw [show ((((((w).alloc (Obj.cells #[.int .i64 k] 3)).alloc (Obj.cells #[.int .i64 k] 3)).alloc (Obj.cells #[.int .i64 k] 3)).alloc (Obj.cells #[.int .i64 k] 3)).alloc (Obj.cells #[.int .i64 k, .int .i64 l] 3)).heap.size = w.heap.size + 5 by simp] at h9
    have h8 : Blk Y (w.heap.size + 5) 3 #[.int .i64 k] := by rw [hY]; exact (h9).alloc _
    exact RowAt.of_blkF (k := 1) (enc := encI) encI_len h8 rfl
  have HT : Hid (∀ i, i < 6 → ∀ x, Below Y.heap.size Y x → x.cell? ⟨w.heap.size + 1 + 1 + 1 + 1 + 1 + 1, i * 5, none⟩ = some (.int .i64 (KD i : Nat)) ∧ x.cell? ⟨w.heap.size + 1 + 1 + 1 + 1 + 1 + 1, i * 5 + 1, none⟩ = some (.slice (some ⟨w.heap.size + i, 0, none⟩) (S i).length (S i).length) ∧ x.cell? ⟨w.heap.size + 1 + 1 + 1 + 1 + 1 + 1, i * 5 + 2, none⟩ = some (.int .i64 (FI i)) ∧ x.cell? ⟨w.heap.size + 1 + 1 + 1 + 1 + 1 + 1, i * 5 + 3, none⟩ = some (.int .i64 (IN i)) ∧ x.cell? ⟨w.heap.size + 1 + 1 + 1 + 1 + 1 + 1, i * 5 + 4, none⟩ = some (.int .i64 (RE i)) ∧ IsAt x (some ⟨w.heap.size + i, 0, none⟩) (S i)) := Lib.hid (fun i hi x hx => by
    have hb9 := hTB.below hx hTB.lt
    rw [hKD i hi, hS i hi, hFI i hi, hIN i hi, hRE i hi]
    have h9 : i = 0 ∨ i = 1 ∨ i = 2 ∨ i = 3 ∨ i = 4 ∨ i = 5 := by omega
    rcases h9 with rfl | rfl | rfl | rfl | rfl | rfl
    · exact ⟨hb9.cell 0, hb9.cell 1, hb9.cell 2, hb9.cell 3, hb9.cell 4, hr0.keep hx⟩
    · exact ⟨hb9.cell 5, hb9.cell 6, hb9.cell 7, hb9.cell 8, hb9.cell 9, hr1.keep hx⟩
    · exact ⟨hb9.cell 10, hb9.cell 11, hb9.cell 12, hb9.cell 13, hb9.cell 14, hr2.keep hx⟩
    · exact ⟨hb9.cell 15, hb9.cell 16, hb9.cell 17, hb9.cell 18, hb9.cell 19, hr3.keep hx⟩
    · exact ⟨hb9.cell 20, hb9.cell 21, hb9.cell 22, hb9.cell 23, hb9.cell 24, hr4.keep hx⟩
    · exact ⟨hb9.cell 25, hb9.cell 26, hb9.cell 27, hb9.cell 28, hb9.cell 29, hr5.keep hx⟩
    )
  have HB0 := Lib.hid hBY
  have HY := Lib.hid hY
  clear hY hBY hYs hTB hr0 hr1 hr2 hr3 hr4 hr5 hKD hS hFI hIN hRE hM hC hD hN hr hs
  go_enter Try.func7, Try.ntmps7
  go_wp2
  rw [← HY.out]
  go_loopw [50] (fun x wr => ∃ i : Nat, i ≤ 6 ∧ x = .int .i64 i ∧ Below Y.heap.size Y wr) (fun x _ => 6 - (intOf x).toNat)
  case atStart => exact ⟨0, by omega, rfl, Below.refl _ _⟩
  case round =>
    obtain ⟨i, hi, rfl, hb⟩ := hrel
    have HB := Lib.hid hb
    by_cases hlt : i < 6
    · have i1 : (i : Int) < 6 := by omega
      have i2 : (0 : Int) ≤ (i : Int) := by omega
      obtain ⟨t0, t1, t2, t3, t4, t5⟩ := HT.out i hlt wr hb
      obtain ⟨n1, n2, n3⟩ := HN.out i hlt
      have HMi := Lib.hid (HM.out i hlt)
      have HCi := Lib.hid (HC.out i hlt)
      have HDi := Lib.hid (HD.out i hlt)
      have HT5 := Lib.hid t5
      generalize KD i = kd at *
      generalize S i = sz at *
      generalize FI i = fi at *
      generalize IN i = inn at *
      generalize RE i = re at *
      generalize N i = nn at *
      generalize J i = jj at *
      obtain ⟨X, hX⟩ : ∃ X, X = wr.alloc (Obj.cells #[.int .i64 kd, .slice (some ⟨w.heap.size + i, 0, none⟩) sz.length sz.length, .int .i64 fi, .int .i64 inn, .int .i64 re] 46) := ⟨_, rfl⟩
      have hx1 : Below wr.heap.size wr X := by rw [hX]; exact (Below.refl _ _).alloc (Nat.le_refl _) _
      have HXB : Hid (Blk X wr.heap.size 46 #[.int .i64 kd, .slice (some ⟨w.heap.size + i, 0, none⟩) sz.length sz.length, .int .i64 fi, .int .i64 inn, .int .i64 re]) := Lib.hid (by rw [hX]; exact Blk.new _ _ _)
      have HBX : Hid (Below Y.heap.size Y X) := Lib.hid (hb.trans (hx1.mono hb.size))
      have HMC := Lib.hid (HMi.out _ sz.length X (HT5.out.keep hx1))
      have HX := Lib.hid hX
      clear t5 hb hX hx1
      go_wp2_with fail
      rw [← HX.out]
      refine HMC.out.mono ?_
      rintro e x1 ⟨a1, c1, rfl, he1, hb1⟩
      obtain ⟨Z, hZ⟩ : ∃ Z, Z = x1.alloc (Obj.cells #[.int .i64 (nn : Nat), .slice a1 jj.length c1] 31) := ⟨_, rfl⟩
      have hz1 : Below x1.heap.size x1 Z := by rw [hZ]; exact (Below.refl _ _).alloc (Nat.le_refl _) _
      have hXZ : Below X.heap.size X Z := hb1.trans (hz1.mono hb1.size)
      have HXZ := Lib.hid (HXB.out.below hXZ HXB.out.lt)
      have HGZ : Hid (Blk Z x1.heap.size 31 #[.int .i64 (nn : Nat), .slice a1 jj.length c1]) := Lib.hid (by rw [hZ]; exact Blk.new _ _ _)
      have HEZ := Lib.hid (he1.keep hz1)
      have HBZ := Lib.hid (HBX.out.trans (hXZ.mono HBX.out.size))
      have HCC := Lib.hid (HCi.out a1 c1 Z HEZ.out)
      have HZ := Lib.hid hZ
      clear hZ hz1 hXZ he1 hb1 t0 t1 t2 t3 t4
      go_wp2_with fail
      rw [← HZ.out]
      refine HCC.out.mono ?_
      rintro e x2 ⟨rfl, hb2⟩
      have HKEEP : Hid (∀ x, Below x2.heap.size x2 x → x.cell? ⟨x1.heap.size, 0, none⟩ = some (.int .i64 (nn : Nat)) ∧ x.cell? ⟨x1.heap.size, 1, none⟩ = some (.slice a1 jj.length c1) ∧ x.cell? ⟨wr.heap.size, 2, none⟩ = some (.int .i64 fi) ∧ x.cell? ⟨wr.heap.size, 3, none⟩ = some (.int .i64 inn) ∧ x.cell? ⟨wr.heap.size, 4, none⟩ = some (.int .i64 re) ∧ EsAt x a1 jj) := Lib.hid (fun x hx => by
        have h1 := (HGZ.out.below hb2 HGZ.out.lt)
        have h1 := h1.below hx h1.lt
        have h2 := (HXZ.out.below hb2 HXZ.out.lt)
        have h2 := h2.below hx h2.lt
        exact ⟨h1.cell 0, h1.cell 1, h2.cell 2, h2.cell 3, h2.cell 4, (HEZ.out.keep hb2).keep hx⟩)
      have HB2 := Lib.hid (HBZ.out.trans (hb2.mono HBZ.out.size))
      clear hb2
      obtain ⟨q0, q1, q2, q3, q4, -⟩ := HKEEP.out x2 (Below.refl _ _)
      have n4 : ¬ (nn : Int) < fi := by omega
      go_wp2
      clear q0 q1 q2 q3 q4
      go_loopw [78] (fun y wq => ∃ v : Nat, v ≤ nn ∧ y = .int .i64 v ∧ Below x2.heap.size x2 wq) (fun y _ => nn - (intOf y).toNat)
      case atStart => exact ⟨0, by omega, rfl, Below.refl _ _⟩
      case round =>
        obtain ⟨v, hv, rfl, hbq⟩ := hrel
        have HBQ := Lib.hid hbq
        by_cases hvl : v < nn
        · have v1 : (v : Int) < (nn : Int) := by omega
          obtain ⟨q0, q1, q2, q3, q4, hE⟩ := HKEEP.out _ hbq
          have HDV := Lib.hid (HDi.out v hvl a1 c1 _ hE)
          clear hbq hE
          by_cases hf : (v : Int) < fi
          · rw [if_pos hf] at HDV
            go_wp2_with fail
            refine HDV.out.mono ?_
            rintro e x3 ⟨rfl, hb3⟩
            have HB3 := Lib.hid (HBQ.out.trans (hb3.mono HBQ.out.size))
            clear hb3 q0 q1 q2 q3 q4
            go_wp2
            go_roundw
            case rel => exact ⟨v + 1, by omega, by go_num, HB3.out⟩
            case measure => simp [intOf]; omega
          · rw [if_neg hf] at HDV
            go_wp2_with fail
            refine HDV.out.mono ?_
            rintro e x3 ⟨rfl, hb3⟩
            have HB3 := Lib.hid (HBQ.out.trans (hb3.mono HBQ.out.size))
            clear hb3 q0 q1 q2 q3 q4
            go_wp2
            go_roundw
            case rel => exact ⟨v + 1, by omega, by go_num, HB3.out⟩
            case measure => simp [intOf]; omega
        · obtain rfl : v = nn := by omega
          have v1 : ¬ (v : Int) < (v : Int) := by omega
          have HB5 := Lib.hid (HB2.out.trans (hbq.mono HB2.out.size))
          clear hbq
          go_wp2
          go_roundw
          case rel => exact ⟨i + 1, by omega, by go_num, HB5.out⟩
          case measure => simp [intOf]; omega
    · obtain rfl : i = 6 := by omega
      have HBE := Lib.hid (HB0.out.trans (hb.mono HB0.out.size))
      clear hb
      go_wp2_with fail
      refine (HA.out _).mono ?_
      rintro e x7 ⟨rfl, hb7⟩
      have HB7 := Lib.hid (HBE.out.trans (hb7.mono HBE.out.size))
      clear hb7
      go_wp2
      go_ret
      exact ⟨rfl, HB7.out⟩
theorem conDg (kind : Nat) (hk : kind ≤ 8) (L : List Int) (fi inn re : Int) (h : degOK kind L fi inn re = true) : (∀ a c w, EsAt w a (famJ kind L) → Calls Try.prog 16 #[.agg #[.int .i64 (famN kind L : Nat), .slice a (famJ kind L).length c]] w (fun e x => e = .returned (.int .i64 0) ∧ Below w.heap.size w x)) ∧
    (∀ v : Nat, v < famN kind L → ∀ a c w, EsAt w a (famJ kind L) → Calls Try.prog 24 #[.agg #[.int .i64 (famN kind L : Nat), .slice a (famJ kind L).length c], .int .i64 v] w (fun e x => e = .returned (.int .i64 (if (v : Int) < fi then inn else re)) ∧ Below w.heap.size w x)) := by
  obtain ⟨h1, h2, h3, h4, h5⟩ := degOK_of h
  have hJ := famJ_len hk h1
  refine ⟨fun a c w he => ?_, fun v hv a c w he => ?_⟩
  · have := rcheck_any (famN kind L : Nat) a c (famJ kind L) (by omega) w he
    rw [h2] at this
    exact this
  · have := rdegree_any (famN kind L) a c (famJ kind L) hJ (right_of h2) (v : Int) w he
    rw [h5 v hv] at this
    exact this
theorem degrees_any (n m : Int) (h0 : 0 ≤ n) (h1 : n ≤ 255) (h2 : 0 ≤ m) (h3 : m ≤ 255) (w : World) : Calls Try.prog 7 #[.int .u8 n, .int .u8 m] w (fun e x => e = .returned (.bool true) ∧ Below w.heap.size w x) := by
  obtain ⟨r, hr⟩ : ∃ r : Nat, (r : Int) = n % 6 := ⟨(n % 6).toNat, by omega⟩
  obtain ⟨s, hs⟩ : ∃ s : Nat, (s : Int) = m % 6 := ⟨(m % 6).toNat, by omega⟩
  have hr6 : r < 6 := by omega
  have hs6 : s < 6 := by omega
  obtain ⟨d0, d1, d2, d3, d4, d5⟩ := deg_all ⟨r, hr6⟩ ⟨s, hs6⟩
  obtain ⟨k, hk⟩ : ∃ k : Int, 1 + (r : Int) = k := ⟨_, rfl⟩
  obtain ⟨l, hl⟩ : ∃ l : Int, 1 + (s : Int) = l := ⟨_, rfl⟩
  simp only [hk, hl] at d0 d1 d2 d3 d4 d5
  obtain ⟨km, hkm⟩ : ∃ km : Int, k - 1 = km := ⟨_, rfl⟩
  rw [hkm] at d1
  obtain ⟨KD, hKD⟩ : ∃ KD : Nat → Nat, KD = fun i : Nat => if i = 0 then 1 else if i = 1 then 3 else if i = 2 then 4 else if i = 3 then 5 else if i = 4 then 6 else 2 := ⟨_, rfl⟩
  obtain ⟨S, hS⟩ : ∃ S : Nat → List Int, S = fun i : Nat => if i = 0 then [k] else if i = 1 then [k] else if i = 2 then [k] else if i = 3 then [k] else if i = 4 then [k, l] else [k] := ⟨_, rfl⟩
  obtain ⟨FI, hFI⟩ : ∃ FI : Nat → Int, FI = fun i : Nat => if i = 0 then 0 else if i = 1 then 0 else if i = 2 then 0 else if i = 3 then 1 else if i = 4 then k else 1 := ⟨_, rfl⟩
  obtain ⟨IN, hIN⟩ : ∃ IN : Nat → Int, IN = fun i : Nat => if i = 0 then 0 else if i = 1 then 0 else if i = 2 then 0 else if i = 3 then k else if i = 4 then l else k := ⟨_, rfl⟩
  obtain ⟨RE, hRE⟩ : ∃ RE : Nat → Int, RE = fun i : Nat => if i = 0 then 2 else if i = 1 then km else if i = 2 then k else if i = 3 then 3 else if i = 4 then k else 1 := ⟨_, rfl⟩
  have hd : ∀ i, i < 6 → KD i ≤ 8 ∧ (S i).length ≤ 1000000 ∧ degOK (KD i) (S i) (FI i) (IN i) (RE i) = true := fun i hi => by
    have h9 : i = 0 ∨ i = 1 ∨ i = 2 ∨ i = 3 ∨ i = 4 ∨ i = 5 := by omega
    rw [hKD, hS, hFI, hIN, hRE]
    rcases h9 with rfl | rfl | rfl | rfl | rfl | rfl
    · exact ⟨by decide, by simp, d0⟩
    · exact ⟨by decide, by simp, d1⟩
    · exact ⟨by decide, by simp, d2⟩
    · exact ⟨by decide, by simp, d3⟩
    · exact ⟨by decide, by simp, d4⟩
    · exact ⟨by decide, by simp, d5⟩
  refine degrees_walk n m k l km r s (by rw [Int.tmod_eq_emod_of_nonneg h0]; exact hr.symm) (by rw [Int.tmod_eq_emod_of_nonneg h2]; exact hs.symm) hk hl hkm hr6 hs6 h0 h1 h2 h3 (fun i => famN (KD i) (S i)) (fun i => famJ (KD i) (S i)) KD S FI IN RE (fun i _ => by rw [hKD]) (fun i _ => by rw [hS]) (fun i _ => by rw [hFI]) (fun i _ => by rw [hIN]) (fun i _ => by rw [hRE]) (fun i hi => ?_) (fun i hi p cp w h => ?_) (fun i hi => ?_) (fun i hi => ?_) w
  · obtain ⟨e1, e2, e3⟩ := hd i hi
    obtain ⟨g1, g2, g3, g4, -⟩ := degOK_of e3
    exact ⟨(fam_facts e1 g1).2.1, g3, g4⟩
  · obtain ⟨e1, e2, e3⟩ := hd i hi
    exact conMk (KD i) (S i) _ _ e1 e2 (degOK_of e3).1 rfl rfl p cp w h
  · obtain ⟨e1, e2, e3⟩ := hd i hi
    exact (conDg (KD i) e1 (S i) _ _ _ e3).1
  · obtain ⟨e1, e2, e3⟩ := hd i hi
    exact (conDg (KD i) e1 (S i) _ _ _ e3).2
end Go.Proofs.Ytgfbihdnjidodaa
