/- The reference: ends of grids and thetas. -/
import Derived.Test.YtgfbihdnjidodaaZPa
namespace Go.Proofs.Ytgfbihdnjidodaa
open Go.RowKit Go.Shelf Go.Proofs.Gr
attribute [local go_sem] Oper.semAt_some

/-- Grids under way. -/
def gridO (m n i : Nat) : List (Int × Int) := (List.range i).flatMap fun i : Nat => gridK m n i n
def gridX (m n i j : Nat) : List (Int × Int) := gridO m n i ++ gridK m n i j
theorem gridX_zero (m n i : Nat) : gridX m n i 0 = gridO m n i := by simp [gridX, gridK]
theorem gridX_succ (m n i j : Nat) : gridX m n i (j + 1) = gridX m n i j ++ (if j + 1 < n then [((i : Int) * n + j, (i : Int) * n + j + 1)] else []) ++ (if i + 1 < m then [((i : Int) * n + j, (i : Int) * n + n + j)] else []) := by
  simp [gridX, gridK, List.range_succ]
theorem gridX_last (m n i : Nat) : gridX m n i n = gridO m n (i + 1) := by simp [gridX, gridO, List.range_succ]
theorem gridK_len (m n i j : Nat) : (gridK m n i j).length ≤ 2 * j := by
  induction j with
  | zero => simp [gridK]
  | succ j ih =>
    have e : gridK m n i (j + 1) = gridK m n i j ++ ((if j + 1 < n then [((i : Int) * n + j, (i : Int) * n + j + 1)] else []) ++ (if i + 1 < m then [((i : Int) * n + j, (i : Int) * n + n + j)] else [])) := by simp [gridK, List.range_succ]
    rw [e, List.length_append, List.length_append]
    split <;> split <;> simp <;> omega
theorem gridO_len (m n i : Nat) : (gridO m n i).length ≤ 2 * n * i := by
  induction i with
  | zero => simp [gridO]
  | succ i ih =>
    have := gridK_len m n i n
    rw [← gridX_last, gridX, List.length_append, Nat.mul_succ]
    omega
set_option maxHeartbeats 12800000 in
set_option maxRecDepth 100000 in
theorem rgrid_any (m n : Nat) (hm : m ≤ 50) (hn : n ≤ 50) (w : World) : Calls Try.prog 75 #[.int .i64 m, .int .i64 n] w (GivesPO w (gridR m n)) := by
  obtain ⟨i0, hi0, hz0, hz1, hz2⟩ := info_parts infoP
  have HO0 : Hid (gridO m n 0 = []) := Lib.hid rfl
  have HX0 := Lib.hid (gridX_zero m n)
  have HXS := Lib.hid (gridX_succ m n)
  have HXL := Lib.hid (gridX_last m n)
  have HE : Hid (gridO m n m = gridR m n) := Lib.hid rfl
  have HLL : Hid (∀ i j, i < m → j ≤ n → (gridX m n i j).length ≤ 20000) := Lib.hid (fun i j hi hj => by
    unfold gridX
    have h1 := gridO_len m n i
    have h2 := gridK_len m n i j
    have h3 := Nat.mul_le_mul (show 2 * n ≤ 100 by omega) (show i ≤ 50 by omega)
    rw [List.length_append]
    omega)
  unfold GivesPO
  generalize gridO m n = O at *
  generalize gridX m n = X at *
  go_enter Try.func75, Try.ntmps75
  go_wp2
  go_loopw [5, 6] (fun s x wr => ∃ i : Nat, i ≤ m ∧ x = .int .i64 i ∧ wr.ownsRow w.heap.size 56 2 s (O i).length (flat encP (O i)) ∧ Below w.heap.size w wr) (fun _ x _ => m - (intOf x).toNat)
  case atStart => exact ⟨0, by omega, rfl, by rw [HO0.out]; exact World.ownsRow_nil _ _ _ _, Below.refl _ _⟩
  case round =>
    obtain ⟨i, hi, rfl, hown, hbw⟩ := hrel
    by_cases hlt : i < m
    · have i1 : (i : Int) < (m : Int) := by omega
      have HOW0 := Lib.hid hown
      have HBR0 := Lib.hid hbw
      clear hown hbw
      go_wp2
      go_loopw [5, 7] (fun s y wr => ∃ j : Nat, j ≤ n ∧ y = .int .i64 j ∧ wr.ownsRow w.heap.size 56 2 s (X i j).length (flat encP (X i j)) ∧ Below w.heap.size w wr) (fun _ y _ => n - (intOf y).toNat)
      case atStart => exact ⟨0, by omega, rfl, by rw [HX0.out]; exact HOW0.out, HBR0.out⟩
      case round =>
        obtain ⟨j, hj, rfl, hown, hbw⟩ := hrel
        have HOW := Lib.hid hown
        have HBR := Lib.hid hbw
        by_cases hjl : j < n
        · have j1 : (j : Int) < (n : Int) := by omega
          have hll := HLL.out i j hlt hj
          have hs := HXS.out i j
          have hmul := Nat.mul_le_mul (show i ≤ 50 by omega) hn
          obtain ⟨q, hq⟩ : ∃ q, q = (i : Int) * (n : Int) := ⟨_, rfl⟩
          have hqr : 0 ≤ q ∧ q ≤ 2500 := by rw [hq, ← Int.natCast_mul]; omega
          have e1 : IntKind.i64.wrap ((i : Int) * (n : Int)) = q := by rw [hq, ← Int.natCast_mul]; exact IntWalk.i64_in _ (by omega)
          rw [← hq] at hs
          generalize X i j = PP at *
          clear hq hmul
          by_cases hc1 : j + 1 < n
          · by_cases hc2 : i + 1 < m
            · have c1 : (j : Int) + 1 < (n : Int) := by omega
              have c2 : (i : Int) + 1 < (m : Int) := by omega
              rw [if_pos hc1, if_pos hc2] at hs
              have HSn := Lib.hid hs
              clear hown hbw hs hc1 hc2
              go_wp2_with (first | (at_builtin; refine wpList_append_own _ rfl _ _ 54 rfl w.heap.size 56 i0 (.agg #[.int .i64 0, .int .i64 0]) 2 16 Try.underlying54 hi0 hz0 hz1 hz2 rfl (by decide) _ _ _ rfl (HOW.out.alloc _) ⟨wr.heap.size, 0, none⟩ 1 1 [.int .i64 (q + (j : Int)), .int .i64 (q + (j : Int) + 1)] rfl rfl (lit_row _ _ _) (by simp [Value.oneCell']) (by unfold maxLen; omega) (by omega) (by rw [World.size_alloc]; have := HBR.out.size; omega) ?_; intro v1 w3 hown1 hgrow1 hnil; clear hnil; have HO3 : Hid (w3.ownsRow w.heap.size 56 2 v1 (PP ++ [((q + (j : Int)), (q + (j : Int) + 1))]).length (flat encP (PP ++ [((q + (j : Int)), (q + (j : Int) + 1))]))) := Lib.hid (by rw [List.length_append, flatP_snoc]; exact hown1); have HB3 : Hid (Below w.heap.size w w3) := Lib.hid (below_push (w := w) HBR.out (fun k hk => (HOW.out.lt k hk).1) hgrow1); clear hown1 hgrow1; have HL3 : (PP ++ [((q + (j : Int)), (q + (j : Int) + 1))]).length ≤ 20001 := (by rw [List.length_append]; simp; omega)) | (at_builtin; refine wpList_append_own _ rfl _ _ 54 rfl w.heap.size 56 i0 (.agg #[.int .i64 0, .int .i64 0]) 2 16 Try.underlying54 hi0 hz0 hz1 hz2 rfl (by decide) _ _ _ rfl (HO3.out.alloc _) ⟨w3.heap.size, 0, none⟩ 1 1 [.int .i64 (q + (j : Int)), .int .i64 (q + (n : Int) + (j : Int))] rfl rfl (lit_row _ _ _) (by simp [Value.oneCell']) (by unfold maxLen; omega) (by omega) (by rw [World.size_alloc]; have := HB3.out.size; omega) ?_; intro v2 w4 hown1 hgrow1 hnil; clear hnil; have HO4 : Hid (w4.ownsRow w.heap.size 56 2 v2 (PP ++ [((q + (j : Int)), (q + (j : Int) + 1))] ++ [((q + (j : Int)), (q + (n : Int) + (j : Int)))]).length (flat encP (PP ++ [((q + (j : Int)), (q + (j : Int) + 1))] ++ [((q + (j : Int)), (q + (n : Int) + (j : Int)))]))) := Lib.hid (by rw [List.length_append, flatP_snoc]; exact hown1); have HB4 : Hid (Below w.heap.size w w4) := Lib.hid (below_push (w := w) HB3.out (fun k hk => (HO3.out.lt k hk).1) hgrow1); clear hown1 hgrow1))
              go_roundw
              case rel => exact ⟨j + 1, by omega, by go_num, by rw [HSn.out]; exact HO4.out, HB4.out⟩
              case measure => simp [intOf]; omega
            · have c1 : (j : Int) + 1 < (n : Int) := by omega
              have c2 : ¬ (i : Int) + 1 < (m : Int) := by omega
              rw [if_pos hc1, if_neg hc2] at hs
              rw [List.append_nil] at hs
              have HSn := Lib.hid hs
              clear hown hbw hs hc1 hc2
              go_wp2_with (at_builtin; refine wpList_append_own _ rfl _ _ 54 rfl w.heap.size 56 i0 (.agg #[.int .i64 0, .int .i64 0]) 2 16 Try.underlying54 hi0 hz0 hz1 hz2 rfl (by decide) _ _ _ rfl (HOW.out.alloc _) ⟨wr.heap.size, 0, none⟩ 1 1 [.int .i64 (q + (j : Int)), .int .i64 (q + (j : Int) + 1)] rfl rfl (lit_row _ _ _) (by simp [Value.oneCell']) (by unfold maxLen; omega) (by omega) (by rw [World.size_alloc]; have := HBR.out.size; omega) ?_; intro v1 w3 hown1 hgrow1 hnil; clear hnil; have HO3 : Hid (w3.ownsRow w.heap.size 56 2 v1 (PP ++ [((q + (j : Int)), (q + (j : Int) + 1))]).length (flat encP (PP ++ [((q + (j : Int)), (q + (j : Int) + 1))]))) := Lib.hid (by rw [List.length_append, flatP_snoc]; exact hown1); have HB3 : Hid (Below w.heap.size w w3) := Lib.hid (below_push (w := w) HBR.out (fun k hk => (HOW.out.lt k hk).1) hgrow1); clear hown1 hgrow1)
              go_roundw
              case rel => exact ⟨j + 1, by omega, by go_num, by rw [HSn.out]; exact HO3.out, HB3.out⟩
              case measure => simp [intOf]; omega
          · by_cases hc2 : i + 1 < m
            · have c1 : ¬ (j : Int) + 1 < (n : Int) := by omega
              have c2 : (i : Int) + 1 < (m : Int) := by omega
              rw [if_neg hc1, if_pos hc2] at hs
              rw [List.append_nil] at hs
              have HSn := Lib.hid hs
              clear hown hbw hs hc1 hc2
              go_wp2_with (at_builtin; refine wpList_append_own _ rfl _ _ 54 rfl w.heap.size 56 i0 (.agg #[.int .i64 0, .int .i64 0]) 2 16 Try.underlying54 hi0 hz0 hz1 hz2 rfl (by decide) _ _ _ rfl (HOW.out.alloc _) ⟨wr.heap.size, 0, none⟩ 1 1 [.int .i64 (q + (j : Int)), .int .i64 (q + (n : Int) + (j : Int))] rfl rfl (lit_row _ _ _) (by simp [Value.oneCell']) (by unfold maxLen; omega) (by omega) (by rw [World.size_alloc]; have := HBR.out.size; omega) ?_; intro v1 w3 hown1 hgrow1 hnil; clear hnil; have HO3 : Hid (w3.ownsRow w.heap.size 56 2 v1 (PP ++ [((q + (j : Int)), (q + (n : Int) + (j : Int)))]).length (flat encP (PP ++ [((q + (j : Int)), (q + (n : Int) + (j : Int)))]))) := Lib.hid (by rw [List.length_append, flatP_snoc]; exact hown1); have HB3 : Hid (Below w.heap.size w w3) := Lib.hid (below_push (w := w) HBR.out (fun k hk => (HOW.out.lt k hk).1) hgrow1); clear hown1 hgrow1)
              go_roundw
              case rel => exact ⟨j + 1, by omega, by go_num, by rw [HSn.out]; exact HO3.out, HB3.out⟩
              case measure => simp [intOf]; omega
            · have c1 : ¬ (j : Int) + 1 < (n : Int) := by omega
              have c2 : ¬ (i : Int) + 1 < (m : Int) := by omega
              rw [if_neg hc1, if_neg hc2] at hs
              rw [List.append_nil, List.append_nil] at hs
              have HSn := Lib.hid hs
              clear hown hbw hs hc1 hc2
              go_wp2
              go_roundw
              case rel => exact ⟨j + 1, by omega, by go_num, by rw [HSn.out]; exact HOW.out, HBR.out⟩
              case measure => simp [intOf]; omega
        · obtain rfl : j = n := by omega
          have j1 : ¬ (j : Int) < (j : Int) := by omega
          have HOW4 := Lib.hid (by rw [HXL.out] at hown; exact hown : wr.ownsRow w.heap.size 56 2 _ (O (i + 1)).length (flat encP (O (i + 1))))
          clear hown hbw
          go_wp2
          go_roundw
          case rel => exact ⟨i + 1, by omega, by go_num, HOW4.out, HBR.out⟩
          case measure => simp [intOf]; omega
    · obtain rfl : i = m := by omega
      have i1 : ¬ (i : Int) < (i : Int) := by omega
      have HOW4 := Lib.hid (by rw [HE.out] at hown; exact hown : wr.ownsRow w.heap.size 56 2 _ (gridR i n).length (flat encP (gridR i n)))
      have HBR := Lib.hid hbw
      clear hown hbw
      go_wp2
      go_ret
      exact ⟨_, rfl, HOW4.out, HBR.out⟩
set_option maxHeartbeats 12800000 in
set_option maxRecDepth 100000 in
theorem rtheta_any (a : Option Addr) (cap : Nat) (L : List Int) (hll : L.length = 3) (hLr : ∀ j, j < L.length → 1 ≤ iAt L j ∧ iAt L j ≤ 50) (w : World) (h : IsAt w a L) : Calls Try.prog 76 #[.slice a L.length cap] w (GivesPO w (thR L 3)) := by
  obtain ⟨i0, hi0, hz0, hz1, hz2⟩ := info_parts infoP
  have HLR := Lib.hid hLr
  have HI := Lib.hid h
  have HNR := Lib.hid (thN_rng L hLr)
  have HT0 : Hid (thR L 0 = []) := Lib.hid rfl
  have HN0 : Hid (thN L 0 = 2) := Lib.hid rfl
  have HNS : Hid (∀ i, thN L (i + 1) = thN L i + (iAt L i - 1)) := Lib.hid fun _ => rfl
  have HTS : Hid (∀ i, thR L (i + 1) = thR L i ++ wayP 0 (thN L i) (iAt L i - 1).toNat ++ [(lastP 0 (thN L i) (iAt L i - 1).toNat, 1)]) := Lib.hid fun _ => rfl
  have HTL : Hid (∀ i, i ≤ L.length → (thR L i).length ≤ 50 * i) := Lib.hid (fun i hi => by
    induction i with
    | zero => simp [thR]
    | succ i ih =>
      have := ih (by omega)
      have := hLr i (by omega)
      simp only [thR, List.length_append, wayP_len, List.length_singleton]
      omega)
  have HW0 : Hid (∀ nx, wayP 0 nx 0 = []) := Lib.hid fun _ => rfl
  have HWS : Hid (∀ nx j, wayP 0 nx (j + 1) = wayP 0 nx j ++ [(lastP 0 nx j, nx + j)]) := Lib.hid fun _ _ => rfl
  have HWL := Lib.hid (wayP_len 0)
  have HL0 : Hid (∀ nx, lastP 0 nx 0 = 0) := Lib.hid fun _ => rfl
  have HLS := Lib.hid (lastP_succ 0)
  have HLB : Hid (∀ nx j, 0 ≤ nx → nx ≤ 200 → j ≤ 60 → 0 ≤ lastP 0 nx j ∧ lastP 0 nx j ≤ 300) := Lib.hid (fun nx j h1 h2 h3 => by unfold lastP; split <;> omega)
  have hln3 : L.length ≤ 3 := by omega
  have hln4 : 3 ≤ L.length := by omega
  unfold GivesPO
  generalize thR L = TF at *
  generalize thN L = NF at *
  generalize wayP 0 = WF at *
  generalize lastP 0 = LF at *
  clear h hLr hll
  go_enter Try.func76, Try.ntmps76
  go_wp2
  go_loopw [3, 4, 5] (fun s u x wr => ∃ i : Nat, i ≤ 3 ∧ x = .int .i64 i ∧ u = .int .i64 (NF i) ∧ wr.ownsRow w.heap.size 56 2 s (TF i).length (flat encP (TF i)) ∧ Below w.heap.size w wr) (fun _ _ x _ => 3 - (intOf x).toNat)
  case atStart => exact ⟨0, by omega, rfl, by rw [HN0.out], by rw [HT0.out]; exact World.ownsRow_nil _ _ _ _, Below.refl _ _⟩
  case round =>
    obtain ⟨i, hi, rfl, rfl, hown, hbw⟩ := hrel
    by_cases hlt : i < 3
    · have i1 : (i : Int) < 3 := by omega
      have i2 : (0 : Int) ≤ (i : Int) := by omega
      have i3 : (i : Int) < (L.length : Int) := by omega
      have HOW0 := Lib.hid hown
      have HBR0 := Lib.hid hbw
      obtain ⟨z, hz⟩ : ∃ z, z = iAt L i := ⟨_, rfl⟩
      have hlr := HLR.out i (by omega)
      have hnr := HNR.out i (by omega)
      have htl := HTL.out i (by omega)
      have hns := HNS.out i
      have hts := HTS.out i
      rw [← hz] at hlr hns hts
      obtain ⟨c, hc⟩ : ∃ c : Nat, (c : Int) = z - 1 := ⟨(z - 1).toNat, by omega⟩
      rw [show (z - 1).toNat = c by omega] at hts
      rw [← hc] at hns
      have HNSn := Lib.hid hns
      have HTSn := Lib.hid hts
      have HZ := Lib.hid hz
      have hnx : 2 ≤ NF i ∧ NF i ≤ 150 := by omega
      generalize NF i = nx at *
      generalize hTI : TF i = TI at *
      have hcz : z = (c : Int) + 1 := by omega
      have HCZ := Lib.hid hcz
      have hc50 : c ≤ 49 := by omega
      clear hown hbw hz hns hts hc hlr hnr hcz hTI
      go_wp2
      go_loopw [3, 4, 6, 7] (fun s u l y wr => ∃ j : Nat, j ≤ c ∧ y = .int .i64 ((j : Int) + 1) ∧ u = .int .i64 (nx + (j : Int)) ∧ l = .int .i64 (LF nx j) ∧ wr.ownsRow w.heap.size 56 2 s (TI ++ WF nx j).length (flat encP (TI ++ WF nx j)) ∧ Below w.heap.size w wr) (fun _ _ _ y _ => c + 1 - (intOf y).toNat)
      case atStart => exact ⟨0, by omega, by simp, by simp, by rw [HL0.out], by rw [HW0.out, List.append_nil]; exact HOW0.out, HBR0.out⟩
      case round =>
        obtain ⟨j, hj, rfl, rfl, rfl, hown, hbw⟩ := hrel
        have HOW := Lib.hid hown
        have HBR := Lib.hid hbw
        obtain ⟨bb, oo, ea, q1, x1⟩ := (HI.out.keep hbw).one i (by omega)
        subst ea
        rw [← HZ.out] at x1
        have hwl := HWL.out nx j
        have hlb := HLB.out nx j (by omega) (by omega) (by omega)
        have hws := HWS.out nx j
        have hls := HLS.out nx j
        have HLSn := Lib.hid hls
        generalize hLA : LF nx j = la at *
        have hql : (TI ++ WF nx j).length ≤ 20000 := by rw [List.length_append, hwl]; omega
        by_cases hjl : j < c
        · have HSn : Hid (TI ++ WF nx (j + 1) = (TI ++ WF nx j) ++ [(la, nx + (j : Int))]) := Lib.hid (by rw [hws, List.append_assoc])
          have j1 : (j : Int) + 1 < z := by have := HCZ.out; omega
          generalize TI ++ WF nx j = PP at *
          clear hown hbw hwl hws hls hLA
          go_wp2_with (at_builtin; refine wpList_append_own _ rfl _ _ 54 rfl w.heap.size 56 i0 (.agg #[.int .i64 0, .int .i64 0]) 2 16 Try.underlying54 hi0 hz0 hz1 hz2 rfl (by decide) _ _ _ rfl (HOW.out.alloc _) ⟨wr.heap.size, 0, none⟩ 1 1 [.int .i64 la, .int .i64 (nx + (j : Int))] rfl rfl (lit_row _ _ _) (by simp [Value.oneCell']) (by unfold maxLen; omega) (by omega) (by rw [World.size_alloc]; have := HBR.out.size; omega) ?_; intro v1 w3 hown1 hgrow1 hnil; clear hnil; have HO3 : Hid (w3.ownsRow w.heap.size 56 2 v1 (PP ++ [(la, (nx + (j : Int)))]).length (flat encP (PP ++ [(la, (nx + (j : Int)))]))) := Lib.hid (by rw [List.length_append, flatP_snoc]; exact hown1); have HB3 : Hid (Below w.heap.size w w3) := Lib.hid (below_push (w := w) HBR.out (fun k hk => (HOW.out.lt k hk).1) hgrow1); clear hown1 hgrow1)
          go_roundw
          case rel => exact ⟨j + 1, by omega, by go_num, by go_num, by rw [HLSn.out], by rw [HSn.out]; exact HO3.out, HB3.out⟩
          case measure => simp [intOf]; omega
        · obtain rfl : j = c := by omega
          have j1 : ¬ (j : Int) + 1 < z := by have := HCZ.out; omega
          have HSn : Hid (TF (i + 1) = (TI ++ WF nx j) ++ [(la, 1)]) := Lib.hid (by rw [HTSn.out, hLA])
          generalize TI ++ WF nx j = PP at *
          clear hown hbw hwl hws hls hLA
          go_wp2_with (at_builtin; refine wpList_append_own _ rfl _ _ 54 rfl w.heap.size 56 i0 (.agg #[.int .i64 0, .int .i64 0]) 2 16 Try.underlying54 hi0 hz0 hz1 hz2 rfl (by decide) _ _ _ rfl (HOW.out.alloc _) ⟨wr.heap.size, 0, none⟩ 1 1 [.int .i64 la, .int .i64 1] rfl rfl (lit_row _ _ _) (by simp [Value.oneCell']) (by unfold maxLen; omega) (by omega) (by rw [World.size_alloc]; have := HBR.out.size; omega) ?_; intro v1 w3 hown1 hgrow1 hnil; clear hnil; have HO3 : Hid (w3.ownsRow w.heap.size 56 2 v1 (PP ++ [(la, 1)]).length (flat encP (PP ++ [(la, 1)]))) := Lib.hid (by rw [List.length_append, flatP_snoc]; exact hown1); have HB3 : Hid (Below w.heap.size w w3) := Lib.hid (below_push (w := w) HBR.out (fun k hk => (HOW.out.lt k hk).1) hgrow1); clear hown1 hgrow1)
          go_roundw
          case rel => exact ⟨i + 1, by omega, by go_num, by rw [HNSn.out], by rw [HSn.out]; exact HO3.out, HB3.out⟩
          case measure => simp [intOf]; omega
    · obtain rfl : i = 3 := by omega
      have HOW := Lib.hid hown
      have HBR := Lib.hid hbw
      clear hown hbw
      go_wp2
      go_ret
      exact ⟨_, rfl, HOW.out, HBR.out⟩
end Go.Proofs.Ytgfbihdnjidodaa
