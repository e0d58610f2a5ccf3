/- The law of degrees. -/
import Derived.Test.YtndjjafpdiehdaaQ18
namespace Go.Proofs.Ytndjjafpdiehdaa
open Go.RowKit Go.Shelf Go.Proofs.Gr
attribute [local go_sem] Oper.semAt_some

/-- Hands back a list that fits into its room, and an error's number. -/
def GivesIKC (w : World) (l : List Int) (k : Nat) (e : Ending) (w' : World) : Prop := ∃ a c, e = .returned (.tuple #[.slice a l.length c, .int .i64 (k : Int)]) ∧ IsAt w' a l ∧ l.length ≤ c ∧ Below w.heap.size w w'
set_option maxHeartbeats 12800000 in
set_option maxRecDepth 100000 in
theorem pSpr_okC (n : Int) (a : Option Addr) (cap : Nat) (L : List E) (hL : L.length ≤ 100000) (q : Nat) (b : Option Addr) (c : Nat) (D : List Int) (hD : D.length ≤ 100000) (hl : (endsG L).length ≤ 4096) (hs : subKE n L ((q : Int) + 1) = 0) (hk : dvE n D = 0) (w : World) (h : EsAt w a L) (hd : IsAt w b D) :
    Calls Try.prog 27 #[gv n a L.length cap, .int .i64 ((q : Int) + 1), .slice b D.length c] w (GivesIKC w (D ++ List.replicate (q * (endsG L).length) 0) 0) := by
  obtain ⟨h0, q', hq, hqq, hx⟩ := subKE_zero hs
  obtain rfl : q = q' := by omega
  clear hqq
  have hln : (endsG L).length ≤ 50 * 100000 := by have := ends_all (right_of h0); omega
  have hp0 : 0 ≤ (q : Int) * ((endsG L).length : Int) := Int.mul_nonneg (by omega) (by omega)
  have hnr := chkG_n h0
  obtain ⟨N, hN⟩ : ∃ N : Nat, n + (q : Int) * (endsG L).length = N := ⟨(n + (q : Int) * (endsG L).length).toNat, by omega⟩
  have hM := makes_sub (right_of h0) hl q N hN (by omega)
  generalize joinT (cntT (subP n q (endsG L) (endsG L).length) (subP n q (endsG L) (endsG L).length).length) N N = J at *
  have HC := Lib.hid (fun w h => pSub_ok n a cap L hL q hq h0 hx N J 0 hM w h)
  have HDV := Lib.hid (fun w h hd => pcheckD_any n a cap L b c D hD w h hd)
  rw [hk] at HDV
  have hDn : (D.length : Int) = n := by
    unfold dvE at hk
    split at hk
    · omega
    · omega
  have hNq : (N : Int) = D.length + (q * (endsG L).length : Nat) := by rw [Int.natCast_mul]; omega
  have hrl : (D ++ List.replicate (q * (endsG L).length) 0).length = N := by rw [List.length_append, List.length_replicate]; omega
  have HRL := Lib.hid hrl
  have hrr : D ++ List.replicate (q * (endsG L).length) 0 = D ++ List.replicate (N - D.length) 0 := by rw [show N - D.length = q * (endsG L).length by omega]
  rw [hrr] at HRL ⊢
  clear hrl hrr
  have HCP := Lib.hid (fun (w : World) (g : Nat) (h : RowB encI 3 w g (List.replicate N 0)) => RowB.copied (D := D) h (by omega))
  generalize D ++ List.replicate (N - D.length) 0 = RR at *
  have hDl : D.length ≤ N := by omega
  have hN12 : N ≤ 12 := by omega
  have hD0 : 0 < D.length := by omega
  unfold GivesIKC gv at *
  unfold GivesGW at HC
  clear hM hN hp0 hln hs h0 hx hNq hk
  obtain ⟨W, hW⟩ : ∃ W, W = w.alloc (Obj.cells #[.int .i64 n, .slice a L.length cap] 24) := ⟨_, rfl⟩
  have hB0 : Below w.heap.size w W := by rw [hW]; exact (Below.refl _ w).alloc (Nat.le_refl _) _
  have hG : Blk W w.heap.size 24 #[.int .i64 n, .slice a L.length cap] := by rw [hW]; exact Blk.new _ _ _
  have hWs : W.heap.size = w.heap.size + 1 := by rw [hW]; simp
  have HW := Lib.hid hW
  have HWS := Lib.hid hWs
  have HB0 := Lib.hid hB0
  have HE := Lib.hid (h.keep hB0)
  have HF : Hid (∀ u, Below W.heap.size W u → u.cell? ⟨w.heap.size, 0, none⟩ = some (.int .i64 n) ∧ u.cell? ⟨w.heap.size, 1, none⟩ = some (.slice a L.length cap)) := Lib.hid fun u hu => ⟨(hG.below hu hG.lt).cell 0, (hG.below hu hG.lt).cell 1⟩
  obtain ⟨g0, g1⟩ := HF.out W (Below.refl _ _)
  have HD := Lib.hid (hd.keep hB0)
  clear hd hB0 hG hW hWs h
  go_enter Try.func27, Try.ntmps27
  go_wp2_with fail
  rw [← HW.out]
  refine (HC.out _ HE.out).mono ?_
  rintro r w1 ⟨a1, c1, rfl, -, hb⟩
  clear g0 g1
  obtain ⟨V, hV⟩ : ∃ V, V = w1.alloc (Obj.cells #[.int .i64 (N : Int), .slice a1 J.length c1] 24) := ⟨_, rfl⟩
  have hbV : Below W.heap.size W V := by rw [hV]; exact hb.alloc hb.size _
  have hvb : Blk V w1.heap.size 24 #[.int .i64 (N : Int), .slice a1 J.length c1] := by rw [hV]; exact Blk.new _ _ _
  obtain ⟨g0, g1⟩ := HF.out V hbV
  rw [hV] at g0 g1
  have HV := Lib.hid hV
  clear hV hb
  go_wp2_with fail
  rw [← HV.out]
  refine (HDV.out _ (HE.out.keep hbV) (HD.out.keep hbV)).mono ?_
  rintro r w2 ⟨rfl, hb2⟩
  have hk2 : Below W.heap.size W w2 := hbV.trans (hb2.mono hbV.size)
  have hvz : w2.cell? ⟨w1.heap.size, 0, none⟩ = some (.int .i64 (N : Int)) := (hvb.below hb2 hvb.lt).cell 0
  have hmk : (Instr.makeSlice 48 (.int .i64 (N : Int)) (.int .i64 (N : Int))).run Try.prog w2 = .ok (.slice (some ⟨w2.heap.size, 0, none⟩) N N) (w2.alloc (.cells (flat encI (List.replicate N 0)).toArray 3)) := make_divs N (by omega) _
  obtain ⟨x3, hx3⟩ : ∃ x3, x3 = w2.alloc (.cells (flat encI (List.replicate N 0)).toArray 3) := ⟨_, rfl⟩
  obtain ⟨gp, hgp⟩ : ∃ gp, gp = w2.heap.size := ⟨_, rfl⟩
  have hrb : RowB encI 3 x3 gp (List.replicate N 0) := by rw [hx3, hgp]; exact RowB.new _ _ _ _
  have hk3 : Below W.heap.size W x3 := by rw [hx3]; exact hk2.alloc hk2.size _
  have hD3 := HD.out.keep hk3
  rw [← hx3, ← hgp] at hmk
  obtain ⟨b2, o2, hbb, -, -⟩ := hD3.one 0 hD0
  subst hbb
  have hcp : ∀ ty, (Builtin.copy_ #[48, 48] ty #[.slice (some ⟨gp, 0, none⟩) N N, .slice (some ⟨b2, o2, none⟩) D.length c]).run Try.prog x3 = .ok (goInt (D.map fun z => Value.int .i64 z).length) (x3.setCells gp 0 (D.map fun z => Value.int .i64 z)) := fun ty =>
    run_copy_cells (P := Try.prog) x3 _ _ ty 3 gp 0 N N ⟨b2, o2, none⟩ D.length c (D.map fun z => Value.int .i64 z) Try.underlying48 infoD (by rw [List.length_map]; exact (Nat.min_eq_left hDl).symm)
      (fun j v hj => by
        have hjl : j < D.length := by have := (List.getElem?_eq_some_iff.1 hj).1; simpa using this
        obtain ⟨b3, o3, hb3, -, x1⟩ := hD3.one j hjl
        injection hb3 with hb3
        injection hb3 with e1 e2
        subst e1 e2
        rw [List.getElem?_map, List.getElem?_eq_getElem hjl, iAt_get D j hjl] at hj
        rw [Addr.add_lit, x1]; exact hj)
      (fun j hj => by
        rw [List.length_map] at hj
        rw [Nat.zero_add, hrb.cell j (by simp; omega)]; rfl)
      (fun j _ => Blk.frozen hrb _)
      (fun v hv => by
        obtain ⟨z, -, rfl⟩ := List.mem_map.1 hv
        rfl)
  have HEND : Hid (Below w.heap.size w (x3.setCells gp 0 (D.map fun z => Value.int .i64 z))) := Lib.hid (by
    have hg := grown_setCells gp (D.map fun z => Value.int .i64 z) 0 x3
    exact HB0.out.trans ((hk3.grown hg hk3.size (fun k hk => by injection hk with hk; rw [← hk, hgp]; exact hk2.size)).mono HB0.out.size))
  have HRW := Lib.hid (HCP.out x3 gp hrb)
  clear hrb hk3 hD3 hx3 hgp hk2 hb2 hbV hvb
  go_wp2
  go_ret2
  exact ⟨some ⟨gp, 0, none⟩, N, by rw [HRL.out]; rfl, HRW.out, Nat.le_of_eq HRL.out, HEND.out⟩
set_option maxHeartbeats 12800000 in
set_option maxRecDepth 100000 in
theorem dgr1_any (v : Int) (w : World) : Calls Try.prog 47 #[.int .i64 v] w (fun e w' => e = .returned (.bool (!smD v)) ∧ w = w') := by
  have HR : Hid (smD v = (decide (-1000 ≤ v) && decide (v ≤ 1000))) := Lib.hid rfl
  generalize smD v = R at *
  by_cases h1 : v < -1000
  · have d1 : decide (v < -1000) = true := decide_eq_true h1
    have HK : Hid ((!R) = true) := Lib.hid (by rw [HR.out, decide_eq_false (by omega)]; rfl)
    clear h1
    go_enter Try.func47, Try.ntmps47
    go_wp2
    go_ret
    exact ⟨by rw [HK.out]; rfl, rfl⟩
  · have d1 : decide (v < -1000) = false := decide_eq_false h1
    by_cases h2 : 1000 < v
    · have d2 : decide (1000 < v) = true := decide_eq_true h2
      have HK : Hid ((!R) = true) := Lib.hid (by rw [HR.out, decide_eq_false (p := v ≤ 1000) (by omega), Bool.and_false]; rfl)
      clear h1 h2
      go_enter Try.func47, Try.ntmps47
      go_wp2
      go_ret
      exact ⟨by rw [HK.out]; rfl, rfl⟩
    · have d2 : decide (1000 < v) = false := decide_eq_false h2
      have HK : Hid ((!R) = false) := Lib.hid (by rw [HR.out, decide_eq_true (by omega), decide_eq_true (by omega)]; rfl)
      clear h1 h2
      go_enter Try.func47, Try.ntmps47
      go_wp2
      go_ret
      exact ⟨by rw [HK.out]; rfl, rfl⟩
set_option maxHeartbeats 12800000 in
set_option maxRecDepth 100000 in
theorem dgr2_any (b : Option Addr) (c : Nat) (D : List Int) (hD : D.length ≤ 100000) (hB : ∀ i, i ≤ D.length → -1000000000 ≤ sumD (D.take i) ∧ sumD (D.take i) ≤ 1000000000) (w : World) (h : IsAt w b D) :
    Calls Try.prog 48 #[.slice b D.length c] w (fun e w' => e = .returned (.int .i64 (sumD D)) ∧ Below w.heap.size w w') := by
  have HD := Lib.hid h
  have HS := Lib.hid (fun i hi => sumD_take D i hi)
  have HT : Hid (sumD (D.take D.length) = sumD D) := Lib.hid (by rw [List.take_length])
  have HT0 : Hid (sumD (D.take 0) = 0) := Lib.hid rfl
  have HBB := Lib.hid hB
  clear h hB
  go_enter Try.func48, Try.ntmps48
  go_wp2
  go_loopw [3, 8] (fun s x wr => ∃ i : Nat, i ≤ D.length ∧ x = .int .i64 i ∧ s = .int .i64 (sumD (D.take i)) ∧ Below w.heap.size w wr) (fun _ x _ => D.length - (intOf x).toNat)
  case atStart => exact ⟨0, by omega, rfl, by rw [HT0.out], Below.refl _ _⟩
  case round =>
    obtain ⟨i, hi, rfl, rfl, hb⟩ := hrel
    by_cases hlt : i < D.length
    · have i1 : (i : Int) < (D.length : Int) := by omega
      have i2 : (0 : Int) ≤ (i : Int) := by omega
      obtain ⟨b1, o1, hbb, q1, x1⟩ := (HD.out.keep hb).one i hlt
      subst hbb
      have HSn := Lib.hid (HS.out i hlt)
      have h1 := HBB.out (i + 1) (by omega)
      rw [HSn.out] at h1
      generalize sumD (D.take i) = s at *
      generalize iAt D i = v at *
      have c1 : IntKind.i64.wrap (s + v) = s + v := IntWalk.i64_in _ (by omega)
      have HBr := Lib.hid hb
      clear hb h1
      go_wp2
      go_roundw
      case rel => exact ⟨i + 1, by omega, by go_num, by rw [HSn.out], HBr.out⟩
      case measure => simp [intOf]; omega
    · obtain rfl : i = D.length := by omega
      have i1 : ¬ (D.length : Int) < (D.length : Int) := by omega
      have HEND := Lib.hid hb
      clear hb
      rw [HT.out]
      go_wp2
      go_ret
      exact ⟨rfl, HEND.out⟩
theorem allS_take {D : List Int} {p : Int → Bool} {i : Nat} (hi : i < D.length) (h : (D.take i).all p = true) (hr : p (iAt D i) = true) : (D.take (i + 1)).all p = true := by
  rw [take_iAt D i hi, List.all_append, h]; simp [hr]
theorem allS_bad {D : List Int} {p : Int → Bool} {i : Nat} (hi : i < D.length) (hr : p (iAt D i) = false) : D.all p = false := by
  rw [Bool.eq_false_iff]
  intro h
  have := List.all_eq_true.1 h D[i] (List.getElem_mem _)
  rw [iAt_get D i hi, hr] at this
  cases this
set_option maxHeartbeats 12800000 in
set_option maxRecDepth 100000 in
theorem pindexD_any (b : Option Addr) (c : Nat) (D : List Int) (hD : D.length ≤ 100000) (w : World) (h : IsAt w b D) :
    Calls Try.prog 83 #[.slice b D.length c, (.func (.func 47) #[] #[])] w (fun e w' => ∃ z : Int, e = .returned (.int .i64 z) ∧ (decide (0 ≤ z)) = (!D.all smD) ∧ Below w.heap.size w w') := by
  have HD := Lib.hid h
  have HA := Lib.hid (fun i h1 h2 h3 => allS_take (D := D) (p := smD) (i := i) h1 h2 h3)
  have HBD := Lib.hid (fun i h1 h2 => allS_bad (D := D) (p := smD) (i := i) h1 h2)
  have HT : Hid ((D.take D.length).all smD = D.all smD) := Lib.hid (by rw [List.take_length])
  have H1 := Lib.hid dgr1_any
  clear h
  go_enter Try.func83, Try.ntmps83
  go_wp2
  go_loopw [8] (fun x wr => ∃ i : Nat, i ≤ D.length ∧ x = .int .i64 i ∧ (D.take i).all smD = true ∧ Below w.heap.size w wr) (fun x _ => D.length - (intOf x).toNat)
  case atStart => exact ⟨0, by omega, rfl, by simp, Below.refl _ _⟩
  case round =>
    obtain ⟨i, hi, rfl, hall, hb⟩ := hrel
    by_cases hlt : i < D.length
    · have i1 : (i : Int) < (D.length : Int) := by omega
      have i2 : (0 : Int) ≤ (i : Int) := by omega
      obtain ⟨b1, o1, hbb, q1, x1⟩ := (HD.out.keep hb).one i hlt
      subst hbb
      have HAL := Lib.hid hall
      have HBr := Lib.hid hb
      have HAi := Lib.hid (HA.out i hlt)
      have HBi := Lib.hid (HBD.out i hlt)
      generalize iAt D i = v at *
      have HRv := Lib.hid (fun w => H1.out v w)
      generalize smD v = R at *
      clear hall hb
      cases R
      · have HKv : Hid (decide ((0 : Int) ≤ (i : Int)) = (!D.all smD)) := Lib.hid (by rw [HBi.out rfl, decide_eq_true (by omega)]; rfl)
        go_wp2_with fail
        refine (HRv.out _).mono ?_
        rintro r w4 ⟨rfl, rfl⟩
        go_wp2
        go_ret
        exact ⟨i, rfl, HKv.out, HBr.out⟩
      · have HTn : Hid ((D.take (i + 1)).all smD = true) := Lib.hid (HAi.out HAL.out rfl)
        go_wp2_with fail
        refine (HRv.out _).mono ?_
        rintro r w4 ⟨rfl, rfl⟩
        go_wp2
        go_roundw
        case rel => exact ⟨i + 1, by omega, by go_num, HTn.out, HBr.out⟩
        case measure => simp [intOf]; omega
    · obtain rfl : i = D.length := by omega
      have i1 : ¬ (D.length : Int) < (D.length : Int) := by omega
      have HKv : Hid (decide ((0 : Int) ≤ -1) = (!D.all smD)) := Lib.hid (by rw [← HT.out, hall]; rfl)
      have HEND := Lib.hid hb
      clear hall hb
      go_wp2
      go_ret
      exact ⟨-1, rfl, HKv.out, HEND.out⟩
set_option maxHeartbeats 12800000 in
set_option maxRecDepth 100000 in
theorem pcontD_any (b : Option Addr) (c : Nat) (D : List Int) (hD : D.length ≤ 100000) (w : World) (h : IsAt w b D) :
    Calls Try.prog 46 #[.slice b D.length c, (.func (.func 47) #[] #[])] w (fun e w' => e = .returned (.bool (!D.all smD)) ∧ Below w.heap.size w w') := by
  go_enter Try.func46, Try.ntmps46
  go_wp2_with fail
  refine (pindexD_any b c D hD w h).mono ?_
  rintro r w1 ⟨z, rfl, hz, hb⟩
  have HZ := Lib.hid hz
  have HB := Lib.hid hb
  clear hz hb h
  go_wp2
  go_ret
  exact ⟨by rw [← HZ.out]; rfl, HB.out⟩
set_option maxHeartbeats 12800000 in
set_option maxRecDepth 100000 in
theorem degs_dark (n : Int) (a : Option Addr) (cap : Nat) (L : List E) (e : Int) (b : Option Addr) (c : Nat) (D : List Int)  (HRT : Hid (∀ w, EsAt w a L → Calls Try.prog 32 #[.agg #[.int .i64 n, .slice a L.length cap], .int .i64 e] w (fun e w' => e = .returned (.bool false) ∧ Below w.heap.size w w'))) (HA : AwakeC) (w : World) (h : EsAt w a L) (hd : IsAt w b D) :
    Calls Try.prog 10 #[gv n a L.length cap, .int .i64 e, .slice b D.length c] w (GivesB w true) := by
  unfold GivesB gv
  obtain ⟨W, hW⟩ : ∃ W, W = w.alloc (Obj.cells #[.int .i64 n, .slice a L.length cap] 24) := ⟨_, rfl⟩
  have hB0 : Below w.heap.size w W := by rw [hW]; exact (Below.refl _ w).alloc (Nat.le_refl _) _
  have hG : Blk W w.heap.size 24 #[.int .i64 n, .slice a L.length cap] := by rw [hW]; exact Blk.new _ _ _
  have HW := Lib.hid hW
  have HB0 := Lib.hid hB0
  have hEz : EsAt W a L := h.keep hB0
  have hVz : IsAt W b D := hd.keep hB0
  have HF : Hid (∀ x, Below W.heap.size W x → x.cell? ⟨w.heap.size, 0, none⟩ = some (.int .i64 n) ∧ x.cell? ⟨w.heap.size, 1, none⟩ = some (.slice a L.length cap) ∧ EsAt x a L ∧ IsAt x b D) := Lib.hid fun x hx => ⟨(hG.below hx hG.lt).cell 0, (hG.below hx hG.lt).cell 1, hEz.keep hx, hVz.keep hx⟩
  have hk0 : Below W.heap.size W W := Below.refl _ _
  obtain ⟨g0, g1, -⟩ := HF.out W hk0
  clear hB0 hG hW hEz h hVz hd
  go_enter Try.func10, Try.ntmps10
  go_wp2_with fail
  rw [← HW.out]
  refine (HRT.out _ (HF.out W hk0).2.2.1).mono ?_
  rintro e x1 ⟨rfl, hb1⟩
  have hk1 : Below W.heap.size W x1 := hk0.trans (hb1.mono hk0.size)
  clear hb1 hk0 g0 g1
  obtain ⟨g0, g1, -⟩ := HF.out x1 hk1
  go_wp2_with fail
  refine (HA _).mono ?_
  rintro e x2 ⟨rfl, hb2⟩
  have hk2 : Below W.heap.size W x2 := hk1.trans (hb2.mono hk1.size)
  clear hb2 hk1 g0 g1
  obtain ⟨g0, g1, -⟩ := HF.out x2 hk2
  have HEND := Lib.hid (HB0.out.trans (hk2.mono HB0.out.size))
  clear hk2 g0 g1
  go_wp2
  go_ret
  exact ⟨rfl, HEND.out⟩
set_option maxHeartbeats 12800000 in
set_option maxRecDepth 100000 in
theorem degs_len (n : Int) (a : Option Addr) (cap : Nat) (L : List E) (e : Int) (b : Option Addr) (c : Nat) (D : List Int) (hl : ¬ (D.length : Int) = n) (HRT : Hid (∀ w, EsAt w a L → Calls Try.prog 32 #[.agg #[.int .i64 n, .slice a L.length cap], .int .i64 e] w (fun e w' => e = .returned (.bool true) ∧ Below w.heap.size w w'))) (HA : AwakeC) (w : World) (h : EsAt w a L) (hd : IsAt w b D) :
    Calls Try.prog 10 #[gv n a L.length cap, .int .i64 e, .slice b D.length c] w (GivesB w true) := by
  unfold GivesB gv
  obtain ⟨W, hW⟩ : ∃ W, W = w.alloc (Obj.cells #[.int .i64 n, .slice a L.length cap] 24) := ⟨_, rfl⟩
  have hB0 : Below w.heap.size w W := by rw [hW]; exact (Below.refl _ w).alloc (Nat.le_refl _) _
  have hG : Blk W w.heap.size 24 #[.int .i64 n, .slice a L.length cap] := by rw [hW]; exact Blk.new _ _ _
  have HW := Lib.hid hW
  have HB0 := Lib.hid hB0
  have hEz : EsAt W a L := h.keep hB0
  have hVz : IsAt W b D := hd.keep hB0
  have HF : Hid (∀ x, Below W.heap.size W x → x.cell? ⟨w.heap.size, 0, none⟩ = some (.int .i64 n) ∧ x.cell? ⟨w.heap.size, 1, none⟩ = some (.slice a L.length cap) ∧ EsAt x a L ∧ IsAt x b D) := Lib.hid fun x hx => ⟨(hG.below hx hG.lt).cell 0, (hG.below hx hG.lt).cell 1, hEz.keep hx, hVz.keep hx⟩
  have hk0 : Below W.heap.size W W := Below.refl _ _
  obtain ⟨g0, g1, -⟩ := HF.out W hk0
  clear hB0 hG hW hEz h hVz hd
  have d1 : ((D.length : Int) != n) = true := by rw [bne_iff_ne]; exact hl
  go_enter Try.func10, Try.ntmps10
  go_wp2_with fail
  rw [← HW.out]
  refine (HRT.out _ (HF.out W hk0).2.2.1).mono ?_
  rintro e x1 ⟨rfl, hb1⟩
  have hk1 : Below W.heap.size W x1 := hk0.trans (hb1.mono hk0.size)
  clear hb1 hk0 g0 g1
  obtain ⟨g0, g1, -⟩ := HF.out x1 hk1
  go_wp2_with fail
  refine (HA _).mono ?_
  rintro e x2 ⟨rfl, hb2⟩
  have hk2 : Below W.heap.size W x2 := hk1.trans (hb2.mono hk1.size)
  clear hb2 hk1 g0 g1
  obtain ⟨g0, g1, -⟩ := HF.out x2 hk2
  have HEND := Lib.hid (HB0.out.trans (hk2.mono HB0.out.size))
  clear hk2 g0 g1
  go_wp2
  go_ret
  exact ⟨rfl, HEND.out⟩
set_option maxHeartbeats 12800000 in
set_option maxRecDepth 100000 in
theorem degs_big (n : Int) (a : Option Addr) (cap : Nat) (L : List E) (e : Int) (b : Option Addr) (c : Nat) (D : List Int) (hl : (D.length : Int) = n) (HRT : Hid (∀ w, EsAt w a L → Calls Try.prog 32 #[.agg #[.int .i64 n, .slice a L.length cap], .int .i64 e] w (fun e w' => e = .returned (.bool true) ∧ Below w.heap.size w w'))) (HCT : Hid (∀ w, IsAt w b D → Calls Try.prog 46 #[.slice b D.length c, (.func (.func 47) #[] #[])] w (fun e w' => e = .returned (.bool true) ∧ Below w.heap.size w w'))) (HA : AwakeC) (w : World) (h : EsAt w a L) (hd : IsAt w b D) :
    Calls Try.prog 10 #[gv n a L.length cap, .int .i64 e, .slice b D.length c] w (GivesB w true) := by
  unfold GivesB gv
  obtain ⟨W, hW⟩ : ∃ W, W = w.alloc (Obj.cells #[.int .i64 n, .slice a L.length cap] 24) := ⟨_, rfl⟩
  have hB0 : Below w.heap.size w W := by rw [hW]; exact (Below.refl _ w).alloc (Nat.le_refl _) _
  have hG : Blk W w.heap.size 24 #[.int .i64 n, .slice a L.length cap] := by rw [hW]; exact Blk.new _ _ _
  have HW := Lib.hid hW
  have HB0 := Lib.hid hB0
  have hEz : EsAt W a L := h.keep hB0
  have hVz : IsAt W b D := hd.keep hB0
  have HF : Hid (∀ x, Below W.heap.size W x → x.cell? ⟨w.heap.size, 0, none⟩ = some (.int .i64 n) ∧ x.cell? ⟨w.heap.size, 1, none⟩ = some (.slice a L.length cap) ∧ EsAt x a L ∧ IsAt x b D) := Lib.hid fun x hx => ⟨(hG.below hx hG.lt).cell 0, (hG.below hx hG.lt).cell 1, hEz.keep hx, hVz.keep hx⟩
  have hk0 : Below W.heap.size W W := Below.refl _ _
  obtain ⟨g0, g1, -⟩ := HF.out W hk0
  clear hB0 hG hW hEz h hVz hd
  have d1 : ((D.length : Int) != n) = false := by simpa using hl
  go_enter Try.func10, Try.ntmps10
  go_wp2_with fail
  rw [← HW.out]
  refine (HRT.out _ (HF.out W hk0).2.2.1).mono ?_
  rintro e x1 ⟨rfl, hb1⟩
  have hk1 : Below W.heap.size W x1 := hk0.trans (hb1.mono hk0.size)
  clear hb1 hk0 g0 g1
  obtain ⟨g0, g1, -⟩ := HF.out x1 hk1
  go_wp2_with fail
  refine (HCT.out _ (HF.out x1 hk1).2.2.2).mono ?_
  rintro e x2 ⟨rfl, hb2⟩
  have hk2 : Below W.heap.size W x2 := hk1.trans (hb2.mono hk1.size)
  clear hb2 hk1 g0 g1
  obtain ⟨g0, g1, -⟩ := HF.out x2 hk2
  go_wp2_with fail
  refine (HA _).mono ?_
  rintro e x3 ⟨rfl, hb3⟩
  have hk3 : Below W.heap.size W x3 := hk2.trans (hb3.mono hk2.size)
  clear hb3 hk2 g0 g1
  obtain ⟨g0, g1, -⟩ := HF.out x3 hk3
  have HEND := Lib.hid (HB0.out.trans (hk3.mono HB0.out.size))
  clear hk3 g0 g1
  go_wp2
  go_ret
  exact ⟨rfl, HEND.out⟩
set_option maxHeartbeats 12800000 in
set_option maxRecDepth 100000 in
theorem degs_many (n : Int) (a : Option Addr) (cap : Nat) (L : List E) (e : Int) (b : Option Addr) (c : Nat) (D : List Int) (hl : (D.length : Int) = n) (A : List Int) (m : Int) (hAm : (A.length : Int) = m) (J : List E) (s : Int) (HRT : Hid (∀ w, EsAt w a L → Calls Try.prog 32 #[.agg #[.int .i64 n, .slice a L.length cap], .int .i64 e] w (fun e w' => e = .returned (.bool true) ∧ Below w.heap.size w w'))) (HCT : Hid (∀ w, IsAt w b D → Calls Try.prog 46 #[.slice b D.length c, (.func (.func 47) #[] #[])] w (fun e w' => e = .returned (.bool false) ∧ Below w.heap.size w w'))) (HA : AwakeC) (HC : Hid (∀ w, EsAt w a L → IsAt w b D → Calls Try.prog 30 #[.agg #[.int .i64 n, .slice a L.length cap], .int .i64 e, .slice b D.length c] w (fun e w' => ∃ b1 d1, e = .returned (.tuple #[.slice b1 A.length d1, .int .i64 ((0 : Nat) : Int)]) ∧ IsAt w' b1 A ∧ Below w.heap.size w w'))) (HG : Hid (∀ w, EsAt w a L → Calls Try.prog 15 #[.agg #[.int .i64 n, .slice a L.length cap], .int .i64 e] w (fun e w' => ∃ a1 c1, e = .returned (.tuple #[.agg #[.int .i64 m, .slice a1 J.length c1], .int .i64 ((0 : Nat) : Int)]) ∧ EsAt w' a1 J ∧ Below w.heap.size w w'))) (HS1 : Hid (∀ b d w, IsAt w b A → Calls Try.prog 48 #[.slice b A.length d] w (fun e w' => e = .returned (.int .i64 s) ∧ Below w.heap.size w w'))) (HS2 : Hid (∀ b d w, IsAt w b D → Calls Try.prog 48 #[.slice b D.length d] w (fun e w' => e = .returned (.int .i64 s) ∧ Below w.heap.size w w'))) (HP : Hid (∀ w, EsAt w a L → IsAt w b D → Calls Try.prog 27 #[.agg #[.int .i64 n, .slice a L.length cap], .int .i64 2, .slice b D.length c] w (fun e w' => ∃ b1 d1, e = .returned (.tuple #[.slice b1 0 d1, .int .i64 5]) ∧ Below w.heap.size w w'))) (w : World) (h : EsAt w a L) (hd : IsAt w b D) :
    Calls Try.prog 10 #[gv n a L.length cap, .int .i64 e, .slice b D.length c] w (GivesB w true) := by
  unfold GivesB gv
  obtain ⟨W, hW⟩ : ∃ W, W = w.alloc (Obj.cells #[.int .i64 n, .slice a L.length cap] 24) := ⟨_, rfl⟩
  have hB0 : Below w.heap.size w W := by rw [hW]; exact (Below.refl _ w).alloc (Nat.le_refl _) _
  have hG : Blk W w.heap.size 24 #[.int .i64 n, .slice a L.length cap] := by rw [hW]; exact Blk.new _ _ _
  have HW := Lib.hid hW
  have HB0 := Lib.hid hB0
  have hEz : EsAt W a L := h.keep hB0
  have hVz : IsAt W b D := hd.keep hB0
  have HF : Hid (∀ x, Below W.heap.size W x → x.cell? ⟨w.heap.size, 0, none⟩ = some (.int .i64 n) ∧ x.cell? ⟨w.heap.size, 1, none⟩ = some (.slice a L.length cap) ∧ EsAt x a L ∧ IsAt x b D) := Lib.hid fun x hx => ⟨(hG.below hx hG.lt).cell 0, (hG.below hx hG.lt).cell 1, hEz.keep hx, hVz.keep hx⟩
  have hk0 : Below W.heap.size W W := Below.refl _ _
  obtain ⟨g0, g1, -⟩ := HF.out W hk0
  clear hB0 hG hW hEz h hVz hd
  have d1 : ((D.length : Int) != n) = false := by simpa using hl
  have d2 : ((A.length : Int) != m) = false := by simpa using hAm
  have d3 : (s != s) = false := by simp
  go_enter Try.func10, Try.ntmps10
  go_wp2_with fail
  rw [← HW.out]
  refine (HRT.out _ (HF.out W hk0).2.2.1).mono ?_
  rintro e x1 ⟨rfl, hb1⟩
  have hk1 : Below W.heap.size W x1 := hk0.trans (hb1.mono hk0.size)
  clear hb1 hk0 g0 g1
  obtain ⟨g0, g1, -⟩ := HF.out x1 hk1
  go_wp2_with fail
  refine (HCT.out _ (HF.out x1 hk1).2.2.2).mono ?_
  rintro e x2 ⟨rfl, hb2⟩
  have hk2 : Below W.heap.size W x2 := hk1.trans (hb2.mono hk1.size)
  clear hb2 hk1 g0 g1
  obtain ⟨g0, g1, -⟩ := HF.out x2 hk2
  go_wp2_with fail
  refine (HC.out _ (HF.out x2 hk2).2.2.1 (HF.out x2 hk2).2.2.2).mono ?_
  rintro e x3 ⟨b1, d1, rfl, hA_3, hb3⟩
  have hk3 : Below W.heap.size W x3 := hk2.trans (hb3.mono hk2.size)
  clear hb3 hk2 g0 g1
  obtain ⟨g0, g1, -⟩ := HF.out x3 hk3
  go_wp2_with fail
  refine (HG.out _ (HF.out x3 hk3).2.2.1).mono ?_
  rintro e x4 ⟨a2, c2, rfl, hJ_4, hb4⟩
  have hk4 : Below W.heap.size W x4 := hk3.trans (hb4.mono hk3.size)
  have hA_4 := hA_3.keep hb4
  clear hb4 hk3 g0 g1 hA_3
  obtain ⟨g0, g1, -⟩ := HF.out x4 hk4
  obtain ⟨Y1, hY1⟩ : ∃ Y, Y = x4.alloc (Obj.cells #[.int .i64 m, .slice a2 J.length c2] 24) := ⟨_, rfl⟩
  have hy : Below x4.heap.size x4 Y1 := by rw [hY1]; exact (Below.refl _ _).alloc (Nat.le_refl _) _
  have hz : Below W.heap.size W Y1 := hk4.trans (hy.mono hk4.size)
  have hQ : Blk Y1 x4.heap.size 24 #[.int .i64 m, .slice a2 J.length c2] := by rw [hY1]; exact Blk.new _ _ _
  have HBY1 : Hid (Below w.heap.size w Y1) := Lib.hid (HB0.out.trans (hz.mono HB0.out.size))
  have HFY1 : Hid (∀ x, Below Y1.heap.size Y1 x → x.cell? ⟨w.heap.size, 0, none⟩ = some (.int .i64 n) ∧ x.cell? ⟨w.heap.size, 1, none⟩ = some (.slice a L.length cap) ∧ x.cell? ⟨x4.heap.size, 0, none⟩ = some (.int .i64 m) ∧ x.cell? ⟨x4.heap.size, 1, none⟩ = some (.slice a2 J.length c2) ∧ EsAt x a L ∧ IsAt x b D ∧ IsAt x b1 A ∧ EsAt x a2 J) := Lib.hid fun x hx => ⟨(HF.out x (hz.trans (hx.mono hz.size))).1, (HF.out x (hz.trans (hx.mono hz.size))).2.1, (hQ.below hx hQ.lt).cell 0, (hQ.below hx hQ.lt).cell 1, (HF.out x (hz.trans (hx.mono hz.size))).2.2.1, (HF.out x (hz.trans (hx.mono hz.size))).2.2.2, (hA_4.keep hy).keep hx, (hJ_4.keep hy).keep hx⟩
  clear g0 g1 hk4 hz hQ hy hA_4 hJ_4
  have hk5 : Below Y1.heap.size Y1 Y1 := Below.refl _ _
  have g0 : (x4.alloc (Obj.cells #[.int .i64 m, .slice a2 J.length c2] 24)).cell? ⟨w.heap.size, 0, none⟩ = some (.int .i64 n) := by rw [← hY1]; exact (HFY1.out _ hk5).1
  have g1 : (x4.alloc (Obj.cells #[.int .i64 m, .slice a2 J.length c2] 24)).cell? ⟨w.heap.size, 1, none⟩ = some (.slice a L.length cap) := by rw [← hY1]; exact (HFY1.out _ hk5).2.1
  have g2 : (x4.alloc (Obj.cells #[.int .i64 m, .slice a2 J.length c2] 24)).cell? ⟨x4.heap.size, 0, none⟩ = some (.int .i64 m) := by rw [← hY1]; exact (HFY1.out _ hk5).2.2.1
  have g3 : (x4.alloc (Obj.cells #[.int .i64 m, .slice a2 J.length c2] 24)).cell? ⟨x4.heap.size, 1, none⟩ = some (.slice a2 J.length c2) := by rw [← hY1]; exact (HFY1.out _ hk5).2.2.2.1
  have HY1 := Lib.hid hY1
  clear hY1
  go_wp2_with fail
  rw [← HY1.out]
  refine (HS1.out _ _ _ (HFY1.out Y1 hk5).2.2.2.2.2.2.1).mono ?_
  rintro e x6 ⟨rfl, hb6⟩
  have hk6 : Below Y1.heap.size Y1 x6 := hk5.trans (hb6.mono hk5.size)
  clear hb6 hk5 g0 g1 g2 g3
  obtain ⟨g0, g1, g2, g3, -⟩ := HFY1.out x6 hk6
  go_wp2_with fail
  refine (HS2.out _ _ _ (HFY1.out x6 hk6).2.2.2.2.2.1).mono ?_
  rintro e x7 ⟨rfl, hb7⟩
  have hk7 : Below Y1.heap.size Y1 x7 := hk6.trans (hb7.mono hk6.size)
  clear hb7 hk6 g0 g1 g2 g3
  obtain ⟨g0, g1, g2, g3, -⟩ := HFY1.out x7 hk7
  go_wp2_with fail
  refine (HP.out _ (HFY1.out x7 hk7).2.2.2.2.1 (HFY1.out x7 hk7).2.2.2.2.2.1).mono ?_
  rintro e x8 ⟨b3, d3, rfl, hb8⟩
  have hk8 : Below Y1.heap.size Y1 x8 := hk7.trans (hb8.mono hk7.size)
  clear hb8 hk7 g0 g1 g2 g3
  obtain ⟨g0, g1, g2, g3, -⟩ := HFY1.out x8 hk8
  go_wp2_with fail
  refine (HA _).mono ?_
  rintro e x9 ⟨rfl, hb9⟩
  have hk9 : Below Y1.heap.size Y1 x9 := hk8.trans (hb9.mono hk8.size)
  clear hb9 hk8 g0 g1 g2 g3
  obtain ⟨g0, g1, g2, g3, -⟩ := HFY1.out x9 hk9
  have HEND := Lib.hid (HBY1.out.trans (hk9.mono HBY1.out.size))
  clear hk9 g0 g1 g2 g3
  go_wp2
  go_ret
  exact ⟨rfl, HEND.out⟩
set_option maxHeartbeats 12800000 in
set_option maxRecDepth 100000 in
theorem degs_ok (n : Int) (a : Option Addr) (cap : Nat) (L : List E) (e : Int) (b : Option Addr) (c : Nat) (D : List Int) (hl : (D.length : Int) = n) (A : List Int) (m : Int) (hAm : (A.length : Int) = m) (J : List E) (s : Int) (hDl : D.length ≤ 12) (B : List Int) (hBn : n ≤ B.length) (hBD : B.take D.length = D) (HRT : Hid (∀ w, EsAt w a L → Calls Try.prog 32 #[.agg #[.int .i64 n, .slice a L.length cap], .int .i64 e] w (fun e w' => e = .returned (.bool true) ∧ Below w.heap.size w w'))) (HCT : Hid (∀ w, IsAt w b D → Calls Try.prog 46 #[.slice b D.length c, (.func (.func 47) #[] #[])] w (fun e w' => e = .returned (.bool false) ∧ Below w.heap.size w w'))) (HA : AwakeC) (HC : Hid (∀ w, EsAt w a L → IsAt w b D → Calls Try.prog 30 #[.agg #[.int .i64 n, .slice a L.length cap], .int .i64 e, .slice b D.length c] w (fun e w' => ∃ b1 d1, e = .returned (.tuple #[.slice b1 A.length d1, .int .i64 ((0 : Nat) : Int)]) ∧ IsAt w' b1 A ∧ Below w.heap.size w w'))) (HG : Hid (∀ w, EsAt w a L → Calls Try.prog 15 #[.agg #[.int .i64 n, .slice a L.length cap], .int .i64 e] w (fun e w' => ∃ a1 c1, e = .returned (.tuple #[.agg #[.int .i64 m, .slice a1 J.length c1], .int .i64 ((0 : Nat) : Int)]) ∧ EsAt w' a1 J ∧ Below w.heap.size w w'))) (HS1 : Hid (∀ b d w, IsAt w b A → Calls Try.prog 48 #[.slice b A.length d] w (fun e w' => e = .returned (.int .i64 s) ∧ Below w.heap.size w w'))) (HS2 : Hid (∀ b d w, IsAt w b D → Calls Try.prog 48 #[.slice b D.length d] w (fun e w' => e = .returned (.int .i64 s) ∧ Below w.heap.size w w'))) (HP : Hid (∀ w, EsAt w a L → IsAt w b D → Calls Try.prog 27 #[.agg #[.int .i64 n, .slice a L.length cap], .int .i64 2, .slice b D.length c] w (fun e w' => ∃ b1 d1, e = .returned (.tuple #[.slice b1 B.length d1, .int .i64 ((0 : Nat) : Int)]) ∧ IsAt w' b1 B ∧ B.length ≤ d1 ∧ Below w.heap.size w w'))) (HS3 : Hid (∀ b d w, IsAt w b B → Calls Try.prog 48 #[.slice b B.length d] w (fun e w' => e = .returned (.int .i64 s) ∧ Below w.heap.size w w'))) (w : World) (h : EsAt w a L) (hd : IsAt w b D) :
    Calls Try.prog 10 #[gv n a L.length cap, .int .i64 e, .slice b D.length c] w (GivesB w true) := by
  unfold GivesB gv
  obtain ⟨W, hW⟩ : ∃ W, W = w.alloc (Obj.cells #[.int .i64 n, .slice a L.length cap] 24) := ⟨_, rfl⟩
  have hB0 : Below w.heap.size w W := by rw [hW]; exact (Below.refl _ w).alloc (Nat.le_refl _) _
  have hG : Blk W w.heap.size 24 #[.int .i64 n, .slice a L.length cap] := by rw [hW]; exact Blk.new _ _ _
  have HW := Lib.hid hW
  have HB0 := Lib.hid hB0
  have hEz : EsAt W a L := h.keep hB0
  have hVz : IsAt W b D := hd.keep hB0
  have HF : Hid (∀ x, Below W.heap.size W x → x.cell? ⟨w.heap.size, 0, none⟩ = some (.int .i64 n) ∧ x.cell? ⟨w.heap.size, 1, none⟩ = some (.slice a L.length cap) ∧ EsAt x a L ∧ IsAt x b D) := Lib.hid fun x hx => ⟨(hG.below hx hG.lt).cell 0, (hG.below hx hG.lt).cell 1, hEz.keep hx, hVz.keep hx⟩
  have hk0 : Below W.heap.size W W := Below.refl _ _
  obtain ⟨g0, g1, -⟩ := HF.out W hk0
  clear hB0 hG hW hEz h hVz hd
  have d1 : ((D.length : Int) != n) = false := by simpa using hl
  have d2 : ((A.length : Int) != m) = false := by simpa using hAm
  have d3 : (s != s) = false := by simp
  have l1 : n ≤ (B.length : Int) := by omega
  have HDN : Hid (n = (D.length : Int)) := Lib.hid hl.symm
  have HBD := Lib.hid hBD
  have hBD2 : D.length ≤ B.length := by omega
  clear hl hAm hBD
  go_enter Try.func10, Try.ntmps10
  go_wp2_with fail
  rw [← HW.out]
  refine (HRT.out _ (HF.out W hk0).2.2.1).mono ?_
  rintro e x1 ⟨rfl, hb1⟩
  have hk1 : Below W.heap.size W x1 := hk0.trans (hb1.mono hk0.size)
  clear hb1 hk0 g0 g1
  obtain ⟨g0, g1, -⟩ := HF.out x1 hk1
  go_wp2_with fail
  refine (HCT.out _ (HF.out x1 hk1).2.2.2).mono ?_
  rintro e x2 ⟨rfl, hb2⟩
  have hk2 : Below W.heap.size W x2 := hk1.trans (hb2.mono hk1.size)
  clear hb2 hk1 g0 g1
  obtain ⟨g0, g1, -⟩ := HF.out x2 hk2
  go_wp2_with fail
  refine (HC.out _ (HF.out x2 hk2).2.2.1 (HF.out x2 hk2).2.2.2).mono ?_
  rintro e x3 ⟨b1, d1, rfl, hA_3, hb3⟩
  have hk3 : Below W.heap.size W x3 := hk2.trans (hb3.mono hk2.size)
  clear hb3 hk2 g0 g1
  obtain ⟨g0, g1, -⟩ := HF.out x3 hk3
  go_wp2_with fail
  refine (HG.out _ (HF.out x3 hk3).2.2.1).mono ?_
  rintro e x4 ⟨a2, c2, rfl, hJ_4, hb4⟩
  have hk4 : Below W.heap.size W x4 := hk3.trans (hb4.mono hk3.size)
  have hA_4 := hA_3.keep hb4
  clear hb4 hk3 g0 g1 hA_3
  obtain ⟨g0, g1, -⟩ := HF.out x4 hk4
  obtain ⟨Y1, hY1⟩ : ∃ Y, Y = x4.alloc (Obj.cells #[.int .i64 m, .slice a2 J.length c2] 24) := ⟨_, rfl⟩
  have hy : Below x4.heap.size x4 Y1 := by rw [hY1]; exact (Below.refl _ _).alloc (Nat.le_refl _) _
  have hz : Below W.heap.size W Y1 := hk4.trans (hy.mono hk4.size)
  have hQ : Blk Y1 x4.heap.size 24 #[.int .i64 m, .slice a2 J.length c2] := by rw [hY1]; exact Blk.new _ _ _
  have HBY1 : Hid (Below w.heap.size w Y1) := Lib.hid (HB0.out.trans (hz.mono HB0.out.size))
  have HFY1 : Hid (∀ x, Below Y1.heap.size Y1 x → x.cell? ⟨w.heap.size, 0, none⟩ = some (.int .i64 n) ∧ x.cell? ⟨w.heap.size, 1, none⟩ = some (.slice a L.length cap) ∧ x.cell? ⟨x4.heap.size, 0, none⟩ = some (.int .i64 m) ∧ x.cell? ⟨x4.heap.size, 1, none⟩ = some (.slice a2 J.length c2) ∧ EsAt x a L ∧ IsAt x b D ∧ IsAt x b1 A ∧ EsAt x a2 J) := Lib.hid fun x hx => ⟨(HF.out x (hz.trans (hx.mono hz.size))).1, (HF.out x (hz.trans (hx.mono hz.size))).2.1, (hQ.below hx hQ.lt).cell 0, (hQ.below hx hQ.lt).cell 1, (HF.out x (hz.trans (hx.mono hz.size))).2.2.1, (HF.out x (hz.trans (hx.mono hz.size))).2.2.2, (hA_4.keep hy).keep hx, (hJ_4.keep hy).keep hx⟩
  clear g0 g1 hk4 hz hQ hy hA_4 hJ_4
  have hk5 : Below Y1.heap.size Y1 Y1 := Below.refl _ _
  have g0 : (x4.alloc (Obj.cells #[.int .i64 m, .slice a2 J.length c2] 24)).cell? ⟨w.heap.size, 0, none⟩ = some (.int .i64 n) := by rw [← hY1]; exact (HFY1.out _ hk5).1
  have g1 : (x4.alloc (Obj.cells #[.int .i64 m, .slice a2 J.length c2] 24)).cell? ⟨w.heap.size, 1, none⟩ = some (.slice a L.length cap) := by rw [← hY1]; exact (HFY1.out _ hk5).2.1
  have g2 : (x4.alloc (Obj.cells #[.int .i64 m, .slice a2 J.length c2] 24)).cell? ⟨x4.heap.size, 0, none⟩ = some (.int .i64 m) := by rw [← hY1]; exact (HFY1.out _ hk5).2.2.1
  have g3 : (x4.alloc (Obj.cells #[.int .i64 m, .slice a2 J.length c2] 24)).cell? ⟨x4.heap.size, 1, none⟩ = some (.slice a2 J.length c2) := by rw [← hY1]; exact (HFY1.out _ hk5).2.2.2.1
  have HY1 := Lib.hid hY1
  clear hY1
  go_wp2_with fail
  rw [← HY1.out]
  refine (HS1.out _ _ _ (HFY1.out Y1 hk5).2.2.2.2.2.2.1).mono ?_
  rintro e x6 ⟨rfl, hb6⟩
  have hk6 : Below Y1.heap.size Y1 x6 := hk5.trans (hb6.mono hk5.size)
  clear hb6 hk5 g0 g1 g2 g3
  obtain ⟨g0, g1, g2, g3, -⟩ := HFY1.out x6 hk6
  go_wp2_with fail
  refine (HS2.out _ _ _ (HFY1.out x6 hk6).2.2.2.2.2.1).mono ?_
  rintro e x7 ⟨rfl, hb7⟩
  have hk7 : Below Y1.heap.size Y1 x7 := hk6.trans (hb7.mono hk6.size)
  clear hb7 hk6 g0 g1 g2 g3
  obtain ⟨g0, g1, g2, g3, -⟩ := HFY1.out x7 hk7
  go_wp2_with fail
  refine (HP.out _ (HFY1.out x7 hk7).2.2.2.2.1 (HFY1.out x7 hk7).2.2.2.2.2.1).mono ?_
  rintro e x8 ⟨b3, d3, rfl, hB_8, hcp, hb8⟩
  have hk8 : Below Y1.heap.size Y1 x8 := hk7.trans (hb8.mono hk7.size)
  clear hb8 hk7 g0 g1 g2 g3
  obtain ⟨g0, g1, g2, g3, -⟩ := HFY1.out x8 hk8
  go_wp2_with fail
  refine (HS3.out _ _ _ hB_8).mono ?_
  rintro e x9 ⟨rfl, hb9⟩
  have hk9 : Below Y1.heap.size Y1 x9 := hk8.trans (hb9.mono hk8.size)
  have hB_9 := hB_8.keep hb9
  clear hb9 hk8 g0 g1 g2 g3 hB_8
  obtain ⟨g0, g1, g2, g3, -⟩ := HFY1.out x9 hk9
  go_wp2_with fail
  refine (HS2.out _ _ _ (HFY1.out x9 hk9).2.2.2.2.2.1).mono ?_
  rintro e x10 ⟨rfl, hb10⟩
  have hk10 : Below Y1.heap.size Y1 x10 := hk9.trans (hb10.mono hk9.size)
  have hB_10 := hB_9.keep hb10
  clear hb10 hk9 g0 g1 g2 g3 hB_9
  obtain ⟨g0, g1, g2, g3, -⟩ := HFY1.out x10 hk10
  have hT_10 : IsAt x10 b3 D := by have := hB_10.take D.length; rwa [HBD.out] at this
  rw [HDN.out] at g0
  have l3 : ¬ d3 < D.length := by omega
  go_wp2_with fail
  refine (pequalD_true b3 b d3 c D (by omega) _ hT_10 (HFY1.out x10 hk10).2.2.2.2.2.1).mono ?_
  rintro e x11 ⟨rfl, hb11⟩
  have hk11 : Below Y1.heap.size Y1 x11 := hk10.trans (hb11.mono hk10.size)
  have hB_11 := hB_10.keep hb11
  have hT_11 := hT_10.keep hb11
  clear hb11 hk10 g0 g1 g2 g3 hB_10 hT_10
  obtain ⟨g0, g1, g2, g3, -⟩ := HFY1.out x11 hk11
  go_wp2_with fail
  refine (HA _).mono ?_
  rintro e x12 ⟨rfl, hb12⟩
  have hk12 : Below Y1.heap.size Y1 x12 := hk11.trans (hb12.mono hk11.size)
  have hB_12 := hB_11.keep hb12
  have hT_12 := hT_11.keep hb12
  clear hb12 hk11 g0 g1 g2 g3 hB_11 hT_11
  obtain ⟨g0, g1, g2, g3, -⟩ := HFY1.out x12 hk12
  have HEND := Lib.hid (HBY1.out.trans (hk12.mono HBY1.out.size))
  clear hk12 g0 g1 g2 g3
  go_wp2
  go_ret
  exact ⟨rfl, HEND.out⟩
end Go.Proofs.Ytndjjafpdiehdaa
