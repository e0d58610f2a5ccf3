/- The law of handshakes. -/
import Derived.Test.YtjaafneoinidkaaHq
namespace Go.Proofs.Ytjaafneoinidkaa
open Go.RowKit Go.Shelf Go.Proofs.Gr
attribute [local go_sem] Oper.semAt_some

theorem bet_size {n : Int} {L : List E} (h : ∀ e ∈ L, 0 ≤ e.a ∧ e.a ≤ e.b ∧ e.b < n ∧ 1 ≤ e.m ∧ e.m ≤ 50) (p q : Int) : 0 ≤ bet p q L ∧ bet p q L ≤ sizeG L := by
  refine ⟨bet_nonneg h p q, ?_⟩
  unfold sizeG
  induction L with
  | nil => exact Int.le_refl 0
  | cons e r ih =>
    have h1 := ih (fun x hx => h x (by simp [hx]))
    have h2 := h e (by simp)
    rw [bet, sumL]; split <;> omega
theorem oth_le {n : Int} {L : List E} (h : ∀ e ∈ L, 0 ≤ e.a ∧ e.a ≤ e.b ∧ e.b < n ∧ 1 ≤ e.m ∧ e.m ≤ 50) (v : Int) : 0 ≤ sumL (othE v) L ∧ sumL (othE v) L ≤ sizeG L := by
  unfold sizeG
  induction L with
  | nil => exact ⟨Int.le_refl 0, Int.le_refl 0⟩
  | cons e r ih =>
    have h1 := ih (fun x hx => h x (by simp [hx]))
    have h2 := h e (by simp)
    have h3 : 0 ≤ othE v e ∧ othE v e ≤ e.m := by
      unfold othE
      split
      · omega
      · split <;> omega
    rw [sumL, sumL]; omega
theorem sumZ_congr (f g : Int → Int) (n : Nat) (h : ∀ u : Nat, u < n → f u = g u) : sumZ f n = sumZ g n := by
  induction n with
  | zero => rfl
  | succ n ih => rw [sumZ, sumZ, ih (fun u hu => h u (by omega)), h n (by omega)]
theorem sumZ_bound (f : Int → Int) (n : Nat) (c : Int) (h : ∀ u : Nat, u < n → 0 ≤ f u ∧ f u ≤ c) : 0 ≤ sumZ f n ∧ sumZ f n ≤ c * n := by
  induction n with
  | zero => simp [sumZ]
  | succ n ih =>
    have h1 := ih (fun u hu => h u (by omega))
    have h2 := h n (by omega)
    have h3 : c * ((n + 1 : Nat) : Int) = c * n + c := by rw [Int.natCast_add, Int.mul_add]; simp
    rw [sumZ, h3]; omega
/-- The degrees add up to twice the size. -/
theorem shake {N : Nat} {L : List E} (h : ∀ e ∈ L, 0 ≤ e.a ∧ e.a ≤ e.b ∧ e.b < (N : Int) ∧ 1 ≤ e.m ∧ e.m ≤ 50) : sumZ (fun v => 2 * sumL (loopE v) L + sumL (othE v) L) N = 2 * sizeG L := by
  unfold sizeG
  induction L with
  | nil => exact sumZ_zero _ _ fun u _ => by simp [sumL]
  | cons e r ih =>
    have h1 := ih (fun x hx => h x (by simp [hx]))
    have h2 := h e (by simp)
    have e1 : sumZ (fun v => 2 * sumL (loopE v) (e :: r) + sumL (othE v) (e :: r)) N = sumZ (fun v => (2 * loopE v e + othE v e) + (2 * sumL (loopE v) r + sumL (othE v) r)) N :=
      sumZ_congr _ _ _ fun u _ => by simp only [sumL]; omega
    rw [e1, sumZ_add, h1, sumL]
    have ha : e.a.toNat < N := by omega
    have hb : e.b.toNat < N := by omega
    have hA : ((e.a.toNat : Nat) : Int) = e.a := by omega
    have hB : ((e.b.toNat : Nat) : Int) = e.b := by omega
    have e2 : sumZ (fun v => 2 * loopE v e + othE v e) N = 2 * e.m := by
      by_cases hab : e.a = e.b
      · rw [sumZ_one _ N e.a.toNat ha]
        · unfold loopE othE
          rw [hA, if_pos ⟨rfl, hab.symm⟩, if_pos ⟨rfl, hab.symm⟩]; omega
        · intro u _ hne
          unfold loopE othE
          have hu : ¬ e.a = (u : Int) := by omega
          rw [if_neg (fun h => hu h.1), if_neg (fun h => hu h.1), if_neg (by omega)]; rfl
      · have e3 : sumZ (fun v => 2 * loopE v e + othE v e) N = sumZ (fun v => (if e.a = v then e.m else 0) + (if e.b = v then e.m else 0)) N :=
          sumZ_congr _ _ _ fun u _ => by
            unfold loopE othE
            rw [if_neg (by omega), if_neg (by omega)]
            by_cases k1 : e.a = (u : Int)
            · rw [if_pos (.inl k1), if_pos k1, if_neg (by omega)]; omega
            · rw [if_neg k1]
              by_cases k2 : e.b = (u : Int)
              · rw [if_pos (.inr k2), if_pos k2]; omega
              · rw [if_neg (by omega), if_neg k2]; omega
        rw [e3, sumZ_add, sumZ_one _ N e.a.toNat ha, sumZ_one _ N e.b.toNat hb]
        · rw [hA, hB, if_pos rfl, if_pos rfl]; omega
        · intro u _ hne; rw [if_neg (by omega)]
        · intro u _ hne; rw [if_neg (by omega)]
    rw [e2]; omega
set_option maxHeartbeats 12800000 in
set_option maxRecDepth 100000 in
theorem shakes_dark (n : Int) (a : Option Addr) (cap : Nat) (L : List E) (HRI : Hid (∀ w, EsAt w a L → Calls Try.prog 48 #[.agg #[.int .i64 n, .slice a L.length cap]] w (fun e w' => e = .returned (.bool false) ∧ Below w.heap.size w w'))) (HA : Awake) (w : World) (h : EsAt w a L) :
    Calls Try.prog 8 #[gv n a L.length cap] w (GivesB w true) := by
  unfold GivesB gv
  obtain ⟨W, hW⟩ : ∃ W, W = w.alloc (Obj.cells #[.int .i64 n, .slice a L.length cap] 24) := ⟨_, rfl⟩
  have hB0 : Below w.heap.size w W := by rw [hW]; exact (Below.refl _ w).alloc (Nat.le_refl _) _
  have hG : Blk W w.heap.size 24 #[.int .i64 n, .slice a L.length cap] := by rw [hW]; exact Blk.new _ _ _
  have HW := Lib.hid hW
  have HB0 := Lib.hid hB0
  have hEz : EsAt W a L := h.keep hB0
  have HF : Hid (∀ x, Below W.heap.size W x → x.cell? ⟨w.heap.size, 0, none⟩ = some (.int .i64 n) ∧ x.cell? ⟨w.heap.size, 1, none⟩ = some (.slice a L.length cap) ∧ EsAt x a L) := Lib.hid fun x hx => ⟨(hG.below hx hG.lt).cell 0, (hG.below hx hG.lt).cell 1, hEz.keep hx⟩
  have hk0 : Below W.heap.size W W := Below.refl _ _
  obtain ⟨g0, g1, -⟩ := HF.out W hk0
  clear hB0 hG hW hEz h
  go_enter Try.func8, Try.ntmps8
  go_wp2_with fail
  rw [← HW.out]
  refine (HRI.out _ (HF.out W hk0).2.2).mono ?_
  rintro e x1 ⟨rfl, hb1⟩
  have hk1 : Below W.heap.size W x1 := hk0.trans (hb1.mono hk0.size)
  clear hb1 hk0 g0 g1
  obtain ⟨g0, g1, -⟩ := HF.out x1 hk1
  go_wp2_with fail
  refine (HA _).mono ?_
  rintro e x2 ⟨rfl, hb2⟩
  have hk2 : Below W.heap.size W x2 := hk1.trans (hb2.mono hk1.size)
  clear hb2 hk1 g0 g1
  obtain ⟨g0, g1, -⟩ := HF.out x2 hk2
  have HEND := Lib.hid (HB0.out.trans (hk2.mono HB0.out.size))
  clear hk2 g0 g1
  go_wp2
  go_ret
  exact ⟨rfl, HEND.out⟩
set_option maxHeartbeats 12800000 in
set_option maxRecDepth 100000 in
theorem shakes_ok (n : Int) (a : Option Addr) (cap : Nat) (L : List E) (N : Nat) (hn : n = N) (hN12 : N ≤ 12) (S : Int) (B : Nat → Nat → Int) (V sU : Nat → Int) (nU : Nat → Nat → Int) (HRI : Hid (∀ w, EsAt w a L → Calls Try.prog 48 #[.agg #[.int .i64 n, .slice a L.length cap]] w (fun e w' => e = .returned (.bool true) ∧ Below w.heap.size w w'))) (HA : Awake) (HS : Hid (∀ w, EsAt w a L → Calls Try.prog 15 #[.agg #[.int .i64 n, .slice a L.length cap]] w (fun e w' => e = .returned (.tuple #[.int .i64 S, .int .i64 0]) ∧ Below w.heap.size w w'))) (HD : Hid (∀ v : Nat, v < N → ∀ w, EsAt w a L → Calls Try.prog 27 #[.agg #[.int .i64 (N : Int), .slice a L.length cap], .int .i64 (v : Int)] w (fun e w' => e = .returned (.tuple #[.int .i64 (V v + 2 * B v v), .int .i64 0]) ∧ Below w.heap.size w w'))) (HWv : Hid (∀ v : Nat, v < N → ∀ w, EsAt w a L → Calls Try.prog 28 #[.agg #[.int .i64 (N : Int), .slice a L.length cap], .int .i64 (v : Int)] w (fun e w' => e = .returned (.tuple #[.int .i64 (V v), .int .i64 0]) ∧ Below w.heap.size w w'))) (HBt : Hid (∀ v u : Nat, v < N → u < N → ∀ w, EsAt w a L → Calls Try.prog 30 #[.agg #[.int .i64 (N : Int), .slice a L.length cap], .int .i64 (v : Int), .int .i64 (u : Int)] w (fun e w' => e = .returned (.tuple #[.int .i64 (B v u), .int .i64 0]) ∧ Below w.heap.size w w'))) (HS0 : Hid (sU 0 = 0)) (HSS : Hid (∀ v, v < N → sU (v + 1) = sU v + 2 * B v v + V v)) (HSN : Hid (sU N = 2 * S)) (HSB : Hid (0 ≤ S ∧ S ≤ 100000)) (HN0 : Hid (∀ v, nU v 0 = 0)) (HNS : Hid (∀ v u, v < N → u < N → (nU v (u + 1) = if u = v then nU v u else nU v u + B v u) ∧ 0 ≤ nU v u ∧ nU v u ≤ 100000)) (HNE : Hid (∀ v, v < N → nU v N = V v)) (HBD : Hid (∀ v, v < N → 0 ≤ V v ∧ V v ≤ 100000 ∧ 0 ≤ B v v ∧ B v v ≤ 100000 ∧ 0 ≤ sU v ∧ sU v ≤ 1000000)) (HBB0 : Hid (∀ v u, v < N → u < N → 0 ≤ B v u ∧ B v u ≤ 100000)) (w : World) (h : EsAt w a L) :
    Calls Try.prog 8 #[gv n a L.length cap] w (GivesB w true) := by
  unfold GivesB gv
  obtain ⟨W, hW⟩ : ∃ W, W = w.alloc (Obj.cells #[.int .i64 n, .slice a L.length cap] 24) := ⟨_, rfl⟩
  have hB0 : Below w.heap.size w W := by rw [hW]; exact (Below.refl _ w).alloc (Nat.le_refl _) _
  have hG : Blk W w.heap.size 24 #[.int .i64 n, .slice a L.length cap] := by rw [hW]; exact Blk.new _ _ _
  have HW := Lib.hid hW
  have HB0 := Lib.hid hB0
  have hEz : EsAt W a L := h.keep hB0
  have HF : Hid (∀ x, Below W.heap.size W x → x.cell? ⟨w.heap.size, 0, none⟩ = some (.int .i64 n) ∧ x.cell? ⟨w.heap.size, 1, none⟩ = some (.slice a L.length cap) ∧ EsAt x a L) := Lib.hid fun x hx => ⟨(hG.below hx hG.lt).cell 0, (hG.below hx hG.lt).cell 1, hEz.keep hx⟩
  have hk0 : Below W.heap.size W W := Below.refl _ _
  obtain ⟨g0, g1, -⟩ := HF.out W hk0
  clear hB0 hG hW hEz h
  have HN := Lib.hid hn
  clear hn
  go_enter Try.func8, Try.ntmps8
  go_wp2_with fail
  rw [← HW.out]
  refine (HRI.out _ (HF.out W hk0).2.2).mono ?_
  rintro e x1 ⟨rfl, hb1⟩
  have hk1 : Below W.heap.size W x1 := hk0.trans (hb1.mono hk0.size)
  clear hb1 hk0 g0 g1
  obtain ⟨g0, g1, -⟩ := HF.out x1 hk1
  go_wp2_with fail
  refine (HS.out _ (HF.out x1 hk1).2.2).mono ?_
  rintro e x2 ⟨rfl, hb2⟩
  have hk2 : Below W.heap.size W x2 := hk1.trans (hb2.mono hk1.size)
  clear hb2 hk1 g0 g1
  obtain ⟨g0, g1, -⟩ := HF.out x2 hk2
  have HBk := Lib.hid hk2
  rw [HN.out] at g0
  clear hk2
  go_wp2
  clear g0 g1
  go_loopw [5, 26] (fun s x wr => ∃ v : Nat, v ≤ N ∧ x = .int .i64 v ∧ s = .int .i64 (sU v) ∧ Below W.heap.size W wr) (fun _ x _ => N - (intOf x).toNat)
  case atStart => exact ⟨0, by omega, rfl, by rw [HS0.out], HBk.out⟩
  case round =>
    obtain ⟨v, hv, rfl, rfl, hb⟩ := hrel
    by_cases hlt : v < N
    · have i1 : (v : Int) < (N : Int) := by omega
      have HD1 := Lib.hid (fun w h => HD.out v hlt w h)
      have HW1 := Lib.hid (fun w h => HWv.out v hlt w h)
      have HB1 := Lib.hid (fun u hu w h => HBt.out v u hlt hu w h)
      have HSs := Lib.hid (HSS.out v hlt)
      have HNv := Lib.hid (fun u hu => HNS.out v u hlt hu)
      have HNN := Lib.hid (HNE.out v hlt)
      have HN0' := Lib.hid (HN0.out v)
      have bd := HBD.out v hlt
      have HBB := Lib.hid (fun u hu => HBB0.out v u hlt hu)
      obtain ⟨dU, hdU⟩ : ∃ f : Nat → Int, f = fun u => if v < u then V v else V v + 2 * B v v := ⟨_, rfl⟩
      obtain ⟨tU, htU⟩ : ∃ f : Nat → Int, f = fun u => if v < u then sU v + 2 * B v v else sU v := ⟨_, rfl⟩
      have Hd0 : Hid (dU 0 = V v + 2 * B v v) := Lib.hid (by rw [hdU]; simp)
      have Ht0 : Hid (tU 0 = sU v) := Lib.hid (by rw [htU]; simp)
      have HdN : Hid (dU N = V v) := Lib.hid (by rw [hdU]; simp only; rw [if_pos hlt])
      have HtN : Hid (tU N = sU v + 2 * B v v) := Lib.hid (by rw [htU]; simp only; rw [if_pos hlt])
      have Hds : Hid (∀ u, u ≠ v → dU (u + 1) = dU u ∧ tU (u + 1) = tU u) := Lib.hid fun u hu => by
        rw [hdU, htU]
        by_cases e : v < u
        · simp only; rw [if_pos e, if_pos (by omega), if_pos e, if_pos (by omega)]; exact ⟨rfl, rfl⟩
        · simp only; rw [if_neg e, if_neg (by omega), if_neg e, if_neg (by omega)]; exact ⟨rfl, rfl⟩
      have Hdv : Hid (dU v = V v + 2 * B v v ∧ dU (v + 1) = V v ∧ tU v = sU v ∧ tU (v + 1) = sU v + 2 * B v v) := Lib.hid (by
        rw [hdU, htU]
        simp)
      clear hdU htU
      have hk3 := hb
      obtain ⟨g0, g1, -⟩ := HF.out wr hk3
      rw [HN.out] at g0
      go_wp2_with fail
      refine (HD1.out _ (HF.out wr hk3).2.2).mono ?_
      rintro e x4 ⟨rfl, hb4⟩
      have hk4 : Below W.heap.size W x4 := hk3.trans (hb4.mono hk3.size)
      clear hb4 hk3 g0 g1
      obtain ⟨g0, g1, -⟩ := HF.out x4 hk4
      rw [HN.out] at g0
      go_wp2_with fail
      refine (HW1.out _ (HF.out x4 hk4).2.2).mono ?_
      rintro e x5 ⟨rfl, hb5⟩
      have hk5 : Below W.heap.size W x5 := hk4.trans (hb5.mono hk4.size)
      clear hb5 hk4 g0 g1
      obtain ⟨g0, g1, -⟩ := HF.out x5 hk5
      rw [HN.out] at g0
      have HBk2 := Lib.hid hk5
      clear hk5 hb
      go_wp2
      clear g0 g1
      go_loopw [5, 7, 11, 43] (fun s d m x wr => ∃ u : Nat, u ≤ N ∧ x = .int .i64 u ∧ s = .int .i64 (tU u) ∧ d = .int .i64 (dU u) ∧ m = .int .i64 (nU v u) ∧ Below W.heap.size W wr) (fun _ _ _ x _ => N - (intOf x).toNat)
      case atStart => exact ⟨0, by omega, rfl, by rw [Ht0.out], by rw [Hd0.out], by rw [HN0'.out], HBk2.out⟩
      case round =>
        obtain ⟨u, hu, rfl, rfl, rfl, rfl, hb⟩ := hrel
        by_cases hlu : u < N
        · have i2 : (u : Int) < (N : Int) := by omega
          have HB2 := Lib.hid (fun w h => HB1.out u hlu w h)
          have hnb := HNv.out u hlu
          have hbb := HBB.out u hlu
          have hk6 := hb
          obtain ⟨g0, g1, -⟩ := HF.out wr hk6
          rw [HN.out] at g0
          clear hb
          go_wp2_with fail
          refine (HB2.out _ (HF.out wr hk6).2.2).mono ?_
          rintro e x7 ⟨rfl, hb7⟩
          have hk7 : Below W.heap.size W x7 := hk6.trans (hb7.mono hk6.size)
          clear hb7 hk6 g0 g1
          obtain ⟨g0, g1, -⟩ := HF.out x7 hk7
          have HBk3 := Lib.hid hk7
          clear hk7 g0 g1
          have c1 : IntKind.i64.wrap (nU v u + B v u) = nU v u + B v u := IntWalk.i64_in _ (by omega)
          by_cases e : u = v
          · subst e
            have hdv := Hdv.out
            have Hn1 : Hid (nU u (u + 1) = nU u u) := Lib.hid (by have := hnb.1; rw [if_pos rfl] at this; exact this)
            rw [hdv.1, hdv.2.2.1]
            have c3 : IntKind.i64.wrap (2 * B u u) = 2 * B u u := IntWalk.i64_in _ (by omega)
            have C4 : Hid (wrap64 (V u) = V u) := Lib.hid (IntWalk.wrap64_in _ (by omega))
            have C2 : Hid (wrap64 (nU u u) = nU u u) := Lib.hid (IntWalk.wrap64_in _ (by omega))
            have c5 : IntKind.i64.wrap (sU u + 2 * B u u) = sU u + 2 * B u u := IntWalk.i64_in _ (by omega)
            have Hdv2 := Lib.hid hdv
            clear hdv hnb hbb bd
            go_wp2
            go_roundw
            case rel => exact ⟨u + 1, by omega, by go_num, by rw [Hdv2.out.2.2.2], by rw [Hdv2.out.2.1, C4.out], by rw [Hn1.out, C2.out], HBk3.out⟩
            case measure => simp [intOf]; omega
          · have hds := Hds.out u e
            have Hn1 : Hid (nU v (u + 1) = nU v u + B v u) := Lib.hid (by have := hnb.1; rw [if_neg e] at this; exact this)
            have q1 : ((u : Int) == (v : Int)) = false := by rw [beq_eq_false_iff_ne]; omega
            have Hds2 := Lib.hid hds
            clear hds hnb hbb bd e
            go_wp2
            go_roundw
            case rel => exact ⟨u + 1, by omega, by go_num, by rw [Hds2.out.2], by rw [Hds2.out.1], by rw [Hn1.out], HBk3.out⟩
            case measure => simp [intOf]; omega
        · obtain rfl : u = N := by omega
          have HBk4 := Lib.hid hb
          rw [HdN.out, HtN.out, HNN.out]
          have c6 : IntKind.i64.wrap (sU v + 2 * B v v + V v) = sU v + 2 * B v v + V v := IntWalk.i64_in _ (by omega)
          clear hb bd
          go_wp2
          go_roundw
          case rel => exact ⟨v + 1, by omega, by go_num, by rw [HSs.out], HBk4.out⟩
          case measure => simp [intOf]; omega
    · obtain rfl : v = N := by omega
      have hk999 : Below W.heap.size W wr := hb
      have c7 : IntKind.i64.wrap (2 * S) = 2 * S := IntWalk.i64_in _ (by have := HSB.out; omega)
      rw [HSN.out]
      clear hb
      have hk999 := hk999
      obtain ⟨g0, g1, -⟩ := HF.out wr hk999
      go_wp2_with fail
      refine (HA _).mono ?_
      rintro e x1000 ⟨rfl, hb1000⟩
      have hk1000 : Below W.heap.size W x1000 := hk999.trans (hb1000.mono hk999.size)
      clear hb1000 hk999 g0 g1
      obtain ⟨g0, g1, -⟩ := HF.out x1000 hk1000
      have HEND := Lib.hid (HB0.out.trans (hk1000.mono HB0.out.size))
      clear hk1000 g0 g1
      go_wp2
      go_ret
      exact ⟨rfl, HEND.out⟩
theorem shakes_any (n : Int) (a : Option Addr) (cap : Nat) (L : List E) (w : World) (h : EsAt w a L) :
    Calls Try.prog 8 #[gv n a L.length cap] w (GivesB w true) := by
  cases hr : rightG n L with
  | false => exact shakes_dark n a cap L (Lib.hid fun w h => by have := right_any n a cap L w h; rw [hr] at this; exact this) awake_any w h
  | true =>
    have hl : lightG n L = true := by unfold rightG at hr; exact (Bool.and_eq_true_iff.1 hr).1
    have hk : chkG n L = 0 := by unfold rightG at hr; exact of_decide_eq_true (Bool.and_eq_true_iff.1 hr).2
    have hlen := light_len hl
    have hsz : sizeG L ≤ 400 := by
      unfold lightG at hl
      have := (Bool.and_eq_true_iff.1 hl).2
      simpa [hk] using this
    have HRI : Hid (∀ w, EsAt w a L → Calls Try.prog 48 #[.agg #[.int .i64 n, .slice a L.length cap]] w (fun e w' => e = .returned (.bool true) ∧ Below w.heap.size w w')) := Lib.hid fun w h => by have := right_any n a cap L w h; rw [hr] at this; exact this
    obtain ⟨N, rfl, h1, h2⟩ := nat_of_chk hk
    have hR := right_of hk
    have hB : ∀ u v : Int, 0 ≤ betw u v L ∧ betw u v L ≤ 400 := fun u v => by unfold betw; have := bet_size hR.rng (min u v) (max u v); omega
    have hV : ∀ v : Int, 0 ≤ valZ v L N ∧ valZ v L N ≤ 400 := fun v => by rw [valZ_oth v L hR.rng]; have := oth_le hR.rng v; omega
    have hS : ∀ k : Nat, 0 ≤ sumZ (fun v => 2 * betw v v L + valZ v L N) k ∧ sumZ (fun v => 2 * betw v v L + valZ v L N) k ≤ 1200 * (k : Int) := fun k => sumZ_bound _ k 1200 fun u _ => by
      show 0 ≤ 2 * betw (u : Int) u L + valZ u L N ∧ 2 * betw (u : Int) u L + valZ u L N ≤ 1200
      have := hB u u; have := hV u; omega
    have hT : ∀ (v : Int) (k : Nat), 0 ≤ sumZ (fun x => if x = v then 0 else betw v x L) k ∧ sumZ (fun x => if x = v then 0 else betw v x L) k ≤ 400 * (k : Int) := fun v k => sumZ_bound _ k 400 fun u _ => by
      show 0 ≤ (if (u : Int) = v then 0 else betw v u L) ∧ (if (u : Int) = v then 0 else betw v u L) ≤ 400
      have := hB v u; split <;> omega
    have c1 : ∀ v : Nat, v < N → chkV N L [(v : Int)] = 0 := fun v hv => by rw [chkV_one hk, if_pos (by simp [isV]; omega)]
    have c2 : ∀ v u : Nat, v < N → u < N → chkV N L [(v : Int), (u : Int)] = 0 := fun v u hv hu => by rw [chkV_two hk, if_pos (by simp [isV]; omega)]
    refine shakes_ok (N : Int) a cap L N rfl (by omega) (sizeG L) (fun v u => betw v u L) (fun v => valZ v L N) (fun k => sumZ (fun v => 2 * betw v v L + valZ v L N) k) (fun v k => sumZ (fun x => if x = (v : Int) then 0 else betw v x L) k) HRI awake_any ?_ ?_ ?_ ?_ (Lib.hid rfl) ?_ ?_ ?_ (Lib.hid fun v => rfl) ?_ ?_ ?_ ?_ w h
    · exact Lib.hid fun w h => by have := pSize_any (N : Int) a cap L (by omega) w h; rw [hk, if_pos rfl] at this; exact this
    · exact Lib.hid fun v hv w h => by have := pdegree_any (N : Int) a cap L (by omega) v w h; rw [c1 v hv, if_pos rfl, deg_eq hR] at this; exact this
    · exact Lib.hid fun v hv w h => by have := pvalence_any (N : Int) a cap L (by omega) v w h; rw [c1 v hv, if_pos rfl, ← valZ_oth v L hR.rng] at this; exact this
    · exact Lib.hid fun v u hv hu w h => by have := pbetween_any (N : Int) a cap L (by omega) v u w h; rw [c2 v u hv hu, if_pos rfl] at this; exact this
    · refine Lib.hid fun v _ => ?_
      show sumZ (fun v => 2 * betw v v L + valZ v L N) (v + 1) = sumZ (fun v => 2 * betw v v L + valZ v L N) v + 2 * betw v v L + valZ v L N
      rw [sumZ]; omega
    · refine Lib.hid ?_
      show sumZ (fun v => 2 * betw v v L + valZ v L N) N = 2 * sizeG L
      rw [← shake hR.rng]
      refine sumZ_congr _ _ N fun u _ => ?_
      show 2 * betw (u : Int) u L + valZ u L N = 2 * sumL (loopE u) L + sumL (othE u) L
      rw [valZ_oth u L hR.rng]
      unfold betw
      rw [Int.min_self, Int.max_self, bet_loop]
    · refine Lib.hid ?_
      have := oth_le hR.rng 0
      omega
    · refine Lib.hid fun v u hv hu => ?_
      have := hT v u
      show (sumZ (fun x => if x = (v : Int) then 0 else betw v x L) (u + 1) = if u = v then sumZ (fun x => if x = (v : Int) then 0 else betw v x L) u else sumZ (fun x => if x = (v : Int) then 0 else betw v x L) u + betw v u L) ∧ 0 ≤ sumZ (fun x => if x = (v : Int) then 0 else betw v x L) u ∧ sumZ (fun x => if x = (v : Int) then 0 else betw v x L) u ≤ 100000
      refine ⟨?_, by omega, by omega⟩
      rw [sumZ]
      by_cases e : u = v
      · rw [if_pos e, if_pos (by omega)]; omega
      · rw [if_neg e, if_neg (by omega)]
    · refine Lib.hid fun v _ => ?_
      show sumZ (fun x => if x = (v : Int) then 0 else betw v x L) N = sumZ (fun u => if u = (v : Int) then 0 else betw u v L) N
      refine sumZ_congr _ _ N fun u _ => ?_
      show (if (u : Int) = v then 0 else betw v u L) = if (u : Int) = v then 0 else betw u v L
      rw [betw_symm v u L]
    · refine Lib.hid fun v hv => ?_
      show 0 ≤ valZ v L N ∧ valZ v L N ≤ 100000 ∧ 0 ≤ betw v v L ∧ betw v v L ≤ 100000 ∧ 0 ≤ sumZ (fun v => 2 * betw v v L + valZ v L N) v ∧ sumZ (fun v => 2 * betw v v L + valZ v L N) v ≤ 1000000
      have := hS v; have := hV v; have := hB v v
      omega
    · refine Lib.hid fun v u _ _ => ?_
      show 0 ≤ betw v u L ∧ betw v u L ≤ 100000
      have := hB v u
      omega
end Go.Proofs.Ytjaafneoinidkaa
