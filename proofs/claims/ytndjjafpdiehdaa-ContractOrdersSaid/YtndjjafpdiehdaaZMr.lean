/- The law of orders, walked. -/
import Derived.Test.YtndjjafpdiehdaaZMp
namespace Go.Proofs.Ytndjjafpdiehdaa
open Go.RowKit Go.Shelf Go.Proofs.Gr
attribute [local go_sem] Oper.semAt_some

theorem run_store_func {P : Program} {w : World} {a : Addr} {m : Mode} (fn : Fn) (x y : Array Value) : (store a (.func fn x y) m).run P w = stored P w a (.func fn x y) m := run_store P w a _ m rfl
attribute [local go_sem] run_store_func

set_option maxHeartbeats 12800000 in
set_option maxRecDepth 100000 in
theorem orders_dark1 (n : Int) (a : Option Addr) (cap : Nat) (L : List E) (e f : Int)  (HRE : Hid (∀ w, EsAt w a L → Calls Try.prog 32 #[.agg #[.int .i64 n, .slice a L.length cap], .int .i64 e] w (fun e w' => e = .returned (.bool false) ∧ Below w.heap.size w w'))) (HA : AwakeC) (w : World) (h : EsAt w a L) :
    Calls Try.prog 9 #[gv n a L.length cap, .int .i64 e, .int .i64 f] w (GivesB w true) := by
  unfold GivesB gv
  obtain ⟨W, hW⟩ : ∃ W, W = ((w.alloc (Obj.cells #[.int .i64 n, .slice a L.length cap] 24)).alloc (Obj.cells #[.int .i64 e] 3)).alloc (Obj.cells #[.int .i64 f] 3) := ⟨_, rfl⟩
  have hB0 : Below w.heap.size w W := by rw [hW]; exact (((Below.refl _ w).alloc (Nat.le_refl _) _).alloc (by simp) _).alloc (by simp; try omega) _
  have hG : Blk W w.heap.size 24 #[.int .i64 n, .slice a L.length cap] := by rw [hW]; exact ((Blk.new _ _ _).alloc _).alloc _
  have h1 : Blk W (w.heap.size + 1) 3 #[.int .i64 e] := by
    rw [hW]
    have := Blk.new (w.alloc (Obj.cells #[.int .i64 n, .slice a L.length cap] 24)) 3 #[.int .i64 e]
    rw [World.size_alloc] at this
    exact this.alloc _
  have h2 : Blk W (w.heap.size + 2) 3 #[.int .i64 f] := by
    rw [hW]
    have := Blk.new ((w.alloc (Obj.cells #[.int .i64 n, .slice a L.length cap] 24)).alloc (Obj.cells #[.int .i64 e] 3)) 3 #[.int .i64 f]
    rw [World.size_alloc, World.size_alloc] at this
    exact this
  have HW := Lib.hid hW
  have HB0 := Lib.hid hB0
  have hEz : EsAt W a L := h.keep hB0
  have HF : Hid (∀ x, Below W.heap.size W x → x.cell? ⟨w.heap.size, 0, none⟩ = some (.int .i64 n) ∧ x.cell? ⟨w.heap.size, 1, none⟩ = some (.slice a L.length cap) ∧ x.cell? ⟨w.heap.size + 1, 0, none⟩ = some (.int .i64 e) ∧ x.cell? ⟨w.heap.size + 2, 0, none⟩ = some (.int .i64 f) ∧ EsAt x a L ∧ Blk x w.heap.size 24 #[.int .i64 n, .slice a L.length cap]) := Lib.hid fun x hx => ⟨(hG.below hx hG.lt).cell 0, (hG.below hx hG.lt).cell 1, (h1.below hx h1.lt).cell 0, (h2.below hx h2.lt).cell 0, hEz.keep hx, hG.below hx hG.lt⟩
  have hk0 : Below W.heap.size W W := Below.refl _ _
  obtain ⟨g0, g1, g2, g3, -⟩ := HF.out W hk0
  clear hB0 hG hW hEz h h1 h2
  go_enter Try.func9, Try.ntmps9
  go_wp2_with fail
  rw [← HW.out]
  refine (HRE.out _ (HF.out W hk0).2.2.2.2.1).mono ?_
  rintro e x1 ⟨rfl, hb1⟩
  have hk1 : Below W.heap.size W x1 := hk0.trans (hb1.mono hk0.size)
  clear hb1 hk0 g0 g1 g2 g3
  obtain ⟨g0, g1, g2, g3, -⟩ := HF.out x1 hk1
  go_wp2_with fail
  refine (HA _).mono ?_
  rintro e x2 ⟨rfl, hb2⟩
  have hk2 : Below W.heap.size W x2 := hk1.trans (hb2.mono hk1.size)
  clear hb2 hk1 g0 g1 g2 g3
  obtain ⟨g0, g1, g2, g3, -⟩ := HF.out x2 hk2
  have HEND := Lib.hid (HB0.out.trans (hk2.mono HB0.out.size))
  clear hk2
  go_wp2
  go_ret
  exact ⟨rfl, HEND.out⟩
set_option maxHeartbeats 12800000 in
set_option maxRecDepth 100000 in
theorem orders_dark2 (n : Int) (a : Option Addr) (cap : Nat) (L : List E) (e f : Int)  (HRE : Hid (∀ w, EsAt w a L → Calls Try.prog 32 #[.agg #[.int .i64 n, .slice a L.length cap], .int .i64 e] w (fun e w' => e = .returned (.bool true) ∧ Below w.heap.size w w'))) (HRF : Hid (∀ w, EsAt w a L → Calls Try.prog 32 #[.agg #[.int .i64 n, .slice a L.length cap], .int .i64 f] w (fun e w' => e = .returned (.bool false) ∧ Below w.heap.size w w'))) (HA : AwakeC) (w : World) (h : EsAt w a L) :
    Calls Try.prog 9 #[gv n a L.length cap, .int .i64 e, .int .i64 f] w (GivesB w true) := by
  unfold GivesB gv
  obtain ⟨W, hW⟩ : ∃ W, W = ((w.alloc (Obj.cells #[.int .i64 n, .slice a L.length cap] 24)).alloc (Obj.cells #[.int .i64 e] 3)).alloc (Obj.cells #[.int .i64 f] 3) := ⟨_, rfl⟩
  have hB0 : Below w.heap.size w W := by rw [hW]; exact (((Below.refl _ w).alloc (Nat.le_refl _) _).alloc (by simp) _).alloc (by simp; try omega) _
  have hG : Blk W w.heap.size 24 #[.int .i64 n, .slice a L.length cap] := by rw [hW]; exact ((Blk.new _ _ _).alloc _).alloc _
  have h1 : Blk W (w.heap.size + 1) 3 #[.int .i64 e] := by
    rw [hW]
    have := Blk.new (w.alloc (Obj.cells #[.int .i64 n, .slice a L.length cap] 24)) 3 #[.int .i64 e]
    rw [World.size_alloc] at this
    exact this.alloc _
  have h2 : Blk W (w.heap.size + 2) 3 #[.int .i64 f] := by
    rw [hW]
    have := Blk.new ((w.alloc (Obj.cells #[.int .i64 n, .slice a L.length cap] 24)).alloc (Obj.cells #[.int .i64 e] 3)) 3 #[.int .i64 f]
    rw [World.size_alloc, World.size_alloc] at this
    exact this
  have HW := Lib.hid hW
  have HB0 := Lib.hid hB0
  have hEz : EsAt W a L := h.keep hB0
  have HF : Hid (∀ x, Below W.heap.size W x → x.cell? ⟨w.heap.size, 0, none⟩ = some (.int .i64 n) ∧ x.cell? ⟨w.heap.size, 1, none⟩ = some (.slice a L.length cap) ∧ x.cell? ⟨w.heap.size + 1, 0, none⟩ = some (.int .i64 e) ∧ x.cell? ⟨w.heap.size + 2, 0, none⟩ = some (.int .i64 f) ∧ EsAt x a L ∧ Blk x w.heap.size 24 #[.int .i64 n, .slice a L.length cap]) := Lib.hid fun x hx => ⟨(hG.below hx hG.lt).cell 0, (hG.below hx hG.lt).cell 1, (h1.below hx h1.lt).cell 0, (h2.below hx h2.lt).cell 0, hEz.keep hx, hG.below hx hG.lt⟩
  have hk0 : Below W.heap.size W W := Below.refl _ _
  obtain ⟨g0, g1, g2, g3, -⟩ := HF.out W hk0
  clear hB0 hG hW hEz h h1 h2
  go_enter Try.func9, Try.ntmps9
  go_wp2_with fail
  rw [← HW.out]
  refine (HRE.out _ (HF.out W hk0).2.2.2.2.1).mono ?_
  rintro e x1 ⟨rfl, hb1⟩
  have hk1 : Below W.heap.size W x1 := hk0.trans (hb1.mono hk0.size)
  clear hb1 hk0 g0 g1 g2 g3
  obtain ⟨g0, g1, g2, g3, -⟩ := HF.out x1 hk1
  go_wp2_with fail
  refine (HRF.out _ (HF.out x1 hk1).2.2.2.2.1).mono ?_
  rintro e x2 ⟨rfl, hb2⟩
  have hk2 : Below W.heap.size W x2 := hk1.trans (hb2.mono hk1.size)
  clear hb2 hk1 g0 g1 g2 g3
  obtain ⟨g0, g1, g2, g3, -⟩ := HF.out x2 hk2
  go_wp2_with fail
  refine (HA _).mono ?_
  rintro e x3 ⟨rfl, hb3⟩
  have hk3 : Below W.heap.size W x3 := hk2.trans (hb3.mono hk2.size)
  clear hb3 hk2 g0 g1 g2 g3
  obtain ⟨g0, g1, g2, g3, -⟩ := HF.out x3 hk3
  have HEND := Lib.hid (HB0.out.trans (hk3.mono HB0.out.size))
  clear hk3
  go_wp2
  go_ret
  exact ⟨rfl, HEND.out⟩
set_option maxHeartbeats 12800000 in
set_option maxRecDepth 100000 in
theorem orders_same (n : Int) (a : Option Addr) (cap : Nat) (L : List E) (f : Int)  (HRE : Hid (∀ w, EsAt w a L → Calls Try.prog 32 #[.agg #[.int .i64 n, .slice a L.length cap], .int .i64 f] w (fun e w' => e = .returned (.bool true) ∧ Below w.heap.size w w'))) (HRF : Hid (∀ w, EsAt w a L → Calls Try.prog 32 #[.agg #[.int .i64 n, .slice a L.length cap], .int .i64 f] w (fun e w' => e = .returned (.bool true) ∧ Below w.heap.size w w'))) (HA : AwakeC) (w : World) (h : EsAt w a L) :
    Calls Try.prog 9 #[gv n a L.length cap, .int .i64 f, .int .i64 f] w (GivesB w true) := by
  unfold GivesB gv
  obtain ⟨W, hW⟩ : ∃ W, W = ((w.alloc (Obj.cells #[.int .i64 n, .slice a L.length cap] 24)).alloc (Obj.cells #[.int .i64 f] 3)).alloc (Obj.cells #[.int .i64 f] 3) := ⟨_, rfl⟩
  have hB0 : Below w.heap.size w W := by rw [hW]; exact (((Below.refl _ w).alloc (Nat.le_refl _) _).alloc (by simp) _).alloc (by simp; try omega) _
  have hG : Blk W w.heap.size 24 #[.int .i64 n, .slice a L.length cap] := by rw [hW]; exact ((Blk.new _ _ _).alloc _).alloc _
  have h1 : Blk W (w.heap.size + 1) 3 #[.int .i64 f] := by
    rw [hW]
    have := Blk.new (w.alloc (Obj.cells #[.int .i64 n, .slice a L.length cap] 24)) 3 #[.int .i64 f]
    rw [World.size_alloc] at this
    exact this.alloc _
  have h2 : Blk W (w.heap.size + 2) 3 #[.int .i64 f] := by
    rw [hW]
    have := Blk.new ((w.alloc (Obj.cells #[.int .i64 n, .slice a L.length cap] 24)).alloc (Obj.cells #[.int .i64 f] 3)) 3 #[.int .i64 f]
    rw [World.size_alloc, World.size_alloc] at this
    exact this
  have HW := Lib.hid hW
  have HB0 := Lib.hid hB0
  have hEz : EsAt W a L := h.keep hB0
  have HF : Hid (∀ x, Below W.heap.size W x → x.cell? ⟨w.heap.size, 0, none⟩ = some (.int .i64 n) ∧ x.cell? ⟨w.heap.size, 1, none⟩ = some (.slice a L.length cap) ∧ x.cell? ⟨w.heap.size + 1, 0, none⟩ = some (.int .i64 f) ∧ x.cell? ⟨w.heap.size + 2, 0, none⟩ = some (.int .i64 f) ∧ EsAt x a L ∧ Blk x w.heap.size 24 #[.int .i64 n, .slice a L.length cap]) := Lib.hid fun x hx => ⟨(hG.below hx hG.lt).cell 0, (hG.below hx hG.lt).cell 1, (h1.below hx h1.lt).cell 0, (h2.below hx h2.lt).cell 0, hEz.keep hx, hG.below hx hG.lt⟩
  have hk0 : Below W.heap.size W W := Below.refl _ _
  obtain ⟨g0, g1, g2, g3, -⟩ := HF.out W hk0
  clear hB0 hG hW hEz h h1 h2
  have d0 : (f == f) = true := by simp
  go_enter Try.func9, Try.ntmps9
  go_wp2_with fail
  rw [← HW.out]
  refine (HRE.out _ (HF.out W hk0).2.2.2.2.1).mono ?_
  rintro e x1 ⟨rfl, hb1⟩
  have hk1 : Below W.heap.size W x1 := hk0.trans (hb1.mono hk0.size)
  clear hb1 hk0 g0 g1 g2 g3
  obtain ⟨g0, g1, g2, g3, -⟩ := HF.out x1 hk1
  go_wp2_with fail
  refine (HRF.out _ (HF.out x1 hk1).2.2.2.2.1).mono ?_
  rintro e x2 ⟨rfl, hb2⟩
  have hk2 : Below W.heap.size W x2 := hk1.trans (hb2.mono hk1.size)
  clear hb2 hk1 g0 g1 g2 g3
  obtain ⟨g0, g1, g2, g3, -⟩ := HF.out x2 hk2
  go_wp2_with fail
  refine (HA _).mono ?_
  rintro e x3 ⟨rfl, hb3⟩
  have hk3 : Below W.heap.size W x3 := hk2.trans (hb3.mono hk2.size)
  clear hb3 hk2 g0 g1 g2 g3
  obtain ⟨g0, g1, g2, g3, -⟩ := HF.out x3 hk3
  have HEND := Lib.hid (HB0.out.trans (hk3.mono HB0.out.size))
  clear hk3
  go_wp2
  go_ret
  exact ⟨rfl, HEND.out⟩
set_option maxHeartbeats 12800000 in
set_option maxRecDepth 100000 in
theorem orders_loop (n : Int) (a : Option Addr) (cap : Nat) (L : List E) (e f : Nat) (A1 B1 A2 B2 : List Int) (m : Nat) (he : e < m) (hf : f < m) (hef : ¬ e = f) (hA1 : A1.length = m) (hB1 : B1.length = m) (hA2 : A2.length = m) (hB2 : B2.length = m) (N0 N1 N2 : Int) (J0 J1 J2 : List E) (P : List (Int × Int)) (hP : P.length = m) (p0 p1 : Int) (hpq : p0 = p1) (HRE : Hid (∀ w, EsAt w a L → Calls Try.prog 32 #[.agg #[.int .i64 n, .slice a L.length cap], .int .i64 (e : Int)] w (fun e w' => e = .returned (.bool true) ∧ Below w.heap.size w w'))) (HRF : Hid (∀ w, EsAt w a L → Calls Try.prog 32 #[.agg #[.int .i64 n, .slice a L.length cap], .int .i64 (f : Int)] w (fun e w' => e = .returned (.bool true) ∧ Below w.heap.size w w'))) (HA : AwakeC) (HGE : Hid (∀ w, EsAt w a L → Calls Try.prog 23 #[.agg #[.int .i64 n, .slice a L.length cap], .int .i64 (e : Int)] w (fun e w' => ∃ b1 d1 b2 d2, e = .returned (.tuple #[.slice b1 A1.length d1, .slice b2 B1.length d2, .int .i64 ((0 : Nat) : Int)]) ∧ IsAt w' b1 A1 ∧ IsAt w' b2 B1 ∧ Below w.heap.size w w'))) (HGF : Hid (∀ w, EsAt w a L → Calls Try.prog 23 #[.agg #[.int .i64 n, .slice a L.length cap], .int .i64 (f : Int)] w (fun e w' => ∃ b1 d1 b2 d2, e = .returned (.tuple #[.slice b1 A2.length d1, .slice b2 B2.length d2, .int .i64 ((0 : Nat) : Int)]) ∧ IsAt w' b1 A2 ∧ IsAt w' b2 B2 ∧ Below w.heap.size w w'))) (HK2 : Hid (∀ B w1, Blk w1 B 24 #[.int .i64 n, .slice a L.length cap] → EsAt w1 a L → Calls Try.prog 39 #[.func (.func 13) #[] #[], .int .i64 (e : Nat), .func (.func 13) #[] #[], .int .i64 (iAt A1 f), .pointer (some ⟨B, 0, none⟩)] w1 (fun e w' => ∃ a1 c1, e = .returned (.tuple #[.agg #[.int .i64 N0, .slice a1 J0.length c1], .bool true]) ∧ EsAt w' a1 J0 ∧ Below w1.heap.size w1 w'))) (HK3 : Hid (∀ B w1, Blk w1 B 24 #[.int .i64 n, .slice a L.length cap] → EsAt w1 a L → Calls Try.prog 39 #[.func (.func 13) #[] #[], .int .i64 (f : Nat), .func (.func 13) #[] #[], .int .i64 (iAt A2 e), .pointer (some ⟨B, 0, none⟩)] w1 (fun e w' => ∃ a1 c1, e = .returned (.tuple #[.agg #[.int .i64 N0, .slice a1 J0.length c1], .bool true]) ∧ EsAt w' a1 J0 ∧ Below w1.heap.size w1 w'))) (HK4 : Hid (∀ B w1, Blk w1 B 24 #[.int .i64 n, .slice a L.length cap] → EsAt w1 a L → Calls Try.prog 39 #[.func (.func 15) #[] #[], .int .i64 (e : Nat), .func (.func 15) #[] #[], .int .i64 (iAt B1 f), .pointer (some ⟨B, 0, none⟩)] w1 (fun e w' => ∃ a1 c1, e = .returned (.tuple #[.agg #[.int .i64 N1, .slice a1 J1.length c1], .bool true]) ∧ EsAt w' a1 J1 ∧ Below w1.heap.size w1 w'))) (HK5 : Hid (∀ B w1, Blk w1 B 24 #[.int .i64 n, .slice a L.length cap] → EsAt w1 a L → Calls Try.prog 39 #[.func (.func 15) #[] #[], .int .i64 (f : Nat), .func (.func 15) #[] #[], .int .i64 (iAt B2 e), .pointer (some ⟨B, 0, none⟩)] w1 (fun e w' => ∃ a1 c1, e = .returned (.tuple #[.agg #[.int .i64 N1, .slice a1 J1.length c1], .bool true]) ∧ EsAt w' a1 J1 ∧ Below w1.heap.size w1 w'))) (HK6 : Hid (∀ B w1, Blk w1 B 24 #[.int .i64 n, .slice a L.length cap] → EsAt w1 a L → Calls Try.prog 39 #[.func (.func 13) #[] #[], .int .i64 (e : Nat), .func (.func 15) #[] #[], .int .i64 (iAt A1 f), .pointer (some ⟨B, 0, none⟩)] w1 (fun e w' => ∃ a1 c1, e = .returned (.tuple #[.agg #[.int .i64 N2, .slice a1 J2.length c1], .bool true]) ∧ EsAt w' a1 J2 ∧ Below w1.heap.size w1 w'))) (HK7 : Hid (∀ B w1, Blk w1 B 24 #[.int .i64 n, .slice a L.length cap] → EsAt w1 a L → Calls Try.prog 39 #[.func (.func 15) #[] #[], .int .i64 (f : Nat), .func (.func 13) #[] #[], .int .i64 (iAt B2 e), .pointer (some ⟨B, 0, none⟩)] w1 (fun e w' => ∃ a1 c1, e = .returned (.tuple #[.agg #[.int .i64 N2, .slice a1 J2.length c1], .bool true]) ∧ EsAt w' a1 J2 ∧ Below w1.heap.size w1 w'))) (HS0 : Hid (∀ a1 c1 a2 c2 w, EsAt w a1 J0 → EsAt w a2 J0 → Calls Try.prog 21 #[.agg #[.int .i64 N0, .slice a1 J0.length c1], .agg #[.int .i64 N0, .slice a2 J0.length c2]] w (fun e w' => e = .returned (.bool true) ∧ Below w.heap.size w w'))) (HS1 : Hid (∀ a1 c1 a2 c2 w, EsAt w a1 J1 → EsAt w a2 J1 → Calls Try.prog 21 #[.agg #[.int .i64 N1, .slice a1 J1.length c1], .agg #[.int .i64 N1, .slice a2 J1.length c2]] w (fun e w' => e = .returned (.bool true) ∧ Below w.heap.size w w'))) (HS2 : Hid (∀ a1 c1 a2 c2 w, EsAt w a1 J2 → EsAt w a2 J2 → Calls Try.prog 21 #[.agg #[.int .i64 N2, .slice a1 J2.length c1], .agg #[.int .i64 N2, .slice a2 J2.length c2]] w (fun e w' => e = .returned (.bool true) ∧ Below w.heap.size w w'))) (HPE : Hid (pAt P e = (p0, p1))) (HEN : Hid (∀ w, EsAt w a L → Calls Try.prog 34 #[.agg #[.int .i64 n, .slice a L.length cap]] w (fun e w' => ∃ b d, e = .returned (.slice b P.length d) ∧ PsAt w' b P ∧ Below w.heap.size w w'))) (w : World) (h : EsAt w a L) :
    Calls Try.prog 9 #[gv n a L.length cap, .int .i64 e, .int .i64 f] w (GivesB w true) := by
  unfold GivesB gv
  obtain ⟨W, hW⟩ : ∃ W, W = ((w.alloc (Obj.cells #[.int .i64 n, .slice a L.length cap] 24)).alloc (Obj.cells #[.int .i64 e] 3)).alloc (Obj.cells #[.int .i64 f] 3) := ⟨_, rfl⟩
  have hB0 : Below w.heap.size w W := by rw [hW]; exact (((Below.refl _ w).alloc (Nat.le_refl _) _).alloc (by simp) _).alloc (by simp; try omega) _
  have hG : Blk W w.heap.size 24 #[.int .i64 n, .slice a L.length cap] := by rw [hW]; exact ((Blk.new _ _ _).alloc _).alloc _
  have h1 : Blk W (w.heap.size + 1) 3 #[.int .i64 e] := by
    rw [hW]
    have := Blk.new (w.alloc (Obj.cells #[.int .i64 n, .slice a L.length cap] 24)) 3 #[.int .i64 e]
    rw [World.size_alloc] at this
    exact this.alloc _
  have h2 : Blk W (w.heap.size + 2) 3 #[.int .i64 f] := by
    rw [hW]
    have := Blk.new ((w.alloc (Obj.cells #[.int .i64 n, .slice a L.length cap] 24)).alloc (Obj.cells #[.int .i64 e] 3)) 3 #[.int .i64 f]
    rw [World.size_alloc, World.size_alloc] at this
    exact this
  have HW := Lib.hid hW
  have HB0 := Lib.hid hB0
  have hEz : EsAt W a L := h.keep hB0
  have HF : Hid (∀ x, Below W.heap.size W x → x.cell? ⟨w.heap.size, 0, none⟩ = some (.int .i64 n) ∧ x.cell? ⟨w.heap.size, 1, none⟩ = some (.slice a L.length cap) ∧ x.cell? ⟨w.heap.size + 1, 0, none⟩ = some (.int .i64 e) ∧ x.cell? ⟨w.heap.size + 2, 0, none⟩ = some (.int .i64 f) ∧ EsAt x a L ∧ Blk x w.heap.size 24 #[.int .i64 n, .slice a L.length cap]) := Lib.hid fun x hx => ⟨(hG.below hx hG.lt).cell 0, (hG.below hx hG.lt).cell 1, (h1.below hx h1.lt).cell 0, (h2.below hx h2.lt).cell 0, hEz.keep hx, hG.below hx hG.lt⟩
  have hk0 : Below W.heap.size W W := Below.refl _ _
  obtain ⟨g0, g1, g2, g3, -⟩ := HF.out W hk0
  clear hB0 hG hW hEz h h1 h2
  have d0 : ((e : Int) == (f : Int)) = false := by rw [beq_eq_false_iff_ne]; omega
  have dd1 : decide ((A1.length : Int) ≤ (f : Int)) = false := decide_eq_false (by omega)
  have dd2 : decide ((B1.length : Int) ≤ (f : Int)) = false := decide_eq_false (by omega)
  have dd3 : decide ((A2.length : Int) ≤ (e : Int)) = false := decide_eq_false (by omega)
  have dd4 : decide ((B2.length : Int) ≤ (e : Int)) = false := decide_eq_false (by omega)
  have nc1 : ¬ A1.length ≤ f := by omega
  have nc2 : ¬ B1.length ≤ f := by omega
  have nc3 : ¬ A2.length ≤ e := by omega
  have nc4 : ¬ B2.length ≤ e := by omega
  have c1 : ¬ (A1.length : Int) ≤ (f : Int) := by omega
  have c2 : ¬ (B1.length : Int) ≤ (f : Int) := by omega
  have c3 : ¬ (A2.length : Int) ≤ (e : Int) := by omega
  have c4 : ¬ (B2.length : Int) ≤ (e : Int) := by omega
  have HL1 := Lib.hid (And.intro hA1 (And.intro hB1 (And.intro hA2 (And.intro hB2 hP))))
  have HEF := Lib.hid (And.intro he hf)
  have HPQ := Lib.hid hpq
  clear he hf hef hA1 hB1 hA2 hB2 hP hpq
  go_enter Try.func9, Try.ntmps9
  go_wp2_with fail
  rw [← HW.out]
  refine (HRE.out _ (HF.out W hk0).2.2.2.2.1).mono ?_
  rintro e x1 ⟨rfl, hb1⟩
  have hk1 : Below W.heap.size W x1 := hk0.trans (hb1.mono hk0.size)
  clear hb1 hk0 g0 g1 g2 g3
  obtain ⟨g0, g1, g2, g3, -⟩ := HF.out x1 hk1
  go_wp2_with fail
  refine (HRF.out _ (HF.out x1 hk1).2.2.2.2.1).mono ?_
  rintro e x2 ⟨rfl, hb2⟩
  have hk2 : Below W.heap.size W x2 := hk1.trans (hb2.mono hk1.size)
  clear hb2 hk1 g0 g1 g2 g3
  obtain ⟨g0, g1, g2, g3, -⟩ := HF.out x2 hk2
  go_wp2_with fail
  refine (HGE.out _ (HF.out x2 hk2).2.2.2.2.1).mono ?_
  rintro e x3 ⟨b1, d1, b2, d2, rfl, hA1_3, hB1_3, hb3⟩
  have hk3 : Below W.heap.size W x3 := hk2.trans (hb3.mono hk2.size)
  clear hb3 hk2 g0 g1 g2 g3
  obtain ⟨g0, g1, g2, g3, -⟩ := HF.out x3 hk3
  obtain ⟨Y1, hY1⟩ : ∃ Y, Y = (x3.alloc (Obj.cells #[.slice b1 A1.length d1] 33)).alloc (Obj.cells #[.slice b2 B1.length d2] 33) := ⟨_, rfl⟩
  have hy : Below x3.heap.size x3 Y1 := by rw [hY1]; exact ((Below.refl _ x3).alloc (Nat.le_refl _) _).alloc (by simp; try omega) _
  have hz : Below W.heap.size W Y1 := hk3.trans (hy.mono hk3.size)
  have hQ0 : Blk Y1 (x3.heap.size) 33 #[.slice b1 A1.length d1] := by
    rw [hY1]
    have := Blk.new (x3) 33 #[.slice b1 A1.length d1]
    skip
    exact (this.alloc _)
  have hQ1 : Blk Y1 (x3.heap.size + 1) 33 #[.slice b2 B1.length d2] := by
    rw [hY1]
    have := Blk.new (x3.alloc (Obj.cells #[.slice b1 A1.length d1] 33)) 33 #[.slice b2 B1.length d2]
    rw [World.size_alloc] at this
    exact this
  have HBY1 : Hid (Below w.heap.size w Y1) := Lib.hid (HB0.out.trans (hz.mono HB0.out.size))
  have HFY1 : Hid (∀ x, Below Y1.heap.size Y1 x → x.cell? ⟨w.heap.size, 0, none⟩ = some (.int .i64 n) ∧ x.cell? ⟨w.heap.size, 1, none⟩ = some (.slice a L.length cap) ∧ x.cell? ⟨w.heap.size + 1, 0, none⟩ = some (.int .i64 e) ∧ x.cell? ⟨w.heap.size + 2, 0, none⟩ = some (.int .i64 f) ∧ x.cell? ⟨x3.heap.size, 0, none⟩ = some (.slice b1 A1.length d1) ∧ x.cell? ⟨x3.heap.size + 1, 0, none⟩ = some (.slice b2 B1.length d2) ∧ EsAt x a L ∧ Blk x w.heap.size 24 #[.int .i64 n, .slice a L.length cap] ∧ IsAt x b1 A1 ∧ IsAt x b2 B1) := Lib.hid fun x hx => ⟨(HF.out x (hz.trans (hx.mono hz.size))).1, (HF.out x (hz.trans (hx.mono hz.size))).2.1, (HF.out x (hz.trans (hx.mono hz.size))).2.2.1, (HF.out x (hz.trans (hx.mono hz.size))).2.2.2.1, (hQ0.below hx hQ0.lt).cell 0, (hQ1.below hx hQ1.lt).cell 0, (HF.out x (hz.trans (hx.mono hz.size))).2.2.2.2.1, (HF.out x (hz.trans (hx.mono hz.size))).2.2.2.2.2, (hA1_3.keep hy).keep hx, (hB1_3.keep hy).keep hx⟩
  clear g0 g1 g2 g3 hk3 hz hQ0 hQ1 hy hA1_3 hB1_3
  have hk4 : Below Y1.heap.size Y1 Y1 := Below.refl _ _
  have g0 : ((x3.alloc (Obj.cells #[.slice b1 A1.length d1] 33)).alloc (Obj.cells #[.slice b2 B1.length d2] 33)).cell? ⟨w.heap.size, 0, none⟩ = some (.int .i64 n) := by rw [← hY1]; exact (HFY1.out _ hk4).1
  have g1 : ((x3.alloc (Obj.cells #[.slice b1 A1.length d1] 33)).alloc (Obj.cells #[.slice b2 B1.length d2] 33)).cell? ⟨w.heap.size, 1, none⟩ = some (.slice a L.length cap) := by rw [← hY1]; exact (HFY1.out _ hk4).2.1
  have g2 : ((x3.alloc (Obj.cells #[.slice b1 A1.length d1] 33)).alloc (Obj.cells #[.slice b2 B1.length d2] 33)).cell? ⟨w.heap.size + 1, 0, none⟩ = some (.int .i64 e) := by rw [← hY1]; exact (HFY1.out _ hk4).2.2.1
  have g3 : ((x3.alloc (Obj.cells #[.slice b1 A1.length d1] 33)).alloc (Obj.cells #[.slice b2 B1.length d2] 33)).cell? ⟨w.heap.size + 2, 0, none⟩ = some (.int .i64 f) := by rw [← hY1]; exact (HFY1.out _ hk4).2.2.2.1
  have g4 : ((x3.alloc (Obj.cells #[.slice b1 A1.length d1] 33)).alloc (Obj.cells #[.slice b2 B1.length d2] 33)).cell? ⟨x3.heap.size, 0, none⟩ = some (.slice b1 A1.length d1) := by rw [← hY1]; exact (HFY1.out _ hk4).2.2.2.2.1
  have g5 : ((x3.alloc (Obj.cells #[.slice b1 A1.length d1] 33)).alloc (Obj.cells #[.slice b2 B1.length d2] 33)).cell? ⟨x3.heap.size + 1, 0, none⟩ = some (.slice b2 B1.length d2) := by rw [← hY1]; exact (HFY1.out _ hk4).2.2.2.2.2.1
  have HY1 := Lib.hid hY1
  clear hY1
  go_wp2_with fail
  rw [← HY1.out]
  refine (HGF.out _ (HFY1.out Y1 hk4).2.2.2.2.2.2.1).mono ?_
  rintro e x5 ⟨b3, d3, b4, d4, rfl, hA2_5, hB2_5, hb5⟩
  have hk5 : Below Y1.heap.size Y1 x5 := hk4.trans (hb5.mono hk4.size)
  clear hb5 hk4 g0 g1 g2 g3 g4 g5
  obtain ⟨g0, g1, g2, g3, g4, g5, -⟩ := HFY1.out x5 hk5
  obtain ⟨Y2, hY2⟩ : ∃ Y, Y = (x5.alloc (Obj.cells #[.slice b3 A2.length d3] 33)).alloc (Obj.cells #[.slice b4 B2.length d4] 33) := ⟨_, rfl⟩
  have hy : Below x5.heap.size x5 Y2 := by rw [hY2]; exact ((Below.refl _ x5).alloc (Nat.le_refl _) _).alloc (by simp; try omega) _
  have hz : Below Y1.heap.size Y1 Y2 := hk5.trans (hy.mono hk5.size)
  have hQ0 : Blk Y2 (x5.heap.size) 33 #[.slice b3 A2.length d3] := by
    rw [hY2]
    have := Blk.new (x5) 33 #[.slice b3 A2.length d3]
    skip
    exact (this.alloc _)
  have hQ1 : Blk Y2 (x5.heap.size + 1) 33 #[.slice b4 B2.length d4] := by
    rw [hY2]
    have := Blk.new (x5.alloc (Obj.cells #[.slice b3 A2.length d3] 33)) 33 #[.slice b4 B2.length d4]
    rw [World.size_alloc] at this
    exact this
  have HBY2 : Hid (Below w.heap.size w Y2) := Lib.hid (HBY1.out.trans (hz.mono HBY1.out.size))
  have HFY2 : Hid (∀ x, Below Y2.heap.size Y2 x → x.cell? ⟨w.heap.size, 0, none⟩ = some (.int .i64 n) ∧ x.cell? ⟨w.heap.size, 1, none⟩ = some (.slice a L.length cap) ∧ x.cell? ⟨w.heap.size + 1, 0, none⟩ = some (.int .i64 e) ∧ x.cell? ⟨w.heap.size + 2, 0, none⟩ = some (.int .i64 f) ∧ x.cell? ⟨x3.heap.size, 0, none⟩ = some (.slice b1 A1.length d1) ∧ x.cell? ⟨x3.heap.size + 1, 0, none⟩ = some (.slice b2 B1.length d2) ∧ x.cell? ⟨x5.heap.size, 0, none⟩ = some (.slice b3 A2.length d3) ∧ x.cell? ⟨x5.heap.size + 1, 0, none⟩ = some (.slice b4 B2.length d4) ∧ EsAt x a L ∧ Blk x w.heap.size 24 #[.int .i64 n, .slice a L.length cap] ∧ IsAt x b1 A1 ∧ IsAt x b2 B1 ∧ IsAt x b3 A2 ∧ IsAt x b4 B2) := Lib.hid fun x hx => ⟨(HFY1.out x (hz.trans (hx.mono hz.size))).1, (HFY1.out x (hz.trans (hx.mono hz.size))).2.1, (HFY1.out x (hz.trans (hx.mono hz.size))).2.2.1, (HFY1.out x (hz.trans (hx.mono hz.size))).2.2.2.1, (HFY1.out x (hz.trans (hx.mono hz.size))).2.2.2.2.1, (HFY1.out x (hz.trans (hx.mono hz.size))).2.2.2.2.2.1, (hQ0.below hx hQ0.lt).cell 0, (hQ1.below hx hQ1.lt).cell 0, (HFY1.out x (hz.trans (hx.mono hz.size))).2.2.2.2.2.2.1, (HFY1.out x (hz.trans (hx.mono hz.size))).2.2.2.2.2.2.2.1, (HFY1.out x (hz.trans (hx.mono hz.size))).2.2.2.2.2.2.2.2.1, (HFY1.out x (hz.trans (hx.mono hz.size))).2.2.2.2.2.2.2.2.2, (hA2_5.keep hy).keep hx, (hB2_5.keep hy).keep hx⟩
  clear g0 g1 g2 g3 g4 g5 hk5 hz hQ0 hQ1 hy hA2_5 hB2_5
  have hk6 : Below Y2.heap.size Y2 Y2 := Below.refl _ _
  have g0 : ((x5.alloc (Obj.cells #[.slice b3 A2.length d3] 33)).alloc (Obj.cells #[.slice b4 B2.length d4] 33)).cell? ⟨w.heap.size, 0, none⟩ = some (.int .i64 n) := by rw [← hY2]; exact (HFY2.out _ hk6).1
  have g1 : ((x5.alloc (Obj.cells #[.slice b3 A2.length d3] 33)).alloc (Obj.cells #[.slice b4 B2.length d4] 33)).cell? ⟨w.heap.size, 1, none⟩ = some (.slice a L.length cap) := by rw [← hY2]; exact (HFY2.out _ hk6).2.1
  have g2 : ((x5.alloc (Obj.cells #[.slice b3 A2.length d3] 33)).alloc (Obj.cells #[.slice b4 B2.length d4] 33)).cell? ⟨w.heap.size + 1, 0, none⟩ = some (.int .i64 e) := by rw [← hY2]; exact (HFY2.out _ hk6).2.2.1
  have g3 : ((x5.alloc (Obj.cells #[.slice b3 A2.length d3] 33)).alloc (Obj.cells #[.slice b4 B2.length d4] 33)).cell? ⟨w.heap.size + 2, 0, none⟩ = some (.int .i64 f) := by rw [← hY2]; exact (HFY2.out _ hk6).2.2.2.1
  have g4 : ((x5.alloc (Obj.cells #[.slice b3 A2.length d3] 33)).alloc (Obj.cells #[.slice b4 B2.length d4] 33)).cell? ⟨x3.heap.size, 0, none⟩ = some (.slice b1 A1.length d1) := by rw [← hY2]; exact (HFY2.out _ hk6).2.2.2.2.1
  have g5 : ((x5.alloc (Obj.cells #[.slice b3 A2.length d3] 33)).alloc (Obj.cells #[.slice b4 B2.length d4] 33)).cell? ⟨x3.heap.size + 1, 0, none⟩ = some (.slice b2 B1.length d2) := by rw [← hY2]; exact (HFY2.out _ hk6).2.2.2.2.2.1
  have g6 : ((x5.alloc (Obj.cells #[.slice b3 A2.length d3] 33)).alloc (Obj.cells #[.slice b4 B2.length d4] 33)).cell? ⟨x5.heap.size, 0, none⟩ = some (.slice b3 A2.length d3) := by rw [← hY2]; exact (HFY2.out _ hk6).2.2.2.2.2.2.1
  have g7 : ((x5.alloc (Obj.cells #[.slice b3 A2.length d3] 33)).alloc (Obj.cells #[.slice b4 B2.length d4] 33)).cell? ⟨x5.heap.size + 1, 0, none⟩ = some (.slice b4 B2.length d4) := by rw [← hY2]; exact (HFY2.out _ hk6).2.2.2.2.2.2.2.1
  have HY2 := Lib.hid hY2
  clear hY2
  have hN : Blk (((x5.alloc (Obj.cells #[.slice b3 A2.length d3] 33)).alloc (Obj.cells #[.slice b4 B2.length d4] 33)).alloc (Obj.cells #[.nilFunc] 62)) (x5.heap.size + 1 + 1) 62 #[.nilFunc] := by
    have := Blk.new ((x5.alloc (Obj.cells #[.slice b3 A2.length d3] 33)).alloc (Obj.cells #[.slice b4 B2.length d4] 33)) 62 #[.nilFunc]
    rw [World.size_alloc, World.size_alloc] at this
    exact this
  have k1 : (((x5.alloc (Obj.cells #[.slice b3 A2.length d3] 33)).alloc (Obj.cells #[.slice b4 B2.length d4] 33)).alloc (Obj.cells #[.nilFunc] 62)).cell? ⟨x5.heap.size + 1 + 1, 0, none⟩ = some .nilFunc := hN.cell 0
  have k2 : (((x5.alloc (Obj.cells #[.slice b3 A2.length d3] 33)).alloc (Obj.cells #[.slice b4 B2.length d4] 33)).alloc (Obj.cells #[.nilFunc] 62)).frozen? ⟨x5.heap.size + 1 + 1, 0, none⟩ = false := hN.frozen 0
  clear hN
  go_wp2_with fail
  rw [← HY2.out]
  clear k1 k2
  obtain ⟨Y3, hY3⟩ : ∃ Y, Y = (Y2.alloc (Obj.cells #[.func (.func 39) #[] #[.pointer (some ⟨w.heap.size, 0, none⟩)]] 62)).alloc (Obj.cells #[.func (.func 40) #[] #[.pointer (some ⟨x5.heap.size + 1 + 1, 0, none⟩), .pointer (some ⟨w.heap.size + 1, 0, none⟩), .pointer (some ⟨x3.heap.size, 0, none⟩), .pointer (some ⟨w.heap.size + 1 + 1, 0, none⟩)], .func (.func 41) #[] #[.pointer (some ⟨x5.heap.size + 1 + 1, 0, none⟩), .pointer (some ⟨w.heap.size + 1 + 1, 0, none⟩), .pointer (some ⟨x5.heap.size, 0, none⟩), .pointer (some ⟨w.heap.size + 1, 0, none⟩)], .func (.func 42) #[] #[.pointer (some ⟨x5.heap.size + 1 + 1, 0, none⟩), .pointer (some ⟨w.heap.size + 1, 0, none⟩), .pointer (some ⟨x3.heap.size + 1, 0, none⟩), .pointer (some ⟨w.heap.size + 1 + 1, 0, none⟩)], .func (.func 43) #[] #[.pointer (some ⟨x5.heap.size + 1 + 1, 0, none⟩), .pointer (some ⟨w.heap.size + 1 + 1, 0, none⟩), .pointer (some ⟨x5.heap.size + 1, 0, none⟩), .pointer (some ⟨w.heap.size + 1, 0, none⟩)], .func (.func 44) #[] #[.pointer (some ⟨x5.heap.size + 1 + 1, 0, none⟩), .pointer (some ⟨w.heap.size + 1, 0, none⟩), .pointer (some ⟨x3.heap.size, 0, none⟩), .pointer (some ⟨w.heap.size + 1 + 1, 0, none⟩)], .func (.func 45) #[] #[.pointer (some ⟨x5.heap.size + 1 + 1, 0, none⟩), .pointer (some ⟨w.heap.size + 1 + 1, 0, none⟩), .pointer (some ⟨x5.heap.size + 1, 0, none⟩), .pointer (some ⟨w.heap.size + 1, 0, none⟩)]] 65) := ⟨_, rfl⟩
  rw [← hY3]
  have hsz : Y2.heap.size = x5.heap.size + 1 + 1 := by rw [HY2.out, World.size_alloc, World.size_alloc]
  have hy : Below Y2.heap.size Y2 Y3 := by rw [hY3]; exact ((Below.refl _ Y2).alloc (Nat.le_refl _) _).alloc (by simp) _
  have hQ0 : Blk Y3 (x5.heap.size + 1 + 1) 62 #[.func (.func 39) #[] #[.pointer (some ⟨w.heap.size, 0, none⟩)]] := by
    rw [hY3, ← hsz]
    exact (Blk.new Y2 62 _).alloc _
  have hQ1 : Blk Y3 (x5.heap.size + 1 + 1 + 1) 65 #[.func (.func 40) #[] #[.pointer (some ⟨x5.heap.size + 1 + 1, 0, none⟩), .pointer (some ⟨w.heap.size + 1, 0, none⟩), .pointer (some ⟨x3.heap.size, 0, none⟩), .pointer (some ⟨w.heap.size + 1 + 1, 0, none⟩)], .func (.func 41) #[] #[.pointer (some ⟨x5.heap.size + 1 + 1, 0, none⟩), .pointer (some ⟨w.heap.size + 1 + 1, 0, none⟩), .pointer (some ⟨x5.heap.size, 0, none⟩), .pointer (some ⟨w.heap.size + 1, 0, none⟩)], .func (.func 42) #[] #[.pointer (some ⟨x5.heap.size + 1 + 1, 0, none⟩), .pointer (some ⟨w.heap.size + 1, 0, none⟩), .pointer (some ⟨x3.heap.size + 1, 0, none⟩), .pointer (some ⟨w.heap.size + 1 + 1, 0, none⟩)], .func (.func 43) #[] #[.pointer (some ⟨x5.heap.size + 1 + 1, 0, none⟩), .pointer (some ⟨w.heap.size + 1 + 1, 0, none⟩), .pointer (some ⟨x5.heap.size + 1, 0, none⟩), .pointer (some ⟨w.heap.size + 1, 0, none⟩)], .func (.func 44) #[] #[.pointer (some ⟨x5.heap.size + 1 + 1, 0, none⟩), .pointer (some ⟨w.heap.size + 1, 0, none⟩), .pointer (some ⟨x3.heap.size, 0, none⟩), .pointer (some ⟨w.heap.size + 1 + 1, 0, none⟩)], .func (.func 45) #[] #[.pointer (some ⟨x5.heap.size + 1 + 1, 0, none⟩), .pointer (some ⟨w.heap.size + 1 + 1, 0, none⟩), .pointer (some ⟨x5.heap.size + 1, 0, none⟩), .pointer (some ⟨w.heap.size + 1, 0, none⟩)]] := by
    have := Blk.new (Y2.alloc (Obj.cells #[.func (.func 39) #[] #[.pointer (some ⟨w.heap.size, 0, none⟩)]] 62)) 65 #[.func (.func 40) #[] #[.pointer (some ⟨x5.heap.size + 1 + 1, 0, none⟩), .pointer (some ⟨w.heap.size + 1, 0, none⟩), .pointer (some ⟨x3.heap.size, 0, none⟩), .pointer (some ⟨w.heap.size + 1 + 1, 0, none⟩)], .func (.func 41) #[] #[.pointer (some ⟨x5.heap.size + 1 + 1, 0, none⟩), .pointer (some ⟨w.heap.size + 1 + 1, 0, none⟩), .pointer (some ⟨x5.heap.size, 0, none⟩), .pointer (some ⟨w.heap.size + 1, 0, none⟩)], .func (.func 42) #[] #[.pointer (some ⟨x5.heap.size + 1 + 1, 0, none⟩), .pointer (some ⟨w.heap.size + 1, 0, none⟩), .pointer (some ⟨x3.heap.size + 1, 0, none⟩), .pointer (some ⟨w.heap.size + 1 + 1, 0, none⟩)], .func (.func 43) #[] #[.pointer (some ⟨x5.heap.size + 1 + 1, 0, none⟩), .pointer (some ⟨w.heap.size + 1 + 1, 0, none⟩), .pointer (some ⟨x5.heap.size + 1, 0, none⟩), .pointer (some ⟨w.heap.size + 1, 0, none⟩)], .func (.func 44) #[] #[.pointer (some ⟨x5.heap.size + 1 + 1, 0, none⟩), .pointer (some ⟨w.heap.size + 1, 0, none⟩), .pointer (some ⟨x3.heap.size, 0, none⟩), .pointer (some ⟨w.heap.size + 1 + 1, 0, none⟩)], .func (.func 45) #[] #[.pointer (some ⟨x5.heap.size + 1 + 1, 0, none⟩), .pointer (some ⟨w.heap.size + 1 + 1, 0, none⟩), .pointer (some ⟨x5.heap.size + 1, 0, none⟩), .pointer (some ⟨w.heap.size + 1, 0, none⟩)]]
    rw [World.size_alloc, hsz] at this
    rw [hY3]
    exact this
  have HBY3 : Hid (Below w.heap.size w Y3) := Lib.hid (HBY2.out.trans (hy.mono HBY2.out.size))
  have HFY3 : Hid (∀ x, Below Y3.heap.size Y3 x → x.cell? ⟨w.heap.size, 0, none⟩ = some (.int .i64 n) ∧ x.cell? ⟨w.heap.size, 1, none⟩ = some (.slice a L.length cap) ∧ x.cell? ⟨w.heap.size + 1, 0, none⟩ = some (.int .i64 e) ∧ x.cell? ⟨w.heap.size + 2, 0, none⟩ = some (.int .i64 f) ∧ x.cell? ⟨x3.heap.size, 0, none⟩ = some (.slice b1 A1.length d1) ∧ x.cell? ⟨x3.heap.size + 1, 0, none⟩ = some (.slice b2 B1.length d2) ∧ x.cell? ⟨x5.heap.size, 0, none⟩ = some (.slice b3 A2.length d3) ∧ x.cell? ⟨x5.heap.size + 1, 0, none⟩ = some (.slice b4 B2.length d4) ∧ x.cell? ⟨x5.heap.size + 1 + 1, 0, none⟩ = some (.func (.func 39) #[] #[.pointer (some ⟨w.heap.size, 0, none⟩)]) ∧ x.cell? ⟨x5.heap.size + 1 + 1 + 1, 0, none⟩ = some (.func (.func 40) #[] #[.pointer (some ⟨x5.heap.size + 1 + 1, 0, none⟩), .pointer (some ⟨w.heap.size + 1, 0, none⟩), .pointer (some ⟨x3.heap.size, 0, none⟩), .pointer (some ⟨w.heap.size + 1 + 1, 0, none⟩)]) ∧ x.cell? ⟨x5.heap.size + 1 + 1 + 1, 1, none⟩ = some (.func (.func 41) #[] #[.pointer (some ⟨x5.heap.size + 1 + 1, 0, none⟩), .pointer (some ⟨w.heap.size + 1 + 1, 0, none⟩), .pointer (some ⟨x5.heap.size, 0, none⟩), .pointer (some ⟨w.heap.size + 1, 0, none⟩)]) ∧ x.cell? ⟨x5.heap.size + 1 + 1 + 1, 2, none⟩ = some (.func (.func 42) #[] #[.pointer (some ⟨x5.heap.size + 1 + 1, 0, none⟩), .pointer (some ⟨w.heap.size + 1, 0, none⟩), .pointer (some ⟨x3.heap.size + 1, 0, none⟩), .pointer (some ⟨w.heap.size + 1 + 1, 0, none⟩)]) ∧ x.cell? ⟨x5.heap.size + 1 + 1 + 1, 3, none⟩ = some (.func (.func 43) #[] #[.pointer (some ⟨x5.heap.size + 1 + 1, 0, none⟩), .pointer (some ⟨w.heap.size + 1 + 1, 0, none⟩), .pointer (some ⟨x5.heap.size + 1, 0, none⟩), .pointer (some ⟨w.heap.size + 1, 0, none⟩)]) ∧ x.cell? ⟨x5.heap.size + 1 + 1 + 1, 4, none⟩ = some (.func (.func 44) #[] #[.pointer (some ⟨x5.heap.size + 1 + 1, 0, none⟩), .pointer (some ⟨w.heap.size + 1, 0, none⟩), .pointer (some ⟨x3.heap.size, 0, none⟩), .pointer (some ⟨w.heap.size + 1 + 1, 0, none⟩)]) ∧ x.cell? ⟨x5.heap.size + 1 + 1 + 1, 5, none⟩ = some (.func (.func 45) #[] #[.pointer (some ⟨x5.heap.size + 1 + 1, 0, none⟩), .pointer (some ⟨w.heap.size + 1 + 1, 0, none⟩), .pointer (some ⟨x5.heap.size + 1, 0, none⟩), .pointer (some ⟨w.heap.size + 1, 0, none⟩)]) ∧ EsAt x a L ∧ Blk x w.heap.size 24 #[.int .i64 n, .slice a L.length cap] ∧ IsAt x b1 A1 ∧ IsAt x b2 B1 ∧ IsAt x b3 A2 ∧ IsAt x b4 B2) := Lib.hid fun x hx => ⟨(HFY2.out x (hy.trans (hx.mono hy.size))).1, (HFY2.out x (hy.trans (hx.mono hy.size))).2.1, (HFY2.out x (hy.trans (hx.mono hy.size))).2.2.1, (HFY2.out x (hy.trans (hx.mono hy.size))).2.2.2.1, (HFY2.out x (hy.trans (hx.mono hy.size))).2.2.2.2.1, (HFY2.out x (hy.trans (hx.mono hy.size))).2.2.2.2.2.1, (HFY2.out x (hy.trans (hx.mono hy.size))).2.2.2.2.2.2.1, (HFY2.out x (hy.trans (hx.mono hy.size))).2.2.2.2.2.2.2.1, (hQ0.below hx hQ0.lt).cell 0, (hQ1.below hx hQ1.lt).cell 0, (hQ1.below hx hQ1.lt).cell 1, (hQ1.below hx hQ1.lt).cell 2, (hQ1.below hx hQ1.lt).cell 3, (hQ1.below hx hQ1.lt).cell 4, (hQ1.below hx hQ1.lt).cell 5, (HFY2.out x (hy.trans (hx.mono hy.size))).2.2.2.2.2.2.2.2.1, (HFY2.out x (hy.trans (hx.mono hy.size))).2.2.2.2.2.2.2.2.2.1, (HFY2.out x (hy.trans (hx.mono hy.size))).2.2.2.2.2.2.2.2.2.2.1, (HFY2.out x (hy.trans (hx.mono hy.size))).2.2.2.2.2.2.2.2.2.2.2.1, (HFY2.out x (hy.trans (hx.mono hy.size))).2.2.2.2.2.2.2.2.2.2.2.2.1, (HFY2.out x (hy.trans (hx.mono hy.size))).2.2.2.2.2.2.2.2.2.2.2.2.2⟩
  clear g0 g1 g2 g3 g4 g5 g6 g7 hk6 hQ0 hQ1 hy hsz hY3 c1 c2 c3 c4 d0 dd1 dd2 dd3 dd4 nc1 nc2 nc3 nc4
  have hk7 : Below Y3.heap.size Y3 Y3 := Below.refl _ _
  obtain ⟨lb1, lo1, hbb, -, -⟩ := ((HFY3.out _ hk7).2.2.2.2.2.2.2.2.2.2.2.2.2.2.2.2.2.1).one f (by have := HL1.out; have := HEF.out; omega)
  subst hbb
  have HVA1 : Hid (∀ u, Below Y3.heap.size Y3 u → u.cell? ⟨lb1, lo1 + f, none⟩ = some (.int .i64 (iAt A1 f))) := Lib.hid fun u hu => by
    obtain ⟨b9, o9, e1, -, y1⟩ := ((HFY3.out u hu).2.2.2.2.2.2.2.2.2.2.2.2.2.2.2.2.2.1).one f (by have := HL1.out; have := HEF.out; omega)
    simp only [Option.some.injEq, Addr.mk.injEq] at e1
    obtain ⟨rfl, rfl, -⟩ := e1
    exact y1
  obtain ⟨lb2, lo2, hbb, -, -⟩ := ((HFY3.out _ hk7).2.2.2.2.2.2.2.2.2.2.2.2.2.2.2.2.2.2.1).one f (by have := HL1.out; have := HEF.out; omega)
  subst hbb
  have HVB1 : Hid (∀ u, Below Y3.heap.size Y3 u → u.cell? ⟨lb2, lo2 + f, none⟩ = some (.int .i64 (iAt B1 f))) := Lib.hid fun u hu => by
    obtain ⟨b9, o9, e1, -, y1⟩ := ((HFY3.out u hu).2.2.2.2.2.2.2.2.2.2.2.2.2.2.2.2.2.2.1).one f (by have := HL1.out; have := HEF.out; omega)
    simp only [Option.some.injEq, Addr.mk.injEq] at e1
    obtain ⟨rfl, rfl, -⟩ := e1
    exact y1
  obtain ⟨lb3, lo3, hbb, -, -⟩ := ((HFY3.out _ hk7).2.2.2.2.2.2.2.2.2.2.2.2.2.2.2.2.2.2.2.1).one e (by have := HL1.out; have := HEF.out; omega)
  subst hbb
  have HVA2 : Hid (∀ u, Below Y3.heap.size Y3 u → u.cell? ⟨lb3, lo3 + e, none⟩ = some (.int .i64 (iAt A2 e))) := Lib.hid fun u hu => by
    obtain ⟨b9, o9, e1, -, y1⟩ := ((HFY3.out u hu).2.2.2.2.2.2.2.2.2.2.2.2.2.2.2.2.2.2.2.1).one e (by have := HL1.out; have := HEF.out; omega)
    simp only [Option.some.injEq, Addr.mk.injEq] at e1
    obtain ⟨rfl, rfl, -⟩ := e1
    exact y1
  obtain ⟨lb4, lo4, hbb, -, -⟩ := ((HFY3.out _ hk7).2.2.2.2.2.2.2.2.2.2.2.2.2.2.2.2.2.2.2.2).one e (by have := HL1.out; have := HEF.out; omega)
  subst hbb
  have HVB2 : Hid (∀ u, Below Y3.heap.size Y3 u → u.cell? ⟨lb4, lo4 + e, none⟩ = some (.int .i64 (iAt B2 e))) := Lib.hid fun u hu => by
    obtain ⟨b9, o9, e1, -, y1⟩ := ((HFY3.out u hu).2.2.2.2.2.2.2.2.2.2.2.2.2.2.2.2.2.2.2.2).one e (by have := HL1.out; have := HEF.out; omega)
    simp only [Option.some.injEq, Addr.mk.injEq] at e1
    obtain ⟨rfl, rfl, -⟩ := e1
    exact y1
  have HC2 : Hid (∀ u, Below Y3.heap.size Y3 u → Calls Try.prog 40 #[.pointer (some ⟨x5.heap.size + 1 + 1, 0, none⟩), .pointer (some ⟨w.heap.size + 1, 0, none⟩), .pointer (some ⟨x3.heap.size, 0, none⟩), .pointer (some ⟨w.heap.size + 1 + 1, 0, none⟩)] u (fun e w' => ∃ a1 c1, e = .returned (.tuple #[.agg #[.int .i64 N0, .slice a1 J0.length c1], .bool true]) ∧ EsAt w' a1 J0 ∧ Below u.heap.size u w')) := Lib.hid fun u hu => clo_2 _ _ _ _ (w.heap.size) lb1 lo1 A1.length d1 f _ (iAt A1 f) N0 J0 u (by have := HL1.out; have := HEF.out; omega)
    (Lib.hid fun v hv => ⟨(HFY3.out v (hu.trans (hv.mono hu.size))).2.2.2.2.2.2.2.2.1, (HFY3.out v (hu.trans (hv.mono hu.size))).2.2.1, (HFY3.out v (hu.trans (hv.mono hu.size))).2.2.2.2.1, (HFY3.out v (hu.trans (hv.mono hu.size))).2.2.2.1, HVA1.out v (hu.trans (hv.mono hu.size))⟩)
    (Lib.hid fun v hv => HK2.out w.heap.size v ((HFY3.out v (hu.trans (hv.mono hu.size))).2.2.2.2.2.2.2.2.2.2.2.2.2.2.2.2.1) ((HFY3.out v (hu.trans (hv.mono hu.size))).2.2.2.2.2.2.2.2.2.2.2.2.2.2.2.1))
  have HC3 : Hid (∀ u, Below Y3.heap.size Y3 u → Calls Try.prog 41 #[.pointer (some ⟨x5.heap.size + 1 + 1, 0, none⟩), .pointer (some ⟨w.heap.size + 1 + 1, 0, none⟩), .pointer (some ⟨x5.heap.size, 0, none⟩), .pointer (some ⟨w.heap.size + 1, 0, none⟩)] u (fun e w' => ∃ a1 c1, e = .returned (.tuple #[.agg #[.int .i64 N0, .slice a1 J0.length c1], .bool true]) ∧ EsAt w' a1 J0 ∧ Below u.heap.size u w')) := Lib.hid fun u hu => clo_3 _ _ _ _ (w.heap.size) lb3 lo3 A2.length d3 e _ (iAt A2 e) N0 J0 u (by have := HL1.out; have := HEF.out; omega)
    (Lib.hid fun v hv => ⟨(HFY3.out v (hu.trans (hv.mono hu.size))).2.2.2.2.2.2.2.2.1, (HFY3.out v (hu.trans (hv.mono hu.size))).2.2.2.1, (HFY3.out v (hu.trans (hv.mono hu.size))).2.2.2.2.2.2.1, (HFY3.out v (hu.trans (hv.mono hu.size))).2.2.1, HVA2.out v (hu.trans (hv.mono hu.size))⟩)
    (Lib.hid fun v hv => HK3.out w.heap.size v ((HFY3.out v (hu.trans (hv.mono hu.size))).2.2.2.2.2.2.2.2.2.2.2.2.2.2.2.2.1) ((HFY3.out v (hu.trans (hv.mono hu.size))).2.2.2.2.2.2.2.2.2.2.2.2.2.2.2.1))
  have HC4 : Hid (∀ u, Below Y3.heap.size Y3 u → Calls Try.prog 42 #[.pointer (some ⟨x5.heap.size + 1 + 1, 0, none⟩), .pointer (some ⟨w.heap.size + 1, 0, none⟩), .pointer (some ⟨x3.heap.size + 1, 0, none⟩), .pointer (some ⟨w.heap.size + 1 + 1, 0, none⟩)] u (fun e w' => ∃ a1 c1, e = .returned (.tuple #[.agg #[.int .i64 N1, .slice a1 J1.length c1], .bool true]) ∧ EsAt w' a1 J1 ∧ Below u.heap.size u w')) := Lib.hid fun u hu => clo_4 _ _ _ _ (w.heap.size) lb2 lo2 B1.length d2 f _ (iAt B1 f) N1 J1 u (by have := HL1.out; have := HEF.out; omega)
    (Lib.hid fun v hv => ⟨(HFY3.out v (hu.trans (hv.mono hu.size))).2.2.2.2.2.2.2.2.1, (HFY3.out v (hu.trans (hv.mono hu.size))).2.2.1, (HFY3.out v (hu.trans (hv.mono hu.size))).2.2.2.2.2.1, (HFY3.out v (hu.trans (hv.mono hu.size))).2.2.2.1, HVB1.out v (hu.trans (hv.mono hu.size))⟩)
    (Lib.hid fun v hv => HK4.out w.heap.size v ((HFY3.out v (hu.trans (hv.mono hu.size))).2.2.2.2.2.2.2.2.2.2.2.2.2.2.2.2.1) ((HFY3.out v (hu.trans (hv.mono hu.size))).2.2.2.2.2.2.2.2.2.2.2.2.2.2.2.1))
  have HC5 : Hid (∀ u, Below Y3.heap.size Y3 u → Calls Try.prog 43 #[.pointer (some ⟨x5.heap.size + 1 + 1, 0, none⟩), .pointer (some ⟨w.heap.size + 1 + 1, 0, none⟩), .pointer (some ⟨x5.heap.size + 1, 0, none⟩), .pointer (some ⟨w.heap.size + 1, 0, none⟩)] u (fun e w' => ∃ a1 c1, e = .returned (.tuple #[.agg #[.int .i64 N1, .slice a1 J1.length c1], .bool true]) ∧ EsAt w' a1 J1 ∧ Below u.heap.size u w')) := Lib.hid fun u hu => clo_5 _ _ _ _ (w.heap.size) lb4 lo4 B2.length d4 e _ (iAt B2 e) N1 J1 u (by have := HL1.out; have := HEF.out; omega)
    (Lib.hid fun v hv => ⟨(HFY3.out v (hu.trans (hv.mono hu.size))).2.2.2.2.2.2.2.2.1, (HFY3.out v (hu.trans (hv.mono hu.size))).2.2.2.1, (HFY3.out v (hu.trans (hv.mono hu.size))).2.2.2.2.2.2.2.1, (HFY3.out v (hu.trans (hv.mono hu.size))).2.2.1, HVB2.out v (hu.trans (hv.mono hu.size))⟩)
    (Lib.hid fun v hv => HK5.out w.heap.size v ((HFY3.out v (hu.trans (hv.mono hu.size))).2.2.2.2.2.2.2.2.2.2.2.2.2.2.2.2.1) ((HFY3.out v (hu.trans (hv.mono hu.size))).2.2.2.2.2.2.2.2.2.2.2.2.2.2.2.1))
  have HC6 : Hid (∀ u, Below Y3.heap.size Y3 u → Calls Try.prog 44 #[.pointer (some ⟨x5.heap.size + 1 + 1, 0, none⟩), .pointer (some ⟨w.heap.size + 1, 0, none⟩), .pointer (some ⟨x3.heap.size, 0, none⟩), .pointer (some ⟨w.heap.size + 1 + 1, 0, none⟩)] u (fun e w' => ∃ a1 c1, e = .returned (.tuple #[.agg #[.int .i64 N2, .slice a1 J2.length c1], .bool true]) ∧ EsAt w' a1 J2 ∧ Below u.heap.size u w')) := Lib.hid fun u hu => clo_6 _ _ _ _ (w.heap.size) lb1 lo1 A1.length d1 f _ (iAt A1 f) N2 J2 u (by have := HL1.out; have := HEF.out; omega)
    (Lib.hid fun v hv => ⟨(HFY3.out v (hu.trans (hv.mono hu.size))).2.2.2.2.2.2.2.2.1, (HFY3.out v (hu.trans (hv.mono hu.size))).2.2.1, (HFY3.out v (hu.trans (hv.mono hu.size))).2.2.2.2.1, (HFY3.out v (hu.trans (hv.mono hu.size))).2.2.2.1, HVA1.out v (hu.trans (hv.mono hu.size))⟩)
    (Lib.hid fun v hv => HK6.out w.heap.size v ((HFY3.out v (hu.trans (hv.mono hu.size))).2.2.2.2.2.2.2.2.2.2.2.2.2.2.2.2.1) ((HFY3.out v (hu.trans (hv.mono hu.size))).2.2.2.2.2.2.2.2.2.2.2.2.2.2.2.1))
  have HC7 : Hid (∀ u, Below Y3.heap.size Y3 u → Calls Try.prog 45 #[.pointer (some ⟨x5.heap.size + 1 + 1, 0, none⟩), .pointer (some ⟨w.heap.size + 1 + 1, 0, none⟩), .pointer (some ⟨x5.heap.size + 1, 0, none⟩), .pointer (some ⟨w.heap.size + 1, 0, none⟩)] u (fun e w' => ∃ a1 c1, e = .returned (.tuple #[.agg #[.int .i64 N2, .slice a1 J2.length c1], .bool true]) ∧ EsAt w' a1 J2 ∧ Below u.heap.size u w')) := Lib.hid fun u hu => clo_7 _ _ _ _ (w.heap.size) lb4 lo4 B2.length d4 e _ (iAt B2 e) N2 J2 u (by have := HL1.out; have := HEF.out; omega)
    (Lib.hid fun v hv => ⟨(HFY3.out v (hu.trans (hv.mono hu.size))).2.2.2.2.2.2.2.2.1, (HFY3.out v (hu.trans (hv.mono hu.size))).2.2.2.1, (HFY3.out v (hu.trans (hv.mono hu.size))).2.2.2.2.2.2.2.1, (HFY3.out v (hu.trans (hv.mono hu.size))).2.2.1, HVB2.out v (hu.trans (hv.mono hu.size))⟩)
    (Lib.hid fun v hv => HK7.out w.heap.size v ((HFY3.out v (hu.trans (hv.mono hu.size))).2.2.2.2.2.2.2.2.2.2.2.2.2.2.2.2.1) ((HFY3.out v (hu.trans (hv.mono hu.size))).2.2.2.2.2.2.2.2.2.2.2.2.2.2.2.1))
  have HG3 : Hid (∀ u, Below Y3.heap.size Y3 u → (u.cell? ⟨w.heap.size, 0, none⟩ = some (.int .i64 n) ∧ u.cell? ⟨w.heap.size, 1, none⟩ = some (.slice a L.length cap) ∧ u.cell? ⟨w.heap.size + 1, 0, none⟩ = some (.int .i64 (e : Nat))) ∧ EsAt u a L) := Lib.hid fun u hu => ⟨⟨(HFY3.out u hu).1, (HFY3.out u hu).2.1, (HFY3.out u hu).2.2.1⟩, (HFY3.out u hu).2.2.2.2.2.2.2.2.2.2.2.2.2.2.2.1⟩
  have HR3 : Hid (∀ u, Below Y3.heap.size Y3 u → u.cell? ⟨x5.heap.size + 1 + 1 + 1, 0, none⟩ = some (.func (.func 40) #[] #[.pointer (some ⟨x5.heap.size + 1 + 1, 0, none⟩), .pointer (some ⟨w.heap.size + 1, 0, none⟩), .pointer (some ⟨x3.heap.size, 0, none⟩), .pointer (some ⟨w.heap.size + 1 + 1, 0, none⟩)]) ∧ u.cell? ⟨x5.heap.size + 1 + 1 + 1, 1, none⟩ = some (.func (.func 41) #[] #[.pointer (some ⟨x5.heap.size + 1 + 1, 0, none⟩), .pointer (some ⟨w.heap.size + 1 + 1, 0, none⟩), .pointer (some ⟨x5.heap.size, 0, none⟩), .pointer (some ⟨w.heap.size + 1, 0, none⟩)]) ∧ u.cell? ⟨x5.heap.size + 1 + 1 + 1, 2, none⟩ = some (.func (.func 42) #[] #[.pointer (some ⟨x5.heap.size + 1 + 1, 0, none⟩), .pointer (some ⟨w.heap.size + 1, 0, none⟩), .pointer (some ⟨x3.heap.size + 1, 0, none⟩), .pointer (some ⟨w.heap.size + 1 + 1, 0, none⟩)]) ∧ u.cell? ⟨x5.heap.size + 1 + 1 + 1, 3, none⟩ = some (.func (.func 43) #[] #[.pointer (some ⟨x5.heap.size + 1 + 1, 0, none⟩), .pointer (some ⟨w.heap.size + 1 + 1, 0, none⟩), .pointer (some ⟨x5.heap.size + 1, 0, none⟩), .pointer (some ⟨w.heap.size + 1, 0, none⟩)]) ∧ u.cell? ⟨x5.heap.size + 1 + 1 + 1, 4, none⟩ = some (.func (.func 44) #[] #[.pointer (some ⟨x5.heap.size + 1 + 1, 0, none⟩), .pointer (some ⟨w.heap.size + 1, 0, none⟩), .pointer (some ⟨x3.heap.size, 0, none⟩), .pointer (some ⟨w.heap.size + 1 + 1, 0, none⟩)]) ∧ u.cell? ⟨x5.heap.size + 1 + 1 + 1, 5, none⟩ = some (.func (.func 45) #[] #[.pointer (some ⟨x5.heap.size + 1 + 1, 0, none⟩), .pointer (some ⟨w.heap.size + 1 + 1, 0, none⟩), .pointer (some ⟨x5.heap.size + 1, 0, none⟩), .pointer (some ⟨w.heap.size + 1, 0, none⟩)])) := Lib.hid fun u hu => ⟨(HFY3.out u hu).2.2.2.2.2.2.2.2.2.1, (HFY3.out u hu).2.2.2.2.2.2.2.2.2.2.1, (HFY3.out u hu).2.2.2.2.2.2.2.2.2.2.2.1, (HFY3.out u hu).2.2.2.2.2.2.2.2.2.2.2.2.1, (HFY3.out u hu).2.2.2.2.2.2.2.2.2.2.2.2.2.1, (HFY3.out u hu).2.2.2.2.2.2.2.2.2.2.2.2.2.2.1⟩
  clear hk7
  have HK0 : Hid (Below Y3.heap.size Y3 Y3) := Lib.hid (Below.refl _ _)
  go_loopw [101] (fun x wr => ∃ s : Nat, s ≤ 3 ∧ x = .int .i64 s ∧ Below Y3.heap.size Y3 wr) (fun x _ => 3 - (intOf x).toNat)
  case atStart => exact ⟨0, by omega, rfl, HK0.out⟩
  case round =>
    obtain ⟨s, hs, rfl, hb⟩ := hrel
    obtain ⟨r0, r1, r2, r3, r4, r5⟩ := HR3.out wr hb
    by_cases hlt : s < 3
    · rcases (show s = 0 ∨ s = 1 ∨ s = 2 by omega) with hsj | hsj | hsj
      · have r6 : wr.cell? ⟨x5.heap.size + 1 + 1 + 1, s * 2, none⟩ = some (.func (.func 40) #[] #[.pointer (some ⟨x5.heap.size + 1 + 1, 0, none⟩), .pointer (some ⟨w.heap.size + 1, 0, none⟩), .pointer (some ⟨x3.heap.size, 0, none⟩), .pointer (some ⟨w.heap.size + 1 + 1, 0, none⟩)]) := by rw [hsj]; exact r0
        have r7 : wr.cell? ⟨x5.heap.size + 1 + 1 + 1, s * 2 + 1, none⟩ = some (.func (.func 41) #[] #[.pointer (some ⟨x5.heap.size + 1 + 1, 0, none⟩), .pointer (some ⟨w.heap.size + 1 + 1, 0, none⟩), .pointer (some ⟨x5.heap.size, 0, none⟩), .pointer (some ⟨w.heap.size + 1, 0, none⟩)]) := by rw [hsj]; exact r1
        have HSJ := Lib.hid hsj
        have j1 : (s : Int) < 3 := by omega
        have j2 : (0 : Int) ≤ (s : Int) := by omega
        clear r0 r1 r2 r3 r4 r5 hsj hlt hs
        obtain ⟨V1, hV1⟩ : ∃ q, q = wr.alloc (Obj.cells #[.func (.func 40) #[] #[.pointer (some ⟨x5.heap.size + 1 + 1, 0, none⟩), .pointer (some ⟨w.heap.size + 1, 0, none⟩), .pointer (some ⟨x3.heap.size, 0, none⟩), .pointer (some ⟨w.heap.size + 1 + 1, 0, none⟩)], .func (.func 41) #[] #[.pointer (some ⟨x5.heap.size + 1 + 1, 0, none⟩), .pointer (some ⟨w.heap.size + 1 + 1, 0, none⟩), .pointer (some ⟨x5.heap.size, 0, none⟩), .pointer (some ⟨w.heap.size + 1, 0, none⟩)]] 65) := ⟨_, rfl⟩
        have hwV1 : Below wr.heap.size wr V1 := by rw [hV1]; exact (Below.refl _ _).alloc (Nat.le_refl _) _
        have hjV1 : Below Y3.heap.size Y3 V1 := hb.trans (hwV1.mono hb.size)
        have HQV1 : Hid (Blk V1 wr.heap.size 65 #[.func (.func 40) #[] #[.pointer (some ⟨x5.heap.size + 1 + 1, 0, none⟩), .pointer (some ⟨w.heap.size + 1, 0, none⟩), .pointer (some ⟨x3.heap.size, 0, none⟩), .pointer (some ⟨w.heap.size + 1 + 1, 0, none⟩)], .func (.func 41) #[] #[.pointer (some ⟨x5.heap.size + 1 + 1, 0, none⟩), .pointer (some ⟨w.heap.size + 1 + 1, 0, none⟩), .pointer (some ⟨x5.heap.size, 0, none⟩), .pointer (some ⟨w.heap.size + 1, 0, none⟩)]]) := Lib.hid (by rw [hV1]; exact Blk.new _ _ _)
        have HV1 := Lib.hid hV1
        clear hV1
        go_wp2_with fail
        rw [← HV1.out]
        clear r6 r7
        refine (HC2.out _ hjV1).mono ?_
        rintro r u1 ⟨a7, c7, rfl, hg7, hb7⟩
        have hju1 : Below Y3.heap.size Y3 u1 := hjV1.trans (hb7.mono hjV1.size)
        have HQu1 := Lib.hid (HQV1.out.below hb7 HQV1.out.lt)
        obtain ⟨V2, hV2⟩ : ∃ q, q = u1.alloc (Obj.cells #[.int .i64 N0, .slice a7 J0.length c7] 24) := ⟨_, rfl⟩
        have hwV2 : Below u1.heap.size u1 V2 := by rw [hV2]; exact (Below.refl _ _).alloc (Nat.le_refl _) _
        have hjV2 : Below Y3.heap.size Y3 V2 := hju1.trans (hwV2.mono hju1.size)
        have HQV2 : Hid (Blk V2 u1.heap.size 24 #[.int .i64 N0, .slice a7 J0.length c7]) := Lib.hid (by rw [hV2]; exact Blk.new _ _ _)
        have s1 : (u1.alloc (Obj.cells #[.int .i64 N0, .slice a7 J0.length c7] 24)).cell? ⟨wr.heap.size, 1, none⟩ = some (.func (.func 41) #[] #[.pointer (some ⟨x5.heap.size + 1 + 1, 0, none⟩), .pointer (some ⟨w.heap.size + 1 + 1, 0, none⟩), .pointer (some ⟨x5.heap.size, 0, none⟩), .pointer (some ⟨w.heap.size + 1, 0, none⟩)]) := by rw [← hV2]; exact (HQu1.out.below hwV2 HQu1.out.lt).cell 1
        have HV2 := Lib.hid hV2
        clear hV2
        go_wp2_with fail
        rw [← HV2.out]
        clear s1
        refine (HC3.out _ hjV2).mono ?_
        rintro r u3 ⟨a8, c8, rfl, hg8, hb8⟩
        have hju3 : Below Y3.heap.size Y3 u3 := hjV2.trans (hb8.mono hjV2.size)
        have HQu3 := Lib.hid (HQV2.out.below hb8 HQV2.out.lt)
        have hg7c := (hg7.keep hwV2).keep hb8
        obtain ⟨V4, hV4⟩ : ∃ q, q = u3.alloc (Obj.cells #[.int .i64 N0, .slice a8 J0.length c8] 24) := ⟨_, rfl⟩
        have hwV4 : Below u3.heap.size u3 V4 := by rw [hV4]; exact (Below.refl _ _).alloc (Nat.le_refl _) _
        have hjV4 : Below Y3.heap.size Y3 V4 := hju3.trans (hwV4.mono hju3.size)
        have HQV4 : Hid (Blk V4 u3.heap.size 24 #[.int .i64 N0, .slice a8 J0.length c8]) := Lib.hid (by rw [hV4]; exact Blk.new _ _ _)
        have s1 : (u3.alloc (Obj.cells #[.int .i64 N0, .slice a8 J0.length c8] 24)).cell? ⟨u1.heap.size, 0, none⟩ = some (.int .i64 N0) := by rw [← hV4]; exact (HQu3.out.below hwV4 HQu3.out.lt).cell 0
        have s2 : (u3.alloc (Obj.cells #[.int .i64 N0, .slice a8 J0.length c8] 24)).cell? ⟨u1.heap.size, 1, none⟩ = some (.slice a7 J0.length c7) := by rw [← hV4]; exact (HQu3.out.below hwV4 HQu3.out.lt).cell 1
        have HV4 := Lib.hid hV4
        clear hV4
        go_wp2_with fail
        rw [← HV4.out]
        clear s1 s2
        refine (HS0.out a7 c7 a8 c8 _ (hg7c.keep hwV4) (hg8.keep hwV4)).mono ?_
        rintro r u5 ⟨rfl, hb9⟩
        have HEJ := Lib.hid (hjV4.trans (hb9.mono hjV4.size))
        go_wp2_with fail
        go_roundw
        case rel => exact ⟨s + 1, by omega, by go_num, HEJ.out⟩
        case measure => simp [intOf]; omega
      · have r6 : wr.cell? ⟨x5.heap.size + 1 + 1 + 1, s * 2, none⟩ = some (.func (.func 42) #[] #[.pointer (some ⟨x5.heap.size + 1 + 1, 0, none⟩), .pointer (some ⟨w.heap.size + 1, 0, none⟩), .pointer (some ⟨x3.heap.size + 1, 0, none⟩), .pointer (some ⟨w.heap.size + 1 + 1, 0, none⟩)]) := by rw [hsj]; exact r2
        have r7 : wr.cell? ⟨x5.heap.size + 1 + 1 + 1, s * 2 + 1, none⟩ = some (.func (.func 43) #[] #[.pointer (some ⟨x5.heap.size + 1 + 1, 0, none⟩), .pointer (some ⟨w.heap.size + 1 + 1, 0, none⟩), .pointer (some ⟨x5.heap.size + 1, 0, none⟩), .pointer (some ⟨w.heap.size + 1, 0, none⟩)]) := by rw [hsj]; exact r3
        have HSJ := Lib.hid hsj
        have j1 : (s : Int) < 3 := by omega
        have j2 : (0 : Int) ≤ (s : Int) := by omega
        clear r0 r1 r2 r3 r4 r5 hsj hlt hs
        obtain ⟨V1, hV1⟩ : ∃ q, q = wr.alloc (Obj.cells #[.func (.func 42) #[] #[.pointer (some ⟨x5.heap.size + 1 + 1, 0, none⟩), .pointer (some ⟨w.heap.size + 1, 0, none⟩), .pointer (some ⟨x3.heap.size + 1, 0, none⟩), .pointer (some ⟨w.heap.size + 1 + 1, 0, none⟩)], .func (.func 43) #[] #[.pointer (some ⟨x5.heap.size + 1 + 1, 0, none⟩), .pointer (some ⟨w.heap.size + 1 + 1, 0, none⟩), .pointer (some ⟨x5.heap.size + 1, 0, none⟩), .pointer (some ⟨w.heap.size + 1, 0, none⟩)]] 65) := ⟨_, rfl⟩
        have hwV1 : Below wr.heap.size wr V1 := by rw [hV1]; exact (Below.refl _ _).alloc (Nat.le_refl _) _
        have hjV1 : Below Y3.heap.size Y3 V1 := hb.trans (hwV1.mono hb.size)
        have HQV1 : Hid (Blk V1 wr.heap.size 65 #[.func (.func 42) #[] #[.pointer (some ⟨x5.heap.size + 1 + 1, 0, none⟩), .pointer (some ⟨w.heap.size + 1, 0, none⟩), .pointer (some ⟨x3.heap.size + 1, 0, none⟩), .pointer (some ⟨w.heap.size + 1 + 1, 0, none⟩)], .func (.func 43) #[] #[.pointer (some ⟨x5.heap.size + 1 + 1, 0, none⟩), .pointer (some ⟨w.heap.size + 1 + 1, 0, none⟩), .pointer (some ⟨x5.heap.size + 1, 0, none⟩), .pointer (some ⟨w.heap.size + 1, 0, none⟩)]]) := Lib.hid (by rw [hV1]; exact Blk.new _ _ _)
        have HV1 := Lib.hid hV1
        clear hV1
        go_wp2_with fail
        rw [← HV1.out]
        clear r6 r7
        refine (HC4.out _ hjV1).mono ?_
        rintro r u1 ⟨a7, c7, rfl, hg7, hb7⟩
        have hju1 : Below Y3.heap.size Y3 u1 := hjV1.trans (hb7.mono hjV1.size)
        have HQu1 := Lib.hid (HQV1.out.below hb7 HQV1.out.lt)
        obtain ⟨V2, hV2⟩ : ∃ q, q = u1.alloc (Obj.cells #[.int .i64 N1, .slice a7 J1.length c7] 24) := ⟨_, rfl⟩
        have hwV2 : Below u1.heap.size u1 V2 := by rw [hV2]; exact (Below.refl _ _).alloc (Nat.le_refl _) _
        have hjV2 : Below Y3.heap.size Y3 V2 := hju1.trans (hwV2.mono hju1.size)
        have HQV2 : Hid (Blk V2 u1.heap.size 24 #[.int .i64 N1, .slice a7 J1.length c7]) := Lib.hid (by rw [hV2]; exact Blk.new _ _ _)
        have s1 : (u1.alloc (Obj.cells #[.int .i64 N1, .slice a7 J1.length c7] 24)).cell? ⟨wr.heap.size, 1, none⟩ = some (.func (.func 43) #[] #[.pointer (some ⟨x5.heap.size + 1 + 1, 0, none⟩), .pointer (some ⟨w.heap.size + 1 + 1, 0, none⟩), .pointer (some ⟨x5.heap.size + 1, 0, none⟩), .pointer (some ⟨w.heap.size + 1, 0, none⟩)]) := by rw [← hV2]; exact (HQu1.out.below hwV2 HQu1.out.lt).cell 1
        have HV2 := Lib.hid hV2
        clear hV2
        go_wp2_with fail
        rw [← HV2.out]
        clear s1
        refine (HC5.out _ hjV2).mono ?_
        rintro r u3 ⟨a8, c8, rfl, hg8, hb8⟩
        have hju3 : Below Y3.heap.size Y3 u3 := hjV2.trans (hb8.mono hjV2.size)
        have HQu3 := Lib.hid (HQV2.out.below hb8 HQV2.out.lt)
        have hg7c := (hg7.keep hwV2).keep hb8
        obtain ⟨V4, hV4⟩ : ∃ q, q = u3.alloc (Obj.cells #[.int .i64 N1, .slice a8 J1.length c8] 24) := ⟨_, rfl⟩
        have hwV4 : Below u3.heap.size u3 V4 := by rw [hV4]; exact (Below.refl _ _).alloc (Nat.le_refl _) _
        have hjV4 : Below Y3.heap.size Y3 V4 := hju3.trans (hwV4.mono hju3.size)
        have HQV4 : Hid (Blk V4 u3.heap.size 24 #[.int .i64 N1, .slice a8 J1.length c8]) := Lib.hid (by rw [hV4]; exact Blk.new _ _ _)
        have s1 : (u3.alloc (Obj.cells #[.int .i64 N1, .slice a8 J1.length c8] 24)).cell? ⟨u1.heap.size, 0, none⟩ = some (.int .i64 N1) := by rw [← hV4]; exact (HQu3.out.below hwV4 HQu3.out.lt).cell 0
        have s2 : (u3.alloc (Obj.cells #[.int .i64 N1, .slice a8 J1.length c8] 24)).cell? ⟨u1.heap.size, 1, none⟩ = some (.slice a7 J1.length c7) := by rw [← hV4]; exact (HQu3.out.below hwV4 HQu3.out.lt).cell 1
        have HV4 := Lib.hid hV4
        clear hV4
        go_wp2_with fail
        rw [← HV4.out]
        clear s1 s2
        refine (HS1.out a7 c7 a8 c8 _ (hg7c.keep hwV4) (hg8.keep hwV4)).mono ?_
        rintro r u5 ⟨rfl, hb9⟩
        have HEJ := Lib.hid (hjV4.trans (hb9.mono hjV4.size))
        go_wp2_with fail
        go_roundw
        case rel => exact ⟨s + 1, by omega, by go_num, HEJ.out⟩
        case measure => simp [intOf]; omega
      · have r6 : wr.cell? ⟨x5.heap.size + 1 + 1 + 1, s * 2, none⟩ = some (.func (.func 44) #[] #[.pointer (some ⟨x5.heap.size + 1 + 1, 0, none⟩), .pointer (some ⟨w.heap.size + 1, 0, none⟩), .pointer (some ⟨x3.heap.size, 0, none⟩), .pointer (some ⟨w.heap.size + 1 + 1, 0, none⟩)]) := by rw [hsj]; exact r4
        have r7 : wr.cell? ⟨x5.heap.size + 1 + 1 + 1, s * 2 + 1, none⟩ = some (.func (.func 45) #[] #[.pointer (some ⟨x5.heap.size + 1 + 1, 0, none⟩), .pointer (some ⟨w.heap.size + 1 + 1, 0, none⟩), .pointer (some ⟨x5.heap.size + 1, 0, none⟩), .pointer (some ⟨w.heap.size + 1, 0, none⟩)]) := by rw [hsj]; exact r5
        have HSJ := Lib.hid hsj
        have j1 : (s : Int) < 3 := by omega
        have j2 : (0 : Int) ≤ (s : Int) := by omega
        clear r0 r1 r2 r3 r4 r5 hsj hlt hs
        obtain ⟨V1, hV1⟩ : ∃ q, q = wr.alloc (Obj.cells #[.func (.func 44) #[] #[.pointer (some ⟨x5.heap.size + 1 + 1, 0, none⟩), .pointer (some ⟨w.heap.size + 1, 0, none⟩), .pointer (some ⟨x3.heap.size, 0, none⟩), .pointer (some ⟨w.heap.size + 1 + 1, 0, none⟩)], .func (.func 45) #[] #[.pointer (some ⟨x5.heap.size + 1 + 1, 0, none⟩), .pointer (some ⟨w.heap.size + 1 + 1, 0, none⟩), .pointer (some ⟨x5.heap.size + 1, 0, none⟩), .pointer (some ⟨w.heap.size + 1, 0, none⟩)]] 65) := ⟨_, rfl⟩
        have hwV1 : Below wr.heap.size wr V1 := by rw [hV1]; exact (Below.refl _ _).alloc (Nat.le_refl _) _
        have hjV1 : Below Y3.heap.size Y3 V1 := hb.trans (hwV1.mono hb.size)
        have HQV1 : Hid (Blk V1 wr.heap.size 65 #[.func (.func 44) #[] #[.pointer (some ⟨x5.heap.size + 1 + 1, 0, none⟩), .pointer (some ⟨w.heap.size + 1, 0, none⟩), .pointer (some ⟨x3.heap.size, 0, none⟩), .pointer (some ⟨w.heap.size + 1 + 1, 0, none⟩)], .func (.func 45) #[] #[.pointer (some ⟨x5.heap.size + 1 + 1, 0, none⟩), .pointer (some ⟨w.heap.size + 1 + 1, 0, none⟩), .pointer (some ⟨x5.heap.size + 1, 0, none⟩), .pointer (some ⟨w.heap.size + 1, 0, none⟩)]]) := Lib.hid (by rw [hV1]; exact Blk.new _ _ _)
        have HV1 := Lib.hid hV1
        clear hV1
        go_wp2_with fail
        rw [← HV1.out]
        clear r6 r7
        refine (HC6.out _ hjV1).mono ?_
        rintro r u1 ⟨a7, c7, rfl, hg7, hb7⟩
        have hju1 : Below Y3.heap.size Y3 u1 := hjV1.trans (hb7.mono hjV1.size)
        have HQu1 := Lib.hid (HQV1.out.below hb7 HQV1.out.lt)
        obtain ⟨V2, hV2⟩ : ∃ q, q = u1.alloc (Obj.cells #[.int .i64 N2, .slice a7 J2.length c7] 24) := ⟨_, rfl⟩
        have hwV2 : Below u1.heap.size u1 V2 := by rw [hV2]; exact (Below.refl _ _).alloc (Nat.le_refl _) _
        have hjV2 : Below Y3.heap.size Y3 V2 := hju1.trans (hwV2.mono hju1.size)
        have HQV2 : Hid (Blk V2 u1.heap.size 24 #[.int .i64 N2, .slice a7 J2.length c7]) := Lib.hid (by rw [hV2]; exact Blk.new _ _ _)
        have s1 : (u1.alloc (Obj.cells #[.int .i64 N2, .slice a7 J2.length c7] 24)).cell? ⟨wr.heap.size, 1, none⟩ = some (.func (.func 45) #[] #[.pointer (some ⟨x5.heap.size + 1 + 1, 0, none⟩), .pointer (some ⟨w.heap.size + 1 + 1, 0, none⟩), .pointer (some ⟨x5.heap.size + 1, 0, none⟩), .pointer (some ⟨w.heap.size + 1, 0, none⟩)]) := by rw [← hV2]; exact (HQu1.out.below hwV2 HQu1.out.lt).cell 1
        have HV2 := Lib.hid hV2
        clear hV2
        go_wp2_with fail
        rw [← HV2.out]
        clear s1
        refine (HC7.out _ hjV2).mono ?_
        rintro r u3 ⟨a8, c8, rfl, hg8, hb8⟩
        have hju3 : Below Y3.heap.size Y3 u3 := hjV2.trans (hb8.mono hjV2.size)
        have HQu3 := Lib.hid (HQV2.out.below hb8 HQV2.out.lt)
        have hg7c := (hg7.keep hwV2).keep hb8
        obtain ⟨V4, hV4⟩ : ∃ q, q = u3.alloc (Obj.cells #[.int .i64 N2, .slice a8 J2.length c8] 24) := ⟨_, rfl⟩
        have hwV4 : Below u3.heap.size u3 V4 := by rw [hV4]; exact (Below.refl _ _).alloc (Nat.le_refl _) _
        have hjV4 : Below Y3.heap.size Y3 V4 := hju3.trans (hwV4.mono hju3.size)
        have HQV4 : Hid (Blk V4 u3.heap.size 24 #[.int .i64 N2, .slice a8 J2.length c8]) := Lib.hid (by rw [hV4]; exact Blk.new _ _ _)
        have s1 : (u3.alloc (Obj.cells #[.int .i64 N2, .slice a8 J2.length c8] 24)).cell? ⟨u1.heap.size, 0, none⟩ = some (.int .i64 N2) := by rw [← hV4]; exact (HQu3.out.below hwV4 HQu3.out.lt).cell 0
        have s2 : (u3.alloc (Obj.cells #[.int .i64 N2, .slice a8 J2.length c8] 24)).cell? ⟨u1.heap.size, 1, none⟩ = some (.slice a7 J2.length c7) := by rw [← hV4]; exact (HQu3.out.below hwV4 HQu3.out.lt).cell 1
        have HV4 := Lib.hid hV4
        clear hV4
        go_wp2_with fail
        rw [← HV4.out]
        clear s1 s2
        refine (HS2.out a7 c7 a8 c8 _ (hg7c.keep hwV4) (hg8.keep hwV4)).mono ?_
        rintro r u5 ⟨rfl, hb9⟩
        have HEJ := Lib.hid (hjV4.trans (hb9.mono hjV4.size))
        go_wp2_with fail
        go_roundw
        case rel => exact ⟨s + 1, by omega, by go_num, HEJ.out⟩
        case measure => simp [intOf]; omega
    · obtain rfl : s = 3 := by omega
      clear r0 r1 r2 r3 r4 r5
      have ip : (e : Int) < (P.length : Int) := by have := HL1.out; have := HEF.out; omega
      have ip0 : (0 : Int) ≤ (e : Int) := by omega
      have hj0 : Below Y3.heap.size Y3 wr.drew := hb.drew
      go_wp2_with fail
      refine wp_region_late (S := fun u => Below Y3.heap.size Y3 u) (X := []) (by kernel_rfl) ?_
      refine wpAnyL_takeD (i := 0) 130 (.agg #[.int .i64 n, .slice a L.length cap]) rfl rfl (by kernel_rfl) (by kernel_rfl) (by kernel_rfl) (by kernel_rfl) (by kernel_rfl) (fun _ _ _ h => h) hj0 (Or.inl ⟨by rfl, fun u hu => ?_⟩) ?_
      · obtain ⟨⟨t0, t1, t2⟩, -⟩ := HG3.out u hu
        go_simp
      try simp only [Act.put, List.setIfInBounds_toArray, List.set_cons_zero, List.set_cons_succ]
      refine wpAnyL_takeD (i := 2) 132 (.int .i64 (e : Nat)) rfl rfl (by kernel_rfl) (by kernel_rfl) (by kernel_rfl) (by kernel_rfl) (by kernel_rfl) (fun _ _ _ h => h) hj0 (Or.inl ⟨by rfl, fun u hu => ?_⟩) ?_
      · obtain ⟨⟨t0, t1, t2⟩, -⟩ := HG3.out u hu
        go_simp
      try simp only [Act.put, List.setIfInBounds_toArray, List.set_cons_zero, List.set_cons_succ]
      refine wpAnyL_some (rs := [1, 5]) (by kernel_rfl) (by simp) (fun i' hi' => ?_)
      rcases (show i' = 1 ∨ i' = 5 by simpa using hi') with rfl | rfl
      · refine ⟨_, rfl, fun K hK => ?_⟩
        go_simp
        go_at_call 34
        refine (HEN.out _ (HG3.out _ hj0).2).mono ?_
        rintro r y1 ⟨pb, pd, rfl, hpp, hb9⟩
        have hj1 : Below Y3.heap.size Y3 y1 := hj0.trans (hb9.mono hj0.size)
        obtain ⟨qb, qo, hbb, hqlt, -, -⟩ := hpp.two e (by have := HL1.out; have := HEF.out; omega)
        subst hbb
        have HPW : Hid (∀ u, Below y1.heap.size y1 u → u.cell? ⟨qb, qo + e * 2, none⟩ = some (.int .i64 p0) ∧ u.cell? ⟨qb, qo + e * 2 + 1, none⟩ = some (.int .i64 p1)) := Lib.hid fun u hu => by
          obtain ⟨b9, o9, e1, -, w1, w2⟩ := (hpp.keep hu).two e (by have := HL1.out; have := HEF.out; omega)
          simp only [Option.some.injEq, Addr.mk.injEq] at e1
          obtain ⟨rfl, rfl, -⟩ := e1
          rw [HPE.out] at w1 w2
          exact ⟨w1, w2⟩
        clear hpp hqlt
        show K _ _
        refine hK.out _ _ (fun _ => hj1) ?_
        clear hK K
        try simp only [Act.put, List.setIfInBounds_toArray, List.set_cons_zero, List.set_cons_succ]
        refine wpAnyL_pureD (i := 3) 133 (.pointer (some ⟨qb, qo + e * 2, none⟩)) rfl rfl (by kernel_rfl) (by kernel_rfl) (by kernel_rfl) (fun _ _ _ h => h) (Or.inl ⟨by rfl, fun u _ => ?_⟩) ?_
        · go_simp
        try simp only [Act.put, List.setIfInBounds_toArray, List.set_cons_zero, List.set_cons_succ]
        refine wpAnyL_some (rs := [4, 5]) (by kernel_rfl) (by simp) (fun i' hi' => ?_)
        rcases (show i' = 4 ∨ i' = 5 by simpa using hi') with rfl | rfl
        · obtain ⟨w1, w2⟩ := HPW.out y1 (Below.refl _ _)
          refine ⟨_, rfl, fun K hK => ?_⟩
          go_simp
          refine hK.out _ _ (fun _ => hj1) ?_
          clear hK K w1 w2
          try simp only [Act.put, List.setIfInBounds_toArray, List.set_cons_zero, List.set_cons_succ]
          refine wpAnyL_one (i := 5) (by kernel_rfl) rfl (fun K hK => ?_)
          go_simp
          obtain ⟨Z0, hZ0⟩ : ∃ q, q = y1.alloc (Obj.cells #[.int .i64 0, .int .i64 0] 25) := ⟨_, rfl⟩
          have hwZ0 : Below y1.heap.size y1 Z0 := by rw [hZ0]; exact (Below.refl _ _).alloc (Nat.le_refl _) _
          have hjZ0 : Below Y3.heap.size Y3 Z0 := hj1.trans (hwZ0.mono hj1.size)
          have HNZ0 : Hid (Blk Z0 y1.heap.size 25 #[.int .i64 0, .int .i64 0]) := Lib.hid (by rw [hZ0]; exact Blk.new _ _ _)
          rw [← hZ0]
          refine hK.out _ _ (fun _ _ => hjZ0) ?_
          clear hK K hZ0
          try simp only [Act.put, List.setIfInBounds_toArray, List.set_cons_zero, List.set_cons_succ]
          have hN := HNZ0.out
          have v1 : Z0.cell? ⟨y1.heap.size, 0, none⟩ = some (.int .i64 0) := hN.cell 0
          have v2 : Z0.frozen? ⟨y1.heap.size, 0, none⟩ = false := hN.frozen 0
          have v3 : (Z0.setCell ⟨y1.heap.size, 0, none⟩ (.int .i64 p0)).cell? ⟨y1.heap.size, 1, none⟩ = some (.int .i64 0) := (hN.set_ 0 (.int .i64 p0)).cell 1
          have v4 : (Z0.setCell ⟨y1.heap.size, 0, none⟩ (.int .i64 p0)).frozen? ⟨y1.heap.size, 1, none⟩ = false := (hN.set_ 0 (.int .i64 p0)).frozen 1
          obtain ⟨Z, hZe⟩ : ∃ q, q = (Z0.setCell ⟨y1.heap.size, 0, none⟩ (.int .i64 p0)).setCell ⟨y1.heap.size, 1, none⟩ (.int .i64 p1) := ⟨_, rfl⟩
          have hjZ : Below Y3.heap.size Y3 Z := by rw [hZe]; exact (hjZ0.setCell (p := ⟨y1.heap.size, 0, none⟩) hj1.size _).setCell (p := ⟨y1.heap.size, 1, none⟩) hj1.size _
          have HZ : Hid (Blk Z (y1.heap.size) 25 #[.int .i64 p0, .int .i64 p1]) := Lib.hid (by rw [hZe]; exact (hN.set_ 0 (.int .i64 p0)).set_ 1 (.int .i64 p1))
          refine wpAnyL_one (i := 6) (by kernel_rfl) rfl (fun K hK => ?_)
          go_simp
          rw [← hZe]
          refine hK.out _ _ (fun _ _ => hjZ) ?_
          clear hK K v1 v2 v3 v4 hN hZe
          try simp only [Act.put, List.setIfInBounds_toArray, List.set_cons_zero, List.set_cons_succ]
          refine wpAnyL_done (by kernel_rfl) ?_ _
          try simp only [Act.put, List.setIfInBounds_toArray, List.set_cons_zero, List.set_cons_succ]
          have z0 : Z.cell? ⟨y1.heap.size, 0, none⟩ = some (.int .i64 p0) := HZ.out.cell 0
          have z1 : Z.cell? ⟨y1.heap.size, 1, none⟩ = some (.int .i64 p1) := HZ.out.cell 1
          try clear hj0
          have hq : (p0 == p1) = true := by simpa using HPQ.out
          go_wp2_with fail
          refine (HA _).mono ?_
          rintro r wz ⟨rfl, hbz⟩
          have HEND := Lib.hid (HBY3.out.trans ((hjZ.trans (hbz.mono hjZ.size)).mono HBY3.out.size))
          clear hbz
          go_wp2
          go_ret
          exact ⟨rfl, HEND.out⟩
        · refine ⟨_, rfl, fun K hK => ?_⟩
          go_simp
          obtain ⟨Z0, hZ0⟩ : ∃ q, q = y1.alloc (Obj.cells #[.int .i64 0, .int .i64 0] 25) := ⟨_, rfl⟩
          have hwZ0 : Below y1.heap.size y1 Z0 := by rw [hZ0]; exact (Below.refl _ _).alloc (Nat.le_refl _) _
          have hjZ0 : Below Y3.heap.size Y3 Z0 := hj1.trans (hwZ0.mono hj1.size)
          have HNZ0 : Hid (Blk Z0 y1.heap.size 25 #[.int .i64 0, .int .i64 0]) := Lib.hid (by rw [hZ0]; exact Blk.new _ _ _)
          rw [← hZ0]
          refine hK.out _ _ (fun _ => hjZ0) ?_
          clear hK K hZ0
          try simp only [Act.put, List.setIfInBounds_toArray, List.set_cons_zero, List.set_cons_succ]
          obtain ⟨w1, w2⟩ := HPW.out Z0 hwZ0
          refine wpAnyL_one (i := 4) (by kernel_rfl) rfl (fun K hK => ?_)
          go_simp
          refine hK.out _ _ (fun _ _ => hjZ0) ?_
          clear hK K w1 w2
          try simp only [Act.put, List.setIfInBounds_toArray, List.set_cons_zero, List.set_cons_succ]
          have hN := HNZ0.out
          have v1 : Z0.cell? ⟨y1.heap.size, 0, none⟩ = some (.int .i64 0) := hN.cell 0
          have v2 : Z0.frozen? ⟨y1.heap.size, 0, none⟩ = false := hN.frozen 0
          have v3 : (Z0.setCell ⟨y1.heap.size, 0, none⟩ (.int .i64 p0)).cell? ⟨y1.heap.size, 1, none⟩ = some (.int .i64 0) := (hN.set_ 0 (.int .i64 p0)).cell 1
          have v4 : (Z0.setCell ⟨y1.heap.size, 0, none⟩ (.int .i64 p0)).frozen? ⟨y1.heap.size, 1, none⟩ = false := (hN.set_ 0 (.int .i64 p0)).frozen 1
          obtain ⟨Z, hZe⟩ : ∃ q, q = (Z0.setCell ⟨y1.heap.size, 0, none⟩ (.int .i64 p0)).setCell ⟨y1.heap.size, 1, none⟩ (.int .i64 p1) := ⟨_, rfl⟩
          have hjZ : Below Y3.heap.size Y3 Z := by rw [hZe]; exact (hjZ0.setCell (p := ⟨y1.heap.size, 0, none⟩) hj1.size _).setCell (p := ⟨y1.heap.size, 1, none⟩) hj1.size _
          have HZ : Hid (Blk Z (y1.heap.size) 25 #[.int .i64 p0, .int .i64 p1]) := Lib.hid (by rw [hZe]; exact (hN.set_ 0 (.int .i64 p0)).set_ 1 (.int .i64 p1))
          refine wpAnyL_one (i := 6) (by kernel_rfl) rfl (fun K hK => ?_)
          go_simp
          rw [← hZe]
          refine hK.out _ _ (fun _ _ => hjZ) ?_
          clear hK K v1 v2 v3 v4 hN hZe
          try simp only [Act.put, List.setIfInBounds_toArray, List.set_cons_zero, List.set_cons_succ]
          refine wpAnyL_done (by kernel_rfl) ?_ _
          try simp only [Act.put, List.setIfInBounds_toArray, List.set_cons_zero, List.set_cons_succ]
          have z0 : Z.cell? ⟨y1.heap.size, 0, none⟩ = some (.int .i64 p0) := HZ.out.cell 0
          have z1 : Z.cell? ⟨y1.heap.size, 1, none⟩ = some (.int .i64 p1) := HZ.out.cell 1
          try clear hj0
          have hq : (p0 == p1) = true := by simpa using HPQ.out
          go_wp2_with fail
          refine (HA _).mono ?_
          rintro r wz ⟨rfl, hbz⟩
          have HEND := Lib.hid (HBY3.out.trans ((hjZ.trans (hbz.mono hjZ.size)).mono HBY3.out.size))
          clear hbz
          go_wp2
          go_ret
          exact ⟨rfl, HEND.out⟩
      · refine ⟨_, rfl, fun K hK => ?_⟩
        go_simp
        obtain ⟨Z0, hZ0⟩ : ∃ q, q = (wr.alloc (Obj.cells #[.int .i64 0, .int .i64 0] 25)).drew := ⟨_, rfl⟩
        have hwZ0 : Below wr.heap.size wr Z0 := by rw [hZ0]; exact ((Below.refl _ _).alloc (Nat.le_refl _) _).drew
        have hjZ0 : Below Y3.heap.size Y3 Z0 := hb.trans (hwZ0.mono hb.size)
        have HNZ0 : Hid (Blk Z0 wr.heap.size 25 #[.int .i64 0, .int .i64 0]) := Lib.hid (by rw [hZ0]; exact Blk.new _ _ _)
        rw [← hZ0]
        refine hK.out _ _ (fun _ => hjZ0) ?_
        clear hK K hZ0 hj0
        try simp only [Act.put, List.setIfInBounds_toArray, List.set_cons_zero, List.set_cons_succ]
        refine wpAnyL_one (i := 1) (by kernel_rfl) rfl (fun K hK => ?_)
        go_simp
        go_at_call 34
        refine (HEN.out _ (HG3.out _ hjZ0).2).mono ?_
        rintro r y1 ⟨pb, pd, rfl, hpp, hb9⟩
        have hj1 : Below Y3.heap.size Y3 y1 := hjZ0.trans (hb9.mono hjZ0.size)
        obtain ⟨qb, qo, hbb, hqlt, -, -⟩ := hpp.two e (by have := HL1.out; have := HEF.out; omega)
        subst hbb
        have HPW : Hid (∀ u, Below y1.heap.size y1 u → u.cell? ⟨qb, qo + e * 2, none⟩ = some (.int .i64 p0) ∧ u.cell? ⟨qb, qo + e * 2 + 1, none⟩ = some (.int .i64 p1)) := Lib.hid fun u hu => by
          obtain ⟨b9, o9, e1, -, w1, w2⟩ := (hpp.keep hu).two e (by have := HL1.out; have := HEF.out; omega)
          simp only [Option.some.injEq, Addr.mk.injEq] at e1
          obtain ⟨rfl, rfl, -⟩ := e1
          rw [HPE.out] at w1 w2
          exact ⟨w1, w2⟩
        clear hpp hqlt
        show K _ _
        refine hK.out _ _ (fun _ _ => hj1) ?_
        clear hK K
        try simp only [Act.put, List.setIfInBounds_toArray, List.set_cons_zero, List.set_cons_succ]
        refine wpAnyL_pureD (i := 3) 133 (.pointer (some ⟨qb, qo + e * 2, none⟩)) rfl rfl (by kernel_rfl) (by kernel_rfl) (by kernel_rfl) (fun _ _ _ h => h) (Or.inl ⟨by rfl, fun u _ => ?_⟩) ?_
        · go_simp
        try simp only [Act.put, List.setIfInBounds_toArray, List.set_cons_zero, List.set_cons_succ]
        obtain ⟨w1, w2⟩ := HPW.out y1 (Below.refl _ _)
        refine wpAnyL_one (i := 4) (by kernel_rfl) rfl (fun K hK => ?_)
        go_simp
        refine hK.out _ _ (fun _ _ => hj1) ?_
        clear hK K w1 w2
        try simp only [Act.put, List.setIfInBounds_toArray, List.set_cons_zero, List.set_cons_succ]
        have HNy := Lib.hid (HNZ0.out.below hb9 HNZ0.out.lt)
        have hN := HNy.out
        have v1 : y1.cell? ⟨wr.heap.size, 0, none⟩ = some (.int .i64 0) := hN.cell 0
        have v2 : y1.frozen? ⟨wr.heap.size, 0, none⟩ = false := hN.frozen 0
        have v3 : (y1.setCell ⟨wr.heap.size, 0, none⟩ (.int .i64 p0)).cell? ⟨wr.heap.size, 1, none⟩ = some (.int .i64 0) := (hN.set_ 0 (.int .i64 p0)).cell 1
        have v4 : (y1.setCell ⟨wr.heap.size, 0, none⟩ (.int .i64 p0)).frozen? ⟨wr.heap.size, 1, none⟩ = false := (hN.set_ 0 (.int .i64 p0)).frozen 1
        obtain ⟨Z, hZe⟩ : ∃ q, q = (y1.setCell ⟨wr.heap.size, 0, none⟩ (.int .i64 p0)).setCell ⟨wr.heap.size, 1, none⟩ (.int .i64 p1) := ⟨_, rfl⟩
        have hjZ : Below Y3.heap.size Y3 Z := by rw [hZe]; exact (hj1.setCell (p := ⟨wr.heap.size, 0, none⟩) hb.size _).setCell (p := ⟨wr.heap.size, 1, none⟩) hb.size _
        have HZ : Hid (Blk Z (wr.heap.size) 25 #[.int .i64 p0, .int .i64 p1]) := Lib.hid (by rw [hZe]; exact (hN.set_ 0 (.int .i64 p0)).set_ 1 (.int .i64 p1))
        refine wpAnyL_one (i := 6) (by kernel_rfl) rfl (fun K hK => ?_)
        go_simp
        rw [← hZe]
        refine hK.out _ _ (fun _ _ => hjZ) ?_
        clear hK K v1 v2 v3 v4 hN hZe
        try simp only [Act.put, List.setIfInBounds_toArray, List.set_cons_zero, List.set_cons_succ]
        refine wpAnyL_done (by kernel_rfl) ?_ _
        try simp only [Act.put, List.setIfInBounds_toArray, List.set_cons_zero, List.set_cons_succ]
        have z0 : Z.cell? ⟨wr.heap.size, 0, none⟩ = some (.int .i64 p0) := HZ.out.cell 0
        have z1 : Z.cell? ⟨wr.heap.size, 1, none⟩ = some (.int .i64 p1) := HZ.out.cell 1
        try clear hj0
        have hq : (p0 == p1) = true := by simpa using HPQ.out
        go_wp2_with fail
        refine (HA _).mono ?_
        rintro r wz ⟨rfl, hbz⟩
        have HEND := Lib.hid (HBY3.out.trans ((hjZ.trans (hbz.mono hjZ.size)).mono HBY3.out.size))
        clear hbz
        go_wp2
        go_ret
        exact ⟨rfl, HEND.out⟩
end Go.Proofs.Ytndjjafpdiehdaa
