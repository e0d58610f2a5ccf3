/- Walks of the laws of fractions: the reference reads texts. -/
import Derived.Test.YtolkiimlchfmlaaGreatDoorFw
import Derived.WalkKit
namespace Go.Proofs.YtolkiimlchfmlaaGreatDoor
open Go.RowKit Go.Proofs.Num

set_option maxHeartbeats 6400000 in
set_option maxRecDepth 100000 in
theorem rfParse_n_n3 (s : ByteArray) (hs : s.size ≤ 100000) (hno : ∀ (k : Nat) (hk : k < s.size), s[k].toNat ≠ 47) (H1 : Hid (∀ w, Calls Tryz.prog 55 #[.string s] w fun e w' => e = .returned (.int .i64 (((3 : Nat)) : Int)) ∧ w = w')) (w : World) :
    Calls Tryz.prog 24 #[.string s] w (FrE w ⟨#[]⟩ ⟨#[]⟩ 3) := by
  unfold FrE
  unfold FrV at *
  have HNO := Lib.hid hno
  obtain ⟨W, hW, hR, hA, hBl, hsz⟩ := box2T 24 w (.string ⟨#[]⟩) (.string ⟨#[]⟩) (.string s) (.string ⟨#[49]⟩)
  have HR := Lib.hid hR
  have HA := Lib.hid hA
  have HBL := Lib.hid hBl
  have HW := Lib.hid hW
  have HZ := Lib.hid hsz
  clear hR hA hBl hsz hW hno
  go_enter Tryz.func24, Tryz.ntmps24
  go_wp2
  rw [← HW.out]
  go_loop [5] (fun v => ∃ k : Nat, k ≤ s.size ∧ v = .int .i64 k) (fun v => s.size - (intOf v).toNat)
  case atStart => exact ⟨0, Nat.zero_le _, rfl⟩
  case round =>
    obtain ⟨k', hk', rfl⟩ := hrel
    by_cases hlt : k' < s.size
    · have hks : k' < s.size := by omega
      have h1 : (((s[k'].toNat : Nat) : Int) == 47) = false := beq_eq_false_iff_ne.2 (by have := HNO.out k' hks; omega)
      go_wp2
      go_round
      case rel => exact ⟨k' + 1, by omega, by simp⟩
      case measure => simp [intOf]; omega
    · have hkp : k' = s.size := by omega
      subst hkp
      have hA9 := HA.out
      have y0 := hA9.c0; have y1 := hA9.c1
      clear hA9
      go_wp2_with fail
      refine (H1.out _).mono ?_
      rintro en w1 ⟨rfl, rfl⟩
      have hR9 := HR.out
      have z0 := hR9.c0; have z1 := hR9.c1; have z2 := hR9.f0 0; have z3 := hR9.f0 1
      clear hR9
      go_wp2
      refine bodyPost_ret (v := .tuple #[.agg #[.string ⟨#[]⟩, .string ⟨#[]⟩], .int .i64 3]) (by simp [results, Tryz.results24, go_sem, z0, z1]) rfl ⟨rfl, (HBL.out.setCell (by simp <;> omega) _).setCell (by simp <;> omega) _⟩

set_option maxHeartbeats 6400000 in
set_option maxRecDepth 100000 in
theorem rfParse_n_d3 (s : ByteArray) (hs : s.size ≤ 100000) (hno : ∀ (k : Nat) (hk : k < s.size), s[k].toNat ≠ 47) (c1 : Nat) (hc1 : c1 ≠ 3) (H1 : Hid (∀ w, Calls Tryz.prog 55 #[.string s] w fun e w' => e = .returned (.int .i64 (((c1 : Nat)) : Int)) ∧ w = w')) (H2 : Hid (∀ w, Calls Tryz.prog 55 #[.string ⟨#[49]⟩] w fun e w' => e = .returned (.int .i64 (((3 : Nat)) : Int)) ∧ w = w')) (w : World) :
    Calls Tryz.prog 24 #[.string s] w (FrE w ⟨#[]⟩ ⟨#[]⟩ 3) := by
  have a1 : ((((c1 : Nat)) : Int) == 3) = false := beq_eq_false_iff_ne.2 (by omega)
  unfold FrE
  unfold FrV at *
  have HNO := Lib.hid hno
  obtain ⟨W, hW, hR, hA, hBl, hsz⟩ := box2T 24 w (.string ⟨#[]⟩) (.string ⟨#[]⟩) (.string s) (.string ⟨#[49]⟩)
  have HR := Lib.hid hR
  have HA := Lib.hid hA
  have HBL := Lib.hid hBl
  have HW := Lib.hid hW
  have HZ := Lib.hid hsz
  clear hR hA hBl hsz hW hno hc1
  go_enter Tryz.func24, Tryz.ntmps24
  go_wp2
  rw [← HW.out]
  go_loop [5] (fun v => ∃ k : Nat, k ≤ s.size ∧ v = .int .i64 k) (fun v => s.size - (intOf v).toNat)
  case atStart => exact ⟨0, Nat.zero_le _, rfl⟩
  case round =>
    obtain ⟨k', hk', rfl⟩ := hrel
    by_cases hlt : k' < s.size
    · have hks : k' < s.size := by omega
      have h1 : (((s[k'].toNat : Nat) : Int) == 47) = false := beq_eq_false_iff_ne.2 (by have := HNO.out k' hks; omega)
      go_wp2
      go_round
      case rel => exact ⟨k' + 1, by omega, by simp⟩
      case measure => simp [intOf]; omega
    · have hkp : k' = s.size := by omega
      subst hkp
      have hA9 := HA.out
      have y0 := hA9.c0; have y1 := hA9.c1
      clear hA9
      go_wp2_with fail
      refine (H1.out _).mono ?_
      rintro en w1 ⟨rfl, rfl⟩
      go_wp2_with fail
      refine (H2.out _).mono ?_
      rintro en w1 ⟨rfl, rfl⟩
      have hR9 := HR.out
      have z0 := hR9.c0; have z1 := hR9.c1; have z2 := hR9.f0 0; have z3 := hR9.f0 1
      clear hR9
      go_wp2
      refine bodyPost_ret (v := .tuple #[.agg #[.string ⟨#[]⟩, .string ⟨#[]⟩], .int .i64 3]) (by simp [results, Tryz.results24, go_sem, z0, z1]) rfl ⟨rfl, (HBL.out.setCell (by simp <;> omega) _).setCell (by simp <;> omega) _⟩

set_option maxHeartbeats 6400000 in
set_option maxRecDepth 100000 in
theorem rfParse_n_k (s : ByteArray) (hs : s.size ≤ 100000) (hno : ∀ (k : Nat) (hk : k < s.size), s[k].toNat ≠ 47) (c1 c2 k : Nat) (hc1 : c1 ≠ 3) (hc2 : c2 ≠ 3) (hk : k ≠ 0) (H1 : Hid (∀ w, Calls Tryz.prog 55 #[.string s] w fun e w' => e = .returned (.int .i64 (((c1 : Nat)) : Int)) ∧ w = w')) (H2 : Hid (∀ w, Calls Tryz.prog 55 #[.string ⟨#[49]⟩] w fun e w' => e = .returned (.int .i64 (((c2 : Nat)) : Int)) ∧ w = w')) (HC : Hid (∀ w, Calls Tryz.prog 19 #[FrV s ⟨#[49]⟩] w fun e w' => e = .returned (.int .i64 (((k : Nat)) : Int)) ∧ Below w.heap.size w w')) (w : World) :
    Calls Tryz.prog 24 #[.string s] w (FrE w ⟨#[]⟩ ⟨#[]⟩ k) := by
  have a1 : ((((c1 : Nat)) : Int) == 3) = false := beq_eq_false_iff_ne.2 (by omega)
  have a2 : ((((c2 : Nat)) : Int) == 3) = false := beq_eq_false_iff_ne.2 (by omega)
  have a3 : ¬ ((k : Nat) : Int) = 0 := by omega
  have a4 : (((k : Nat) : Int) != 0) = true := by simp; omega
  unfold FrE
  unfold FrV at *
  have HNO := Lib.hid hno
  obtain ⟨W, hW, hR, hA, hBl, hsz⟩ := box2T 24 w (.string ⟨#[]⟩) (.string ⟨#[]⟩) (.string s) (.string ⟨#[49]⟩)
  have HR := Lib.hid hR
  have HA := Lib.hid hA
  have HBL := Lib.hid hBl
  have HW := Lib.hid hW
  have HZ := Lib.hid hsz
  clear hR hA hBl hsz hW hno hc1 hc2 hk
  go_enter Tryz.func24, Tryz.ntmps24
  go_wp2
  rw [← HW.out]
  go_loop [5] (fun v => ∃ k : Nat, k ≤ s.size ∧ v = .int .i64 k) (fun v => s.size - (intOf v).toNat)
  case atStart => exact ⟨0, Nat.zero_le _, rfl⟩
  case round =>
    obtain ⟨k', hk', rfl⟩ := hrel
    by_cases hlt : k' < s.size
    · have hks : k' < s.size := by omega
      have h1 : (((s[k'].toNat : Nat) : Int) == 47) = false := beq_eq_false_iff_ne.2 (by have := HNO.out k' hks; omega)
      go_wp2
      go_round
      case rel => exact ⟨k' + 1, by omega, by simp⟩
      case measure => simp [intOf]; omega
    · have hkp : k' = s.size := by omega
      subst hkp
      have hA9 := HA.out
      have y0 := hA9.c0; have y1 := hA9.c1
      clear hA9
      go_wp2_with fail
      refine (H1.out _).mono ?_
      rintro en w1 ⟨rfl, rfl⟩
      go_wp2_with fail
      refine (H2.out _).mono ?_
      rintro en w1 ⟨rfl, rfl⟩
      go_wp2_with fail
      refine (HC.out _).mono ?_
      rintro en w2 ⟨rfl, hb2⟩
      have hB2 : Below w.heap.size w w2 := HBL.out.trans (hb2.mono HBL.out.size)
      have hR9 := HR.out.keep hb2
      have z0 := hR9.c0; have z1 := hR9.c1; have z2 := hR9.f0 0; have z3 := hR9.f0 1
      have hA8 := HA.out.keep hb2
      clear y0 y1
      have y0 := hA8.c0; have y1 := hA8.c1
      clear hA8 hR9
      go_wp2
      refine bodyPost_ret (v := .tuple #[.agg #[.string ⟨#[]⟩, .string ⟨#[]⟩], .int .i64 ((k : Nat) : Int)]) (by simp [results, Tryz.results24, go_sem, z0, z1]) rfl ⟨rfl, (hB2.setCell (by simp <;> omega) _).setCell (by simp <;> omega) _⟩

set_option maxHeartbeats 6400000 in
set_option maxRecDepth 100000 in
theorem rfParse_n_ok (s : ByteArray) (hs : s.size ≤ 100000) (hno : ∀ (k : Nat) (hk : k < s.size), s[k].toNat ≠ 47) (c1 c2 : Nat) (hc1 : c1 ≠ 3) (hc2 : c2 ≠ 3) (H1 : Hid (∀ w, Calls Tryz.prog 55 #[.string s] w fun e w' => e = .returned (.int .i64 (((c1 : Nat)) : Int)) ∧ w = w')) (H2 : Hid (∀ w, Calls Tryz.prog 55 #[.string ⟨#[49]⟩] w fun e w' => e = .returned (.int .i64 (((c2 : Nat)) : Int)) ∧ w = w')) (HC : Hid (∀ w, Calls Tryz.prog 19 #[FrV s ⟨#[49]⟩] w fun e w' => e = .returned (.int .i64 (((0 : Nat)) : Int)) ∧ Below w.heap.size w w')) (w : World) :
    Calls Tryz.prog 24 #[.string s] w (FrE w s ⟨#[49]⟩ 0) := by
  have a1 : ((((c1 : Nat)) : Int) == 3) = false := beq_eq_false_iff_ne.2 (by omega)
  have a2 : ((((c2 : Nat)) : Int) == 3) = false := beq_eq_false_iff_ne.2 (by omega)
  unfold FrE
  unfold FrV at *
  have HNO := Lib.hid hno
  obtain ⟨W, hW, hR, hA, hBl, hsz⟩ := box2T 24 w (.string ⟨#[]⟩) (.string ⟨#[]⟩) (.string s) (.string ⟨#[49]⟩)
  have HR := Lib.hid hR
  have HA := Lib.hid hA
  have HBL := Lib.hid hBl
  have HW := Lib.hid hW
  have HZ := Lib.hid hsz
  clear hR hA hBl hsz hW hno hc1 hc2
  go_enter Tryz.func24, Tryz.ntmps24
  go_wp2
  rw [← HW.out]
  go_loop [5] (fun v => ∃ k : Nat, k ≤ s.size ∧ v = .int .i64 k) (fun v => s.size - (intOf v).toNat)
  case atStart => exact ⟨0, Nat.zero_le _, rfl⟩
  case round =>
    obtain ⟨k', hk', rfl⟩ := hrel
    by_cases hlt : k' < s.size
    · have hks : k' < s.size := by omega
      have h1 : (((s[k'].toNat : Nat) : Int) == 47) = false := beq_eq_false_iff_ne.2 (by have := HNO.out k' hks; omega)
      go_wp2
      go_round
      case rel => exact ⟨k' + 1, by omega, by simp⟩
      case measure => simp [intOf]; omega
    · have hkp : k' = s.size := by omega
      subst hkp
      have hA9 := HA.out
      have y0 := hA9.c0; have y1 := hA9.c1
      clear hA9
      go_wp2_with fail
      refine (H1.out _).mono ?_
      rintro en w1 ⟨rfl, rfl⟩
      go_wp2_with fail
      refine (H2.out _).mono ?_
      rintro en w1 ⟨rfl, rfl⟩
      go_wp2_with fail
      refine (HC.out _).mono ?_
      rintro en w2 ⟨rfl, hb2⟩
      have hB2 : Below w.heap.size w w2 := HBL.out.trans (hb2.mono HBL.out.size)
      have hR9 := HR.out.keep hb2
      have z0 := hR9.c0; have z1 := hR9.c1; have z2 := hR9.f0 0; have z3 := hR9.f0 1
      have hA8 := HA.out.keep hb2
      clear y0 y1
      have y0 := hA8.c0; have y1 := hA8.c1
      clear hA8 hR9
      go_wp2
      refine bodyPost_ret (v := .tuple #[.agg #[.string s, .string ⟨#[49]⟩], .int .i64 0]) (by simp [results, Tryz.results24, go_sem, z0, z1]) rfl ⟨rfl, (hB2.setCell (by simp <;> omega) _).setCell (by simp <;> omega) _⟩

set_option maxHeartbeats 6400000 in
set_option maxRecDepth 100000 in
theorem rfParse_s_one (s : ByteArray) (hs : s.size ≤ 100000) (p : Nat) (hp : p < s.size) (h47 : s[p].toNat = 47) (hno : ∀ (k : Nat) (hk : k < s.size), k < p → s[k].toNat ≠ 47) (hB : ((s.extract (p + 1) s.size).toList == [49]) = true)  (w : World) :
    Calls Tryz.prog 24 #[.string s] w (FrE w ⟨#[]⟩ ⟨#[]⟩ 3) := by
  unfold FrE
  unfold FrV at *
  have HNO := Lib.hid hno
  have H47 := Lib.hid h47
  obtain ⟨W, hW, hR, hA, hBl, hsz⟩ := box2T 24 w (.string ⟨#[]⟩) (.string ⟨#[]⟩) (.string s) (.string ⟨#[49]⟩)
  have HR := Lib.hid hR
  have HA := Lib.hid hA
  have HBL := Lib.hid hBl
  have HW := Lib.hid hW
  have HZ := Lib.hid hsz
  clear hR hA hBl hsz hW hno h47
  go_enter Tryz.func24, Tryz.ntmps24
  go_wp2
  rw [← HW.out]
  go_loop [5] (fun v => ∃ k : Nat, k ≤ p ∧ v = .int .i64 k) (fun v => p - (intOf v).toNat)
  case atStart => exact ⟨0, Nat.zero_le _, rfl⟩
  case round =>
    obtain ⟨k', hk', rfl⟩ := hrel
    by_cases hlt : k' < p
    · have hks : k' < s.size := by omega
      have h1 : (((s[k'].toNat : Nat) : Int) == 47) = false := beq_eq_false_iff_ne.2 (by have := HNO.out k' hks hlt; omega)
      go_wp2
      go_round
      case rel => exact ⟨k' + 1, by omega, by simp⟩
      case measure => simp [intOf]; omega
    · have hkp : k' = p := by omega
      subst hkp
      have h1 : (((s[k'].toNat : Nat) : Int) == 47) = true := by rw [H47.out]; rfl
      have hA9 := HA.out
      have c0 := hA9.c0; have c1' := hA9.c1; have c2' := hA9.f0 0; have c3' := hA9.f0 1
      clear hA9
      have hR9 := HR.out
      have z0 := hR9.c0; have z1 := hR9.c1; have z2 := hR9.f0 0; have z3 := hR9.f0 1
      clear hR9
      go_wp2
      go_region
      go_wp2
      refine bodyPost_ret (v := .tuple #[.agg #[.string ⟨#[]⟩, .string ⟨#[]⟩], .int .i64 3]) (by simp [results, Tryz.results24, go_sem, z0, z1]) rfl ⟨rfl, ((((HBL.out.setCell (by simp) _).setCell (by simp) _).setCell (by simp) _).setCell (by simp) _).drew⟩

set_option maxHeartbeats 6400000 in
set_option maxRecDepth 100000 in
theorem rfParse_s_n3 (s : ByteArray) (hs : s.size ≤ 100000) (p : Nat) (hp : p < s.size) (h47 : s[p].toNat = 47) (hno : ∀ (k : Nat) (hk : k < s.size), k < p → s[k].toNat ≠ 47) (hB : ((s.extract (p + 1) s.size).toList == [49]) = false) (H1 : Hid (∀ w, Calls Tryz.prog 55 #[.string (s.extract 0 p)] w fun e w' => e = .returned (.int .i64 (((3 : Nat)) : Int)) ∧ w = w')) (w : World) :
    Calls Tryz.prog 24 #[.string s] w (FrE w ⟨#[]⟩ ⟨#[]⟩ 3) := by
  unfold FrE
  unfold FrV at *
  have HNO := Lib.hid hno
  have H47 := Lib.hid h47
  obtain ⟨W, hW, hR, hA, hBl, hsz⟩ := box2T 24 w (.string ⟨#[]⟩) (.string ⟨#[]⟩) (.string s) (.string ⟨#[49]⟩)
  have HR := Lib.hid hR
  have HA := Lib.hid hA
  have HBL := Lib.hid hBl
  have HW := Lib.hid hW
  have HZ := Lib.hid hsz
  clear hR hA hBl hsz hW hno h47
  go_enter Tryz.func24, Tryz.ntmps24
  go_wp2
  rw [← HW.out]
  go_loop [5] (fun v => ∃ k : Nat, k ≤ p ∧ v = .int .i64 k) (fun v => p - (intOf v).toNat)
  case atStart => exact ⟨0, Nat.zero_le _, rfl⟩
  case round =>
    obtain ⟨k', hk', rfl⟩ := hrel
    by_cases hlt : k' < p
    · have hks : k' < s.size := by omega
      have h1 : (((s[k'].toNat : Nat) : Int) == 47) = false := beq_eq_false_iff_ne.2 (by have := HNO.out k' hks hlt; omega)
      go_wp2
      go_round
      case rel => exact ⟨k' + 1, by omega, by simp⟩
      case measure => simp [intOf]; omega
    · have hkp : k' = p := by omega
      subst hkp
      have h1 : (((s[k'].toNat : Nat) : Int) == 47) = true := by rw [H47.out]; rfl
      have hA9 := HA.out
      have c0 := hA9.c0; have c1' := hA9.c1; have c2' := hA9.f0 0; have c3' := hA9.f0 1
      clear hA9
      go_wp2
      go_region
      go_wp2_with fail
      obtain ⟨V, hV⟩ : ∃ V, V = ((W.setCell ⟨w.heap.size + 1, 0, none⟩ (.string (s.extract 0 k'))).setCell ⟨w.heap.size + 1, 1, none⟩ (.string (s.extract (k' + 1) s.size))).drew := ⟨_, rfl⟩
      rw [← hV]
      have HA2 : Hid (Box 24 V (w.heap.size + 1) (.string (s.extract 0 k')) (.string (s.extract (k' + 1) s.size))) := by unfold Hid; rw [hV]; exact ((HA.out.set0 _).set1 _).drew
      have HR2 : Hid (Box 24 V w.heap.size (.string ⟨#[]⟩) (.string ⟨#[]⟩)) := by unfold Hid; rw [hV]; exact ((HR.out.other _ _ (by simp)).other _ _ (by simp)).drew
      have hBV : Below w.heap.size w V := by rw [hV]; exact ((HBL.out.setCell (by simp) _).setCell (by simp) _).drew
      clear hV c0 c1' c2' c3'
      have hA9 := HA2.out
      have y0 := hA9.c0; have y1 := hA9.c1
      clear hA9
      refine (H1.out _).mono ?_
      rintro en w1 ⟨rfl, rfl⟩
      have hR9 := HR2.out
      have z0 := hR9.c0; have z1 := hR9.c1; have z2 := hR9.f0 0; have z3 := hR9.f0 1
      clear hR9
      go_wp2
      refine bodyPost_ret (v := .tuple #[.agg #[.string ⟨#[]⟩, .string ⟨#[]⟩], .int .i64 3]) (by simp [results, Tryz.results24, go_sem, z0, z1]) rfl ⟨rfl, (hBV.setCell (by simp <;> omega) _).setCell (by simp <;> omega) _⟩

set_option maxHeartbeats 6400000 in
set_option maxRecDepth 100000 in
theorem rfParse_s_d3 (s : ByteArray) (hs : s.size ≤ 100000) (p : Nat) (hp : p < s.size) (h47 : s[p].toNat = 47) (hno : ∀ (k : Nat) (hk : k < s.size), k < p → s[k].toNat ≠ 47) (hB : ((s.extract (p + 1) s.size).toList == [49]) = false) (c1 : Nat) (hc1 : c1 ≠ 3) (H1 : Hid (∀ w, Calls Tryz.prog 55 #[.string (s.extract 0 p)] w fun e w' => e = .returned (.int .i64 (((c1 : Nat)) : Int)) ∧ w = w')) (H2 : Hid (∀ w, Calls Tryz.prog 55 #[.string (s.extract (p + 1) s.size)] w fun e w' => e = .returned (.int .i64 (((3 : Nat)) : Int)) ∧ w = w')) (w : World) :
    Calls Tryz.prog 24 #[.string s] w (FrE w ⟨#[]⟩ ⟨#[]⟩ 3) := by
  have a1 : ((((c1 : Nat)) : Int) == 3) = false := beq_eq_false_iff_ne.2 (by omega)
  unfold FrE
  unfold FrV at *
  have HNO := Lib.hid hno
  have H47 := Lib.hid h47
  obtain ⟨W, hW, hR, hA, hBl, hsz⟩ := box2T 24 w (.string ⟨#[]⟩) (.string ⟨#[]⟩) (.string s) (.string ⟨#[49]⟩)
  have HR := Lib.hid hR
  have HA := Lib.hid hA
  have HBL := Lib.hid hBl
  have HW := Lib.hid hW
  have HZ := Lib.hid hsz
  clear hR hA hBl hsz hW hno hc1 h47
  go_enter Tryz.func24, Tryz.ntmps24
  go_wp2
  rw [← HW.out]
  go_loop [5] (fun v => ∃ k : Nat, k ≤ p ∧ v = .int .i64 k) (fun v => p - (intOf v).toNat)
  case atStart => exact ⟨0, Nat.zero_le _, rfl⟩
  case round =>
    obtain ⟨k', hk', rfl⟩ := hrel
    by_cases hlt : k' < p
    · have hks : k' < s.size := by omega
      have h1 : (((s[k'].toNat : Nat) : Int) == 47) = false := beq_eq_false_iff_ne.2 (by have := HNO.out k' hks hlt; omega)
      go_wp2
      go_round
      case rel => exact ⟨k' + 1, by omega, by simp⟩
      case measure => simp [intOf]; omega
    · have hkp : k' = p := by omega
      subst hkp
      have h1 : (((s[k'].toNat : Nat) : Int) == 47) = true := by rw [H47.out]; rfl
      have hA9 := HA.out
      have c0 := hA9.c0; have c1' := hA9.c1; have c2' := hA9.f0 0; have c3' := hA9.f0 1
      clear hA9
      go_wp2
      go_region
      go_wp2_with fail
      obtain ⟨V, hV⟩ : ∃ V, V = ((W.setCell ⟨w.heap.size + 1, 0, none⟩ (.string (s.extract 0 k'))).setCell ⟨w.heap.size + 1, 1, none⟩ (.string (s.extract (k' + 1) s.size))).drew := ⟨_, rfl⟩
      rw [← hV]
      have HA2 : Hid (Box 24 V (w.heap.size + 1) (.string (s.extract 0 k')) (.string (s.extract (k' + 1) s.size))) := by unfold Hid; rw [hV]; exact ((HA.out.set0 _).set1 _).drew
      have HR2 : Hid (Box 24 V w.heap.size (.string ⟨#[]⟩) (.string ⟨#[]⟩)) := by unfold Hid; rw [hV]; exact ((HR.out.other _ _ (by simp)).other _ _ (by simp)).drew
      have hBV : Below w.heap.size w V := by rw [hV]; exact ((HBL.out.setCell (by simp) _).setCell (by simp) _).drew
      clear hV c0 c1' c2' c3'
      have hA9 := HA2.out
      have y0 := hA9.c0; have y1 := hA9.c1
      clear hA9
      refine (H1.out _).mono ?_
      rintro en w1 ⟨rfl, rfl⟩
      go_wp2_with fail
      refine (H2.out _).mono ?_
      rintro en w1 ⟨rfl, rfl⟩
      have hR9 := HR2.out
      have z0 := hR9.c0; have z1 := hR9.c1; have z2 := hR9.f0 0; have z3 := hR9.f0 1
      clear hR9
      go_wp2
      refine bodyPost_ret (v := .tuple #[.agg #[.string ⟨#[]⟩, .string ⟨#[]⟩], .int .i64 3]) (by simp [results, Tryz.results24, go_sem, z0, z1]) rfl ⟨rfl, (hBV.setCell (by simp <;> omega) _).setCell (by simp <;> omega) _⟩

set_option maxHeartbeats 6400000 in
set_option maxRecDepth 100000 in
theorem rfParse_s_k (s : ByteArray) (hs : s.size ≤ 100000) (p : Nat) (hp : p < s.size) (h47 : s[p].toNat = 47) (hno : ∀ (k : Nat) (hk : k < s.size), k < p → s[k].toNat ≠ 47) (hB : ((s.extract (p + 1) s.size).toList == [49]) = false) (c1 c2 k : Nat) (hc1 : c1 ≠ 3) (hc2 : c2 ≠ 3) (hk : k ≠ 0) (H1 : Hid (∀ w, Calls Tryz.prog 55 #[.string (s.extract 0 p)] w fun e w' => e = .returned (.int .i64 (((c1 : Nat)) : Int)) ∧ w = w')) (H2 : Hid (∀ w, Calls Tryz.prog 55 #[.string (s.extract (p + 1) s.size)] w fun e w' => e = .returned (.int .i64 (((c2 : Nat)) : Int)) ∧ w = w')) (HC : Hid (∀ w, Calls Tryz.prog 19 #[FrV (s.extract 0 p) (s.extract (p + 1) s.size)] w fun e w' => e = .returned (.int .i64 (((k : Nat)) : Int)) ∧ Below w.heap.size w w')) (w : World) :
    Calls Tryz.prog 24 #[.string s] w (FrE w ⟨#[]⟩ ⟨#[]⟩ k) := by
  have a1 : ((((c1 : Nat)) : Int) == 3) = false := beq_eq_false_iff_ne.2 (by omega)
  have a2 : ((((c2 : Nat)) : Int) == 3) = false := beq_eq_false_iff_ne.2 (by omega)
  have a3 : ¬ ((k : Nat) : Int) = 0 := by omega
  have a4 : (((k : Nat) : Int) != 0) = true := by simp; omega
  unfold FrE
  unfold FrV at *
  have HNO := Lib.hid hno
  have H47 := Lib.hid h47
  obtain ⟨W, hW, hR, hA, hBl, hsz⟩ := box2T 24 w (.string ⟨#[]⟩) (.string ⟨#[]⟩) (.string s) (.string ⟨#[49]⟩)
  have HR := Lib.hid hR
  have HA := Lib.hid hA
  have HBL := Lib.hid hBl
  have HW := Lib.hid hW
  have HZ := Lib.hid hsz
  clear hR hA hBl hsz hW hno hc1 hc2 hk h47
  go_enter Tryz.func24, Tryz.ntmps24
  go_wp2
  rw [← HW.out]
  go_loop [5] (fun v => ∃ k : Nat, k ≤ p ∧ v = .int .i64 k) (fun v => p - (intOf v).toNat)
  case atStart => exact ⟨0, Nat.zero_le _, rfl⟩
  case round =>
    obtain ⟨k', hk', rfl⟩ := hrel
    by_cases hlt : k' < p
    · have hks : k' < s.size := by omega
      have h1 : (((s[k'].toNat : Nat) : Int) == 47) = false := beq_eq_false_iff_ne.2 (by have := HNO.out k' hks hlt; omega)
      go_wp2
      go_round
      case rel => exact ⟨k' + 1, by omega, by simp⟩
      case measure => simp [intOf]; omega
    · have hkp : k' = p := by omega
      subst hkp
      have h1 : (((s[k'].toNat : Nat) : Int) == 47) = true := by rw [H47.out]; rfl
      have hA9 := HA.out
      have c0 := hA9.c0; have c1' := hA9.c1; have c2' := hA9.f0 0; have c3' := hA9.f0 1
      clear hA9
      go_wp2
      go_region
      go_wp2_with fail
      obtain ⟨V, hV⟩ : ∃ V, V = ((W.setCell ⟨w.heap.size + 1, 0, none⟩ (.string (s.extract 0 k'))).setCell ⟨w.heap.size + 1, 1, none⟩ (.string (s.extract (k' + 1) s.size))).drew := ⟨_, rfl⟩
      rw [← hV]
      have HA2 : Hid (Box 24 V (w.heap.size + 1) (.string (s.extract 0 k')) (.string (s.extract (k' + 1) s.size))) := by unfold Hid; rw [hV]; exact ((HA.out.set0 _).set1 _).drew
      have HR2 : Hid (Box 24 V w.heap.size (.string ⟨#[]⟩) (.string ⟨#[]⟩)) := by unfold Hid; rw [hV]; exact ((HR.out.other _ _ (by simp)).other _ _ (by simp)).drew
      have hBV : Below w.heap.size w V := by rw [hV]; exact ((HBL.out.setCell (by simp) _).setCell (by simp) _).drew
      clear hV c0 c1' c2' c3'
      have hA9 := HA2.out
      have y0 := hA9.c0; have y1 := hA9.c1
      clear hA9
      refine (H1.out _).mono ?_
      rintro en w1 ⟨rfl, rfl⟩
      go_wp2_with fail
      refine (H2.out _).mono ?_
      rintro en w1 ⟨rfl, rfl⟩
      go_wp2_with fail
      refine (HC.out _).mono ?_
      rintro en w2 ⟨rfl, hb2⟩
      have hB2 : Below w.heap.size w w2 := hBV.trans (hb2.mono hBV.size)
      have hR9 := HR2.out.keep hb2
      have z0 := hR9.c0; have z1 := hR9.c1; have z2 := hR9.f0 0; have z3 := hR9.f0 1
      have hA8 := HA2.out.keep hb2
      clear y0 y1
      have y0 := hA8.c0; have y1 := hA8.c1
      clear hA8 hR9
      go_wp2
      refine bodyPost_ret (v := .tuple #[.agg #[.string ⟨#[]⟩, .string ⟨#[]⟩], .int .i64 ((k : Nat) : Int)]) (by simp [results, Tryz.results24, go_sem, z0, z1]) rfl ⟨rfl, (hB2.setCell (by simp <;> omega) _).setCell (by simp <;> omega) _⟩

set_option maxHeartbeats 6400000 in
set_option maxRecDepth 100000 in
theorem rfParse_s_ok (s : ByteArray) (hs : s.size ≤ 100000) (p : Nat) (hp : p < s.size) (h47 : s[p].toNat = 47) (hno : ∀ (k : Nat) (hk : k < s.size), k < p → s[k].toNat ≠ 47) (hB : ((s.extract (p + 1) s.size).toList == [49]) = false) (c1 c2 : Nat) (hc1 : c1 ≠ 3) (hc2 : c2 ≠ 3) (H1 : Hid (∀ w, Calls Tryz.prog 55 #[.string (s.extract 0 p)] w fun e w' => e = .returned (.int .i64 (((c1 : Nat)) : Int)) ∧ w = w')) (H2 : Hid (∀ w, Calls Tryz.prog 55 #[.string (s.extract (p + 1) s.size)] w fun e w' => e = .returned (.int .i64 (((c2 : Nat)) : Int)) ∧ w = w')) (HC : Hid (∀ w, Calls Tryz.prog 19 #[FrV (s.extract 0 p) (s.extract (p + 1) s.size)] w fun e w' => e = .returned (.int .i64 (((0 : Nat)) : Int)) ∧ Below w.heap.size w w')) (w : World) :
    Calls Tryz.prog 24 #[.string s] w (FrE w (s.extract 0 p) (s.extract (p + 1) s.size) 0) := by
  have a1 : ((((c1 : Nat)) : Int) == 3) = false := beq_eq_false_iff_ne.2 (by omega)
  have a2 : ((((c2 : Nat)) : Int) == 3) = false := beq_eq_false_iff_ne.2 (by omega)
  unfold FrE
  unfold FrV at *
  have HNO := Lib.hid hno
  have H47 := Lib.hid h47
  obtain ⟨W, hW, hR, hA, hBl, hsz⟩ := box2T 24 w (.string ⟨#[]⟩) (.string ⟨#[]⟩) (.string s) (.string ⟨#[49]⟩)
  have HR := Lib.hid hR
  have HA := Lib.hid hA
  have HBL := Lib.hid hBl
  have HW := Lib.hid hW
  have HZ := Lib.hid hsz
  clear hR hA hBl hsz hW hno hc1 hc2 h47
  go_enter Tryz.func24, Tryz.ntmps24
  go_wp2
  rw [← HW.out]
  go_loop [5] (fun v => ∃ k : Nat, k ≤ p ∧ v = .int .i64 k) (fun v => p - (intOf v).toNat)
  case atStart => exact ⟨0, Nat.zero_le _, rfl⟩
  case round =>
    obtain ⟨k', hk', rfl⟩ := hrel
    by_cases hlt : k' < p
    · have hks : k' < s.size := by omega
      have h1 : (((s[k'].toNat : Nat) : Int) == 47) = false := beq_eq_false_iff_ne.2 (by have := HNO.out k' hks hlt; omega)
      go_wp2
      go_round
      case rel => exact ⟨k' + 1, by omega, by simp⟩
      case measure => simp [intOf]; omega
    · have hkp : k' = p := by omega
      subst hkp
      have h1 : (((s[k'].toNat : Nat) : Int) == 47) = true := by rw [H47.out]; rfl
      have hA9 := HA.out
      have c0 := hA9.c0; have c1' := hA9.c1; have c2' := hA9.f0 0; have c3' := hA9.f0 1
      clear hA9
      go_wp2
      go_region
      go_wp2_with fail
      obtain ⟨V, hV⟩ : ∃ V, V = ((W.setCell ⟨w.heap.size + 1, 0, none⟩ (.string (s.extract 0 k'))).setCell ⟨w.heap.size + 1, 1, none⟩ (.string (s.extract (k' + 1) s.size))).drew := ⟨_, rfl⟩
      rw [← hV]
      have HA2 : Hid (Box 24 V (w.heap.size + 1) (.string (s.extract 0 k')) (.string (s.extract (k' + 1) s.size))) := by unfold Hid; rw [hV]; exact ((HA.out.set0 _).set1 _).drew
      have HR2 : Hid (Box 24 V w.heap.size (.string ⟨#[]⟩) (.string ⟨#[]⟩)) := by unfold Hid; rw [hV]; exact ((HR.out.other _ _ (by simp)).other _ _ (by simp)).drew
      have hBV : Below w.heap.size w V := by rw [hV]; exact ((HBL.out.setCell (by simp) _).setCell (by simp) _).drew
      clear hV c0 c1' c2' c3'
      have hA9 := HA2.out
      have y0 := hA9.c0; have y1 := hA9.c1
      clear hA9
      refine (H1.out _).mono ?_
      rintro en w1 ⟨rfl, rfl⟩
      go_wp2_with fail
      refine (H2.out _).mono ?_
      rintro en w1 ⟨rfl, rfl⟩
      go_wp2_with fail
      refine (HC.out _).mono ?_
      rintro en w2 ⟨rfl, hb2⟩
      have hB2 : Below w.heap.size w w2 := hBV.trans (hb2.mono hBV.size)
      have hR9 := HR2.out.keep hb2
      have z0 := hR9.c0; have z1 := hR9.c1; have z2 := hR9.f0 0; have z3 := hR9.f0 1
      have hA8 := HA2.out.keep hb2
      clear y0 y1
      have y0 := hA8.c0; have y1 := hA8.c1
      clear hA8 hR9
      go_wp2
      refine bodyPost_ret (v := .tuple #[.agg #[.string (s.extract 0 k'), .string (s.extract (k' + 1) s.size)], .int .i64 0]) (by simp [results, Tryz.results24, go_sem, z0, z1]) rfl ⟨rfl, (hB2.setCell (by simp <;> omega) _).setCell (by simp <;> omega) _⟩

end Go.Proofs.YtolkiimlchfmlaaGreatDoor
