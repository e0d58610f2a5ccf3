/- Walks of the words' functions: the guess of long division; and: Walks of the words' functions: taking away and adding back in long division. -/
import Derived.Test.YtbmonfbbkmpdhaaDoorKa
namespace Go.Proofs.YtbmonfbbkmpdhaaDoor
open Go.RowKit Go.Proofs.Num

theorem cast10 (a b c : Nat) : (((a * 1000000000 + b) / c : Nat) : Int) = ((a : Int) * 1000000000 + b) / (c : Int) := by
  have h : ((a * 1000000000 + b : Nat) : Int) = (a : Int) * 1000000000 + b := by omega
  rw [Int.natCast_ediv, h]
theorem cast11 (a b c : Nat) : (((a * 1000000000 + b) % c : Nat) : Int) = ((a : Int) * 1000000000 + b) % (c : Int) := by
  have h : ((a * 1000000000 + b : Nat) : Int) = (a : Int) * 1000000000 + b := by omega
  rw [Int.natCast_emod, h]

theorem prod_le {x y a b : Nat} (hx : x ≤ a) (hy : y ≤ b) : ((x : Nat) : Int) * ((y : Nat) : Int) ≤ ((a * b : Nat) : Int) := by
  rw [← Int.natCast_mul]; exact Int.ofNat_le.2 (Nat.mul_le_mul hx hy)

set_option maxHeartbeats 3200000 in
set_option maxRecDepth 100000 in
/-- words.guess -/
theorem guess_any (m : Nat) (v p : List Nat) (hG : Gs m v p) (hm : m ≤ 2147483647) (b1 o1 c1 b2 o2 c2 : Nat) (w : World)
    (h1 : ∀ j, j < m + 3 → w.cell? ⟨b1, o1 + j, none⟩ = some (.int .u64 ((nth p j : Nat) : Int))) (h2 : ∀ j, j < m + 2 → w.cell? ⟨b2, o2 + j, none⟩ = some (.int .u64 ((nth v j : Nat) : Int))) :
    Calls Tryd.prog 129 #[.slice (some ⟨b1, o1, none⟩) (m + 3) c1, .slice (some ⟨b2, o2, none⟩) (m + 2) c2] w fun e w' => (∃ word : Nat, e = .returned (.int .u64 word) ∧ word < 1000000000 ∧ val 1000000000 p / val 1000000000 v ≤ word ∧ word ≤ val 1000000000 p / val 1000000000 v + 1) ∧ ∃ n, w' = w.drewN n := by
  have x1 := h1 (m + 2) (by omega)
  have x2 := h1 (m + 1) (by omega)
  have x3 := h1 m (by omega)
  have y1 := h2 (m + 1) (by omega)
  have y2 := h2 m (by omega)
  have e1 := nth_lt (b := 1000000000) (by omega) p hG.bp (m + 2)
  have e2 := nth_lt (b := 1000000000) (by omega) p hG.bp (m + 1)
  have e3 := nth_lt (b := 1000000000) (by omega) p hG.bp m
  have e4 := nth_lt (b := 1000000000) (by omega) v hG.bv (m + 1)
  have e5 := nth_lt (b := 1000000000) (by omega) v hG.bv m
  have e6 := hG.top
  have hne : (((nth v (m + 1) : Nat) : Int) == 0) = false := by simp; omega
  have HI0 := Lib.hid (guI_zero hG)
  have HG := Lib.hid hG
  clear h1 h2 hG
  go_enter Tryd.func129, Tryd.ntmps129
  go_wp2
  go_quiet (fail)
  go_wp2
  go_quiet (fail)
  go_wp2
  go_loopw [7, 8] (fun sw sr wr => ∃ (word rest : Nat), sw = .int .u64 word ∧ sr = .int .u64 rest ∧ GuI m v p word rest ∧ ∃ n, wr = w.drewN n) (fun sw _ _ => (intOf sw).toNat)
  case atStart => exact ⟨_, _, by rw [cast10], by rw [cast11], HI0.out, _, World.drewN_drewN _ _ _⟩
  case round =>
    obtain ⟨word, rest, rfl, rfl, hI, n, rfl⟩ := hrel
    obtain ⟨i1, i2, i3, i4⟩ := hI
    have hI : GuI m v p word rest := ⟨i1, i2, i3, i4⟩
    clear i1 i2
    have pb := prod_le i3 (Nat.le_of_lt e5)
    have pb0 : 0 ≤ ((word : Nat) : Int) * ((nth v m : Nat) : Int) := by rw [← Int.natCast_mul]; omega
    by_cases hr : rest < 1000000000
    · have hr1 : decide (((rest : Nat) : Int) < 1000000000) = true := by simp; omega
      by_cases hw : 1000000000 ≤ word
      · have hw1 : decide ((1000000000 : Int) ≤ ((word : Nat) : Int)) = true := by simp; omega
        obtain ⟨hs1, hs2⟩ := guI_step HG.out hI hr (.inl hw)
        have HS := Lib.hid hs2
        clear hI hs2
        go_wp2
        go_quiet (fail)
        go_wp2
        go_roundw
        case rel => exact ⟨word - 1, rest + nth v (m + 1), by go_num, by go_num, HS.out, by first | exact ⟨_, rfl⟩ | exact ⟨_, World.drewN_drewN _ _ _⟩⟩
        case measure => simp [intOf]; omega
      · have hw1 : decide ((1000000000 : Int) ≤ ((word : Nat) : Int)) = false := by simp; omega
        by_cases hp : rest * 1000000000 + nth p m < word * nth v m
        · have hp1 : decide (((rest : Nat) : Int) * 1000000000 + ((nth p m : Nat) : Int) < ((word : Nat) : Int) * ((nth v m : Nat) : Int)) = true := by
            rw [← Int.natCast_mul]; simp; omega
          obtain ⟨hs1, hs2⟩ := guI_step HG.out hI hr (.inr hp)
          have HS := Lib.hid hs2
          clear hI hs2 hp
          go_wp2
          go_quiet (fail)
          go_wp2
          go_roundw
          case rel => exact ⟨word - 1, rest + nth v (m + 1), by go_num, by go_num, HS.out, by first | exact ⟨_, rfl⟩ | exact ⟨_, World.drewN_drewN _ _ _⟩⟩
          case measure => simp [intOf]; omega
        · have hp1 : decide (((rest : Nat) : Int) * 1000000000 + ((nth p m : Nat) : Int) < ((word : Nat) : Int) * ((nth v m : Nat) : Int)) = false := by
            rw [← Int.natCast_mul]; simp; omega
          have HE := Lib.hid (guI_end HG.out hI (.inr ⟨by omega, by omega⟩))
          clear hI hp
          go_wp2
          go_quiet (fail)
          go_wp2
          go_ret
          exact ⟨⟨word, rfl, HE.out⟩, by first | exact ⟨_, rfl⟩ | exact ⟨_, World.drewN_drewN _ _ _⟩⟩
    · have hr1 : decide (((rest : Nat) : Int) < 1000000000) = false := by simp; omega
      have HE := Lib.hid (guI_end HG.out hI (.inl (by omega)))
      clear hI
      go_wp2
      go_quiet (fail)
      go_wp2
      go_ret
      exact ⟨⟨word, rfl, HE.out⟩, by first | exact ⟨_, rfl⟩ | exact ⟨_, World.drewN_drewN _ _ _⟩⟩
end Go.Proofs.YtbmonfbbkmpdhaaDoor

namespace Go.Proofs.YtbmonfbbkmpdhaaDoor
open Go.RowKit Go.Proofs.Num

/-- Nothing has turned but block g. -/
structure Sole (g : Nat) (w w' : World) : Prop where
  os : w'.os = w.os
  tape : w'.tape = w.tape
  output : w'.output = w.output
  size : w'.heap.size = w.heap.size
  block : ∀ k, k ≠ g → w'.heap[k]? = w.heap[k]?

theorem Sole.refl (g : Nat) (w : World) : Sole g w w := ⟨rfl, rfl, rfl, rfl, fun _ _ => rfl⟩
theorem Sole.store {g : Nat} {w w' : World} (h : Sole g w w') (j : Nat) (u : Value) : Sole g w (w'.setCell ⟨g, j, none⟩ u) :=
  ⟨h.os, h.tape, h.output, by simpa [World.setCell] using h.size, fun k hk => by rw [heap_setCell_other w' ⟨g, j, none⟩ k u hk]; exact h.block k hk⟩
theorem Sole.drewN {g : Nat} {w w' : World} (h : Sole g w w') (n : Nat) : Sole g w (w'.drewN n) := ⟨h.os, h.tape, h.output, h.size, h.block⟩
theorem Sole.trans {g : Nat} {a b c : World} (h : Sole g a b) (k : Sole g b c) : Sole g a c :=
  ⟨k.os.trans h.os, k.tape.trans h.tape, k.output.trans h.output, k.size.trans h.size, fun i hi => (k.block i hi).trans (h.block i hi)⟩
theorem Sole.cell {g : Nat} {w w' : World} (h : Sole g w w') (b o : Nat) (hb : b ≠ g) : w'.cell? ⟨b, o, none⟩ = w.cell? ⟨b, o, none⟩ := World.cell?_of_block (w := w) (h.block b hb)
theorem Sole.below {g B : Nat} {w w' : World} (h : Sole g w w') (hg : B ≤ g) : Below B w w' := ⟨h.os, h.tape, h.output, by rw [h.size]; exact Nat.le_refl _, fun k hk => h.block k (by omega)⟩

theorem cast12 (y c z x r : Nat) (hr : r ≤ 1) : (((y + 1000000000 - (c + z * x) % 1000000000 - r) % 1000000000 : Nat) : Int) = ((y : Int) + 1000000000 - ((c : Int) + (z : Int) * (x : Int)) % 1000000000 - r) % 1000000000 := by
  rw [← Int.natCast_mul]; omega
theorem cast13 (y c z x r : Nat) (hr : r ≤ 1) (hy : y < 1000000000) : ((1 - (y + 1000000000 - (c + z * x) % 1000000000 - r) / 1000000000 : Nat) : Int) = 1 - ((y : Int) + 1000000000 - ((c : Int) + (z : Int) * (x : Int)) % 1000000000 - r) / 1000000000 := by
  rw [← Int.natCast_mul]; omega
theorem cast14 (c z x : Nat) : (((c + z * x) / 1000000000 : Nat) : Int) = ((c : Int) + (z : Int) * (x : Int)) / 1000000000 := by
  rw [← Int.natCast_mul]; omega
theorem cast12' (y c r : Nat) (hr : r ≤ 1) : (((y + 1000000000 - c % 1000000000 - r) % 1000000000 : Nat) : Int) = ((y : Int) + 1000000000 - (c : Int) % 1000000000 - r) % 1000000000 := by omega
theorem cast13' (y c r : Nat) (hr : r ≤ 1) (hy : y < 1000000000) : ((1 - (y + 1000000000 - c % 1000000000 - r) / 1000000000 : Nat) : Int) = 1 - ((y : Int) + 1000000000 - (c : Int) % 1000000000 - r) / 1000000000 := by omega

theorem nth_seg (A o : List Nat) (k : Nat) : nth (A ++ o) (A.length + k) = nth o k := by
  simp [nth, List.getD, List.getElem?_append_right]
theorem set_seg (A o : List Nat) (k x : Nat) : (A ++ o).set (A.length + k) x = A ++ o.set k x := by
  rw [List.set_append_right _ _ (by omega)]; simp

set_option maxHeartbeats 3200000 in
set_option maxRecDepth 100000 in
/-- words.reduce -/
theorem reduce_any (v p A : List Nat) (word : Nat) (hw : word < 1000000000) (hv : ∀ x ∈ v, x < 1000000000) (hp : ∀ x ∈ p, x < 1000000000) (hl : v.length + 1 ≤ p.length) (hsm : v.length ≤ 2147483647)
    (B g N i c1 b2 o2 c2 : Nat) (hi : i = A.length) (w : World) (hown : w.ownsRow B 102 1 (.slice (some ⟨g, 0, none⟩) N N) N (cellsOf .u64 (A ++ p))) (hb : b2 ≠ g)
    (h2 : ∀ j, j < v.length → w.cell? ⟨b2, o2 + j, none⟩ = some (.int .u64 ((nth v j : Nat) : Int))) :
    Calls Tryd.prog 130 #[.slice (some ⟨g, i, none⟩) (v.length + 1) c1, .slice (some ⟨b2, o2, none⟩) v.length c2, .int .u64 word] w fun e w' =>
      ∃ (r : Nat) (o : List Nat), e = .returned (.bool (decide (0 < r))) ∧ RedI p v word (v.length + 1) 0 r o ∧ w'.ownsRow B 102 1 (.slice (some ⟨g, 0, none⟩) N N) N (cellsOf .u64 (A ++ o)) ∧ Sole g w w' := by
  have hN : N = A.length + p.length := by
    have := hown.1
    rw [cellsOf_length, List.length_append] at this
    omega
  have HI := Lib.hid hi
  have HN := Lib.hid hN
  have HP := Lib.hid hp
  have HV := Lib.hid hv
  have HL := Lib.hid hl
  clear hi hN hl
  go_enter Tryd.func130, Tryd.ntmps130
  go_wp2
  go_loopw [7, 8, 13] (fun sc sb si wr => ∃ (k c r : Nat) (o : List Nat), k ≤ v.length + 1 ∧ si = .int .i64 k ∧ sc = .int .u64 c ∧ sb = .int .u64 r ∧
      wr.ownsRow B 102 1 (.slice (some ⟨g, 0, none⟩) N N) N (cellsOf .u64 (A ++ o)) ∧ RedI p v word k c r o ∧ Sole g w wr)
    (fun _ _ si _ => v.length + 1 - (intOf si).toNat)
  case atStart => exact ⟨0, 0, 0, p, Nat.zero_le _, rfl, rfl, rfl, hown, redI_zero p v word HP.out, Sole.refl _ _⟩
  case round =>
    obtain ⟨k, c, r, o, hk, rfl, rfl, rfl, hownr, hI, hS⟩ := hrel
    by_cases hlt : k < v.length + 1
    · have hol := hI.1
      have hc := hI.2.2.1
      have hr := hI.2.2.2.1
      have hy := nth_lt (b := 1000000000) (by omega) p HP.out k
      have hkp : k < p.length := by have := HL.out; omega
      have hcg : wr.cell? ⟨g, i + k, none⟩ = some (.int .u64 ((nth p k : Nat) : Int)) := by
        rw [hownr.cellAt (i + k) (by rw [HN.out, HI.out]; omega), cellsOf_at _ _ _ (by rw [List.length_append, hol, HI.out]; omega), HI.out, nth_seg, hI.2.2.2.2.2.2 k (Nat.le_refl _)]
      have hfg : wr.frozen? ⟨g, i + k, none⟩ = false := hownr.frozenAt (i + k)
      by_cases hlt2 : k < v.length
      · have hx := nth_lt (b := 1000000000) (by omega) v HV.out k
        have hcv : wr.cell? ⟨b2, o2 + k, none⟩ = some (.int .u64 ((nth v k : Nat) : Int)) := (hS.cell b2 (o2 + k) hb).trans (h2 k hlt2)
        have pb := prod_le (Nat.le_of_lt hx) (Nat.le_of_lt hw)
        have pb0 : 0 ≤ ((nth v k : Nat) : Int) * ((word : Nat) : Int) := by rw [← Int.natCast_mul]; omega
        have hst := hownr.stored (i + k) (.int .u64 (((nth p k + 1000000000 - (c + nth v k * word) % 1000000000 - r) % 1000000000 : Nat) : Int))
        have hso := hS.store (i + k) (.int .u64 (((nth p k + 1000000000 - (c + nth v k * word) % 1000000000 - r) % 1000000000 : Nat) : Int))
        rw [← cellsOf_set, HI.out, set_seg] at hst
        rw [HI.out] at hso
        rw [← HI.out] at hso hst
        have hI' := redI_step hI HV.out HP.out hw hkp
        rw [cast12 _ _ _ _ _ hr] at hst hso
        have HST : Hid _ := hst.1
        have HSO := Lib.hid hso
        have HI' := Lib.hid hI'
        clear hst hso hI hI' hownr hS hol
        go_wp2
        go_roundw
        case rel => exact ⟨k + 1, _, _, _, by omega, by go_num, by rw [cast14], by rw [cast13 _ _ _ _ _ hr hy], HST.out, HI'.out, HSO.out⟩
        case measure => simp [intOf]; omega
      · have hy0 : nth v k = 0 := nth_past v k (by omega)
        have hst := hownr.stored (i + k) (.int .u64 (((nth p k + 1000000000 - c % 1000000000 - r) % 1000000000 : Nat) : Int))
        have hso := hS.store (i + k) (.int .u64 (((nth p k + 1000000000 - c % 1000000000 - r) % 1000000000 : Nat) : Int))
        rw [← cellsOf_set, HI.out, set_seg] at hst
        rw [HI.out] at hso
        rw [← HI.out] at hso hst
        have hI' := redI_step hI HV.out HP.out hw hkp
        rw [hy0, Nat.zero_mul, Nat.add_zero] at hI'
        rw [cast12' _ _ _ hr] at hst hso
        have HST : Hid _ := hst.1
        have HSO := Lib.hid hso
        have HI' := Lib.hid hI'
        clear hst hso hI hI' hownr hS hol hy0
        go_wp2
        go_roundw
        case rel => exact ⟨k + 1, c / 1000000000, 1 - (nth p k + 1000000000 - c % 1000000000 - r) / 1000000000, _, by omega, by go_num, by go_num, by rw [cast13' _ _ _ hr hy], HST.out, HI'.out, HSO.out⟩
        case measure => simp [intOf]; omega
    · obtain rfl : k = v.length + 1 := by omega
      obtain rfl : c = 0 := hI.2.2.2.2.1 (by omega)
      have HII := Lib.hid hI
      clear hI
      go_wp2
      go_ret
      exact ⟨r, o, rfl, HII.out, hownr, hS⟩

theorem cast15 (c z y : Nat) : (((c + z + y) % 1000000000 : Nat) : Int) = ((c : Int) + z + y) % 1000000000 := by omega
theorem cast16 (c z y : Nat) : (((c + z + y) / 1000000000 : Nat) : Int) = ((c : Int) + z + y) / 1000000000 := by omega
theorem cast15' (c y : Nat) : (((c + 0 + y) % 1000000000 : Nat) : Int) = ((c : Int) + y) % 1000000000 := by omega
theorem cast16' (c y : Nat) : (((c + 0 + y) / 1000000000 : Nat) : Int) = ((c : Int) + y) / 1000000000 := by omega

set_option maxHeartbeats 3200000 in
set_option maxRecDepth 100000 in
/-- words.restore -/
theorem restore_any (v p A : List Nat) (hv : ∀ x ∈ v, x < 1000000000) (hp : ∀ x ∈ p, x < 1000000000) (hl : v.length + 1 ≤ p.length) (hsm : v.length ≤ 2147483647)
    (B g N i c1 b2 o2 c2 : Nat) (hi : i = A.length) (w : World) (hown : w.ownsRow B 102 1 (.slice (some ⟨g, 0, none⟩) N N) N (cellsOf .u64 (A ++ p))) (hb : b2 ≠ g)
    (h2 : ∀ j, j < v.length → w.cell? ⟨b2, o2 + j, none⟩ = some (.int .u64 ((nth v j : Nat) : Int))) :
    Calls Tryd.prog 131 #[.slice (some ⟨g, i, none⟩) (v.length + 1) c1, .slice (some ⟨b2, o2, none⟩) v.length c2] w fun e w' =>
      (∃ ev, e = .returned ev) ∧ ∃ (c : Nat) (o : List Nat), RstI p v (v.length + 1) c o ∧ w'.ownsRow B 102 1 (.slice (some ⟨g, 0, none⟩) N N) N (cellsOf .u64 (A ++ o)) ∧ Sole g w w' := by
  have hN : N = A.length + p.length := by
    have := hown.1
    rw [cellsOf_length, List.length_append] at this
    omega
  have HI := Lib.hid hi
  have HN := Lib.hid hN
  have HP := Lib.hid hp
  have HV := Lib.hid hv
  have HL := Lib.hid hl
  clear hi hN hl
  go_enter Tryd.func131, Tryd.ntmps131
  go_wp2
  go_loopw [4, 8] (fun sc si wr => ∃ (k c : Nat) (o : List Nat), k ≤ v.length + 1 ∧ si = .int .i64 k ∧ sc = .int .u64 c ∧
      wr.ownsRow B 102 1 (.slice (some ⟨g, 0, none⟩) N N) N (cellsOf .u64 (A ++ o)) ∧ RstI p v k c o ∧ Sole g w wr)
    (fun _ si _ => v.length + 1 - (intOf si).toNat)
  case atStart => exact ⟨0, 0, p, Nat.zero_le _, rfl, rfl, hown, rstI_zero p v HP.out, Sole.refl _ _⟩
  case round =>
    obtain ⟨k, c, o, hk, rfl, rfl, hownr, hI, hS⟩ := hrel
    by_cases hlt : k < v.length + 1
    · have hol := hI.1
      have hc := hI.2.2.1
      have hy := nth_lt (b := 1000000000) (by omega) p HP.out k
      have hkp : k < p.length := by have := HL.out; omega
      have hcg : wr.cell? ⟨g, i + k, none⟩ = some (.int .u64 ((nth p k : Nat) : Int)) := by
        rw [hownr.cellAt (i + k) (by rw [HN.out, HI.out]; omega), cellsOf_at _ _ _ (by rw [List.length_append, hol, HI.out]; omega), HI.out, nth_seg, hI.2.2.2.2 k (Nat.le_refl _)]
      have hfg : wr.frozen? ⟨g, i + k, none⟩ = false := hownr.frozenAt (i + k)
      by_cases hlt2 : k < v.length
      · have hx := nth_lt (b := 1000000000) (by omega) v HV.out k
        have hcv : wr.cell? ⟨b2, o2 + k, none⟩ = some (.int .u64 ((nth v k : Nat) : Int)) := (hS.cell b2 (o2 + k) hb).trans (h2 k hlt2)
        have hst := hownr.stored (i + k) (.int .u64 (((c + nth v k + nth p k) % 1000000000 : Nat) : Int))
        have hso := hS.store (i + k) (.int .u64 (((c + nth v k + nth p k) % 1000000000 : Nat) : Int))
        rw [← cellsOf_set, HI.out, set_seg] at hst
        rw [HI.out] at hso
        rw [← HI.out] at hso hst
        have hI' := rstI_step hI HV.out HP.out hkp
        rw [cast15] at hst hso
        have HST : Hid _ := hst.1
        have HSO := Lib.hid hso
        have HI' := Lib.hid hI'
        clear hst hso hI hI' hownr hS hol
        go_wp2
        go_roundw
        case rel => exact ⟨k + 1, (c + nth v k + nth p k) / 1000000000, _, by omega, by go_num, by rw [cast16], HST.out, HI'.out, HSO.out⟩
        case measure => simp [intOf]; omega
      · have hy0 : nth v k = 0 := nth_past v k (by omega)
        have hst := hownr.stored (i + k) (.int .u64 (((c + 0 + nth p k) % 1000000000 : Nat) : Int))
        have hso := hS.store (i + k) (.int .u64 (((c + 0 + nth p k) % 1000000000 : Nat) : Int))
        rw [← cellsOf_set, HI.out, set_seg] at hst
        rw [HI.out] at hso
        rw [← HI.out] at hso hst
        have hI' := rstI_step hI HV.out HP.out hkp
        rw [hy0] at hI'
        rw [cast15'] at hst hso
        have HST : Hid _ := hst.1
        have HSO := Lib.hid hso
        have HI' := Lib.hid hI'
        clear hst hso hI hI' hownr hS hol hy0
        go_wp2
        go_roundw
        case rel => exact ⟨k + 1, (c + 0 + nth p k) / 1000000000, _, by omega, by go_num, by rw [cast16'], HST.out, HI'.out, HSO.out⟩
        case measure => simp [intOf]; omega
    · obtain rfl : k = v.length + 1 := by omega
      have HII := Lib.hid hI
      clear hI
      go_wp2
      go_end0
      exact ⟨⟨_, rfl⟩, c, o, HII.out, hownr, hS⟩
end Go.Proofs.YtbmonfbbkmpdhaaDoor
