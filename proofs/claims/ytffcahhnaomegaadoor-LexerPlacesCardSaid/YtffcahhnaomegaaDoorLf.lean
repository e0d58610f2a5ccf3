/- Scan of the program: tokens, offset and error are those of the plain scan. -/
import Derived.Test.YtffcahhnaomegaaDoorLe
import Derived.Deep.RegionHeld3
namespace Go.Proofs.YtffcahhnaomegaaDoor
open Go.RowKit Go.Proofs.Lx
set_option maxHeartbeats 3200000 in
set_option maxRecDepth 100000 in
theorem pscan_long (s : ByteArray) (hs : 4096 < s.size) (w : World) :
    Calls Tryd.prog 5 #[.string s] w (fun e w' => e = .returned (.tuple #[.slice none 0 0, .int .i64 0, .int .i64 19]) ∧ w = w') := by
  have h1 : decide (4096 < (s.size : Int)) = true := decide_eq_true (by omega)
  go_enter Tryd.func5, Tryd.ntmps5
  go_wp2
  go_ret3
  exact ⟨rfl, rfl⟩

set_option maxHeartbeats 25600000 in
set_option maxRecDepth 100000 in
theorem pscan_ok (s : ByteArray) (hs : s.size ≤ 4096) (w : World) :
    Calls Tryd.prog 5 #[.string s] w (GivesTk w (scanF (s.size + 1) (bl s) 0 [])) := by
  have h1 : decide (4096 < (s.size : Int)) = false := decide_eq_false (by omega)
  have Hi : Hid ((Tryd.prog.info? 42).map (·.size) = some T5.size) := Lib.hid (by rw [size_T5]; kernel_rfl)
  obtain ⟨i0, hi, hz0, hz1, hz2⟩ := info_parts info41
  unfold GivesTk
  obtain ⟨R, HR0⟩ : ∃ R, Hid (scanF (s.size + 1) (bl s) 0 [] = R) := ⟨_, Lib.hid rfl⟩
  rw [HR0.out]
  go_enter Tryd.func5, Tryd.ntmps5
  go_wp2_with fail
  refine (classes_any _).mono ?_
  rintro e w1 ⟨rfl, hb1⟩
  have Hb1 := Lib.hid hb1
  clear hb1
  go_wp2_with (refine wpList_store_row rfl 42 (.tmp 5) (.tmp 14) rfl w1.heap.size T5 rfl rfl 42 T0 (Blk.new w1 42 T0) Hi.out (by rw [size_T0, size_T5]) T5_one ?_)
  have hB2 : Blk ((w1.alloc (Obj.cells Tryd.zeroCells42 42)).setRow w1.heap.size T5) w1.heap.size 42 T5 := setRow_heap _ _ _ _ _ _ (Blk.new w1 42 T0)
  have hb2 : Below w.heap.size w ((w1.alloc (Obj.cells Tryd.zeroCells42 42)).setRow w1.heap.size T5) := below_setRow (Hb1.out.alloc Hb1.out.size _) Hb1.out.size _
  have HB2 := Lib.hid hB2
  have Hb2 := Lib.hid hb2
  have hle : w.heap.size ≤ w1.heap.size := Hb1.out.size
  clear hB2 hb2 Hb1
  go_loopw [6, 7] (fun v l wr => ∃ (k : Nat) (acc : List Tk) (f : Nat), k ≤ s.size ∧ s.size < f + k ∧ acc.length ≤ k ∧ l = .int .i64 k ∧ Hid (scanF f ((bl s).drop k) k acc = R) ∧ wr.ownsRow w.heap.size 28 3 v acc.length (tks acc) ∧ Blk wr w1.heap.size 42 T5 ∧ Below w.heap.size w wr) (fun _ l _ => s.size - (intOf l).toNat)
  case atStart => exact ⟨0, [], s.size + 1, by omega, by omega, by simp, rfl, Lib.hid HR0.out, World.ownsRow_nil _ _ _ _, HB2.out, Hb2.out⟩
  case round =>
    obtain ⟨k, acc, f, hk, hf, hac, rfl, HE, hown, hB, hb⟩ := hrel
    obtain ⟨f, rfl⟩ : ∃ f', f = f' + 1 := ⟨f - 1, by omega⟩
    have HOW := Lib.hid hown
    have HBL := Lib.hid hB
    have Hbb := Lib.hid hb
    have hlt1 : w1.heap.size < wr.heap.size := HBL.out.lt
    clear hown hB hb
    by_cases hlt : k < s.size
    · have hl : k < (bl s).length := by simpa using hlt
      have hbt : s[k].toNat < 256 := s[k].toNat_lt
      by_cases c0 : s[k] = 32
      · have HE2 := Lib.hid ((scan_blank f (bl s) k acc hl c0).symm.trans HE.out)
        obtain ⟨e0, e1, e2⟩ := tab_cells HBL.out (tab_blank _ c0)
        have HR := Lib.hid (fun w => readOne_any s k (by omega) w)
        clear HE c0
        go_wp2_with fail
        refine (HR.out _).mono ?_
        rintro e w3 ⟨rfl, rfl⟩
        go_wp2
        have HOW1 := Lib.hid (HOW.out.alloc (Obj.cells #[Value.int IntKind.i64 0, Value.bool true, Value.func (Fn.func 30) #[] #[]] 41))
        have HBL1 := Lib.hid (HBL.out.alloc (Obj.cells #[Value.int IntKind.i64 0, Value.bool true, Value.func (Fn.func 30) #[] #[]] 41))
        have Hbb1 := Lib.hid (Hbb.out.alloc Hbb.out.size (Obj.cells #[Value.int IntKind.i64 0, Value.bool true, Value.func (Fn.func 30) #[] #[]] 41))
        go_roundw
        case rel => exact ⟨k + 1, acc, f, by omega, by omega, by omega, by go_num, HE2, HOW1.out, HBL1.out, Hbb1.out⟩
        case measure => simp [intOf]; omega
      by_cases c1 : isSig s[k] = true
      · have HE2 := Lib.hid ((scan_sig f (bl s) k acc hl c1).symm.trans HE.out)
        obtain ⟨e0, e1, e2⟩ := tab_cells HBL.out (tab_sig _ c1)
        obtain ⟨m, hm⟩ : ∃ m : Nat, m = k + 1 := ⟨_, rfl⟩
        have Hm := Lib.hid hm
        have HT : Hid (((bl s).drop k).take (m - k) = [s[k]]) := by
          rw [hm, show k + 1 - k = 1 by omega, List.drop_eq_getElem_cons hl]
          exact Lib.hid rfl
        clear c0 c1
        have HR : Hid (∀ w, Calls Tryd.prog 30 #[.string s, .int .i64 (k : Nat)] w (fun e w' => e = .returned (.tuple #[.int .i64 (m : Nat), .int .i64 0]) ∧ w = w')) := by rw [hm]; exact Lib.hid (fun w => readOne_any s k (by omega) w)
        have hkm : k < m := by omega
        have hms : m ≤ s.size := by omega
        clear hm HE
        go_wp2_with fail
        refine (HR.out _).mono ?_
        rintro e w3 ⟨rfl, rfl⟩
        go_wp2
        have HOW1 := Lib.hid (HOW.out.alloc (Obj.cells #[Value.int IntKind.i64 2, Value.bool false, Value.func (Fn.func 30) #[] #[]] 41))
        have HBL1 := Lib.hid (HBL.out.alloc (Obj.cells #[Value.int IntKind.i64 2, Value.bool false, Value.func (Fn.func 30) #[] #[]] 41))
        have Hbb1 := Lib.hid (Hbb.out.alloc Hbb.out.size (Obj.cells #[Value.int IntKind.i64 2, Value.bool false, Value.func (Fn.func 30) #[] #[]] 41))
        have HQ := Lib.hid (Blk.new wr 41 #[Value.int IntKind.i64 2, Value.bool false, Value.func (Fn.func 30) #[] #[]])
        generalize wr.alloc (Obj.cells #[Value.int IntKind.i64 2, Value.bool false, Value.func (Fn.func 30) #[] #[]] 41) = W1 at *
        have f0 : W1.drew.cell? ⟨wr.heap.size, 0, none⟩ = some (.int .i64 2) := HQ.out.cell 0
        have F1 : Hid (∀ o, (W1.alloc o).cell? ⟨wr.heap.size, 0, none⟩ = some (.int .i64 2)) := Lib.hid (fun o => (HQ.out.alloc o).cell 0)
        have g1 : (0 : Int) ≤ (k : Int) := by omega
        have g2 : (k : Int) ≤ (m : Int) := by omega
        have g3 : (m : Int) ≤ ((s.size : Nat) : Int) := by omega
        have g4 : (0 : Int) ≤ (m : Int) := by omega
        go_region_held3 (fun x => x.cell? ⟨wr.heap.size, 0, none⟩ = some (.int .i64 2))
          (first | assumption | exact F1.out _)
          ((rw [if_pos (by rfl)]; refine wp_append_own _ _ _ 23 rfl w.heap.size 28 i0 _ 3 32 Tryd.underlying23 hi hz0 hz1 hz2 rfl (by decide) _ _ _ rfl (own_keep (HOW1.out.alloc _) (Below.refl _ _).drew) ⟨_, 0, none⟩ 1 1 [.int .i64 2, .string (s.extract k m), .int .i64 k] rfl rfl (lit3 _ _ _ _) (by simp [Value.oneCell']) (by unfold maxLen; omega) (by omega) (by show _ ≤ (W1.alloc _).heap.size; rw [World.size_alloc]; have := Hbb1.out.size; omega) ?_; intro v1 w3 hown1 hgrow1 _; obtain ⟨hk4, hk5, hk6⟩ := push_all Hbb1.out HBL1.out HQ.out HOW1.out hgrow1))
        rename_i hHeldz
        clear hHeldz
        have HOW3 := Lib.hid hown1
        have HBL3 := Lib.hid hk5
        have Hbb3 := Lib.hid hk4
        clear hown1 hk4 hk5 hk6 hgrow1
        go_wp2
        go_roundw
        case rel =>
          refine ⟨m, acc ++ [⟨2, ((bl s).drop k).take (m - k), k⟩], f, by omega, by omega, by simp; omega, rfl, Lib.hid (by rw [Hm.out]; first | (rw [← Hm.out, HT.out, Hm.out]; exact HE2.out) | exact HE2.out), ?_, HBL3.out, Hbb3.out⟩
          have := HOW3.out
          rw [ext_eq] at this
          rw [List.length_append, tks_append]
          exact this
        case measure => simp [intOf]; omega
      by_cases c2 : isLet s[k] = true
      · have q1 := runTo_le' isLet s k (by omega)
        have q2 := runTo_ge isLet (bl s) k
        have q3 := runTo_gt (p := isLet) hl c2
        by_cases c3 : 24 < runTo isLet (bl s) k - k
        · have HE2 := Lib.hid ((scan_let_long f (bl s) k acc hl c2 c3).symm.trans HE.out)
          obtain ⟨e0, e1, e2⟩ := tab_cells HBL.out (tab_let _ c2)
          have HR := Lib.hid (fun w => readWord_long s k (by omega) (by omega) c3 w)
          have Hk := Lib.hid HBL.out.lt
          clear HE
          go_wp2_with fail
          refine (HR.out _).mono ?_
          rintro e w3 ⟨rfl, rfl⟩
          go_wp2
          go_ret3
          exact ⟨none, 0, by rw [← HE2.out]; rfl, by rw [← HE2.out]; exact TkAt.nil _ _, Hbb.out.alloc Hbb.out.size _⟩
        · have HE2 := Lib.hid ((scan_let f (bl s) k acc hl c2 (by omega)).symm.trans HE.out)
          obtain ⟨e0, e1, e2⟩ := tab_cells HBL.out (tab_let _ c2)
          obtain ⟨m, hm⟩ : ∃ m : Nat, m = runTo isLet (bl s) k := ⟨_, rfl⟩
          have Hm := Lib.hid hm
          rw [← hm] at q1 q2 q3
          clear c0 c1 c2
          have HR : Hid (∀ w, Calls Tryd.prog 28 #[.string s, .int .i64 (k : Nat)] w (fun e w' => e = .returned (.tuple #[.int .i64 (m : Nat), .int .i64 0]) ∧ w = w')) := by rw [hm]; exact Lib.hid (fun w => readWord_ok s k (by omega) (by omega) (by omega) w)
          have hkm : k < m := by omega
          have hms : m ≤ s.size := by omega
          clear hm HE
          go_wp2_with fail
          refine (HR.out _).mono ?_
          rintro e w3 ⟨rfl, rfl⟩
          go_wp2
          have HOW1 := Lib.hid (HOW.out.alloc (Obj.cells #[Value.int IntKind.i64 0, Value.bool false, Value.func (Fn.func 28) #[] #[]] 41))
          have HBL1 := Lib.hid (HBL.out.alloc (Obj.cells #[Value.int IntKind.i64 0, Value.bool false, Value.func (Fn.func 28) #[] #[]] 41))
          have Hbb1 := Lib.hid (Hbb.out.alloc Hbb.out.size (Obj.cells #[Value.int IntKind.i64 0, Value.bool false, Value.func (Fn.func 28) #[] #[]] 41))
          have HQ := Lib.hid (Blk.new wr 41 #[Value.int IntKind.i64 0, Value.bool false, Value.func (Fn.func 28) #[] #[]])
          generalize wr.alloc (Obj.cells #[Value.int IntKind.i64 0, Value.bool false, Value.func (Fn.func 28) #[] #[]] 41) = W1 at *
          have f0 : W1.drew.cell? ⟨wr.heap.size, 0, none⟩ = some (.int .i64 0) := HQ.out.cell 0
          have F1 : Hid (∀ o, (W1.alloc o).cell? ⟨wr.heap.size, 0, none⟩ = some (.int .i64 0)) := Lib.hid (fun o => (HQ.out.alloc o).cell 0)
          have g1 : (0 : Int) ≤ (k : Int) := by omega
          have g2 : (k : Int) ≤ (m : Int) := by omega
          have g3 : (m : Int) ≤ ((s.size : Nat) : Int) := by omega
          have g4 : (0 : Int) ≤ (m : Int) := by omega
          go_region_held3 (fun x => x.cell? ⟨wr.heap.size, 0, none⟩ = some (.int .i64 0))
            (first | assumption | exact F1.out _)
            ((rw [if_pos (by rfl)]; refine wp_append_own _ _ _ 23 rfl w.heap.size 28 i0 _ 3 32 Tryd.underlying23 hi hz0 hz1 hz2 rfl (by decide) _ _ _ rfl (own_keep (HOW1.out.alloc _) (Below.refl _ _).drew) ⟨_, 0, none⟩ 1 1 [.int .i64 0, .string (s.extract k m), .int .i64 k] rfl rfl (lit3 _ _ _ _) (by simp [Value.oneCell']) (by unfold maxLen; omega) (by omega) (by show _ ≤ (W1.alloc _).heap.size; rw [World.size_alloc]; have := Hbb1.out.size; omega) ?_; intro v1 w3 hown1 hgrow1 _; obtain ⟨hk4, hk5, hk6⟩ := push_all Hbb1.out HBL1.out HQ.out HOW1.out hgrow1))
          rename_i hHeldz
          clear hHeldz
          have HOW3 := Lib.hid hown1
          have HBL3 := Lib.hid hk5
          have Hbb3 := Lib.hid hk4
          clear hown1 hk4 hk5 hk6 hgrow1
          go_wp2
          go_roundw
          case rel =>
            refine ⟨m, acc ++ [⟨0, ((bl s).drop k).take (m - k), k⟩], f, by omega, by omega, by simp; omega, rfl, Lib.hid (by rw [Hm.out]; first | (rw [← Hm.out, HT.out, Hm.out]; exact HE2.out) | exact HE2.out), ?_, HBL3.out, Hbb3.out⟩
            have := HOW3.out
            rw [ext_eq] at this
            rw [List.length_append, tks_append]
            exact this
          case measure => simp [intOf]; omega
      by_cases c4 : isDig s[k] = true
      · have q1 := runTo_le' isDig s k (by omega)
        have q2 := runTo_ge isDig (bl s) k
        have q3 := runTo_gt (p := isDig) hl c4
        by_cases c5 : 1024 < runTo isDig (bl s) k - k
        · have HE2 := Lib.hid ((scan_dig_long f (bl s) k acc hl c4 c5).symm.trans HE.out)
          obtain ⟨e0, e1, e2⟩ := tab_cells HBL.out (tab_dig _ c4)
          have HR := Lib.hid (fun w => readNumber_long s k hlt (by omega) c5 w)
          have Hk := Lib.hid HBL.out.lt
          clear HE
          go_wp2_with fail
          refine (HR.out _).mono ?_
          rintro e w3 ⟨rfl, rfl⟩
          go_wp2
          go_ret3
          exact ⟨none, 0, by rw [← HE2.out]; rfl, by rw [← HE2.out]; exact TkAt.nil _ _, Hbb.out.alloc Hbb.out.size _⟩
        by_cases c6 : s[k] = 48 ∧ 1 < runTo isDig (bl s) k - k
        · have HE2 := Lib.hid ((scan_dig_form f (bl s) k acc hl c6.1 (by omega) c6.2).symm.trans HE.out)
          obtain ⟨e0, e1, e2⟩ := tab_cells HBL.out (tab_dig _ c4)
          have HR := Lib.hid (fun w => readNumber_form s k hlt (by omega) (by omega) c6.1 c6.2 w)
          have Hk := Lib.hid HBL.out.lt
          clear HE c6
          go_wp2_with fail
          refine (HR.out _).mono ?_
          rintro e w3 ⟨rfl, rfl⟩
          go_wp2
          go_ret3
          exact ⟨none, 0, by rw [← HE2.out]; rfl, by rw [← HE2.out]; exact TkAt.nil _ _, Hbb.out.alloc Hbb.out.size _⟩
        have c7 : s[k] ≠ 48 ∨ runTo isDig (bl s) k - k ≤ 1 := by
          by_cases z : s[k] = 48
          · right; have : ¬ 1 < runTo isDig (bl s) k - k := fun h => c6 ⟨z, h⟩; omega
          · left; exact z
        clear c6
        have HE2 := Lib.hid ((scan_dig f (bl s) k acc hl c4 (by omega) c7).symm.trans HE.out)
        obtain ⟨e0, e1, e2⟩ := tab_cells HBL.out (tab_dig _ c4)
        obtain ⟨m, hm⟩ : ∃ m : Nat, m = runTo isDig (bl s) k := ⟨_, rfl⟩
        have Hm := Lib.hid hm
        rw [← hm] at q1 q2 q3
        clear c0 c1 c2
        have HR : Hid (∀ w, Calls Tryd.prog 29 #[.string s, .int .i64 (k : Nat)] w (fun e w' => e = .returned (.tuple #[.int .i64 (m : Nat), .int .i64 0]) ∧ w = w')) := by rw [hm]; exact Lib.hid (fun w => readNumber_ok s k hlt (by omega) (by omega) c7 w)
        have hkm : k < m := by omega
        have hms : m ≤ s.size := by omega
        clear hm HE c4 c5 c7
        go_wp2_with fail
        refine (HR.out _).mono ?_
        rintro e w3 ⟨rfl, rfl⟩
        go_wp2
        have HOW1 := Lib.hid (HOW.out.alloc (Obj.cells #[Value.int IntKind.i64 1, Value.bool false, Value.func (Fn.func 29) #[] #[]] 41))
        have HBL1 := Lib.hid (HBL.out.alloc (Obj.cells #[Value.int IntKind.i64 1, Value.bool false, Value.func (Fn.func 29) #[] #[]] 41))
        have Hbb1 := Lib.hid (Hbb.out.alloc Hbb.out.size (Obj.cells #[Value.int IntKind.i64 1, Value.bool false, Value.func (Fn.func 29) #[] #[]] 41))
        have HQ := Lib.hid (Blk.new wr 41 #[Value.int IntKind.i64 1, Value.bool false, Value.func (Fn.func 29) #[] #[]])
        generalize wr.alloc (Obj.cells #[Value.int IntKind.i64 1, Value.bool false, Value.func (Fn.func 29) #[] #[]] 41) = W1 at *
        have f0 : W1.drew.cell? ⟨wr.heap.size, 0, none⟩ = some (.int .i64 1) := HQ.out.cell 0
        have F1 : Hid (∀ o, (W1.alloc o).cell? ⟨wr.heap.size, 0, none⟩ = some (.int .i64 1)) := Lib.hid (fun o => (HQ.out.alloc o).cell 0)
        have g1 : (0 : Int) ≤ (k : Int) := by omega
        have g2 : (k : Int) ≤ (m : Int) := by omega
        have g3 : (m : Int) ≤ ((s.size : Nat) : Int) := by omega
        have g4 : (0 : Int) ≤ (m : Int) := by omega
        go_region_held3 (fun x => x.cell? ⟨wr.heap.size, 0, none⟩ = some (.int .i64 1))
          (first | assumption | exact F1.out _)
          ((rw [if_pos (by rfl)]; refine wp_append_own _ _ _ 23 rfl w.heap.size 28 i0 _ 3 32 Tryd.underlying23 hi hz0 hz1 hz2 rfl (by decide) _ _ _ rfl (own_keep (HOW1.out.alloc _) (Below.refl _ _).drew) ⟨_, 0, none⟩ 1 1 [.int .i64 1, .string (s.extract k m), .int .i64 k] rfl rfl (lit3 _ _ _ _) (by simp [Value.oneCell']) (by unfold maxLen; omega) (by omega) (by show _ ≤ (W1.alloc _).heap.size; rw [World.size_alloc]; have := Hbb1.out.size; omega) ?_; intro v1 w3 hown1 hgrow1 _; obtain ⟨hk4, hk5, hk6⟩ := push_all Hbb1.out HBL1.out HQ.out HOW1.out hgrow1))
        rename_i hHeldz
        clear hHeldz
        have HOW3 := Lib.hid hown1
        have HBL3 := Lib.hid hk5
        have Hbb3 := Lib.hid hk4
        clear hown1 hk4 hk5 hk6 hgrow1
        go_wp2
        go_roundw
        case rel =>
          refine ⟨m, acc ++ [⟨1, ((bl s).drop k).take (m - k), k⟩], f, by omega, by omega, by simp; omega, rfl, Lib.hid (by rw [Hm.out]; first | (rw [← Hm.out, HT.out, Hm.out]; exact HE2.out) | exact HE2.out), ?_, HBL3.out, Hbb3.out⟩
          have := HOW3.out
          rw [ext_eq] at this
          rw [List.length_append, tks_append]
          exact this
        case measure => simp [intOf]; omega
      simp only [Bool.not_eq_true] at c1 c2 c4
      have HE2 := Lib.hid ((scan_bad f (bl s) k acc hl c0 c1 c2 c4).symm.trans HE.out)
      obtain ⟨e0, e1, e2⟩ := tab_cells HBL.out (tab_bad _ c0 c1 c2 c4)
      have HR := Lib.hid (fun w => readNothing_any s k w)
      have Hk := Lib.hid HBL.out.lt
      clear HE c0 c1 c2 c4
      go_wp2_with fail
      refine (HR.out _).mono ?_
      rintro e w3 ⟨rfl, rfl⟩
      go_wp2
      go_ret3
      exact ⟨none, 0, by rw [← HE2.out]; rfl, by rw [← HE2.out]; exact TkAt.nil _ _, Hbb.out.alloc Hbb.out.size _⟩
    · obtain rfl : k = s.size := by omega
      have HE2 := Lib.hid ((scan_end f (bl s) s.size acc (by simp)).symm.trans HE.out)
      clear HE
      go_wp2_with (at_builtin; refine wpList_append_own _ rfl (.tmp 51) (.tmp 55) _ rfl w.heap.size 28 i0 _ 3 32 Tryd.underlying23 hi hz0 hz1 hz2 rfl (by decide) _ _ _ rfl (HOW.out.alloc _) ⟨_, 0, none⟩ 1 1 [.int .i64 3, .string ⟨#[]⟩, .int .i64 s.size] rfl rfl (lit3 _ _ _ _) (by simp [Value.oneCell']) (by unfold maxLen; omega) (by omega) (by rw [World.size_alloc]; have := Hbb.out.size; omega) ?_; intro v1 w3 hown1 hgrow1 _; have hk4 := below_push Hbb.out (fun k hk => (HOW.out.lt k hk).1) hgrow1)
      have HOW3 : Hid (w3.ownsRow w.heap.size 28 3 v1 (acc ++ [(⟨3, [], s.size⟩ : Tk)]).length (tks (acc ++ [(⟨3, [], s.size⟩ : Tk)]))) := by
        rw [List.length_append, tks_append]
        exact hown1
      have Hbb3 := Lib.hid hk4
      clear hown1 hk4 hgrow1
      obtain ⟨a', c', e1, e2⟩ := TkAt.of_own HOW3.out
      have E1 := Lib.hid e1
      have E2 := Lib.hid e2
      clear e1 e2
      go_wp2
      go_ret3
      refine ⟨a', c', ?_, ?_, Hbb3.out⟩
      · rw [← HE2.out, ← E1.out]; rfl
      · rw [← HE2.out]; exact E2.out
end Go.Proofs.YtffcahhnaomegaaDoor
