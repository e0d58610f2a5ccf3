/- Scan of the reference: tokens, offset and error are those of the plain scan. -/
import Derived.Test.YtffcahhnaomegaaLj
import Derived.Test.YtffcahhnaomegaaLf
namespace Go.Proofs.Ytffcahhnaomegaa
open Go.RowKit Go.Proofs.Lx
set_option maxHeartbeats 3200000 in
set_option maxRecDepth 100000 in
theorem rscan_long (s : ByteArray) (hs : 4096 < s.size) (w : World) :
    Calls Try.prog 11 #[.string s] w (fun e w' => e = .returned (.tuple #[.slice none 0 0, .int .i64 0, .int .i64 19]) ∧ w = w') := by
  have h1 : decide (4096 < (s.size : Int)) = true := decide_eq_true (by omega)
  go_enter Try.func11, Try.ntmps11
  go_wp2
  go_ret3
  exact ⟨rfl, rfl⟩

set_option maxHeartbeats 25600000 in
set_option maxRecDepth 100000 in
theorem rscan_ok (s : ByteArray) (hs : s.size ≤ 4096) (w : World) :
    Calls Try.prog 11 #[.string s] w (GivesTk w (scanF (s.size + 1) (bl s) 0 [])) := by
  have h1 : decide (4096 < (s.size : Int)) = false := decide_eq_false (by omega)
  obtain ⟨i0, hi, hz0, hz1, hz2⟩ := info_parts info41
  unfold GivesTk
  obtain ⟨R, HR0⟩ : ∃ R, Hid (scanF (s.size + 1) (bl s) 0 [] = R) := ⟨_, Lib.hid rfl⟩
  rw [HR0.out]
  go_enter Try.func11, Try.ntmps11
  go_wp2
  go_loopw [5, 6] (fun v l wr => ∃ (k : Nat) (acc : List Tk) (f : Nat), k ≤ s.size ∧ s.size < f + k ∧ acc.length ≤ k ∧ l = .int .i64 k ∧ Hid (scanF f ((bl s).drop k) k acc = R) ∧ wr.ownsRow w.heap.size 41 3 v acc.length (tks acc) ∧ Below w.heap.size w wr) (fun _ l _ => s.size - (intOf l).toNat)
  case atStart => exact ⟨0, [], s.size + 1, by omega, by omega, by simp, rfl, Lib.hid HR0.out, World.ownsRow_nil _ _ _ _, Below.refl _ _⟩
  case round =>
    obtain ⟨k, acc, f, hk, hf, hac, rfl, HE, hown, hb⟩ := hrel
    obtain ⟨f, rfl⟩ : ∃ f', f = f' + 1 := ⟨f - 1, by omega⟩
    have HOW := Lib.hid hown
    have Hbb := Lib.hid hb
    clear hown hb
    by_cases hlt : k < s.size
    · have hl : k < (bl s).length := by simpa using hlt
      have hbt : s[k].toNat < 256 := s[k].toNat_lt
      by_cases c0 : s[k] = 32
      · have HE2 := Lib.hid ((scan_blank f (bl s) k acc hl c0).symm.trans HE.out)
        have q0 : ((s[k].toNat : Int) == 32) = true := by rw [c0]; rfl
        clear HE c0
        go_wp2
        go_roundw
        case rel => exact ⟨k + 1, acc, f, by omega, by omega, by omega, by go_num, HE2, HOW.out, Hbb.out⟩
        case measure => simp [intOf]; omega
      have q0 : ((s[k].toNat : Int) == 32) = false := by
        rw [beq_eq_false_iff_ne]
        intro h
        exact c0 (UInt8.toNat_inj.1 (by show s[k].toNat = 32; omega))
      by_cases c1 : isSig s[k] = true
      · have HE2 := Lib.hid ((scan_sig f (bl s) k acc hl c1).symm.trans HE.out)
        obtain ⟨m, hm⟩ : ∃ m : Nat, m = k + 1 := ⟨_, rfl⟩
        have Hm := Lib.hid hm
        have HTT : Hid (((bl s).drop k).take (m - k) = [s[k]]) := by
          rw [hm, show k + 1 - k = 1 by omega, List.drop_eq_getElem_cons hl]
          exact Lib.hid rfl
        have hkm : k < m := by omega
        have hms : m ≤ s.size := by omega
        obtain ⟨T, hT⟩ : ∃ T : Tk, T = ⟨2, ((bl s).drop k).take (m - k), k⟩ := ⟨_, rfl⟩
        have HT := Lib.hid hT
        have hTl : T.text.length = m - k := by
          rw [hT]
          have := hms
          simp; omega
        obtain ⟨X, hX⟩ : ∃ X, X = bt T.text := ⟨_, rfl⟩
        have hXs : X.size = m - k := by rw [hX]; show T.text.toArray.size = m - k; simpa using hTl
        have HX := Lib.hid hX
        have HR : Hid (∀ w, Calls Try.prog 28 #[.string (s.extract k s.size), .int .i64 (k : Nat)] w (fun e w' => e = .returned (.tuple #[.agg #[.int .i64 2, .string X, .int .i64 (k : Nat)], .int .i64 0]) ∧ Below w.heap.size w w')) := by
          rw [hX, hT]
          have e1 : ((bl s).drop k).take (m - k) = [s[k]] := HTT.out
          simp only [e1]
          exact Lib.hid (fun w => rf_sig s k hlt (by omega) w c1)
        have hx1 : (X.size : Int) ≤ (m : Int) - k := by omega
        have hx2 : (m : Int) - k ≤ (X.size : Int) := by omega
        have HXs := Lib.hid hXs
        clear hm HE hT hX hXs hTl c0
        go_wp2_with fail
        refine (HR.out _).mono ?_
        rintro e w3 ⟨rfl, hb3⟩
        have HOW1 := Lib.hid (((own_keep HOW.out hb3).alloc (Obj.cells #[Value.int IntKind.i64 2, Value.string X, Value.int IntKind.i64 k] 41)))
        have Hb3 := Lib.hid hb3
        have Hbb1 := Lib.hid ((Hbb.out.trans (hb3.mono Hbb.out.size)).alloc (Nat.le_trans Hbb.out.size hb3.size) (Obj.cells #[Value.int IntKind.i64 2, Value.string X, Value.int IntKind.i64 k] 41))
        clear hb3
        go_wp2_with (at_builtin; refine wpList_append_own _ rfl (.tmp 34) (.tmp 36) 23 rfl w.heap.size 41 i0 _ 3 32 Try.underlying23 hi hz0 hz1 hz2 rfl (by decide) _ _ _ rfl (HOW1.out.alloc _) ⟨_, 0, none⟩ 1 1 [.int .i64 2, .string X, .int .i64 k] rfl rfl (lit3' _ _ _ _ _) (by simp [Value.oneCell']) (by unfold maxLen; omega) (by omega) (by have := Hbb1.out.size; simp at this ⊢; omega) ?_; intro v1 w5 hown1 hgrow1 _; have hk6 := box_far HOW.out Hb3.out hgrow1; have hk4 := below_push Hbb1.out (fun k hk => (HOW1.out.lt k hk).1) hgrow1)
        have HOW3 := Lib.hid hown1
        have Hbb3 := Lib.hid hk4
        clear hown1 hk4 hk6 hgrow1
        go_roundw
        case rel =>
          refine ⟨m, acc ++ [T], f, by omega, by omega, by simp; omega, ?_, Lib.hid (by rw [HT.out, HTT.out, Hm.out]; exact HE2.out), ?_, Hbb3.out⟩
          · show Value.int .i64 ((k : Int) + (X.size : Int)) = .int .i64 (m : Int)
            congr 1
            omega
          · rw [List.length_append, tks_append, tks_one, show tkv T = [.int .i64 2, .string X, .int .i64 k] from by rw [HX.out, HT.out]; rfl]
            exact HOW3.out
        case measure => simp [intOf]; omega
      by_cases c2 : isLet s[k] = true
      · have q1 := runTo_le' isLet s k (by omega)
        have q3 := runTo_gt (p := isLet) hl c2
        by_cases c3 : 24 < runTo isLet (bl s) k - k
        · have HE2 := Lib.hid ((scan_let_long f (bl s) k acc hl c2 c3).symm.trans HE.out)
          have HR : Hid (∀ w, Calls Try.prog 28 #[.string (s.extract k s.size), .int .i64 (k : Nat)] w (fun e w' => e = .returned (.tuple #[.agg #[.int .i64 0, .string (bt (((bl s).drop k).take (runTo isLet (bl s) k - k))), .int .i64 (k : Nat)], .int .i64 19]) ∧ Below w.heap.size w w')) := by
            refine Lib.hid fun w => ?_
            have h := rf_let s k hlt (by omega) w c2
            rw [if_pos c3] at h
            exact h
          generalize bt (((bl s).drop k).take (runTo isLet (bl s) k - k)) = X at *
          clear HE c0
          go_wp2_with fail
          refine (HR.out _).mono ?_
          rintro e w3 ⟨rfl, hb3⟩
          have Hbb1 := Lib.hid ((Hbb.out.trans (hb3.mono Hbb.out.size)).alloc (Nat.le_trans Hbb.out.size hb3.size) (Obj.cells #[Value.int IntKind.i64 0, Value.string X, Value.int IntKind.i64 k] 41))
          clear hb3
          go_wp2
          go_ret3
          exact ⟨none, 0, by rw [← HE2.out]; rfl, by rw [← HE2.out]; exact TkAt.nil _ _, Hbb1.out⟩
        · have HE2 := Lib.hid ((scan_let f (bl s) k acc hl c2 (by omega)).symm.trans HE.out)
          obtain ⟨m, hm⟩ : ∃ m : Nat, m = runTo isLet (bl s) k := ⟨_, rfl⟩
          have Hm := Lib.hid hm
          rw [← hm] at q1 q3 c3
          have hkm : k < m := by omega
          have hms : m ≤ s.size := by omega
          obtain ⟨T, hT⟩ : ∃ T : Tk, T = ⟨0, ((bl s).drop k).take (m - k), k⟩ := ⟨_, rfl⟩
          have HT := Lib.hid hT
          have hTl : T.text.length = m - k := by
            rw [hT]
            have := hms
            simp; omega
          obtain ⟨X, hX⟩ : ∃ X, X = bt T.text := ⟨_, rfl⟩
          have hXs : X.size = m - k := by rw [hX]; show T.text.toArray.size = m - k; simpa using hTl
          have HX := Lib.hid hX
          have HR : Hid (∀ w, Calls Try.prog 28 #[.string (s.extract k s.size), .int .i64 (k : Nat)] w (fun e w' => e = .returned (.tuple #[.agg #[.int .i64 0, .string X, .int .i64 (k : Nat)], .int .i64 0]) ∧ Below w.heap.size w w')) := by
            rw [hX, hT]
            refine Lib.hid fun w => ?_
            have h := rf_let s k hlt (by omega) w c2
            rw [← hm, if_neg (by omega)] at h
            exact h
          have hx1 : (X.size : Int) ≤ (m : Int) - k := by omega
          have hx2 : (m : Int) - k ≤ (X.size : Int) := by omega
          have HXs := Lib.hid hXs
          clear hm HE hT hX hXs hTl c0
          go_wp2_with fail
          refine (HR.out _).mono ?_
          rintro e w3 ⟨rfl, hb3⟩
          have HOW1 := Lib.hid (((own_keep HOW.out hb3).alloc (Obj.cells #[Value.int IntKind.i64 0, Value.string X, Value.int IntKind.i64 k] 41)))
          have Hb3 := Lib.hid hb3
          have Hbb1 := Lib.hid ((Hbb.out.trans (hb3.mono Hbb.out.size)).alloc (Nat.le_trans Hbb.out.size hb3.size) (Obj.cells #[Value.int IntKind.i64 0, Value.string X, Value.int IntKind.i64 k] 41))
          clear hb3
          go_wp2_with (at_builtin; refine wpList_append_own _ rfl (.tmp 34) (.tmp 36) 23 rfl w.heap.size 41 i0 _ 3 32 Try.underlying23 hi hz0 hz1 hz2 rfl (by decide) _ _ _ rfl (HOW1.out.alloc _) ⟨_, 0, none⟩ 1 1 [.int .i64 0, .string X, .int .i64 k] rfl rfl (lit3' _ _ _ _ _) (by simp [Value.oneCell']) (by unfold maxLen; omega) (by omega) (by have := Hbb1.out.size; simp at this ⊢; omega) ?_; intro v1 w5 hown1 hgrow1 _; have hk6 := box_far HOW.out Hb3.out hgrow1; have hk4 := below_push Hbb1.out (fun k hk => (HOW1.out.lt k hk).1) hgrow1)
          have HOW3 := Lib.hid hown1
          have Hbb3 := Lib.hid hk4
          clear hown1 hk4 hk6 hgrow1
          go_roundw
          case rel =>
            refine ⟨m, acc ++ [T], f, by omega, by omega, by simp; omega, ?_, Lib.hid (by rw [HT.out, Hm.out]; exact HE2.out), ?_, Hbb3.out⟩
            · show Value.int .i64 ((k : Int) + (X.size : Int)) = .int .i64 (m : Int)
              congr 1
              omega
            · rw [List.length_append, tks_append, tks_one, show tkv T = [.int .i64 0, .string X, .int .i64 k] from by rw [HX.out, HT.out]; rfl]
              exact HOW3.out
          case measure => simp [intOf]; omega
      by_cases c4 : isDig s[k] = true
      · have q1 := runTo_le' isDig s k (by omega)
        have q3 := runTo_gt (p := isDig) hl c4
        by_cases c5 : 1024 < runTo isDig (bl s) k - k
        · have HE2 := Lib.hid ((scan_dig_long f (bl s) k acc hl c4 c5).symm.trans HE.out)
          have HR : Hid (∀ w, Calls Try.prog 28 #[.string (s.extract k s.size), .int .i64 (k : Nat)] w (fun e w' => e = .returned (.tuple #[.agg #[.int .i64 1, .string (bt (((bl s).drop k).take (runTo isDig (bl s) k - k))), .int .i64 (k : Nat)], .int .i64 11]) ∧ Below w.heap.size w w')) := by
            refine Lib.hid fun w => ?_
            have h := rf_dig s k hlt (by omega) w c4
            rw [if_pos c5] at h
            exact h
          generalize bt (((bl s).drop k).take (runTo isDig (bl s) k - k)) = X at *
          clear HE c0
          go_wp2_with fail
          refine (HR.out _).mono ?_
          rintro e w3 ⟨rfl, hb3⟩
          have Hbb1 := Lib.hid ((Hbb.out.trans (hb3.mono Hbb.out.size)).alloc (Nat.le_trans Hbb.out.size hb3.size) (Obj.cells #[Value.int IntKind.i64 1, Value.string X, Value.int IntKind.i64 k] 41))
          clear hb3
          go_wp2
          go_ret3
          exact ⟨none, 0, by rw [← HE2.out]; rfl, by rw [← HE2.out]; exact TkAt.nil _ _, Hbb1.out⟩
        by_cases c6 : s[k] = 48 ∧ 1 < runTo isDig (bl s) k - k
        · have HE2 := Lib.hid ((scan_dig_form f (bl s) k acc hl c6.1 (by omega) c6.2).symm.trans HE.out)
          have HR : Hid (∀ w, Calls Try.prog 28 #[.string (s.extract k s.size), .int .i64 (k : Nat)] w (fun e w' => e = .returned (.tuple #[.agg #[.int .i64 1, .string (bt (((bl s).drop k).take (runTo isDig (bl s) k - k))), .int .i64 (k : Nat)], .int .i64 3]) ∧ Below w.heap.size w w')) := by
            refine Lib.hid fun w => ?_
            have h := rf_dig s k hlt (by omega) w c4
            rw [if_neg c5, if_pos ⟨c6.2, c6.1⟩] at h
            exact h
          generalize bt (((bl s).drop k).take (runTo isDig (bl s) k - k)) = X at *
          clear HE c0 c6
          go_wp2_with fail
          refine (HR.out _).mono ?_
          rintro e w3 ⟨rfl, hb3⟩
          have Hbb1 := Lib.hid ((Hbb.out.trans (hb3.mono Hbb.out.size)).alloc (Nat.le_trans Hbb.out.size hb3.size) (Obj.cells #[Value.int IntKind.i64 1, Value.string X, Value.int IntKind.i64 k] 41))
          clear hb3
          go_wp2
          go_ret3
          exact ⟨none, 0, by rw [← HE2.out]; rfl, by rw [← HE2.out]; exact TkAt.nil _ _, Hbb1.out⟩
        have c7 : s[k] ≠ 48 ∨ runTo isDig (bl s) k - k ≤ 1 := by
          by_cases z : s[k] = 48
          · right; have : ¬ 1 < runTo isDig (bl s) k - k := fun h => c6 ⟨z, h⟩; omega
          · left; exact z
        have HE2 := Lib.hid ((scan_dig f (bl s) k acc hl c4 (by omega) c7).symm.trans HE.out)
        obtain ⟨m, hm⟩ : ∃ m : Nat, m = runTo isDig (bl s) k := ⟨_, rfl⟩
        have Hm := Lib.hid hm
        rw [← hm] at q1 q3
        have hkm : k < m := by omega
        have hms : m ≤ s.size := by omega
        obtain ⟨T, hT⟩ : ∃ T : Tk, T = ⟨1, ((bl s).drop k).take (m - k), k⟩ := ⟨_, rfl⟩
        have HT := Lib.hid hT
        have hTl : T.text.length = m - k := by
          rw [hT]
          have := hms
          simp; omega
        obtain ⟨X, hX⟩ : ∃ X, X = bt T.text := ⟨_, rfl⟩
        have hXs : X.size = m - k := by rw [hX]; show T.text.toArray.size = m - k; simpa using hTl
        have HX := Lib.hid hX
        have HR : Hid (∀ w, Calls Try.prog 28 #[.string (s.extract k s.size), .int .i64 (k : Nat)] w (fun e w' => e = .returned (.tuple #[.agg #[.int .i64 1, .string X, .int .i64 (k : Nat)], .int .i64 0]) ∧ Below w.heap.size w w')) := by
          rw [hX, hT]
          refine Lib.hid fun w => ?_
          have h := rf_dig s k hlt (by omega) w c4
          rw [if_neg c5, if_neg (fun z => c6 ⟨z.2, z.1⟩), ← hm] at h
          exact h
        have hx1 : (X.size : Int) ≤ (m : Int) - k := by omega
        have hx2 : (m : Int) - k ≤ (X.size : Int) := by omega
        have HXs := Lib.hid hXs
        clear hm HE hT hX hXs hTl c0 c5 c6 c7
        go_wp2_with fail
        refine (HR.out _).mono ?_
        rintro e w3 ⟨rfl, hb3⟩
        have HOW1 := Lib.hid (((own_keep HOW.out hb3).alloc (Obj.cells #[Value.int IntKind.i64 1, Value.string X, Value.int IntKind.i64 k] 41)))
        have Hb3 := Lib.hid hb3
        have Hbb1 := Lib.hid ((Hbb.out.trans (hb3.mono Hbb.out.size)).alloc (Nat.le_trans Hbb.out.size hb3.size) (Obj.cells #[Value.int IntKind.i64 1, Value.string X, Value.int IntKind.i64 k] 41))
        clear hb3
        go_wp2_with (at_builtin; refine wpList_append_own _ rfl (.tmp 34) (.tmp 36) 23 rfl w.heap.size 41 i0 _ 3 32 Try.underlying23 hi hz0 hz1 hz2 rfl (by decide) _ _ _ rfl (HOW1.out.alloc _) ⟨_, 0, none⟩ 1 1 [.int .i64 1, .string X, .int .i64 k] rfl rfl (lit3' _ _ _ _ _) (by simp [Value.oneCell']) (by unfold maxLen; omega) (by omega) (by have := Hbb1.out.size; simp at this ⊢; omega) ?_; intro v1 w5 hown1 hgrow1 _; have hk6 := box_far HOW.out Hb3.out hgrow1; have hk4 := below_push Hbb1.out (fun k hk => (HOW1.out.lt k hk).1) hgrow1)
        have HOW3 := Lib.hid hown1
        have Hbb3 := Lib.hid hk4
        clear hown1 hk4 hk6 hgrow1
        go_roundw
        case rel =>
          refine ⟨m, acc ++ [T], f, by omega, by omega, by simp; omega, ?_, Lib.hid (by rw [HT.out, Hm.out]; exact HE2.out), ?_, Hbb3.out⟩
          · show Value.int .i64 ((k : Int) + (X.size : Int)) = .int .i64 (m : Int)
            congr 1
            omega
          · rw [List.length_append, tks_append, tks_one, show tkv T = [.int .i64 1, .string X, .int .i64 k] from by rw [HX.out, HT.out]; rfl]
            exact HOW3.out
        case measure => simp [intOf]; omega
      simp only [Bool.not_eq_true] at c1 c2 c4
      have HE2 := Lib.hid ((scan_bad f (bl s) k acc hl c0 c1 c2 c4).symm.trans HE.out)
      have HR := Lib.hid (fun w => rf_bad s k hlt w c1 c2 c4)
      clear HE c0 c1 c2 c4
      go_wp2_with fail
      refine (HR.out _).mono ?_
      rintro e w3 ⟨rfl, hb3⟩
      have Hbb1 := Lib.hid ((Hbb.out.trans (hb3.mono Hbb.out.size)).alloc (Nat.le_trans Hbb.out.size hb3.size) (Obj.cells #[Value.int IntKind.i64 0, Value.string ⟨#[]⟩, Value.int IntKind.i64 0] 41))
      clear hb3
      go_wp2
      go_ret3
      exact ⟨none, 0, by rw [← HE2.out]; rfl, by rw [← HE2.out]; exact TkAt.nil _ _, Hbb1.out⟩
    · obtain rfl : k = s.size := by omega
      have HE2 := Lib.hid ((scan_end f (bl s) s.size acc (by simp)).symm.trans HE.out)
      clear HE
      go_wp2_with (at_builtin; refine wpList_append_own _ rfl (.tmp 43) (.tmp 46) _ rfl w.heap.size 41 i0 _ 3 32 Try.underlying23 hi hz0 hz1 hz2 rfl (by decide) _ _ _ rfl (HOW.out.alloc _) ⟨_, 0, none⟩ 1 1 [.int .i64 3, .string ⟨#[]⟩, .int .i64 s.size] rfl rfl (lit3 _ _ _ _) (by simp [Value.oneCell']) (by unfold maxLen; omega) (by omega) (by rw [World.size_alloc]; have := Hbb.out.size; omega) ?_; intro v1 w3 hown1 hgrow1 _; have hk4 := below_push Hbb.out (fun k hk => (HOW.out.lt k hk).1) hgrow1)
      have HOW3 : Hid (w3.ownsRow w.heap.size 41 3 v1 (acc ++ [(⟨3, [], s.size⟩ : Tk)]).length (tks (acc ++ [(⟨3, [], s.size⟩ : Tk)]))) := by
        rw [List.length_append, tks_append]
        exact hown1
      have Hbb3 := Lib.hid hk4
      clear hown1 hk4 hgrow1
      obtain ⟨a', c', e1, e2⟩ := TkAt.of_own HOW3.out
      have E1 := Lib.hid e1
      have E2 := Lib.hid e2
      clear e1 e2
      go_wp2
      go_ret3
      refine ⟨a', c', ?_, ?_, Hbb3.out⟩
      · rw [← HE2.out, ← E1.out]; rfl
      · rw [← HE2.out]; exact E2.out
end Go.Proofs.Ytffcahhnaomegaa
