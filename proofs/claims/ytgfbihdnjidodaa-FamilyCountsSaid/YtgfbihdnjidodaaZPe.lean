/- The reference: ends, by kind. -/
import Derived.Test.YtgfbihdnjidodaaZPb
import Derived.Laws.AppendOwnNone
namespace Go.Proofs.Ytgfbihdnjidodaa
open Go.RowKit Go.Shelf Go.Proofs.Gr
attribute [local go_sem] Oper.semAt_some

theorem run_append_none_cap {P : Program} (w : World) (base : Nat) (t ty e : TypeId) (i : TypeInfo) (size : Nat) (ht : P.underlying t = some (.slice e)) (hi : P.info? e = some i)
    (v : Value) (n c : Nat) (xs : List Value) (hown : w.ownsRow base e size v n xs) :
    (Builtin.append_ #[t, t] ty #[v, .slice none 0 c]).run P w = .ok v w := by
  rcases hown.2 with ⟨rfl, rfl⟩ | ⟨g, cap, cur, rfl, _, _, hnc, _⟩
  · simp [Builtin.append_, run_underlying ht, sizeOf, typeInfo, hi, Builtin.lenOf, Builtin.firstCells]
  · simp [Builtin.append_, run_underlying ht, sizeOf, typeInfo, hi, Builtin.lenOf, Builtin.firstCells, hnc, storeCells]
/-- Pairs that are appended to a list that the call owns, nil or not. -/
theorem wpList_append_ps {P : Program} {w : World} {ops : Array Oper} {rest : List Oper} {o : Oper} {a : Act} {Q : Exit → Act → World → Prop} (hgd : o.guard = none) (s x : Operand) (t : TypeId)
    (ho : o.op = .call { callee := .builtin .append, args := #[s, x], argTypes := #[t, t] })
    (base : Nat) (e : TypeId) (i : TypeInfo) (z : Value) (bytes : Nat) (ht : P.underlying t = some (.slice e)) (hi : P.info? e = some i) (hz : i.zero = some z)
    (hsize : i.size = 2) (hby : i.bytes = bytes) (hzs : z.cells.size = 2)
    (v : Value) (n : Nat) (xs : List Value) (hs : a.eval s = v) (hown : w.ownsRow base e 2 v n xs)
    (ad : Option Addr) (c : Nat) (L : List (Int × Int)) (hx : a.eval x = .slice ad L.length c) (hts : PsAt w ad L)
    (h63 : n + L.length ≤ maxLen) (hbytes : (n + L.length) * bytes ≤ 140737488355328) (hbase : base ≤ w.heap.size)
    (h : ∀ v' w', w'.ownsRow base e 2 v' (n + L.length) (xs ++ flat encP L) → w.grownBy w' v.ownBlock → wpList P ops Q rest (a.put o.dst v') w') : wpList P ops Q (o :: rest) a w := by
  have hone : ∀ u ∈ flat encP L, u.oneCell' = true := fun u hu => by
    unfold flat at hu
    obtain ⟨y, -, hy⟩ := List.mem_flatMap.1 hu
    simp [encP] at hy
    rcases hy with rfl | rfl <;> simp [Value.oneCell']
  rcases ad with _ | ⟨b, off, p⟩
  · rcases L with _ | ⟨y, L'⟩
    · refine wpList_plain hgd fun K hK => ?_
      have hrun := run_append_none_cap (P := P) w base t o.type e i 2 ht hi v n c xs hown
      unfold Oper.wp
      have hx' : a.eval x = .slice none 0 c := hx
      simp [execOp, ho, resolve, invoke, builtin, hs, hx', hrun, Result.andThen]
      exact hK _ _ (h v w (by simpa [flat] using hown) (World.grownBy.refl _ _))
    · obtain ⟨b, off, e, -, -⟩ := hts 0 (by simp)
      cases e
  · rcases L with _ | ⟨y, L'⟩
    · exact wpList_append_own w hgd s x t ho base e i z 2 bytes ht hi hz hsize hby hzs (by omega) v n xs hs hown ⟨b, off, p⟩ 0 c [] hx (by simp) (by simp) (by simp) h63 hbytes hbase
        (fun v' w' h1 h2 _ => h v' w' h1 h2)
    · obtain ⟨b', off', e', -, -⟩ := hts 0 (by simp)
      injection e' with e'
      injection e' with e1 e2 e3
      subst e1 e2 e3
      exact wpList_append_own w hgd s x t ho base e i z 2 bytes ht hi hz hsize hby hzs (by omega) v n xs hs hown ⟨b, off, none⟩ (y :: L').length c (flat encP (y :: L')) hx (by rw [flat_len encP_len])
        (fun j u hj => RowAt.cellsF (by omega) encP_len hts j u hj)
        hone h63 hbytes hbase (fun v' w' h1 h2 _ => h v' w' h1 h2)
/-- The complete graph under way. -/
def compO (n i : Nat) : List (Int × Int) := (List.range i).flatMap fun (a : Nat) => compK a (n - a - 1)
def compW (n i j : Nat) : List (Int × Int) := compO n i ++ compK i j
theorem compW_zero (n i : Nat) : compW n i 0 = compO n i := by simp [compW, compK]
theorem compW_succ (n i j : Nat) : compW n i (j + 1) = compW n i j ++ [((i : Int), (i : Int) + 1 + (j : Int))] := by simp [compW, compK, List.range_succ]
theorem compW_last (n i : Nat) : compW n i (n - i - 1) = compO n (i + 1) := by simp [compW, compO, List.range_succ]
theorem compK_len (i j : Nat) : (compK i j).length = j := by simp [compK]
theorem compO_len (n i : Nat) : (compO n i).length ≤ n * i := by
  induction i with
  | zero => simp [compO]
  | succ i ih =>
    rw [← compW_last, compW, List.length_append, compK_len, Nat.mul_succ]
    omega
theorem banR_succ (i : Nat) : banR (i + 1) = banR i ++ [(0, 1)] := by simp [banR, List.replicate_succ']
theorem banR_len (i : Nat) : (banR i).length = i := by simp [banR]
set_option maxHeartbeats 12800000 in
set_option maxRecDepth 100000 in
theorem rends_0 (a : Option Addr) (cap : Nat) (L : List Int) (hll : L.length = 1) (hr : ∀ j, j < L.length → 1 ≤ iAt L j ∧ iAt L j ≤ 50) (w : World) (h : IsAt w a L) : Calls Try.prog 46 #[.int .i64 0, .slice a L.length cap] w (GivesPO w (endsR 0 L)) := by
  obtain ⟨b0, o0, ea0, q0, x0⟩ := h.one 0 (by omega)
  rw [Nat.add_zero] at x0
  subst ea0
  have hln0 : (0 : Int) < (L.length : Int) := by omega
  have hr0 := hr 0 (by omega)
  have hne : ¬ L = [] := by intro h; rw [h] at hll; simp at hll
  obtain ⟨d, hd⟩ : ∃ d : Nat, iAt L 0 = (d : Int) + 1 := ⟨(iAt L 0 - 1).toNat, by omega⟩
  have htn : (iAt L 0).toNat = d + 1 := by omega
  obtain ⟨z, hz⟩ : ∃ z, z = iAt L 0 := ⟨_, rfl⟩
  have hzd : z = (d : Int) + 1 := by rw [hz, hd]
  rw [← hz] at x0 hr0
  have HE : Hid (endsR 0 L = lineR 0 d) := Lib.hid (by show lineR 0 ((iAt L 0).toNat - 1) = lineR 0 d; rw [htn, Nat.add_sub_cancel])
  generalize endsR 0 L = EE at *
  unfold GivesPO
  have HC : Hid (∀ w, Calls Try.prog 73 #[.int .i64 0, .int .i64 (z - 1)] w (GivesPO w (lineR 0 d))) := Lib.hid (fun w => rline_any 0 (z - 1) d (by omega) (by omega) (by omega) w)
  generalize lineR 0 d = PP at *
  clear h hr hll hd htn hz hzd
  unfold GivesPO at HC
  go_enter Try.func46, Try.ntmps46
  go_wp2_with fail
  refine (HC.out _).mono ?_
  rintro e wr ⟨s, rfl, hown, hbw⟩
  have HOW := Lib.hid hown
  have HBR := Lib.hid hbw
  clear hown hbw
  go_wp2
  go_ret
  exact ⟨_, rfl, by rw [HE.out]; exact HOW.out, HBR.out⟩
set_option maxHeartbeats 12800000 in
set_option maxRecDepth 100000 in
theorem rends_1 (a : Option Addr) (cap : Nat) (L : List Int) (hll : L.length = 1) (hr : ∀ j, j < L.length → 1 ≤ iAt L j ∧ iAt L j ≤ 50) (w : World) (h : IsAt w a L) : Calls Try.prog 46 #[.int .i64 1, .slice a L.length cap] w (GivesPO w (endsR 1 L)) := by
  obtain ⟨i0, hi0, hz0, hz1, hz2⟩ := info_parts infoP
  obtain ⟨b0, o0, ea0, q0, x0⟩ := h.one 0 (by omega)
  rw [Nat.add_zero] at x0
  subst ea0
  have hln0 : (0 : Int) < (L.length : Int) := by omega
  have hr0 := hr 0 (by omega)
  have hne : ¬ L = [] := by intro h; rw [h] at hll; simp at hll
  obtain ⟨d, hd⟩ : ∃ d : Nat, iAt L 0 = (d : Int) + 1 := ⟨(iAt L 0 - 1).toNat, by omega⟩
  have htn : (iAt L 0).toNat = d + 1 := by omega
  obtain ⟨z, hz⟩ : ∃ z, z = iAt L 0 := ⟨_, rfl⟩
  have hzd : z = (d : Int) + 1 := by rw [hz, hd]
  rw [← hz] at x0 hr0
  have HE : Hid (endsR 1 L = lineR 0 d ++ [(z - 1, 0)]) := Lib.hid (by show lineR 0 ((iAt L 0).toNat - 1) ++ [((((iAt L 0).toNat : Nat) : Int) - 1, 0)] = lineR 0 d ++ [(z - 1, 0)]; rw [htn, Nat.add_sub_cancel, hzd]; simp)
  generalize endsR 1 L = EE at *
  unfold GivesPO
  have HC : Hid (∀ w, Calls Try.prog 73 #[.int .i64 0, .int .i64 (z - 1)] w (GivesPO w (lineR 0 d))) := Lib.hid (fun w => rline_any 0 (z - 1) d (by omega) (by omega) (by omega) w)
  have hql : (lineR 0 d).length ≤ 100 := by rw [lineR_len]; omega
  generalize lineR 0 d = PP at *
  clear h hr hll hd htn hz hzd
  unfold GivesPO at HC
  go_enter Try.func46, Try.ntmps46
  go_wp2_with fail
  refine (HC.out _).mono ?_
  rintro e wr ⟨s, rfl, hown, hbw⟩
  have HOW := Lib.hid hown
  have HBR := Lib.hid hbw
  clear hown hbw
  go_wp2_with (at_builtin; refine wpList_append_own _ rfl _ _ 54 rfl w.heap.size 56 i0 (.agg #[.int .i64 0, .int .i64 0]) 2 16 Try.underlying54 hi0 hz0 hz1 hz2 rfl (by decide) _ _ _ rfl (HOW.out.alloc _) ⟨wr.heap.size, 0, none⟩ 1 1 [.int .i64 (z - 1), .int .i64 0] rfl rfl (lit_row _ _ _) (by simp [Value.oneCell']) (by unfold maxLen; omega) (by omega) (by rw [World.size_alloc]; have := HBR.out.size; omega) ?_; intro v1 w3 hown1 hgrow1 hnil; clear hnil; have HO3 : Hid (w3.ownsRow w.heap.size 56 2 v1 (PP ++ [((z - 1), 0)]).length (flat encP (PP ++ [((z - 1), 0)]))) := Lib.hid (by rw [List.length_append, flatP_snoc]; exact hown1); have HB3 : Hid (Below w.heap.size w w3) := Lib.hid (below_push (w := w) HBR.out (fun k hk => (HOW.out.lt k hk).1) hgrow1); clear hown1 hgrow1)
  go_ret
  exact ⟨_, rfl, by rw [HE.out]; exact HO3.out, HB3.out⟩
set_option maxHeartbeats 12800000 in
set_option maxRecDepth 100000 in
theorem rends_2 (a : Option Addr) (cap : Nat) (L : List Int) (hll : L.length = 1) (hr : ∀ j, j < L.length → 1 ≤ iAt L j ∧ iAt L j ≤ 50) (w : World) (h : IsAt w a L) : Calls Try.prog 46 #[.int .i64 2, .slice a L.length cap] w (GivesPO w (endsR 2 L)) := by
  obtain ⟨b0, o0, ea0, q0, x0⟩ := h.one 0 (by omega)
  rw [Nat.add_zero] at x0
  subst ea0
  have hln0 : (0 : Int) < (L.length : Int) := by omega
  have hr0 := hr 0 (by omega)
  have hne : ¬ L = [] := by intro h; rw [h] at hll; simp at hll
  obtain ⟨d, hd⟩ : ∃ d : Nat, iAt L 0 = (d : Int) := ⟨(iAt L 0).toNat, by omega⟩
  have htn : (iAt L 0).toNat = d := by omega
  rw [hd] at x0 hr0
  have HE : Hid (endsR 2 L = crossR 1 d) := Lib.hid (by show crossR 1 (iAt L 0).toNat = crossR 1 d; rw [htn])
  generalize endsR 2 L = EE at *
  unfold GivesPO
  have HC : Hid (∀ w, Calls Try.prog 74 #[.int .i64 1, .int .i64 (d : Nat)] w (GivesPO w (crossR 1 d))) := Lib.hid (fun w => rcrossed_any 1 d (by omega) (by omega) w)
  clear h hr hll hd htn
  unfold GivesPO at HC
  go_enter Try.func46, Try.ntmps46
  go_wp2_with fail
  refine (HC.out _).mono ?_
  rintro e wr ⟨s, rfl, hown, hbw⟩
  have HOW := Lib.hid hown
  have HBR := Lib.hid hbw
  clear hown hbw
  go_wp2
  go_ret
  exact ⟨_, rfl, by rw [HE.out]; exact HOW.out, HBR.out⟩
set_option maxHeartbeats 12800000 in
set_option maxRecDepth 100000 in
theorem rends_3 (a : Option Addr) (cap : Nat) (L : List Int) (hll : L.length = 1) (hr : ∀ j, j < L.length → 1 ≤ iAt L j ∧ iAt L j ≤ 50) (w : World) (h : IsAt w a L) : Calls Try.prog 46 #[.int .i64 3, .slice a L.length cap] w (GivesPO w (endsR 3 L)) := by
  obtain ⟨i0, hi0, hz0, hz1, hz2⟩ := info_parts infoP
  obtain ⟨b0, o0, ea0, q0, x0⟩ := h.one 0 (by omega)
  rw [Nat.add_zero] at x0
  subst ea0
  have hln0 : (0 : Int) < (L.length : Int) := by omega
  have hr0 := hr 0 (by omega)
  have hne : ¬ L = [] := by intro h; rw [h] at hll; simp at hll
  obtain ⟨d, hd⟩ : ∃ d : Nat, iAt L 0 = (d : Int) := ⟨(iAt L 0).toNat, by omega⟩
  have htn : (iAt L 0).toNat = d := by omega
  rw [hd] at x0 hr0
  have HE : Hid (endsR 3 L = compRR d) := Lib.hid (by show compRR (iAt L 0).toNat = compRR d; rw [htn])
  generalize endsR 3 L = EE at *
  unfold GivesPO
  have hd50 : d ≤ 50 := by omega
  have HI : Hid (b0 < w.heap.size ∧ w.cell? ⟨b0, o0, none⟩ = some (.int .i64 (d : Nat))) := Lib.hid ⟨q0, x0⟩
  have HO0 : Hid (compO d 0 = []) := Lib.hid rfl
  have HX0 := Lib.hid (compW_zero d)
  have HXS := Lib.hid (compW_succ d)
  have HXL := Lib.hid (compW_last d)
  have HLL : Hid (∀ i j, i < d → j ≤ d → (compW d i j).length ≤ 10000) := Lib.hid (fun i j hi hj => by
    unfold compW
    have h1 := compO_len d i
    have h2 := Nat.mul_le_mul hd50 (show i ≤ 50 by omega)
    rw [List.length_append, compK_len]
    omega)
  have HE2 : Hid (EE = compO d d) := Lib.hid (by rw [HE.out]; rfl)
  clear HE
  generalize compO d = O at *
  generalize compW d = X at *
  clear h hr hll hd htn
  go_enter Try.func46, Try.ntmps46
  go_wp2
  go_loopw [8, 9] (fun s x wr => ∃ i : Nat, i ≤ d ∧ x = .int .i64 i ∧ wr.ownsRow w.heap.size 56 2 s (O i).length (flat encP (O i)) ∧ Below w.heap.size w wr) (fun _ x _ => d - (intOf x).toNat)
  case atStart => exact ⟨0, by omega, rfl, by rw [HO0.out]; exact World.ownsRow_nil _ _ _ _, Below.refl _ _⟩
  case round =>
    obtain ⟨i, hi, rfl, hown, hbw⟩ := hrel
    by_cases hlt : i < d
    · have i1 : (i : Int) < (d : Int) := by omega
      have HOW0 := Lib.hid hown
      have HBR0 := Lib.hid hbw
      clear hown hbw
      go_wp2
      go_loopw [8, 10] (fun s y wr => ∃ j : Nat, j ≤ d - i - 1 ∧ y = .int .i64 ((i : Int) + 1 + (j : Int)) ∧ wr.ownsRow w.heap.size 56 2 s (X i j).length (flat encP (X i j)) ∧ Below w.heap.size w wr) (fun _ y _ => d - (intOf y).toNat)
      case atStart => exact ⟨0, by omega, by simp, by rw [HX0.out]; exact HOW0.out, HBR0.out⟩
      case round =>
        obtain ⟨j, hj, rfl, hown, hbw⟩ := hrel
        have HOW := Lib.hid hown
        have HBR := Lib.hid hbw
        by_cases hjl : j < d - i - 1
        · have j1 : (i : Int) + 1 + (j : Int) < (d : Int) := by omega
          have hll := HLL.out i j hlt (by omega)
          have HSn := Lib.hid (HXS.out i j)
          generalize X i j = PP at *
          clear hown hbw
          obtain ⟨y, hy⟩ : ∃ y, y = (i : Int) + 1 + (j : Int) := ⟨_, rfl⟩
          rw [← hy] at HSn j1
          have HY := Lib.hid hy
          have hyr : 0 ≤ y ∧ y ≤ 1000 := by omega
          rw [← hy]
          clear hy
          go_wp2_with (at_builtin; refine wpList_append_own _ rfl _ _ 54 rfl w.heap.size 56 i0 (.agg #[.int .i64 0, .int .i64 0]) 2 16 Try.underlying54 hi0 hz0 hz1 hz2 rfl (by decide) _ _ _ rfl (HOW.out.alloc _) ⟨wr.heap.size, 0, none⟩ 1 1 [.int .i64 (i : Int), .int .i64 y] rfl rfl (lit_row _ _ _) (by simp [Value.oneCell']) (by unfold maxLen; omega) (by omega) (by rw [World.size_alloc]; have := HBR.out.size; omega) ?_; intro v1 w3 hown1 hgrow1 hnil; clear hnil; have HO3 : Hid (w3.ownsRow w.heap.size 56 2 v1 (PP ++ [((i : Int), y)]).length (flat encP (PP ++ [((i : Int), y)]))) := Lib.hid (by rw [List.length_append, flatP_snoc]; exact hown1); have HB3 : Hid (Below w.heap.size w w3) := Lib.hid (below_push (w := w) HBR.out (fun k hk => (HOW.out.lt k hk).1) hgrow1); clear hown1 hgrow1)
          go_roundw
          case rel => exact ⟨j + 1, by omega, by rw [HY.out]; go_num, by rw [HSn.out]; exact HO3.out, HB3.out⟩
          case measure => simp [intOf]; have := HY.out; omega
        · have hjj : j = d - i - 1 := by omega
          have j1 : ¬ (i : Int) + 1 + (j : Int) < (d : Int) := by omega
          have HOW4 := Lib.hid (by rw [hjj, HXL.out] at hown; exact hown : wr.ownsRow w.heap.size 56 2 _ (O (i + 1)).length (flat encP (O (i + 1))))
          clear hown hbw hjj
          go_wp2
          go_roundw
          case rel => exact ⟨i + 1, by omega, by go_num, HOW4.out, HBR.out⟩
          case measure => simp [intOf]; omega
    · obtain rfl : i = d := by omega
      have i1 : ¬ (i : Int) < (i : Int) := by omega
      have HOW4 := Lib.hid (by rw [← HE2.out] at hown; exact hown : wr.ownsRow w.heap.size 56 2 _ EE.length (flat encP EE))
      have HBR := Lib.hid hbw
      clear hown hbw
      go_wp2
      go_ret
      exact ⟨_, rfl, HOW4.out, HBR.out⟩
set_option maxHeartbeats 12800000 in
set_option maxRecDepth 100000 in
theorem rends_4 (a : Option Addr) (cap : Nat) (L : List Int) (hll : L.length = 1) (hr : ∀ j, j < L.length → 1 ≤ iAt L j ∧ iAt L j ≤ 50) (w : World) (h : IsAt w a L) : Calls Try.prog 46 #[.int .i64 4, .slice a L.length cap] w (GivesPO w (endsR 4 L)) := by
  obtain ⟨i0, hi0, hz0, hz1, hz2⟩ := info_parts infoP
  obtain ⟨b0, o0, ea0, q0, x0⟩ := h.one 0 (by omega)
  rw [Nat.add_zero] at x0
  subst ea0
  have hln0 : (0 : Int) < (L.length : Int) := by omega
  have hr0 := hr 0 (by omega)
  have hne : ¬ L = [] := by intro h; rw [h] at hll; simp at hll
  obtain ⟨d, hd⟩ : ∃ d : Nat, iAt L 0 = (d : Int) := ⟨(iAt L 0).toNat, by omega⟩
  have htn : (iAt L 0).toNat = d := by omega
  rw [hd] at x0 hr0
  have HE : Hid (endsR 4 L = banR d) := Lib.hid (by show banR (iAt L 0).toNat = banR d; rw [htn])
  generalize endsR 4 L = EE at *
  unfold GivesPO
  have hd50 : d ≤ 50 := by omega
  have HB0 : Hid (banR 0 = []) := Lib.hid rfl
  have HBS := Lib.hid banR_succ
  have HBL := Lib.hid banR_len
  generalize banR = BR at *
  obtain ⟨W, hW⟩ : ∃ W, W = w.alloc (Obj.cells #[] 56) := ⟨_, rfl⟩
  have HBW : Hid (Below w.heap.size w W) := Lib.hid (by rw [hW]; exact (Below.refl _ w).alloc (Nat.le_refl _) _)
  have HON : Hid (W.ownsRow w.heap.size 56 2 (.slice (some ⟨w.heap.size, 0, none⟩) 0 0) 0 []) := Lib.hid (by rw [hW]; exact World.ownsRow_made w #[] 0 (Nat.le_refl _) (by unfold maxLen; omega) (by simp))
  have HW := Lib.hid hW
  clear hW
  clear h hr hll hd htn
  go_enter Try.func46, Try.ntmps46
  go_wp2
  rw [← HW.out]
  go_loopw [6, 7] (fun s x wr => ∃ i : Nat, i ≤ d ∧ x = .int .i64 i ∧ wr.ownsRow w.heap.size 56 2 s (BR i).length (flat encP (BR i)) ∧ Below w.heap.size w wr) (fun _ x _ => d - (intOf x).toNat)
  case atStart => exact ⟨0, by omega, rfl, by rw [HB0.out]; exact HON.out, HBW.out⟩
  case round =>
    obtain ⟨i, hi, rfl, hown, hbw⟩ := hrel
    have HOW := Lib.hid hown
    have HBR := Lib.hid hbw
    by_cases hlt : i < d
    · have i1 : (i : Int) < (d : Int) := by omega
      have hll := HBL.out i
      have HSn := Lib.hid (HBS.out i)
      generalize BR i = PP at *
      clear hown hbw
      go_wp2_with (at_builtin; refine wpList_append_own _ rfl _ _ 54 rfl w.heap.size 56 i0 (.agg #[.int .i64 0, .int .i64 0]) 2 16 Try.underlying54 hi0 hz0 hz1 hz2 rfl (by decide) _ _ _ rfl (HOW.out.alloc _) ⟨wr.heap.size, 0, none⟩ 1 1 [.int .i64 0, .int .i64 1] rfl rfl (lit_row _ _ _) (by simp [Value.oneCell']) (by unfold maxLen; omega) (by omega) (by rw [World.size_alloc]; have := HBR.out.size; omega) ?_; intro v1 w3 hown1 hgrow1 hnil; clear hnil; have HO3 : Hid (w3.ownsRow w.heap.size 56 2 v1 (PP ++ [(0, 1)]).length (flat encP (PP ++ [(0, 1)]))) := Lib.hid (by rw [List.length_append, flatP_snoc]; exact hown1); have HB3 : Hid (Below w.heap.size w w3) := Lib.hid (below_push (w := w) HBR.out (fun k hk => (HOW.out.lt k hk).1) hgrow1); clear hown1 hgrow1)
      go_roundw
      case rel => exact ⟨i + 1, by omega, by go_num, by rw [HSn.out]; exact HO3.out, HB3.out⟩
      case measure => simp [intOf]; omega
    · obtain rfl : i = d := by omega
      have i1 : ¬ (i : Int) < (i : Int) := by omega
      clear hown hbw
      go_wp2
      go_ret
      exact ⟨_, rfl, by rw [HE.out]; exact HOW.out, HBR.out⟩
set_option maxHeartbeats 12800000 in
set_option maxRecDepth 100000 in
theorem rends_5 (a : Option Addr) (cap : Nat) (L : List Int) (hll : L.length = 1) (hr : ∀ j, j < L.length → 1 ≤ iAt L j ∧ iAt L j ≤ 50) (w : World) (h : IsAt w a L) : Calls Try.prog 46 #[.int .i64 5, .slice a L.length cap] w (GivesPO w (endsR 5 L)) := by
  obtain ⟨i0, hi0, hz0, hz1, hz2⟩ := info_parts infoP
  obtain ⟨b0, o0, ea0, q0, x0⟩ := h.one 0 (by omega)
  rw [Nat.add_zero] at x0
  subst ea0
  have hln0 : (0 : Int) < (L.length : Int) := by omega
  have hr0 := hr 0 (by omega)
  have hne : ¬ L = [] := by intro h; rw [h] at hll; simp at hll
  obtain ⟨d, hd⟩ : ∃ d : Nat, iAt L 0 = (d : Int) + 1 := ⟨(iAt L 0 - 1).toNat, by omega⟩
  have htn : (iAt L 0).toNat = d + 1 := by omega
  obtain ⟨z, hz⟩ : ∃ z, z = iAt L 0 := ⟨_, rfl⟩
  have hzd : z = (d : Int) + 1 := by rw [hz, hd]
  rw [← hz] at x0 hr0
  have HE : Hid (endsR 5 L = crossR 1 (d + 1) ++ lineR 1 d ++ [(z, 1)]) := Lib.hid (by show crossR 1 (iAt L 0).toNat ++ lineR 1 ((iAt L 0).toNat - 1) ++ [((((iAt L 0).toNat : Nat) : Int), 1)] = crossR 1 (d + 1) ++ lineR 1 d ++ [(z, 1)]; rw [htn, Nat.add_sub_cancel, hzd]; simp)
  generalize endsR 5 L = EE at *
  unfold GivesPO
  have HC : Hid (∀ w, Calls Try.prog 74 #[.int .i64 1, .int .i64 z] w (GivesPO w (crossR 1 (d + 1)))) := Lib.hid (fun w => by rw [hzd]; exact rcrossed_any 1 (d + 1) (by omega) (by omega) w)
  have HD : Hid (∀ w, Calls Try.prog 73 #[.int .i64 1, .int .i64 z] w (GivesPO w (lineR 1 d))) := Lib.hid (fun w => rline_any 1 z d (by omega) (by omega) (by omega) w)
  have hq1 : (crossR 1 (d + 1)).length ≤ 100 := by
    have e : crossR 1 (d + 1) = crossK 0 1 (d + 1) := by simp [crossR]
    rw [e, crossK_len]; omega
  have hq2 : (lineR 1 d).length ≤ 100 := by rw [lineR_len]; omega
  generalize crossR 1 (d + 1) = P1 at *
  generalize lineR 1 d = P2 at *
  clear h hr hll hd htn hz hzd
  unfold GivesPO at HC HD
  go_enter Try.func46, Try.ntmps46
  go_wp2_with fail
  refine (HC.out _).mono ?_
  rintro e w1 ⟨s1, rfl, hown1, hbw1⟩
  have HO1 := Lib.hid hown1
  have HB1 := Lib.hid hbw1
  clear hown1 hbw1
  go_wp2_with fail
  refine (HD.out _).mono ?_
  rintro e w2 ⟨s2, rfl, hown2, hbw2⟩
  have HO12 := Lib.hid (own_keep HO1.out hbw2)
  have HB2 := Lib.hid (HB1.out.trans (hbw2.mono HB1.out.size))
  obtain ⟨sa, sc, rfl, hps⟩ := RowAt.of_own encP_len hown2
  have HPS := Lib.hid hps
  clear hown2 hbw2 hps
  go_wp2_with (first | (at_builtin; refine wpList_append_ps rfl _ _ 54 rfl w.heap.size 56 i0 (.agg #[.int .i64 0, .int .i64 0]) 16 Try.underlying54 hi0 hz0 hz1 hz2 rfl _ _ _ rfl HO12.out sa sc P2 rfl HPS.out (by unfold maxLen; omega) (by omega) HB2.out.size ?_; intro v1 wr hown1 hgrow1; have HOW : Hid (wr.ownsRow w.heap.size 56 2 v1 (P1 ++ P2).length (flat encP (P1 ++ P2))) := Lib.hid (by rw [List.length_append, flat_append]; exact hown1); have HBR : Hid (Below w.heap.size w wr) := Lib.hid (HB2.out.grown hgrow1 HB2.out.size (fun k hk => (HO12.out.lt k hk).1)); clear hown1 hgrow1; have hll3 : (P1 ++ P2).length ≤ 200 := (by rw [List.length_append]; omega); generalize P1 ++ P2 = PP at *) | (at_builtin; refine wpList_append_own _ rfl _ _ 54 rfl w.heap.size 56 i0 (.agg #[.int .i64 0, .int .i64 0]) 2 16 Try.underlying54 hi0 hz0 hz1 hz2 rfl (by decide) _ _ _ rfl (HOW.out.alloc _) ⟨wr.heap.size, 0, none⟩ 1 1 [.int .i64 z, .int .i64 1] rfl rfl (lit_row _ _ _) (by simp [Value.oneCell']) (by unfold maxLen; omega) (by omega) (by rw [World.size_alloc]; have := HBR.out.size; omega) ?_; intro v1 w3 hown1 hgrow1 hnil; clear hnil; have HO3 : Hid (w3.ownsRow w.heap.size 56 2 v1 (PP ++ [(z, 1)]).length (flat encP (PP ++ [(z, 1)]))) := Lib.hid (by rw [List.length_append, flatP_snoc]; exact hown1); have HB3 : Hid (Below w.heap.size w w3) := Lib.hid (below_push (w := w) HBR.out (fun k hk => (HOW.out.lt k hk).1) hgrow1); clear hown1 hgrow1))
  go_ret
  exact ⟨_, rfl, by rw [HE.out]; exact HO3.out, HB3.out⟩
set_option maxHeartbeats 12800000 in
set_option maxRecDepth 100000 in
theorem rends_6 (a : Option Addr) (cap : Nat) (L : List Int) (hll : L.length = 2) (hr : ∀ j, j < L.length → 1 ≤ iAt L j ∧ iAt L j ≤ 50) (w : World) (h : IsAt w a L) : Calls Try.prog 46 #[.int .i64 6, .slice a L.length cap] w (GivesPO w (endsR 6 L)) := by
  obtain ⟨b0, o0, ea0, q0, x0⟩ := h.one 0 (by omega)
  rw [Nat.add_zero] at x0
  subst ea0
  obtain ⟨b1, o1, ea1, q1, x1⟩ := h.one 1 (by omega)
  injection ea1 with ea1
  injection ea1 with ea1 eb1
  subst ea1 eb1
  have hln0 : (0 : Int) < (L.length : Int) := by omega
  have hr0 := hr 0 (by omega)
  have hln1 : (1 : Int) < (L.length : Int) := by omega
  have hr1 := hr 1 (by omega)
  have hne : ¬ L = [] := by intro h; rw [h] at hll; simp at hll
  obtain ⟨d, hd⟩ : ∃ d : Nat, iAt L 0 = (d : Int) := ⟨(iAt L 0).toNat, by omega⟩
  obtain ⟨d1, hd1⟩ : ∃ d : Nat, iAt L 1 = (d : Int) := ⟨(iAt L 1).toNat, by omega⟩
  have htn : (iAt L 0).toNat = d := by omega
  have htn1 : (iAt L 1).toNat = d1 := by omega
  rw [hd] at x0 hr0
  rw [hd1] at x1 hr1
  have HE : Hid (endsR 6 L = crossR d d1) := Lib.hid (by show crossR (iAt L 0).toNat (iAt L 1).toNat = crossR d d1; rw [htn, htn1])
  generalize endsR 6 L = EE at *
  unfold GivesPO
  have HC : Hid (∀ w, Calls Try.prog 74 #[.int .i64 (d : Nat), .int .i64 (d1 : Nat)] w (GivesPO w (crossR d d1))) := Lib.hid (fun w => rcrossed_any d d1 (by omega) (by omega) w)
  clear h hr hll hd htn hd1 htn1
  unfold GivesPO at HC
  go_enter Try.func46, Try.ntmps46
  go_wp2_with fail
  refine (HC.out _).mono ?_
  rintro e wr ⟨s, rfl, hown, hbw⟩
  have HOW := Lib.hid hown
  have HBR := Lib.hid hbw
  clear hown hbw
  go_wp2
  go_ret
  exact ⟨_, rfl, by rw [HE.out]; exact HOW.out, HBR.out⟩
set_option maxHeartbeats 12800000 in
set_option maxRecDepth 100000 in
theorem rends_7 (a : Option Addr) (cap : Nat) (L : List Int) (hll : L.length = 2) (hr : ∀ j, j < L.length → 1 ≤ iAt L j ∧ iAt L j ≤ 50) (w : World) (h : IsAt w a L) : Calls Try.prog 46 #[.int .i64 7, .slice a L.length cap] w (GivesPO w (endsR 7 L)) := by
  obtain ⟨b0, o0, ea0, q0, x0⟩ := h.one 0 (by omega)
  rw [Nat.add_zero] at x0
  subst ea0
  obtain ⟨b1, o1, ea1, q1, x1⟩ := h.one 1 (by omega)
  injection ea1 with ea1
  injection ea1 with ea1 eb1
  subst ea1 eb1
  have hln0 : (0 : Int) < (L.length : Int) := by omega
  have hr0 := hr 0 (by omega)
  have hln1 : (1 : Int) < (L.length : Int) := by omega
  have hr1 := hr 1 (by omega)
  have hne : ¬ L = [] := by intro h; rw [h] at hll; simp at hll
  obtain ⟨d, hd⟩ : ∃ d : Nat, iAt L 0 = (d : Int) := ⟨(iAt L 0).toNat, by omega⟩
  obtain ⟨d1, hd1⟩ : ∃ d : Nat, iAt L 1 = (d : Int) := ⟨(iAt L 1).toNat, by omega⟩
  have htn : (iAt L 0).toNat = d := by omega
  have htn1 : (iAt L 1).toNat = d1 := by omega
  rw [hd] at x0 hr0
  rw [hd1] at x1 hr1
  have HE : Hid (endsR 7 L = gridR d d1) := Lib.hid (by show gridR (iAt L 0).toNat (iAt L 1).toNat = gridR d d1; rw [htn, htn1])
  generalize endsR 7 L = EE at *
  unfold GivesPO
  have HC : Hid (∀ w, Calls Try.prog 75 #[.int .i64 (d : Nat), .int .i64 (d1 : Nat)] w (GivesPO w (gridR d d1))) := Lib.hid (fun w => rgrid_any d d1 (by omega) (by omega) w)
  clear h hr hll hd htn hd1 htn1
  unfold GivesPO at HC
  go_enter Try.func46, Try.ntmps46
  go_wp2_with fail
  refine (HC.out _).mono ?_
  rintro e wr ⟨s, rfl, hown, hbw⟩
  have HOW := Lib.hid hown
  have HBR := Lib.hid hbw
  clear hown hbw
  go_wp2
  go_ret
  exact ⟨_, rfl, by rw [HE.out]; exact HOW.out, HBR.out⟩
set_option maxHeartbeats 12800000 in
set_option maxRecDepth 100000 in
theorem rends_8 (a : Option Addr) (cap : Nat) (L : List Int) (hll : L.length = 3) (hr : ∀ j, j < L.length → 1 ≤ iAt L j ∧ iAt L j ≤ 50) (w : World) (h : IsAt w a L) : Calls Try.prog 46 #[.int .i64 8, .slice a L.length cap] w (GivesPO w (endsR 8 L)) := by
  obtain ⟨b0, o0, ea0, q0, x0⟩ := h.one 0 (by omega)
  rw [Nat.add_zero] at x0
  subst ea0
  have hln0 : (0 : Int) < (L.length : Int) := by omega
  have hr0 := hr 0 (by omega)
  have HC := Lib.hid (rtheta_any _ cap L hll hr w h)
  have hne : ¬ L = [] := by intro h; rw [h] at hll; simp at hll
  have HE : Hid (endsR 8 L = thR L 3) := Lib.hid (by show thR L 3 = thR L 3; rfl)
  generalize endsR 8 L = EE at *
  unfold GivesPO
  unfold GivesPO at HC
  generalize thR L 3 = TT at *
  clear h hr hll
  go_enter Try.func46, Try.ntmps46
  go_wp2_with fail
  refine HC.out.mono ?_
  rintro e wr ⟨s, rfl, hown, hbw⟩
  have HOW := Lib.hid hown
  have HBR := Lib.hid hbw
  clear hown hbw
  go_wp2
  go_ret
  exact ⟨_, rfl, by rw [HE.out]; exact HOW.out, HBR.out⟩
end Go.Proofs.Ytgfbihdnjidodaa
