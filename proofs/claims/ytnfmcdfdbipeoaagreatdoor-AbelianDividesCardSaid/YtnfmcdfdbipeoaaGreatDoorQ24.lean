/- Walks of the reference: quotients and remainders of digits. -/
import Derived.Test.YtnfmcdfdbipeoaaGreatDoorQ23
import Derived.Laws.AppendOwnNone
import Derived.OwnWalk
namespace Go.Proofs.YtnfmcdfdbipeoaaGreatDoor
open Go.RowKit Go.Proofs.Num

/-- A slice lies in memory that is not older than a place. -/
def From (b : Nat) (v : Value) : Prop := ∀ k, v.ownBlock = some k → b ≤ k

/-- Hands back a slice of its own that reads as a number. -/
def GivesDgF (w : World) (n : Nat) (e : Ending) (w' : World) : Prop := ∃ v', e = .returned v' ∧ Dg w' v' n ∧ Below w.heap.size w w' ∧ From w.heap.size v'

theorem cut_none (w : World) : Calls Tryz.prog 138 #[.slice none 0 0] w fun e w' => e = .returned (.slice none 0 0) ∧ w = w' := by
  go_enter Tryz.func138, Tryz.ntmps138
  go_wp2
  refine wp_loop_rounds 1 ?_
  rw [rounds_succ]
  go_wp2
  go_ret
  exact ⟨rfl, rfl⟩

/-- cut of a slice of the call's own. -/
theorem cut_own (b : Nat) (v : Value) (l : List Nat) (w : World) (hown : w.ownsRow b 3 1 v l.length (cellsOf .i64 l)) (hl : ∀ x ∈ l, x < 10) (hsm : l.length ≤ 4294967296) :
    Calls Tryz.prog 138 #[v] w fun e w' => ∃ v', e = .returned v' ∧ Dg w v' (val 10 l) ∧ w = w' ∧ From b v' := by
  have hrd := Rd.of_own hown
  rcases hown.2 with ⟨rfl, h0⟩ | ⟨g, cap, cur, rfl, hb, -⟩
  · obtain rfl : l = [] := List.length_eq_zero_iff.1 h0
    refine (cut_none w).mono ?_
    rintro e w' ⟨rfl, rfl⟩
    exact ⟨_, rfl, by rw [val_nil]; unfold Dg; rw [dig_zero]; exact Rd.nil _ _ _ _ _, rfl, fun k hk => by cases hk⟩
  · have hat : RdAt .i64 3 w g 0 cap l := by
      rcases hrd with ⟨h0, a, c, he⟩ | ⟨b', off, cap', he, h⟩
      · subst h0
        obtain ⟨h1, h2⟩ := hown
        rcases h2 with ⟨h2, -⟩ | ⟨g', cap', cur', h2, h3, h4, h5, h6, h7, h8⟩
        · cases h2
        · simp only [Value.slice.injEq, Option.some.injEq, Addr.mk.injEq, and_true, true_and] at h2
          obtain ⟨rfl, rfl⟩ := h2
          exact ⟨Nat.zero_le _, (Array.getElem?_eq_some_iff.1 h4).1, ⟨_, _, h4⟩, fun j hj => by simp at hj⟩
      · simp only [Value.slice.injEq, Option.some.injEq, Addr.mk.injEq, and_true, true_and] at he
        obtain ⟨⟨rfl, rfl⟩, rfl⟩ := he
        exact h
    refine (cut_at g 0 cap l w hat.fits (by omega) hat.cell).mono ?_
    rintro e w' ⟨⟨k, hk, rfl, hv, h0⟩, rfl⟩
    refine ⟨_, rfl, ?_, rfl, fun k hk => by cases hk; exact hb⟩
    have hd := norm_take10 hl hv h0
    have hlen : (l.take k).length = k := by rw [List.length_take]; omega
    unfold Dg
    rw [hd]
    refine .inr ⟨g, 0, cap, by rw [hlen], by have := hat.fits; omega, hat.lt, hat.ty, fun j hj => ?_⟩
    rw [hat.cell j (by omega)]
    unfold nth
    rw [getD_get l j (by omega), getD_get (l.take k) j hj, List.getElem_take]

theorem run_append_none_cap {P : Program} (w : World) (base : Nat) (t ty e : TypeId) (i : TypeInfo) (size : Nat) (ht : P.underlying t = some (.slice e)) (hi : P.info? e = some i)
    (v : Value) (n c : Nat) (xs : List Value) (hown : w.ownsRow base e size v n xs) :
    (Builtin.append_ #[t, t] ty #[v, .slice none 0 c]).run P w = .ok v w := by
  rcases hown.2 with ⟨rfl, rfl⟩ | ⟨g, cap, cur, rfl, _, _, hnc, _⟩
  · simp [Builtin.append_, run_underlying ht, sizeOf, typeInfo, hi, Builtin.lenOf, Builtin.firstCells]
  · simp [Builtin.append_, run_underlying ht, sizeOf, typeInfo, hi, Builtin.lenOf, Builtin.firstCells, hnc, storeCells]

/-- 'append(buf, xs...)' where buf is the call's own and xs reads as a list of numbers, nil or not. -/
theorem wpList_append_rd {P : Program} {w : World} {ops : Array Oper} {rest : List Oper} {o : Oper} {a : Act} {Q : Exit → Act → World → Prop} (hgd : o.guard = none) (s x : Operand) (t : TypeId)
    (ho : o.op = .call { callee := .builtin .append, args := #[s, x], argTypes := #[t, t] })
    (base : Nat) (e : TypeId) (i : TypeInfo) (z : Value) (bytes : Nat) (ht : P.underlying t = some (.slice e)) (hi : P.info? e = some i) (hz : i.zero = some z)
    (hsize : i.size = 1) (hby : i.bytes = bytes) (hzs : z.cells.size = 1)
    (v : Value) (n : Nat) (xs : List Value) (hs : a.eval s = v) (hown : w.ownsRow base e 1 v n xs)
    (q : IntKind) (l : List Nat) (xv : Value) (hx : a.eval x = xv) (hrd : Rd q e w xv l)
    (h63 : n + l.length ≤ maxLen) (hbytes : (n + l.length) * bytes ≤ 140737488355328) (hbase : base ≤ w.heap.size)
    (h : ∀ v' w', w'.ownsRow base e 1 v' (n + l.length) (xs ++ cellsOf q l) → w.grownBy w' v.ownBlock → wpList P ops Q rest (a.put o.dst v') w') : wpList P ops Q (o :: rest) a w := by
  rcases hrd with ⟨rfl, ad, cap, rfl⟩ | ⟨b, off, cap, rfl, hr⟩
  · rcases ad with _ | ad
    · refine wpList_plain hgd fun K hK => ?_
      have hrun := run_append_none_cap (P := P) w base t o.type e i 1 ht hi v n cap xs hown
      unfold Oper.wp
      simp [execOp, ho, resolve, invoke, builtin, hs, hx, hrun, Result.andThen]
      exact hK _ _ (h v w (by simpa [cellsOf] using hown) (World.grownBy.refl _ _))
    · exact wpList_append_own w hgd s x t ho base e i z 1 bytes ht hi hz hsize hby hzs (by omega) v n xs hs hown ad 0 cap [] hx (by simp) (by simp) (by simp) h63 hbytes hbase
        (fun v' w' h1 h2 _ => h v' w' h1 h2)
  · exact wpList_append_own w hgd s x t ho base e i z 1 bytes ht hi hz hsize hby hzs (by omega) v n xs hs hown ⟨b, off, none⟩ l.length cap (cellsOf q l) hx (by rw [cellsOf_length, Nat.mul_one])
      (fun j u hj => by
        have hlt : j < l.length := by have := (List.getElem?_eq_some_iff.1 hj).1; rwa [cellsOf_length] at this
        rw [cellsOf_at q l j hlt] at hj
        cases hj
        have := hr.cell j hlt
        by_cases h0 : j = 0
        · subst h0; simpa [Addr.add] using this
        · simpa [Addr.add, h0] using this)
      (fun u hu => by
        unfold cellsOf at hu
        obtain ⟨y, -, rfl⟩ := List.mem_map.1 hu
        simp [Value.oneCell'])
      h63 hbytes hbase (fun v' w' h1 h2 _ => h v' w' h1 h2)

/-- A reading stays where another block turns. -/
theorem Rd.far {q : IntKind} {T : TypeId} {w w' : World} {v : Value} {l : List Nat} {g : Nat} (h : Rd q T w v l) (hg : w.grownBy w' (some g)) (hne : ∀ k, v.ownBlock = some k → k ≠ g) : Rd q T w' v l := by
  rcases h with h | ⟨b, off, cap, rfl, h⟩
  · exact .inl h
  · have hb : b ≠ g := hne b rfl
    refine .inr ⟨b, off, cap, rfl, h.fits, Nat.lt_of_lt_of_le h.lt hg.size, ?_, fun j hj => ?_⟩
    · obtain ⟨cur, fr, ht⟩ := h.ty
      exact ⟨cur, fr, (hg.block b h.lt (fun e => hb (Option.some.inj e))).trans ht⟩
    · exact hg.cell (h.cell j hj) (fun e => hb (Option.some.inj e))

/-- The state of the loop that divides: the places from j on are done. -/
def QuoI (l o : List Nat) (B j R : Nat) : Prop :=
  o.length = l.length ∧ (∀ x ∈ o, x < 10) ∧ (∀ t, t < j → nth o t = 0) ∧ val 10 (l.drop j) = B * val 10 (o.drop j) + R ∧ R < B

theorem quoI_zero (l : List Nat) (B : Nat) (hB : 0 < B) : QuoI l (List.replicate l.length 0) B l.length 0 :=
  ⟨by simp, fun x hx => by have := List.eq_of_mem_replicate hx; omega, fun t _ => nth_replicate _ t, by
    rw [List.drop_of_length_le (Nat.le_refl _), List.drop_of_length_le (by simp)]; simp [val_nil], hB⟩

/-- Within a round: the digit so far and the rest so far. -/
def QuoJ (l o : List Nat) (B m S : Nat) : Prop :=
  o.length = l.length ∧ m < l.length ∧ (∀ t, t < o.length → t ≠ m → nth o t < 10) ∧ (∀ t, t < m → nth o t = 0) ∧ val 10 (l.drop m) = B * (nth o m + 10 * val 10 (o.drop (m + 1))) + S ∧ nth o m * B + S < 10 * B

theorem val_drop10 (l : List Nat) (m : Nat) (h : m < l.length) : val 10 (l.drop m) = nth l m + 10 * val 10 (l.drop (m + 1)) := by
  rw [List.drop_eq_getElem_cons h, val_cons]
  unfold nth
  rw [getD_get l m h]

theorem quoJ_start {l o : List Nat} {B m R : Nat} (h : QuoI l o B (m + 1) R) (hl : ∀ x ∈ l, x < 10) (hm : m < l.length) : QuoJ l o B m (nth l m + 10 * R) := by
  obtain ⟨h1, h2, h3, h4, h5⟩ := h
  have hx := nth_lt (b := 10) (by omega) l hl m
  refine ⟨h1, hm, fun t _ _ => nth_lt (b := 10) (by omega) o h2 t, fun t ht => h3 t (by omega), ?_, ?_⟩
  · rw [val_drop10 l m hm, h4, h3 m (by omega), Nat.zero_add, Nat.mul_add, Nat.mul_left_comm]; omega
  · rw [h3 m (by omega), Nat.zero_mul]; omega

theorem quoJ_step {l o : List Nat} {B m S : Nat} (h : QuoJ l o B m S) (hS : B ≤ S) : nth o m < 10 ∧ QuoJ l (o.set m (nth o m + 1)) B m (S - B) := by
  obtain ⟨h1, h2, h3, h4, h5, h6⟩ := h
  have hq : nth o m < 10 := by
    apply Classical.byContradiction
    intro hn
    have : 10 * B ≤ nth o m * B := Nat.mul_le_mul_right _ (by omega)
    omega
  have hs : nth (o.set m (nth o m + 1)) m = nth o m + 1 := nth_set_same _ _ _ (by omega)
  refine ⟨hq, by simp [h1], h2, fun t ht ht2 => ?_, fun t ht => ?_, ?_, ?_⟩
  · rw [nth_set_other _ _ _ _ ht2]; exact h3 t (by simpa using ht) ht2
  · rw [nth_set_other _ _ _ _ (by omega)]; exact h4 t ht
  · rw [hs, List.drop_set_of_lt (by omega), h5]
    have : B * (nth o m + 1 + 10 * val 10 (o.drop (m + 1))) = B * (nth o m + 10 * val 10 (o.drop (m + 1))) + B := by
      rw [show nth o m + 1 + 10 * val 10 (o.drop (m + 1)) = (nth o m + 10 * val 10 (o.drop (m + 1))) + 1 by omega, Nat.mul_add, Nat.mul_one]
    omega
  · rw [hs, Nat.add_mul, Nat.one_mul]; omega

theorem quoJ_end {l o : List Nat} {B m S : Nat} (h : QuoJ l o B m S) (hS : S < B) : QuoI l o B m S := by
  obtain ⟨h1, h2, h3, h4, h5, h6⟩ := h
  have hq : nth o m < 10 := by
    apply Classical.byContradiction
    intro hn
    have : 10 * B ≤ nth o m * B := Nat.mul_le_mul_right _ (by omega)
    omega
  refine ⟨h1, fun x hx => ?_, h4, ?_, hS⟩
  · obtain ⟨t, ht, rfl⟩ := List.getElem_of_mem hx
    by_cases e : t = m
    · subst e
      have := hq; unfold nth at this; rwa [getD_get o t ht] at this
    · have := h3 t ht e; unfold nth at this; rwa [getD_get o t ht] at this
  · rw [h5, val_drop10 o m (by omega)]

theorem quoI_end {l o : List Nat} {B R : Nat} (h : QuoI l o B 0 R) : val 10 o = val 10 l / B ∧ R = val 10 l % B := by
  obtain ⟨h1, h2, h3, h4, h5⟩ := h
  rw [List.drop_zero, List.drop_zero] at h4
  rw [h4]
  constructor
  · rw [Nat.mul_add_div (by omega), Nat.div_eq_of_lt h5, Nat.add_zero]
  · rw [Nat.mul_add_mod, Nat.mod_eq_of_lt h5]

theorem cmpN_ge {a b : Nat} (h : b ≤ a) : 0 ≤ cmpN a b := by unfold cmpN; split <;> (try split) <;> omega
theorem cmpN_lt {a b : Nat} (h : a < b) : cmpN a b < 0 := by unfold cmpN; rw [if_pos h]; omega

set_option maxHeartbeats 1600000 in
set_option maxRecDepth 100000 in
/-- taken: as before, and the memory is the call's own. -/
theorem taken_own (a1 a2 : Option Addr) (c1 c2 : Nat) (l m : List Nat) (w : World) (h1 : At .i64 w a1 l) (h2 : At .i64 w a2 m) (hl : ∀ x ∈ l, x < 10) (hm : ∀ x ∈ m, x < 10)
    (hlm : m.length ≤ l.length) (hle : val 10 m ≤ val 10 l) (hsm : l.length ≤ 4294967295) :
    Calls Tryz.prog 104 #[.slice a1 l.length c1, .slice a2 m.length c2] w (GivesDgF w (val 10 l - val 10 m)) := by
  obtain ⟨i0, hi, hz0, hz1, hz2⟩ := info_parts info3
  have HLE := Lib.hid hle
  have HGE := Lib.hid (fun (k r : Nat) (o : List Nat) (h : SubD l m k r o) => subD_ge h hl hm)
  have HLT := Lib.hid (fun (k r : Nat) (o : List Nat) (h : SubD l m k r o) => subD_lt h hl hm)
  have HD := Lib.hid (fun (i : Nat) (w' : World) (h : At .i64 w' a2 m) (hi : i ≤ 4294967296) => digit_at a2 c2 m i w' h (by omega) hi)
  have H1 := Lib.hid h1
  have H2 := Lib.hid h2
  have HX := Lib.hid (fun k => nth_lt (b := 10) (by omega) l hl k)
  have HY := Lib.hid (fun k => nth_lt (b := 10) (by omega) m hm k)
  clear hle h1 h2 hl hm
  go_enter Tryz.func104, Tryz.ntmps104
  go_wp2
  go_loopw [5, 6, 7] (fun out bor i wr => ∃ (k r : Nat) (o : List Nat), k ≤ l.length ∧ i = .int .i64 k ∧ bor = .int .i64 r ∧ wr.ownsRow w.heap.size 3 1 out o.length (cellsOf .i64 o) ∧ SubD l m k r o ∧ Below w.heap.size w wr)
    (fun _ _ i _ => l.length - (intOf i).toNat)
  case atStart => exact ⟨0, 0, [], Nat.zero_le _, rfl, rfl, World.ownsRow_nil _ _ _ _, subD_zero l m, Below.refl _ _⟩
  case round =>
    obtain ⟨k, r, o, hk, rfl, rfl, hown, hI, hB⟩ := hrel
    have hc1 := hI.2.1
    have hol := hI.1
    by_cases hlt : k < l.length
    · obtain ⟨b1, o1, rfl, hb1, hcell1⟩ := H1.out k hlt
      have hcr : wr.cell? ⟨b1, o1 + k, none⟩ = some (.int .i64 ((nth l k : Nat) : Int)) := (hB.cell (p := ⟨b1, o1 + k, none⟩) hb1).trans hcell1
      clear hcell1
      have hx := HX.out k
      have hy := HY.out k
      have HI := Lib.hid hI
      have HK2 := Lib.hid (H2.out.keep hB)
      have hD : ∀ n, Calls Tryz.prog 139 #[.slice a2 m.length c2, .int .i64 ((k : Nat) : Int)] (wr.drewN n) fun e w' => e = .returned (.int .i64 ((nth m k : Nat) : Int)) ∧ w' = wr.drewN n := fun n =>
        (HD.out k (wr.drewN n) (HK2.out.keep ⟨rfl, rfl, rfl, Nat.le_refl _, fun _ _ => rfl⟩) (by omega)).mono fun e w' ⟨he, hw⟩ => ⟨he, hw.symm⟩
      have G := Lib.hid (HGE.out k r o hI)
      have L := Lib.hid (HLT.out k r o hI)
      clear hI
      obtain ⟨p, hp⟩ : ∃ p, p = nth l k := ⟨_, rfl⟩
      obtain ⟨q, hq⟩ : ∃ q, q = nth m k := ⟨_, rfl⟩
      rw [← hp] at hx hcr G L
      rw [← hq] at hy hD G L
      clear hp hq
      have D := Lib.hid hD
      clear hD
      rcases (show q + r ≤ p ∨ p < q + r by omega) with t | t
      · have GG := Lib.hid (G.out t)
        have e0 : ((p - q - r : Nat) : Int) = (p : Int) - q - r := by omega
        have E0 := Lib.hid e0
        clear e0 G L
        have ht : (r : Int) ≤ (p : Int) - q := by omega
        have w1 : IntKind.i64.wrap ((p : Int) - (q : Int)) = (p : Int) - q := IntWalk.i64_in _ (by omega)
        have w2 : IntKind.i64.wrap ((p : Int) - (q : Int) - (r : Int)) = (p : Int) - q - r := IntWalk.i64_in _ (by omega)
        go_wp2
        go_quiet ((go_at_call 139; exact Calls.quiet_of_same (D.out _)))
        clear w1 w2
        have hownq : (wr.drewN nq).ownsRow w.heap.size 3 1 u5 o.length (cellsOf .i64 o) := hown
        have hBq : Below w.heap.size w (wr.drewN nq) := hB.trans ⟨rfl, rfl, rfl, Nat.le_refl _, fun _ _ => rfl⟩
        go_wp2_with (at_builtin; refine wpList_append_own _ rfl _ _ 80 rfl w.heap.size 3 i0 (.int .i64 0) 1 8 Tryz.underlying80 hi hz0 hz1 hz2 rfl (by decide) u5 o.length _ rfl (hownq.alloc _) ⟨wr.heap.size, 0, none⟩ 1 1 [_] rfl rfl (cell_one_new _ _ _) (by simp [Value.oneCell']) (by unfold maxLen; omega) (by omega) (by have := hBq.size; rw [World.size_alloc]; omega) ?_; intro v' w1 hown1 hgrow1 _)
        go_roundw
        case rel =>
          refine ⟨k + 1, _, _, by omega, by go_num, rfl, ?_, GG.out, row_below hBq hownq hgrow1⟩
          rw [List.length_append, cellsOf_append, cellsOf_one, E0.out]
          exact hown1
        case measure => simp [intOf]; omega
      · have LL := Lib.hid (L.out t)
        have e0 : ((p + 10 - q - r : Nat) : Int) = (p : Int) - q - r + 10 := by omega
        have E0 := Lib.hid e0
        clear e0 G L
        have ht : (p : Int) - q < (r : Int) := by omega
        have ht2 : (p : Int) - q - r < 0 := by omega
        have w1 : IntKind.i64.wrap ((p : Int) - (q : Int)) = (p : Int) - q := IntWalk.i64_in _ (by omega)
        have w2 : IntKind.i64.wrap ((p : Int) - (q : Int) - (r : Int)) = (p : Int) - q - r := IntWalk.i64_in _ (by omega)
        go_wp2
        go_quiet ((go_at_call 139; exact Calls.quiet_of_same (D.out _)))
        clear w1 w2
        have hownq : (wr.drewN nq).ownsRow w.heap.size 3 1 u5 o.length (cellsOf .i64 o) := hown
        have hBq : Below w.heap.size w (wr.drewN nq) := hB.trans ⟨rfl, rfl, rfl, Nat.le_refl _, fun _ _ => rfl⟩
        go_wp2_with (at_builtin; refine wpList_append_own _ rfl _ _ 80 rfl w.heap.size 3 i0 (.int .i64 0) 1 8 Tryz.underlying80 hi hz0 hz1 hz2 rfl (by decide) u5 o.length _ rfl (hownq.alloc _) ⟨wr.heap.size, 0, none⟩ 1 1 [_] rfl rfl (cell_one_new _ _ _) (by simp [Value.oneCell']) (by unfold maxLen; omega) (by omega) (by have := hBq.size; rw [World.size_alloc]; omega) ?_; intro v' w1 hown1 hgrow1 _)
        go_roundw
        case rel =>
          refine ⟨k + 1, _, _, by omega, by go_num, rfl, ?_, LL.out, row_below hBq hownq hgrow1⟩
          rw [List.length_append, cellsOf_append, cellsOf_one, E0.out]
          exact hown1
        case measure => simp [intOf]; omega
    · obtain rfl : k = l.length := by omega
      obtain ⟨hv, hlt3⟩ := subD_end hI (by omega) HLE.out
      have HV := Lib.hid hv
      have hol2 : o.length ≤ 4294967296 := by omega
      have HOW := Lib.hid hown
      clear hv hI hown
      go_wp2_with fail
      refine (cut_own _ _ _ _ HOW.out hlt3 hol2).mono ?_
      rintro e w' ⟨v', rfl, hd, rfl, hfr⟩
      obtain ⟨a', k', cap', rfl⟩ := hd.shape
      go_wp2
      go_ret
      exact ⟨_, rfl, by rw [← HV.out]; exact hd, hB, hfr⟩

theorem rtaken_own (v1 v2 : Value) (A B : Nat) (w : World) (h1 : Dg w v1 A) (h2 : Dg w v2 B) (hA : (dig 10 A).length ≤ 4294967295) (hle : B ≤ A) :
    Calls Tryz.prog 104 #[v1, v2] w (GivesDgF w (A - B)) := by
  obtain ⟨a1, c1, rfl, g1⟩ := Rd.at h1
  obtain ⟨a2, c2, rfl, g2⟩ := Rd.at h2
  have := taken_own a1 a2 c1 c2 _ _ w g1 g2 (dig10_lt A) (dig10_lt B) (dig_length_mono (by omega) hle) (by rw [val_dig10, val_dig10]; exact hle) hA
  rwa [val_dig10, val_dig10] at this
end Go.Proofs.YtnfmcdfdbipeoaaGreatDoor
