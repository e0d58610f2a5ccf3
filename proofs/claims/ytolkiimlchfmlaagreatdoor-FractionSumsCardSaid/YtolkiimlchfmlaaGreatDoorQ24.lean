/- Walks of the reference: quotients and remainders of digits. And: Walks of the reference: divided. -/
import Derived.Test.YtolkiimlchfmlaaGreatDoorQ23
import Derived.Laws.AppendOwnNone
import Derived.OwnWalk
import Derived.Deep.LoopGhost
namespace Go.Proofs.YtolkiimlchfmlaaGreatDoor
open Go.RowKit Go.Proofs.Num

/-- A slice lies in memory that is not older than a place. -/
def From (b : Nat) (v : Value) : Prop := ∀ k, v.ownBlock = some k → b ≤ k

/-- Hands back a slice of its own that reads as a number. -/
def GivesDgF (w : World) (n : Nat) (e : Ending) (w' : World) : Prop := ∃ v', e = .returned v' ∧ Dg w' v' n ∧ Below w.heap.size w w' ∧ From w.heap.size v'

theorem cut_none (w : World) : Calls Tryz.prog 108 #[.slice none 0 0] w fun e w' => e = .returned (.slice none 0 0) ∧ w = w' := by
  go_enter Tryz.func108, Tryz.ntmps108
  go_wp2
  refine wp_loop_rounds 1 ?_
  rw [rounds_succ]
  go_wp2
  go_ret
  exact ⟨rfl, rfl⟩

/-- cut of a slice of the call's own. -/
theorem cut_own (b : Nat) (v : Value) (l : List Nat) (w : World) (hown : w.ownsRow b 3 1 v l.length (cellsOf .i64 l)) (hl : ∀ x ∈ l, x < 10) (hsm : l.length ≤ 4294967296) :
    Calls Tryz.prog 108 #[v] w fun e w' => ∃ v', e = .returned v' ∧ Dg w v' (val 10 l) ∧ w = w' ∧ From b v' := by
  have hrd := Rd.of_own hown
  rcases hown.2 with ⟨rfl, h0⟩ | ⟨g, cap, cur, rfl, hb, -⟩
  · obtain rfl : l = [] := List.length_eq_zero_iff.1 h0
    refine (cut_none w).mono ?_
    rintro e w' ⟨rfl, rfl⟩
    exact ⟨_, rfl, by rw [val_nil]; unfold Dg; rw [dig_zero]; exact Rd.nil _ _ _ _ _, rfl, fun k hk => by cases hk⟩
  · have hat : RdAt .i64 3 w g 0 cap l := by
      rcases hrd with ⟨h0, a, c, he⟩ | ⟨b', off, cap', he, h⟩
      · subst h0
        obtain ⟨h1, h2⟩ := hown
        rcases h2 with ⟨h2, -⟩ | ⟨g', cap', cur', h2, h3, h4, h5, h6, h7, h8⟩
        · cases h2
        · simp only [Value.slice.injEq, Option.some.injEq, Addr.mk.injEq, and_true, true_and] at h2
          obtain ⟨rfl, rfl⟩ := h2
          exact ⟨Nat.zero_le _, (Array.getElem?_eq_some_iff.1 h4).1, ⟨_, _, h4⟩, fun j hj => by simp at hj⟩
      · simp only [Value.slice.injEq, Option.some.injEq, Addr.mk.injEq, and_true, true_and] at he
        obtain ⟨⟨rfl, rfl⟩, rfl⟩ := he
        exact h
    refine (cut_at g 0 cap l w hat.fits (by omega) hat.cell).mono ?_
    rintro e w' ⟨⟨k, hk, rfl, hv, h0⟩, rfl⟩
    refine ⟨_, rfl, ?_, rfl, fun k hk => by cases hk; exact hb⟩
    have hd := norm_take10 hl hv h0
    have hlen : (l.take k).length = k := by rw [List.length_take]; omega
    unfold Dg
    rw [hd]
    refine .inr ⟨g, 0, cap, by rw [hlen], by have := hat.fits; omega, hat.lt, hat.ty, fun j hj => ?_⟩
    rw [hat.cell j (by omega)]
    unfold nth
    rw [getD_get l j (by omega), getD_get (l.take k) j hj, List.getElem_take]

theorem run_append_none_cap {P : Program} (w : World) (base : Nat) (t ty e : TypeId) (i : TypeInfo) (size : Nat) (ht : P.underlying t = some (.slice e)) (hi : P.info? e = some i)
    (v : Value) (n c : Nat) (xs : List Value) (hown : w.ownsRow base e size v n xs) :
    (Builtin.append_ #[t, t] ty #[v, .slice none 0 c]).run P w = .ok v w := by
  rcases hown.2 with ⟨rfl, rfl⟩ | ⟨g, cap, cur, rfl, _, _, hnc, _⟩
  · simp [Builtin.append_, run_underlying ht, sizeOf, typeInfo, hi, Builtin.lenOf, Builtin.firstCells]
  · simp [Builtin.append_, run_underlying ht, sizeOf, typeInfo, hi, Builtin.lenOf, Builtin.firstCells, hnc, storeCells]

/-- 'append(buf, xs...)' where buf is the call's own and xs reads as a list of numbers, nil or not. -/
theorem wpList_append_rd {P : Program} {w : World} {ops : Array Oper} {rest : List Oper} {o : Oper} {a : Act} {Q : Exit → Act → World → Prop} (hgd : o.guard = none) (s x : Operand) (t : TypeId)
    (ho : o.op = .call { callee := .builtin .append, args := #[s, x], argTypes := #[t, t] })
    (base : Nat) (e : TypeId) (i : TypeInfo) (z : Value) (bytes : Nat) (ht : P.underlying t = some (.slice e)) (hi : P.info? e = some i) (hz : i.zero = some z)
    (hsize : i.size = 1) (hby : i.bytes = bytes) (hzs : z.cells.size = 1)
    (v : Value) (n : Nat) (xs : List Value) (hs : a.eval s = v) (hown : w.ownsRow base e 1 v n xs)
    (q : IntKind) (l : List Nat) (xv : Value) (hx : a.eval x = xv) (hrd : Rd q e w xv l)
    (h63 : n + l.length ≤ maxLen) (hbytes : (n + l.length) * bytes ≤ 140737488355328) (hbase : base ≤ w.heap.size)
    (h : ∀ v' w', w'.ownsRow base e 1 v' (n + l.length) (xs ++ cellsOf q l) → w.grownBy w' v.ownBlock → wpList P ops Q rest (a.put o.dst v') w') : wpList P ops Q (o :: rest) a w := by
  rcases hrd with ⟨rfl, ad, cap, rfl⟩ | ⟨b, off, cap, rfl, hr⟩
  · rcases ad with _ | ad
    · refine wpList_plain hgd fun K hK => ?_
      have hrun := run_append_none_cap (P := P) w base t o.type e i 1 ht hi v n cap xs hown
      unfold Oper.wp
      simp [execOp, ho, resolve, invoke, builtin, hs, hx, hrun, Result.andThen]
      exact hK _ _ (h v w (by simpa [cellsOf] using hown) (World.grownBy.refl _ _))
    · exact wpList_append_own w hgd s x t ho base e i z 1 bytes ht hi hz hsize hby hzs (by omega) v n xs hs hown ad 0 cap [] hx (by simp) (by simp) (by simp) h63 hbytes hbase
        (fun v' w' h1 h2 _ => h v' w' h1 h2)
  · exact wpList_append_own w hgd s x t ho base e i z 1 bytes ht hi hz hsize hby hzs (by omega) v n xs hs hown ⟨b, off, none⟩ l.length cap (cellsOf q l) hx (by rw [cellsOf_length, Nat.mul_one])
      (fun j u hj => by
        have hlt : j < l.length := by have := (List.getElem?_eq_some_iff.1 hj).1; rwa [cellsOf_length] at this
        rw [cellsOf_at q l j hlt] at hj
        cases hj
        have := hr.cell j hlt
        by_cases h0 : j = 0
        · subst h0; simpa [Addr.add] using this
        · simpa [Addr.add, h0] using this)
      (fun u hu => by
        unfold cellsOf at hu
        obtain ⟨y, -, rfl⟩ := List.mem_map.1 hu
        simp [Value.oneCell'])
      h63 hbytes hbase (fun v' w' h1 h2 _ => h v' w' h1 h2)

/-- A reading stays where another block turns. -/
theorem Rd.far {q : IntKind} {T : TypeId} {w w' : World} {v : Value} {l : List Nat} {g : Nat} (h : Rd q T w v l) (hg : w.grownBy w' (some g)) (hne : ∀ k, v.ownBlock = some k → k ≠ g) : Rd q T w' v l := by
  rcases h with h | ⟨b, off, cap, rfl, h⟩
  · exact .inl h
  · have hb : b ≠ g := hne b rfl
    refine .inr ⟨b, off, cap, rfl, h.fits, Nat.lt_of_lt_of_le h.lt hg.size, ?_, fun j hj => ?_⟩
    · obtain ⟨cur, fr, ht⟩ := h.ty
      exact ⟨cur, fr, (hg.block b h.lt (fun e => hb (Option.some.inj e))).trans ht⟩
    · exact hg.cell (h.cell j hj) (fun e => hb (Option.some.inj e))

/-- The state of the loop that divides: the places from j on are done. -/
def QuoI (l o : List Nat) (B j R : Nat) : Prop :=
  o.length = l.length ∧ (∀ x ∈ o, x < 10) ∧ (∀ t, t < j → nth o t = 0) ∧ val 10 (l.drop j) = B * val 10 (o.drop j) + R ∧ R < B

theorem quoI_zero (l : List Nat) (B : Nat) (hB : 0 < B) : QuoI l (List.replicate l.length 0) B l.length 0 :=
  ⟨by simp, fun x hx => by have := List.eq_of_mem_replicate hx; omega, fun t _ => nth_replicate _ t, by
    rw [List.drop_of_length_le (Nat.le_refl _), List.drop_of_length_le (by simp)]; simp [val_nil], hB⟩

/-- Within a round: the digit so far and the rest so far. -/
def QuoJ (l o : List Nat) (B m S : Nat) : Prop :=
  o.length = l.length ∧ m < l.length ∧ (∀ t, t < o.length → t ≠ m → nth o t < 10) ∧ (∀ t, t < m → nth o t = 0) ∧ val 10 (l.drop m) = B * (nth o m + 10 * val 10 (o.drop (m + 1))) + S ∧ nth o m * B + S < 10 * B

theorem val_drop10 (l : List Nat) (m : Nat) (h : m < l.length) : val 10 (l.drop m) = nth l m + 10 * val 10 (l.drop (m + 1)) := by
  rw [List.drop_eq_getElem_cons h, val_cons]
  unfold nth
  rw [getD_get l m h]

theorem quoJ_start {l o : List Nat} {B m R : Nat} (h : QuoI l o B (m + 1) R) (hl : ∀ x ∈ l, x < 10) (hm : m < l.length) : QuoJ l o B m (nth l m + 10 * R) := by
  obtain ⟨h1, h2, h3, h4, h5⟩ := h
  have hx := nth_lt (b := 10) (by omega) l hl m
  refine ⟨h1, hm, fun t _ _ => nth_lt (b := 10) (by omega) o h2 t, fun t ht => h3 t (by omega), ?_, ?_⟩
  · rw [val_drop10 l m hm, h4, h3 m (by omega), Nat.zero_add, Nat.mul_add, Nat.mul_left_comm]; omega
  · rw [h3 m (by omega), Nat.zero_mul]; omega

theorem quoJ_step {l o : List Nat} {B m S : Nat} (h : QuoJ l o B m S) (hS : B ≤ S) : nth o m < 10 ∧ QuoJ l (o.set m (nth o m + 1)) B m (S - B) := by
  obtain ⟨h1, h2, h3, h4, h5, h6⟩ := h
  have hq : nth o m < 10 := by
    apply Classical.byContradiction
    intro hn
    have : 10 * B ≤ nth o m * B := Nat.mul_le_mul_right _ (by omega)
    omega
  have hs : nth (o.set m (nth o m + 1)) m = nth o m + 1 := nth_set_same _ _ _ (by omega)
  refine ⟨hq, by simp [h1], h2, fun t ht ht2 => ?_, fun t ht => ?_, ?_, ?_⟩
  · rw [nth_set_other _ _ _ _ ht2]; exact h3 t (by simpa using ht) ht2
  · rw [nth_set_other _ _ _ _ (by omega)]; exact h4 t ht
  · rw [hs, List.drop_set_of_lt (by omega), h5]
    have : B * (nth o m + 1 + 10 * val 10 (o.drop (m + 1))) = B * (nth o m + 10 * val 10 (o.drop (m + 1))) + B := by
      rw [show nth o m + 1 + 10 * val 10 (o.drop (m + 1)) = (nth o m + 10 * val 10 (o.drop (m + 1))) + 1 by omega, Nat.mul_add, Nat.mul_one]
    omega
  · rw [hs, Nat.add_mul, Nat.one_mul]; omega

theorem quoJ_end {l o : List Nat} {B m S : Nat} (h : QuoJ l o B m S) (hS : S < B) : QuoI l o B m S := by
  obtain ⟨h1, h2, h3, h4, h5, h6⟩ := h
  have hq : nth o m < 10 := by
    apply Classical.byContradiction
    intro hn
    have : 10 * B ≤ nth o m * B := Nat.mul_le_mul_right _ (by omega)
    omega
  refine ⟨h1, fun x hx => ?_, h4, ?_, hS⟩
  · obtain ⟨t, ht, rfl⟩ := List.getElem_of_mem hx
    by_cases e : t = m
    · subst e
      have := hq; unfold nth at this; rwa [getD_get o t ht] at this
    · have := h3 t ht e; unfold nth at this; rwa [getD_get o t ht] at this
  · rw [h5, val_drop10 o m (by omega)]

theorem quoI_end {l o : List Nat} {B R : Nat} (h : QuoI l o B 0 R) : val 10 o = val 10 l / B ∧ R = val 10 l % B := by
  obtain ⟨h1, h2, h3, h4, h5⟩ := h
  rw [List.drop_zero, List.drop_zero] at h4
  rw [h4]
  constructor
  · rw [Nat.mul_add_div (by omega), Nat.div_eq_of_lt h5, Nat.add_zero]
  · rw [Nat.mul_add_mod, Nat.mod_eq_of_lt h5]

theorem cmpN_ge {a b : Nat} (h : b ≤ a) : 0 ≤ cmpN a b := by unfold cmpN; split <;> (try split) <;> omega
theorem cmpN_lt {a b : Nat} (h : a < b) : cmpN a b < 0 := by unfold cmpN; rw [if_pos h]; omega

set_option maxHeartbeats 1600000 in
set_option maxRecDepth 100000 in
/-- taken: as before, and the memory is the call's own. -/
theorem taken_own (a1 a2 : Option Addr) (c1 c2 : Nat) (l m : List Nat) (w : World) (h1 : At .i64 w a1 l) (h2 : At .i64 w a2 m) (hl : ∀ x ∈ l, x < 10) (hm : ∀ x ∈ m, x < 10)
    (hlm : m.length ≤ l.length) (hle : val 10 m ≤ val 10 l) (hsm : l.length ≤ 4294967295) :
    Calls Tryz.prog 112 #[.slice a1 l.length c1, .slice a2 m.length c2] w (GivesDgF w (val 10 l - val 10 m)) := by
  obtain ⟨i0, hi, hz0, hz1, hz2⟩ := info_parts info3
  have HLE := Lib.hid hle
  have HGE := Lib.hid (fun (k r : Nat) (o : List Nat) (h : SubD l m k r o) => subD_ge h hl hm)
  have HLT := Lib.hid (fun (k r : Nat) (o : List Nat) (h : SubD l m k r o) => subD_lt h hl hm)
  have HD := Lib.hid (fun (i : Nat) (w' : World) (h : At .i64 w' a2 m) (hi : i ≤ 4294967296) => digit_at a2 c2 m i w' h (by omega) hi)
  have H1 := Lib.hid h1
  have H2 := Lib.hid h2
  have HX := Lib.hid (fun k => nth_lt (b := 10) (by omega) l hl k)
  have HY := Lib.hid (fun k => nth_lt (b := 10) (by omega) m hm k)
  clear hle h1 h2 hl hm
  go_enter Tryz.func112, Tryz.ntmps112
  go_wp2
  go_loopw [5, 6, 7] (fun out bor i wr => ∃ (k r : Nat) (o : List Nat), k ≤ l.length ∧ i = .int .i64 k ∧ bor = .int .i64 r ∧ wr.ownsRow w.heap.size 3 1 out o.length (cellsOf .i64 o) ∧ SubD l m k r o ∧ Below w.heap.size w wr)
    (fun _ _ i _ => l.length - (intOf i).toNat)
  case atStart => exact ⟨0, 0, [], Nat.zero_le _, rfl, rfl, World.ownsRow_nil _ _ _ _, subD_zero l m, Below.refl _ _⟩
  case round =>
    obtain ⟨k, r, o, hk, rfl, rfl, hown, hI, hB⟩ := hrel
    have hc1 := hI.2.1
    have hol := hI.1
    by_cases hlt : k < l.length
    · obtain ⟨b1, o1, rfl, hb1, hcell1⟩ := H1.out k hlt
      have hcr : wr.cell? ⟨b1, o1 + k, none⟩ = some (.int .i64 ((nth l k : Nat) : Int)) := (hB.cell (p := ⟨b1, o1 + k, none⟩) hb1).trans hcell1
      clear hcell1
      have hx := HX.out k
      have hy := HY.out k
      have HI := Lib.hid hI
      have HK2 := Lib.hid (H2.out.keep hB)
      have hD : ∀ n, Calls Tryz.prog 133 #[.slice a2 m.length c2, .int .i64 ((k : Nat) : Int)] (wr.drewN n) fun e w' => e = .returned (.int .i64 ((nth m k : Nat) : Int)) ∧ w' = wr.drewN n := fun n =>
        (HD.out k (wr.drewN n) (HK2.out.keep ⟨rfl, rfl, rfl, Nat.le_refl _, fun _ _ => rfl⟩) (by omega)).mono fun e w' ⟨he, hw⟩ => ⟨he, hw.symm⟩
      have G := Lib.hid (HGE.out k r o hI)
      have L := Lib.hid (HLT.out k r o hI)
      clear hI
      obtain ⟨p, hp⟩ : ∃ p, p = nth l k := ⟨_, rfl⟩
      obtain ⟨q, hq⟩ : ∃ q, q = nth m k := ⟨_, rfl⟩
      rw [← hp] at hx hcr G L
      rw [← hq] at hy hD G L
      clear hp hq
      have D := Lib.hid hD
      clear hD
      rcases (show q + r ≤ p ∨ p < q + r by omega) with t | t
      · have GG := Lib.hid (G.out t)
        have e0 : ((p - q - r : Nat) : Int) = (p : Int) - q - r := by omega
        have E0 := Lib.hid e0
        clear e0 G L
        have ht : (r : Int) ≤ (p : Int) - q := by omega
        have w1 : IntKind.i64.wrap ((p : Int) - (q : Int)) = (p : Int) - q := IntWalk.i64_in _ (by omega)
        have w2 : IntKind.i64.wrap ((p : Int) - (q : Int) - (r : Int)) = (p : Int) - q - r := IntWalk.i64_in _ (by omega)
        go_wp2
        go_quiet ((go_at_call 133; exact Calls.quiet_of_same (D.out _)))
        clear w1 w2
        have hownq : (wr.drewN nq).ownsRow w.heap.size 3 1 u5 o.length (cellsOf .i64 o) := hown
        have hBq : Below w.heap.size w (wr.drewN nq) := hB.trans ⟨rfl, rfl, rfl, Nat.le_refl _, fun _ _ => rfl⟩
        go_wp2_with (at_builtin; refine wpList_append_own _ rfl _ _ 86 rfl w.heap.size 3 i0 (.int .i64 0) 1 8 Tryz.underlying86 hi hz0 hz1 hz2 rfl (by decide) u5 o.length _ rfl (hownq.alloc _) ⟨wr.heap.size, 0, none⟩ 1 1 [_] rfl rfl (cell_one_new _ _ _) (by simp [Value.oneCell']) (by unfold maxLen; omega) (by omega) (by have := hBq.size; rw [World.size_alloc]; omega) ?_; intro v' w1 hown1 hgrow1 _)
        go_roundw
        case rel =>
          refine ⟨k + 1, _, _, by omega, by go_num, rfl, ?_, GG.out, row_below hBq hownq hgrow1⟩
          rw [List.length_append, cellsOf_append, cellsOf_one, E0.out]
          exact hown1
        case measure => simp [intOf]; omega
      · have LL := Lib.hid (L.out t)
        have e0 : ((p + 10 - q - r : Nat) : Int) = (p : Int) - q - r + 10 := by omega
        have E0 := Lib.hid e0
        clear e0 G L
        have ht : (p : Int) - q < (r : Int) := by omega
        have ht2 : (p : Int) - q - r < 0 := by omega
        have w1 : IntKind.i64.wrap ((p : Int) - (q : Int)) = (p : Int) - q := IntWalk.i64_in _ (by omega)
        have w2 : IntKind.i64.wrap ((p : Int) - (q : Int) - (r : Int)) = (p : Int) - q - r := IntWalk.i64_in _ (by omega)
        go_wp2
        go_quiet ((go_at_call 133; exact Calls.quiet_of_same (D.out _)))
        clear w1 w2
        have hownq : (wr.drewN nq).ownsRow w.heap.size 3 1 u5 o.length (cellsOf .i64 o) := hown
        have hBq : Below w.heap.size w (wr.drewN nq) := hB.trans ⟨rfl, rfl, rfl, Nat.le_refl _, fun _ _ => rfl⟩
        go_wp2_with (at_builtin; refine wpList_append_own _ rfl _ _ 86 rfl w.heap.size 3 i0 (.int .i64 0) 1 8 Tryz.underlying86 hi hz0 hz1 hz2 rfl (by decide) u5 o.length _ rfl (hownq.alloc _) ⟨wr.heap.size, 0, none⟩ 1 1 [_] rfl rfl (cell_one_new _ _ _) (by simp [Value.oneCell']) (by unfold maxLen; omega) (by omega) (by have := hBq.size; rw [World.size_alloc]; omega) ?_; intro v' w1 hown1 hgrow1 _)
        go_roundw
        case rel =>
          refine ⟨k + 1, _, _, by omega, by go_num, rfl, ?_, LL.out, row_below hBq hownq hgrow1⟩
          rw [List.length_append, cellsOf_append, cellsOf_one, E0.out]
          exact hown1
        case measure => simp [intOf]; omega
    · obtain rfl : k = l.length := by omega
      obtain ⟨hv, hlt3⟩ := subD_end hI (by omega) HLE.out
      have HV := Lib.hid hv
      have hol2 : o.length ≤ 4294967296 := by omega
      have HOW := Lib.hid hown
      clear hv hI hown
      go_wp2_with fail
      refine (cut_own _ _ _ _ HOW.out hlt3 hol2).mono ?_
      rintro e w' ⟨v', rfl, hd, rfl, hfr⟩
      obtain ⟨a', k', cap', rfl⟩ := hd.shape
      go_wp2
      go_ret
      exact ⟨_, rfl, by rw [← HV.out]; exact hd, hB, hfr⟩

theorem rtaken_own (v1 v2 : Value) (A B : Nat) (w : World) (h1 : Dg w v1 A) (h2 : Dg w v2 B) (hA : (dig 10 A).length ≤ 4294967295) (hle : B ≤ A) :
    Calls Tryz.prog 112 #[v1, v2] w (GivesDgF w (A - B)) := by
  obtain ⟨a1, c1, rfl, g1⟩ := Rd.at h1
  obtain ⟨a2, c2, rfl, g2⟩ := Rd.at h2
  have := taken_own a1 a2 c1 c2 _ _ w g1 g2 (dig10_lt A) (dig10_lt B) (dig_length_mono (by omega) hle) (by rw [val_dig10, val_dig10]; exact hle) hA
  rwa [val_dig10, val_dig10] at this
end Go.Proofs.YtolkiimlchfmlaaGreatDoor

namespace Go.Proofs.YtolkiimlchfmlaaGreatDoor
open Go.RowKit Go.Proofs.Num

/-- Hands back two slices that read as numbers. -/
def GivesDg2 (w : World) (m n : Nat) (e : Ending) (w' : World) : Prop := ∃ v1 v2, e = .returned (.tuple #[v1, v2]) ∧ Dg w' v1 m ∧ Dg w' v2 n ∧ Below w.heap.size w w'

theorem Below.drawn {b : Nat} {w w' : World} (h : Below b w w') (n : Nat) : Below b w (w'.drewN n) := h.trans ⟨rfl, rfl, rfl, Nat.le_refl _, fun _ _ => rfl⟩
theorem Dg.drawn {w : World} {v : Value} {n : Nat} (h : Dg w v n) (k : Nat) : Dg (w.drewN k) v n := h.keep ⟨rfl, rfl, rfl, Nat.le_refl _, fun _ _ => rfl⟩

theorem dig10_digits (n : Nat) : ∀ x ∈ dig 10 n, x < 10 := dig10_lt n
theorem val_cons_dig (x R : Nat) : val 10 (x :: dig 10 R) = x + 10 * R := by rw [val_cons, val_dig10]

theorem cons_dig_lt {x R : Nat} (hx : x < 10) : ∀ y ∈ x :: dig 10 R, y < 10 := by
  intro y hy
  rcases List.mem_cons.1 hy with rfl | hy
  · exact hx
  · exact dig10_lt R y hy

theorem quoJ_rest {l o : List Nat} {B m S : Nat} (h : QuoJ l o B m S) : S < 10 * B := by have := h.2.2.2.2.2; omega
theorem quoI_rest {l o : List Nat} {B j R : Nat} (h : QuoI l o B j R) : R < B := h.2.2.2.2

theorem dig_len_lt {B S M : Nat} (hS : S < 10 * B) (hB : (dig 10 B).length ≤ M) : (dig 10 S).length ≤ M + 1 := by
  refine dig_length_le (by omega) (M + 1) S ?_
  have := few_of_len hB
  rw [Nat.pow_succ]; omega

set_option maxHeartbeats 6400000 in
set_option maxRecDepth 100000 in
theorem divided_at (a1 : Option Addr) (c1 : Nat) (l : List Nat) (bv : Value) (B : Nat) (w : World) (h1 : At .i64 w a1 l) (h2 : Dg w bv B) (hl : ∀ x ∈ l, x < 10) (hB0 : 0 < B)
    (hsl : l.length ≤ 1073741823) (hsm : (dig 10 B).length ≤ 1073741823) :
    Calls Tryz.prog 97 #[.slice a1 l.length c1, bv] w (GivesDg2 w (val 10 l / B) (val 10 l % B)) := by
  obtain ⟨i0, hi, hz0, hz1, hz2⟩ := info_parts info3
  have HSTART := Lib.hid (fun (o : List Nat) (m R : Nat) (h : QuoI l o B (m + 1) R) (hm : m < l.length) => quoJ_start h hl hm)
  have HX := Lib.hid (fun k => nth_lt (b := 10) (by omega) l hl k)
  have H1 := Lib.hid h1
  have H2 := Lib.hid h2
  have HLB := Lib.hid (fun (S : Nat) (h : S < 10 * B) => dig_len_lt h hsm)
  have HB0 := Lib.hid hB0
  have HSM := Lib.hid hsm
  obtain ⟨ab, kb, cb, rfl⟩ := h2.shape
  clear h1 h2 hl hB0 hsm
  go_enter Tryz.func97, Tryz.ntmps97
  go_wp2_with (at_make; refine wpList_make_full _ rfl _ _ 86 rfl w.heap.size 3 i0 (.int .i64 0) 1 Tryz.underlying86 hi hz0 hz1 _ _ _ _ l.length rfl rfl (by omega) (by omega) ?b2 ?b3 (Nat.le_refl _) ?_)
  case b2 => rw [hz2]; omega
  case b3 => unfold maxLen; omega
  intro w0 hown0 hgrow0
  rw [toList_madeCells_one, ← cellsOf_replicate] at hown0
  go_wp2
  go_loopw [7, 8] (fun rv si wr => ∃ (j R : Nat) (o : List Nat), j ≤ l.length ∧ si = .int .i64 ((j : Int) - 1) ∧ Dg wr rv R ∧ From (w.heap.size + 1) rv ∧
      wr.ownsRow w.heap.size 3 1 (.slice (some ⟨w.heap.size, 0, none⟩) l.length l.length) l.length (cellsOf .i64 o) ∧ QuoI l o B j R ∧ Below w.heap.size w wr)
    (fun _ i _ => (intOf i + 1).toNat)
  case atStart => exact ⟨l.length, 0, _, Nat.le_refl _, rfl, by unfold Dg; rw [dig_zero]; exact Rd.nil _ _ _ _ _, (by intro k h; cases h), hown0, quoI_zero l B HB0.out, (Below.refl _ _).grown hgrow0 (Nat.le_refl _) (fun k h => by cases h)⟩
  case round =>
    obtain ⟨j, R, o, hj, rfl, hrv, hfr, hown, hI, hB⟩ := hrel
    rcases j with _ | m
    · rw [show (((0 : Nat) : Int) - 1) = -1 by omega]
      obtain ⟨e1, e2⟩ := quoI_end hI
      have E1 := Lib.hid e1
      have E2 := Lib.hid e2
      have hol := hI.1
      have hdg := hI.2.1
      have HOW := Lib.hid hown
      have HRV := Lib.hid hrv
      obtain ⟨ar, kr, cr, rfl⟩ := hrv.shape
      have hol2 : o.length ≤ 4294967296 := by omega
      have hrd : Hid (Rd .i64 3 wr (.slice (some ⟨w.heap.size, 0, none⟩) l.length l.length) o) := by
        unfold Hid
        rw [← hol]
        refine Rd.of_own (base := w.heap.size) (T := 3) ?_
        rw [hol]; exact HOW.out
      clear e1 e2 hI hown hrv hol
      go_wp2_with fail
      refine (cut_any _ o _ hrd.out hdg hol2).mono ?_
      rintro e w' ⟨v', rfl, hw, rfl⟩
      obtain ⟨a', k', cap', rfl⟩ := hw.shape
      have HW := Lib.hid hw
      clear hw hdg
      go_wp2
      go_ret2
      exact ⟨_, _, rfl, by rw [← E1.out]; exact HW.out, by rw [← E2.out]; exact HRV.out, hB⟩
    · rw [show (((m + 1 : Nat) : Int) - 1) = (m : Int) by omega]
      have hlt : m < l.length := by omega
      obtain ⟨b1, o1, rfl, hb1, hcell1⟩ := H1.out m hlt
      have hx := HX.out m
      have hcr : wr.cell? ⟨b1, o1 + m, none⟩ = some (.int .i64 ((nth l m : Nat) : Int)) := (hB.cell (p := ⟨b1, o1 + m, none⟩) hb1).trans hcell1
      have hJ := HSTART.out o m R hI hlt
      have hRB := quoI_rest hI
      have hlR := HLB.out R (by omega)
      have HOW := Lib.hid hown
      have HRV := Lib.hid hrv
      have hsz0 : w.heap.size < wr.heap.size := by
        rcases hown.2 with ⟨h, -⟩ | ⟨g, cap, cur, h, -, hg, -⟩
        · cases h
        · simp only [Value.slice.injEq, Option.some.injEq, Addr.mk.injEq, and_true, true_and] at h
          obtain ⟨rfl, rfl⟩ := h
          exact (Array.getElem?_eq_some_iff.1 hg).1
      obtain ⟨ar, kr, cr, rfl⟩ := hrv.shape
      clear hcell1 hI hown hrv hfr
      obtain ⟨x, hx'⟩ : ∃ x, x = nth l m := ⟨_, rfl⟩
      rw [← hx'] at hx hcr hJ
      clear hx'
      have hlit := World.ownsRow_lit (base := wr.heap.size) (e := 3) (size := 1) wr #[.int .i64 ((x : Nat) : Int)] 1 (Nat.le_refl _) (by unfold maxLen; omega) rfl
      have HLIT := Lib.hid hlit
      have HJ := Lib.hid hJ
      clear hlit hJ
      have hrd2 : Hid (Rd .i64 3 (wr.alloc (.cells #[.int .i64 ((x : Nat) : Int)] 3)) (.slice ar kr cr) (dig 10 R)) := HRV.out.keep ((Below.refl _ _).alloc (Nat.le_refl _) _)
      go_wp2_with (at_builtin; refine wpList_append_rd rfl _ _ 86 rfl wr.heap.size 3 i0 (.int .i64 0) 8 Tryz.underlying86 hi hz0 hz1 hz2 rfl _ 1 _ rfl HLIT.out .i64 (dig 10 R) _ rfl hrd2.out (by unfold maxLen; omega) (by omega) (by rw [World.size_alloc]; omega) ?_; intro v2 w1 hown1 hgrow1)
      have hBB : Below wr.heap.size wr w1 := ((Below.refl _ _).alloc (Nat.le_refl _) _).grown hgrow1 (by rw [World.size_alloc]; omega) (fun k h => by cases h; exact Nat.le_refl _)
      have hB1 : Below w.heap.size w w1 := hB.trans (hBB.mono hB.size)
      have hown2 : Hid (w1.ownsRow wr.heap.size 3 1 v2 (x :: dig 10 R).length (cellsOf .i64 (x :: dig 10 R))) := by
        unfold Hid
        rw [List.length_cons, Nat.add_comm]
        exact hown1
      have hl3 : (x :: dig 10 R).length ≤ 4294967296 := by rw [List.length_cons]; omega
      have HOW1 := Lib.hid (HOW.out.kept (w' := w1) (row := none) ⟨hBB.os, hBB.tape, hBB.output, hBB.size, fun k hk _ => hBB.block k hk⟩ (.inr (by simp [Value.ownBlock])))
      clear hown1 hgrow1
      go_wp2_with fail
      refine (cut_own _ _ _ _ hown2.out (cons_dig_lt hx) hl3).mono ?_
      rintro e w1' ⟨v3, rfl, hd3, rfl, hfr3⟩
      rw [val_cons_dig] at hd3
      obtain ⟨a3, k3, c3, rfl⟩ := hd3.shape
      have HD3 := Lib.hid hd3
      have HF3 : Hid (From (w.heap.size + 1) (.slice a3 k3 c3)) := fun k hk => by have := hfr3 k hk; omega
      clear hd3 hfr3 hx hcr hsz0 hl3
      go_wp2
      have hs0 : Hid (∃ (S : Nat) (o : List Nat), S ≤ x + 10 * R ∧ Dg w1 (.slice a3 k3 c3) S ∧ From (w.heap.size + 1) (.slice a3 k3 c3) ∧
          w1.ownsRow w.heap.size 3 1 (.slice (some ⟨w.heap.size, 0, none⟩) l.length l.length) l.length (cellsOf .i64 o) ∧ QuoJ l o B m S ∧ Below w.heap.size w w1) :=
        ⟨_, o, Nat.le_refl _, HD3.out, HF3.out, HOW1.out, HJ.out, hB1⟩
      obtain ⟨N, hN⟩ : ∃ N, N = x + 10 * R := ⟨_, rfl⟩
      rw [← hN] at hs0
      clear hN HD3 HF3 HOW1 HJ hB1 hBB hown2 hrd2 HLIT HRV HOW hlR hRB hB hb1
      go_loopg [7] N (fun gk rv wr => ∃ (S : Nat) (o : List Nat), S ≤ gk ∧ Dg wr rv S ∧ From (w.heap.size + 1) rv ∧
          wr.ownsRow w.heap.size 3 1 (.slice (some ⟨w.heap.size, 0, none⟩) l.length l.length) l.length (cellsOf .i64 o) ∧ QuoJ l o B m S ∧ Below w.heap.size w wr)
      case atStart => exact hs0.out
      case round =>
        clear hs0
        obtain ⟨S, o, hSg, hrv, hfr, hown, hJ, hB⟩ := hrel
        have hS10 := quoJ_rest hJ
        have hlS := HLB.out S hS10
        have HRV := Lib.hid hrv
        have HBV := Lib.hid (H2.out.keep hB)
        have HOW := Lib.hid hown
        obtain ⟨ar, kr, cr, rfl⟩ := hrv.shape
        by_cases hge : B ≤ S
        · have hcm := cmpN_ge hge
          obtain ⟨cc, hcc⟩ : ∃ cc, cc = cmpN S B := ⟨_, rfl⟩
          rw [← hcc] at hcm
          have HCC := Lib.hid hcc
          obtain ⟨hq, hJ'⟩ := quoJ_step hJ hge
          have hol := hJ.1
          have HJ := Lib.hid hJ'
          have HB0' := HB0.out
          clear hcc hJ hJ' hown hrv
          go_wp2_with fail
          refine (rorder_any _ _ S B _ HRV.out HBV.out (by omega) (by have := HSM.out; omega)).mono ?_
          rintro e w3 ⟨he, nn, rfl⟩
          rw [← HCC.out] at he
          subst he
          go_wp2_with fail
          refine (rtaken_own _ _ S B _ (HRV.out.drawn nn) (HBV.out.drawn nn) (by omega) hge).mono ?_
          rintro e w4 ⟨v4, rfl, hd4, hb4, hf4⟩
          obtain ⟨a4, k4, c4, rfl⟩ := hd4.shape
          have hb4' : Below wr.heap.size wr w4 := (show Below wr.heap.size wr (wr.drewN nn) from ⟨rfl, rfl, rfl, Nat.le_refl _, fun _ _ => rfl⟩).trans hb4
          have hown4 := HOW.out.kept (w' := w4) (row := none) ⟨hb4'.os, hb4'.tape, hb4'.output, hb4'.size, fun k hk _ => hb4'.block k hk⟩ (.inr (by simp [Value.ownBlock]))
          have hB4 : Below w.heap.size w w4 := hB.trans (hb4'.mono hB.size)
          have hsz0 : w.heap.size < wr.heap.size := by
            rcases HOW.out.2 with ⟨h, -⟩ | ⟨g, cap, cur, h, -, hg, -⟩
            · cases h
            · simp only [Value.slice.injEq, Option.some.injEq, Addr.mk.injEq, and_true, true_and] at h
              obtain ⟨rfl, rfl⟩ := h
              exact (Array.getElem?_eq_some_iff.1 hg).1
          have hf4' : From (w.heap.size + 1) (.slice a4 k4 c4) := fun k hk => by have := hf4 k hk; have e : (wr.drewN nn).heap.size = wr.heap.size := rfl; omega
          have hco : w4.cell? ⟨w.heap.size, m, none⟩ = some (.int .i64 ((nth o m : Nat) : Int)) := (hown4.cellAt m (by omega)).trans (cellsOf_at _ _ _ (by omega))
          have hfo : w4.frozen? ⟨w.heap.size, m, none⟩ = false := hown4.frozenAt m
          have hst := hown4.stored m (.int .i64 (((nth o m + 1 : Nat)) : Int))
          rw [← cellsOf_set] at hst
          have HS := Lib.hid hst
          have HD4 := Lib.hid hd4
          have HF4 := Lib.hid hf4'
          clear hst hd4 hf4 hf4' hown4 hb4 hb4' hsz0
          obtain ⟨q, hq'⟩ : ∃ q, q = nth o m := ⟨_, rfl⟩
          rw [← hq'] at hq hco HS HJ
          clear hq'
          have hcast : (((q + 1 : Nat)) : Int) = (q : Int) + 1 := by omega
          rw [hcast] at HS
          clear hcast
          go_wp2
          go_roundg (S - B)
          case measure => omega
          case rel => exact ⟨S - B, _, Nat.le_refl _, Rd.far HD4.out HS.out.2 (fun k hk => by have := HF4.out k hk; omega), HF4.out, HS.out.1, HJ.out, below_own hB4 HS.out.2⟩
        · have hcm := cmpN_lt (show S < B by omega)
          obtain ⟨cc, hcc⟩ : ∃ cc, cc = cmpN S B := ⟨_, rfl⟩
          rw [← hcc] at hcm
          have HCC := Lib.hid hcc
          have HI := Lib.hid (quoJ_end hJ (by omega))
          clear hcc hJ hown hrv
          go_wp2_with fail
          refine (rorder_any _ _ S B _ HRV.out HBV.out (by omega) (by have := HSM.out; omega)).mono ?_
          rintro e w3 ⟨he, nn, rfl⟩
          rw [← HCC.out] at he
          subst he
          go_wp2
          go_roundw
          case rel => exact ⟨m, S, o, by omega, by go_num, HRV.out.drawn nn, hfr, HOW.out, HI.out, Below.drawn hB nn⟩
          case measure => simp [intOf]

/-- divided -/
theorem rdivided_any (v1 v2 : Value) (A B : Nat) (w : World) (h1 : Dg w v1 A) (h2 : Dg w v2 B) (hB0 : 0 < B) (hA : (dig 10 A).length ≤ 1073741823) (hB : (dig 10 B).length ≤ 1073741823) :
    Calls Tryz.prog 97 #[v1, v2] w (GivesDg2 w (A / B) (A % B)) := by
  obtain ⟨a1, c1, rfl, g1⟩ := Rd.at h1
  have := divided_at a1 c1 _ v2 B w g1 h2 (dig10_lt A) hB0 hA hB
  rwa [val_dig10] at this
end Go.Proofs.YtolkiimlchfmlaaGreatDoor
