/- Made lists, and stores into them. And: Ends under new numbers, by the program; a list without an element. And: A list of ends without one element, in place. And: Ends of a graph that has a single edge. And: A graph without a single edge, by the program. And: Cuts, induced graphs and graphs made again, in numbers. And: A graph in which a single edge is contracted, by the program. And: Ways of several single edges, in numbers. And: The law of handshakes. -/
import Derived.Test.YtndjjafpdiehdaaQ07
import Derived.Test.YtndjjafpdiehdaaQ14
import Derived.Test.YtndjjafpdiehdaaQ06
import Derived.Laws.OwnMore
import Derived.Deep.RegionLaw
import Derived.Lib.SliceRun
import Derived.Laws.IdiomCopy
import Derived.Test.YtndjjafpdiehdaaQ01
namespace Go.Proofs.Ytndjjafpdiehdaa
open Go.RowKit Go.Proofs.Gr

/-- A block that holds a list. -/
def RowB {α : Type} (enc : α → List Value) (t : TypeId) (w : World) (g : Nat) (L : List α) : Prop := Blk w g t (flat enc L).toArray
theorem RowB.row {α : Type} {enc : α → List Value} {k : Nat} (hk : ∀ x, (enc x).length = k) {t : TypeId} {w : World} {g : Nat} {L : List α} (h : RowB enc t w g L) : RowAt k enc w (some ⟨g, 0, none⟩) L :=
  RowAt.of_blk hk h rfl
theorem RowB.cell {t : TypeId} {w : World} {g : Nat} {L : List Int} (h : RowB encI t w g L) (i : Nat) (hi : i < L.length) : w.cell? ⟨g, i, none⟩ = some (.int .i64 (iAt L i)) := by
  rw [Blk.cell h i, List.getElem?_toArray]
  have := flat_at (k := 1) (enc := encI) encI_len L i 0 hi (by decide)
  rw [Nat.mul_one, Nat.add_zero] at this
  rw [this, iAt_get L i hi]; rfl
theorem flatI_map (L : List Int) : flat encI L = L.map fun z => Value.int .i64 z := by
  induction L with
  | nil => rfl
  | cons z L ih => rw [flat_cons, ih]; rfl
theorem RowB.set {t : TypeId} {w : World} {g : Nat} {L : List Int} (h : RowB encI t w g L) (i : Nat) (v : Int) : RowB encI t (w.setCell ⟨g, i, none⟩ (.int .i64 v)) g (L.set i v) := by
  have := Blk.set_ h i (.int .i64 v)
  unfold RowB
  rw [flatI_map] at this ⊢
  rw [List.map_set]
  simpa using this
theorem RowB.cellP {t : TypeId} {w : World} {g : Nat} {L : List (Int × Int)} (h : RowB encP t w g L) (i : Nat) (hi : i < L.length) : w.cell? ⟨g, i * 2, none⟩ = some (.int .i64 (pAt L i).1) ∧ w.cell? ⟨g, i * 2 + 1, none⟩ = some (.int .i64 (pAt L i).2) := by
  have a0 := flat_at (k := 2) (enc := encP) encP_len L i 0 hi (by decide)
  have a1 := flat_at (k := 2) (enc := encP) encP_len L i 1 hi (by decide)
  rw [Nat.add_zero] at a0
  rw [Blk.cell h, List.getElem?_toArray, a0, Blk.cell h, List.getElem?_toArray, a1, pAt_get L i hi]
  exact ⟨rfl, rfl⟩
theorem flat_setP (Q : List (Int × Int)) (i : Nat) (h : i < Q.length) (a b : Int) : ((flat encP Q).set (i * 2) (.int .i64 a)).set (i * 2 + 1) (.int .i64 b) = flat encP (Q.set i (a, b)) := by
  induction Q generalizing i with
  | nil => simp at h
  | cons t Q ih =>
    obtain ⟨x, y⟩ := t
    cases i with
    | zero => rfl
    | succ i =>
      rw [List.set_cons_succ, flat_cons, flat_cons, ← ih i (by simpa using h), Nat.succ_mul]
      rfl
theorem RowB.setP {t : TypeId} {w : World} {g : Nat} {L : List (Int × Int)} (h : RowB encP t w g L) (i : Nat) (hi : i < L.length) (x y : Int) : RowB encP t ((w.setCell ⟨g, i * 2, none⟩ (.int .i64 x)).setCell ⟨g, i * 2 + 1, none⟩ (.int .i64 y)) g (L.set i (x, y)) := by
  have := Blk.set_ (Blk.set_ h (i * 2) (.int .i64 x)) (i * 2 + 1) (.int .i64 y)
  unfold RowB
  rw [← flat_setP L i hi]
  simpa using this
theorem RowB.new {α : Type} (enc : α → List Value) (w : World) (t : TypeId) (L : List α) : RowB enc t (w.alloc (.cells (flat enc L).toArray t)) w.heap.size L := Blk.new _ _ _
theorem flat_rep {α : Type} (enc : α → List Value) (z : α) (v : Value) (k : Nat) (h : enc z = List.replicate k v) (n : Nat) : flat enc (List.replicate n z) = List.replicate (n * k) v := by
  induction n with
  | zero => simp [flat]
  | succ n ih => rw [List.replicate_succ, flat_cons, ih, h, List.replicate_append_replicate]; congr 1; rw [Nat.succ_mul, Nat.add_comm]
set_option maxRecDepth 100000 in
theorem make_ints (n : Nat) (hn : n ≤ 10000000) (w : World) : (Instr.makeSlice 33 (.int .i64 (n : Int)) (.int .i64 (n : Int))).run Try.prog w = .ok (.slice (some ⟨w.heap.size, 0, none⟩) n n) (w.alloc (.cells (flat encI (List.replicate n 0)).toArray 3)) := by
  obtain ⟨i0, hi0, hz0, hz1, hz2⟩ := info_parts infoI
  have h := run_make (P := Try.prog) w 33 3 i0 (.int .i64 0) Try.underlying33 hi0 hz0 .i64 .i64 n n (by omega) (by omega) (by rw [hz2]; omega) (by omega)
  rw [h]
  simp only [Int.toNat_natCast, hz1, Nat.mul_one]
  rw [flat_rep encI 0 (.int .i64 0) 1 rfl]
  congr 2
  refine congrArg (fun c => Obj.cells c 3) (Array.toList_inj.1 ?_)
  rw [show (Value.int .i64 0).cells = #[.int .i64 0] from rfl, toList_madeCells_one]; simp
set_option maxRecDepth 100000 in
theorem make_divs (n : Nat) (hn : n ≤ 10000000) (w : World) : (Instr.makeSlice 48 (.int .i64 (n : Int)) (.int .i64 (n : Int))).run Try.prog w = .ok (.slice (some ⟨w.heap.size, 0, none⟩) n n) (w.alloc (.cells (flat encI (List.replicate n 0)).toArray 3)) := by
  obtain ⟨i0, hi0, hz0, hz1, hz2⟩ := info_parts infoI
  have h := run_make (P := Try.prog) w 48 3 i0 (.int .i64 0) Try.underlying48 hi0 hz0 .i64 .i64 n n (by omega) (by omega) (by rw [hz2]; omega) (by omega)
  rw [h]
  simp only [Int.toNat_natCast, hz1, Nat.mul_one]
  rw [flat_rep encI 0 (.int .i64 0) 1 rfl]
  congr 2
  refine congrArg (fun c => Obj.cells c 3) (Array.toList_inj.1 ?_)
  rw [show (Value.int .i64 0).cells = #[.int .i64 0] from rfl, toList_madeCells_one]; simp
theorem made_pairs (n : Nat) : (madeCells #[Value.int .i64 0, Value.int .i64 0] n).toList = List.replicate n (.int .i64 0) := by
  apply List.ext_getElem?
  intro j
  by_cases hj : j < n
  · have : j % 2 = 0 ∨ j % 2 = 1 := by omega
    rcases this with h | h <;> simp [madeCells, hj, h]
  · simp [madeCells, hj]
set_option maxRecDepth 100000 in
theorem make_pairs (n : Nat) (hn : n ≤ 10000000) (w : World) : (Instr.makeSlice 56 (.int .i64 (n : Int)) (.int .i64 (n : Int))).run Try.prog w = .ok (.slice (some ⟨w.heap.size, 0, none⟩) n n) (w.alloc (.cells (flat encP (List.replicate n (0, 0))).toArray 25)) := by
  obtain ⟨i0, hi0, hz0, hz1, hz2⟩ := info_parts infoP
  have h := run_make (P := Try.prog) w 56 25 i0 (.agg #[.int .i64 0, .int .i64 0]) Try.underlying56 hi0 hz0 .i64 .i64 n n (by omega) (by omega) (by rw [hz2]; omega) (by omega)
  rw [h]
  simp only [Int.toNat_natCast, hz1]
  rw [flat_rep encP (0, 0) (.int .i64 0) 2 rfl]
  congr 2
  refine congrArg (fun c => Obj.cells c 25) (Array.toList_inj.1 ?_)
  rw [show (Value.agg #[.int .i64 0, .int .i64 0]).cells = #[.int .i64 0, .int .i64 0] from rfl, made_pairs]
theorem grown_set (w : World) (b i : Nat) (v : Value) : w.grownBy (w.setCell ⟨b, i, none⟩ v) (some b) :=
  ⟨rfl, rfl, rfl, by simp [World.setCell], fun k _ hne => Below.heap_setCell w ⟨b, i, none⟩ v k (fun e => hne (by rw [e]))⟩
/-- A list into which places are stored. -/
def setM (M : List Nat) (L : List Int) : Nat → List Int
  | 0 => L
  | p + 1 => (setM M L p).set (M.getD p 0) p
theorem setM_len (M : List Nat) (L : List Int) (p : Nat) : (setM M L p).length = L.length := by
  induction p with
  | zero => rfl
  | succ p ih => rw [setM, List.length_set, ih]
theorem setM_off (M : List Nat) (L : List Int) (p i : Nat) (h : ∀ q, q < p → M.getD q 0 ≠ i) : (setM M L p)[i]? = L[i]? := by
  induction p with
  | zero => rfl
  | succ p ih => rw [setM, List.getElem?_set_ne (h p (by omega)), ih fun q hq => h q (by omega)]
theorem setM_on (M : List Nat) (L : List Int) (hM : M.Nodup) (p : Nat) (hp : p ≤ M.length) (q : Nat) (hq : q < p) (hl : M.getD q 0 < L.length) : (setM M L p)[M.getD q 0]? = some (q : Int) := by
  induction p with
  | zero => omega
  | succ p ih =>
    rw [setM]
    by_cases e : q = p
    · subst e; rw [List.getElem?_set_self (by rw [setM_len]; exact hl)]
    · have : M.getD p 0 ≠ M.getD q 0 := by
        rw [List.getD_eq_getElem?_getD, List.getD_eq_getElem?_getD, List.getElem?_eq_getElem (by omega), List.getElem?_eq_getElem (by omega)]
        intro h
        have h' : M[p]'(by omega) = M[q]'(by omega) := by simpa using h
        have := List.pairwise_iff_getElem.1 hM q p (by omega) (by omega) (by omega)
        exact this h'.symm
      rw [List.getElem?_set_ne this]
      exact ih (by omega) (by omega)
theorem setM_plc {Q : List (Int × Int)} {e : Nat} (he : e < Q.length) {M : List Nat} (hM : M.Pairwise (fun i j => ltI Q i j = true)) (hm : ∀ j, j ∈ M ↔ j < Q.length ∧ j ≠ e) : setM M ((List.replicate Q.length 0).set e (-1)) M.length = plc Q e := by
  have hnd : M.Nodup := hM.imp fun h e => by subst e; exact ltI_irr _ _ h
  refine List.ext_getElem? fun i => ?_
  by_cases hi : i < Q.length
  · have hr : (plc Q e)[i]? = some (if i = e then -1 else (cntI Q e i Q.length : Int)) := by
      unfold plc
      rw [List.getElem?_map, List.getElem?_range hi]; rfl
    rw [hr]
    by_cases h : i = e
    · subst h
      rw [setM_off M _ _ _ fun q hq => ?_, if_pos rfl, List.getElem?_set_self (by simpa using hi)]
      rw [List.getD_eq_getElem?_getD, List.getElem?_eq_getElem hq]
      exact ((hm _).1 (List.getElem_mem hq)).2
    · rw [if_neg h]
      obtain ⟨q, hq, rfl⟩ := List.mem_iff_getElem.1 ((hm i).2 ⟨hi, h⟩)
      have hd : M.getD q 0 = M[q] := by rw [List.getD_eq_getElem?_getD, List.getElem?_eq_getElem hq]; rfl
      have := setM_on M ((List.replicate Q.length 0).set e (-1)) hnd M.length (Nat.le_refl _) q hq (by rw [hd]; simpa using hi)
      rw [hd] at this
      rw [this, cntI_at hM hm q hq]
  · rw [List.getElem?_eq_none (by rw [setM_len]; simp; omega), List.getElem?_eq_none (by rw [plc_len]; omega)]
end Go.Proofs.Ytndjjafpdiehdaa

namespace Go.Proofs.Ytndjjafpdiehdaa
open Go.RowKit Go.Shelf Go.Proofs.Gr
attribute [local go_sem] Oper.semAt_some

theorem min_if (x y : Int) : min x y = if y < x then y else x := by rw [Int.min_def]; split <;> split <;> omega
theorem max_if (x y : Int) : max x y = if x < y then y else x := by rw [Int.max_def]; split <;> split <;> omega
theorem mvP_take (f : Int → Int) (P : List (Int × Int)) (i : Nat) : (mvP f P).take i = mvP f (P.take i) := by unfold mvP; rw [List.map_take]
/-- A list whose first pairs are new. -/
def mvT (f : Int → Int) (P : List (Int × Int)) (i : Nat) : List (Int × Int) := mvP f (P.take i) ++ List.replicate (P.length - i) (0, 0)
theorem mvT_len (f : Int → Int) (P : List (Int × Int)) (i : Nat) (h : i ≤ P.length) : (mvT f P i).length = P.length := by
  unfold mvT; rw [List.length_append, mvP_len, List.length_take, List.length_replicate]; omega
theorem mvT_set (f : Int → Int) (P : List (Int × Int)) (i : Nat) (h : i < P.length) : (mvT f P i).set i (mvF f (pAt P i)) = mvT f P (i + 1) := by
  unfold mvT
  have hl : (mvP f (P.take i)).length = i := by rw [mvP_len, List.length_take]; omega
  rw [List.set_append_right _ _ (by omega), hl, Nat.sub_self, show P.length - i = (P.length - (i + 1)) + 1 by omega, List.replicate_succ, List.set_cons_zero]
  have : P.take (i + 1) = P.take i ++ [pAt P i] := by rw [List.take_succ_eq_append_getElem h, pAt_get]
  rw [this]
  unfold mvP
  rw [List.map_append, List.append_assoc]; rfl
theorem mvT_all (f : Int → Int) (P : List (Int × Int)) : mvT f P P.length = mvP f P := by
  unfold mvT; rw [List.take_length, Nat.sub_self]; simp
set_option maxHeartbeats 12800000 in
set_option maxRecDepth 100000 in
theorem pmoved_any (ga gb : Nat) (p : Int × Int) (a : Option Addr) (c : Nat) (P : List (Int × Int)) (hPl : P.length ≤ 5000000) (hr : ∀ q ∈ P, (-1000000 ≤ q.1 ∧ q.1 ≤ 1000000) ∧ -1000000 ≤ q.2 ∧ q.2 ≤ 1000000) (w : World) (h : PsAt w a P) (hm : MgAt w ga gb p) :
    Calls Try.prog 61 #[.slice a P.length c, mgV ga gb] w (GivesP w (mvP (mgF p) P)) := by
  have HM := Lib.hid (fun v hv w h => mg1_any ga gb p v hv w h)
  have HT0 : Hid (mvT (mgF p) P 0 = List.replicate P.length (0, 0)) := Lib.hid (by unfold mvT mvP; simp)
  have HTA := Lib.hid (mvT_all (mgF p) P)
  have HTL := Lib.hid (fun i h => mvT_len (mgF p) P i h)
  have HTS := Lib.hid (fun i h => mvT_set (mgF p) P i h)
  have HLR := Lib.hid (mvP_len (mgF p) P)
  have HR : Hid (∀ i, i < P.length → (-1000000 ≤ (pAt P i).1 ∧ (pAt P i).1 ≤ 1000000) ∧ -1000000 ≤ (pAt P i).2 ∧ (pAt P i).2 ≤ 1000000) := Lib.hid fun i hi => by
    rw [← pAt_get P i hi]; exact hr _ (List.getElem_mem hi)
  unfold mgV GivesP
  have HMF : Hid (∀ q, mvF (mgF p) q = (if mgF p q.2 < mgF p q.1 then mgF p q.2 else mgF p q.1, if mgF p q.1 < mgF p q.2 then mgF p q.2 else mgF p q.1)) := Lib.hid fun q => rfl
  generalize mvP (mgF p) P = R at *
  generalize mvT (mgF p) P = T at *
  generalize mvF (mgF p) = MF at *
  have HP := Lib.hid h
  have HG := Lib.hid hm
  have hmk : (Instr.makeSlice 56 (.int .i64 (P.length : Int)) (.int .i64 (P.length : Int))).run Try.prog w = .ok (.slice (some ⟨w.heap.size, 0, none⟩) P.length P.length) (w.alloc (.cells (flat encP (List.replicate P.length (0, 0))).toArray 25)) := make_pairs _ (by omega) _
  obtain ⟨W, hW⟩ : ∃ W, W = w.alloc (.cells (flat encP (List.replicate P.length (0, 0))).toArray 25) := ⟨_, rfl⟩
  have hrb0 : RowB encP 25 W w.heap.size (T 0) := by rw [hW, HT0.out]; exact RowB.new _ _ _ _
  have hb0 : Below w.heap.size w W := by rw [hW]; exact (Below.refl _ w).alloc (Nat.le_refl _) _
  rw [← hW] at hmk
  have HRB0 := Lib.hid hrb0
  have HB0 := Lib.hid hb0
  clear hW hrb0 hb0 h hm hr
  go_enter Try.func61, Try.ntmps61
  go_wp2
  clear hmk
  go_loopw [15] (fun x wr => ∃ i : Nat, i ≤ P.length ∧ x = .int .i64 i ∧ RowB encP 25 wr w.heap.size (T i) ∧ Below w.heap.size w wr) (fun x _ => P.length - (intOf x).toNat)
  case atStart => exact ⟨0, by omega, rfl, HRB0.out, HB0.out⟩
  case round =>
    obtain ⟨i, hi, rfl, hrb, hb⟩ := hrel
    by_cases hlt : i < P.length
    · have i1 : (i : Int) < (P.length : Int) := by omega
      have i2 : (0 : Int) ≤ (i : Int) := by omega
      obtain ⟨b1, o1, hbb, q1, x1, x2⟩ := (HP.out.keep hb).two i hlt
      subst hbb
      have hrg := HR.out i hlt
      have HTn := Lib.hid (HTS.out i hlt)
      have hmf := HMF.out (pAt P i)
      generalize pAt P i = q at *
      obtain ⟨x, y⟩ := q
      simp only at x1 x2 hmf hrg
      have HMX := Lib.hid (fun w h => HM.out x hrg.1 w h)
      have HMY := Lib.hid (fun w h => HM.out y hrg.2 w h)
      generalize mgF p x = fx at *
      generalize mgF p y = fy at *
      have HMQ := Lib.hid hmf
      obtain ⟨V, hV⟩ : ∃ V, V = wr.alloc (Obj.cells #[.int .i64 x, .int .i64 y] 25) := ⟨_, rfl⟩
      have hbV : Below w.heap.size w V := by rw [hV]; exact hb.alloc hb.size _
      have hvb : Blk V wr.heap.size 25 #[.int .i64 x, .int .i64 y] := by rw [hV]; exact Blk.new _ _ _
      have hrV : RowB encP 25 V w.heap.size (T i) := by rw [hV]; exact Blk.alloc hrb _
      have HV := Lib.hid hV
      have HS : Hid (∀ u, Below V.heap.size V u → (Below V.heap.size V u ∧ u.cell? ⟨wr.heap.size, 0, none⟩ = some (.int .i64 x) ∧ u.cell? ⟨wr.heap.size, 1, none⟩ = some (.int .i64 y))) := Lib.hid fun u hu => ⟨hu, (hvb.below hu hvb.lt).cell 0, (hvb.below hu hvb.lt).cell 1⟩
      have HGV := Lib.hid (HG.out.keep hbV)
      have HBV := Lib.hid hbV
      have HRV := Lib.hid hrV
      clear hV hbV hvb hrV hrb hb hmf hrg
      go_wp2
      rw [← HV.out]
      have hk2 : Below V.heap.size V V.drew := (Below.refl _ _).drew
      obtain ⟨_, f0, f1⟩ := HS.out _ hk2
      go_region_held3 (fun u => Below V.heap.size V u ∧ u.cell? ⟨wr.heap.size, 0, none⟩ = some (.int .i64 x) ∧ u.cell? ⟨wr.heap.size, 1, none⟩ = some (.int .i64 y))
        (first | exact HS.out _ (by assumption) | exact HS.out _ (Below.drew (by assumption)))
        (first | (go_at_call 88; (first | (with_reducible refine (HMX.out _ (HGV.out.keep hk2)).mono ?_) | (with_reducible refine (HMY.out _ (HGV.out.keep hk2)).mono ?_)); rintro e wz ⟨rfl, hbz⟩; have hk3 := hk2.trans (hbz.mono hk2.size); clear hbz hk2; have hk2 := hk3; clear hk3))
      rename_i wz0 hHeldz
      clear hHeldz f0 f1
      have hlw : w.heap.size < V.heap.size := Blk.lt HRV.out
      have hrz : RowB encP 25 wz w.heap.size (T i) := Blk.below HRV.out hk2 hlw
      have hTl := HTL.out i (by omega)
      obtain ⟨y1, y2⟩ := hrz.cellP i (by omega)
      have y3 : wz.frozen? ⟨w.heap.size, i * 2, none⟩ = false := Blk.frozen hrz _
      have y4 : wz.frozen? ⟨w.heap.size, i * 2 + 1, none⟩ = false := Blk.frozen hrz _
      have hbz : Below w.heap.size w wz := HBV.out.trans (hk2.mono HBV.out.size)
      obtain ⟨mn, hmn⟩ : ∃ mn, mn = min fx fy := ⟨_, rfl⟩
      obtain ⟨mx, hmx⟩ : ∃ mx, mx = max fx fy := ⟨_, rfl⟩
      have HMN := Lib.hid hmn
      have HMX := Lib.hid hmx
      have HRN : Hid (RowB encP 25 ((wz.setCell ⟨w.heap.size, i * 2, none⟩ (.int .i64 mn)).setCell ⟨w.heap.size, i * 2 + 1, none⟩ (.int .i64 mx)) w.heap.size (T (i + 1))) := Lib.hid (by
        rw [← HTn.out, HMQ.out, ← min_if, ← max_if, ← hmn, ← hmx]; exact hrz.setP i (by omega) mn mx)
      have HBN : Hid (Below w.heap.size w ((wz.setCell ⟨w.heap.size, i * 2, none⟩ (.int .i64 mn)).setCell ⟨w.heap.size, i * 2 + 1, none⟩ (.int .i64 mx))) := Lib.hid ((hbz.setCell (p := ⟨w.heap.size, i * 2, none⟩) (Nat.le_refl _) _).setCell (p := ⟨w.heap.size, i * 2 + 1, none⟩) (Nat.le_refl _) _)
      rw [hmn, hmx] at HRN HBN
      clear hrz hbz hTl hlw hk2 hmn hmx HMN HMX
      go_wp2
      go_roundw
      case rel => exact ⟨i + 1, by omega, by go_num, HRN.out, HBN.out⟩
      case measure => simp [intOf]; omega
    · obtain rfl : i = P.length := by omega
      have i1 : ¬ (P.length : Int) < (P.length : Int) := by omega
      have HRW : Hid (PsAt wr (some ⟨w.heap.size, 0, none⟩) R) := Lib.hid (by
        rw [← HTA.out]; exact hrb.row encP_len)
      have HEND := Lib.hid hb
      clear hrb hb
      go_wp2
      go_ret
      exact ⟨some ⟨w.heap.size, 0, none⟩, ⟨P.length, by rw [HLR.out]; rfl⟩, HRW.out, HEND.out⟩
end Go.Proofs.Ytndjjafpdiehdaa

namespace Go.Proofs.Ytndjjafpdiehdaa
open Go.RowKit Go.Shelf Go.Lib Go.Proofs.Gr
attribute [local go_sem] Oper.semAt_some

section
variable {P : Program}
theorem run_clear_two (w : World) (t e ty : TypeId) (z1 z2 : Value) (ht : P.underlying t = some (.slice e)) (hv : ∀ w, (zeroValue e).run P w = .ok (.agg #[z1, z2]) w) (h1 : z1.oneCell' = true) (h2 : z2.oneCell' = true) (hzc : (Value.agg #[z1, z2]).cells = #[z1, z2]) (b o c : Nat)
    (hc : ∀ j, j < 2 → (w.cell? ⟨b, o + j, none⟩).isSome = true) (hf : ∀ j, j < 2 → w.frozen? ⟨b, o + j, none⟩ = false) :
    (Builtin.clear_ #[t] ty #[.slice (some ⟨b, o, none⟩) 1 c]).run P w = .ok (.tuple #[]) (w.setCells b o [z1, z2]) := by
  have hst := run_storeCells_cells (P := P) b o [z1, z2] 0 w (by simpa using hc) (by simpa using hf) (by intro v hv'; simp at hv'; rcases hv' with rfl | rfl <;> assumption)
  simp only [Nat.add_zero] at hst
  have hzz : (Builtin.zeroCells #[z1, z2] 1).toList = [z1, z2] := by simp [Builtin.zeroCells, List.range_succ]
  simp [Builtin.clear_, run_underlying ht, hv, hzc, hzz, hst]
theorem grown_tr {a w w' : World} {row : Option Nat} (h : a.grownBy w row) (k : w.grownBy w' row) : a.grownBy w' row :=
  ⟨k.os.trans h.os, k.tape.trans h.tape, k.output.trans h.output, Nat.le_trans h.size k.size, fun i hi hne => (k.block i (Nat.lt_of_lt_of_le hi h.size) hne).trans (h.block i hi hne)⟩
theorem grown_setCells (b : Nat) : ∀ (vs : List Value) (o : Nat) (w : World), w.grownBy (w.setCells b o vs) (some b)
  | [], _, _ => ⟨rfl, rfl, rfl, Nat.le_refl _, fun _ _ _ => rfl⟩
  | v :: vs, o, w => grown_tr (grown_set w b o v) (grown_setCells b vs (o + 1) _)
end
theorem dropP_at (P : List (Int × Int)) (e j : Nat) (he : e < P.length) : (dropP P e)[j]? = if j < e then P[j]? else P[j + 1]? := by
  unfold dropP
  have hl : (P.take e).length = e := by rw [List.length_take]; omega
  by_cases h : j < e
  · rw [if_pos h, List.getElem?_append_left (by omega), List.getElem?_take, if_pos h]
  · rw [if_neg h, List.getElem?_append_right (by omega), hl, List.getElem?_drop]; congr 1; omega
theorem zeroP (w : World) : (zeroValue 25).run Try.prog w = .ok (.agg #[.int .i64 0, .int .i64 0]) w := by kernel_rfl
set_option maxHeartbeats 12800000 in
set_option maxRecDepth 100000 in
theorem pdelete_any (base g cap : Nat) (P : List (Int × Int)) (hPl : P.length ≤ 5000000) (e : Nat) (he : e < P.length) (w : World) (hown : w.ownsRow base 25 2 (.slice (some ⟨g, 0, none⟩) P.length cap) P.length (flat encP P)) :
    Calls Try.prog 57 #[.slice (some ⟨g, 0, none⟩) P.length cap, .int .i64 e, .int .i64 ((e : Int) + 1)] w (fun r w' => r = .returned (.slice (some ⟨g, 0, none⟩) (dropP P e).length cap) ∧ PsAt w' (some ⟨g, 0, none⟩) (dropP P e) ∧ w.grownBy w' (some g)) := by
  obtain ⟨i0, hi0, hz0, hz1, hz2⟩ := info_parts infoP
  rcases hown.2 with ⟨h0, h1⟩ | ⟨g', cap', cur, hv, hbase, hg, hn, hcap, hcur, htake⟩
  · cases h0
  injection hv with hv1 hv2 hv3
  injection hv1 with hv1
  injection hv1 with hv1
  subst hv1 hv3
  have hgl : g < w.heap.size := (Array.getElem?_eq_some_iff.1 hg).1
  have hlen := dropP_len P e he
  have hcell : ∀ j, j < P.length * 2 → w.cell? ⟨g, j, none⟩ = (flat encP P)[j]? := fun j hj => hown.cellAt j hj
  have hfl : (flat encP P).length = P.length * 2 := flat_len encP_len P
  have hsome : ∀ j, j < P.length * 2 → (w.cell? ⟨g, j, none⟩).isSome = true := fun j hj => by
    rw [hcell j hj, List.getElem?_eq_getElem (by omega)]; rfl
  have hfro : ∀ j, w.frozen? ⟨g, j, none⟩ = false := fun j => by simp [World.frozen?, hg]
  obtain ⟨news, hnews⟩ : ∃ news, news = flat encP (P.drop (e + 1)) := ⟨_, rfl⟩
  have hnl : news.length = (P.length - (e + 1)) * 2 := by rw [hnews, flat_len encP_len, List.length_drop]
  have hget : ∀ t, t < news.length → news[t]? = (flat encP P)[(e + 1) * 2 + t]? := fun t ht => by
    have h2 : flat encP P = flat encP (P.take (e + 1)) ++ news := by rw [hnews, ← flat_append, List.take_append_drop]
    have h3 : (flat encP (P.take (e + 1))).length = (e + 1) * 2 := by rw [flat_len encP_len, List.length_take]; omega
    rw [h2, List.getElem?_append_right (by omega), h3]; congr 1; omega
  obtain ⟨A, hA, hsrc⟩ : ∃ A : Addr, (if cap = e + 1 then some (⟨g, 0, none⟩ : Addr) else some ⟨g, (e + 1) * 2, none⟩) = some A ∧ Hid (∀ t u, news[t]? = some u → w.drew.cell? (A.add t) = some u) := by
    by_cases h : cap = e + 1
    · refine ⟨⟨g, 0, none⟩, by simp [h], fun t u hu => ?_⟩
      have h0 : news.length = 0 := by rw [hnl]; omega
      rw [List.length_eq_zero_iff.1 h0] at hu
      simp at hu
    · refine ⟨⟨g, (e + 1) * 2, none⟩, by simp [h], fun t u hu => ?_⟩
      have ht : t < news.length := (List.getElem?_eq_some_iff.1 hu).1
      rw [hget t ht] at hu
      rw [Addr.add_lit]
      exact (hcell _ (by omega)).trans hu
  have s1 : Hid (news.length = (P.length - (e + 1)) * 2) := hnl
  have s2 : Hid (∀ u ∈ news, u.oneCell' = true) := by
    intro u hu
    rw [hnews] at hu
    unfold flat at hu
    obtain ⟨q, -, hq⟩ := List.mem_flatMap.1 hu
    simp only [encP, List.mem_cons, List.not_mem_nil, or_false] at hq
    rcases hq with rfl | rfl <;> rfl
  have s3 : Hid (∀ t, t < news.length → (w.drew.cell? ⟨g, 0 + e * 2 + t, none⟩).isSome = true ∧ w.drew.frozen? ⟨g, 0 + e * 2 + t, none⟩ = false) := by
    intro t ht
    exact ⟨hsome _ (by omega), hfro _⟩
  obtain ⟨W1, hW1⟩ : ∃ W1, W1 = w.drew.setCells g (0 + e * 2) news := ⟨_, rfl⟩
  have hc1 : ∀ j, j < P.length * 2 → (W1.cell? ⟨g, j, none⟩).isSome = true := fun j hj => by
    rw [hW1]
    by_cases h : e * 2 ≤ j ∧ j < e * 2 + news.length
    · have := World.cell?_setCells_in g news (0 + e * 2) w.drew (fun t ht => (s3 t ht).1) (j - e * 2) (by omega)
      rw [show 0 + e * 2 + (j - e * 2) = j by omega] at this
      rw [this]; rfl
    · rw [World.cell?_setCells_out g news (0 + e * 2) w.drew ⟨g, j, none⟩ (fun _ _ => by show j < _ ∨ _ ≤ j; omega)]
      exact hsome j hj
  have hf1 : ∀ j, W1.frozen? ⟨g, j, none⟩ = false := fun j => by rw [hW1, World.frozen?_setCells]; exact hfro j
  have hcl : ∀ ty, (Builtin.clear_ #[56] ty #[.slice (some ⟨g, (e + (P.length - (e + 1))) * 2, none⟩) (P.length - (e + (P.length - (e + 1)))) (cap - (e + (P.length - (e + 1))))]).run Try.prog W1 = .ok (.tuple #[]) (W1.setCells g ((e + (P.length - (e + 1))) * 2) [.int .i64 0, .int .i64 0]) :=
    fun ty => by rw [show P.length - (e + (P.length - (e + 1))) = 1 by omega]; exact run_clear_two W1 _ 25 ty _ _ Try.underlying56 zeroP rfl rfl rfl g _ _ (fun j hj => hc1 _ (by omega)) (fun j _ => hf1 _)
  have HEND : Hid (PsAt (W1.setCells g ((e + (P.length - (e + 1))) * 2) [.int .i64 0, .int .i64 0]) (some ⟨g, 0, none⟩) (dropP P e) ∧ w.grownBy (W1.setCells g ((e + (P.length - (e + 1))) * 2) [.int .i64 0, .int .i64 0]) (some g)) := by
    have hgd : w.grownBy w.drew (some g) := ⟨rfl, rfl, rfl, Nat.le_refl _, fun _ _ _ => rfl⟩
    have hgr : w.grownBy (W1.setCells g ((e + (P.length - (e + 1))) * 2) [.int .i64 0, .int .i64 0]) (some g) := by
      rw [hW1]; exact grown_tr (grown_tr hgd (grown_setCells g news _ _)) (grown_setCells g _ _ _)
    refine ⟨fun j hj => ⟨g, 0, rfl, Nat.lt_of_lt_of_le hgl hgr.size, fun i hi => ?_⟩, hgr⟩
    have hj1 : j + 1 < P.length := by omega
    rw [World.cell?_setCells_out g _ _ W1 ⟨g, 0 + j * 2 + i, none⟩ (fun _ _ => by show 0 + j * 2 + i < _ ∨ _; omega)]
    have hd := dropP_at P e j he
    rw [List.getElem?_eq_getElem hj] at hd
    rw [hW1]
    by_cases h : j < e
    · rw [if_pos h, List.getElem?_eq_getElem (by omega)] at hd
      injection hd with hd
      rw [World.cell?_setCells_out g news (0 + e * 2) w.drew ⟨g, 0 + j * 2 + i, none⟩ (fun _ _ => by show 0 + j * 2 + i < _ ∨ _; omega), hd]
      have := flat_at (k := 2) (enc := encP) encP_len P j i (by omega) hi
      rw [← this, Nat.zero_add]
      exact hcell _ (by omega)
    · rw [if_neg h, List.getElem?_eq_getElem hj1] at hd
      injection hd with hd
      have h4 := World.cell?_setCells_in g news (0 + e * 2) w.drew (fun t ht => (s3 t ht).1) ((j - e) * 2 + i) (by omega)
      rw [show 0 + e * 2 + ((j - e) * 2 + i) = 0 + j * 2 + i by omega] at h4
      rw [h4, hd, ← List.getElem?_eq_getElem, hget _ (by omega), show (e + 1) * 2 + ((j - e) * 2 + i) = (j + 1) * 2 + i by omega]
      exact flat_at (k := 2) (enc := encP) encP_len P (j + 1) i hj1 hi
  have HW1 : Hid (W1 = w.drew.setCells g (0 + e * 2) news) := hW1
  have HLN : Hid ((dropP P e).length = e + (P.length - (e + 1))) := Lib.hid (by omega)
  generalize (dropP P e).length = dl at *
  have hec : e ≤ cap := by omega
  have hec1 : e + 1 ≤ cap := by omega
  have d1 : ((e : Int) == (e : Int) + 1) = false := by rw [beq_eq_false_iff_ne]; omega
  have mixed : Try.prog.follows .mixedOrders = true := by kernel_rfl
  have e1 : (0 : Int) ≤ (e : Int) + 1 := by omega
  have e2 : (e : Int) + 1 ≤ (P.length : Int) := by omega
  clear hW1 hc1 hf1 hget hnews hnl hcell hsome hfro hg hcur htake hown hfl hlen
  go_enter Try.func57, Try.ntmps57
  go_wp2_with fail
  go_region_law_o (refine step_append_room rfl (.tmp 22) (.tmp 25) 56 rfl 25 i0 2 Try.underlying56 hi0 hz1 g 0 e cap (by simp [Act.eval, Act.put]) A (P.length - (e + 1)) (cap - (e + 1)) news (by simp [Act.eval, Act.put]) s1.out hsrc.out s2.out (by omega) s3.out ?_; rw [← HW1.out])
  go_wp2
  go_ret
  exact ⟨by rw [HLN.out]; rfl, HEND.out.1, HEND.out.2⟩
end Go.Proofs.Ytndjjafpdiehdaa

namespace Go.Proofs.Ytndjjafpdiehdaa
open Go.RowKit Go.Shelf Go.Proofs.Gr
attribute [local go_sem] Oper.semAt_some

/-- The error of a graph and a single edge. -/
def sgE (n : Int) (L : List E) (e : Int) : Nat := if chkG n L ≠ 0 then chkG n L else if e < 0 ∨ ((endsG L).length : Int) ≤ e then 2 else 0
theorem sgE_zero {n : Int} {L : List E} {e : Int} (h : sgE n L e = 0) : chkG n L = 0 ∧ 0 ≤ e ∧ e < (endsG L).length := by
  unfold sgE at h
  split at h
  · omega
  · rename_i h1
    split at h
    · omega
    · omega
set_option maxHeartbeats 6400000 in
set_option maxRecDepth 100000 in
theorem endsWith_any (n : Int) (a : Option Addr) (cap : Nat) (L : List E) (hL : L.length ≤ 100000) (e : Int) (w : World) (h : EsAt w a L) :
    Calls Try.prog 55 #[gv n a L.length cap, .int .i64 e] w (GivesPO w (if sgE n L e = 0 then endsG L else []) (sgE n L e)) := by
  have HC := Lib.hid (fun w h => pendsO_any n a cap L hL w h)
  obtain ⟨W, hW⟩ : ∃ W, W = w.alloc (Obj.cells #[.int .i64 n, .slice a L.length cap] 24) := ⟨_, rfl⟩
  have hB0 : Below w.heap.size w W := by rw [hW]; exact (Below.refl _ w).alloc (Nat.le_refl _) _
  have hG : Blk W w.heap.size 24 #[.int .i64 n, .slice a L.length cap] := by rw [hW]; exact Blk.new _ _ _
  have HW := Lib.hid hW
  have HB0 := Lib.hid hB0
  have HE := Lib.hid (h.keep hB0)
  have g0 : W.cell? ⟨w.heap.size, 0, none⟩ = some (.int .i64 n) := hG.cell 0
  have g1 : W.cell? ⟨w.heap.size, 1, none⟩ = some (.slice a L.length cap) := hG.cell 1
  clear hB0 hG hW h
  by_cases h0 : chkG n L = 0
  · have hln : (endsG L).length ≤ 5000000 := by have := ends_all (right_of h0); omega
    rw [h0] at HC
    rw [if_pos rfl] at HC
    by_cases h1 : e < 0 ∨ ((endsG L).length : Int) ≤ e
    · have hk : sgE n L e = 2 := by unfold sgE; rw [if_neg (by omega), if_pos h1]
      rw [hk, if_neg (by omega)]
      clear hk h0
      generalize endsG L = P at *
      unfold GivesPO gv at *
      by_cases h2 : e < 0
      · have d1 : decide (e < 0) = true := decide_eq_true h2
        clear h1
        go_enter Try.func55, Try.ntmps55
        go_wp2_with fail
        rw [← HW.out]
        refine (HC.out _ HE.out).mono ?_
        rintro r w1 ⟨a1, c1, rfl, -, -, hb⟩
        have HEND := Lib.hid (HB0.out.trans (hb.mono HB0.out.size))
        clear hb g0 g1
        go_wp2
        go_ret2
        exact ⟨none, 0, rfl, RowAt.nil _ _ _ _, World.ownsRow_nil _ _ _ _, HEND.out⟩
      · have d1 : decide (e < 0) = false := decide_eq_false h2
        have d2 : ((P.length : Nat) : Int) ≤ e := by omega
        clear h1
        go_enter Try.func55, Try.ntmps55
        go_wp2_with fail
        rw [← HW.out]
        refine (HC.out _ HE.out).mono ?_
        rintro r w1 ⟨a1, c1, rfl, -, -, hb⟩
        have HEND := Lib.hid (HB0.out.trans (hb.mono HB0.out.size))
        clear hb g0 g1
        go_wp2
        go_ret2
        exact ⟨none, 0, rfl, RowAt.nil _ _ _ _, World.ownsRow_nil _ _ _ _, HEND.out⟩
    · have hk : sgE n L e = 0 := by unfold sgE; rw [if_neg (by omega), if_neg h1]
      rw [hk, if_pos rfl]
      clear hk h0
      generalize endsG L = P at *
      unfold GivesPO gv at *
      have d1 : decide (e < 0) = false := decide_eq_false (by omega)
      have d2 : ¬ ((P.length : Nat) : Int) ≤ e := by omega
      clear h1
      go_enter Try.func55, Try.ntmps55
      go_wp2_with fail
      rw [← HW.out]
      refine (HC.out _ HE.out).mono ?_
      rintro r w1 ⟨a1, c1, rfl, hp, hown, hb⟩
      have HEND := Lib.hid (HB0.out.trans (hb.mono HB0.out.size))
      have HP := Lib.hid hp
      have HO := Lib.hid (World.ownsRow.mono hown HB0.out.size)
      clear hb g0 g1 hp hown
      go_wp2
      go_ret2
      exact ⟨a1, c1, rfl, HP.out, HO.out, HEND.out⟩
  · have hk : sgE n L e = chkG n L := by unfold sgE; rw [if_pos h0]
    rw [if_neg h0] at HC
    rw [hk, if_neg h0]
    clear hk
    generalize chkG n L = k at *
    have q0 : (((k : Nat) : Int) != 0) = true := by rw [bne_iff_ne]; omega
    unfold GivesPO gv at *
    go_enter Try.func55, Try.ntmps55
    go_wp2_with fail
    rw [← HW.out]
    refine (HC.out _ HE.out).mono ?_
    rintro r w1 ⟨a1, c1, rfl, -, -, hb⟩
    have HEND := Lib.hid (HB0.out.trans (hb.mono HB0.out.size))
    clear hb g0 g1
    go_wp2
    go_ret2
    exact ⟨none, 0, rfl, RowAt.nil _ _ _ _, World.ownsRow_nil _ _ _ _, HEND.out⟩
end Go.Proofs.Ytndjjafpdiehdaa

namespace Go.Proofs.Ytndjjafpdiehdaa
open Go.RowKit Go.Shelf Go.Proofs.Gr
attribute [local go_sem] Oper.semAt_some

/-- Hands back a graph and an error's number. -/
def GivesGW (w : World) (m : Int) (J : List E) (k : Nat) (e : Ending) (w' : World) : Prop := ∃ a c, e = .returned (.tuple #[.agg #[.int .i64 m, .slice a J.length c], .int .i64 (k : Int)]) ∧ EsAt w' a J ∧ Below w.heap.size w w'
/-- How a graph is made of ends. -/
def Makes (n : Int) (Q : List (Int × Int)) (m : Int) (J : List E) (k : Nat) : Prop := J.length ≤ 100000 ∧ (∀ b cp w, PsAt w b Q → Calls Try.prog 56 #[.int .i64 n, .slice b Q.length cp] w (GivesGE w m J k)) ∧ (∀ b cp w, PsAt w b Q → Calls Try.prog 65 #[.int .i64 n, .slice b Q.length cp] w (GivesGE w m J k))
theorem tail_facts (x : World) (B kb w0 : Nat) (m : Int) (J : List E) (a2 : Option Addr) (c2 : Nat) (he : x.ownsRow B 75 3 (.slice a2 J.length c2) J.length (flat encE J)) (hlt : kb < B) (hR : Blk x kb 24 #[.int .i64 0, .slice none 0 0]) :
    x.cell? ⟨kb, 0, none⟩ = some (.int .i64 0) ∧ x.frozen? ⟨kb, 0, none⟩ = false ∧ (x.setCell ⟨kb, 0, none⟩ (.int .i64 m)).cell? ⟨kb, 1, none⟩ = some (.slice none 0 0) ∧ (x.setCell ⟨kb, 0, none⟩ (.int .i64 m)).frozen? ⟨kb, 1, none⟩ = false
    ∧ ((x.setCell ⟨kb, 0, none⟩ (.int .i64 m)).setCell ⟨kb, 1, none⟩ (.slice a2 J.length c2)).cell? ⟨kb, 0, none⟩ = some (.int .i64 m) ∧ ((x.setCell ⟨kb, 0, none⟩ (.int .i64 m)).setCell ⟨kb, 1, none⟩ (.slice a2 J.length c2)).cell? ⟨kb, 1, none⟩ = some (.slice a2 J.length c2)
    ∧ EsAt ((x.setCell ⟨kb, 0, none⟩ (.int .i64 m)).setCell ⟨kb, 1, none⟩ (.slice a2 J.length c2)) a2 J ∧ ∀ w, Below w0 w x → w0 ≤ kb → Below w0 w ((x.setCell ⟨kb, 0, none⟩ (.int .i64 m)).setCell ⟨kb, 1, none⟩ (.slice a2 J.length c2)) := by
  have e0 := ownsRow_setCell_below (ownsRow_setCell_below he (a := ⟨kb, 0, none⟩) hlt (.int .i64 m)) (a := ⟨kb, 1, none⟩) hlt (.slice a2 J.length c2)
  obtain ⟨a', c', e1, e2⟩ := RowAt.of_own encE_len3 e0
  injection e1 with q1 q2 q3
  rw [← q1] at e2
  have hRf := (hR.set_ 0 (.int .i64 m)).set_ 1 (.slice a2 J.length c2)
  exact ⟨hR.cell 0, hR.frozen 0, (hR.set_ 0 (.int .i64 m)).cell 1, (hR.set_ 0 (.int .i64 m)).frozen 1, hRf.cell 0, hRf.cell 1, e2, fun w hw hk => (hw.setCell (p := ⟨kb, 0, none⟩) hk _).setCell (p := ⟨kb, 1, none⟩) hk _⟩
set_option maxHeartbeats 12800000 in
set_option maxRecDepth 100000 in
theorem pDelete_err (n : Int) (a : Option Addr) (cap : Nat) (L : List E) (hL : L.length ≤ 100000) (e : Int) (hk : sgE n L e ≠ 0) (w : World) (h : EsAt w a L) :
    Calls Try.prog 13 #[gv n a L.length cap, .int .i64 e] w (GivesGW w 0 [] (sgE n L e)) := by
  have HC := Lib.hid (fun w h => endsWith_any n a cap L hL e w h)
  rw [if_neg hk] at HC
  generalize sgE n L e = k at *
  have q0 : (((k : Nat) : Int) != 0) = true := by rw [bne_iff_ne]; omega
  unfold GivesGW gv at *
  unfold GivesPO at HC
  obtain ⟨W, hW⟩ : ∃ W, W = (w.alloc (Obj.cells #[.int .i64 n, .slice a L.length cap] 24)).alloc (Obj.cells #[.int .i64 0, .slice none 0 0] 24) := ⟨_, rfl⟩
  have hB0 : Below w.heap.size w W := by rw [hW]; exact ((Below.refl _ w).alloc (Nat.le_refl _) _).alloc (by simp) _
  have hG : Blk W w.heap.size 24 #[.int .i64 n, .slice a L.length cap] := by rw [hW]; exact (Blk.new _ _ _).alloc _
  have hWs : W.heap.size = w.heap.size + 2 := by rw [hW]; simp
  have hR : Blk W (w.heap.size + 1) 24 #[.int .i64 0, .slice none 0 0] := by
    rw [hW]
    have := Blk.new (w.alloc (Obj.cells #[.int .i64 n, .slice a L.length cap] 24)) 24 #[.int .i64 0, .slice none 0 0]
    rwa [World.size_alloc] at this
  have HR1 := Lib.hid hR
  have HW := Lib.hid hW
  have HWS := Lib.hid hWs
  have HB0 := Lib.hid hB0
  have HE := Lib.hid (h.keep hB0)
  have HF : Hid (∀ u, Below W.heap.size W u → u.cell? ⟨w.heap.size, 0, none⟩ = some (.int .i64 n) ∧ u.cell? ⟨w.heap.size, 1, none⟩ = some (.slice a L.length cap)) := Lib.hid fun u hu => ⟨(hG.below hu hG.lt).cell 0, (hG.below hu hG.lt).cell 1⟩
  obtain ⟨g0, g1⟩ := HF.out W (Below.refl _ _)
  clear hB0 hG hW hWs h hR
  go_enter Try.func13, Try.ntmps13
  go_wp2_with fail
  rw [← HW.out]
  refine (HC.out _ HE.out).mono ?_
  rintro r w1 ⟨a1, c1, rfl, -, -, hb⟩
  clear g0 g1
  have hRr : Blk w1 (w.heap.size + 1) 24 #[.int .i64 0, .slice none 0 0] := HR1.out.below hb HR1.out.lt
  have r1 : w1.cell? ⟨w.heap.size + 1, 0, none⟩ = some (.int .i64 0) := hRr.cell 0
  have r3 : w1.frozen? ⟨w.heap.size + 1, 0, none⟩ = false := hRr.frozen 0
  have r2 : w1.cell? ⟨w.heap.size + 1, 1, none⟩ = some (.slice none 0 0) := hRr.cell 1
  have r4 : w1.frozen? ⟨w.heap.size + 1, 1, none⟩ = false := hRr.frozen 1
  have r7 : (w1.setCell ⟨w.heap.size + 1, 0, none⟩ (.int .i64 0)).cell? ⟨w.heap.size + 1, 1, none⟩ = some (.slice none 0 0) := (hRr.set_ 0 (.int .i64 0)).cell 1
  have r8 : (w1.setCell ⟨w.heap.size + 1, 0, none⟩ (.int .i64 0)).frozen? ⟨w.heap.size + 1, 1, none⟩ = false := (hRr.set_ 0 (.int .i64 0)).frozen 1
  have HEND := Lib.hid (HB0.out.trans (hb.mono HB0.out.size))
  have HEND2 := Lib.hid ((HEND.out.setCell (p := ⟨w.heap.size + 1, 0, none⟩) (by show w.heap.size ≤ w.heap.size + 1; omega) (.int .i64 0)).setCell (p := ⟨w.heap.size + 1, 1, none⟩) (by show w.heap.size ≤ w.heap.size + 1; omega) (.slice none 0 0))
  have r5 : ((w1.setCell ⟨w.heap.size + 1, 0, none⟩ (.int .i64 0)).setCell ⟨w.heap.size + 1, 1, none⟩ (.slice none 0 0)).cell? ⟨w.heap.size + 1, 0, none⟩ = some (.int .i64 0) := ((hRr.set_ 0 (.int .i64 0)).set_ 1 (.slice none 0 0)).cell 0
  have r6 : ((w1.setCell ⟨w.heap.size + 1, 0, none⟩ (.int .i64 0)).setCell ⟨w.heap.size + 1, 1, none⟩ (.slice none 0 0)).cell? ⟨w.heap.size + 1, 1, none⟩ = some (.slice none 0 0) := ((hRr.set_ 0 (.int .i64 0)).set_ 1 (.slice none 0 0)).cell 1
  clear hRr hb
  go_wp2
  refine bodyPost_ret (v := .tuple #[.agg #[.int .i64 0, .slice none 0 0], .int .i64 (k : Nat)]) (by simp [results, Try.results13, go_sem, r5, r6]) rfl ?_
  exact ⟨none, 0, rfl, RowAt.nil _ _ _ _, by first | exact HEND2.out | exact HEND.out⟩
set_option maxHeartbeats 12800000 in
set_option maxRecDepth 100000 in
theorem pDelete_ok (n : Int) (a : Option Addr) (cap : Nat) (L : List E) (hL : L.length ≤ 100000) (e : Nat) (hk : sgE n L e = 0) (m : Int) (J : List E) (k : Nat) (hM : Makes n (dropP (endsG L) e) m J k) (w : World) (h : EsAt w a L) :
    Calls Try.prog 13 #[gv n a L.length cap, .int .i64 e] w (GivesGW w m J k) := by
  have HC := Lib.hid (fun w h => endsWith_any n a cap L hL e w h)
  obtain ⟨hJl, hM, -⟩ := hM
  obtain ⟨h0, -, he⟩ := sgE_zero hk
  have hln : (endsG L).length ≤ 5000000 := by have := ends_all (right_of h0); omega
  rw [hk, if_pos rfl] at HC
  generalize endsG L = P at *
  have hep : e < P.length := by omega
  have HD := Lib.hid (fun base g c w hown => pdelete_any base g c P hln e hep w hown)
  have HM := Lib.hid hM
  generalize dropP P e = Q at *
  unfold GivesGW gv at *
  unfold GivesGE gv at *
  unfold GivesPO at HC
  clear hM h0 hk he
  obtain ⟨W, hW⟩ : ∃ W, W = (w.alloc (Obj.cells #[.int .i64 n, .slice a L.length cap] 24)).alloc (Obj.cells #[.int .i64 0, .slice none 0 0] 24) := ⟨_, rfl⟩
  have hB0 : Below w.heap.size w W := by rw [hW]; exact ((Below.refl _ w).alloc (Nat.le_refl _) _).alloc (by simp) _
  have hG : Blk W w.heap.size 24 #[.int .i64 n, .slice a L.length cap] := by rw [hW]; exact (Blk.new _ _ _).alloc _
  have hWs : W.heap.size = w.heap.size + 2 := by rw [hW]; simp
  have hR : Blk W (w.heap.size + 1) 24 #[.int .i64 0, .slice none 0 0] := by
    rw [hW]
    have := Blk.new (w.alloc (Obj.cells #[.int .i64 n, .slice a L.length cap] 24)) 24 #[.int .i64 0, .slice none 0 0]
    rwa [World.size_alloc] at this
  have HR1 := Lib.hid hR
  have HW := Lib.hid hW
  have HWS := Lib.hid hWs
  have HB0 := Lib.hid hB0
  have HE := Lib.hid (h.keep hB0)
  have HF : Hid (∀ u, Below W.heap.size W u → u.cell? ⟨w.heap.size, 0, none⟩ = some (.int .i64 n) ∧ u.cell? ⟨w.heap.size, 1, none⟩ = some (.slice a L.length cap)) := Lib.hid fun u hu => ⟨(hG.below hu hG.lt).cell 0, (hG.below hu hG.lt).cell 1⟩
  obtain ⟨g0, g1⟩ := HF.out W (Below.refl _ _)
  clear hB0 hG hW hWs h hR
  go_enter Try.func13, Try.ntmps13
  go_wp2_with fail
  rw [← HW.out]
  refine (HC.out _ HE.out).mono ?_
  rintro r w1 ⟨a1, c1, rfl, -, hown, hb⟩
  clear g0 g1
  obtain ⟨g, c9, hv⟩ := own_pos hown (by omega)
  injection hv with e1 e2 e3
  subst e1 e3
  have hwd := own_keep hown (Below.refl w1.heap.size w1).drew
  have hgW := (hown.lt g rfl).1
  have HD2 := Lib.hid (fun g c w hown => HD.out W.heap.size g c w hown)
  clear hown
  have hw1 : IntKind.i64.wrap ((e : Int) + 1) = (e : Int) + 1 := by rw [IntKind.wrap_i64]; omega
  go_wp2_with fail
  have hj0 : Below W.heap.size W w1.drew := hb.drew
  refine wp_region_late (S := fun u => Below W.heap.size W u) (X := [10]) (by kernel_rfl) ?_
  clear hb
  refine wpAnyL_pureD (i := 0) 18 (.pointer (some ⟨w.heap.size, 0, none⟩)) rfl rfl (by kernel_rfl) (by kernel_rfl) (by kernel_rfl) (fun _ _ _ h => h) (Or.inl ⟨by rfl, fun u _ => ?_⟩) ?_
  · go_simp
  try simp only [Act.put, List.setIfInBounds_toArray, List.set_cons_zero, List.set_cons_succ]
  refine wpAnyL_takeD (i := 1) 19 (.int .i64 n) rfl rfl (by kernel_rfl) (by kernel_rfl) (by kernel_rfl) (by kernel_rfl) (by kernel_rfl) (fun _ _ _ h => h) hj0 (Or.inl ⟨by rfl, fun u hu => ?_⟩) ?_
  · obtain ⟨t0, t1⟩ := HF.out u hu
    go_simp
  try simp only [Act.put, List.setIfInBounds_toArray, List.set_cons_zero, List.set_cons_succ]
  refine wpAnyL_pureD (i := 2) 20 (.slice (some ⟨g, 0, none⟩) P.length c1) rfl rfl (by kernel_rfl) (by kernel_rfl) (by kernel_rfl) (fun _ _ _ h => h) (Or.inl ⟨by rfl, fun u _ => ?_⟩) ?_
  · go_simp
  try simp only [Act.put, List.setIfInBounds_toArray, List.set_cons_zero, List.set_cons_succ]
  refine wpAnyL_pureD (i := 3) 21 (.int .i64 e) rfl rfl (by kernel_rfl) (by kernel_rfl) (by kernel_rfl) (fun _ _ _ h => h) (Or.inl ⟨by rfl, fun u _ => ?_⟩) ?_
  · go_simp
  try simp only [Act.put, List.setIfInBounds_toArray, List.set_cons_zero, List.set_cons_succ]
  refine wpAnyL_pureD (i := 4) 22 (.int .i64 e) rfl rfl (by kernel_rfl) (by kernel_rfl) (by kernel_rfl) (fun _ _ _ h => h) (Or.inl ⟨by rfl, fun u _ => ?_⟩) ?_
  · go_simp
  try simp only [Act.put, List.setIfInBounds_toArray, List.set_cons_zero, List.set_cons_succ]
  refine wpAnyL_pureD (i := 5) 23 (.int .i64 ((e : Int) + 1)) rfl rfl (by kernel_rfl) (by kernel_rfl) (by kernel_rfl) (fun _ _ _ h => h) (Or.inl ⟨by rfl, fun u _ => ?_⟩) ?_
  · go_simp
  try simp only [Act.put, List.setIfInBounds_toArray, List.set_cons_zero, List.set_cons_succ]
  refine wpAnyL_one (i := 6) (by kernel_rfl) rfl (fun K hK => ?_)
  go_simp
  go_at_call 57
  refine (HD2.out g c1 _ hwd).mono ?_
  rintro r x2 ⟨rfl, hps, hgr⟩
  have hj2 : Below W.heap.size W x2 := hj0.grown hgr hj0.size (fun k hk => by injection hk with hk; omega)
  clear hgr hwd hj0
  show K _ _
  refine hK.out _ _ (fun _ _ => hj2) ?_
  clear hK K
  try simp only [Act.put, List.setIfInBounds_toArray, List.set_cons_zero, List.set_cons_succ]
  refine wpAnyL_one (i := 7) (by kernel_rfl) rfl (fun K hK => ?_)
  go_simp
  go_at_call 56
  refine (HM.out _ _ _ hps).mono ?_
  rintro r x3 ⟨a2, c2, rfl, -, he2, hb3⟩
  have hj3 : Below W.heap.size W x3 := hj2.trans (hb3.mono hj2.size)
  clear hps hb3
  have hRr : Blk x3 (w.heap.size + 1) 24 #[.int .i64 0, .slice none 0 0] := HR1.out.below hj3 HR1.out.lt
  obtain ⟨r1, r3, r2, r4, r5, r6, hes, hbf⟩ := tail_facts x3 x2.heap.size (w.heap.size + 1) w.heap.size m J a2 c2 he2 (by have := hj2.size; have := HWS.out; omega) hRr
  have HES := Lib.hid hes
  have HBF := Lib.hid (hbf w (HB0.out.trans (hj3.mono HB0.out.size)) (by omega))
  clear hRr hes hbf
  show K _ _
  refine hK.out _ _ (fun _ _ => hj3) ?_
  clear hK K
  try simp only [Act.put, List.setIfInBounds_toArray, List.set_cons_zero, List.set_cons_succ]
  refine wpAnyL_pureD (i := 8) 26 (.agg #[.int .i64 m, .slice a2 J.length c2]) rfl rfl (by kernel_rfl) (by kernel_rfl) (by kernel_rfl) (fun _ _ _ h => h) (Or.inl ⟨by rfl, fun u _ => ?_⟩) ?_
  · go_simp
  try simp only [Act.put, List.setIfInBounds_toArray, List.set_cons_zero, List.set_cons_succ]
  refine wpAnyL_pureD (i := 9) 27 (.int .i64 (k : Nat)) rfl rfl (by kernel_rfl) (by kernel_rfl) (by kernel_rfl) (fun _ _ _ h => h) (Or.inl ⟨by rfl, fun u _ => ?_⟩) ?_
  · go_simp
  try simp only [Act.put, List.setIfInBounds_toArray, List.set_cons_zero, List.set_cons_succ]
  refine wpAnyL_one (i := 10) (by kernel_rfl) rfl (fun K hK => ?_)
  go_simp
  refine hK.out _ _ (fun h => absurd (by decide) h) ?_
  clear hK K
  try simp only [Act.put, List.setIfInBounds_toArray, List.set_cons_zero, List.set_cons_succ]
  refine wpAnyL_pureD (i := 11) 5 (.int .i64 (k : Nat)) rfl rfl (by kernel_rfl) (by kernel_rfl) (by kernel_rfl) (fun _ _ _ h => h) (Or.inl ⟨by rfl, fun u _ => ?_⟩) ?_
  · go_simp
  try simp only [Act.put, List.setIfInBounds_toArray, List.set_cons_zero, List.set_cons_succ]
  refine wpAnyL_done (by kernel_rfl) ?_ _
  try simp only [Act.put, List.setIfInBounds_toArray, List.set_cons_zero, List.set_cons_succ]
  go_wp2
  refine bodyPost_ret (v := .tuple #[.agg #[.int .i64 m, .slice a2 J.length c2], .int .i64 ((k : Nat) : Int)]) (by simp [results, Try.results13, go_sem, r5, r6]) rfl ?_
  exact ⟨a2, c2, rfl, HES.out, HBF.out⟩
end Go.Proofs.Ytndjjafpdiehdaa

namespace Go.Proofs.Ytndjjafpdiehdaa
open Go.Proofs.Gr

theorem cutI_count (g : (Int × Int) → Bool) (P : List (Int × Int)) (k : Nat) (hk : k ≤ P.length) : (cutI (fun e => g (pAt P e)) k).length = ((P.take k).filter g).length := by
  induction k with
  | zero => rfl
  | succ k ih =>
    rw [cutI, List.length_append, ih (by omega), List.take_succ_eq_append_getElem (by omega), List.filter_append, List.length_append, pAt_get P k (by omega)]
    congr 1
    cases hg : g (pAt P k) <;> simp [hg]
theorem ends_count (g : (Int × Int) → Bool) {n : Int} {L : List E} (h : ∀ e ∈ L, 0 ≤ e.a ∧ e.a ≤ e.b ∧ e.b < n ∧ 1 ≤ e.m ∧ e.m ≤ 50) : (((endsG L).filter g).length : Int) = sumL (fun e => if g (e.a, e.b) = true then e.m else 0) L := by
  induction L with
  | nil => rfl
  | cons e r ih =>
    have h1 := ih (fun x hx => h x (by simp [hx]))
    have h2 := h e (by simp)
    have e1 : endsG (e :: r) = List.replicate e.m.toNat (e.a, e.b) ++ endsG r := by unfold endsG; rw [List.flatMap_cons]
    rw [e1, List.filter_append, List.length_append, sumL, ← h1, Int.natCast_add]
    congr 1
    cases hg : g (e.a, e.b) with
    | true => rw [List.filter_replicate_of_pos hg, List.length_replicate, if_pos rfl]; omega
    | false => rw [List.filter_replicate_of_neg (by rw [hg]; decide)]; simp
theorem cut_count {n : Int} {L : List E} (h : ∀ e ∈ L, 0 ≤ e.a ∧ e.a ≤ e.b ∧ e.b < n ∧ 1 ≤ e.m ∧ e.m ≤ 50) (S : List Int) : ((cutG L S).length : Int) = sumL (fun e => if outB S (e.a, e.b) = true then e.m else 0) L := by
  unfold cutG
  rw [cutI_count (outB S) (endsG L) _ (Nat.le_refl _), List.take_length]
  exact ends_count (outB S) h
theorem sumL_congr (f g : E → Int) (L : List E) (h : ∀ e ∈ L, f e = g e) : sumL f L = sumL g L := by
  induction L with
  | nil => rfl
  | cons e r ih => rw [sumL, sumL, ih (fun x hx => h x (by simp [hx])), h e (by simp)]
theorem sumL_add (f g : E → Int) (L : List E) : sumL (fun e => f e + g e) L = sumL f L + sumL g L := by
  induction L with
  | nil => rfl
  | cons e r ih => rw [sumL, sumL, sumL, ih]; omega
theorem sumL_map (f : E → Int) (g : E → E) (L : List E) : sumL f (L.map g) = sumL (fun e => f (g e)) L := by
  induction L with
  | nil => rfl
  | cons e r ih => rw [List.map_cons, sumL, sumL, ih]
theorem sumL_filter (f : E → Int) (p : E → Bool) (L : List E) : sumL f (L.filter p) = sumL (fun e => if p e = true then f e else 0) L := by
  induction L with
  | nil => rfl
  | cons e r ih =>
    rw [List.filter_cons, sumL]
    cases hp : p e with
    | true => rw [if_pos rfl, if_pos rfl, sumL, ih]
    | false => rw [if_neg (by decide), if_neg (by decide), ih]; omega
/-- The induced graph, edge by edge. -/
def bothB (S : List Int) (e : E) : Bool := S.contains e.a && S.contains e.b
def reE (S : List Int) (e : E) : E := ⟨ixZ S e.a, ixZ S e.b, e.m⟩
theorem asc_ix {S : List Int} (hS : S.Pairwise (· < ·)) {x y : Int} (hx : S.contains x = true) (hy : S.contains y = true) : x < y ↔ ixZ S x < ixZ S y := by
  have h1 := ixZ_mem hx
  have h2 := ixZ_mem hy
  constructor
  · intro h
    refine Int.not_le.1 fun hle => ?_
    have h3 := asc_lt hS (i := (ixZ S y).toNat) (j := (ixZ S x).toNat) (by omega) (by omega) (by omega)
    rw [h1.2.2, h2.2.2] at h3
    omega
  · intro h
    have h3 := List.pairwise_iff_getElem.1 hS (ixZ S x).toNat (ixZ S y).toNat (by omega) (by omega) (by omega)
    rw [iAt_get, iAt_get, h1.2.2, h2.2.2] at h3
    exact h3
theorem ind_eq {n : Int} {L : List E} (hR : Right n L) {S : List Int} (hS : S.Pairwise (· < ·)) : indG L S = (L.filter (bothB S)).map (reE S) := by
  have hin : ∀ z ∈ S, S.contains z = true := fun z hz => by simpa using hz
  have hAt : ∀ i, i < S.length → S.contains (iAt S i) = true := fun i hi => by rw [← iAt_get S i hi]; simp
  refine ltE_ext (joinT_asc _ _ _) ?_ fun e => ?_
  · rw [List.pairwise_map]
    refine List.Pairwise.imp_of_mem ?_ (hR.srt.filter (p := bothB S))
    intro x y hx hy hxy
    have hx' := (List.mem_filter.1 hx).2
    have hy' := (List.mem_filter.1 hy).2
    simp only [bothB, Bool.and_eq_true] at hx' hy'
    have e1 := asc_ix hS hx'.1 hy'.1
    have e2 := asc_ix hS hy'.1 hx'.1
    have e3 := asc_ix hS hx'.2 hy'.2
    unfold reE
    simp only [ltE, Bool.or_eq_true, Bool.and_eq_true, decide_eq_true_eq] at hxy ⊢
    rcases hxy with h1 | ⟨h1, h2⟩
    · exact .inl (e1.1 h1)
    · exact .inr ⟨by rw [h1], e3.1 h2⟩
  · unfold indG
    rw [joinT_mem, List.mem_map]
    constructor
    · rintro ⟨a, b, h1, h2, h3, h4, rfl⟩
      have h0 := asc_lt hS h1 h2 h3
      have h5 : betw (iAt S a) (iAt S b) L = bet (iAt S a) (iAt S b) L := by unfold betw; rw [Int.min_eq_left h0, Int.max_eq_right h0]
      rw [h5] at h4 ⊢
      obtain ⟨x, hx, k1, k2⟩ := (bet_pos hR.rng _ _).1 h4
      obtain ⟨i, hi, rfl⟩ := mem_eAt hx
      have h7 := bet_first hR.srt i hi ⟨k1, k2⟩
      refine ⟨eAt L i, List.mem_filter.2 ⟨hx, ?_⟩, ?_⟩
      · unfold bothB; rw [k1, k2, hAt a h1, hAt b h2]; rfl
      · unfold reE
        rw [k1, k2, ixZ_at hS a h1, ixZ_at hS b h2, h7]
    · rintro ⟨x, hx, rfl⟩
      obtain ⟨hx1, hx2⟩ := List.mem_filter.1 hx
      simp only [bothB, Bool.and_eq_true] at hx2
      obtain ⟨i, hi, rfl⟩ := mem_eAt hx1
      have hr := hR.rng _ hx1
      have ha := ixZ_mem hx2.1
      have hb := ixZ_mem hx2.2
      have hab : ixZ S (eAt L i).a ≤ ixZ S (eAt L i).b := Int.not_lt.1 fun h => by
        have := (asc_ix hS hx2.2 hx2.1).2 h
        omega
      have h7 := bet_first hR.srt i hi ⟨rfl, rfl⟩
      have h8 : betw (iAt S (ixZ S (eAt L i).a).toNat) (iAt S (ixZ S (eAt L i).b).toNat) L = (eAt L i).m := by
        rw [ha.2.2, hb.2.2]
        unfold betw
        rw [Int.min_eq_left hr.2.1, Int.max_eq_right hr.2.1, h7]
      refine ⟨(ixZ S (eAt L i).a).toNat, (ixZ S (eAt L i).b).toNat, by omega, by omega, by omega, by rw [h8]; omega, ?_⟩
      rw [h8]
      unfold reE
      congr 1 <;> omega
theorem ind_size {n : Int} {L : List E} (hR : Right n L) {S : List Int} (hS : S.Pairwise (· < ·)) : sizeG (indG L S) = sumL (fun e => if bothB S e = true then e.m else 0) L := by
  rw [ind_eq hR hS]
  unfold sizeG
  rw [sumL_map, sumL_filter]
  rfl
theorem bet_max {n : Int} {L : List E} (hR : Right n L) (p q : Int) : bet p q L ≤ 50 := by
  by_cases h : 0 < bet p q L
  · obtain ⟨x, hx, k1, k2⟩ := (bet_pos hR.rng p q).1 h
    obtain ⟨i, hi, rfl⟩ := mem_eAt hx
    rw [bet_first hR.srt i hi ⟨k1, k2⟩]
    exact (hR.rng _ hx).2.2.2.2
  · omega
theorem ind_right {n : Int} {L : List E} (hR : Right n L) {S : List Int} (h0 : 1 ≤ S.length) (h1 : S.length ≤ 12) : Right S.length (indG L S) := joinT_right _ _ h0 h1 fun _ _ => bet_max hR _ _
/-- What degrees of a set add up to. -/
def degS (S : List Int) (e : E) : Int := (if S.contains e.a = true then e.m else 0) + (if S.contains e.b = true then e.m else 0)
theorem degS_eq {n : Int} {L : List E} (hR : Right n L) {S : List Int} (hS : S.Pairwise (· < ·)) : sumL (degS S) L = ((cutG L S).length : Int) + 2 * sizeG (indG L S) := by
  rw [cut_count hR.rng, ind_size hR hS]
  have : ∀ M : List E, sumL (degS S) M = sumL (fun e => if outB S (e.a, e.b) = true then e.m else 0) M + 2 * sumL (fun e => if bothB S e = true then e.m else 0) M := by
    intro M
    induction M with
    | nil => rfl
    | cons e r ih =>
      rw [sumL, sumL, sumL, ih]
      unfold degS outB bothB
      cases S.contains e.a <;> cases S.contains e.b <;> simp <;> omega
  exact this L
/-- The degree of one more vertex. -/
theorem degS_snoc {L : List E} (S : List Int) (v : Int) (hv : S.contains v = false) : sumL (degS (S ++ [v])) L = sumL (degS S) L + (sumL (othE v) L + 2 * sumL (loopE v) L) := by
  have hc : ∀ z, (S ++ [v]).contains z = (S.contains z || decide (z = v)) := fun z => by simp
  have key : ∀ e : E, degS (S ++ [v]) e = degS S e + (othE v e + 2 * loopE v e) := fun e => by
    unfold degS othE loopE
    rw [hc, hc]
    by_cases ha : e.a = v
    · by_cases hb : e.b = v
      · simp only [ha, hb, hv, and_self, if_true, decide_true, Bool.or_true]; simp <;> omega
      · simp only [ha, hb, hv, and_false, if_false, true_or, if_true, decide_true, decide_false, Bool.or_true, Bool.or_false]; simp; omega
    · by_cases hb : e.b = v
      · simp only [ha, hb, hv, false_and, if_false, or_true, if_true, decide_true, decide_false, Bool.or_true, Bool.or_false]; simp
      · simp only [ha, hb, false_and, or_self, if_false, decide_false, Bool.or_false]; omega
  induction L with
  | nil => rfl
  | cons e r ih => rw [sumL, sumL, sumL, sumL, ih, key]; omega
/-- The sets of a pattern. -/
def selS (p : Nat → Bool) : Nat → List Int
  | 0 => []
  | n + 1 => selS p n ++ (if p n = true then [(n : Int)] else [])
theorem selS_mem (p : Nat → Bool) (n : Nat) (z : Int) : z ∈ selS p n ↔ ∃ i : Nat, i < n ∧ p i = true ∧ z = i := by
  induction n with
  | zero => simp [selS]
  | succ n ih =>
    rw [selS, List.mem_append, ih]
    constructor
    · rintro (⟨i, h1, h2⟩ | h)
      · exact ⟨i, by omega, h2⟩
      · split at h
        · rename_i hp
          obtain rfl : z = n := by simpa using h
          exact ⟨n, by omega, hp, rfl⟩
        · simp at h
    · rintro ⟨i, h1, h2, rfl⟩
      by_cases e : i = n
      · subst e; right; rw [if_pos h2]; simp
      · exact .inl ⟨i, by omega, h2, rfl⟩
theorem selS_len (p : Nat → Bool) (n : Nat) : (selS p n).length ≤ n := by
  induction n with
  | zero => exact Nat.le_refl _
  | succ n ih => rw [selS, List.length_append]; split <;> simp <;> omega
theorem selS_asc (p : Nat → Bool) (n : Nat) : (selS p n).Pairwise (· < ·) := by
  induction n with
  | zero => exact List.Pairwise.nil
  | succ n ih =>
    rw [selS, List.pairwise_append]
    refine ⟨ih, by split <;> simp, fun x hx y hy => ?_⟩
    obtain ⟨i, h1, h2, rfl⟩ := (selS_mem p n x).1 hx
    split at hy
    · obtain rfl : y = n := by simpa using hy
      omega
    · simp at hy
theorem selS_sub (p : Nat → Bool) (n : Nat) : subE n (selS p n) = 0 := by
  unfold subE
  refine firstE_zero fun j hj => ?_
  have hm : iAt (selS p n) j ∈ selS p n := by rw [← iAt_get _ j hj]; exact List.getElem_mem hj
  obtain ⟨i, h1, h2, h3⟩ := (selS_mem p n _).1 hm
  unfold sErr
  rw [if_neg (by unfold isV; rw [h3]; simp; omega), if_neg]
  rintro ⟨k1, k2⟩
  have h4 := List.pairwise_iff_getElem.1 (selS_asc p n) (j - 1) j (by omega) hj (by omega)
  rw [iAt_get, iAt_get] at h4
  omega
theorem selS_not (p : Nat → Bool) (n : Nat) (z : Nat) (hz : z < n) : (selS (fun i => !p i) n).contains (z : Int) = !(selS p n).contains (z : Int) := by
  have h1 : (selS p n).contains (z : Int) = p z := by
    rw [Bool.eq_iff_iff]
    simp only [List.contains_iff_mem]
    rw [selS_mem]
    constructor
    · rintro ⟨i, k1, k2, k3⟩
      obtain rfl : z = i := by omega
      exact k2
    · exact fun h => ⟨z, hz, h, rfl⟩
  have h2 : (selS (fun i => !p i) n).contains (z : Int) = !p z := by
    rw [Bool.eq_iff_iff]
    simp only [List.contains_iff_mem]
    rw [selS_mem]
    constructor
    · rintro ⟨i, k1, k2, k3⟩
      obtain rfl : z = i := by omega
      exact k2
    · exact fun h => ⟨z, hz, h, rfl⟩
  rw [h1, h2]
theorem ends_rng {n : Int} {L : List E} (h : ∀ e ∈ L, 0 ≤ e.a ∧ e.a ≤ e.b ∧ e.b < n ∧ 1 ≤ e.m ∧ e.m ≤ 50) (p : Int × Int) (hp : p ∈ endsG L) : 0 ≤ p.1 ∧ p.1 ≤ p.2 ∧ p.2 < n := by
  unfold endsG at hp
  obtain ⟨e, he, h1⟩ := List.mem_flatMap.1 hp
  obtain rfl := (List.mem_replicate.1 h1).2
  have := h e he
  exact ⟨this.1, this.2.1, this.2.2.1⟩
theorem cutI_congr (f g : Nat → Bool) (n : Nat) (h : ∀ i, i < n → f i = g i) : cutI f n = cutI g n := by
  induction n with
  | zero => rfl
  | succ n ih => rw [cutI, cutI, ih (fun i hi => h i (by omega)), h n (by omega)]
theorem cut_not {N : Nat} {L : List E} (h : ∀ e ∈ L, 0 ≤ e.a ∧ e.a ≤ e.b ∧ e.b < (N : Int) ∧ 1 ≤ e.m ∧ e.m ≤ 50) (p : Nat → Bool) : cutG L (selS (fun i => !p i) N) = cutG L (selS p N) := by
  unfold cutG
  refine cutI_congr _ _ _ fun i hi => ?_
  have h1 := ends_rng h (pAt (endsG L) i) (by rw [← pAt_get _ i hi]; exact List.getElem_mem hi)
  generalize pAt (endsG L) i = q at *
  obtain ⟨x, y⟩ := q
  simp only at h1
  unfold outB
  have e1 := selS_not p N x.toNat (by omega)
  have e2 := selS_not p N y.toNat (by omega)
  rw [Int.toNat_of_nonneg (by omega)] at e1 e2
  simp only
  rw [e1, e2]
  cases (selS p N).contains x <;> cases (selS p N).contains y <;> rfl
/-- Remaking a graph from its ends. -/
def swpP (p : Int × Int) : Int × Int := (p.2, p.1)
def keyP (p : Int × Int) : (Int × Int) × Int := ((mnP p, mxP p), 1)
theorem key_swp (p : Int × Int) : keyP (swpP p) = keyP p := by
  unfold keyP swpP mnP mxP
  simp only
  congr 2
  · split <;> split <;> omega
  · split <;> split <;> omega
theorem accF_append (A B : List ((Int × Int) × Int)) (p : Int × Int) : accF (A ++ B) p = accF A p + accF B p := by
  induction A with
  | nil => simp [accF]
  | cons x r ih => rw [List.cons_append, accF, accF, ih]; omega
theorem accF_rev (A : List ((Int × Int) × Int)) (p : Int × Int) : accF A.reverse p = accF A p := by
  induction A with
  | nil => rfl
  | cons x r ih => rw [List.reverse_cons, accF_append, ih, accF, accF, accF]; omega
theorem accF_rep (k : (Int × Int)) (m : Nat) (p : Int × Int) : accF (List.replicate m (k, 1)) p = if k = p then (m : Int) else 0 := by
  induction m with
  | zero => simp [accF]
  | succ m ih =>
    rw [List.replicate_succ, accF, ih]
    by_cases h : k = p
    · rw [if_pos h, if_pos h, if_pos h]; omega
    · rw [if_neg h, if_neg h, if_neg h]; rfl
theorem ends_acc {n : Int} {L : List E} (h : ∀ e ∈ L, 0 ≤ e.a ∧ e.a ≤ e.b ∧ e.b < n ∧ 1 ≤ e.m ∧ e.m ≤ 50) (x y : Int) : accF ((endsG L).map keyP) (x, y) = bet x y L := by
  induction L with
  | nil => rfl
  | cons e r ih =>
    have h1 := ih (fun x hx => h x (by simp [hx]))
    have h2 := h e (by simp)
    have e1 : endsG (e :: r) = List.replicate e.m.toNat (e.a, e.b) ++ endsG r := by unfold endsG; rw [List.flatMap_cons]
    have e2 : keyP (e.a, e.b) = ((e.a, e.b), 1) := by
      unfold keyP mnP mxP
      simp only
      congr 2
      · rw [if_neg (by omega)]
      · split <;> omega
    rw [e1, List.map_append, accF_append, h1, List.map_replicate, e2, accF_rep, bet]
    congr 1
    by_cases hk : e.a = x ∧ e.b = y
    · rw [if_pos (by rw [hk.1, hk.2]), if_pos hk]; omega
    · rw [if_neg (by rw [Prod.mk.injEq]; exact hk), if_neg hk]
/-- The first i ends, turned where f says so. -/
def Fl (P : List (Int × Int)) (f : Nat → Bool) (i : Nat) : List (Int × Int) := (List.range P.length).map fun j => if j < i ∧ f j = true then swpP (pAt P j) else pAt P j
theorem Fl_len (P : List (Int × Int)) (f : Nat → Bool) (i : Nat) : (Fl P f i).length = P.length := by unfold Fl; simp
theorem Fl_at (P : List (Int × Int)) (f : Nat → Bool) (i j : Nat) (h : j < P.length) : pAt (Fl P f i) j = if j < i ∧ f j = true then swpP (pAt P j) else pAt P j := by
  rw [← pAt_get _ j (by rw [Fl_len]; exact h)]
  unfold Fl
  simp
theorem Fl_zero (P : List (Int × Int)) (f : Nat → Bool) : Fl P f 0 = P := by
  refine List.ext_getElem (Fl_len P f 0) fun j h1 h2 => ?_
  rw [pAt_get _ j h1, pAt_get _ j h2, Fl_at P f 0 j h2, if_neg (by omega)]
theorem Fl_skip (P : List (Int × Int)) (f : Nat → Bool) (i : Nat) (h : f i = false) : Fl P f (i + 1) = Fl P f i := by
  refine List.ext_getElem (by rw [Fl_len, Fl_len]) fun j h1 h2 => ?_
  have h3 : j < P.length := by rw [Fl_len] at h2; exact h2
  rw [pAt_get _ j h1, pAt_get _ j h2, Fl_at P f _ j h3, Fl_at P f _ j h3]
  by_cases e : j = i
  · subst e; rw [if_neg (by rw [h]; simp), if_neg (by omega)]
  · by_cases e2 : j < i ∧ f j = true
    · rw [if_pos e2, if_pos ⟨by omega, e2.2⟩]
    · rw [if_neg e2, if_neg (fun h' => e2 ⟨by omega, h'.2⟩)]
theorem Fl_set (P : List (Int × Int)) (f : Nat → Bool) (i : Nat) (h : f i = true) : Fl P f (i + 1) = (Fl P f i).set i (swpP (pAt (Fl P f i) i)) := by
  refine List.ext_getElem (by rw [List.length_set, Fl_len, Fl_len]) fun j h1 h2 => ?_
  have h3 : j < P.length := by rw [Fl_len] at h1; exact h1
  rw [List.getElem_set]
  by_cases e : i = j
  · subst e
    rw [if_pos rfl, pAt_get _ i h1, Fl_at P f _ i h3, Fl_at P f _ i h3, if_pos ⟨by omega, h⟩, if_neg (by omega)]
  · rw [if_neg e, pAt_get _ j h1, pAt_get _ j (by rw [Fl_len]; exact h3), Fl_at P f _ j h3, Fl_at P f _ j h3]
    by_cases e2 : j < i ∧ f j = true
    · rw [if_pos e2, if_pos ⟨by omega, e2.2⟩]
    · rw [if_neg e2, if_neg (fun h' => e2 ⟨by omega, h'.2⟩)]
theorem Fl_key (P : List (Int × Int)) (f : Nat → Bool) (i : Nat) : (Fl P f i).map keyP = P.map keyP := by
  refine List.ext_getElem (by rw [List.length_map, List.length_map, Fl_len]) fun j h1 h2 => ?_
  have h3 : j < P.length := by simpa using h2
  rw [List.getElem_map, List.getElem_map, pAt_get _ j (by rw [Fl_len]; exact h3), pAt_get _ j h3, Fl_at P f i j h3]
  split
  · exact key_swp _
  · rfl
theorem prs_all (P : List (Int × Int)) : prs P P.length = P.map keyP := by unfold prs keyP; rw [List.take_length]
theorem remake_acc {n : Int} {L : List E} (h : ∀ e ∈ L, 0 ≤ e.a ∧ e.a ≤ e.b ∧ e.b < n ∧ 1 ≤ e.m ∧ e.m ≤ 50) (f : Nat → Bool) (x y : Int) :
    accF (prs (Fl (endsG L) f (endsG L).length).reverse (Fl (endsG L) f (endsG L).length).reverse.length) (x, y) = bet x y L := by
  rw [prs_all, List.map_reverse, accF_rev, Fl_key, ends_acc h]
theorem remake_err {n : Int} {L : List E} (h : ∀ e ∈ L, 0 ≤ e.a ∧ e.a ≤ e.b ∧ e.b < n ∧ 1 ≤ e.m ∧ e.m ≤ 50) (f : Nat → Bool) (j : Nat) (hj : j < (Fl (endsG L) f (endsG L).length).reverse.length) : pErr n (Fl (endsG L) f (endsG L).length).reverse j = 0 := by
  have hm : pAt (Fl (endsG L) f (endsG L).length).reverse j ∈ Fl (endsG L) f (endsG L).length := by
    rw [← pAt_get _ j hj]; exact List.mem_reverse.1 (List.getElem_mem hj)
  obtain ⟨i, hi, he⟩ := List.mem_iff_getElem.1 hm
  rw [Fl_len] at hi
  rw [pAt_get _ i (by rw [Fl_len]; exact hi), Fl_at _ f _ i hi] at he
  have hr := ends_rng h (pAt (endsG L) i) (by rw [← pAt_get _ i hi]; exact List.getElem_mem hi)
  unfold pErr
  rw [← he, if_pos]
  unfold isV swpP
  split <;> simp <;> omega
theorem remake_join {N : Nat} {L : List E} (hR : Right N L) (f : Nat → Bool) : joinT (cntT (Fl (endsG L) f (endsG L).length).reverse (Fl (endsG L) f (endsG L).length).reverse.length) N N = L := by
  refine (joinT_congr _ (fun a b => bet a b L) N N fun a b h1 h2 h3 => ?_).trans (joinT_bet hR)
  rw [cntT_acc _ _ (Nat.le_refl _) (remake_err hR.rng f), remake_acc hR.rng f]
theorem remake_cnt {N : Nat} {L : List E} (hR : Right N L) (f : Nat → Bool) (x y : Nat) : cntT (Fl (endsG L) f (endsG L).length).reverse (Fl (endsG L) f (endsG L).length).reverse.length x y = bet x y L := by
  rw [cntT_acc _ _ (Nat.le_refl _) (remake_err hR.rng f), remake_acc hR.rng f]
end Go.Proofs.Ytndjjafpdiehdaa

namespace Go.Proofs.Ytndjjafpdiehdaa
open Go.RowKit Go.Shelf Go.Proofs.Gr
attribute [local go_sem] Oper.semAt_some

theorem MgAt.grown {w w' : World} {ga gb g : Nat} {p : Int × Int} (h : MgAt w ga gb p) (hg : w.grownBy w' (some g)) (n1 : ga ≠ g) (n2 : gb ≠ g) : MgAt w' ga gb p := by
  obtain ⟨h1, h2, h3, h4⟩ := h
  have e1 : w'.cell? ⟨ga, 0, none⟩ = w.cell? ⟨ga, 0, none⟩ := by simp only [World.cell?, hg.block ga h1 (by simpa using n1)]
  have e2 : w'.cell? ⟨gb, 0, none⟩ = w.cell? ⟨gb, 0, none⟩ := by simp only [World.cell?, hg.block gb h2 (by simpa using n2)]
  exact ⟨Nat.lt_of_lt_of_le h1 hg.size, Nat.lt_of_lt_of_le h2 hg.size, e1.trans h3, e2.trans h4⟩
/-- The range of the ends of a graph. -/
def InP (P : List (Int × Int)) : Prop := ∀ q ∈ P, (-1000000 ≤ q.1 ∧ q.1 ≤ 1000000) ∧ -1000000 ≤ q.2 ∧ q.2 ≤ 1000000
theorem inr_ends {n : Int} {L : List E} (hR : Right n L) : InP (endsG L) := fun q hq => by
  have := ends_rng hR.rng q hq
  have := hR.hi
  omega
theorem InP.drop {P : List (Int × Int)} (h : InP P) (e : Nat) : InP (dropP P e) := fun q hq => h q (dropP_mem hq)
set_option maxHeartbeats 12800000 in
set_option maxRecDepth 100000 in
theorem pContract_err (n : Int) (a : Option Addr) (cap : Nat) (L : List E) (hL : L.length ≤ 100000) (e : Int) (hk : sgE n L e ≠ 0) (w : World) (h : EsAt w a L) :
    Calls Try.prog 15 #[gv n a L.length cap, .int .i64 e] w (GivesGW w 0 [] (sgE n L e)) := by
  have HC := Lib.hid (fun w h => endsWith_any n a cap L hL e w h)
  rw [if_neg hk] at HC
  generalize sgE n L e = k at *
  have q0 : (((k : Nat) : Int) != 0) = true := by rw [bne_iff_ne]; omega
  unfold GivesGW gv at *
  unfold GivesPO at HC
  obtain ⟨W, hW⟩ : ∃ W, W = (w.alloc (Obj.cells #[.int .i64 n, .slice a L.length cap] 24)).alloc (Obj.cells #[.int .i64 0, .slice none 0 0] 24) := ⟨_, rfl⟩
  have hB0 : Below w.heap.size w W := by rw [hW]; exact ((Below.refl _ w).alloc (Nat.le_refl _) _).alloc (by simp) _
  have hG : Blk W w.heap.size 24 #[.int .i64 n, .slice a L.length cap] := by rw [hW]; exact (Blk.new _ _ _).alloc _
  have hWs : W.heap.size = w.heap.size + 2 := by rw [hW]; simp
  have hR : Blk W (w.heap.size + 1) 24 #[.int .i64 0, .slice none 0 0] := by
    rw [hW]
    have := Blk.new (w.alloc (Obj.cells #[.int .i64 n, .slice a L.length cap] 24)) 24 #[.int .i64 0, .slice none 0 0]
    rwa [World.size_alloc] at this
  have HR1 := Lib.hid hR
  have HW := Lib.hid hW
  have HWS := Lib.hid hWs
  have HB0 := Lib.hid hB0
  have HE := Lib.hid (h.keep hB0)
  have HF : Hid (∀ u, Below W.heap.size W u → u.cell? ⟨w.heap.size, 0, none⟩ = some (.int .i64 n) ∧ u.cell? ⟨w.heap.size, 1, none⟩ = some (.slice a L.length cap)) := Lib.hid fun u hu => ⟨(hG.below hu hG.lt).cell 0, (hG.below hu hG.lt).cell 1⟩
  obtain ⟨g0, g1⟩ := HF.out W (Below.refl _ _)
  clear hB0 hG hW hWs h hR
  go_enter Try.func15, Try.ntmps15
  go_wp2_with fail
  rw [← HW.out]
  refine (HC.out _ HE.out).mono ?_
  rintro r w1 ⟨a1, c1, rfl, -, -, hb⟩
  clear g0 g1
  have hRr : Blk w1 (w.heap.size + 1) 24 #[.int .i64 0, .slice none 0 0] := HR1.out.below hb HR1.out.lt
  have r1 : w1.cell? ⟨w.heap.size + 1, 0, none⟩ = some (.int .i64 0) := hRr.cell 0
  have r3 : w1.frozen? ⟨w.heap.size + 1, 0, none⟩ = false := hRr.frozen 0
  have r2 : w1.cell? ⟨w.heap.size + 1, 1, none⟩ = some (.slice none 0 0) := hRr.cell 1
  have r4 : w1.frozen? ⟨w.heap.size + 1, 1, none⟩ = false := hRr.frozen 1
  have r7 : (w1.setCell ⟨w.heap.size + 1, 0, none⟩ (.int .i64 0)).cell? ⟨w.heap.size + 1, 1, none⟩ = some (.slice none 0 0) := (hRr.set_ 0 (.int .i64 0)).cell 1
  have r8 : (w1.setCell ⟨w.heap.size + 1, 0, none⟩ (.int .i64 0)).frozen? ⟨w.heap.size + 1, 1, none⟩ = false := (hRr.set_ 0 (.int .i64 0)).frozen 1
  have HEND := Lib.hid (HB0.out.trans (hb.mono HB0.out.size))
  have HEND2 := Lib.hid ((HEND.out.setCell (p := ⟨w.heap.size + 1, 0, none⟩) (by show w.heap.size ≤ w.heap.size + 1; omega) (.int .i64 0)).setCell (p := ⟨w.heap.size + 1, 1, none⟩) (by show w.heap.size ≤ w.heap.size + 1; omega) (.slice none 0 0))
  have r5 : ((w1.setCell ⟨w.heap.size + 1, 0, none⟩ (.int .i64 0)).setCell ⟨w.heap.size + 1, 1, none⟩ (.slice none 0 0)).cell? ⟨w.heap.size + 1, 0, none⟩ = some (.int .i64 0) := ((hRr.set_ 0 (.int .i64 0)).set_ 1 (.slice none 0 0)).cell 0
  have r6 : ((w1.setCell ⟨w.heap.size + 1, 0, none⟩ (.int .i64 0)).setCell ⟨w.heap.size + 1, 1, none⟩ (.slice none 0 0)).cell? ⟨w.heap.size + 1, 1, none⟩ = some (.slice none 0 0) := ((hRr.set_ 0 (.int .i64 0)).set_ 1 (.slice none 0 0)).cell 1
  clear hRr hb
  go_wp2
  refine bodyPost_ret (v := .tuple #[.agg #[.int .i64 0, .slice none 0 0], .int .i64 (k : Nat)]) (by simp [results, Try.results15, go_sem, r5, r6]) rfl ?_
  exact ⟨none, 0, rfl, RowAt.nil _ _ _ _, by first | exact HEND2.out | exact HEND.out⟩
set_option maxHeartbeats 12800000 in
set_option maxRecDepth 100000 in
theorem pContract_ok (n : Int) (a : Option Addr) (cap : Nat) (L : List E) (hL : L.length ≤ 100000) (e : Nat) (hk : sgE n L e = 0) (m : Int) (J : List E) (k : Nat) (hM : Makes (mgF (pAt (endsG L) e) n) (mvP (mgF (pAt (endsG L) e)) (dropP (endsG L) e)) m J k) (w : World) (h : EsAt w a L) :
    Calls Try.prog 15 #[gv n a L.length cap, .int .i64 e] w (GivesGW w m J k) := by
  have HC := Lib.hid (fun w h => endsWith_any n a cap L hL e w h)
  obtain ⟨hJl, hM, -⟩ := hM
  obtain ⟨h0, -, he⟩ := sgE_zero hk
  have hln : (endsG L).length ≤ 50 * 100000 := by have := ends_all (right_of h0); omega
  have hnr := chkG_n h0
  have hir := inr_ends (right_of h0)
  rw [hk, if_pos rfl] at HC
  generalize endsG L = P at *
  have hep : e < P.length := by omega
  have HD0 := Lib.hid (fun base g c w hown => pdelete_any base g c P hln e hep w hown)
  have HLQ : Hid ((mvP (mgF (pAt P e)) (dropP P e)).length = (dropP P e).length) := Lib.hid (mvP_len _ _)
  have hdl := dropP_len P e hep
  have HMV := Lib.hid (fun ga gb (a : Option Addr) c w h hm => pmoved_any ga gb (pAt P e) a c (dropP P e) (by omega) (hir.drop e) w h hm)
  have HMG := Lib.hid (fun ga gb w hm => mg1_any ga gb (pAt P e) n (by omega) w hm)
  have HME := Lib.hid (fun w => merging_any (pAt P e) w)
  have HX : Hid (P[e]'hep = pAt P e) := Lib.hid (pAt_get P e hep)
  unfold pw at HME
  unfold mgV at HME HMV
  unfold GivesP at HMV
  have HM := Lib.hid hM
  clear hdl hir hnr
  generalize mvP (mgF (pAt P e)) (dropP P e) = R at *
  generalize mgF (pAt P e) n = N at *
  generalize dropP P e = Q at *
  unfold GivesGW gv at *
  unfold GivesGE gv at *
  unfold GivesPO at HC
  clear hM h0 hk he
  obtain ⟨W, hW⟩ : ∃ W, W = (w.alloc (Obj.cells #[.int .i64 n, .slice a L.length cap] 24)).alloc (Obj.cells #[.int .i64 0, .slice none 0 0] 24) := ⟨_, rfl⟩
  have hB0 : Below w.heap.size w W := by rw [hW]; exact ((Below.refl _ w).alloc (Nat.le_refl _) _).alloc (by simp) _
  have hG : Blk W w.heap.size 24 #[.int .i64 n, .slice a L.length cap] := by rw [hW]; exact (Blk.new _ _ _).alloc _
  have hWs : W.heap.size = w.heap.size + 2 := by rw [hW]; simp
  have hR : Blk W (w.heap.size + 1) 24 #[.int .i64 0, .slice none 0 0] := by
    rw [hW]
    have := Blk.new (w.alloc (Obj.cells #[.int .i64 n, .slice a L.length cap] 24)) 24 #[.int .i64 0, .slice none 0 0]
    rwa [World.size_alloc] at this
  have HR1 := Lib.hid hR
  have HW := Lib.hid hW
  have HWS := Lib.hid hWs
  have HB0 := Lib.hid hB0
  have HE := Lib.hid (h.keep hB0)
  have HF : Hid (∀ u, Below W.heap.size W u → u.cell? ⟨w.heap.size, 0, none⟩ = some (.int .i64 n) ∧ u.cell? ⟨w.heap.size, 1, none⟩ = some (.slice a L.length cap)) := Lib.hid fun u hu => ⟨(hG.below hu hG.lt).cell 0, (hG.below hu hG.lt).cell 1⟩
  obtain ⟨g0, g1⟩ := HF.out W (Below.refl _ _)
  clear hB0 hG hW hWs h hR
  go_enter Try.func15, Try.ntmps15
  go_wp2_with fail
  rw [← HW.out]
  refine (HC.out _ HE.out).mono ?_
  rintro r w1 ⟨a1, c1, rfl, hp1, hown, hb⟩
  clear g0 g1
  obtain ⟨g, c9, hv⟩ := own_pos hown (by omega)
  injection hv with e1 e2 e3
  subst e1 e3
  have hgW := (hown.lt g rfl).1
  have hg1 := (hown.lt g rfl).2
  have HD := Lib.hid (fun g c w hown => HD0.out W.heap.size g c w hown)
  obtain ⟨b1, o1, hbb, q1, x1, x2⟩ := hp1.two e hep
  injection hbb with hbb
  injection hbb with e1 e2
  subst e1 e2
  have i1 : (e : Int) < (P.length : Int) := by omega
  have i2 : (0 : Int) ≤ (e : Int) := by omega
  generalize pAt P e = p at *
  obtain ⟨xa, xb⟩ := p
  simp only [Nat.zero_add] at x1 x2 HME
  clear hp1
  go_wp2_with fail
  refine (HME.out _).mono ?_
  rintro r w2 ⟨ga, gb, rfl, hmg, hga, hgb, hb2⟩
  have hk2 : Below W.heap.size W w2 := hb.trans (hb2.mono hb.size)
  have hwd := own_keep hown hb2
  have hmg0 := hmg
  have hgab : ga ≠ g ∧ gb ≠ g := ⟨by omega, by omega⟩
  clear hown hmg hb2 hb x1 x2
  obtain ⟨g0, g1⟩ := HF.out w2 hk2
  go_wp2_with fail
  refine (HMG.out _ _ _ hmg0).mono ?_
  rintro r x2 ⟨rfl, hb2⟩
  have hj2 : Below W.heap.size W x2 := hk2.trans (hb2.mono hk2.size)
  have hwd2 := own_keep hwd hb2
  have hmg2 := hmg0.keep hb2
  clear hwd hk2 hmg0 hb2 g0 g1
  go_wp2_with fail
  refine (HD.out g c1 _ hwd2).mono ?_
  rintro r x3 ⟨rfl, hps, hgr⟩
  have hj3 : Below W.heap.size W x3 := hj2.grown hgr hj2.size (fun k hk => by injection hk with hk; omega)
  have hmg3 := hmg2.grown hgr (by omega) (by omega)
  clear hgr hwd2 hj2 hmg2
  go_wp2_with fail
  refine (HMV.out _ _ _ _ _ hps hmg3).mono ?_
  rintro r x4 ⟨a4, c4, rfl, hps4, hb4⟩
  have hj4 : Below W.heap.size W x4 := hj3.trans (hb4.mono hj3.size)
  clear hps hj3 hmg3 hb4
  go_wp2_with fail
  refine (HM.out _ _ _ hps4).mono ?_
  rintro r x5 ⟨a2, c2, rfl, -, he2, hb5⟩
  have hj5 : Below W.heap.size W x5 := hj4.trans (hb5.mono hj4.size)
  clear hps4 hb5
  have hRr : Blk x5 (w.heap.size + 1) 24 #[.int .i64 0, .slice none 0 0] := HR1.out.below hj5 HR1.out.lt
  obtain ⟨r1, r3, r2, r4, r5, r6, hes, hbf⟩ := tail_facts x5 x4.heap.size (w.heap.size + 1) w.heap.size m J a2 c2 he2 (by have := hj4.size; have := HWS.out; omega) hRr
  have HES := Lib.hid hes
  have HBF := Lib.hid (hbf w (HB0.out.trans (hj5.mono HB0.out.size)) (by omega))
  clear hRr hes hbf
  clear he2 hj4 hj5
  go_wp2
  refine bodyPost_ret (v := .tuple #[.agg #[.int .i64 m, .slice a2 J.length c2], .int .i64 ((k : Nat) : Int)]) (by simp [results, Try.results15, go_sem, r5, r6]) rfl ?_
  exact ⟨a2, c2, rfl, HES.out, HBF.out⟩
end Go.Proofs.Ytndjjafpdiehdaa

namespace Go.Proofs.Ytndjjafpdiehdaa
open Go.RowKit Go.Proofs.Gr

/-- Where a way stands behind j single edges, and these. -/
def lastP (x nx : Int) (j : Nat) : Int := if j = 0 then x else nx + j - 1
def wayP (x nx : Int) : Nat → List (Int × Int)
  | 0 => []
  | j + 1 => wayP x nx j ++ [(lastP x nx j, nx + j)]
theorem wayP_len (x nx : Int) (j : Nat) : (wayP x nx j).length = j := by
  induction j with
  | zero => rfl
  | succ j ih => rw [wayP, List.length_append, ih]; rfl
theorem lastP_succ (x nx : Int) (j : Nat) : lastP x nx (j + 1) = nx + j := by unfold lastP; rw [if_neg (by omega)]; omega
/-- The first new vertex of the way number i. -/
def nxP (n : Int) (q : Nat) : Nat → Int
  | 0 => n
  | i + 1 => nxP n q i + q
/-- The single edges of a graph that is subdivided. -/
def subP (n : Int) (q : Nat) (P : List (Int × Int)) : Nat → List (Int × Int)
  | 0 => []
  | i + 1 => subP n q P i ++ wayP (pAt P i).1 (nxP n q i) q ++ [(lastP (pAt P i).1 (nxP n q i) q, (pAt P i).2)]
theorem nxP_eq (n : Int) (q i : Nat) : nxP n q i = n + (q : Int) * i := by
  induction i with
  | zero => simp [nxP]
  | succ i ih => rw [nxP, ih, Int.natCast_add, Int.mul_add]; simp; omega
theorem nxP_low (n : Int) (q i : Nat) : n ≤ nxP n q i := by
  induction i with
  | zero => exact Int.le_refl _
  | succ i ih => rw [nxP]; omega
theorem nxP_mono (n : Int) (q i j : Nat) (h : i ≤ j) : nxP n q i ≤ nxP n q j := by
  induction j with
  | zero => obtain rfl : i = 0 := by omega
            exact Int.le_refl _
  | succ j ih =>
    by_cases e : i = j + 1
    · subst e; exact Int.le_refl _
    · have := ih (by omega)
      rw [nxP]; omega
theorem subP_len (n : Int) (q : Nat) (P : List (Int × Int)) (i : Nat) : (subP n q P i).length = i * (q + 1) := by
  induction i with
  | zero => simp [subP]
  | succ i ih => rw [subP, List.length_append, List.length_append, ih, wayP_len, Nat.succ_mul]; simp; omega
theorem subP_one (n : Int) (P : List (Int × Int)) (i : Nat) (h : i ≤ P.length) : subP n 0 P i = P.take i := by
  induction i with
  | zero => rfl
  | succ i ih =>
    rw [subP, ih (by omega), List.take_succ_eq_append_getElem (by omega), pAt_get P i (by omega)]
    simp [wayP, lastP]
theorem sub_small (n : Int) (q : Nat) (hq : 1 ≤ q) (P : List (Int × Int)) (h0 : 1 ≤ n) (h : n + (q : Int) * P.length ≤ 12) : (subP n q P P.length).length ≤ 22 := by
  rw [subP_len]
  have h1 : P.length * 1 ≤ P.length * q := Nat.mul_le_mul_left _ hq
  have h2 : ((P.length * q : Nat) : Int) = (q : Int) * P.length := by rw [Int.natCast_mul, Int.mul_comm]
  rw [Nat.mul_add]
  omega
theorem way_rng {n x nx N : Int} {j : Nat} (hx : 0 ≤ x ∧ x < n) (hn : n ≤ nx) (hN : nx + j ≤ N) : ∀ p ∈ wayP x nx j, (0 ≤ p.1 ∧ p.1 < N) ∧ 0 ≤ p.2 ∧ p.2 < N := by
  induction j with
  | zero => intro p hp; cases hp
  | succ j ih =>
    intro p hp
    rw [wayP] at hp
    rcases List.mem_append.1 hp with hp | hp
    · exact ih (by omega) p hp
    · obtain rfl : p = _ := by simpa using hp
      simp only [lastP]
      split <;> omega
theorem sub_rng {n : Int} {P : List (Int × Int)} (h0 : 1 ≤ n) (hP : ∀ p ∈ P, 0 ≤ p.1 ∧ p.1 ≤ p.2 ∧ p.2 < n) (q i : Nat) (hi : i ≤ P.length) : ∀ p ∈ subP n q P i, (0 ≤ p.1 ∧ p.1 < nxP n q i) ∧ 0 ≤ p.2 ∧ p.2 < nxP n q i := by
  induction i with
  | zero => intro p hp; cases hp
  | succ i ih =>
    intro p hp
    have hl := nxP_low n q i
    have hPi := hP (pAt P i) (by rw [← pAt_get P i (by omega)]; exact List.getElem_mem _)
    rw [subP] at hp
    rw [nxP]
    rcases List.mem_append.1 hp with hp | hp
    · rcases List.mem_append.1 hp with hp | hp
      · have := ih (by omega) p hp; omega
      · exact way_rng (n := n) ⟨by omega, by omega⟩ hl (by omega) p hp
    · obtain rfl : p = _ := by simpa using hp
      simp only [lastP]
      split <;> omega
/-- A list that can be made into a graph is made into one. -/
theorem makes_right (N : Nat) (h0 : 1 ≤ N) (h1 : N ≤ 12) (Q : List (Int × Int)) (hl : Q.length ≤ 4096) (hr : ∀ p ∈ Q, (0 ≤ p.1 ∧ p.1 < N) ∧ 0 ≤ p.2 ∧ p.2 < N) (hc : ∀ x y, cntT Q Q.length x y ≤ 50) : Makes N Q N (joinT (cntT Q Q.length) N N) 0 := by
  have hz : ∀ j, j < Q.length → pErr N Q j = 0 := fun j hj => by
    have := hr (pAt Q j) (by rw [← pAt_get Q j hj]; exact List.getElem_mem _)
    unfold pErr isV
    rw [if_pos (by simp; omega)]
  refine ⟨joinT_small _ _ (by omega), fun b cp w h => (pmake_ok N h0 h1 b cp Q hl w h).mono ?_, fun b cp w h => (rmake_ok N h0 h1 b cp Q hl w h).mono ?_⟩ <;>
  · rintro e w' ⟨k, hg, ⟨rfl, j, hj, hk⟩ | ⟨rfl, -, x, y, -, -, hxy⟩ | ⟨rfl, -, -⟩⟩
    · exact absurd (hz j hj) hk
    · have := hc x y; omega
    · exact hg
theorem makes_some (n : Int) (Q : List (Int × Int)) (hl : Q.length ≤ 4096) : ∃ m J k, Makes n Q m J k := by
  obtain ⟨m, J, k, h1, h2, h3⟩ := make_both n Q hl
  exact ⟨m, J, k, h1, h2, h3⟩
end Go.Proofs.Ytndjjafpdiehdaa

namespace Go.Proofs.Ytndjjafpdiehdaa
open Go.RowKit Go.Shelf Go.Proofs.Gr
attribute [local go_sem] Oper.semAt_some

theorem bet_size {n : Int} {L : List E} (h : ∀ e ∈ L, 0 ≤ e.a ∧ e.a ≤ e.b ∧ e.b < n ∧ 1 ≤ e.m ∧ e.m ≤ 50) (p q : Int) : 0 ≤ bet p q L ∧ bet p q L ≤ sizeG L := by
  refine ⟨bet_nonneg h p q, ?_⟩
  unfold sizeG
  induction L with
  | nil => exact Int.le_refl 0
  | cons e r ih =>
    have h1 := ih (fun x hx => h x (by simp [hx]))
    have h2 := h e (by simp)
    rw [bet, sumL]; split <;> omega
theorem oth_le {n : Int} {L : List E} (h : ∀ e ∈ L, 0 ≤ e.a ∧ e.a ≤ e.b ∧ e.b < n ∧ 1 ≤ e.m ∧ e.m ≤ 50) (v : Int) : 0 ≤ sumL (othE v) L ∧ sumL (othE v) L ≤ sizeG L := by
  unfold sizeG
  induction L with
  | nil => exact ⟨Int.le_refl 0, Int.le_refl 0⟩
  | cons e r ih =>
    have h1 := ih (fun x hx => h x (by simp [hx]))
    have h2 := h e (by simp)
    have h3 : 0 ≤ othE v e ∧ othE v e ≤ e.m := by
      unfold othE
      split
      · omega
      · split <;> omega
    rw [sumL, sumL]; omega
theorem sumZ_congr (f g : Int → Int) (n : Nat) (h : ∀ u : Nat, u < n → f u = g u) : sumZ f n = sumZ g n := by
  induction n with
  | zero => rfl
  | succ n ih => rw [sumZ, sumZ, ih (fun u hu => h u (by omega)), h n (by omega)]
theorem sumZ_bound (f : Int → Int) (n : Nat) (c : Int) (h : ∀ u : Nat, u < n → 0 ≤ f u ∧ f u ≤ c) : 0 ≤ sumZ f n ∧ sumZ f n ≤ c * n := by
  induction n with
  | zero => simp [sumZ]
  | succ n ih =>
    have h1 := ih (fun u hu => h u (by omega))
    have h2 := h n (by omega)
    have h3 : c * ((n + 1 : Nat) : Int) = c * n + c := by rw [Int.natCast_add, Int.mul_add]; simp
    rw [sumZ, h3]; omega
/-- The degrees add up to twice the size. -/
theorem shake {N : Nat} {L : List E} (h : ∀ e ∈ L, 0 ≤ e.a ∧ e.a ≤ e.b ∧ e.b < (N : Int) ∧ 1 ≤ e.m ∧ e.m ≤ 50) : sumZ (fun v => 2 * sumL (loopE v) L + sumL (othE v) L) N = 2 * sizeG L := by
  unfold sizeG
  induction L with
  | nil => exact sumZ_zero _ _ fun u _ => by simp [sumL]
  | cons e r ih =>
    have h1 := ih (fun x hx => h x (by simp [hx]))
    have h2 := h e (by simp)
    have e1 : sumZ (fun v => 2 * sumL (loopE v) (e :: r) + sumL (othE v) (e :: r)) N = sumZ (fun v => (2 * loopE v e + othE v e) + (2 * sumL (loopE v) r + sumL (othE v) r)) N :=
      sumZ_congr _ _ _ fun u _ => by simp only [sumL]; omega
    rw [e1, sumZ_add, h1, sumL]
    have ha : e.a.toNat < N := by omega
    have hb : e.b.toNat < N := by omega
    have hA : ((e.a.toNat : Nat) : Int) = e.a := by omega
    have hB : ((e.b.toNat : Nat) : Int) = e.b := by omega
    have e2 : sumZ (fun v => 2 * loopE v e + othE v e) N = 2 * e.m := by
      by_cases hab : e.a = e.b
      · rw [sumZ_one _ N e.a.toNat ha]
        · unfold loopE othE
          rw [hA, if_pos ⟨rfl, hab.symm⟩, if_pos ⟨rfl, hab.symm⟩]; omega
        · intro u _ hne
          unfold loopE othE
          have hu : ¬ e.a = (u : Int) := by omega
          rw [if_neg (fun h => hu h.1), if_neg (fun h => hu h.1), if_neg (by omega)]; rfl
      · have e3 : sumZ (fun v => 2 * loopE v e + othE v e) N = sumZ (fun v => (if e.a = v then e.m else 0) + (if e.b = v then e.m else 0)) N :=
          sumZ_congr _ _ _ fun u _ => by
            unfold loopE othE
            rw [if_neg (by omega), if_neg (by omega)]
            by_cases k1 : e.a = (u : Int)
            · rw [if_pos (.inl k1), if_pos k1, if_neg (by omega)]; omega
            · rw [if_neg k1]
              by_cases k2 : e.b = (u : Int)
              · rw [if_pos (.inr k2), if_pos k2]; omega
              · rw [if_neg (by omega), if_neg k2]; omega
        rw [e3, sumZ_add, sumZ_one _ N e.a.toNat ha, sumZ_one _ N e.b.toNat hb]
        · rw [hA, hB, if_pos rfl, if_pos rfl]; omega
        · intro u _ hne; rw [if_neg (by omega)]
        · intro u _ hne; rw [if_neg (by omega)]
    rw [e2]; omega
end Go.Proofs.Ytndjjafpdiehdaa
