/- Walks of the functions on texts: groups of digits by an iterator. -/
import Derived.RangeFuncBox
import Derived.RangeFuncLeaves
import Derived.Shelf.Abstract
import Derived.OwnWalkIn
import Derived.TacticsInMore
import Derived.LoopNIn
import Derived.LoopIn
import Derived.Maps.AppendAt
import Derived.Test.YtnfmcdfdbipeoaaGreatDoorQ05
import Derived.Test.YtnfmcdfdbipeoaaGreatDoorQ07
namespace Go.Proofs.YtnfmcdfdbipeoaaGreatDoor
open Go.RowKit Go.Shelf Go.Proofs.Num
attribute [local go_sem] Oper.semAt_some

/-- The value of the group number k of a text's digits, from the last group on. -/
def gk (l : List UInt8) (k : Nat) : Nat := dv ((l.take (l.length - 9 * k)).drop (l.length - 9 * k - 9))
/-- The first k groups. -/
def gs (l : List UInt8) (k : Nat) : List Nat := (List.range k).map (gk l)
theorem gs_succ (l : List UInt8) (k : Nat) : gs l (k + 1) = gs l k ++ [gk l k] := by simp [gs, List.range_succ]
theorem gs_length (l : List UInt8) (k : Nat) : (gs l k).length = k := by simp [gs]

theorem gk_lt (l : List UInt8) (h : ∀ c ∈ l, isDig c = true) (k : Nat) : gk l k < 1000000000 := by
  unfold gk
  have h1 := dv_lt ((l.take (l.length - 9 * k)).drop (l.length - 9 * k - 9)) (fun c hc => h c (List.mem_of_mem_take (List.mem_of_mem_drop hc)))
  have h2 : 10 ^ ((l.take (l.length - 9 * k)).drop (l.length - 9 * k - 9)).length ≤ 10 ^ 9 := Nat.pow_le_pow_right (by omega) (by rw [List.length_drop, List.length_take]; omega)
  omega

theorem gs_val (l : List UInt8) : ∀ k, 9 * k ≤ l.length + 8 → val 1000000000 (gs l k) + 1000000000 ^ k * dv (l.take (l.length - 9 * k)) = dv l
  | 0, _ => by simp [gs, val_nil]
  | k + 1, h => by
    have ih := gs_val l k (by omega)
    rw [gs_succ, val_snoc, gs_length]
    have e1 : l.take (l.length - 9 * (k + 1)) = (l.take (l.length - 9 * k)).take (l.length - 9 * k - 9) := by
      rw [List.take_take]; congr 1; omega
    have e2 := dv_append ((l.take (l.length - 9 * k)).take (l.length - 9 * k - 9)) ((l.take (l.length - 9 * k)).drop (l.length - 9 * k - 9))
    rw [List.take_append_drop] at e2
    rw [e1]
    unfold gk
    rcases Nat.lt_or_ge (l.length - 9 * k) 9 with h9 | h9
    · rw [show l.length - 9 * k - 9 = 0 by omega] at e2 ⊢
      rw [List.take_zero, dv_nil] at e2 ⊢
      simp only [List.drop_zero, Nat.zero_mul, Nat.zero_add, Nat.mul_zero, Nat.add_zero] at e2 ⊢
      exact ih
    · have hlen : ((l.take (l.length - 9 * k)).drop (l.length - 9 * k - 9)).length = 9 := by rw [List.length_drop, List.length_take]; omega
      rw [hlen] at e2
      rw [← ih, e2, Nat.mul_add, Nat.pow_succ, Nat.mul_assoc, show ∀ x : Nat, x * 10 ^ 9 = 1000000000 * x from fun x => Nat.mul_comm _ _]
      omega

/-- How many groups there are. -/
def gn (l : List UInt8) : Nat := (l.length + 8) / 9
theorem gs_all (l : List UInt8) : val 1000000000 (gs l (gn l)) = dv l := by
  have := gs_val l (gn l) (by unfold gn; omega)
  rw [show l.length - 9 * gn l = 0 by unfold gn; omega, List.take_zero, dv_nil] at this
  omega

theorem extract_gk (s : ByteArray) (k : Nat) (a e : Nat) (he : e = s.size - 9 * k) (ha : a = e - 9) : dv (s.extract a e).data.toList = gk s.data.toList k := by
  unfold gk
  rw [size_toList, Lib.extract_data, ← he, ← ha, List.drop_take]

/-- What a body must keep: what lay below n₀, and the box of the text. -/
def KpS (n₀ Bs : Nat) (s : ByteArray) (A B : World) : Prop := Below n₀ A B ∧ (A.cell? ⟨Bs, 0, none⟩ = some (.string s) → B.cell? ⟨Bs, 0, none⟩ = some (.string s))
theorem KpS.t {n₀ Bs : Nat} {s : ByteArray} {A B C : World} (h : KpS n₀ Bs s A B) (k : KpS n₀ Bs s B C) : KpS n₀ Bs s A C := ⟨h.1.trans k.1, fun hA => k.2 (h.2 hA)⟩
theorem KpS.b {n₀ Bs : Nat} {s : ByteArray} {w : World} (hn : n₀ ≤ w.heap.size) (hB : Bs < w.heap.size) (W : World) (l : Nat) (o o' : Obj) (hl : w.heap.size ≤ l) (h : W.heap[l]? = some o) (hc : o.isCells = false) (hw : o.isWalk = false) : KpS n₀ Bs s W (W.putObj l o') :=
  ⟨belowK_b hn W l o o' hl h hc hw, fun hA => by
    have hk := belowK_b (n₀ := w.heap.size) (w := w) (Nat.le_refl _) W l o o' hl h hc hw
    exact (hk.cell (p := ⟨Bs, 0, none⟩) hB).trans hA⟩

set_option maxRecDepth 100000 in
set_option maxHeartbeats 2000000 in
/-- The closure of groups: the groups of digits, from the last one on, for every loop body that keeps what lay below n₀. -/
theorem groups1_in (n : Nat) (hn : 1 ≤ n) (l Bs n₀ : Nat) (s : ByteArray) (hs : s.size ≤ 4294967295) (hd : ∀ c ∈ s.data.toList, isDig c = true) (J Jx : List Nat → World → Prop)
    (hY : ∀ pre x W, J pre W → pre.length < gn s.data.toList → YieldAt Fence.wide (n - 1) Tryz.prog l #[.int .u64 ((x : Nat) : Int)] W fun e W' =>
      (e = .returned (.bool true) ∧ J (pre ++ [x]) W' ∧ KpS n₀ Bs s W W') ∨ (e = .returned (.bool false) ∧ Jx (pre ++ [x]) W'))
    (W : World) (hBs : W.cell? ⟨Bs, 0, none⟩ = some (.string s)) (h0 : J [] W) :
    CallsIn Fence.wide n Tryz.prog 150 #[.func (.yield l) #[] #[], .pointer (some ⟨Bs, 0, none⟩)] W fun e W' => (∃ v, e = .returned v) ∧
      ((∃ ys, ys = gs s.data.toList (gn s.data.toList) ∧ J ys W') ∨ (∃ pre, (∃ k, k ≤ gn s.data.toList ∧ pre = gs s.data.toList k) ∧ Jx pre W')) := by
  refine callsIn_of_wp Tryz.func150 rfl trivial ?_ rfl
  simp only [Tryz.ntmps150, List.size_toArray, List.length_cons, List.length_nil, Nat.reduceAdd, Nat.reduceSub, Array.replicate_succ, Array.replicate_zero, List.push_toArray, List.append_toArray, List.nil_append, List.cons_append]
  gi_wp2
  gi_loopw [3] (fun i wr => ∃ k : Nat, 9 * k ≤ s.size + 8 ∧ i = .int .i64 ((s.size : Int) - 9 * k) ∧ J (gs s.data.toList k) wr ∧ wr.cell? ⟨Bs, 0, none⟩ = some (.string s))
    (fun i _ => (intOf i).toNat)
  case atStart => exact ⟨0, by omega, by go_num, h0, hBs⟩
  case round =>
    obtain ⟨k, hk, rfl, hJs, hcx⟩ := hrel
    obtain ⟨e, he⟩ : ∃ e : Nat, e = s.size - 9 * k := ⟨_, rfl⟩
    by_cases hlt : 9 * k < s.size
    · rw [show ((s.size : Int) - 9 * k) = (e : Int) by omega]
      have hes : e ≤ s.size := by omega
      have he0 : 0 < e := by omega
      have hkn : (gs s.data.toList k).length < gn s.data.toList := by rw [gs_length]; unfold gn; rw [size_toList]; omega
      have hsz : (s.extract (e - 9) e).size ≤ 9 := by rw [ByteArray.size_extract]; omega
      have hdd : ∀ c ∈ (s.extract (e - 9) e).data.toList, isDig c = true := by
        rw [Lib.extract_data]; exact fun c hc => hd c (List.mem_of_mem_drop (List.mem_of_mem_take hc))
      have hgk := extract_gk s k (e - 9) e he rfl
      obtain ⟨x, hx⟩ : ∃ x, x = gk s.data.toList k := ⟨_, rfl⟩
      rw [← hx] at hgk
      obtain ⟨fn, tmps, assign, body, hy, hR⟩ := hY _ x wr hJs hkn
      have HGK := Lib.hid hgk
      have HX := Lib.hid hx
      have HE := Lib.hid he
      have HSZ := Lib.hid hsz
      have HDD := Lib.hid hdd
      have HKN := Lib.hid hkn
      clear hgk hx he hsz hdd hd hkn
      gi_wp2_with fail
      refine ⟨trivial, ?_⟩
      rw [show (max ((e : Int) - 9) 0).toNat = e - 9 by omega]
      refine (callsIn_wide.2 (value_any _ _ HSZ.out HDD.out)).mono ?_
      rintro e' w' ⟨he', rfl⟩
      rw [HGK.out] at he'
      subst he'
      gi_wp2
      refine hR.mono ?_
      rintro e' W3 (⟨rfl, hJ3, hk3⟩ | ⟨rfl, hJx3⟩)
      · have hc3 := hk3.2 hcx
        gi_wp2
        go_roundw
        case rel => exact ⟨k + 1, by omega, by have := HE.out; go_num, by rw [gs_succ, ← HX.out]; exact hJ3, hc3⟩
        case measure => simp [intOf]; omega
      · gi_wp2
        refine bodyPost_ret (results_none rfl _ _ _) rfl ?_
        exact ⟨⟨_, rfl⟩, .inr ⟨_, ⟨k + 1, by have h1 := HKN.out; rw [gs_length] at h1; omega, by rw [gs_succ, ← HX.out]⟩, hJx3⟩⟩
    · have hkk : k = gn s.data.toList := by unfold gn; rw [size_toList]; omega
      have HK := Lib.hid hkk
      clear hkk he
      gi_wp2
      go_end0
      exact ⟨⟨_, rfl⟩, .inl ⟨_, by rw [← HK.out], hJs⟩⟩

set_option maxHeartbeats 1000000 in
/-- groups: the text is boxed; the function value captures the box. -/
theorem groups_in (n : Nat) (s : ByteArray) (w : World) :
    CallsIn Fence.wide n Tryz.prog 132 #[.string s] w fun e w' => e = .returned (.func (.func 150) #[] #[.pointer (some ⟨w.heap.size, 0, none⟩)]) ∧ w' = w.alloc (.cells #[.string s] 9) := by
  refine callsIn_of_wp Tryz.func132 rfl trivial ?_ rfl
  simp only [Tryz.ntmps132, List.size_toArray, List.length_cons, List.length_nil, Nat.reduceAdd, Nat.reduceSub, Array.replicate_succ, Array.replicate_zero, List.push_toArray, List.append_toArray, List.nil_append, List.cons_append]
  gi_wp2
  go_ret
  exact ⟨rfl, rfl⟩

/-- What groups hands back. -/
theorem groups_stops (n : Nat) (hn : 1 ≤ n) (Bs n₀ : Nat) (s : ByteArray) (hs : s.size ≤ 4294967295) (hd : ∀ c ∈ s.data.toList, isDig c = true) (w : World) (hBs : Bs < w.heap.size)
    (hc : w.cell? ⟨Bs, 0, none⟩ = some (.string s)) :
    SeqStopsK Fence.wide n Tryz.prog 150 #[.pointer (some ⟨Bs, 0, none⟩)] (fun x : Nat => #[Value.int .u64 ((x : Nat) : Int)]) (KpS n₀ Bs s) (fun ys => ys = gs s.data.toList (gn s.data.toList)) (fun pre => ∃ k, k ≤ gn s.data.toList ∧ pre = gs s.data.toList k) (gn s.data.toList) w := fun l J Jx W hW _ _ hY h0 =>
  groups1_in n hn l Bs n₀ s hs hd J Jx hY W ((hW.cell (p := ⟨Bs, 0, none⟩) hBs).trans hc) h0
end Go.Proofs.YtnfmcdfdbipeoaaGreatDoor
