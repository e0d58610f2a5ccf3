/- strings.Builder as this program has it: the methods that write. -/
import Derived.Test.YtffcahhnaomegaaDoorLe
import Derived.Lib.Builder
import Derived.Lib.AppendStr
import Derived.Lib.OthersKept
import Derived.Laws.Externs
namespace Go.Proofs.YtffcahhnaomegaaDoor
open Go.RowKit Go.Proofs.Lx

theorem lit1 (w : World) (u : Value) : ∀ (j : Nat) (x : Value), [u][j]? = some x → (w.alloc (.cells #[u] 5)).cell? ((⟨w.heap.size, 0, none⟩ : Addr).add j) = some x := by
  intro j x hj
  rcases j with _ | j
  · simp at hj; subst hj; exact (cell_of_row _ _ 0 _ 5 (0, 0) (heap_alloc_new w _))
  · simp at hj
theorem infoB : (Tryd.prog.info? 65).map (·.size) = some 2 := by kernel_rfl
theorem info5 : (Tryd.prog.info? 5).map (fun i => (i.zero, i.size, i.bytes)) = some (some (.int .u8 0), 1, 1) := by kernel_rfl
theorem liesB : liesAt Tryd.prog Tryd.prog.depth 65 (2 / Tryd.prog.cellsOf 65) 0 65 1 = true := by kernel_rfl

set_option maxHeartbeats 3200000 in
set_option maxRecDepth 100000 in
theorem bcheck_used (b : Nat) (w : World) (h0 : w.cell? ⟨b, 0, none⟩ = some (.pointer (some ⟨b, 0, none⟩))) :
    Calls Tryd.prog 51 #[.pointer (some ⟨b, 0, none⟩)] w (fun e w' => e = .returned (.tuple #[]) ∧ w = w') := by
  obtain ⟨j, hj, _⟩ := Option.map_eq_some_iff.1 infoB
  go_enter Tryd.func51, Tryd.ntmps51
  go_wp2
  rw [Lib.run_neq_ptr_same w _ Tryd.underlying62 hj]
  go_wp2
  go_end0
  exact ⟨rfl, rfl⟩

set_option maxHeartbeats 3200000 in
set_option maxRecDepth 100000 in
theorem bcheck_fresh (b : Nat) (w : World) (h0 : w.cell? ⟨b, 0, none⟩ = some (.pointer none)) (hsh : w.shape? b = some (65, 2)) (hfz : w.frozen? ⟨b, 0, none⟩ = false) :
    Calls Tryd.prog 51 #[.pointer (some ⟨b, 0, none⟩)] w (fun e w' => e = .returned (.tuple #[]) ∧ w.setCell ⟨b, 0, none⟩ (.pointer (some ⟨b, 0, none⟩)) = w') := by
  obtain ⟨j, hj, hjs⟩ := Option.map_eq_some_iff.1 infoB
  go_enter Tryd.func51, Tryd.ntmps51
  go_wp2
  rw [Lib.run_to_unsafe w ⟨b, 0, none⟩ Tryd.underlying62 Tryd.underlying86 hj (by rw [hjs]; decide) hsh (Nat.zero_lt_succ 1)]
  simp only [Result.andThen]
  rw [Oper.upon_value]
  go_wp2
  rw [run_callFunc_extern Tryd.func57 (by kernel_rfl) (by kernel_rfl) (by kernel_rfl) (e := Extern.AbiNoEscape.same) (by kernel_rfl)]
  rw [Lib.run_noEscape]
  simp only [Result.andThen]
  rw [Oper.upon_value]
  go_wp2
  rw [Lib.run_from_unsafe w ⟨b, 0, none⟩ Tryd.underlying86 Tryd.underlying62 hj hsh liesB]
  simp only [Result.andThen]
  rw [Oper.upon_value]
  go_wp2
  go_end0
  exact ⟨rfl, rfl⟩

/-- copyCheck at a builder of the call's own. -/
theorem bcheck_any (B b : Nat) (bs : List Value) (w : World) (h : Lib.IsBuilder 65 5 B b bs w) :
    Calls Tryd.prog 51 #[.pointer (some ⟨b, 0, none⟩)] w (fun e w' => e = .returned (.tuple #[]) ∧ Lib.BuilderAt 65 5 B b (.pointer (some ⟨b, 0, none⟩)) bs w' ∧ Below B w w' ∧ Lib.OthersKept 5 (some b) w w') := by
  rcases h with h | h
  · refine (bcheck_fresh b w h.cell0 h.shape h.frozen0).mono ?_
    rintro e w' ⟨rfl, rfl⟩
    exact ⟨rfl, h.used _, (Below.refl B w).setCell (p := ⟨b, 0, none⟩) h.1 _, (Lib.OthersKept.refl _ _ w).setCell ⟨b, 0, none⟩ rfl _⟩
  · refine (bcheck_used b w h.cell0).mono ?_
    rintro e w' ⟨rfl, rfl⟩
    exact ⟨rfl, h, Below.refl B _, Lib.OthersKept.refl _ _ _⟩

/-- What a writer hands back: the builder holds more; below it and beside it nothing has turned. -/
def Wrote (B b : Nat) (bs : List Value) (w w' : World) : Prop := Lib.IsBuilder 65 5 B b bs w' ∧ Below B w w' ∧ Lib.OthersKept 5 (some b) w w'

/-- Behind an append to the buffer: where it lies, and what the store of it leaves. -/
theorem wrote_step {B b : Nat} {v v' : Value} {bs bs' : List Value} {w wx w2 : World} {p : Value} (hB : B ≤ b) (hbx : wx.heap[b]? = some (.cells #[p, v] 65 (0, 0))) (hp : p = .pointer (some ⟨b, 0, none⟩)) (hne : v.ownBlock ≠ some b) (hown : wx.ownsRow B 5 1 v bs.length bs)
    (hBx : B ≤ wx.heap.size) (hb : Below B w wx) (hk : Lib.OthersKept 5 (some b) w wx) (hg : wx.grownBy w2 v.ownBlock) (hown' : w2.ownsRow B 5 1 v' bs'.length bs') :
    w2.cell? ⟨b, 1, none⟩ = some v ∧ w2.frozen? ⟨b, 1, none⟩ = false ∧ (∃ A n c, v' = .slice A n c) ∧ Hid (Wrote B b bs' w (w2.setCell ⟨b, 1, none⟩ v')) := by
  have hlt : b < wx.heap.size := by
    rcases Nat.lt_or_ge b wx.heap.size with h' | h'
    · exact h'
    · rw [Array.getElem?_eq_none h'] at hbx; cases hbx
  have hb2 : w2.heap[b]? = some (.cells #[p, v] 65 (0, 0)) := (hg.block b hlt (fun e => hne e.symm)).trans hbx
  refine ⟨by rw [Lib.cell_of_heap hb2]; rfl, by simp [World.frozen?, hb2], ?_, ?_⟩
  · rcases hown'.2 with ⟨hv, _⟩ | ⟨g, cap, cur, hv, _⟩
    · exact ⟨_, _, _, hv⟩
    · exact ⟨_, _, _, hv⟩
  · subst hp
    refine Lib.hid ⟨.inr (Lib.BuilderAt.put hB hb2 hown' (by decide)), (hb.grown hg hBx (fun k hk => (hown.lt k hk).1)).setCell (p := ⟨b, 1, none⟩) hB _, (hk.grown hg ?_).setCell ⟨b, 1, none⟩ rfl _⟩
    intro g hgv
    rcases hown.2 with ⟨rfl, _⟩ | ⟨g', cap, cur, rfl, _, hgg, _⟩
    · simp [Value.ownBlock] at hgv
    · simp [Value.ownBlock] at hgv
      subst hgv
      exact ⟨cur, _, hgg⟩

set_option maxHeartbeats 3200000 in
set_option maxRecDepth 100000 in
theorem bbyte_any (B b : Nat) (bs : List Value) (c : Int) (w : World) (h : Lib.IsBuilder 65 5 B b bs w) (hlen : bs.length + 1 ≤ 140737488355328) (hBw : B ≤ w.heap.size) :
    Calls Tryd.prog 39 #[.pointer (some ⟨b, 0, none⟩), .int .u8 c] w (fun e w' => e = .returned .nilIface ∧ Wrote B b (bs ++ [.int .u8 c]) w w') := by
  obtain ⟨i0, hi, hz0, hz1, hz2⟩ := info_parts info5
  have HC := Lib.hid (bcheck_any B b bs w h)
  clear h
  go_enter Tryd.func39, Tryd.ntmps39
  go_wp2_with fail
  refine HC.out.mono ?_
  rintro e w1 ⟨rfl, ⟨hB, v, hbk, hown, hne⟩, hb1, hk1⟩
  have c1 : w1.cell? ⟨b, 1, none⟩ = some v := by rw [Lib.cell_of_heap hbk]; rfl
  have HBK := Lib.hid hbk
  have HNE := Lib.hid hne
  have HOW := Lib.hid hown
  have Hb1 := Lib.hid hb1
  have Hk1 := Lib.hid hk1
  clear hbk hne hown hb1 hk1
  have HS1 := Lib.hid (Nat.le_trans hBw Hb1.out.size)
  have HSZ : Hid (B ≤ (w1.alloc (Obj.cells #[.int .u8 c] 5)).heap.size) := Lib.hid (by rw [World.size_alloc]; have := HS1.out; omega)
  have AL : Hid (∀ o, (w1.alloc o).heap[b]? = some (.cells #[.pointer (some ⟨b, 0, none⟩), v] 65 (0, 0))) := by
    refine Lib.hid fun o => ?_
    rw [Below.heap_alloc _ _ _ ?_]
    · exact HBK.out
    · rcases Nat.lt_or_ge b w1.heap.size with h' | h'
      · exact h'
      · have := HBK.out; rw [Array.getElem?_eq_none h'] at this; cases this
  go_wp2_with (at_builtin; refine wpList_append_own _ rfl _ _ 63 rfl B 5 i0 (.int .u8 0) 1 1 Tryd.underlying63 hi hz0 hz1 hz2 rfl (by decide) _ _ _ rfl (HOW.out.alloc _) ⟨w1.heap.size, 0, none⟩ 1 1 [.int .u8 c] rfl rfl (lit1 _ _) (by simp [Value.oneCell']) (by unfold maxLen; omega) (by omega) (by have := Hb1.out.size; simp; omega) ?_; intro v' w2 hown' hgrow _; obtain ⟨d1, d2, ⟨A, n, cc, rfl⟩, HW⟩ := wrote_step (bs' := bs ++ [.int .u8 c]) hB (AL.out _) rfl HNE.out (HOW.out.alloc _) HSZ.out (Hb1.out.alloc HS1.out _) (Hk1.out.alloc _) hgrow (by simpa using hown'); clear hown' hgrow)
  go_wp2
  go_ret
  exact ⟨rfl, HW.out⟩

set_option maxHeartbeats 3200000 in
set_option maxRecDepth 100000 in
theorem bstr_any (B b : Nat) (bs : List Value) (s : ByteArray) (w : World) (h : Lib.IsBuilder 65 5 B b bs w) (hlen : bs.length + s.size ≤ 140737488355328) (hBw : B ≤ w.heap.size) :
    Calls Tryd.prog 40 #[.pointer (some ⟨b, 0, none⟩), .string s] w (fun e w' => e = .returned (.tuple #[.int .i64 s.size, .nilIface]) ∧ Wrote B b (bs ++ Lib.strCells s) w w') := by
  obtain ⟨i0, hi, hz0, hz1, hz2⟩ := info_parts info5
  have HC := Lib.hid (bcheck_any B b bs w h)
  clear h
  go_enter Tryd.func40, Tryd.ntmps40
  go_wp2_with fail
  refine HC.out.mono ?_
  rintro e w1 ⟨rfl, ⟨hB, v, hbk, hown, hne⟩, hb1, hk1⟩
  have c1 : w1.cell? ⟨b, 1, none⟩ = some v := by rw [Lib.cell_of_heap hbk]; rfl
  have HBK := Lib.hid hbk
  have HNE := Lib.hid hne
  have HOW := Lib.hid hown
  have Hb1 := Lib.hid hb1
  have Hk1 := Lib.hid hk1
  have HS1 := Lib.hid (Nat.le_trans hBw hb1.size)
  clear hbk hne hown hb1 hk1
  go_wp2_with (at_builtin; refine Lib.wpList_append_own_string _ rfl _ _ 63 9 rfl B 5 i0 Tryd.underlying63 Tryd.underlying9 hi hz0 hz1 hz2 _ _ _ rfl HOW.out s rfl (by unfold maxLen; omega) (by omega) HS1.out ?_; intro v' w2 hown' hgrow _; obtain ⟨d1, d2, ⟨A, n, cc, rfl⟩, HW⟩ := wrote_step (bs' := bs ++ Lib.strCells s) hB HBK.out rfl HNE.out HOW.out HS1.out Hb1.out Hk1.out hgrow (by simpa [Lib.strCells_length] using hown'); clear hown' hgrow)
  go_wp2
  go_ret2
  exact ⟨rfl, HW.out⟩
end Go.Proofs.YtffcahhnaomegaaDoor
