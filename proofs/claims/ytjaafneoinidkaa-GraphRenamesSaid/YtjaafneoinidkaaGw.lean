/- Tables of numbers. -/
import Derived.Test.YtjaafneoinidkaaGv
import Derived.Laws.OwnMore
namespace Go.Proofs.Ytjaafneoinidkaa
open Go.RowKit Go.Shelf Go.Proofs.Gr

/-- A row of numbers. -/
def enR (n : Nat) (f : Nat → Int) : Array Value := ((List.range n).map fun k : Nat => Value.int .i64 (f k)).toArray
theorem enR_at (n : Nat) (f : Nat → Int) (k : Nat) (h : k < n) : (enR n f)[k]? = some (.int .i64 (f k)) := by
  unfold enR
  rw [List.getElem?_toArray, List.getElem?_map, List.getElem?_range h]; rfl
theorem enR_set (n : Nat) (f g : Nat → Int) (m : Nat) (z : Int) (h : ∀ v, g v = if v = m then z else f v) : (enR n f).setIfInBounds m (.int .i64 z) = enR n g := by
  unfold enR
  rw [List.setIfInBounds_toArray]
  congr 1
  refine List.ext_getElem (by simp) fun j h1 h2 => ?_
  rw [List.getElem_set]
  simp only [List.getElem_map, List.getElem_range]
  by_cases e : m = j
  · subst e; simp [h]
  · rw [if_neg e, h, if_neg (fun e' => e e'.symm)]
theorem enR_zero (n : Nat) : enR n (fun _ => 0) = Array.replicate n (.int .i64 0) := by
  unfold enR
  refine Array.ext (by simp) fun j h1 h2 => by simp
def rowV (n : Nat) (g : Nat) : Value := .slice (some ⟨g, 0, none⟩) n n
/-- A table of rows of n numbers: its rows' blocks are G. -/
structure Tab (w : World) (base : Nat) (v : Value) (n : Nat) (G : List Nat) (t : Nat → Nat → Int) : Prop where
  own : w.ownsRow base 46 1 v G.length (G.map (rowV n))
  row : ∀ j (h : j < G.length), Blk w G[j] 3 (enR n (t j)) ∧ base ≤ G[j]
  srt : G.Pairwise (· < ·)

theorem Tab.push {wr w3 : World} {base : Nat} {v v1 : Value} {n : Nat} {G : List Nat} {t : Nat → Nat → Int} (h : Tab wr base v n G t) (hb : base ≤ wr.heap.size) (f : Nat → Int) (hf : t G.length = f) (o : Obj)
    (hg : ((wr.alloc (.cells (enR n f) 3)).alloc o).grownBy w3 v.ownBlock) (hown : w3.ownsRow base 46 1 v1 (G.length + 1) (G.map (rowV n) ++ [rowV n wr.heap.size])) : Tab w3 base v1 n (G ++ [wr.heap.size]) t := by
  have hk : ∀ g cs, Blk (wr.alloc (.cells (enR n f) 3)) g 3 cs → Blk w3 g 3 cs := fun g cs hB =>
    (hB.alloc o).grown hg (own_blk_ne ((h.own.alloc _).alloc o) (hB.alloc o) (by decide))
  refine ⟨by rw [List.length_append, List.map_append]; exact hown, fun j hj => ?_, ?_⟩
  · by_cases e : j < G.length
    · rw [List.getElem_append_left e]
      exact ⟨hk _ _ ((h.row j e).1.alloc _), (h.row j e).2⟩
    · have e2 : j = G.length := by rw [List.length_append, List.length_singleton] at hj; omega
      subst e2
      rw [List.getElem_append_right (Nat.le_refl _)]
      simp only [Nat.sub_self, List.getElem_cons_zero]
      rw [hf]
      exact ⟨hk _ _ (Blk.new _ _ _), hb⟩
  · rw [List.pairwise_append]
    refine ⟨h.srt, List.pairwise_singleton _ _, fun x hx y hy => ?_⟩
    obtain rfl : y = wr.heap.size := by simpa using hy
    obtain ⟨j, hj, rfl⟩ := List.mem_iff_getElem.1 hx
    exact (h.row j hj).1.lt
theorem infoR : (Try.prog.info? 46).map (fun i => (i.zero, i.size, i.bytes)) = some (some (.slice none 0 0), 1, 24) := by kernel_rfl
set_option maxRecDepth 100000 in
theorem make_row (n : Nat) (hn : n ≤ 100) (w : World) : (Instr.makeSlice 46 (.int .i64 (n : Int)) (.int .i64 (n : Int))).run Try.prog w = .ok (.slice (some ⟨w.heap.size, 0, none⟩) n n) (w.alloc (.cells (enR n fun _ => 0) 3)) := by
  obtain ⟨i0, hi0, hz0, hz1, hz2⟩ := info_parts infoI
  have h := run_make (P := Try.prog) w 46 3 i0 (.int .i64 0) Try.underlying46 hi0 hz0 .i64 .i64 n n (by omega) (by omega) (by rw [hz2]; omega) (by omega)
  rw [h]
  simp only [Int.toNat_natCast, hz1, Nat.mul_one]
  rw [enR_zero]
  congr 2
  refine congrArg (fun c => Obj.cells c 3) (Array.toList_inj.1 ?_)
  rw [show (Value.int .i64 0).cells = #[.int .i64 0] from rfl, toList_madeCells_one]; simp
set_option maxHeartbeats 12800000 in
set_option maxRecDepth 100000 in
theorem rtable_any (n : Nat) (hn : n ≤ 100) (w : World) :
    Calls Try.prog 61 #[.int .i64 n] w (fun e w' => ∃ v G, e = .returned v ∧ G.length = n ∧ Tab w' w.heap.size v n G (fun _ _ => 0) ∧ Below w.heap.size w w') := by
  obtain ⟨i0, hi0, hz0, hz1, hz2⟩ := info_parts infoR
  have n1 : (0 : Int) ≤ (n : Int) := by omega
  go_enter Try.func61, Try.ntmps61
  go_wp2
  go_loopw [3, 4] (fun s v wr => ∃ (i : Nat) (G : List Nat), i ≤ n ∧ v = .int .i64 i ∧ G.length = i ∧ Tab wr w.heap.size s n G (fun _ _ => 0) ∧ Below w.heap.size w wr) (fun _ v _ => n - (intOf v).toNat)
  case atStart => exact ⟨0, [], by omega, rfl, rfl, ⟨World.ownsRow_nil _ _ _ _, fun j h => by simp at h, List.Pairwise.nil⟩, Below.refl _ _⟩
  case round =>
    obtain ⟨i, G, hi, rfl, hG, hT, hb⟩ := hrel
    have HT := Lib.hid hT
    have HBr := Lib.hid hb
    clear hT hb
    by_cases hlt : i < n
    · have i1 : (i : Int) < (n : Int) := by omega
      have hmk : (Instr.makeSlice 46 (.int .i64 (n : Int)) (.int .i64 (n : Int))).run Try.prog wr = .ok (.slice (some ⟨wr.heap.size, 0, none⟩) n n) (wr.alloc (.cells (enR n fun _ => 0) 3)) := make_row n hn wr
      have hp := HT.out
      have HOV : Hid ((wr.alloc (.cells (enR n fun _ => 0) 3)).ownsRow w.heap.size 46 1 u3 G.length (G.map (rowV n))) := Lib.hid (hp.own.alloc _)
      have HBV : Hid (Below w.heap.size w (wr.alloc (.cells (enR n fun _ => 0) 3))) := Lib.hid (HBr.out.alloc HBr.out.size _)
      have hlen : G.length = i := hG
      clear hp
      go_wp2_with (at_builtin; refine wpList_append_own _ rfl _ _ 80 rfl w.heap.size 46 i0 (.slice none 0 0) 1 24 Try.underlying80 hi0 hz0 hz1 hz2 rfl (by decide) _ _ _ rfl (HOV.out.alloc _) ⟨wr.heap.size + 1, 0, none⟩ 1 1 [rowV n wr.heap.size] rfl rfl (by have h9 := lit_row (wr.alloc (.cells (enR n fun _ => 0) 3)) [rowV n wr.heap.size] 46; rwa [World.size_alloc] at h9) (by simp [Value.oneCell', rowV]) (by unfold maxLen; omega) (by omega) (by rw [World.size_alloc]; have := HBV.out.size; omega) ?_; intro v1 w3 hown1 hgrow1 _; have HX1 := Lib.hid (HT.out.push HBr.out.size _ rfl _ hgrow1 hown1); have HX2 : Hid (Below w.heap.size w w3) := Lib.hid (below_push (w := w) HBV.out (fun k hk => (HOV.out.lt k hk).1) hgrow1); clear hown1 hgrow1)
      go_wp2
      go_roundw
      case rel => exact ⟨i + 1, _, by omega, by go_num, by rw [List.length_append, hG]; rfl, HX1.out, HX2.out⟩
      case measure => simp [intOf]; omega
    · obtain rfl : i = n := by omega
      go_wp2
      go_ret
      exact ⟨_, G, rfl, hG, HT.out, HBr.out⟩
end Go.Proofs.Ytjaafneoinidkaa
