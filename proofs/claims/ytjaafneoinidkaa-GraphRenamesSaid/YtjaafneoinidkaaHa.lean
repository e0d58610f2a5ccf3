/- Which vertices are reached. -/
import Derived.Test.YtjaafneoinidkaaGz
import Derived.Laws.OwnMore
namespace Go.Proofs.Ytjaafneoinidkaa
open Go.RowKit Go.Shelf Go.Proofs.Gr
attribute [local go_sem] Oper.semAt_some

/-- A row of truth values. -/
def enB (n : Nat) (f : Nat → Bool) : Array Value := ((List.range n).map fun k : Nat => Value.bool (f k)).toArray
theorem enB_at (n : Nat) (f : Nat → Bool) (k : Nat) (h : k < n) : (enB n f)[k]? = some (.bool (f k)) := by
  unfold enB
  rw [List.getElem?_toArray, List.getElem?_map, List.getElem?_range h]; rfl
theorem enB_set (n : Nat) (f g : Nat → Bool) (m : Nat) (z : Bool) (h : ∀ v, g v = if v = m then z else f v) : (enB n f).setIfInBounds m (.bool z) = enB n g := by
  unfold enB
  rw [List.setIfInBounds_toArray]
  congr 1
  refine List.ext_getElem (by simp) fun j h1 h2 => ?_
  rw [List.getElem_set]
  simp only [List.getElem_map, List.getElem_range]
  by_cases e : m = j
  · subst e; simp [h]
  · rw [if_neg e, h, if_neg (fun e' => e e'.symm)]
theorem enB_eq (n : Nat) (f g : Nat → Bool) (h : ∀ v, g v = f v) : enB n f = enB n g := by rw [show g = f from funext h]
theorem enB_false (n : Nat) : enB n (fun _ => false) = Array.replicate n (.bool false) := by
  unfold enB
  refine Array.ext (by simp) fun j h1 h2 => by simp
theorem infoB : (Try.prog.info? 4).map (fun i => (i.zero, i.size, i.bytes)) = some (some (.bool false), 1, 1) := by kernel_rfl
set_option maxRecDepth 100000 in
theorem make_bools (n : Nat) (hn : n ≤ 100) (w : World) : (Instr.makeSlice 94 (.int .i64 (n : Int)) (.int .i64 (n : Int))).run Try.prog w = .ok (.slice (some ⟨w.heap.size, 0, none⟩) n n) (w.alloc (.cells (enB n fun _ => false) 4)) := by
  obtain ⟨i0, hi0, hz0, hz1, hz2⟩ := info_parts infoB
  have h := run_make (P := Try.prog) w 94 4 i0 (.bool false) Try.underlying94 hi0 hz0 .i64 .i64 n n (by omega) (by omega) (by rw [hz2]; omega) (by omega)
  rw [h]
  simp only [Int.toNat_natCast, hz1, Nat.mul_one]
  rw [enB_false]
  congr 2
  refine congrArg (fun c => Obj.cells c 4) (Array.toList_inj.1 ?_)
  rw [show (Value.bool false).cells = #[.bool false] from rfl, toList_madeCells_one]; simp
/-- One step: b is reached from a. -/
def stepR (e : Nat → Nat → Bool) (t : Nat → Bool) (a b : Nat) : Nat → Bool := fun v => if v = b then (t b || (t a && e a b)) else t v
def inR (e : Nat → Nat → Bool) (a : Nat) : Nat → (Nat → Bool) → Nat → Bool
  | 0, t => t
  | b + 1, t => stepR e (inR e a b t) a b
def midR (e : Nat → Nat → Bool) (n : Nat) : Nat → (Nat → Bool) → Nat → Bool
  | 0, t => t
  | a + 1, t => inR e a n (midR e n a t)
def outR (e : Nat → Nat → Bool) (n : Nat) : Nat → (Nat → Bool) → Nat → Bool
  | 0, t => t
  | r + 1, t => midR e n n (outR e n r t)
/-- What is reached from a vertex. -/
def reachR (L : List E) (n v : Nat) : Nat → Bool := outR (fun a b : Nat => decide (0 < betw (a : Int) (b : Int) L)) n n (fun x => decide (x = v))
theorem stepR_no (e : Nat → Nat → Bool) (t : Nat → Bool) (a b : Nat) (h : (t a && e a b) = false) (v : Nat) : stepR e t a b v = t v := by
  unfold stepR
  rw [h, Bool.or_false]
  split
  · subst_vars; rfl
  · rfl
theorem stepR_yes (e : Nat → Nat → Bool) (t : Nat → Bool) (a b : Nat) (h : (t a && e a b) = true) (v : Nat) : stepR e t a b v = if v = b then true else t v := by
  unfold stepR
  rw [h, Bool.or_true]

set_option maxHeartbeats 12800000 in
set_option maxRecDepth 100000 in
theorem rreached_any (n : Nat) (hn : n ≤ 100) (a : Option Addr) (cap : Nat) (L : List E) (hL : L.length ≤ 100000) (hs : L.Pairwise (fun x y => ltE x y = true)) (v : Nat) (hv : v < n) (w : World) (h : EsAt w a L) :
    Calls Try.prog 70 #[gv n a L.length cap, .int .i64 v] w (fun e w' => ∃ g, e = .returned (.slice (some ⟨g, 0, none⟩) n n) ∧ w.heap.size ≤ g ∧ Blk w' g 4 (enB n (reachR L n v)) ∧ Below w.heap.size w w') := by
  have HBT := Lib.hid (fun u v w h => rbetween_any n a cap L hL hs u v w h)
  obtain ⟨e, he⟩ : ∃ e : Nat → Nat → Bool, e = fun a b : Nat => decide (0 < betw (a : Int) (b : Int) L) := ⟨_, rfl⟩
  have HEV : Hid (∀ x y : Nat, e x y = decide (0 < betw x y L)) := Lib.hid fun x y => by rw [he]
  have HRR : Hid (reachR L n v = outR e n n (fun x => decide (x = v))) := Lib.hid (by rw [he]; rfl)
  have HIS : Hid (∀ a b t, inR e a (b + 1) t = stepR e (inR e a b t) a b) := Lib.hid fun a b t => rfl
  have HMS : Hid (∀ a t, midR e n (a + 1) t = inR e a n (midR e n a t)) := Lib.hid fun a t => rfl
  have HOS : Hid (∀ r t, outR e n (r + 1) t = midR e n n (outR e n r t)) := Lib.hid fun a t => rfl
  have HI0 : Hid (∀ a t, inR e a 0 t = t) := Lib.hid fun a t => rfl
  have HM0 : Hid (∀ t, midR e n 0 t = t) := Lib.hid fun t => rfl
  have HO0 : Hid (∀ t, outR e n 0 t = t) := Lib.hid fun t => rfl
  generalize reachR L n v = R at *
  clear he
  unfold GivesN gv at *
  obtain ⟨W, hW⟩ : ∃ W, W = w.alloc (Obj.cells #[.int .i64 n, .slice a L.length cap] 24) := ⟨_, rfl⟩
  have hB0 : Below w.heap.size w W := by rw [hW]; exact (Below.refl _ w).alloc (Nat.le_refl _) _
  have hG : Blk W w.heap.size 24 #[.int .i64 n, .slice a L.length cap] := by rw [hW]; exact Blk.new _ _ _
  have hWs : W.heap.size = w.heap.size + 1 := by rw [hW]; simp
  have HWS := Lib.hid hWs
  have HW := Lib.hid hW
  have HB0 := Lib.hid hB0
  have HG := Lib.hid hG
  have HE := Lib.hid (h.keep hB0)
  have g0 : W.cell? ⟨w.heap.size, 0, none⟩ = some (.int .i64 n) := hG.cell 0
  have hmk : (Instr.makeSlice 94 (.int .i64 (n : Int)) (.int .i64 (n : Int))).run Try.prog (w.alloc (Obj.cells #[.int .i64 n, .slice a L.length cap] 24)) = .ok (.slice (some ⟨w.heap.size + 1, 0, none⟩) n n) (W.alloc (.cells (enB n fun _ => false) 4)) := by rw [← hW, ← hWs]; exact make_bools n hn W
  have hT0 : Blk (W.alloc (.cells (enB n fun _ => false) 4)) (w.heap.size + 1) 4 (enB n fun _ => false) := by rw [← hWs]; exact Blk.new _ _ _
  have y1 : (W.alloc (.cells (enB n fun _ => false) 4)).cell? ⟨w.heap.size + 1, v, none⟩ = some (.bool false) := (hT0.cell v).trans (enB_at n _ v hv)
  have y2 : (W.alloc (.cells (enB n fun _ => false) 4)).frozen? ⟨w.heap.size + 1, v, none⟩ = false := hT0.frozen v
  have v1 : (v : Int) < (n : Int) := by omega
  have v0 : (0 : Int) ≤ (v : Int) := by omega
  have n0 : (0 : Int) ≤ (n : Int) := by omega
  have HN0 : Hid (Blk ((W.alloc (.cells (enB n fun _ => false) 4)).setCell ⟨w.heap.size + 1, v, none⟩ (.bool true)) (w.heap.size + 1) 4 (enB n fun x => decide (x = v))) := Lib.hid (by
    rw [← enB_set n (fun _ => false) (fun x => decide (x = v)) v true (fun x => by by_cases e : x = v <;> simp [e])]
    exact hT0.set_ v _)
  have HBN0 : Hid (Below W.heap.size W ((W.alloc (.cells (enB n fun _ => false) 4)).setCell ⟨w.heap.size + 1, v, none⟩ (.bool true))) := Lib.hid (((Below.refl _ _).alloc (Nat.le_refl _) _).setCell (p := ⟨w.heap.size + 1, v, none⟩) (Nat.le_of_eq hWs) _)
  clear hB0 hG hW hWs h hT0
  go_enter Try.func70, Try.ntmps70
  go_wp2
  clear y1 y2 hmk g0
  go_loopw [6] (fun x wr => ∃ r : Nat, r ≤ n ∧ x = .int .i64 r ∧ Blk wr (w.heap.size + 1) 4 (enB n (outR e n r (fun x => decide (x = v)))) ∧ Below W.heap.size W wr) (fun x _ => n - (intOf x).toNat)
  case atStart => exact ⟨0, by omega, rfl, by rw [HO0.out]; exact HN0.out, HBN0.out⟩
  case round =>
    obtain ⟨r, hr, rfl, hT, hb⟩ := hrel
    have g0 : wr.cell? ⟨w.heap.size, 0, none⟩ = some (.int .i64 n) := (HG.out.below hb HG.out.lt).cell 0
    have HOS2 := Lib.hid (HOS.out r (fun x => decide (x = v)))
    generalize hTe : outR e n r (fun x => decide (x = v)) = T1 at *
    have HTE := Lib.hid hTe
    clear hTe
    have HT1 := Lib.hid hT
    have HB1 := Lib.hid hb
    clear hT hb
    by_cases hlr : r < n
    · have r1 : (r : Int) < (n : Int) := by omega
      go_wp2
      clear g0
      go_loopw [7] (fun x wr => ∃ c : Nat, c ≤ n ∧ x = .int .i64 c ∧ Blk wr (w.heap.size + 1) 4 (enB n (midR e n c T1)) ∧ Below W.heap.size W wr) (fun x _ => n - (intOf x).toNat)
      case atStart => exact ⟨0, by omega, rfl, by rw [HM0.out]; exact HT1.out, HB1.out⟩
      case round =>
        obtain ⟨c, hc, rfl, hT, hb⟩ := hrel
        have g0 : wr.cell? ⟨w.heap.size, 0, none⟩ = some (.int .i64 n) := (HG.out.below hb HG.out.lt).cell 0
        have HMS2 := Lib.hid (HMS.out c T1)
        by_cases hlc : c < n
        · generalize midR e n c T1 = T2 at *
          have HT2 := Lib.hid hT
          have HB2 := Lib.hid hb
          clear hT hb
          have c1 : (c : Int) < (n : Int) := by omega
          have c0 : (0 : Int) ≤ (c : Int) := by omega
          go_wp2
          clear g0
          go_loopw [8] (fun x wr => ∃ d : Nat, d ≤ n ∧ x = .int .i64 d ∧ Blk wr (w.heap.size + 1) 4 (enB n (inR e c d T2)) ∧ Below W.heap.size W wr) (fun x _ => n - (intOf x).toNat)
          case atStart => exact ⟨0, by omega, rfl, by rw [HI0.out]; exact HT2.out, HB2.out⟩
          case round =>
            obtain ⟨d, hd, rfl, hT, hb⟩ := hrel
            have hg := HG.out.below hb HG.out.lt
            have g0 : wr.cell? ⟨w.heap.size, 0, none⟩ = some (.int .i64 n) := hg.cell 0
            have g1 : wr.cell? ⟨w.heap.size, 1, none⟩ = some (.slice a L.length cap) := hg.cell 1
            clear hg
            have HIS2 := Lib.hid (HIS.out c d T2)
            by_cases hld : d < n
            · generalize inR e c d T2 = T3 at *
              have d1 : (d : Int) < (n : Int) := by omega
              have d0 : (0 : Int) ≤ (d : Int) := by omega
              have z1 : wr.cell? ⟨w.heap.size + 1, c, none⟩ = some (.bool (T3 c)) := (hT.cell c).trans (enB_at n T3 c hlc)
              have HT3 := Lib.hid hT
              have HB3 := Lib.hid hb
              have HEr := Lib.hid (HE.out.keep hb)
              clear hT hb
              by_cases ht : T3 c = true
              · rw [ht] at z1
                have HT := Lib.hid ht
                have HBT2 := Lib.hid (fun w h => HBT.out (c : Int) (d : Int) w h)
                have HEd := Lib.hid (HEV.out c d)
                generalize betw (c : Int) (d : Int) L = B at *
                clear ht
                go_wp2_with fail
                refine (HBT2.out _ HEr.out).mono ?_
                rintro e' w2 ⟨rfl, hb2⟩
                have HB4 := Lib.hid (HB3.out.trans (hb2.mono HB3.out.size))
                have hT4 : Blk w2 (w.heap.size + 1) 4 (enB n T3) := HT3.out.below hb2 HT3.out.lt
                clear hb2
                by_cases hB : 0 < B
                · have z2 : w2.cell? ⟨w.heap.size + 1, d, none⟩ = some (.bool (T3 d)) := (hT4.cell d).trans (enB_at n T3 d hld)
                  have z3 : w2.frozen? ⟨w.heap.size + 1, d, none⟩ = false := hT4.frozen d
                  have HN : Hid (Blk (w2.setCell ⟨w.heap.size + 1, d, none⟩ (.bool true)) (w.heap.size + 1) 4 (enB n (inR e c (d + 1) T2))) := Lib.hid (by
                    rw [HIS2.out, ← enB_set n T3 _ d true (fun x => stepR_yes e T3 c d (by rw [HT.out, HEd.out, decide_eq_true hB]; rfl) x)]
                    exact hT4.set_ d _)
                  have HBN : Hid (Below W.heap.size W (w2.setCell ⟨w.heap.size + 1, d, none⟩ (.bool true))) := Lib.hid (HB4.out.setCell (p := ⟨w.heap.size + 1, d, none⟩) (Nat.le_of_eq HWS.out) _)
                  generalize T3 d = q at *
                  clear hT4
                  go_wp2
                  go_roundw
                  case rel => exact ⟨d + 1, by omega, by go_num, HN.out, HBN.out⟩
                  case measure => simp [intOf]; omega
                · have HN : Hid (Blk w2 (w.heap.size + 1) 4 (enB n (inR e c (d + 1) T2))) := Lib.hid (by
                    rw [HIS2.out, ← enB_eq n T3 _ (fun x => stepR_no e T3 c d (by rw [HT.out, HEd.out, decide_eq_false hB]; rfl) x)]
                    exact hT4)
                  clear hT4
                  go_wp2
                  go_roundw
                  case rel => exact ⟨d + 1, by omega, by go_num, HN.out, HB4.out⟩
                  case measure => simp [intOf]; omega
              · have ht' : T3 c = false := by simpa using ht
                rw [ht'] at z1
                have HN : Hid (Blk wr (w.heap.size + 1) 4 (enB n (inR e c (d + 1) T2))) := Lib.hid (by
                  rw [HIS2.out, ← enB_eq n T3 _ (fun x => stepR_no e T3 c d (by rw [ht']; rfl) x)]
                  exact HT3.out)
                clear ht ht'
                go_wp2
                go_roundw
                case rel => exact ⟨d + 1, by omega, by go_num, HN.out, HB3.out⟩
                case measure => simp [intOf]; omega
            · obtain rfl : d = n := by omega
              have HN := Lib.hid hT
              have HBN := Lib.hid hb
              clear hT hb
              go_wp2
              go_roundw
              case rel => exact ⟨c + 1, by omega, by go_num, by rw [HMS2.out]; exact HN.out, HBN.out⟩
              case measure => simp [intOf]; omega
        · obtain rfl : c = n := by omega
          have HN := Lib.hid hT
          have HBN := Lib.hid hb
          clear hT hb
          go_wp2
          go_roundw
          case rel => exact ⟨r + 1, by omega, by go_num, by rw [HOS2.out]; exact HN.out, HBN.out⟩
          case measure => simp [intOf]; omega
    · obtain rfl : r = n := by omega
      go_wp2
      go_ret
      exact ⟨w.heap.size + 1, rfl, by omega, by rw [HRR.out, HTE.out]; exact HT1.out, HB0.out.trans (HB1.out.mono HB0.out.size)⟩
end Go.Proofs.Ytjaafneoinidkaa
