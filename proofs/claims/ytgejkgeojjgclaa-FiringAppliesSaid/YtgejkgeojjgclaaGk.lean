/- Valence, Degree, Neighbours of the reference; Neighbours of the program. -/
import Derived.Test.YtgejkgeojjgclaaGj
namespace Go.Proofs.Ytgejkgeojjgclaa
open Go.RowKit Go.Proofs.Gr

theorem infoI : (Try.prog.info? 3).map (fun i => (i.zero, i.size, i.bytes)) = some (some (.int .i64 0), 1, 8) := by kernel_rfl
theorem encI_len (z : Int) : (encI z).length = 1 := rfl
theorem bet_le {n : Int} {L : List E} (h : Right n L) (p q : Int) : 0 ≤ bet p q L ∧ bet p q L ≤ 50 := by
  refine ⟨bet_nonneg h.rng p q, ?_⟩
  by_cases hx : ∃ i, i < L.length ∧ (eAt L i).a = p ∧ (eAt L i).b = q
  · obtain ⟨i, hi, hk⟩ := hx
    rw [bet_first h.srt i hi hk]
    have := h.rng (eAt L i) (by rw [← eAt_get L i hi]; exact List.getElem_mem hi)
    omega
  · rw [bet_zero_at (fun i hi hk => hx ⟨i, hi, hk⟩)]; omega
theorem betw_le {n : Int} {L : List E} (h : Right n L) (u v : Int) : 0 ≤ betw u v L ∧ betw u v L ≤ 50 := bet_le h _ _
theorem valZ_le {n : Int} {L : List E} (h : Right n L) (v : Int) (k : Nat) : 0 ≤ valZ v L k ∧ valZ v L k ≤ 50 * k := by
  induction k with
  | zero => exact ⟨Int.le_refl _, Int.le_refl _⟩
  | succ k ih =>
    have h1 := betw_le h k v
    have h2 : valZ v L (k + 1) = valZ v L k + (if (k : Int) = v then 0 else betw k v L) := rfl
    rw [h2]; split <;> omega

set_option maxHeartbeats 12800000 in
set_option maxRecDepth 100000 in
theorem rvalence_any (N : Nat) (a : Option Addr) (cap : Nat) (L : List E) (hL : L.length ≤ 100000) (hR : Right N L) (v : Int) (w : World) (h : EsAt w a L) :
    Calls Try.prog 84 #[gv (N : Nat) a L.length cap, .int .i64 v] w (GivesN w (valZ v L N)) := by
  have hN : N ≤ 12 := by have := hR.hi; omega
  have HBT := Lib.hid (fun u w h => rbetween_any (N : Nat) a cap L hL hR.srt u v w h)
  have HLE := Lib.hid (fun k => valZ_le hR v k)
  have HST : Hid (∀ k : Nat, valZ v L (k + 1) = valZ v L k + (if (k : Int) = v then 0 else betw k v L)) := Lib.hid fun k => rfl
  unfold GivesN gv at *
  obtain ⟨W, hW⟩ : ∃ W, W = w.alloc (Obj.cells #[.int .i64 (N : Nat), .slice a L.length cap] 24) := ⟨_, rfl⟩
  have hB0 : Below w.heap.size w W := by rw [hW]; exact (Below.refl _ w).alloc (Nat.le_refl _) _
  have hG : Blk W w.heap.size 24 #[.int .i64 (N : Nat), .slice a L.length cap] := by rw [hW]; exact Blk.new _ _ _
  have hWs : W.heap.size = w.heap.size + 1 := by rw [hW]; simp
  have HWS := Lib.hid hWs
  have HW := Lib.hid hW
  have HB0 := Lib.hid hB0
  have HG := Lib.hid hG
  have HE := Lib.hid (h.keep hB0)
  have g0 : W.cell? ⟨w.heap.size, 0, none⟩ = some (.int .i64 (N : Nat)) := hG.cell 0
  have g1 : W.cell? ⟨w.heap.size, 1, none⟩ = some (.slice a L.length cap) := hG.cell 1
  clear hB0 hG hW hWs
  clear h hR
  go_enter Try.func84, Try.ntmps84
  go_wp2
  rw [← HW.out]
  go_loopw [5, 6] (fun s x wr => ∃ u : Nat, u ≤ N ∧ x = .int .i64 u ∧ s = .int .i64 (valZ v L u) ∧ Below W.heap.size W wr) (fun _ x _ => N - (intOf x).toNat)
  case atStart => exact ⟨0, by omega, rfl, rfl, Below.refl _ _⟩
  case round =>
    obtain ⟨u, hu, rfl, rfl, hb⟩ := hrel
    have g0' : wr.cell? ⟨w.heap.size, 0, none⟩ = some (.int .i64 (N : Nat)) := (HG.out.below hb HG.out.lt).cell 0
    have g1' : wr.cell? ⟨w.heap.size, 1, none⟩ = some (.slice a L.length cap) := (HG.out.below hb HG.out.lt).cell 1
    have HBr := Lib.hid hb
    by_cases hlt : u < N
    · have HC := Lib.hid (HBT.out u wr (HE.out.keep hb))
      have hst := HST.out u
      have hle := HLE.out u
      have hle2 := HLE.out (u + 1)
      rw [hst] at hle2
      generalize valZ v L u = S at *
      generalize betw (u : Nat) v L = B at *
      have i1 : (u : Int) < ((N : Nat) : Int) := by omega
      by_cases k1 : (u : Int) = v
      · have d1 : ((u : Int) != v) = false := by rw [k1]; simp
        rw [if_pos k1, Int.add_zero] at hst
        have HS2 := Lib.hid hst
        clear hst hle hle2 hb k1
        go_wp2
        go_roundw
        case rel => exact ⟨u + 1, by omega, by go_num, by rw [HS2.out], HBr.out⟩
        case measure => simp [intOf]; omega
      · have d1 : ((u : Int) != v) = true := by rw [bne_iff_ne]; exact k1
        rw [if_neg k1] at hst hle2
        have HS2 := Lib.hid hst
        have c1 : IntKind.i64.wrap (S + B) = S + B := IntWalk.i64_in _ (by omega)
        clear hst hle hle2 hb k1
        go_wp2_with fail
        refine HC.out.mono ?_
        rintro e w1 ⟨rfl, hb1⟩
        have HB1 := Lib.hid (HBr.out.trans (hb1.mono HBr.out.size))
        clear hb1
        go_wp2
        go_roundw
        case rel => exact ⟨u + 1, by omega, by go_num, by rw [HS2.out], HB1.out⟩
        case measure => simp [intOf]; omega
    · obtain rfl : u = N := by omega
      clear hb
      go_wp2
      go_ret
      exact ⟨rfl, HB0.out.trans (HBr.out.mono HB0.out.size)⟩
/-- Hands back ints. -/
def GivesI (w : World) (l : List Int) (e : Ending) (w' : World) : Prop := ∃ a c, e = .returned (.slice a l.length c) ∧ IsAt w' a l ∧ Below w.heap.size w w'
/-- Hands back ints and an error's number. -/
def GivesIE (w : World) (l : List Int) (k : Nat) (e : Ending) (w' : World) : Prop := ∃ a c, e = .returned (.tuple #[.slice a l.length c, .int .i64 (k : Nat)]) ∧ IsAt w' a l ∧ Below w.heap.size w w'
theorem flatI_snoc (l : List Int) (z : Int) : flat encI (l ++ [z]) = flat encI l ++ [.int .i64 z] := by rw [flat_append, flat_one]; rfl
theorem flatI_len (l : List Int) : (flat encI l).length = l.length := by rw [flat_len (k := 1) encI_len]; omega
theorem nbR_le (v : Int) (L : List E) (n : Nat) : (nbR v L n).length ≤ n := by
  induction n with
  | zero => simp [nbR]
  | succ n ih => rw [nbR, List.length_append]; split <;> simp <;> omega
theorem nbP_le (v : Int) (L : List E) : (nbP v L).length ≤ L.length := List.length_filterMap_le _ _

end Go.Proofs.Ytgejkgeojjgclaa
