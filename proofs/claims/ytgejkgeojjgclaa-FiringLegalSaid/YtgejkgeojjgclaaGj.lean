/- Degrees, valences, what joins two vertices. -/
import Derived.Test.YtgejkgeojjgclaaGi
namespace Go.Proofs.Ytgejkgeojjgclaa
open Go.RowKit Go.Proofs.Gr

theorem lit_ints (w : World) (Vs : List Int) (t : TypeId) : IsAt (w.alloc (.cells (Vs.map (fun z => Value.int .i64 z)).toArray t)) (some ⟨w.heap.size, 0, none⟩) Vs := by
  intro j hj
  refine ⟨w.heap.size, 0, rfl, by simp, fun i hi => ?_⟩
  obtain rfl : i = 0 := by omega
  rw [cell_of_row _ _ _ _ t (0, 0) (heap_alloc_new w _)]
  simp [encI, hj]
theorem mm {n : Int} {L : List E} (h : chkG n L = 0) : ∀ e ∈ L, 0 ≤ e.m ∧ e.m ≤ 50 := fun e he => by have := (right_of h).rng e he; omega
set_option maxHeartbeats 12800000 in
set_option maxRecDepth 100000 in
theorem rbetween_any (n : Int) (a : Option Addr) (cap : Nat) (L : List E) (hL : L.length ≤ 100000) (hs : L.Pairwise (fun x y => ltE x y = true)) (u v : Int) (w : World) (h : EsAt w a L) :
    Calls Try.prog 82 #[gv n a L.length cap, .int .i64 u, .int .i64 v] w (GivesN w (betw u v L)) := by
  unfold GivesN gv
  obtain ⟨p, hp⟩ : ∃ p, (if v < u then v else u) = p := ⟨_, rfl⟩
  obtain ⟨q, hq⟩ : ∃ q, (if u < v then v else u) = q := ⟨_, rfl⟩
  have hbq : betw u v L = bet p q L := by
    unfold betw; rw [← hp, ← hq]; congr 1 <;> split <;> omega
  rw [hbq]
  have HFI0 : Hid (∀ i, i < L.length → ((eAt L i).a = p ∧ (eAt L i).b = q) → bet p q L = (eAt L i).m) := Lib.hid fun i hi h => bet_first hs i hi h
  have HZE : Hid ((∀ j, j < L.length → ¬ ((eAt L j).a = p ∧ (eAt L j).b = q)) → bet p q L = 0) := Lib.hid fun h => bet_zero_at h
  generalize bet p q L = R at *
  clear hbq
  obtain ⟨W, hW⟩ : ∃ W, W = w.alloc (Obj.cells #[.int .i64 n, .slice a L.length cap] 24) := ⟨_, rfl⟩
  have hB0 : Below w.heap.size w W := by rw [hW]; exact (Below.refl _ w).alloc (Nat.le_refl _) _
  have hG : Blk W w.heap.size 24 #[.int .i64 n, .slice a L.length cap] := by rw [hW]; exact Blk.new _ _ _
  have hWs : W.heap.size = w.heap.size + 1 := by rw [hW]; simp
  have HWS := Lib.hid hWs
  have HW := Lib.hid hW
  have HB0 := Lib.hid hB0
  have HG := Lib.hid hG
  have HE := Lib.hid (h.keep hB0)
  have g0 : W.cell? ⟨w.heap.size, 0, none⟩ = some (.int .i64 n) := hG.cell 0
  have g1 : W.cell? ⟨w.heap.size, 1, none⟩ = some (.slice a L.length cap) := hG.cell 1
  clear hB0 hG hW hWs
  clear h hs
  go_enter Try.func82, Try.ntmps82
  go_wp2
  rw [← HW.out]
  go_loopw [7] (fun x wr => ∃ i : Nat, i ≤ L.length ∧ x = .int .i64 i ∧ (∀ j, j < i → ¬ ((eAt L j).a = p ∧ (eAt L j).b = q)) ∧ Below W.heap.size W wr) (fun x _ => L.length - (intOf x).toNat)
  case atStart => exact ⟨0, by omega, rfl, fun j hj => by omega, Below.refl _ _⟩
  case round =>
    obtain ⟨i, hi, rfl, hz, hb⟩ := hrel
    by_cases hlt : i < L.length
    · have HZ := Lib.hid hz
      have HFI := Lib.hid (HFI0.out i hlt)
      obtain ⟨T, hTe⟩ : ∃ T, T = eAt L i := ⟨_, rfl⟩
      have HT := Lib.hid hTe
      have g0' : wr.cell? ⟨w.heap.size, 0, none⟩ = some (.int .i64 n) := (HG.out.below hb HG.out.lt).cell 0
      have g1' : wr.cell? ⟨w.heap.size, 1, none⟩ = some (.slice a L.length cap) := (HG.out.below hb HG.out.lt).cell 1
      obtain ⟨b1, o1, ha, q1, x1, x2, x3⟩ := (HE.out.keep hb).three i hlt
      subst ha
      rw [← hTe] at x1 x2 x3
      obtain ⟨ta, tb, tm⟩ := T
      simp only at x1 x2 x3
      have i1 : (i : Int) < ((L.length : Nat) : Int) := by omega
      have HBr := Lib.hid hb
      have HBV : Hid (Below W.heap.size W (wr.alloc (Obj.cells #[.int .i64 ta, .int .i64 tb, .int .i64 tm] 103))) := Lib.hid (hb.alloc hb.size _)
      have g2' : (wr.alloc (Obj.cells #[.int .i64 ta, .int .i64 tb, .int .i64 tm] 103)).cell? ⟨w.heap.size, 0, none⟩ = some (.int .i64 n) := (HG.out.below HBV.out HG.out.lt).cell 0
      have g3' : (wr.alloc (Obj.cells #[.int .i64 ta, .int .i64 tb, .int .i64 tm] 103)).cell? ⟨w.heap.size, 1, none⟩ = some (.slice (some ⟨b1, o1, none⟩) L.length cap) := (HG.out.below HBV.out HG.out.lt).cell 1
      clear hb hTe
      rw [← HT.out] at HFI
      have HNX : Hid (¬ (ta = p ∧ tb = q) → ∀ j, j < i + 1 → ¬ ((eAt L j).a = p ∧ (eAt L j).b = q)) := Lib.hid (fun hf j hj => by
        by_cases e : j = i
        · subst e; rw [← HT.out]; exact hf
        · exact HZ.out j (by omega))
      clear hz
      by_cases k1 : ta = p
      · have d1 : (ta == p) = true := by rw [beq_iff_eq]; exact k1
        by_cases k2 : tb = q
        · have d2 : (tb == q) = true := by rw [beq_iff_eq]; exact k2
          have HF := Lib.hid (HFI.out ⟨k1, k2⟩)
          clear k1 k2
          go_wp2
          go_ret
          exact ⟨by rw [HF.out]; rfl, HB0.out.trans (HBV.out.mono HB0.out.size)⟩
        · have d2 : (tb == q) = false := by rw [beq_eq_false_iff_ne]; exact k2
          have HN := Lib.hid (HNX.out (fun h => k2 h.2))
          clear k1 k2
          go_wp2
          go_roundw
          case rel => exact ⟨i + 1, by omega, by go_num, HN.out, HBV.out⟩
          case measure => simp [intOf]; omega
      · have d1 : (ta == p) = false := by rw [beq_eq_false_iff_ne]; exact k1
        have HN := Lib.hid (HNX.out (fun h => k1 h.1))
        clear k1
        go_wp2
        go_roundw
        case rel => exact ⟨i + 1, by omega, by go_num, HN.out, HBV.out⟩
        case measure => simp [intOf]; omega
    · obtain rfl : i = L.length := by omega
      have HF := Lib.hid (HZE.out hz)
      have HBr := Lib.hid hb
      have g0' : wr.cell? ⟨w.heap.size, 0, none⟩ = some (.int .i64 n) := (HG.out.below hb HG.out.lt).cell 0
      have g1' : wr.cell? ⟨w.heap.size, 1, none⟩ = some (.slice a L.length cap) := (HG.out.below hb HG.out.lt).cell 1
      clear hb hz
      go_wp2
      go_ret
      exact ⟨by rw [HF.out]; rfl, HB0.out.trans (HBr.out.mono HB0.out.size)⟩
end Go.Proofs.Ytgejkgeojjgclaa
