/- Valence, Degree, Neighbours of the reference; Neighbours of the program. -/
import Derived.Test.YtjaafneoinidkaaGj
namespace Go.Proofs.Ytjaafneoinidkaa
open Go.RowKit Go.Proofs.Gr

theorem infoI : (Try.prog.info? 3).map (fun i => (i.zero, i.size, i.bytes)) = some (some (.int .i64 0), 1, 8) := by kernel_rfl
theorem encI_len (z : Int) : (encI z).length = 1 := rfl
theorem bet_le {n : Int} {L : List E} (h : Right n L) (p q : Int) : 0 ≤ bet p q L ∧ bet p q L ≤ 50 := by
  refine ⟨bet_nonneg h.rng p q, ?_⟩
  by_cases hx : ∃ i, i < L.length ∧ (eAt L i).a = p ∧ (eAt L i).b = q
  · obtain ⟨i, hi, hk⟩ := hx
    rw [bet_first h.srt i hi hk]
    have := h.rng (eAt L i) (by rw [← eAt_get L i hi]; exact List.getElem_mem hi)
    omega
  · rw [bet_zero_at (fun i hi hk => hx ⟨i, hi, hk⟩)]; omega
theorem betw_le {n : Int} {L : List E} (h : Right n L) (u v : Int) : 0 ≤ betw u v L ∧ betw u v L ≤ 50 := bet_le h _ _
theorem valZ_le {n : Int} {L : List E} (h : Right n L) (v : Int) (k : Nat) : 0 ≤ valZ v L k ∧ valZ v L k ≤ 50 * k := by
  induction k with
  | zero => exact ⟨Int.le_refl _, Int.le_refl _⟩
  | succ k ih =>
    have h1 := betw_le h k v
    have h2 : valZ v L (k + 1) = valZ v L k + (if (k : Int) = v then 0 else betw k v L) := rfl
    rw [h2]; split <;> omega

set_option maxHeartbeats 12800000 in
set_option maxRecDepth 100000 in
theorem rvalence_any (N : Nat) (a : Option Addr) (cap : Nat) (L : List E) (hL : L.length ≤ 100000) (hR : Right N L) (v : Int) (w : World) (h : EsAt w a L) :
    Calls Try.prog 33 #[gv (N : Nat) a L.length cap, .int .i64 v] w (GivesN w (valZ v L N)) := by
  have hN : N ≤ 12 := by have := hR.hi; omega
  have HBT := Lib.hid (fun u w h => rbetween_any (N : Nat) a cap L hL hR.srt u v w h)
  have HLE := Lib.hid (fun k => valZ_le hR v k)
  have HST : Hid (∀ k : Nat, valZ v L (k + 1) = valZ v L k + (if (k : Int) = v then 0 else betw k v L)) := Lib.hid fun k => rfl
  unfold GivesN gv at *
  obtain ⟨W, hW⟩ : ∃ W, W = w.alloc (Obj.cells #[.int .i64 (N : Nat), .slice a L.length cap] 24) := ⟨_, rfl⟩
  have hB0 : Below w.heap.size w W := by rw [hW]; exact (Below.refl _ w).alloc (Nat.le_refl _) _
  have hG : Blk W w.heap.size 24 #[.int .i64 (N : Nat), .slice a L.length cap] := by rw [hW]; exact Blk.new _ _ _
  have hWs : W.heap.size = w.heap.size + 1 := by rw [hW]; simp
  have HWS := Lib.hid hWs
  have HW := Lib.hid hW
  have HB0 := Lib.hid hB0
  have HG := Lib.hid hG
  have HE := Lib.hid (h.keep hB0)
  have g0 : W.cell? ⟨w.heap.size, 0, none⟩ = some (.int .i64 (N : Nat)) := hG.cell 0
  have g1 : W.cell? ⟨w.heap.size, 1, none⟩ = some (.slice a L.length cap) := hG.cell 1
  clear hB0 hG hW hWs
  clear h hR
  go_enter Try.func33, Try.ntmps33
  go_wp2
  rw [← HW.out]
  go_loopw [5, 6] (fun s x wr => ∃ u : Nat, u ≤ N ∧ x = .int .i64 u ∧ s = .int .i64 (valZ v L u) ∧ Below W.heap.size W wr) (fun _ x _ => N - (intOf x).toNat)
  case atStart => exact ⟨0, by omega, rfl, rfl, Below.refl _ _⟩
  case round =>
    obtain ⟨u, hu, rfl, rfl, hb⟩ := hrel
    have g0' : wr.cell? ⟨w.heap.size, 0, none⟩ = some (.int .i64 (N : Nat)) := (HG.out.below hb HG.out.lt).cell 0
    have g1' : wr.cell? ⟨w.heap.size, 1, none⟩ = some (.slice a L.length cap) := (HG.out.below hb HG.out.lt).cell 1
    have HBr := Lib.hid hb
    by_cases hlt : u < N
    · have HC := Lib.hid (HBT.out u wr (HE.out.keep hb))
      have hst := HST.out u
      have hle := HLE.out u
      have hle2 := HLE.out (u + 1)
      rw [hst] at hle2
      generalize valZ v L u = S at *
      generalize betw (u : Nat) v L = B at *
      have i1 : (u : Int) < ((N : Nat) : Int) := by omega
      by_cases k1 : (u : Int) = v
      · have d1 : ((u : Int) != v) = false := by rw [k1]; simp
        rw [if_pos k1, Int.add_zero] at hst
        have HS2 := Lib.hid hst
        clear hst hle hle2 hb k1
        go_wp2
        go_roundw
        case rel => exact ⟨u + 1, by omega, by go_num, by rw [HS2.out], HBr.out⟩
        case measure => simp [intOf]; omega
      · have d1 : ((u : Int) != v) = true := by rw [bne_iff_ne]; exact k1
        rw [if_neg k1] at hst hle2
        have HS2 := Lib.hid hst
        have c1 : IntKind.i64.wrap (S + B) = S + B := IntWalk.i64_in _ (by omega)
        clear hst hle hle2 hb k1
        go_wp2_with fail
        refine HC.out.mono ?_
        rintro e w1 ⟨rfl, hb1⟩
        have HB1 := Lib.hid (HBr.out.trans (hb1.mono HBr.out.size))
        clear hb1
        go_wp2
        go_roundw
        case rel => exact ⟨u + 1, by omega, by go_num, by rw [HS2.out], HB1.out⟩
        case measure => simp [intOf]; omega
    · obtain rfl : u = N := by omega
      clear hb
      go_wp2
      go_ret
      exact ⟨rfl, HB0.out.trans (HBr.out.mono HB0.out.size)⟩
set_option maxHeartbeats 12800000 in
set_option maxRecDepth 100000 in
theorem rdegree_any (N : Nat) (a : Option Addr) (cap : Nat) (L : List E) (hL : L.length ≤ 100000) (hR : Right N L) (v : Int) (w : World) (h : EsAt w a L) :
    Calls Try.prog 32 #[gv (N : Nat) a L.length cap, .int .i64 v] w (GivesN w (valZ v L N + 2 * betw v v L)) := by
  have hN : N ≤ 12 := by have := hR.hi; omega
  have HBT := Lib.hid (fun w h => rbetween_any (N : Nat) a cap L hL hR.srt v v w h)
  have HVL := Lib.hid (fun w h => rvalence_any N a cap L hL hR v w h)
  have hb1 := betw_le hR v v
  have hb2 := valZ_le hR v N
  unfold GivesN gv at *
  obtain ⟨W, hW⟩ : ∃ W, W = w.alloc (Obj.cells #[.int .i64 (N : Nat), .slice a L.length cap] 24) := ⟨_, rfl⟩
  have hB0 : Below w.heap.size w W := by rw [hW]; exact (Below.refl _ w).alloc (Nat.le_refl _) _
  have hG : Blk W w.heap.size 24 #[.int .i64 (N : Nat), .slice a L.length cap] := by rw [hW]; exact Blk.new _ _ _
  have hWs : W.heap.size = w.heap.size + 1 := by rw [hW]; simp
  have HWS := Lib.hid hWs
  have HW := Lib.hid hW
  have HB0 := Lib.hid hB0
  have HG := Lib.hid hG
  have HE := Lib.hid (h.keep hB0)
  have g0 : W.cell? ⟨w.heap.size, 0, none⟩ = some (.int .i64 (N : Nat)) := hG.cell 0
  have g1 : W.cell? ⟨w.heap.size, 1, none⟩ = some (.slice a L.length cap) := hG.cell 1
  clear hB0 hG hW hWs
  generalize valZ v L N = S at *
  generalize betw v v L = B at *
  have c1 : IntKind.i64.wrap (2 * B) = 2 * B := IntWalk.i64_in _ (by omega)
  have c2 : IntKind.i64.wrap (S + 2 * B) = S + 2 * B := IntWalk.i64_in _ (by omega)
  have HS : Hid (∀ x, Below W.heap.size W x → (Below W.heap.size W x ∧ x.cell? ⟨w.heap.size, 0, none⟩ = some (.int .i64 (N : Nat)) ∧ x.cell? ⟨w.heap.size, 1, none⟩ = some (.slice a L.length cap))) := fun x hx => ⟨hx, (HG.out.below hx HG.out.lt).cell 0, (HG.out.below hx HG.out.lt).cell 1⟩
  clear h hR hb1 hb2
  go_enter Try.func32, Try.ntmps32
  go_wp2
  rw [← HW.out]
  have hk2 : Below W.heap.size W W.drew := (Below.refl _ _).drew
  obtain ⟨_, f0, f1⟩ := HS.out _ hk2
  go_region_held3 (fun x => Below W.heap.size W x ∧ x.cell? ⟨w.heap.size, 0, none⟩ = some (.int .i64 (N : Nat)) ∧ x.cell? ⟨w.heap.size, 1, none⟩ = some (.slice a L.length cap))
    (first | exact HS.out _ (by assumption) | exact HS.out _ (Below.drew (by assumption)))
    (first | (go_at_call 33; refine (HVL.out _ (HE.out.keep hk2)).mono ?_; rintro e wz ⟨rfl, hbz⟩; have hk3 := hk2.trans (hbz.mono hk2.size); clear hbz hk2; have hk2 := hk3; clear hk3) | (go_at_call 31; refine (HBT.out _ (HE.out.keep hk2)).mono ?_; rintro e wz ⟨rfl, hbz⟩; have hk3 := hk2.trans (hbz.mono hk2.size); clear hbz hk2; have hk2 := hk3; clear hk3))
  rename_i hHeldz
  clear hHeldz
  go_wp2
  go_ret
  exact ⟨rfl, HB0.out.trans (hk2.mono HB0.out.size)⟩
/-- Hands back ints. -/
def GivesI (w : World) (l : List Int) (e : Ending) (w' : World) : Prop := ∃ a c, e = .returned (.slice a l.length c) ∧ IsAt w' a l ∧ Below w.heap.size w w'
/-- Hands back ints and an error's number. -/
def GivesIE (w : World) (l : List Int) (k : Nat) (e : Ending) (w' : World) : Prop := ∃ a c, e = .returned (.tuple #[.slice a l.length c, .int .i64 (k : Nat)]) ∧ IsAt w' a l ∧ Below w.heap.size w w'
theorem flatI_snoc (l : List Int) (z : Int) : flat encI (l ++ [z]) = flat encI l ++ [.int .i64 z] := by rw [flat_append, flat_one]; rfl
theorem flatI_len (l : List Int) : (flat encI l).length = l.length := by rw [flat_len (k := 1) encI_len]; omega
theorem nbR_le (v : Int) (L : List E) (n : Nat) : (nbR v L n).length ≤ n := by
  induction n with
  | zero => simp [nbR]
  | succ n ih => rw [nbR, List.length_append]; split <;> simp <;> omega
theorem nbP_le (v : Int) (L : List E) : (nbP v L).length ≤ L.length := List.length_filterMap_le _ _

set_option maxHeartbeats 12800000 in
set_option maxRecDepth 100000 in
theorem rneighbours_any (N : Nat) (a : Option Addr) (cap : Nat) (L : List E) (hL : L.length ≤ 100000) (hR : Right N L) (v : Int) (w : World) (h : EsAt w a L) :
    Calls Try.prog 35 #[gv (N : Nat) a L.length cap, .int .i64 v] w (GivesI w (nbR v L N)) := by
  obtain ⟨i0, hi0, hz0, hz1, hz2⟩ := info_parts infoI
  have hN : N ≤ 12 := by have := hR.hi; omega
  have HBT := Lib.hid (fun u w h => rbetween_any (N : Nat) a cap L hL hR.srt u v w h)
  have HST : Hid (∀ u : Nat, nbR v L (u + 1) = nbR v L u ++ (if (u : Int) ≠ v ∧ 0 < betw u v L then [(u : Int)] else [])) := Lib.hid fun u => rfl
  have HLE := Lib.hid (fun u => nbR_le v L u)
  have HZ0 : Hid (nbR v L 0 = []) := Lib.hid rfl
  unfold GivesI
  unfold GivesN gv at *
  obtain ⟨W, hW⟩ : ∃ W, W = w.alloc (Obj.cells #[.int .i64 (N : Nat), .slice a L.length cap] 24) := ⟨_, rfl⟩
  have hB0 : Below w.heap.size w W := by rw [hW]; exact (Below.refl _ w).alloc (Nat.le_refl _) _
  have hG : Blk W w.heap.size 24 #[.int .i64 (N : Nat), .slice a L.length cap] := by rw [hW]; exact Blk.new _ _ _
  have hWs : W.heap.size = w.heap.size + 1 := by rw [hW]; simp
  have HWS := Lib.hid hWs
  have HW := Lib.hid hW
  have HB0 := Lib.hid hB0
  have HG := Lib.hid hG
  have HE := Lib.hid (h.keep hB0)
  have g0 : W.cell? ⟨w.heap.size, 0, none⟩ = some (.int .i64 (N : Nat)) := hG.cell 0
  have g1 : W.cell? ⟨w.heap.size, 1, none⟩ = some (.slice a L.length cap) := hG.cell 1
  clear hB0 hG hW hWs
  clear h hR
  go_enter Try.func35, Try.ntmps35
  go_wp2
  rw [← HW.out]
  go_loopw [5, 6] (fun s x wr => ∃ u : Nat, u ≤ N ∧ x = .int .i64 u ∧ wr.ownsRow W.heap.size 3 1 s (nbR v L u).length (flat encI (nbR v L u)) ∧ Below W.heap.size W wr) (fun _ x _ => N - (intOf x).toNat)
  case atStart => exact ⟨0, by omega, rfl, by rw [HZ0.out]; exact World.ownsRow_nil _ _ _ _, Below.refl _ _⟩
  case round =>
    obtain ⟨u, hu, rfl, hown, hb⟩ := hrel
    have g0' : wr.cell? ⟨w.heap.size, 0, none⟩ = some (.int .i64 (N : Nat)) := (HG.out.below hb HG.out.lt).cell 0
    have g1' : wr.cell? ⟨w.heap.size, 1, none⟩ = some (.slice a L.length cap) := (HG.out.below hb HG.out.lt).cell 1
    have HBr := Lib.hid hb
    have HOW := Lib.hid hown
    by_cases hlt : u < N
    · have HC := Lib.hid (HBT.out u wr (HE.out.keep hb))
      have hst := HST.out u
      have hle := HLE.out u
      generalize nbR v L u = l at *
      generalize betw (u : Nat) v L = B at *
      have i1 : (u : Int) < ((N : Nat) : Int) := by omega
      by_cases k1 : (u : Int) = v
      · have d1 : ((u : Int) != v) = false := by rw [k1]; simp
        rw [if_neg (fun h => h.1 k1), List.append_nil] at hst
        have HS2 := Lib.hid hst
        clear hst hb k1 hown
        go_wp2
        go_roundw
        case rel => exact ⟨u + 1, by omega, by go_num, by rw [HS2.out]; exact HOW.out, HBr.out⟩
        case measure => simp [intOf]; omega
      · have d1 : ((u : Int) != v) = true := by rw [bne_iff_ne]; exact k1
        by_cases k2 : 0 < B
        · have d2 : decide (0 < B) = true := decide_eq_true k2
          rw [if_pos ⟨k1, k2⟩] at hst
          have HS2 := Lib.hid hst
          clear hst hb k1 k2 hown
          go_wp2_with fail
          refine HC.out.mono ?_
          rintro e w1 ⟨rfl, hb1⟩
          have HB1 := Lib.hid (HBr.out.trans (hb1.mono HBr.out.size))
          have HOW1 := Lib.hid (own_keep HOW.out hb1)
          clear hb1
          go_wp2_with (at_builtin; refine wpList_append_own _ rfl _ _ 46 rfl W.heap.size 3 i0 (.int .i64 0) 1 8 Try.underlying46 hi0 hz0 hz1 hz2 rfl (by decide) _ _ _ rfl (HOW1.out.alloc _) ⟨w1.heap.size, 0, none⟩ 1 1 [.int .i64 u] rfl rfl (lit_row _ _ _) (by simp [Value.oneCell']) (by unfold maxLen; omega) (by omega) (by rw [World.size_alloc]; have := HB1.out.size; omega) ?_; intro v1 w3 hown1 hgrow1 _; have hB3 : Below W.heap.size W w3 := below_push (w := W) HB1.out (fun k hk => (HOW1.out.lt k hk).1) hgrow1)
          have HOW3 : Hid (w3.ownsRow W.heap.size 3 1 v1 (l ++ [(u : Int)]).length (flat encI (l ++ [(u : Int)]))) := by
            rw [List.length_append, flatI_snoc]
            exact hown1
          have HB3 := Lib.hid hB3
          clear hown1 hgrow1 hB3
          go_wp2
          go_roundw
          case rel => exact ⟨u + 1, by omega, by go_num, by rw [HS2.out]; exact HOW3.out, HB3.out⟩
          case measure => simp [intOf]; omega
        · have d2 : decide (0 < B) = false := decide_eq_false k2
          rw [if_neg (fun h => k2 h.2), List.append_nil] at hst
          have HS2 := Lib.hid hst
          clear hst hb k1 k2 hown
          go_wp2_with fail
          refine HC.out.mono ?_
          rintro e w1 ⟨rfl, hb1⟩
          have HB1 := Lib.hid (HBr.out.trans (hb1.mono HBr.out.size))
          have HOW1 := Lib.hid (own_keep HOW.out hb1)
          clear hb1
          go_wp2
          go_roundw
          case rel => exact ⟨u + 1, by omega, by go_num, by rw [HS2.out]; exact HOW1.out, HB1.out⟩
          case measure => simp [intOf]; omega
    · obtain rfl : u = N := by omega
      obtain ⟨a', c', e1, e2⟩ := RowAt.of_own encI_len HOW.out
      have E1 := Lib.hid e1
      have E2 := Lib.hid e2
      clear hb hown e1 e2
      go_wp2
      go_ret
      exact ⟨a', c', by rw [← E1.out]; rfl, E2.out, HB0.out.trans (HBr.out.mono HB0.out.size)⟩
set_option maxHeartbeats 12800000 in
set_option maxRecDepth 100000 in
theorem pneighbours_any (n : Int) (a : Option Addr) (cap : Nat) (L : List E) (hL : L.length ≤ 100000) (v : Int) (w : World) (h : EsAt w a L) :
    Calls Try.prog 29 #[gv n a L.length cap, .int .i64 v] w (GivesIE w (if chkV n L [v] = 0 then nbP v L else []) (chkV n L [v])) := by
  obtain ⟨i0, hi0, hz0, hz1, hz2⟩ := info_parts infoI
  have HCV := Lib.hid (fun b c w h hv => checkV_any n a cap L hL b c [v] (by simp) w h hv)
  have HST := Lib.hid (fun i h => nbP_take v L i h)
  have HALL : Hid (nbP v L = nbP v (L.take L.length)) := Lib.hid (by rw [List.take_length])
  have HLE : Hid (∀ i, (nbP v (L.take i)).length ≤ 100000) := Lib.hid fun i => by
    have h1 := nbP_le v (L.take i)
    have h2 : (L.take i).length ≤ L.length := by rw [List.length_take]; omega
    omega
  have HZ0 : Hid (nbP v (L.take 0) = []) := Lib.hid rfl
  unfold GivesIE
  unfold GivesN gv at *
  obtain ⟨W, hW⟩ : ∃ W, W = w.alloc (Obj.cells #[.int .i64 n, .slice a L.length cap] 24) := ⟨_, rfl⟩
  have hB0 : Below w.heap.size w W := by rw [hW]; exact (Below.refl _ w).alloc (Nat.le_refl _) _
  have hG : Blk W w.heap.size 24 #[.int .i64 n, .slice a L.length cap] := by rw [hW]; exact Blk.new _ _ _
  have hWs : W.heap.size = w.heap.size + 1 := by rw [hW]; simp
  have HWS := Lib.hid hWs
  have HW := Lib.hid hW
  have HB0 := Lib.hid hB0
  have HG := Lib.hid hG
  have HE := Lib.hid (h.keep hB0)
  have g0 : W.cell? ⟨w.heap.size, 0, none⟩ = some (.int .i64 n) := hG.cell 0
  have g1 : W.cell? ⟨w.heap.size, 1, none⟩ = some (.slice a L.length cap) := hG.cell 1
  clear hB0 hG hW hWs
  have hlit : IsAt (W.alloc (Obj.cells #[.int .i64 v] 3)) (some ⟨W.heap.size, 0, none⟩) [v] := lit_ints W [v] 3
  have HLIT := Lib.hid hlit
  have HB1 : Hid (Below W.heap.size W (W.alloc (Obj.cells #[.int .i64 v] 3))) := Lib.hid ((Below.refl _ W).alloc (Nat.le_refl _) _)
  have HE1 := Lib.hid (HE.out.keep HB1.out)
  generalize chkV n L [v] = k at *
  clear h hlit
  by_cases hk : k ≠ 0
  · have q0 : (((k : Nat) : Int) != 0) = true := by rw [bne_iff_ne]; omega
    go_enter Try.func29, Try.ntmps29
    go_wp2_with fail
    rw [← HW.out]
    rw [← HWS.out]
    refine (HCV.out _ _ _ HE1.out HLIT.out).mono ?_
    rintro e w1 ⟨rfl, hb'⟩
    have HB2 := Lib.hid (HB0.out.trans ((HB1.out.trans (hb'.mono HB1.out.size)).mono HB0.out.size))
    clear hb'
    go_wp2
    go_ret2
    exact ⟨none, ⟨0, rfl⟩, RowAt.nil _ _ _ _, HB2.out⟩
  obtain rfl : k = 0 := by omega
  rw [if_pos rfl, HALL.out]
  clear hk
  go_enter Try.func29, Try.ntmps29
  go_wp2_with fail
  rw [← HW.out]
  rw [← HWS.out]
  refine (HCV.out _ _ _ HE1.out HLIT.out).mono ?_
  rintro e w1 ⟨rfl, hb'⟩
  have hb : Below W.heap.size W w1 := HB1.out.trans (hb'.mono HB1.out.size)
  have HB2 := Lib.hid hb
  have g0' : w1.cell? ⟨w.heap.size, 0, none⟩ = some (.int .i64 n) := (HG.out.below hb HG.out.lt).cell 0
  have g1' : w1.cell? ⟨w.heap.size, 1, none⟩ = some (.slice a L.length cap) := (HG.out.below hb HG.out.lt).cell 1
  clear hb hb'
  go_wp2
  go_loopw [7, 20] (fun s x wr => ∃ i : Nat, i ≤ L.length ∧ x = .int .i64 i ∧ wr.ownsRow W.heap.size 3 1 s (nbP v (L.take i)).length (flat encI (nbP v (L.take i))) ∧ Below W.heap.size W wr) (fun _ x _ => L.length - (intOf x).toNat)
  case atStart => exact ⟨0, by omega, rfl, by rw [HZ0.out]; exact World.ownsRow_nil _ _ _ _, HB2.out⟩
  case round =>
    obtain ⟨i, hi, rfl, hown, hb⟩ := hrel
    by_cases hlt : i < L.length
    · have hst := HST.out i hlt
      have hle := HLE.out i
      obtain ⟨T, hTe⟩ : ∃ T, T = eAt L i := ⟨_, rfl⟩
      have HT := Lib.hid hTe
      have g0' : wr.cell? ⟨w.heap.size, 0, none⟩ = some (.int .i64 n) := (HG.out.below hb HG.out.lt).cell 0
      have g1' : wr.cell? ⟨w.heap.size, 1, none⟩ = some (.slice a L.length cap) := (HG.out.below hb HG.out.lt).cell 1
      obtain ⟨b1, o1, ha, q1, x1, x2, x3⟩ := (HE.out.keep hb).three i hlt
      subst ha
      rw [← hTe] at x1 x2 x3
      obtain ⟨ta, tb, tm⟩ := T
      simp only at x1 x2 x3
      have i1 : (i : Int) < ((L.length : Nat) : Int) := by omega
      have HBr := Lib.hid hb
      have HBV : Hid (Below W.heap.size W (wr.alloc (Obj.cells #[.int .i64 ta, .int .i64 tb, .int .i64 tm] 71))) := Lib.hid (hb.alloc hb.size _)
      have g2' : (wr.alloc (Obj.cells #[.int .i64 ta, .int .i64 tb, .int .i64 tm] 71)).cell? ⟨w.heap.size, 0, none⟩ = some (.int .i64 n) := (HG.out.below HBV.out HG.out.lt).cell 0
      have g3' : (wr.alloc (Obj.cells #[.int .i64 ta, .int .i64 tb, .int .i64 tm] 71)).cell? ⟨w.heap.size, 1, none⟩ = some (.slice (some ⟨b1, o1, none⟩) L.length cap) := (HG.out.below HBV.out HG.out.lt).cell 1
      clear hb hTe
      rw [← HT.out] at hst
      have EN : Hid (nbO v ⟨ta, tb, tm⟩ = if ta = tb then none else if ta = v then some tb else if tb = v then some ta else none) := Lib.hid rfl
      generalize nbO v ⟨ta, tb, tm⟩ = o at *
      generalize nbP v (L.take i) = l at *
      have HOW := Lib.hid (hown.alloc (Obj.cells #[.int .i64 ta, .int .i64 tb, .int .i64 tm] 71))
      have HOW0 := Lib.hid hown
      clear hown
      by_cases k1 : ta = tb
      · have d1 : (ta == tb) = true := by rw [beq_iff_eq]; exact k1
        rw [EN.out, if_pos k1] at hst
        have HS2 := Lib.hid (hst.trans (List.append_nil _))
        clear hst EN k1
        go_wp2
        go_roundw
        case rel => exact ⟨i + 1, by omega, by go_num, by rw [HS2.out]; exact HOW.out, HBV.out⟩
        case measure => simp [intOf]; omega
      · have d1 : (ta == tb) = false := by rw [beq_eq_false_iff_ne]; exact k1
        by_cases k2 : ta = v
        · have d2 : (ta == v) = true := by rw [beq_iff_eq]; exact k2
          rw [EN.out, if_neg k1, if_pos k2] at hst
          have HS2 : Hid (nbP v (List.take (i + 1) L) = l ++ [tb]) := Lib.hid hst
          clear hst EN k1 k2
          go_wp2_with (at_builtin; refine wpList_append_own _ rfl _ _ 46 rfl W.heap.size 3 i0 (.int .i64 0) 1 8 Try.underlying46 hi0 hz0 hz1 hz2 rfl (by decide) _ _ _ rfl (HOW.out.alloc _) ⟨wr.heap.size + 1, 0, none⟩ 1 1 [.int .i64 tb] rfl rfl (by have h9 := lit_row (wr.alloc (Obj.cells #[.int .i64 ta, .int .i64 tb, .int .i64 tm] 71)) [.int .i64 tb] 3; rwa [World.size_alloc] at h9) (by simp [Value.oneCell']) (by unfold maxLen; omega) (by omega) (by rw [World.size_alloc]; have := HBV.out.size; omega) ?_; intro v1 w3 hown1 hgrow1 _; have hB3 : Below W.heap.size W w3 := below_push (w := W) HBV.out (fun k hk => (HOW.out.lt k hk).1) hgrow1)
          have HOW3 : Hid (w3.ownsRow W.heap.size 3 1 v1 (l ++ [tb]).length (flat encI (l ++ [tb]))) := by
            rw [List.length_append, flatI_snoc]
            exact hown1
          have HB3 := Lib.hid hB3
          clear hown1 hgrow1 hB3
          go_wp2
          go_roundw
          case rel => exact ⟨i + 1, by omega, by go_num, by rw [HS2.out]; exact HOW3.out, HB3.out⟩
          case measure => simp [intOf]; omega
        · have d2 : (ta == v) = false := by rw [beq_eq_false_iff_ne]; exact k2
          by_cases k3 : tb = v
          · have d3 : (tb == v) = true := by rw [beq_iff_eq]; exact k3
            rw [EN.out, if_neg k1, if_neg k2, if_pos k3] at hst
            have HS2 : Hid (nbP v (List.take (i + 1) L) = l ++ [ta]) := Lib.hid hst
            clear hst EN k1 k2 k3
            go_wp2_with (at_builtin; refine wpList_append_own _ rfl _ _ 46 rfl W.heap.size 3 i0 (.int .i64 0) 1 8 Try.underlying46 hi0 hz0 hz1 hz2 rfl (by decide) _ _ _ rfl (HOW.out.alloc _) ⟨wr.heap.size + 1, 0, none⟩ 1 1 [.int .i64 ta] rfl rfl (by have h9 := lit_row (wr.alloc (Obj.cells #[.int .i64 ta, .int .i64 tb, .int .i64 tm] 71)) [.int .i64 ta] 3; rwa [World.size_alloc] at h9) (by simp [Value.oneCell']) (by unfold maxLen; omega) (by omega) (by rw [World.size_alloc]; have := HBV.out.size; omega) ?_; intro v1 w3 hown1 hgrow1 _; have hB3 : Below W.heap.size W w3 := below_push (w := W) HBV.out (fun k hk => (HOW.out.lt k hk).1) hgrow1)
            have HOW3 : Hid (w3.ownsRow W.heap.size 3 1 v1 (l ++ [ta]).length (flat encI (l ++ [ta]))) := by
              rw [List.length_append, flatI_snoc]
              exact hown1
            have HB3 := Lib.hid hB3
            clear hown1 hgrow1 hB3
            go_wp2
            go_roundw
            case rel => exact ⟨i + 1, by omega, by go_num, by rw [HS2.out]; exact HOW3.out, HB3.out⟩
            case measure => simp [intOf]; omega
          · have d3 : (tb == v) = false := by rw [beq_eq_false_iff_ne]; exact k3
            rw [EN.out, if_neg k1, if_neg k2, if_neg k3] at hst
            have HS2 := Lib.hid (hst.trans (List.append_nil _))
            clear hst EN k1 k2 k3
            go_wp2
            go_roundw
            case rel => exact ⟨i + 1, by omega, by go_num, by rw [HS2.out]; exact HOW.out, HBV.out⟩
            case measure => simp [intOf]; omega
    · obtain rfl : i = L.length := by omega
      have HBr := Lib.hid hb
      obtain ⟨a', c', e1, e2⟩ := RowAt.of_own encI_len hown
      have E1 := Lib.hid e1
      have E2 := Lib.hid e2
      clear hb hown e1 e2
      go_wp2
      go_ret2
      exact ⟨a', c', by rw [← E1.out]; rfl, E2.out, HB0.out.trans (HBr.out.mono HB0.out.size)⟩
end Go.Proofs.Ytjaafneoinidkaa
