/- Ends, Size, Holds, SameEnds, Same of the reference. -/
import Derived.Test.YtgejkgeojjgclaaGk
import Derived.ChangeKeysEq
namespace Go.Proofs.Ytgejkgeojjgclaa
open Go.RowKit Go.Proofs.Gr

theorem infoP : (Try.prog.info? 122).map (fun i => (i.zero, i.size, i.bytes)) = some (some (.agg #[.int .i64 0, .int .i64 0]), 2, 16) := by kernel_rfl
theorem encP_len (z : Int × Int) : (encP z).length = 2 := rfl
/-- Hands back pairs. -/
def GivesP (w : World) (l : List (Int × Int)) (e : Ending) (w' : World) : Prop := ∃ a c, e = .returned (.slice a l.length c) ∧ PsAt w' a l ∧ Below w.heap.size w w'
theorem eq_pair (x y x' y' : Int) (w : World) : (Op.equalIn 10000 122 (.agg #[.int .i64 x, .int .i64 y]) (.agg #[.int .i64 x', .int .i64 y'])).run Try.prog w = .ok ((x == x') && (y == y')) w := by
  obtain ⟨i0, hi0, -, -, -⟩ := info_parts infoI
  rw [run_equalIn_array w 9999 _ _ Try.underlying122 hi0, show Try.prog.cellsOf 3 = 1 by kernel_rfl]
  have h1 := fun (a b : Int) w => run_equalIn_int (P := Try.prog) w 9998 3 .i64 .i64 a b Try.underlying3
  have hr : List.range 2 = [0, 1] := rfl
  rw [hr]
  cases hq : (x == x') <;> cases hp : (y == y') <;> simp [Op.eqItems, go_sem, h1, hq, hp]
theorem neq_pair (x y : Int) (w : World) : (binOp .neq 122 (.agg #[.int .i64 x, .int .i64 y]) (.agg #[.int .i64 x, .int .i64 y])).run Try.prog w = .ok (.bool false) w := by
  rw [run_neq_struct, eq_pair]; simp
theorem flatP_snoc (l : List (Int × Int)) (x y : Int) : flat encP (l ++ [(x, y)]) = flat encP l ++ [.int .i64 x, .int .i64 y] := by rw [flat_append, flat_one]; rfl
theorem ends_le {n : Int} {L : List E} (h : Right n L) (i : Nat) : (endsG (L.take i)).length ≤ 50 * L.length := by
  have h1 := endsG_len (L := L.take i) (n := n) (fun e he => h.rng e (List.mem_of_mem_take he))
  have h2 := size_bound (L := L.take i) (n := n) (fun e he => h.rng e (List.mem_of_mem_take he))
  have h3 : (L.take i).length ≤ L.length := by rw [List.length_take]; omega
  omega

set_option maxHeartbeats 12800000 in
set_option maxRecDepth 100000 in
theorem rends_any (n : Int) (a : Option Addr) (cap : Nat) (L : List E) (hL : L.length ≤ 100000) (hR : Right n L) (w : World) (h : EsAt w a L) :
    Calls Try.prog 101 #[gv n a L.length cap] w (GivesP w (endsG L)) := by
  obtain ⟨i0, hi0, hz0, hz1, hz2⟩ := info_parts infoP
  have HST := Lib.hid (fun i h => endsG_take L i h)
  have HALL : Hid (endsG L = endsG (L.take L.length)) := Lib.hid (by rw [List.take_length])
  have HLE := Lib.hid (fun i => ends_le hR i)
  have HRN := Lib.hid hR.rng
  unfold GivesP
  unfold gv at *
  rw [HALL.out]
  obtain ⟨W, hW⟩ : ∃ W, W = w.alloc (Obj.cells #[.int .i64 n, .slice a L.length cap] 24) := ⟨_, rfl⟩
  have hB0 : Below w.heap.size w W := by rw [hW]; exact (Below.refl _ w).alloc (Nat.le_refl _) _
  have hG : Blk W w.heap.size 24 #[.int .i64 n, .slice a L.length cap] := by rw [hW]; exact Blk.new _ _ _
  have hWs : W.heap.size = w.heap.size + 1 := by rw [hW]; simp
  have HWS := Lib.hid hWs
  have HW := Lib.hid hW
  have HB0 := Lib.hid hB0
  have HG := Lib.hid hG
  have HE := Lib.hid (h.keep hB0)
  have g0 : W.cell? ⟨w.heap.size, 0, none⟩ = some (.int .i64 n) := hG.cell 0
  have g1 : W.cell? ⟨w.heap.size, 1, none⟩ = some (.slice a L.length cap) := hG.cell 1
  clear hB0 hG hW hWs
  clear h hR
  go_enter Try.func101, Try.ntmps101
  go_wp2
  rw [← HW.out]
  go_loopw [3, 4] (fun s x wr => ∃ i : Nat, i ≤ L.length ∧ x = .int .i64 i ∧ wr.ownsRow W.heap.size 122 2 s (endsG (L.take i)).length (flat encP (endsG (L.take i))) ∧ Below W.heap.size W wr) (fun _ x _ => L.length - (intOf x).toNat)
  case atStart => exact ⟨0, by omega, rfl, World.ownsRow_nil _ _ _ _, Below.refl _ _⟩
  case round =>
    obtain ⟨i, hi, rfl, hown, hb⟩ := hrel
    have g0' : wr.cell? ⟨w.heap.size, 0, none⟩ = some (.int .i64 n) := (HG.out.below hb HG.out.lt).cell 0
    have g1' : wr.cell? ⟨w.heap.size, 1, none⟩ = some (.slice a L.length cap) := (HG.out.below hb HG.out.lt).cell 1
    have HBr := Lib.hid hb
    by_cases hlt : i < L.length
    · have hst := HST.out i hlt
      have hle := HLE.out (i + 1)
      have hrn := HRN.out (eAt L i) (by rw [← eAt_get L i hlt]; exact List.getElem_mem hlt)
      obtain ⟨b1, o1, ha, q1, x1, x2, x3⟩ := HE.out.three i hlt
      subst ha
      generalize eAt L i = T at *
      obtain ⟨ta, tb, tm⟩ := T
      simp only at x1 x2 x3 hst hrn
      obtain ⟨M, hM⟩ : ∃ M : Nat, tm = M := ⟨tm.toNat, by omega⟩
      subst hM
      rw [Int.toNat_natCast] at hst
      have hm50 : M ≤ 50 := by omega
      have hlen : (endsG (L.take i)).length + M ≤ 50 * L.length := by
        have := congrArg List.length hst
        rw [List.length_append, List.length_replicate] at this
        omega
      generalize endsG (L.take i) = P at *
      have HST2 := Lib.hid hst
      have HLEN := Lib.hid hlen
      have i1 : (i : Int) < ((L.length : Nat) : Int) := by omega
      have HS : Hid (∀ x, Below W.heap.size W x → (Below W.heap.size W x ∧ x.cell? ⟨w.heap.size, 1, none⟩ = some (.slice (some ⟨b1, o1, none⟩) L.length cap) ∧ x.cell? ⟨b1, o1 + i * 3, none⟩ = some (.int .i64 ta) ∧ x.cell? ⟨b1, o1 + i * 3 + 1, none⟩ = some (.int .i64 tb) ∧ x.cell? ⟨b1, o1 + i * 3 + 2, none⟩ = some (.int .i64 (M : Nat)))) :=
        fun x hx => ⟨hx, (HG.out.below hx HG.out.lt).cell 1, (hx.cell (p := ⟨b1, o1 + i * 3, none⟩) q1).trans x1, (hx.cell (p := ⟨b1, o1 + i * 3 + 1, none⟩) q1).trans x2, (hx.cell (p := ⟨b1, o1 + i * 3 + 2, none⟩) q1).trans x3⟩
      have HOW := Lib.hid hown
      clear hst hle hrn hb hown x1 x2 x3 hlen
      go_wp2
      go_loopw [3, 5] (fun s x wr => ∃ k : Nat, k ≤ M ∧ x = .int .i64 k ∧ wr.ownsRow W.heap.size 122 2 s (P ++ List.replicate k (ta, tb)).length (flat encP (P ++ List.replicate k (ta, tb))) ∧ Below W.heap.size W wr) (fun _ x _ => M - (intOf x).toNat)
      case atStart => exact ⟨0, by omega, rfl, by simpa using HOW.out, HBr.out⟩
      case round =>
        obtain ⟨k, hk, rfl, hown, hB⟩ := hrel
        obtain ⟨_, y0, y1, y2, y3⟩ := HS.out _ hB
        have HOW2 := Lib.hid hown
        have hlk : (P ++ List.replicate k (ta, tb)).length ≤ 50 * L.length := by
          have := HLEN.out
          rw [List.length_append, List.length_replicate]; omega
        have HRS : Hid (∀ k, P ++ List.replicate (k + 1) (ta, tb) = (P ++ List.replicate k (ta, tb)) ++ [(ta, tb)]) := Lib.hid fun k => by rw [List.replicate_succ', List.append_assoc]
        by_cases hkm : k < M
        · have k1 : (k : Int) < ((M : Nat) : Int) := by omega
          have HN := HRS.out k
          generalize P ++ List.replicate k (ta, tb) = Q at *
          have HQN := Lib.hid HN
          clear hown HN
          go_wp2
          have hk2 : Below wr.heap.size wr wr.drew := (Below.refl _ _).drew
          obtain ⟨_, f0, f1, f2, f3⟩ := HS.out _ (hB.trans (hk2.mono hB.size))
          go_region_held3 (fun x => Below W.heap.size W x ∧ x.cell? ⟨w.heap.size, 1, none⟩ = some (.slice (some ⟨b1, o1, none⟩) L.length cap) ∧ x.cell? ⟨b1, o1 + i * 3, none⟩ = some (.int .i64 ta) ∧ x.cell? ⟨b1, o1 + i * 3 + 1, none⟩ = some (.int .i64 tb) ∧ x.cell? ⟨b1, o1 + i * 3 + 2, none⟩ = some (.int .i64 (M : Nat)))
            (first | exact HS.out _ (by assumption) | exact HS.out _ (hB.trans (Below.mono (by assumption) hB.size)) | exact HS.out _ (hB.trans ((hk2.alloc hk2.size _).mono hB.size)))
            (first | (rw [if_pos (by rfl)]; refine wp_append_own _ _ _ 119 rfl W.heap.size 122 i0 (.agg #[.int .i64 0, .int .i64 0]) 2 16 Try.underlying119 hi0 hz0 hz1 hz2 rfl (by decide) _ _ _ rfl ((own_keep HOW2.out hk2).alloc _) ⟨_, 0, none⟩ 1 1 [.int .i64 ta, .int .i64 tb] rfl rfl (lit_row _ _ _) (by simp [Value.oneCell']) (by unfold maxLen; omega) (by omega) (by show W.heap.size ≤ (wr.alloc _).heap.size; rw [World.size_alloc]; have := hk2.size; have := hB.size; omega) ?_; intro v1 w3 hown1 hgrow1 _; have hk4 : Below W.heap.size W w3 := below_push (w := W) (hB.trans (hk2.mono hB.size)) (fun k hk => ((own_keep HOW2.out hk2).lt k hk).1) hgrow1))
          rename_i hHeldz
          clear hHeldz
          have HOW3 : Hid (w3.ownsRow W.heap.size 122 2 v1 (Q ++ [(ta, tb)]).length (flat encP (Q ++ [(ta, tb)]))) := by
            rw [List.length_append, flatP_snoc]
            exact hown1
          have HB4 := Lib.hid hk4
          clear hown1 hgrow1 hk4 hk2 f0 f1 f2 f3 y0 y1 y2 y3 hB
          go_wp2
          go_roundw
          case rel => exact ⟨k + 1, by omega, by go_num, by rw [HQN.out]; exact HOW3.out, HB4.out⟩
          case measure => simp [intOf]; omega
        · obtain rfl : k = M := by omega
          have HB5 := Lib.hid hB
          rw [← HST2.out] at HOW2
          clear hown hB
          go_wp2
          go_roundw
          case rel => exact ⟨i + 1, by omega, by go_num, HOW2.out, HB5.out⟩
          case measure => simp [intOf]; omega
    · obtain rfl : i = L.length := by omega
      obtain ⟨a', c', e1, e2⟩ := RowAt.of_own encP_len hown
      have E1 := Lib.hid e1
      have E2 := Lib.hid e2
      clear hb hown e1 e2
      go_wp2
      go_ret
      exact ⟨a', c', by rw [← E1.out]; rfl, E2.out, HB0.out.trans (HBr.out.mono HB0.out.size)⟩
set_option maxHeartbeats 12800000 in
set_option maxRecDepth 100000 in
theorem rsize_any (n : Int) (a : Option Addr) (cap : Nat) (L : List E) (hL : L.length ≤ 100000) (hR : Right n L) (w : World) (h : EsAt w a L) :
    Calls Try.prog 93 #[gv n a L.length cap] w (GivesN w (sizeG L)) := by
  have HC := Lib.hid (fun w h => rends_any n a cap L hL hR w h)
  have hln := endsG_len hR.rng
  unfold GivesN
  unfold GivesP gv at *
  obtain ⟨W, hW⟩ : ∃ W, W = w.alloc (Obj.cells #[.int .i64 n, .slice a L.length cap] 24) := ⟨_, rfl⟩
  have hB0 : Below w.heap.size w W := by rw [hW]; exact (Below.refl _ w).alloc (Nat.le_refl _) _
  have hG : Blk W w.heap.size 24 #[.int .i64 n, .slice a L.length cap] := by rw [hW]; exact Blk.new _ _ _
  have hWs : W.heap.size = w.heap.size + 1 := by rw [hW]; simp
  have HWS := Lib.hid hWs
  have HW := Lib.hid hW
  have HB0 := Lib.hid hB0
  have HG := Lib.hid hG
  have HE := Lib.hid (h.keep hB0)
  have g0 : W.cell? ⟨w.heap.size, 0, none⟩ = some (.int .i64 n) := hG.cell 0
  have g1 : W.cell? ⟨w.heap.size, 1, none⟩ = some (.slice a L.length cap) := hG.cell 1
  clear hB0 hG hW hWs
  generalize endsG L = P at *
  generalize sizeG L = S at *
  subst hln
  clear h hR
  go_enter Try.func93, Try.ntmps93
  go_wp2_with fail
  rw [← HW.out]
  refine (HC.out _ HE.out).mono ?_
  rintro e w1 ⟨a', c', rfl, ht, hb⟩
  have HB1 := Lib.hid (HB0.out.trans (hb.mono HB0.out.size))
  clear ht hb
  go_wp2
  go_ret
  exact ⟨rfl, HB1.out⟩
set_option maxHeartbeats 12800000 in
set_option maxRecDepth 100000 in
theorem holds_any (a : Option Addr) (cap : Nat) (L : List Int) (hL : L.length ≤ 100000) (v : Int) (w : World) (h : IsAt w a L) :
    Calls Try.prog 98 #[.slice a L.length cap, .int .i64 v] w (fun e w' => e = .returned (.bool (L.contains v)) ∧ w = w') := by
  have H := Lib.hid h
  have hE : Hid ((∃ j, j < L.length ∧ iAt L j = v) → L.contains v = true) := Lib.hid (by
    rintro ⟨j, hj, hk⟩
    rw [List.contains_iff_mem, ← hk, ← iAt_get L j hj]; exact List.getElem_mem hj)
  have hF : Hid ((∀ j, j < L.length → iAt L j ≠ v) → L.contains v = false) := Lib.hid (by
    intro hn
    rw [← Bool.not_eq_true, List.contains_iff_mem]
    intro hm
    obtain ⟨j, hj, hk⟩ := List.mem_iff_getElem.1 hm
    exact hn j hj (by rw [← iAt_get L j hj]; exact hk))
  generalize L.contains v = R at *
  clear h
  go_enter Try.func98, Try.ntmps98
  go_wp2
  go_loopw [5] (fun x wr => ∃ i : Nat, i ≤ L.length ∧ x = .int .i64 i ∧ (∀ j, j < i → iAt L j ≠ v) ∧ w = wr) (fun x _ => L.length - (intOf x).toNat)
  case atStart => exact ⟨0, by omega, rfl, fun j hj => by omega, rfl⟩
  case round =>
    obtain ⟨i, hi, rfl, hz, rfl⟩ := hrel
    by_cases hlt : i < L.length
    · obtain ⟨b1, o1, ha, q1, x1⟩ := H.out.one i hlt
      subst ha
      have i1 : (i : Int) < ((L.length : Nat) : Int) := by omega
      by_cases k1 : iAt L i = v
      · have HR := Lib.hid (hE.out ⟨i, hlt, k1⟩)
        rw [k1] at x1
        clear hz k1
        go_wp2
        go_ret
        exact ⟨by rw [HR.out]; rfl, rfl⟩
      · have HZ : Hid (∀ j, j < i + 1 → iAt L j ≠ v) := Lib.hid (fun j hj => by
          by_cases e : j = i
          · subst e; exact k1
          · exact hz j (by omega))
        have d1 : (iAt L i == v) = false := by rw [beq_eq_false_iff_ne]; exact k1
        generalize iAt L i = z at *
        clear hz k1
        go_wp2
        go_roundw
        case rel => exact ⟨i + 1, by omega, by go_num, HZ.out, (by first | rfl | trivial)⟩
        case measure => simp [intOf]; omega
    · obtain rfl : i = L.length := by omega
      have HR := Lib.hid (hF.out hz)
      clear hz
      go_wp2
      go_ret
      exact ⟨by rw [HR.out]; rfl, rfl⟩
end Go.Proofs.Ytgejkgeojjgclaa
