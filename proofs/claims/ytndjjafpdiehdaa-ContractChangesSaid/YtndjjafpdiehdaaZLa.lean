/- The reference: errors of single edges; ends without one. -/
import Derived.Test.YtndjjafpdiehdaaQ15
import Derived.Test.YtndjjafpdiehdaaQ06
import Derived.Test.YtndjjafpdiehdaaQ01
namespace Go.Proofs.Ytndjjafpdiehdaa
open Go.RowKit Go.Shelf Go.Proofs.Gr
attribute [local go_sem] Oper.semAt_some

theorem flat_one' (Q : List (Int × Int)) : ∀ u ∈ flat encP Q, u.oneCell' = true := by
  intro u hu
  unfold flat at hu
  obtain ⟨q, -, hq⟩ := List.mem_flatMap.1 hu
  simp only [encP, List.mem_cons, List.not_mem_nil, or_false] at hq
  rcases hq with rfl | rfl <;> rfl
theorem RowAt.drop {α : Type} {k : Nat} {enc : α → List Value} {w : World} {b o : Nat} {L : List α} (h : RowAt k enc w (some ⟨b, o, none⟩) L) (i : Nat) : RowAt k enc w (some ⟨b, o + i * k, none⟩) (L.drop i) := by
  intro j hj
  rw [List.length_drop] at hj
  obtain ⟨b', o', e1, h2, h3⟩ := h (i + j) (by omega)
  injection e1 with e1
  injection e1 with e1 e2
  subst e1 e2
  refine ⟨b, o + i * k, rfl, h2, fun t ht => ?_⟩
  have := h3 t ht
  rw [Nat.add_mul] at this
  rw [List.getElem_drop, show o + i * k + j * k + t = o + (i * k + j * k) + t by omega]
  exact this
/-- Hands back pairs with room. -/
def GivesPC (w : World) (l : List (Int × Int)) (e : Ending) (w' : World) : Prop := ∃ a c, e = .returned (.slice a l.length c) ∧ PsAt w' a l ∧ l.length ≤ c ∧ Below w.heap.size w w'
theorem own_cap {w : World} {base : Nat} {e : TypeId} {size n m c : Nat} {a : Option Addr} {xs : List Value} (h : w.ownsRow base e size (.slice a n c) m xs) : m ≤ c := by
  rcases h.2 with ⟨h0, h1⟩ | ⟨g, cap, cur, h0, -, -, h1, -⟩
  · omega
  · injection h0 with _ _ h2
    omega
set_option maxHeartbeats 12800000 in
set_option maxRecDepth 100000 in
theorem rendsC_any (n : Int) (a : Option Addr) (cap : Nat) (L : List E) (hL : L.length ≤ 100000) (hR : Right n L) (w : World) (h : EsAt w a L) :
    Calls Try.prog 34 #[gv n a L.length cap] w (GivesPC w (endsG L)) := by
  obtain ⟨i0, hi0, hz0, hz1, hz2⟩ := info_parts infoP
  have HST := Lib.hid (fun i h => endsG_take L i h)
  have HALL : Hid (endsG L = endsG (L.take L.length)) := Lib.hid (by rw [List.take_length])
  have HLE := Lib.hid (fun i => ends_le hR i)
  have HRN := Lib.hid hR.rng
  unfold GivesPC
  unfold gv at *
  rw [HALL.out]
  obtain ⟨W, hW⟩ : ∃ W, W = w.alloc (Obj.cells #[.int .i64 n, .slice a L.length cap] 24) := ⟨_, rfl⟩
  have hB0 : Below w.heap.size w W := by rw [hW]; exact (Below.refl _ w).alloc (Nat.le_refl _) _
  have hG : Blk W w.heap.size 24 #[.int .i64 n, .slice a L.length cap] := by rw [hW]; exact Blk.new _ _ _
  have hWs : W.heap.size = w.heap.size + 1 := by rw [hW]; simp
  have HWS := Lib.hid hWs
  have HW := Lib.hid hW
  have HB0 := Lib.hid hB0
  have HG := Lib.hid hG
  have HE := Lib.hid (h.keep hB0)
  have g0 : W.cell? ⟨w.heap.size, 0, none⟩ = some (.int .i64 n) := hG.cell 0
  have g1 : W.cell? ⟨w.heap.size, 1, none⟩ = some (.slice a L.length cap) := hG.cell 1
  clear hB0 hG hW hWs
  clear h hR
  go_enter Try.func34, Try.ntmps34
  go_wp2
  rw [← HW.out]
  go_loopw [3, 4] (fun s x wr => ∃ i : Nat, i ≤ L.length ∧ x = .int .i64 i ∧ wr.ownsRow W.heap.size 25 2 s (endsG (L.take i)).length (flat encP (endsG (L.take i))) ∧ Below W.heap.size W wr) (fun _ x _ => L.length - (intOf x).toNat)
  case atStart => exact ⟨0, by omega, rfl, World.ownsRow_nil _ _ _ _, Below.refl _ _⟩
  case round =>
    obtain ⟨i, hi, rfl, hown, hb⟩ := hrel
    have g0' : wr.cell? ⟨w.heap.size, 0, none⟩ = some (.int .i64 n) := (HG.out.below hb HG.out.lt).cell 0
    have g1' : wr.cell? ⟨w.heap.size, 1, none⟩ = some (.slice a L.length cap) := (HG.out.below hb HG.out.lt).cell 1
    have HBr := Lib.hid hb
    by_cases hlt : i < L.length
    · have hst := HST.out i hlt
      have hle := HLE.out (i + 1)
      have hrn := HRN.out (eAt L i) (by rw [← eAt_get L i hlt]; exact List.getElem_mem hlt)
      obtain ⟨b1, o1, ha, q1, x1, x2, x3⟩ := HE.out.three i hlt
      subst ha
      generalize eAt L i = T at *
      obtain ⟨ta, tb, tm⟩ := T
      simp only at x1 x2 x3 hst hrn
      obtain ⟨M, hM⟩ : ∃ M : Nat, tm = M := ⟨tm.toNat, by omega⟩
      subst hM
      rw [Int.toNat_natCast] at hst
      have hm50 : M ≤ 50 := by omega
      have hlen : (endsG (L.take i)).length + M ≤ 50 * L.length := by
        have := congrArg List.length hst
        rw [List.length_append, List.length_replicate] at this
        omega
      generalize endsG (L.take i) = P at *
      have HST2 := Lib.hid hst
      have HLEN := Lib.hid hlen
      have i1 : (i : Int) < ((L.length : Nat) : Int) := by omega
      have HS : Hid (∀ x, Below W.heap.size W x → (Below W.heap.size W x ∧ x.cell? ⟨w.heap.size, 1, none⟩ = some (.slice (some ⟨b1, o1, none⟩) L.length cap) ∧ x.cell? ⟨b1, o1 + i * 3, none⟩ = some (.int .i64 ta) ∧ x.cell? ⟨b1, o1 + i * 3 + 1, none⟩ = some (.int .i64 tb) ∧ x.cell? ⟨b1, o1 + i * 3 + 2, none⟩ = some (.int .i64 (M : Nat)))) :=
        fun x hx => ⟨hx, (HG.out.below hx HG.out.lt).cell 1, (hx.cell (p := ⟨b1, o1 + i * 3, none⟩) q1).trans x1, (hx.cell (p := ⟨b1, o1 + i * 3 + 1, none⟩) q1).trans x2, (hx.cell (p := ⟨b1, o1 + i * 3 + 2, none⟩) q1).trans x3⟩
      have HOW := Lib.hid hown
      clear hst hle hrn hb hown x1 x2 x3 hlen
      go_wp2
      go_loopw [3, 5] (fun s x wr => ∃ k : Nat, k ≤ M ∧ x = .int .i64 k ∧ wr.ownsRow W.heap.size 25 2 s (P ++ List.replicate k (ta, tb)).length (flat encP (P ++ List.replicate k (ta, tb))) ∧ Below W.heap.size W wr) (fun _ x _ => M - (intOf x).toNat)
      case atStart => exact ⟨0, by omega, rfl, by simpa using HOW.out, HBr.out⟩
      case round =>
        obtain ⟨k, hk, rfl, hown, hB⟩ := hrel
        obtain ⟨_, y0, y1, y2, y3⟩ := HS.out _ hB
        have HOW2 := Lib.hid hown
        have hlk : (P ++ List.replicate k (ta, tb)).length ≤ 50 * L.length := by
          have := HLEN.out
          rw [List.length_append, List.length_replicate]; omega
        have HRS : Hid (∀ k, P ++ List.replicate (k + 1) (ta, tb) = (P ++ List.replicate k (ta, tb)) ++ [(ta, tb)]) := Lib.hid fun k => by rw [List.replicate_succ', List.append_assoc]
        by_cases hkm : k < M
        · have k1 : (k : Int) < ((M : Nat) : Int) := by omega
          have HN := HRS.out k
          generalize P ++ List.replicate k (ta, tb) = Q at *
          have HQN := Lib.hid HN
          clear hown HN
          go_wp2
          have hk2 : Below wr.heap.size wr wr.drew := (Below.refl _ _).drew
          obtain ⟨_, f0, f1, f2, f3⟩ := HS.out _ (hB.trans (hk2.mono hB.size))
          go_region_held3 (fun x => Below W.heap.size W x ∧ x.cell? ⟨w.heap.size, 1, none⟩ = some (.slice (some ⟨b1, o1, none⟩) L.length cap) ∧ x.cell? ⟨b1, o1 + i * 3, none⟩ = some (.int .i64 ta) ∧ x.cell? ⟨b1, o1 + i * 3 + 1, none⟩ = some (.int .i64 tb) ∧ x.cell? ⟨b1, o1 + i * 3 + 2, none⟩ = some (.int .i64 (M : Nat)))
            (first | exact HS.out _ (by assumption) | exact HS.out _ (hB.trans (Below.mono (by assumption) hB.size)) | exact HS.out _ (hB.trans ((hk2.alloc hk2.size _).mono hB.size)))
            (first | (rw [if_pos (by rfl)]; refine wp_append_own _ _ _ 56 rfl W.heap.size 25 i0 (.agg #[.int .i64 0, .int .i64 0]) 2 16 Try.underlying56 hi0 hz0 hz1 hz2 rfl (by decide) _ _ _ rfl ((own_keep HOW2.out hk2).alloc _) ⟨_, 0, none⟩ 1 1 [.int .i64 ta, .int .i64 tb] rfl rfl (lit_row _ _ _) (by simp [Value.oneCell']) (by unfold maxLen; omega) (by omega) (by show W.heap.size ≤ (wr.alloc _).heap.size; rw [World.size_alloc]; have := hk2.size; have := hB.size; omega) ?_; intro v1 w3 hown1 hgrow1 _; have hk4 : Below W.heap.size W w3 := below_push (w := W) (hB.trans (hk2.mono hB.size)) (fun k hk => ((own_keep HOW2.out hk2).lt k hk).1) hgrow1))
          rename_i hHeldz
          clear hHeldz
          have HOW3 : Hid (w3.ownsRow W.heap.size 25 2 v1 (Q ++ [(ta, tb)]).length (flat encP (Q ++ [(ta, tb)]))) := by
            rw [List.length_append, flatP_snoc]
            exact hown1
          have HB4 := Lib.hid hk4
          clear hown1 hgrow1 hk4 hk2 f0 f1 f2 f3 y0 y1 y2 y3 hB
          go_wp2
          go_roundw
          case rel => exact ⟨k + 1, by omega, by go_num, by rw [HQN.out]; exact HOW3.out, HB4.out⟩
          case measure => simp [intOf]; omega
        · obtain rfl : k = M := by omega
          have HB5 := Lib.hid hB
          rw [← HST2.out] at HOW2
          clear hown hB
          go_wp2
          go_roundw
          case rel => exact ⟨i + 1, by omega, by go_num, HOW2.out, HB5.out⟩
          case measure => simp [intOf]; omega
    · obtain rfl : i = L.length := by omega
      obtain ⟨a', c', e1, e2⟩ := RowAt.of_own encP_len hown
      have E1 := Lib.hid e1
      have E2 := Lib.hid e2
      have E3 : Hid ((endsG (L.take L.length)).length ≤ c') := Lib.hid (by rw [e1] at hown; exact own_cap hown)
      clear hb hown e1 e2
      go_wp2
      go_ret
      exact ⟨a', c', by rw [← E1.out]; rfl, E2.out, E3.out, HB0.out.trans (HBr.out.mono HB0.out.size)⟩
set_option maxHeartbeats 12800000 in
set_option maxRecDepth 100000 in
theorem rsingle_any (n : Int) (a : Option Addr) (cap : Nat) (L : List E) (hL : L.length ≤ 100000) (e : Int) (w : World) (h : EsAt w a L) :
    Calls Try.prog 58 #[gv n a L.length cap, .int .i64 e] w (fun r w' => r = .returned (.int .i64 (sgE n L e : Nat)) ∧ Below w.heap.size w w') := by
  have HC := Lib.hid (fun w h => rcheck_any n a cap L (by omega) w h)
  by_cases h0 : chkG n L = 0
  · have HSZ := Lib.hid (fun w h => rsize_any n a cap L hL (right_of h0) w h)
    have hsz := endsG_len (right_of h0).rng
    have hln : (endsG L).length ≤ 50 * 100000 := by have := ends_all (right_of h0); omega
    have HK0 : Hid (sgE n L e = if e < 0 ∨ ((endsG L).length : Int) ≤ e then 2 else 0) := Lib.hid (by unfold sgE; rw [if_neg (by omega)])
    rw [h0] at HC
    generalize sgE n L e = K at *
    rw [← hsz] at HSZ
    generalize (endsG L).length = S at *
    clear hsz h0
    unfold GivesN gv at *
    by_cases h1 : e < 0
    · have d1 : decide (e < 0) = true := decide_eq_true h1
      have HK : Hid (K = 2) := Lib.hid (by rw [HK0.out, if_pos (.inl h1)])
      obtain ⟨W, hW⟩ : ∃ W, W = w.alloc (Obj.cells #[.int .i64 n, .slice a L.length cap] 24) := ⟨_, rfl⟩
      have hB0 : Below w.heap.size w W := by rw [hW]; exact (Below.refl _ w).alloc (Nat.le_refl _) _
      have hG : Blk W w.heap.size 24 #[.int .i64 n, .slice a L.length cap] := by rw [hW]; exact Blk.new _ _ _
      have hWs : W.heap.size = w.heap.size + 1 := by rw [hW]; simp
      have HW := Lib.hid hW
      have HWS := Lib.hid hWs
      have HB0 := Lib.hid hB0
      have HE := Lib.hid (h.keep hB0)
      have HF : Hid (∀ u, Below W.heap.size W u → u.cell? ⟨w.heap.size, 0, none⟩ = some (.int .i64 n) ∧ u.cell? ⟨w.heap.size, 1, none⟩ = some (.slice a L.length cap)) := Lib.hid fun u hu => ⟨(hG.below hu hG.lt).cell 0, (hG.below hu hG.lt).cell 1⟩
      obtain ⟨g0, g1⟩ := HF.out W (Below.refl _ _)
      clear hB0 hG hW hWs h
      go_enter Try.func58, Try.ntmps58
      go_wp2_with fail
      rw [← HW.out]
      refine (HC.out _ HE.out).mono ?_
      rintro r w1 ⟨rfl, hb⟩
      clear g0 g1
      obtain ⟨g0, g1⟩ := HF.out w1 hb
      have HEND := Lib.hid (HB0.out.trans (hb.mono HB0.out.size))
      clear hb g0 g1
      go_wp2
      go_ret
      exact ⟨by rw [HK.out]; rfl, HEND.out⟩
    have d1 : decide (e < 0) = false := decide_eq_false h1
    by_cases h2 : (S : Int) ≤ e
    · have HK : Hid (K = 2) := Lib.hid (by rw [HK0.out, if_pos (.inr h2)])
      obtain ⟨W, hW⟩ : ∃ W, W = w.alloc (Obj.cells #[.int .i64 n, .slice a L.length cap] 24) := ⟨_, rfl⟩
      have hB0 : Below w.heap.size w W := by rw [hW]; exact (Below.refl _ w).alloc (Nat.le_refl _) _
      have hG : Blk W w.heap.size 24 #[.int .i64 n, .slice a L.length cap] := by rw [hW]; exact Blk.new _ _ _
      have hWs : W.heap.size = w.heap.size + 1 := by rw [hW]; simp
      have HW := Lib.hid hW
      have HWS := Lib.hid hWs
      have HB0 := Lib.hid hB0
      have HE := Lib.hid (h.keep hB0)
      have HF : Hid (∀ u, Below W.heap.size W u → u.cell? ⟨w.heap.size, 0, none⟩ = some (.int .i64 n) ∧ u.cell? ⟨w.heap.size, 1, none⟩ = some (.slice a L.length cap)) := Lib.hid fun u hu => ⟨(hG.below hu hG.lt).cell 0, (hG.below hu hG.lt).cell 1⟩
      obtain ⟨g0, g1⟩ := HF.out W (Below.refl _ _)
      clear hB0 hG hW hWs h
      go_enter Try.func58, Try.ntmps58
      go_wp2_with fail
      rw [← HW.out]
      refine (HC.out _ HE.out).mono ?_
      rintro r w1 ⟨rfl, hb⟩
      clear g0 g1
      obtain ⟨g0, g1⟩ := HF.out w1 hb
      go_wp2_with fail
      refine (HSZ.out _ (HE.out.keep hb)).mono ?_
      rintro r w2 ⟨rfl, hb2⟩
      have hk2 := hb.trans (hb2.mono hb.size)
      clear hb hb2
      have HEND := Lib.hid (HB0.out.trans (hk2.mono HB0.out.size))
      clear hk2 g0 g1
      go_wp2
      go_ret
      exact ⟨by rw [HK.out]; rfl, HEND.out⟩
    · have HK : Hid (K = 0) := Lib.hid (by rw [HK0.out, if_neg (by omega)])
      obtain ⟨W, hW⟩ : ∃ W, W = w.alloc (Obj.cells #[.int .i64 n, .slice a L.length cap] 24) := ⟨_, rfl⟩
      have hB0 : Below w.heap.size w W := by rw [hW]; exact (Below.refl _ w).alloc (Nat.le_refl _) _
      have hG : Blk W w.heap.size 24 #[.int .i64 n, .slice a L.length cap] := by rw [hW]; exact Blk.new _ _ _
      have hWs : W.heap.size = w.heap.size + 1 := by rw [hW]; simp
      have HW := Lib.hid hW
      have HWS := Lib.hid hWs
      have HB0 := Lib.hid hB0
      have HE := Lib.hid (h.keep hB0)
      have HF : Hid (∀ u, Below W.heap.size W u → u.cell? ⟨w.heap.size, 0, none⟩ = some (.int .i64 n) ∧ u.cell? ⟨w.heap.size, 1, none⟩ = some (.slice a L.length cap)) := Lib.hid fun u hu => ⟨(hG.below hu hG.lt).cell 0, (hG.below hu hG.lt).cell 1⟩
      obtain ⟨g0, g1⟩ := HF.out W (Below.refl _ _)
      clear hB0 hG hW hWs h
      go_enter Try.func58, Try.ntmps58
      go_wp2_with fail
      rw [← HW.out]
      refine (HC.out _ HE.out).mono ?_
      rintro r w1 ⟨rfl, hb⟩
      clear g0 g1
      obtain ⟨g0, g1⟩ := HF.out w1 hb
      go_wp2_with fail
      refine (HSZ.out _ (HE.out.keep hb)).mono ?_
      rintro r w2 ⟨rfl, hb2⟩
      have hk2 := hb.trans (hb2.mono hb.size)
      clear hb hb2
      have HEND := Lib.hid (HB0.out.trans (hk2.mono HB0.out.size))
      clear hk2 g0 g1
      go_wp2
      go_ret
      exact ⟨by rw [HK.out]; rfl, HEND.out⟩
  · have HK0 : Hid (sgE n L e = chkG n L) := Lib.hid (by unfold sgE; rw [if_pos h0])
    generalize sgE n L e = K at *
    generalize chkG n L = k at *
    have q0 : (((k : Nat) : Int) != 0) = true := by rw [bne_iff_ne]; omega
    have HK := HK0
    unfold GivesN gv at *
    obtain ⟨W, hW⟩ : ∃ W, W = w.alloc (Obj.cells #[.int .i64 n, .slice a L.length cap] 24) := ⟨_, rfl⟩
    have hB0 : Below w.heap.size w W := by rw [hW]; exact (Below.refl _ w).alloc (Nat.le_refl _) _
    have hG : Blk W w.heap.size 24 #[.int .i64 n, .slice a L.length cap] := by rw [hW]; exact Blk.new _ _ _
    have hWs : W.heap.size = w.heap.size + 1 := by rw [hW]; simp
    have HW := Lib.hid hW
    have HWS := Lib.hid hWs
    have HB0 := Lib.hid hB0
    have HE := Lib.hid (h.keep hB0)
    have HF : Hid (∀ u, Below W.heap.size W u → u.cell? ⟨w.heap.size, 0, none⟩ = some (.int .i64 n) ∧ u.cell? ⟨w.heap.size, 1, none⟩ = some (.slice a L.length cap)) := Lib.hid fun u hu => ⟨(hG.below hu hG.lt).cell 0, (hG.below hu hG.lt).cell 1⟩
    obtain ⟨g0, g1⟩ := HF.out W (Below.refl _ _)
    clear hB0 hG hW hWs h
    go_enter Try.func58, Try.ntmps58
    go_wp2_with fail
    rw [← HW.out]
    refine (HC.out _ HE.out).mono ?_
    rintro r w1 ⟨rfl, hb⟩
    clear g0 g1
    obtain ⟨g0, g1⟩ := HF.out w1 hb
    have HEND := Lib.hid (HB0.out.trans (hb.mono HB0.out.size))
    clear hb g0 g1
    go_wp2
    go_ret
    exact ⟨by rw [HK.out]; rfl, HEND.out⟩
set_option maxHeartbeats 12800000 in
set_option maxRecDepth 100000 in
theorem rothers_any (n : Int) (a : Option Addr) (cap : Nat) (L : List E) (hL : L.length ≤ 100000) (hR : Right n L) (e : Nat) (he : e < (endsG L).length) (w : World) (h : EsAt w a L) :
    Calls Try.prog 87 #[gv n a L.length cap, .int .i64 e] w (GivesP w (dropP (endsG L) e)) := by
  obtain ⟨i0, hi0, hz0, hz1, hz2⟩ := info_parts infoP
  have HC := Lib.hid (fun w h => rendsC_any n a cap L hL hR w h)
  have hln : (endsG L).length ≤ 50 * 100000 := by have := ends_all hR; omega
  generalize endsG L = P at *
  have HDR : Hid (flat encP (P.take e) ++ flat encP (P.drop (e + 1)) = flat encP (dropP P e)) := Lib.hid (by unfold dropP; rw [flat_append])
  have HDL : Hid ((dropP P e).length = e + (P.length - (e + 1))) := Lib.hid (by have := dropP_len P e he; omega)
  generalize dropP P e = Q at *
  unfold GivesP gv at *
  unfold GivesPC at HC
  obtain ⟨W, hW⟩ : ∃ W, W = w.alloc (Obj.cells #[.int .i64 n, .slice a L.length cap] 24) := ⟨_, rfl⟩
  have hB0 : Below w.heap.size w W := by rw [hW]; exact (Below.refl _ w).alloc (Nat.le_refl _) _
  have hG : Blk W w.heap.size 24 #[.int .i64 n, .slice a L.length cap] := by rw [hW]; exact Blk.new _ _ _
  have hWs : W.heap.size = w.heap.size + 1 := by rw [hW]; simp
  have HW := Lib.hid hW
  have HWS := Lib.hid hWs
  have HB0 := Lib.hid hB0
  have HE := Lib.hid (h.keep hB0)
  have HF : Hid (∀ u, Below W.heap.size W u → u.cell? ⟨w.heap.size, 0, none⟩ = some (.int .i64 n) ∧ u.cell? ⟨w.heap.size, 1, none⟩ = some (.slice a L.length cap)) := Lib.hid fun u hu => ⟨(hG.below hu hG.lt).cell 0, (hG.below hu hG.lt).cell 1⟩
  obtain ⟨g0, g1⟩ := HF.out W (Below.refl _ _)
  clear hB0 hG hW hWs h
  go_enter Try.func87, Try.ntmps87
  go_wp2_with fail
  rw [← HW.out]
  refine (HC.out _ HE.out).mono ?_
  rintro r w1 ⟨a1, c1, rfl, hp, hcp, hb⟩
  clear g0 g1
  obtain ⟨b1, o1, hbb, q1, -⟩ := hp 0 (by omega)
  subst hbb
  have i4 : ¬ c1 < e := by omega
  have i5 : IntKind.i64.wrap ((e : Int) + 1) = (e : Int) + 1 := by rw [IntKind.wrap_i64]; omega
  have i1 : (e : Int) ≤ (P.length : Int) := by omega
  have i2 : (0 : Int) ≤ (e : Int) + 1 := by omega
  have i3 : (e : Int) + 1 ≤ (P.length : Int) := by omega
  have HB1 := Lib.hid hb
  have HP := Lib.hid hp
  obtain ⟨A, hA, hsrc⟩ : ∃ A : Addr, (if c1 = e + 1 then some (⟨b1, o1, none⟩ : Addr) else some ⟨b1, o1 + (e + 1) * 2, none⟩) = some A ∧ Hid (∀ u, Below w1.heap.size w1 u → ∀ t v, (flat encP (P.drop (e + 1)))[t]? = some v → u.cell? (A.add t) = some v) := by
    by_cases h : P.length = e + 1
    · have hn : flat encP (P.drop (e + 1)) = [] := by rw [List.drop_eq_nil_of_le (by omega)]; rfl
      by_cases h2 : c1 = e + 1
      · exact ⟨⟨b1, o1, none⟩, by simp [h2], fun u _ t v hv => by rw [hn] at hv; simp at hv⟩
      · exact ⟨⟨b1, o1 + (e + 1) * 2, none⟩, by simp [h2], fun u _ t v hv => by rw [hn] at hv; simp at hv⟩
    · have h2 : ¬ c1 = e + 1 := by omega
      exact ⟨⟨b1, o1 + (e + 1) * 2, none⟩, by simp [h2], fun u hu t v hv => ((hp.keep hu).drop (e + 1)).cells (by decide) encP_len t v hv⟩
  have hsr1 : Hid (∀ u, Below w1.heap.size w1 u → ∀ t v, (flat encP (P.take e))[t]? = some v → u.cell? ((⟨b1, o1, none⟩ : Addr).add t) = some v) := fun u hu t v hv => ((hp.keep hu).take e).cells (by decide) encP_len t v hv
  have s1 : Hid ((flat encP (P.take e)).length = e * 2) := Lib.hid (by rw [flat_len encP_len, List.length_take]; omega)
  have s2 : Hid ((flat encP (P.drop (e + 1))).length = (P.length - (e + 1)) * 2) := Lib.hid (by rw [flat_len encP_len, List.length_drop])
  have ONE : Hid (∀ Q : List (Int × Int), ∀ u ∈ flat encP Q, u.oneCell' = true) := Lib.hid flat_one'
  clear hp hb
  go_wp2_with fail
  have hj0 : Below w1.heap.size w1 w1.drew := (Below.refl _ _).drew
  refine wp_region_late (S := fun u => Below w1.heap.size w1 u) (X := []) (by kernel_rfl) ?_
  refine wpAnyL_pureD (i := 1) 9 (.slice (some ⟨b1, o1, none⟩) P.length c1) rfl rfl (by kernel_rfl) (by kernel_rfl) (by kernel_rfl) (fun _ _ _ h => h) (Or.inl ⟨by rfl, fun u _ => ?_⟩) ?_
  · go_simp
  try simp only [Act.put, List.setIfInBounds_toArray, List.set_cons_zero, List.set_cons_succ]
  refine wpAnyL_pureD (i := 2) 10 (.int .i64 e) rfl rfl (by kernel_rfl) (by kernel_rfl) (by kernel_rfl) (fun _ _ _ h => h) (Or.inl ⟨by rfl, fun u _ => ?_⟩) ?_
  · go_simp
  try simp only [Act.put, List.setIfInBounds_toArray, List.set_cons_zero, List.set_cons_succ]
  refine wpAnyL_pureD (i := 3) 11 (.slice (some ⟨b1, o1, none⟩) e c1) rfl rfl (by kernel_rfl) (by kernel_rfl) (by kernel_rfl) (fun _ _ _ h => h) (Or.inl ⟨by rfl, fun u _ => ?_⟩) ?_
  · go_simp
  try simp only [Act.put, List.setIfInBounds_toArray, List.set_cons_zero, List.set_cons_succ]
  refine wpAnyL_pureD (i := 5) 13 (.slice (some ⟨b1, o1, none⟩) P.length c1) rfl rfl (by kernel_rfl) (by kernel_rfl) (by kernel_rfl) (fun _ _ _ h => h) (Or.inl ⟨by rfl, fun u _ => ?_⟩) ?_
  · go_simp
  try simp only [Act.put, List.setIfInBounds_toArray, List.set_cons_zero, List.set_cons_succ]
  refine wpAnyL_pureD (i := 6) 14 (.int .i64 e) rfl rfl (by kernel_rfl) (by kernel_rfl) (by kernel_rfl) (fun _ _ _ h => h) (Or.inl ⟨by rfl, fun u _ => ?_⟩) ?_
  · go_simp
  try simp only [Act.put, List.setIfInBounds_toArray, List.set_cons_zero, List.set_cons_succ]
  refine wpAnyL_pureD (i := 7) 15 (.int .i64 ((e : Int) + 1)) rfl rfl (by kernel_rfl) (by kernel_rfl) (by kernel_rfl) (fun _ _ _ h => h) (Or.inl ⟨by rfl, fun u _ => ?_⟩) ?_
  · go_simp
  try simp only [Act.put, List.setIfInBounds_toArray, List.set_cons_zero, List.set_cons_succ]
  refine wpAnyL_pureD (i := 8) 16 (.slice (some A) (P.length - (e + 1)) (c1 - (e + 1))) rfl rfl (by kernel_rfl) (by kernel_rfl) (by kernel_rfl) (fun _ _ _ h => h) (Or.inl ⟨by rfl, fun u _ => ?_⟩) ?_
  · go_simp
  try simp only [Act.put, List.setIfInBounds_toArray, List.set_cons_zero, List.set_cons_succ]
  refine wpAnyL_one (i := 0) (by kernel_rfl) rfl (fun K hK => ?_)
  go_simp
  obtain ⟨x1, hx1⟩ : ∃ x1, x1 = (w1.alloc (Obj.cells #[] 25)).drew := ⟨_, rfl⟩
  have hj1 : Below w1.heap.size w1 x1 := by rw [hx1]; exact ((Below.refl _ w1).alloc (Nat.le_refl _) _).drew
  have hown1 : x1.ownsRow w1.heap.size 25 2 (.slice (some ⟨w1.heap.size, 0, none⟩) 0 0) 0 [] := by
    rw [hx1]
    exact own_keep (World.ownsRow_made w1 #[] 0 (Nat.le_refl _) (Nat.zero_le _) rfl) (Below.refl _ _).drew
  rw [← hx1]
  refine hK.out _ _ (fun _ _ => hj1) ?_
  clear hK K hx1 hj0
  try simp only [Act.put, List.setIfInBounds_toArray, List.set_cons_zero, List.set_cons_succ]
  refine wpAnyL_one (i := 4) (by kernel_rfl) rfl (fun K hK => ?_)
  rw [if_pos (by rfl)]
  refine wp_append_own _ _ _ 56 rfl w1.heap.size 25 i0 (.agg #[.int .i64 0, .int .i64 0]) 2 16 Try.underlying56 hi0 hz0 hz1 hz2 rfl (by decide) _ 0 [] rfl hown1 ⟨b1, o1, none⟩ e c1 (flat encP (P.take e)) rfl s1.out (hsr1.out _ hj1) (ONE.out _) (by unfold maxLen; omega) (by omega) (hj1.size) ?_
  intro v2 x2 hown2 hgr2 _
  have hj2 : Below w1.heap.size w1 x2 := hj1.grown hgr2 hj1.size (fun k hk => (hown1.lt k hk).1)
  refine hK.out (Act.put _ (some 12) v2) x2 (fun _ _ => hj2) ?_
  clear hK K hgr2 hj1 hown1
  try simp only [Act.put, List.setIfInBounds_toArray, List.set_cons_zero, List.set_cons_succ]
  refine wpAnyL_one (i := 9) (by kernel_rfl) rfl (fun K hK => ?_)
  rw [if_pos (by rfl)]
  refine wp_append_own _ _ _ 56 rfl w1.heap.size 25 i0 (.agg #[.int .i64 0, .int .i64 0]) 2 16 Try.underlying56 hi0 hz0 hz1 hz2 rfl (by decide) _ (0 + e) ([] ++ flat encP (P.take e)) rfl hown2 A (P.length - (e + 1)) (c1 - (e + 1)) (flat encP (P.drop (e + 1))) rfl s2.out (hsrc.out _ hj2) (ONE.out _) (by unfold maxLen; omega) (by omega) (hj2.size) ?_
  intro v3 x3 hown3 hgr3 _
  have hj3 : Below w1.heap.size w1 x3 := hj2.grown hgr3 hj2.size (fun k hk => (hown2.lt k hk).1)
  refine hK.out (Act.put _ (some 17) v3) x3 (fun _ _ => hj3) ?_
  clear hK K hgr3 hj2 hown2
  try simp only [Act.put, List.setIfInBounds_toArray, List.set_cons_zero, List.set_cons_succ]
  refine wpAnyL_pureD (i := 10) 4 v3 rfl rfl (by kernel_rfl) (by kernel_rfl) (by kernel_rfl) (fun _ _ _ h => h) (Or.inl ⟨by rfl, fun u _ => ?_⟩) ?_
  · go_simp
  try simp only [Act.put, List.setIfInBounds_toArray, List.set_cons_zero, List.set_cons_succ]
  refine wpAnyL_done (by kernel_rfl) ?_ _
  try simp only [Act.put, List.setIfInBounds_toArray, List.set_cons_zero, List.set_cons_succ]
  rw [List.nil_append, HDR.out, Nat.zero_add, ← HDL.out] at hown3
  obtain ⟨a3, c3, hv3, hps⟩ := RowAt.of_own encP_len hown3
  subst hv3
  have HPS := Lib.hid hps
  have HEND := Lib.hid (HB0.out.trans ((HB1.out.trans (hj3.mono HB1.out.size)).mono HB0.out.size))
  clear hown3 hj3 hps
  go_wp2
  go_ret
  exact ⟨a3, c3, rfl, HPS.out, HEND.out⟩
end Go.Proofs.Ytndjjafpdiehdaa
