/- The number of components, by the reference; its genus. -/
import Derived.Test.YtjaafneoinidkaaHa
namespace Go.Proofs.Ytjaafneoinidkaa
open Go.RowKit Go.Shelf Go.Proofs.Gr
attribute [local go_sem] Oper.semAt_some

/-- The first u hold what either table holds. -/
def orT (t r : Nat → Bool) (u : Nat) : Nat → Bool := fun v => if v < u then (t v || r v) else t v
theorem orT_zero (t r : Nat → Bool) (v : Nat) : orT t r 0 v = t v := by unfold orT; rw [if_neg (by omega)]
theorem orT_at (t r : Nat → Bool) (u : Nat) : orT t r u u = t u := by unfold orT; rw [if_neg (by omega)]
theorem orT_set (t r : Nat → Bool) (u v : Nat) : orT t r (u + 1) v = if v = u then (t u || r u) else orT t r u v := by
  unfold orT
  by_cases e : v = u
  · subst e; rw [if_pos (by omega), if_pos rfl]
  · rw [if_neg e]
    by_cases h : v < u
    · rw [if_pos h, if_pos (by omega)]
    · rw [if_neg h, if_neg (by omega)]
/-- What has been seen, and the number of parts. -/
def psR (L : List E) (n : Nat) : Nat → (Nat → Bool) × Nat
  | 0 => (fun _ => false, 0)
  | c + 1 => if (psR L n c).1 c = true then psR L n c else (orT (psR L n c).1 (reachR L n c) n, (psR L n c).2 + 1)
def partsR (L : List E) (n : Nat) : Nat := (psR L n n).2
theorem psR_le (L : List E) (n c : Nat) : (psR L n c).2 ≤ c := by
  induction c with
  | zero => simp [psR]
  | succ c ih =>
    rw [psR]
    split
    · omega
    · show (psR L n c).2 + 1 ≤ c + 1; omega

set_option maxHeartbeats 12800000 in
set_option maxRecDepth 100000 in
theorem rparts_any (n : Nat) (hn : n ≤ 100) (a : Option Addr) (cap : Nat) (L : List E) (hL : L.length ≤ 100000) (hs : L.Pairwise (fun x y => ltE x y = true)) (w : World) (h : EsAt w a L) :
    Calls Try.prog 58 #[gv n a L.length cap] w (GivesN w (partsR L n : Nat)) := by
  have HRE := Lib.hid (fun v hv w h => rreached_any n hn a cap L hL hs v hv w h)
  have HPR : Hid (partsR L n = (psR L n n).2) := Lib.hid rfl
  have HP0 : Hid (psR L n 0 = (fun _ => false, 0)) := Lib.hid rfl
  have HPS : Hid (∀ c, psR L n (c + 1) = if (psR L n c).1 c = true then psR L n c else (orT (psR L n c).1 (reachR L n c) n, (psR L n c).2 + 1)) := Lib.hid fun c => rfl
  have HPL := Lib.hid (fun c => psR_le L n c)
  generalize partsR L n = R at *
  unfold GivesN gv at *
  obtain ⟨W, hW⟩ : ∃ W, W = w.alloc (Obj.cells #[.int .i64 n, .slice a L.length cap] 24) := ⟨_, rfl⟩
  have hB0 : Below w.heap.size w W := by rw [hW]; exact (Below.refl _ w).alloc (Nat.le_refl _) _
  have hG : Blk W w.heap.size 24 #[.int .i64 n, .slice a L.length cap] := by rw [hW]; exact Blk.new _ _ _
  have hWs : W.heap.size = w.heap.size + 1 := by rw [hW]; simp
  have HWS := Lib.hid hWs
  have HW := Lib.hid hW
  have HB0 := Lib.hid hB0
  have HG := Lib.hid hG
  have HE := Lib.hid (h.keep hB0)
  have hmk : (Instr.makeSlice 94 (.int .i64 (n : Int)) (.int .i64 (n : Int))).run Try.prog (w.alloc (Obj.cells #[.int .i64 n, .slice a L.length cap] 24)) = .ok (.slice (some ⟨w.heap.size + 1, 0, none⟩) n n) (W.alloc (.cells (enB n fun _ => false) 4)) := by rw [← hW, ← hWs]; exact make_bools n hn W
  have HN0 : Hid (Blk (W.alloc (.cells (enB n fun _ => false) 4)) (w.heap.size + 1) 4 (enB n fun _ => false)) := Lib.hid (by rw [← hWs]; exact Blk.new _ _ _)
  have HBN0 : Hid (Below W.heap.size W (W.alloc (.cells (enB n fun _ => false) 4))) := Lib.hid ((Below.refl _ _).alloc (Nat.le_refl _) _)
  have n0 : (0 : Int) ≤ (n : Int) := by omega
  clear hB0 hG hW hWs h
  go_enter Try.func58, Try.ntmps58
  go_wp2
  clear hmk
  go_loopw [3, 5] (fun y x wr => ∃ c : Nat, c ≤ n ∧ x = .int .i64 c ∧ y = .int .i64 ((psR L n c).2 : Nat) ∧ Blk wr (w.heap.size + 1) 4 (enB n (psR L n c).1) ∧ Below W.heap.size W wr) (fun _ x _ => n - (intOf x).toNat)
  case atStart => exact ⟨0, by omega, rfl, rfl, HN0.out, HBN0.out⟩
  case round =>
    obtain ⟨c, hc, rfl, rfl, hT, hb⟩ := hrel
    have hg := HG.out.below hb HG.out.lt
    have g0 : wr.cell? ⟨w.heap.size, 0, none⟩ = some (.int .i64 n) := hg.cell 0
    have g1 : wr.cell? ⟨w.heap.size, 1, none⟩ = some (.slice a L.length cap) := hg.cell 1
    clear hg
    have hpl := HPL.out c
    have HPS2 := Lib.hid (HPS.out c)
    by_cases hlc : c < n
    · generalize psR L n c = st at *
      obtain ⟨T, q⟩ := st
      simp only at hT hpl HPS2
      have c1 : (c : Int) < (n : Int) := by omega
      have c0 : (0 : Int) ≤ (c : Int) := by omega
      have z1 : wr.cell? ⟨w.heap.size + 1, c, none⟩ = some (.bool (T c)) := (hT.cell c).trans (enB_at n T c hlc)
      have HT := Lib.hid hT
      have HBr := Lib.hid hb
      have HEr := Lib.hid (HE.out.keep hb)
      clear hT hb
      by_cases ht : T c = true
      · rw [ht] at z1
        have HPS3 : Hid (psR L n (c + 1) = (T, q)) := Lib.hid (by rw [HPS2.out, if_pos ht])
        clear ht hpl
        go_wp2
        go_roundw
        case rel => exact ⟨c + 1, by omega, by go_num, by rw [HPS3.out], by rw [HPS3.out]; exact HT.out, HBr.out⟩
        case measure => simp [intOf]; omega
      · have HPS3 : Hid (psR L n (c + 1) = (orT T (reachR L n c) n, q + 1)) := Lib.hid (by rw [HPS2.out, if_neg ht])
        have ht' : T c = false := by simpa using ht
        rw [ht'] at z1
        have HQ : Hid (IntKind.i64.wrap ((q : Int) + 1) = (q : Int) + 1) := Lib.hid (IntWalk.i64_in _ (by omega))
        have hq1 := HQ.out
        clear ht ht' hpl
        go_wp2_with fail
        refine (HRE.out c hlc _ HEr.out).mono ?_
        rintro e' w2 ⟨g, rfl, hgw, hR, hb2⟩
        generalize reachR L n c = r at *
        have HT2 : Hid (Blk w2 (w.heap.size + 1) 4 (enB n (orT T r 0))) := Lib.hid (by rw [← enB_eq n T _ (fun v => orT_zero T r v)]; exact HT.out.below hb2 HT.out.lt)
        have HR2 := Lib.hid hR
        have HB2 := Lib.hid (HBr.out.trans (hb2.mono HBr.out.size))
        have HNE : Hid (g ≠ w.heap.size + 1) := Lib.hid (by have := HT.out.lt; omega)
        clear hb2 hR hgw g0 g1 z1
        go_wp2
        go_loopw [7] (fun x wr => ∃ d : Nat, d ≤ n ∧ x = .int .i64 d ∧ Blk wr (w.heap.size + 1) 4 (enB n (orT T r d)) ∧ Blk wr g 4 (enB n r) ∧ Below W.heap.size W wr) (fun x _ => n - (intOf x).toNat)
        case atStart => exact ⟨0, by omega, rfl, HT2.out, HR2.out, HB2.out⟩
        case round =>
          obtain ⟨d, hd, rfl, hT, hR, hb⟩ := hrel
          have g0 : wr.cell? ⟨w.heap.size, 0, none⟩ = some (.int .i64 n) := (HG.out.below hb HG.out.lt).cell 0
          by_cases hld : d < n
          · have d1 : (d : Int) < (n : Int) := by omega
            have d0 : (0 : Int) ≤ (d : Int) := by omega
            have z1 : wr.cell? ⟨w.heap.size + 1, d, none⟩ = some (.bool (T d)) := (hT.cell d).trans ((enB_at n _ d hld).trans (by rw [orT_at]))
            have z2 : wr.cell? ⟨g, d, none⟩ = some (.bool (r d)) := (hR.cell d).trans (enB_at n r d hld)
            have z3 : wr.frozen? ⟨w.heap.size + 1, d, none⟩ = false := hT.frozen d
            have HN : Hid (∀ b, b = (T d || r d) → Blk (wr.setCell ⟨w.heap.size + 1, d, none⟩ (.bool b)) (w.heap.size + 1) 4 (enB n (orT T r (d + 1))) ∧ Blk (wr.setCell ⟨w.heap.size + 1, d, none⟩ (.bool b)) g 4 (enB n r) ∧ Below W.heap.size W (wr.setCell ⟨w.heap.size + 1, d, none⟩ (.bool b))) := Lib.hid fun b hbb => by
              refine ⟨?_, hR.far (p := ⟨w.heap.size + 1, d, none⟩) HNE.out _, hb.setCell (p := ⟨w.heap.size + 1, d, none⟩) (Nat.le_of_eq HWS.out) _⟩
              rw [← enB_set n (orT T r d) _ d b (fun v => by rw [hbb]; exact orT_set T r d v)]
              exact hT.set_ d _
            generalize T d = td at *
            generalize r d = rd at *
            clear hT hR hb
            cases td
            · have HN1 := Lib.hid (HN.out rd rfl)
              go_wp2
              go_roundw
              case rel => exact ⟨d + 1, by omega, by go_num, HN1.out.1, HN1.out.2.1, HN1.out.2.2⟩
              case measure => simp [intOf]; omega
            · have HN1 := Lib.hid (HN.out true rfl)
              go_wp2
              go_roundw
              case rel => exact ⟨d + 1, by omega, by go_num, HN1.out.1, HN1.out.2.1, HN1.out.2.2⟩
              case measure => simp [intOf]; omega
          · obtain rfl : d = n := by omega
            have HN := Lib.hid hT
            have HBN := Lib.hid hb
            clear hT hb hR
            go_wp2
            go_roundw
            case rel => exact ⟨c + 1, by omega, by go_num, by rw [HPS3.out]; rfl, by rw [HPS3.out]; exact HN.out, HBN.out⟩
            case measure => simp [intOf]; omega
    · obtain rfl : c = n := by omega
      have HBN := Lib.hid hb
      rw [← HPR.out]
      clear hb hT hpl
      go_wp2
      go_ret
      exact ⟨rfl, HB0.out.trans (HBN.out.mono HB0.out.size)⟩
set_option maxHeartbeats 12800000 in
set_option maxRecDepth 100000 in
theorem rgenus_any (n : Nat) (hn : n ≤ 100) (a : Option Addr) (cap : Nat) (L : List E) (hL : L.length ≤ 100000) (hR : Right n L) (w : World) (h : EsAt w a L) :
    Calls Try.prog 22 #[gv n a L.length cap] w (GivesN w (sizeG L - n + (partsR L n : Nat))) := by
  have HSZ := Lib.hid (fun w h => rsize_any n a cap L hL hR w h)
  have HPA := Lib.hid (fun w h => rparts_any n hn a cap L hL hR.srt w h)
  have h2 := psR_le L n n
  have h3 := sum_bound (f := fun e => e.m) (L := L) (fun e he => by have := hR.rng e he; omega) L.length
  rw [take_all] at h3
  have h4 : sizeG L = sumL (fun e => e.m) L := rfl
  have h5 : partsR L n = (psR L n n).2 := rfl
  rw [← h4] at h3
  rw [← h5] at h2
  unfold GivesN gv at *
  obtain ⟨W, hW⟩ : ∃ W, W = w.alloc (Obj.cells #[.int .i64 n, .slice a L.length cap] 24) := ⟨_, rfl⟩
  have hB0 : Below w.heap.size w W := by rw [hW]; exact (Below.refl _ w).alloc (Nat.le_refl _) _
  have hG : Blk W w.heap.size 24 #[.int .i64 n, .slice a L.length cap] := by rw [hW]; exact Blk.new _ _ _
  have HW := Lib.hid hW
  have HB0 := Lib.hid hB0
  have HG := Lib.hid hG
  have HE := Lib.hid (h.keep hB0)
  clear hB0 hG hW h h4 h5
  generalize sizeG L = S at *
  generalize partsR L n = C at *
  have c1 : IntKind.i64.wrap (S - n) = S - n := IntWalk.i64_in _ (by omega)
  have c2 : IntKind.i64.wrap (S - n + C) = S - n + C := IntWalk.i64_in _ (by omega)
  have HS : Hid (∀ x, Below W.heap.size W x → (Below W.heap.size W x ∧ x.cell? ⟨w.heap.size, 0, none⟩ = some (.int .i64 (n : Nat)) ∧ x.cell? ⟨w.heap.size, 1, none⟩ = some (.slice a L.length cap))) := fun x hx => ⟨hx, (HG.out.below hx HG.out.lt).cell 0, (HG.out.below hx HG.out.lt).cell 1⟩
  clear hR h2 h3
  go_enter Try.func22, Try.ntmps22
  go_wp2
  rw [← HW.out]
  have hk2 : Below W.heap.size W W.drew := (Below.refl _ _).drew
  obtain ⟨_, f0, f1⟩ := HS.out _ hk2
  go_region_held3 (fun x => Below W.heap.size W x ∧ x.cell? ⟨w.heap.size, 0, none⟩ = some (.int .i64 (n : Nat)) ∧ x.cell? ⟨w.heap.size, 1, none⟩ = some (.slice a L.length cap))
    (first | exact HS.out _ (by assumption) | exact HS.out _ (Below.drew (by assumption)))
    (first | (go_at_call 19; refine (HSZ.out _ (HE.out.keep hk2)).mono ?_; rintro e wz ⟨rfl, hbz⟩; have hk3 := hk2.trans (hbz.mono hk2.size); clear hbz hk2; have hk2 := hk3; clear hk3) | (go_at_call 58; refine (HPA.out _ (HE.out.keep hk2)).mono ?_; rintro e wz ⟨rfl, hbz⟩; have hk3 := hk2.trans (hbz.mono hk2.size); clear hbz hk2; have hk2 := hk3; clear hk3))
  rename_i hHeldz
  clear hHeldz
  go_wp2
  go_ret
  exact ⟨rfl, HB0.out.trans (hk2.mono HB0.out.size)⟩
end Go.Proofs.Ytjaafneoinidkaa
