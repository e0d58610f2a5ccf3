/- Graphs in which two vertices are joined at most once. -/
import Derived.Test.YtjaafneoinidkaaGt
namespace Go.Proofs.Ytjaafneoinidkaa
open Go.RowKit Go.Shelf Go.Proofs.Gr
attribute [local go_sem] Oper.semAt_some

/-- The first of a list's edges are single. -/
def oneL : Nat → List E → List E
  | 0, L => L
  | _ + 1, [] => []
  | i + 1, e :: r => ⟨e.a, e.b, 1⟩ :: oneL i r
theorem oneL_len (i : Nat) (L : List E) : (oneL i L).length = L.length := by
  induction L generalizing i with
  | nil => cases i <;> rfl
  | cons e r ih => cases i with
    | zero => rfl
    | succ i => rw [oneL, List.length_cons, ih, List.length_cons]
theorem oneL_all (L : List E) : oneL L.length L = L.map fun e => ⟨e.a, e.b, 1⟩ := by
  induction L with
  | nil => rfl
  | cons e r ih => rw [List.length_cons, oneL, ih, List.map_cons]
theorem oneL_set (L : List E) (i : Nat) (h : i < L.length) : (flat encE (oneL i L)).set (i * 3 + 2) (.int .i64 1) = flat encE (oneL (i + 1) L) := by
  induction L generalizing i with
  | nil => simp at h
  | cons e r ih =>
    cases i with
    | zero => rfl
    | succ i =>
      have h2 := ih i (by simpa using h)
      rw [oneL, flat_cons]
      show _ = flat encE (⟨e.a, e.b, 1⟩ :: oneL (i + 1) r)
      rw [flat_cons, ← h2, List.set_append_right _ _ (by rw [encE_len3, Nat.succ_mul]; omega), encE_len3]
      congr 2
      rw [Nat.succ_mul]; omega
theorem of_own_len {α : Type} {k : Nat} {enc : α → List Value} (hk : ∀ x, (enc x).length = k) {w : World} {base : Nat} {e : TypeId} {v : Value} {n : Nat} {L : List α} (h : w.ownsRow base e k v n (flat enc L)) (hn : n = L.length) : ∃ a cap, v = .slice a n cap ∧ RowAt k enc w a L := by
  subst hn
  exact RowAt.of_own hk h
theorem own_pos {w : World} {base : Nat} {e : TypeId} {size : Nat} {v : Value} {n : Nat} {xs : List Value} (h : w.ownsRow base e size v n xs) (hn : 0 < n) : ∃ g c, v = .slice (some ⟨g, 0, none⟩) n c := by
  rcases h.2 with ⟨_, h0⟩ | ⟨g, c, cur, hv, _⟩
  · omega
  · exact ⟨g, c, hv⟩

set_option maxHeartbeats 12800000 in
set_option maxRecDepth 100000 in
theorem psimple_of (n : Int) (a : Option Addr) (cap : Nat) (L : List E) (_hL : L.length ≤ 100000) (nn : Int) (M : List E) (hM : M.length ≤ 100000) (k : Nat)
    (HC : Hid (∀ w, EsAt w a L → Calls Try.prog 44 #[gv n a L.length cap] w (GivesGE w nn M k))) (w : World) (h : EsAt w a L) :
    Calls Try.prog 45 #[gv n a L.length cap] w (GivesGE w nn (M.map fun e => ⟨e.a, e.b, 1⟩) k) := by
  have HOS := Lib.hid (fun i h => oneL_set M i h)
  have HOL := Lib.hid (fun i => oneL_len i M)
  have HOA := Lib.hid (oneL_all M)
  unfold GivesGE gv at *
  obtain ⟨W, hW⟩ : ∃ W, W = (w.alloc (Obj.cells #[.int .i64 n, .slice a L.length cap] 24)).alloc (Obj.cells #[.int .i64 0, .slice none 0 0] 24) := ⟨_, rfl⟩
  have hB0 : Below w.heap.size w W := by rw [hW]; exact ((Below.refl _ w).alloc (Nat.le_refl _) _).alloc (by simp) _
  have hG : Blk W w.heap.size 24 #[.int .i64 n, .slice a L.length cap] := by rw [hW]; exact (Blk.new _ _ _).alloc _
  have hR : Blk W (w.heap.size + 1) 24 #[.int .i64 0, .slice none 0 0] := by
    rw [hW]
    have h9 := Blk.new (w.alloc (Obj.cells #[.int .i64 n, .slice a L.length cap] 24)) 24 #[.int .i64 0, .slice none 0 0]
    rwa [World.size_alloc] at h9
  have HW := Lib.hid hW
  have HB0 := Lib.hid hB0
  have HR := Lib.hid hR
  have HE := Lib.hid (h.keep hB0)
  have g0 : W.cell? ⟨w.heap.size, 0, none⟩ = some (.int .i64 n) := hG.cell 0
  have g1 : W.cell? ⟨w.heap.size, 1, none⟩ = some (.slice a L.length cap) := hG.cell 1
  clear hB0 hG hR hW h
  go_enter Try.func45, Try.ntmps45
  go_wp2_with fail
  rw [← HW.out]
  refine (HC.out _ HE.out).mono ?_
  rintro e w1 ⟨sa, sc, rfl, -, hown, hb⟩
  have HB1 := Lib.hid (HB0.out.trans (hb.mono HB0.out.size))
  have HBW := Lib.hid hb
  have HK0 : Hid (Blk (w1.alloc (Obj.cells #[.int .i64 nn, .slice sa M.length sc] 24)) w1.heap.size 24 #[.int .i64 nn, .slice sa M.length sc]) := Lib.hid (Blk.new _ _ _)
  have HO0 : Hid ((w1.alloc (Obj.cells #[.int .i64 nn, .slice sa M.length sc] 24)).ownsRow W.heap.size 71 3 (.slice sa M.length sc) M.length (flat encE (oneL 0 M))) := Lib.hid (hown.alloc _)
  have HBK : Hid (Below W.heap.size W (w1.alloc (Obj.cells #[.int .i64 nn, .slice sa M.length sc] 24))) := Lib.hid (hb.alloc hb.size _)
  clear hb hown g0 g1
  go_wp2
  go_loopw [15] (fun v wr => ∃ i : Nat, i ≤ M.length ∧ v = .int .i64 i ∧ Blk wr w1.heap.size 24 #[.int .i64 nn, .slice sa M.length sc] ∧ wr.ownsRow W.heap.size 71 3 (.slice sa M.length sc) M.length (flat encE (oneL i M)) ∧ Below W.heap.size W wr) (fun v _ => M.length - (intOf v).toNat)
  case atStart => exact ⟨0, by omega, rfl, HK0.out, HO0.out, HBK.out⟩
  case round =>
    obtain ⟨i, hi, rfl, hK, hown, hb⟩ := hrel
    have k0 : wr.cell? ⟨w1.heap.size, 0, none⟩ = some (.int .i64 nn) := hK.cell 0
    have k1 : wr.cell? ⟨w1.heap.size, 1, none⟩ = some (.slice sa M.length sc) := hK.cell 1
    by_cases hlt : i < M.length
    · obtain ⟨g, c, hv⟩ := own_pos hown (by omega)
      injection hv with hv1 hv2 hv3
      subst hv1
      have hgb := hown.lt g rfl
      have hx : (flat encE (oneL i M))[i * 3 + 2]? = some (.int .i64 (eAt (oneL i M) i).m) := by
        have h5 : i < (oneL i M).length := by rw [HOL.out]; exact hlt
        rw [flat_at encE_len3 (oneL i M) i 2 h5 (by omega), eAt_get _ i h5]; rfl
      have y1 : wr.cell? ⟨g, i * 3 + 2, none⟩ = some (.int .i64 (eAt (oneL i M) i).m) := (hown.cellAt (i * 3 + 2) (by omega)).trans hx
      have y2 : wr.frozen? ⟨g, i * 3 + 2, none⟩ = false := hown.frozenAt (i * 3 + 2)
      have HN : Hid ((wr.setCell ⟨g, i * 3 + 2, none⟩ (.int .i64 1)).ownsRow W.heap.size 71 3 (.slice (some ⟨g, 0, none⟩) M.length sc) M.length (flat encE (oneL (i + 1) M))) := Lib.hid (by rw [← HOS.out i hlt]; exact (hown.stored (i * 3 + 2) (.int .i64 1)).1)
      have hne : w1.heap.size ≠ g := fun e => own_blk_ne hown hK (by decide) (by rw [e]; rfl)
      have HKN : Hid (Blk (wr.setCell ⟨g, i * 3 + 2, none⟩ (.int .i64 1)) w1.heap.size 24 #[.int .i64 nn, .slice (some ⟨g, 0, none⟩) M.length sc]) := Lib.hid (hK.far (p := ⟨g, i * 3 + 2, none⟩) hne _)
      have HBN : Hid (Below W.heap.size W (wr.setCell ⟨g, i * 3 + 2, none⟩ (.int .i64 1))) := Lib.hid (hb.setCell (p := ⟨g, i * 3 + 2, none⟩) hgb.1 _)
      generalize eAt (oneL i M) i = T at *
      have i1 : (i : Int) < ((M.length : Nat) : Int) := by omega
      have i2 : (0 : Int) ≤ (i : Int) := by omega
      clear hK hown hb hgb hx hne hv3 hv2
      go_wp2
      go_roundw
      case rel => exact ⟨i + 1, by omega, by go_num, HKN.out, HN.out, HBN.out⟩
      case measure => simp [intOf]; omega
    · obtain rfl : i = M.length := by omega
      rw [HOA.out] at hown
      have hl : (M.map fun e => (⟨e.a, e.b, 1⟩ : E)).length = M.length := List.length_map ..
      have HL2 := Lib.hid hl
      have e0 := ownsRow_setCell_below (ownsRow_setCell_below hown (a := ⟨w.heap.size + 1, 0, none⟩) HR.out.lt (.int .i64 nn)) (a := ⟨w.heap.size + 1, 1, none⟩) HR.out.lt (.slice sa M.length sc)
      have E3 := Lib.hid (e0.mono (base' := w.heap.size) HB0.out.size)
      obtain ⟨a', c', e1, e2⟩ := of_own_len encE_len3 e0 hl.symm
      clear e0 hl
      have E1 := Lib.hid e1
      have E2 := Lib.hid e2
      have hRr : Blk wr (w.heap.size + 1) 24 #[.int .i64 0, .slice none 0 0] := HR.out.below hb HR.out.lt
      have r1 : wr.cell? ⟨w.heap.size + 1, 0, none⟩ = some (.int .i64 0) := hRr.cell 0
      have r3 : wr.frozen? ⟨w.heap.size + 1, 0, none⟩ = false := hRr.frozen 0
      have r2 : (wr.setCell ⟨w.heap.size + 1, 0, none⟩ (.int .i64 nn)).cell? ⟨w.heap.size + 1, 1, none⟩ = some (.slice none 0 0) := (hRr.set_ 0 (.int .i64 nn)).cell 1
      have r4 : (wr.setCell ⟨w.heap.size + 1, 0, none⟩ (.int .i64 nn)).frozen? ⟨w.heap.size + 1, 1, none⟩ = false := (hRr.set_ 0 (.int .i64 nn)).frozen 1
      have hRf := (hRr.set_ 0 (.int .i64 nn)).set_ 1 (.slice sa M.length sc)
      have r5 : ((wr.setCell ⟨w.heap.size + 1, 0, none⟩ (.int .i64 nn)).setCell ⟨w.heap.size + 1, 1, none⟩ (.slice sa M.length sc)).cell? ⟨w.heap.size + 1, 0, none⟩ = some (.int .i64 nn) := hRf.cell 0
      have r6 : ((wr.setCell ⟨w.heap.size + 1, 0, none⟩ (.int .i64 nn)).setCell ⟨w.heap.size + 1, 1, none⟩ (.slice sa M.length sc)).cell? ⟨w.heap.size + 1, 1, none⟩ = some (.slice sa M.length sc) := hRf.cell 1
      have HBF : Hid (Below w.heap.size w ((wr.setCell ⟨w.heap.size + 1, 0, none⟩ (.int .i64 nn)).setCell ⟨w.heap.size + 1, 1, none⟩ (.slice sa M.length sc))) := Lib.hid (((HB0.out.trans (hb.mono HB0.out.size)).setCell (p := ⟨w.heap.size + 1, 0, none⟩) (Nat.le_succ _) _).setCell (p := ⟨w.heap.size + 1, 1, none⟩) (Nat.le_succ _) _)
      clear hb hK hown hRr hRf e1 e2
      go_wp2
      refine bodyPost_ret (v := .tuple #[.agg #[.int .i64 nn, .slice sa M.length sc], .int .i64 (k : Nat)]) (by simp [results, Try.results45, go_sem, r5, r6]) rfl ?_
      injection E1.out with q1 q2 q3
      have hq := E2.out
      rw [← q1] at hq
      exact ⟨sa, sc, by rw [HL2.out], hq, by rw [HL2.out]; exact E3.out, HBF.out⟩
theorem psimple_any (n : Int) (a : Option Addr) (cap : Nat) (L : List E) (hL : L.length ≤ 100000) (w : World) (h : EsAt w a L) :
    Calls Try.prog 45 #[gv n a L.length cap] w (GivesGE w (if chkG n L = 0 then n else 0) ((if chkG n L = 0 then noL L else []).map fun e => ⟨e.a, e.b, 1⟩) (chkG n L)) :=
  psimple_of n a cap L hL _ _ (by split; exact Nat.le_trans (noL_le L) hL; simp) _ (Lib.hid fun w h => ploopless_any n a cap L hL w h) w h
end Go.Proofs.Ytjaafneoinidkaa
