/- The families; how their sizes are checked; what makes a graph. And: What each kind draws. And: The family of a kind. And: Graphs of kinds, by the program. And: The family of a kind. -/
import Derived.Test.YtgfbihdnjidodaaQ13
import Derived.Test.YtgfbihdnjidodaaQ01
import Derived.Deep.WholeRow
import Derived.Test.YtgfbihdnjidodaaQ08
namespace Go.Proofs.Ytgfbihdnjidodaa
open Go.RowKit Go.Shelf Go.Proofs.Gr
attribute [local go_sem] Oper.semAt_some

/-- Hands back a graph and an error's number. -/
def GivesGW (w : World) (m : Int) (J : List E) (k : Nat) (e : Ending) (w' : World) : Prop := ∃ a c, e = .returned (.tuple #[.agg #[.int .i64 m, .slice a J.length c], .int .i64 (k : Int)]) ∧ EsAt w' a J ∧ Below w.heap.size w w'
/-- How a graph is made of ends. -/
def Makes (n : Int) (Q : List (Int × Int)) (m : Int) (J : List E) (k : Nat) : Prop := J.length ≤ 100000 ∧ (∀ b cp w, PsAt w b Q → Calls Try.prog 44 #[.int .i64 n, .slice b Q.length cp] w (GivesGE w m J k)) ∧ (∀ b cp w, PsAt w b Q → Calls Try.prog 45 #[.int .i64 n, .slice b Q.length cp] w (GivesGE w m J k))
theorem tail_facts (x : World) (B kb w0 : Nat) (m : Int) (J : List E) (a2 : Option Addr) (c2 : Nat) (he : x.ownsRow B 66 3 (.slice a2 J.length c2) J.length (flat encE J)) (hlt : kb < B) (hR : Blk x kb 31 #[.int .i64 0, .slice none 0 0]) :
    x.cell? ⟨kb, 0, none⟩ = some (.int .i64 0) ∧ x.frozen? ⟨kb, 0, none⟩ = false ∧ (x.setCell ⟨kb, 0, none⟩ (.int .i64 m)).cell? ⟨kb, 1, none⟩ = some (.slice none 0 0) ∧ (x.setCell ⟨kb, 0, none⟩ (.int .i64 m)).frozen? ⟨kb, 1, none⟩ = false
    ∧ ((x.setCell ⟨kb, 0, none⟩ (.int .i64 m)).setCell ⟨kb, 1, none⟩ (.slice a2 J.length c2)).cell? ⟨kb, 0, none⟩ = some (.int .i64 m) ∧ ((x.setCell ⟨kb, 0, none⟩ (.int .i64 m)).setCell ⟨kb, 1, none⟩ (.slice a2 J.length c2)).cell? ⟨kb, 1, none⟩ = some (.slice a2 J.length c2)
    ∧ EsAt ((x.setCell ⟨kb, 0, none⟩ (.int .i64 m)).setCell ⟨kb, 1, none⟩ (.slice a2 J.length c2)) a2 J ∧ ∀ w, Below w0 w x → w0 ≤ kb → Below w0 w ((x.setCell ⟨kb, 0, none⟩ (.int .i64 m)).setCell ⟨kb, 1, none⟩ (.slice a2 J.length c2)) := by
  have e0 := ownsRow_setCell_below (ownsRow_setCell_below he (a := ⟨kb, 0, none⟩) hlt (.int .i64 m)) (a := ⟨kb, 1, none⟩) hlt (.slice a2 J.length c2)
  obtain ⟨a', c', e1, e2⟩ := RowAt.of_own encE_len3 e0
  injection e1 with q1 q2 q3
  rw [← q1] at e2
  have hRf := (hR.set_ 0 (.int .i64 m)).set_ 1 (.slice a2 J.length c2)
  exact ⟨hR.cell 0, hR.frozen 0, (hR.set_ 0 (.int .i64 m)).cell 1, (hR.set_ 0 (.int .i64 m)).frozen 1, hRf.cell 0, hRf.cell 1, e2, fun w hw hk => (hw.setCell (p := ⟨kb, 0, none⟩) hk _).setCell (p := ⟨kb, 1, none⟩) hk _⟩
/-- A list that can be made into a graph is made into one. -/
theorem makes_right (N : Nat) (h0 : 1 ≤ N) (h1 : N ≤ 12) (Q : List (Int × Int)) (hl : Q.length ≤ 4096) (hr : ∀ p ∈ Q, (0 ≤ p.1 ∧ p.1 < N) ∧ 0 ≤ p.2 ∧ p.2 < N) (hc : ∀ x y, cntT Q Q.length x y ≤ 50) : Makes N Q N (joinT (cntT Q Q.length) N N) 0 := by
  have hz : ∀ j, j < Q.length → pErr N Q j = 0 := fun j hj => by
    have := hr (pAt Q j) (by rw [← pAt_get Q j hj]; exact List.getElem_mem _)
    unfold pErr isV
    rw [if_pos (by simp; omega)]
  refine ⟨joinT_small _ _ (by omega), fun b cp w h => (pmake_ok N h0 h1 b cp Q hl w h).mono ?_, fun b cp w h => (rmake_ok N h0 h1 b cp Q hl w h).mono ?_⟩ <;>
  · rintro e w' ⟨k, hg, ⟨rfl, j, hj, hk⟩ | ⟨rfl, -, x, y, -, -, hxy⟩ | ⟨rfl, -, -⟩⟩
    · exact absurd (hz j hj) hk
    · have := hc x y; omega
    · exact hg
/-- The error of sizes that are checked. -/
def chkF (n : Nat) (L : List Int) : Nat := if L.length ≠ n then 8 else if L.any (fun x => decide (x < 1)) = true then 2 else if L.any (fun x => decide (50 < x)) = true then 5 else 0
theorem any_at (L : List Int) (p : Int → Bool) (i : Nat) (h : i < L.length) (hp : p (iAt L i) = true) : L.any p = true := List.any_eq_true.2 ⟨_, List.getElem_mem h, by rw [iAt_get L i h]; exact hp⟩
theorem any_no (L : List Int) (p : Int → Bool) (h : ∀ j, j < L.length → p (iAt L j) = false) : L.any p = false := by
  rw [List.any_eq_false]
  intro x hx
  obtain ⟨j, hj, rfl⟩ := List.getElem_of_mem hx
  rw [iAt_get L j hj, h j hj]; simp
set_option maxHeartbeats 12800000 in
set_option maxRecDepth 100000 in
theorem pcheckF_any (n : Nat) (F1 F2 : Value) (a : Option Addr) (cap : Nat) (L : List Int) (hL : L.length ≤ 1000000) (w : World) (h : IsAt w a L) :
    Calls Try.prog 43 #[.agg #[.int .i64 (n : Nat), F1, F2], .slice a L.length cap] w (fun e x => e = .returned (.int .i64 (chkF n L : Nat)) ∧ Below w.heap.size w x) := by
  have HK : Hid (chkF n L = if L.length ≠ n then 8 else if L.any (fun x => decide (x < 1)) = true then 2 else if L.any (fun x => decide (50 < x)) = true then 5 else 0) := Lib.hid rfl
  generalize chkF n L = K at *
  by_cases hn : L.length = n
  · have hne : (((L.length : Nat) : Int) != (n : Int)) = false := by rw [hn]; simp
    have HLN := Lib.hid hn
    have HK2 : Hid ((∃ i, i < L.length ∧ iAt L i < 1) → K = 2) := Lib.hid (by
      rintro ⟨i, h1, h2⟩
      rw [HK.out, if_neg (by simpa using hn), if_pos (any_at L _ i h1 (by simpa using h2))])
    have HK5 : Hid ((∀ j, j < L.length → 1 ≤ iAt L j) → (∃ i, i < L.length ∧ 50 < iAt L i) → K = 5) := Lib.hid (by
      rintro h0 ⟨i, h1, h2⟩
      rw [HK.out, if_neg (by simpa using hn), any_no L (fun x => decide (x < 1)) (fun j hj => by have := h0 j hj; simp; omega), if_neg (by simp), if_pos (any_at L _ i h1 (by simpa using h2))])
    have HK0 : Hid ((∀ j, j < L.length → 1 ≤ iAt L j) → (∀ j, j < L.length → iAt L j ≤ 50) → K = 0) := Lib.hid (by
      intro h0 h1
      rw [HK.out, if_neg (by simpa using hn), any_no L (fun x => decide (x < 1)) (fun j hj => by have := h0 j hj; simp; omega), any_no L (fun x => decide (50 < x)) (fun j hj => by have := h1 j hj; simp; omega)]; simp)
    clear HK
    obtain ⟨W, hW⟩ : ∃ W, W = w.alloc (Obj.cells #[.int .i64 (n : Nat), F1, F2] 60) := ⟨_, rfl⟩
    have hB0 : Below w.heap.size w W := by rw [hW]; exact (Below.refl _ w).alloc (Nat.le_refl _) _
    have hG : Blk W w.heap.size 60 #[.int .i64 (n : Nat), F1, F2] := by rw [hW]; exact Blk.new _ _ _
    have HW := Lib.hid hW
    have HB0 := Lib.hid hB0
    have HI := Lib.hid (h.keep hB0)
    have g0 : W.cell? ⟨w.heap.size, 0, none⟩ = some (.int .i64 (n : Nat)) := hG.cell 0
    clear hB0 hG hW h
    have HG1 : Hid (∀ x, Below W.heap.size W x → IsAt x a L) := Lib.hid fun x hx => HI.out.keep hx
    clear hn
    go_enter Try.func43, Try.ntmps43
    go_wp2
    rw [← HW.out]
    go_loopw [16] (fun x wr => ∃ i : Nat, i ≤ L.length ∧ x = .int .i64 i ∧ (∀ j, j < i → 1 ≤ iAt L j) ∧ Below W.heap.size W wr) (fun x _ => L.length - (intOf x).toNat)
    case atStart => exact ⟨0, by omega, rfl, fun j hj => by omega, Below.refl _ _⟩
    case round =>
      obtain ⟨i, hi, rfl, hz, hb⟩ := hrel
      by_cases hlt : i < L.length
      · have i1 : (i : Int) < (L.length : Int) := by omega
        have i2 : (0 : Int) ≤ (i : Int) := by omega
        obtain ⟨bb, oo, rfl, q1, x1⟩ := (HI.out.keep hb).one i hlt
        have HBW := Lib.hid hb
        obtain ⟨z, hz1⟩ : ∃ z, z = iAt L i := ⟨_, rfl⟩
        rw [← hz1] at x1
        by_cases hlow : z < 1
        · have HR : Hid (K = 2) := Lib.hid (HK2.out ⟨i, hlt, by rw [← hz1]; exact hlow⟩)
          clear hz hz1 hb
          go_wp2
          go_ret
          exact ⟨by rw [HR.out]; rfl, HB0.out.trans (HBW.out.mono HB0.out.size)⟩
        · have HZ : Hid (∀ j, j < i + 1 → 1 ≤ iAt L j) := Lib.hid fun j hj => by
            by_cases e : j = i
            · subst e; rw [← hz1]; omega
            · exact hz j (by omega)
          clear hz hz1 hb
          go_wp2
          go_roundw
          case rel => exact ⟨i + 1, by omega, by go_num, HZ.out, HBW.out⟩
          case measure => simp [intOf]; omega
      · obtain rfl : i = L.length := by omega
        have i1 : ¬ (L.length : Int) < (L.length : Int) := by omega
        have HZ0 := Lib.hid hz
        have HBW := Lib.hid hb
        clear hz hb
        go_wp2
        go_loopw [25] (fun x wr => ∃ i : Nat, i ≤ L.length ∧ x = .int .i64 i ∧ (∀ j, j < i → iAt L j ≤ 50) ∧ Below W.heap.size W wr) (fun x _ => L.length - (intOf x).toNat)
        case atStart => exact ⟨0, by omega, rfl, fun j hj => by omega, HBW.out⟩
        case round =>
          obtain ⟨i, hi, rfl, hz, hb⟩ := hrel
          by_cases hlt : i < L.length
          · have i1 : (i : Int) < (L.length : Int) := by omega
            have i2 : (0 : Int) ≤ (i : Int) := by omega
            obtain ⟨bb, oo, rfl, q1, x1⟩ := (HI.out.keep hb).one i hlt
            have HBW := Lib.hid hb
            obtain ⟨z, hz1⟩ : ∃ z, z = iAt L i := ⟨_, rfl⟩
            rw [← hz1] at x1
            by_cases hlow : 50 < z
            · have HR : Hid (K = 5) := Lib.hid (HK5.out HZ0.out ⟨i, hlt, by rw [← hz1]; exact hlow⟩)
              clear hz hz1 hb
              go_wp2
              go_ret
              exact ⟨by rw [HR.out]; rfl, HB0.out.trans (HBW.out.mono HB0.out.size)⟩
            · have HZ : Hid (∀ j, j < i + 1 → iAt L j ≤ 50) := Lib.hid fun j hj => by
                by_cases e : j = i
                · subst e; rw [← hz1]; omega
                · exact hz j (by omega)
              clear hz hz1 hb
              go_wp2
              go_roundw
              case rel => exact ⟨i + 1, by omega, by go_num, HZ.out, HBW.out⟩
              case measure => simp [intOf]; omega
          · obtain rfl : i = L.length := by omega
            have i1 : ¬ (L.length : Int) < (L.length : Int) := by omega
            have HR : Hid (K = 0) := Lib.hid (HK0.out HZ0.out hz)
            have HBW := Lib.hid hb
            clear hz hb
            go_wp2
            go_ret
            exact ⟨by rw [HR.out]; rfl, HB0.out.trans (HBW.out.mono HB0.out.size)⟩
  · have hne : (((L.length : Nat) : Int) != (n : Int)) = true := by rw [bne_iff_ne]; omega
    have HR : Hid (K = 8) := Lib.hid (by rw [HK.out, if_pos hn])
    clear HK
    obtain ⟨W, hW⟩ : ∃ W, W = w.alloc (Obj.cells #[.int .i64 (n : Nat), F1, F2] 60) := ⟨_, rfl⟩
    have hB0 : Below w.heap.size w W := by rw [hW]; exact (Below.refl _ w).alloc (Nat.le_refl _) _
    have hG : Blk W w.heap.size 60 #[.int .i64 (n : Nat), F1, F2] := by rw [hW]; exact Blk.new _ _ _
    have HW := Lib.hid hW
    have HB0 := Lib.hid hB0
    have HI := Lib.hid (h.keep hB0)
    have g0 : W.cell? ⟨w.heap.size, 0, none⟩ = some (.int .i64 (n : Nat)) := hG.cell 0
    clear hB0 hG hW h
    go_enter Try.func43, Try.ntmps43
    go_wp2
    go_ret
    exact ⟨by rw [HR.out]; rfl, by rw [← HW.out]; exact HB0.out⟩
theorem run_store_func {P : Program} {w : World} {a : Addr} {m : Mode} (fn : Fn) (x y : Array Value) : (store a (.func fn x y) m).run P w = stored P w a (.func fn x y) m := run_store P w a _ m rfl
theorem run_store_nilFunc {P : Program} {w : World} {a : Addr} {m : Mode} : (store a .nilFunc m).run P w = stored P w a .nilFunc m := run_store P w a _ m rfl
attribute [local go_sem] run_store_func run_store_nilFunc
theorem wpList_store_new {P : Program} {w : World} {ops : Array Oper} {rest : List Oper} {o : Oper} {a : Act} {Q : Exit → Act → World → Prop} (hgd : o.guard = none) (t : TypeId) (p v : Operand) (ho : o.op = .store t p v) (hd : o.dst = none) (c c' : Array Value)
    (hp : a.eval p = .pointer (some ⟨w.heap.size, 0, none⟩)) (hv : a.eval v = .agg c') (hi : (P.info? t).map (·.size) = some c'.size) (hs : c.size = c'.size) (h1 : c'.all (·.oneCell') = true)
    (h : wpList P ops Q rest a (w.alloc (.cells c' t))) : wpList P ops Q (o :: rest) a (w.alloc (.cells c t)) :=
  wpList_plain hgd fun K hK => by
    have hr := run_storeAt_new (P := P) w t c c' hi hs h1
    unfold Oper.wp execOp
    simp only [ho, hp, hv, hr, Sem.run_bind, Sem.run_pure, Result.andThen_ok]
    rw [Oper.upon_skip, hd]
    exact hK _ _ h
set_option maxHeartbeats 12800000 in
set_option maxRecDepth 100000 in
theorem pfamilies_any (w : World) : Calls Try.prog 42 #[] w (fun e x => e = .returned (.agg #[.int .i64 1, (.func (.func 53) #[] #[]), (.func (.func 54) #[] #[]), .int .i64 1, (.func (.func 55) #[] #[]), (.func (.func 56) #[] #[]), .int .i64 1, (.func (.func 57) #[] #[]), (.func (.func 54) #[] #[]), .int .i64 1, (.func (.func 58) #[] #[]), (.func (.func 59) #[] #[]), .int .i64 1, (.func (.func 60) #[] #[]), (.func (.func 56) #[] #[]), .int .i64 1, (.func (.func 61) #[] #[]), (.func (.func 62) #[] #[]), .int .i64 2, (.func (.func 63) #[] #[]), (.func (.func 64) #[] #[]), .int .i64 2, (.func (.func 65) #[] #[]), Value.nilFunc, .int .i64 3, (.func (.func 66) #[] #[]), (.func (.func 67) #[] #[])]) ∧ Below w.heap.size w x) := by
  have HB : Hid (∀ v, Below w.heap.size w (w.alloc v)) := Lib.hid fun v => (Below.refl _ w).alloc (Nat.le_refl _) _
  go_enter Try.func42, Try.ntmps42
  go_wp2_with (refine wpList_store_new rfl 74 _ _ rfl rfl #[.int .i64 0, Value.nilFunc, Value.nilFunc, .int .i64 0, Value.nilFunc, Value.nilFunc, .int .i64 0, Value.nilFunc, Value.nilFunc, .int .i64 0, Value.nilFunc, Value.nilFunc, .int .i64 0, Value.nilFunc, Value.nilFunc, .int .i64 0, Value.nilFunc, Value.nilFunc, .int .i64 0, Value.nilFunc, Value.nilFunc, .int .i64 0, Value.nilFunc, Value.nilFunc, .int .i64 0, Value.nilFunc, Value.nilFunc] #[.int .i64 1, (.func (.func 53) #[] #[]), (.func (.func 54) #[] #[]), .int .i64 1, (.func (.func 55) #[] #[]), (.func (.func 56) #[] #[]), .int .i64 1, (.func (.func 57) #[] #[]), (.func (.func 54) #[] #[]), .int .i64 1, (.func (.func 58) #[] #[]), (.func (.func 59) #[] #[]), .int .i64 1, (.func (.func 60) #[] #[]), (.func (.func 56) #[] #[]), .int .i64 1, (.func (.func 61) #[] #[]), (.func (.func 62) #[] #[]), .int .i64 2, (.func (.func 63) #[] #[]), (.func (.func 64) #[] #[]), .int .i64 2, (.func (.func 65) #[] #[]), Value.nilFunc, .int .i64 3, (.func (.func 66) #[] #[]), (.func (.func 67) #[] #[])] rfl rfl (by kernel_rfl) rfl (by kernel_rfl) ?_)
  refine bodyPost_ret (v := .agg #[.int .i64 1, (.func (.func 53) #[] #[]), (.func (.func 54) #[] #[]), .int .i64 1, (.func (.func 55) #[] #[]), (.func (.func 56) #[] #[]), .int .i64 1, (.func (.func 57) #[] #[]), (.func (.func 54) #[] #[]), .int .i64 1, (.func (.func 58) #[] #[]), (.func (.func 59) #[] #[]), .int .i64 1, (.func (.func 60) #[] #[]), (.func (.func 56) #[] #[]), .int .i64 1, (.func (.func 61) #[] #[]), (.func (.func 62) #[] #[]), .int .i64 2, (.func (.func 63) #[] #[]), (.func (.func 64) #[] #[]), .int .i64 2, (.func (.func 65) #[] #[]), Value.nilFunc, .int .i64 3, (.func (.func 66) #[] #[]), (.func (.func 67) #[] #[])]) (results_cell_row (P := Try.prog) rfl _ _ _ 74 _ (0, 0) _ rfl (heap_alloc_last w _) Try.underlying74 rfl (by kernel_rfl)) rfl ?_
  exact ⟨rfl, HB.out _⟩
end Go.Proofs.Ytgfbihdnjidodaa

namespace Go.Proofs.Ytgfbihdnjidodaa
open Go.RowKit Go.Shelf Go.Proofs.Gr
attribute [local go_sem] Oper.semAt_some
attribute [local go_sem] run_store_func run_store_nilFunc

theorem chkF_zero {n : Nat} {L : List Int} (h : chkF n L = 0) : L.length = n ∧ ∀ x, x ∈ L → 1 ≤ x ∧ x ≤ 50 := by
  unfold chkF at h
  by_cases h1 : L.length ≠ n
  · rw [if_pos h1] at h; omega
  rw [if_neg h1] at h
  by_cases h2 : L.any (fun x => decide (x < 1)) = true
  · rw [if_pos h2] at h; omega
  rw [if_neg h2] at h
  by_cases h3 : L.any (fun x => decide (50 < x)) = true
  · rw [if_pos h3] at h; omega
  refine ⟨by omega, fun x hx => ⟨?_, ?_⟩⟩
  · have : ¬ x < 1 := fun hh => h2 (List.any_eq_true.2 ⟨x, hx, by simpa using hh⟩)
    omega
  · have : ¬ 50 < x := fun hh => h3 (List.any_eq_true.2 ⟨x, hx, by simpa using hh⟩)
    omega
theorem chkF_at {n : Nat} {L : List Int} (h : chkF n L = 0) (i : Nat) (hi : i < n) : i < L.length ∧ 1 ≤ iAt L i ∧ iAt L i ≤ 50 ∧ iAt L i = ((iAt L i).toNat : Nat) ∧ (iAt L i).toNat ≤ 50 := by
  obtain ⟨h1, h2⟩ := chkF_zero h
  have hl : i < L.length := by omega
  have := h2 _ (List.getElem_mem hl)
  rw [iAt_get L i hl] at this
  exact ⟨hl, by omega, by omega, by omega, by omega⟩
theorem pdraw_0 (B : Nat) (a : Option Addr) (cap : Nat) (L : List Int) (hc : chkF 1 L = 0) (s0 : Value) (w : World) (hl : IsAt w a L) (hA : Awy a B s0) (hD : DrAt B 0 [] s0 w) :
    Calls Try.prog 53 #[.pointer (some ⟨B, 0, none⟩), .slice a L.length cap] w (Drew w B 0 [] s0 (seqS 0 L)) := by
  have c0 := chkF_at hc 0 (by omega)
  exact ppath_any B 0 (by omega) [] (by simp) a cap L (iAt L 0).toNat (by have := c0.1; omega) c0.2.2.2.1 c0.2.2.2.2 s0 w hl hA hD
theorem pdraw_1 (B : Nat) (a : Option Addr) (cap : Nat) (L : List Int) (hc : chkF 1 L = 0) (s0 : Value) (w : World) (hl : IsAt w a L) (hA : Awy a B s0) (hD : DrAt B 0 [] s0 w) :
    Calls Try.prog 55 #[.pointer (some ⟨B, 0, none⟩), .slice a L.length cap] w (Drew w B 0 [] s0 (seqS 1 L)) := by
  have c0 := chkF_at hc 0 (by omega)
  exact pcycle_any B 0 (by omega) [] (by simp) a cap L (iAt L 0).toNat (by have := c0.1; omega) c0.2.2.2.1 c0.2.2.2.2 s0 w hl hA hD
theorem pdraw_2 (B : Nat) (a : Option Addr) (cap : Nat) (L : List Int) (hc : chkF 1 L = 0) (s0 : Value) (w : World) (hl : IsAt w a L) (hA : Awy a B s0) (hD : DrAt B 0 [] s0 w) :
    Calls Try.prog 57 #[.pointer (some ⟨B, 0, none⟩), .slice a L.length cap] w (Drew w B 0 [] s0 (seqS 2 L)) := by
  have c0 := chkF_at hc 0 (by omega)
  exact pstar_any B 0 (by omega) [] (by simp) a cap L (iAt L 0).toNat (by have := c0.1; omega) c0.2.2.2.1 c0.2.2.2.2 s0 w hl hA hD
theorem pdraw_3 (B : Nat) (a : Option Addr) (cap : Nat) (L : List Int) (hc : chkF 1 L = 0) (s0 : Value) (w : World) (hl : IsAt w a L) (hA : Awy a B s0) (hD : DrAt B 0 [] s0 w) :
    Calls Try.prog 58 #[.pointer (some ⟨B, 0, none⟩), .slice a L.length cap] w (Drew w B 0 [] s0 (seqS 3 L)) := by
  have c0 := chkF_at hc 0 (by omega)
  exact pcomplete_any B 0 (by omega) [] (by simp) a cap L (iAt L 0).toNat (by have := c0.1; omega) c0.2.2.2.1 c0.2.2.2.2 s0 w hl hA hD
theorem pdraw_4 (B : Nat) (a : Option Addr) (cap : Nat) (L : List Int) (hc : chkF 1 L = 0) (s0 : Value) (w : World) (hl : IsAt w a L) (hA : Awy a B s0) (hD : DrAt B 0 [] s0 w) :
    Calls Try.prog 60 #[.pointer (some ⟨B, 0, none⟩), .slice a L.length cap] w (Drew w B 0 [] s0 (seqS 4 L)) := by
  have c0 := chkF_at hc 0 (by omega)
  exact pbanana_any B 0 (by omega) [] (by simp) a cap L (iAt L 0).toNat (by have := c0.1; omega) c0.2.2.2.1 c0.2.2.2.2 s0 w hl hA hD
theorem pdraw_5 (B : Nat) (a : Option Addr) (cap : Nat) (L : List Int) (hc : chkF 1 L = 0) (s0 : Value) (w : World) (hl : IsAt w a L) (hA : Awy a B s0) (hD : DrAt B 0 [] s0 w) :
    Calls Try.prog 61 #[.pointer (some ⟨B, 0, none⟩), .slice a L.length cap] w (Drew w B 0 [] s0 (seqS 5 L)) := by
  have c0 := chkF_at hc 0 (by omega)
  exact pwheel_any B 0 (by omega) [] (by simp) a cap L (iAt L 0).toNat (by have := c0.1; omega) c0.2.2.2.1 c0.2.2.2.2 s0 w hl hA hD
theorem pdraw_6 (B : Nat) (a : Option Addr) (cap : Nat) (L : List Int) (hc : chkF 2 L = 0) (s0 : Value) (w : World) (hl : IsAt w a L) (hA : Awy a B s0) (hD : DrAt B 0 [] s0 w) :
    Calls Try.prog 63 #[.pointer (some ⟨B, 0, none⟩), .slice a L.length cap] w (Drew w B 0 [] s0 (seqS 6 L)) := by
  have c0 := chkF_at hc 0 (by omega)
  have c1 := chkF_at hc 1 (by omega)
  exact pbipartite_any B 0 (by omega) [] (by simp) a cap L (iAt L 0).toNat (iAt L 1).toNat (by have := c1.1; omega) c0.2.2.2.1 c0.2.2.2.2 c1.2.2.2.1 c1.2.2.2.2 s0 w hl hA hD
theorem pdraw_7 (B : Nat) (a : Option Addr) (cap : Nat) (L : List Int) (hc : chkF 2 L = 0) (s0 : Value) (w : World) (hl : IsAt w a L) (hA : Awy a B s0) (hD : DrAt B 0 [] s0 w) :
    Calls Try.prog 65 #[.pointer (some ⟨B, 0, none⟩), .slice a L.length cap] w (Drew w B 0 [] s0 (seqS 7 L)) := by
  have c0 := chkF_at hc 0 (by omega)
  have c1 := chkF_at hc 1 (by omega)
  exact pgrid_any B 0 (by omega) [] (by simp) a cap L (iAt L 0).toNat (iAt L 1).toNat (by have := c1.1; omega) c0.2.2.2.1 c0.2.2.2.2 c1.2.2.2.1 c1.2.2.2.2 s0 w hl hA hD
theorem pdraw_8 (B : Nat) (a : Option Addr) (cap : Nat) (L : List Int) (hc : chkF 3 L = 0) (s0 : Value) (w : World) (hl : IsAt w a L) (hA : Awy a B s0) (hD : DrAt B 0 [] s0 w) :
    Calls Try.prog 66 #[.pointer (some ⟨B, 0, none⟩), .slice a L.length cap] w (Drew w B 0 [] s0 (seqS 8 L)) := by
  have hz := (chkF_zero hc).1
  exact ptheta_any B 0 (by omega) [] (by simp) a cap L hz (fun j hj => by have c := chkF_at hc j (by omega); exact ⟨c.2.1, c.2.2.1⟩) s0 w hl hA hD
end Go.Proofs.Ytgfbihdnjidodaa

namespace Go.Proofs.Ytgfbihdnjidodaa
open Go.RowKit Go.Shelf Go.Proofs.Gr
attribute [local go_sem] Oper.semAt_some
attribute [local go_sem] run_store_func run_store_nilFunc
set_option maxHeartbeats 12800000 in
set_option maxRecDepth 100000 in
theorem pof_0 (w : World) : Calls Try.prog 28 #[.int .i64 0] w (fun e x => e = .returned (.tuple #[.agg #[.int .i64 1, (.func (.func 53) #[] #[]), (.func (.func 54) #[] #[])], .int .i64 0]) ∧ Below w.heap.size w x) := by
  obtain ⟨C, hC⟩ : ∃ C : Array Value, C = #[.int .i64 1, (.func (.func 53) #[] #[]), (.func (.func 54) #[] #[]), .int .i64 1, (.func (.func 55) #[] #[]), (.func (.func 56) #[] #[]), .int .i64 1, (.func (.func 57) #[] #[]), (.func (.func 54) #[] #[]), .int .i64 1, (.func (.func 58) #[] #[]), (.func (.func 59) #[] #[]), .int .i64 1, (.func (.func 60) #[] #[]), (.func (.func 56) #[] #[]), .int .i64 1, (.func (.func 61) #[] #[]), (.func (.func 62) #[] #[]), .int .i64 2, (.func (.func 63) #[] #[]), (.func (.func 64) #[] #[]), .int .i64 2, (.func (.func 65) #[] #[]), Value.nilFunc, .int .i64 3, (.func (.func 66) #[] #[]), (.func (.func 67) #[] #[])] := ⟨_, rfl⟩
  have HF := Lib.hid (fun w => pfamilies_any w)
  rw [← hC] at HF
  have HCS : Hid (C.size = 27) := Lib.hid (by rw [hC]; rfl)
  have HC1 : Hid (C.all (·.oneCell') = true) := Lib.hid (by rw [hC]; kernel_rfl)
  have HCA : Hid (C[0]? = some (.int .i64 1) ∧ C[1]? = some (.func (.func 53) #[] #[]) ∧ C[2]? = some (.func (.func 54) #[] #[])) := Lib.hid (by rw [hC]; exact ⟨rfl, rfl, rfl⟩)
  clear hC
  obtain ⟨W, hW⟩ : ∃ W, W = w.alloc (Obj.cells #[.int .i64 0, Value.nilFunc, Value.nilFunc] 60) := ⟨_, rfl⟩
  have HB0 : Hid (Below w.heap.size w W) := Lib.hid (by rw [hW]; exact (Below.refl _ w).alloc (Nat.le_refl _) _)
  have HG : Hid (Blk W w.heap.size 60 #[.int .i64 0, Value.nilFunc, Value.nilFunc]) := Lib.hid (by rw [hW]; exact Blk.new _ _ _)
  have HW := Lib.hid hW
  clear hW
  go_enter Try.func28, Try.ntmps28
  go_wp2_with fail
  rw [← HW.out]
  refine (HF.out _).mono ?_
  rintro e x1 ⟨rfl, hb⟩
  have hBY : Blk (x1.alloc (Obj.cells C 74)) x1.heap.size 74 C := Blk.new _ _ _
  have hbY : Below W.heap.size W (x1.alloc (Obj.cells C 74)) := hb.alloc hb.size _
  have hGY := HG.out.below hbY HG.out.lt
  have y0 : (x1.alloc (Obj.cells C 74)).cell? ⟨x1.heap.size, 0, none⟩ = some (.int .i64 1) := (hBY.cell _).trans HCA.out.1
  have y1 : (x1.alloc (Obj.cells C 74)).cell? ⟨x1.heap.size, 1, none⟩ = some (.func (.func 53) #[] #[]) := (hBY.cell _).trans HCA.out.2.1
  have y2 : (x1.alloc (Obj.cells C 74)).cell? ⟨x1.heap.size, 2, none⟩ = some (.func (.func 54) #[] #[]) := (hBY.cell _).trans HCA.out.2.2
  have hS1 := hGY.set_ 0 (.int .i64 1)
  have hS2 := hS1.set_ 1 (.func (.func 53) #[] #[])
  have hS3 := hS2.set_ 2 (.func (.func 54) #[] #[])
  have z0 := hGY.cell 0
  have z1 := hGY.frozen 0
  have z2 := hS1.cell 1
  have z3 := hS1.frozen 1
  have z4 := hS2.cell 2
  have z5 := hS2.frozen 2
  have r0 := hS3.cell 0
  have r1 := hS3.cell 1
  have r2 := hS3.cell 2
  simp only [List.getElem?_toArray, List.setIfInBounds_toArray, List.set_cons_zero, List.set_cons_succ, List.getElem?_cons_zero, List.getElem?_cons_succ] at z0 z2 z4 r0 r1 r2
  have HEND := Lib.hid (((((HB0.out.trans (hbY.mono HB0.out.size)).setCell (p := ⟨w.heap.size, 0, none⟩) (Nat.le_refl _) (.int .i64 1)).setCell (p := ⟨w.heap.size, 1, none⟩) (Nat.le_refl _) (.func (.func 53) #[] #[])).setCell (p := ⟨w.heap.size, 2, none⟩) (Nat.le_refl _) (.func (.func 54) #[] #[])))
  clear hBY hbY hGY hS1 hS2 hS3 hb
  go_wp2_with (refine wpList_store_new rfl 74 _ _ rfl rfl #[.int .i64 0, Value.nilFunc, Value.nilFunc, .int .i64 0, Value.nilFunc, Value.nilFunc, .int .i64 0, Value.nilFunc, Value.nilFunc, .int .i64 0, Value.nilFunc, Value.nilFunc, .int .i64 0, Value.nilFunc, Value.nilFunc, .int .i64 0, Value.nilFunc, Value.nilFunc, .int .i64 0, Value.nilFunc, Value.nilFunc, .int .i64 0, Value.nilFunc, Value.nilFunc, .int .i64 0, Value.nilFunc, Value.nilFunc] C rfl rfl (by rw [HCS.out]; kernel_rfl) (by rw [HCS.out]; rfl) HC1.out ?_)
  refine bodyPost_ret (v := .tuple #[.agg #[.int .i64 1, (.func (.func 53) #[] #[]), (.func (.func 54) #[] #[])], .int .i64 0]) (by simp [results, Try.results28, go_sem, r0, r1, r2]) rfl ?_
  exact ⟨rfl, HEND.out⟩
set_option maxHeartbeats 12800000 in
set_option maxRecDepth 100000 in
theorem pof_1 (w : World) : Calls Try.prog 28 #[.int .i64 1] w (fun e x => e = .returned (.tuple #[.agg #[.int .i64 1, (.func (.func 55) #[] #[]), (.func (.func 56) #[] #[])], .int .i64 0]) ∧ Below w.heap.size w x) := by
  obtain ⟨C, hC⟩ : ∃ C : Array Value, C = #[.int .i64 1, (.func (.func 53) #[] #[]), (.func (.func 54) #[] #[]), .int .i64 1, (.func (.func 55) #[] #[]), (.func (.func 56) #[] #[]), .int .i64 1, (.func (.func 57) #[] #[]), (.func (.func 54) #[] #[]), .int .i64 1, (.func (.func 58) #[] #[]), (.func (.func 59) #[] #[]), .int .i64 1, (.func (.func 60) #[] #[]), (.func (.func 56) #[] #[]), .int .i64 1, (.func (.func 61) #[] #[]), (.func (.func 62) #[] #[]), .int .i64 2, (.func (.func 63) #[] #[]), (.func (.func 64) #[] #[]), .int .i64 2, (.func (.func 65) #[] #[]), Value.nilFunc, .int .i64 3, (.func (.func 66) #[] #[]), (.func (.func 67) #[] #[])] := ⟨_, rfl⟩
  have HF := Lib.hid (fun w => pfamilies_any w)
  rw [← hC] at HF
  have HCS : Hid (C.size = 27) := Lib.hid (by rw [hC]; rfl)
  have HC1 : Hid (C.all (·.oneCell') = true) := Lib.hid (by rw [hC]; kernel_rfl)
  have HCA : Hid (C[3]? = some (.int .i64 1) ∧ C[4]? = some (.func (.func 55) #[] #[]) ∧ C[5]? = some (.func (.func 56) #[] #[])) := Lib.hid (by rw [hC]; exact ⟨rfl, rfl, rfl⟩)
  clear hC
  obtain ⟨W, hW⟩ : ∃ W, W = w.alloc (Obj.cells #[.int .i64 0, Value.nilFunc, Value.nilFunc] 60) := ⟨_, rfl⟩
  have HB0 : Hid (Below w.heap.size w W) := Lib.hid (by rw [hW]; exact (Below.refl _ w).alloc (Nat.le_refl _) _)
  have HG : Hid (Blk W w.heap.size 60 #[.int .i64 0, Value.nilFunc, Value.nilFunc]) := Lib.hid (by rw [hW]; exact Blk.new _ _ _)
  have HW := Lib.hid hW
  clear hW
  go_enter Try.func28, Try.ntmps28
  go_wp2_with fail
  rw [← HW.out]
  refine (HF.out _).mono ?_
  rintro e x1 ⟨rfl, hb⟩
  have hBY : Blk (x1.alloc (Obj.cells C 74)) x1.heap.size 74 C := Blk.new _ _ _
  have hbY : Below W.heap.size W (x1.alloc (Obj.cells C 74)) := hb.alloc hb.size _
  have hGY := HG.out.below hbY HG.out.lt
  have y0 : (x1.alloc (Obj.cells C 74)).cell? ⟨x1.heap.size, 3, none⟩ = some (.int .i64 1) := (hBY.cell _).trans HCA.out.1
  have y1 : (x1.alloc (Obj.cells C 74)).cell? ⟨x1.heap.size, 4, none⟩ = some (.func (.func 55) #[] #[]) := (hBY.cell _).trans HCA.out.2.1
  have y2 : (x1.alloc (Obj.cells C 74)).cell? ⟨x1.heap.size, 5, none⟩ = some (.func (.func 56) #[] #[]) := (hBY.cell _).trans HCA.out.2.2
  have hS1 := hGY.set_ 0 (.int .i64 1)
  have hS2 := hS1.set_ 1 (.func (.func 55) #[] #[])
  have hS3 := hS2.set_ 2 (.func (.func 56) #[] #[])
  have z0 := hGY.cell 0
  have z1 := hGY.frozen 0
  have z2 := hS1.cell 1
  have z3 := hS1.frozen 1
  have z4 := hS2.cell 2
  have z5 := hS2.frozen 2
  have r0 := hS3.cell 0
  have r1 := hS3.cell 1
  have r2 := hS3.cell 2
  simp only [List.getElem?_toArray, List.setIfInBounds_toArray, List.set_cons_zero, List.set_cons_succ, List.getElem?_cons_zero, List.getElem?_cons_succ] at z0 z2 z4 r0 r1 r2
  have HEND := Lib.hid (((((HB0.out.trans (hbY.mono HB0.out.size)).setCell (p := ⟨w.heap.size, 0, none⟩) (Nat.le_refl _) (.int .i64 1)).setCell (p := ⟨w.heap.size, 1, none⟩) (Nat.le_refl _) (.func (.func 55) #[] #[])).setCell (p := ⟨w.heap.size, 2, none⟩) (Nat.le_refl _) (.func (.func 56) #[] #[])))
  clear hBY hbY hGY hS1 hS2 hS3 hb
  go_wp2_with (refine wpList_store_new rfl 74 _ _ rfl rfl #[.int .i64 0, Value.nilFunc, Value.nilFunc, .int .i64 0, Value.nilFunc, Value.nilFunc, .int .i64 0, Value.nilFunc, Value.nilFunc, .int .i64 0, Value.nilFunc, Value.nilFunc, .int .i64 0, Value.nilFunc, Value.nilFunc, .int .i64 0, Value.nilFunc, Value.nilFunc, .int .i64 0, Value.nilFunc, Value.nilFunc, .int .i64 0, Value.nilFunc, Value.nilFunc, .int .i64 0, Value.nilFunc, Value.nilFunc] C rfl rfl (by rw [HCS.out]; kernel_rfl) (by rw [HCS.out]; rfl) HC1.out ?_)
  refine bodyPost_ret (v := .tuple #[.agg #[.int .i64 1, (.func (.func 55) #[] #[]), (.func (.func 56) #[] #[])], .int .i64 0]) (by simp [results, Try.results28, go_sem, r0, r1, r2]) rfl ?_
  exact ⟨rfl, HEND.out⟩
set_option maxHeartbeats 12800000 in
set_option maxRecDepth 100000 in
theorem pof_2 (w : World) : Calls Try.prog 28 #[.int .i64 2] w (fun e x => e = .returned (.tuple #[.agg #[.int .i64 1, (.func (.func 57) #[] #[]), (.func (.func 54) #[] #[])], .int .i64 0]) ∧ Below w.heap.size w x) := by
  obtain ⟨C, hC⟩ : ∃ C : Array Value, C = #[.int .i64 1, (.func (.func 53) #[] #[]), (.func (.func 54) #[] #[]), .int .i64 1, (.func (.func 55) #[] #[]), (.func (.func 56) #[] #[]), .int .i64 1, (.func (.func 57) #[] #[]), (.func (.func 54) #[] #[]), .int .i64 1, (.func (.func 58) #[] #[]), (.func (.func 59) #[] #[]), .int .i64 1, (.func (.func 60) #[] #[]), (.func (.func 56) #[] #[]), .int .i64 1, (.func (.func 61) #[] #[]), (.func (.func 62) #[] #[]), .int .i64 2, (.func (.func 63) #[] #[]), (.func (.func 64) #[] #[]), .int .i64 2, (.func (.func 65) #[] #[]), Value.nilFunc, .int .i64 3, (.func (.func 66) #[] #[]), (.func (.func 67) #[] #[])] := ⟨_, rfl⟩
  have HF := Lib.hid (fun w => pfamilies_any w)
  rw [← hC] at HF
  have HCS : Hid (C.size = 27) := Lib.hid (by rw [hC]; rfl)
  have HC1 : Hid (C.all (·.oneCell') = true) := Lib.hid (by rw [hC]; kernel_rfl)
  have HCA : Hid (C[6]? = some (.int .i64 1) ∧ C[7]? = some (.func (.func 57) #[] #[]) ∧ C[8]? = some (.func (.func 54) #[] #[])) := Lib.hid (by rw [hC]; exact ⟨rfl, rfl, rfl⟩)
  clear hC
  obtain ⟨W, hW⟩ : ∃ W, W = w.alloc (Obj.cells #[.int .i64 0, Value.nilFunc, Value.nilFunc] 60) := ⟨_, rfl⟩
  have HB0 : Hid (Below w.heap.size w W) := Lib.hid (by rw [hW]; exact (Below.refl _ w).alloc (Nat.le_refl _) _)
  have HG : Hid (Blk W w.heap.size 60 #[.int .i64 0, Value.nilFunc, Value.nilFunc]) := Lib.hid (by rw [hW]; exact Blk.new _ _ _)
  have HW := Lib.hid hW
  clear hW
  go_enter Try.func28, Try.ntmps28
  go_wp2_with fail
  rw [← HW.out]
  refine (HF.out _).mono ?_
  rintro e x1 ⟨rfl, hb⟩
  have hBY : Blk (x1.alloc (Obj.cells C 74)) x1.heap.size 74 C := Blk.new _ _ _
  have hbY : Below W.heap.size W (x1.alloc (Obj.cells C 74)) := hb.alloc hb.size _
  have hGY := HG.out.below hbY HG.out.lt
  have y0 : (x1.alloc (Obj.cells C 74)).cell? ⟨x1.heap.size, 6, none⟩ = some (.int .i64 1) := (hBY.cell _).trans HCA.out.1
  have y1 : (x1.alloc (Obj.cells C 74)).cell? ⟨x1.heap.size, 7, none⟩ = some (.func (.func 57) #[] #[]) := (hBY.cell _).trans HCA.out.2.1
  have y2 : (x1.alloc (Obj.cells C 74)).cell? ⟨x1.heap.size, 8, none⟩ = some (.func (.func 54) #[] #[]) := (hBY.cell _).trans HCA.out.2.2
  have hS1 := hGY.set_ 0 (.int .i64 1)
  have hS2 := hS1.set_ 1 (.func (.func 57) #[] #[])
  have hS3 := hS2.set_ 2 (.func (.func 54) #[] #[])
  have z0 := hGY.cell 0
  have z1 := hGY.frozen 0
  have z2 := hS1.cell 1
  have z3 := hS1.frozen 1
  have z4 := hS2.cell 2
  have z5 := hS2.frozen 2
  have r0 := hS3.cell 0
  have r1 := hS3.cell 1
  have r2 := hS3.cell 2
  simp only [List.getElem?_toArray, List.setIfInBounds_toArray, List.set_cons_zero, List.set_cons_succ, List.getElem?_cons_zero, List.getElem?_cons_succ] at z0 z2 z4 r0 r1 r2
  have HEND := Lib.hid (((((HB0.out.trans (hbY.mono HB0.out.size)).setCell (p := ⟨w.heap.size, 0, none⟩) (Nat.le_refl _) (.int .i64 1)).setCell (p := ⟨w.heap.size, 1, none⟩) (Nat.le_refl _) (.func (.func 57) #[] #[])).setCell (p := ⟨w.heap.size, 2, none⟩) (Nat.le_refl _) (.func (.func 54) #[] #[])))
  clear hBY hbY hGY hS1 hS2 hS3 hb
  go_wp2_with (refine wpList_store_new rfl 74 _ _ rfl rfl #[.int .i64 0, Value.nilFunc, Value.nilFunc, .int .i64 0, Value.nilFunc, Value.nilFunc, .int .i64 0, Value.nilFunc, Value.nilFunc, .int .i64 0, Value.nilFunc, Value.nilFunc, .int .i64 0, Value.nilFunc, Value.nilFunc, .int .i64 0, Value.nilFunc, Value.nilFunc, .int .i64 0, Value.nilFunc, Value.nilFunc, .int .i64 0, Value.nilFunc, Value.nilFunc, .int .i64 0, Value.nilFunc, Value.nilFunc] C rfl rfl (by rw [HCS.out]; kernel_rfl) (by rw [HCS.out]; rfl) HC1.out ?_)
  refine bodyPost_ret (v := .tuple #[.agg #[.int .i64 1, (.func (.func 57) #[] #[]), (.func (.func 54) #[] #[])], .int .i64 0]) (by simp [results, Try.results28, go_sem, r0, r1, r2]) rfl ?_
  exact ⟨rfl, HEND.out⟩
end Go.Proofs.Ytgfbihdnjidodaa

namespace Go.Proofs.Ytgfbihdnjidodaa
open Go.RowKit Go.Shelf Go.Proofs.Gr
attribute [local go_sem] Oper.semAt_some
attribute [local go_sem] run_store_func run_store_nilFunc

set_option maxHeartbeats 12800000 in
set_option maxRecDepth 100000 in
theorem pgraph_err_0 (a : Option Addr) (cap : Nat) (L : List Int) (hL : L.length ≤ 1000000) (hk : chkF 1 L ≠ 0) (w : World) (h : IsAt w a L) :
    Calls Try.prog 29 #[.agg #[.int .i64 1, (.func (.func 53) #[] #[]), (.func (.func 54) #[] #[])], .slice a L.length cap] w (GivesGE w 0 [] (chkF 1 L)) := by
  have HC := Lib.hid (fun w h => pcheckF_any 1 (.func (.func 53) #[] #[]) (.func (.func 54) #[] #[]) a cap L hL w h)
  generalize chkF 1 L = k at *
  have q0 : (((k : Nat) : Int) != 0) = true := by rw [bne_iff_ne]; omega
  unfold GivesGE gv at *
  obtain ⟨W, hW⟩ : ∃ W, W = (w.alloc (Obj.cells #[.int .i64 1, (.func (.func 53) #[] #[]), (.func (.func 54) #[] #[])] 60)).alloc (Obj.cells #[.int .i64 0, .slice none 0 0] 31) := ⟨_, rfl⟩
  have hB0 : Below w.heap.size w W := by rw [hW]; exact ((Below.refl _ w).alloc (Nat.le_refl _) _).alloc (by simp) _
  have hG : Blk W w.heap.size 60 #[.int .i64 1, (.func (.func 53) #[] #[]), (.func (.func 54) #[] #[])] := by rw [hW]; exact (Blk.new _ _ _).alloc _
  have hWs : W.heap.size = w.heap.size + 2 := by rw [hW]; simp
  have hR : Blk W (w.heap.size + 1) 31 #[.int .i64 0, .slice none 0 0] := by
    rw [hW]
    have := Blk.new (w.alloc (Obj.cells #[.int .i64 1, (.func (.func 53) #[] #[]), (.func (.func 54) #[] #[])] 60)) 31 #[.int .i64 0, .slice none 0 0]
    rwa [World.size_alloc] at this
  have HR1 := Lib.hid hR
  have HW := Lib.hid hW
  have HWS := Lib.hid hWs
  have HB0 := Lib.hid hB0
  have HE := Lib.hid (h.keep hB0)
  have HF : Hid (∀ u, Below W.heap.size W u → u.cell? ⟨w.heap.size, 0, none⟩ = some (.int .i64 1) ∧ u.cell? ⟨w.heap.size, 1, none⟩ = some (.func (.func 53) #[] #[]) ∧ u.cell? ⟨w.heap.size, 2, none⟩ = some (.func (.func 54) #[] #[])) := Lib.hid fun u hu => ⟨(hG.below hu hG.lt).cell 0, (hG.below hu hG.lt).cell 1, (hG.below hu hG.lt).cell 2⟩
  obtain ⟨g0, g1, g2⟩ := HF.out W (Below.refl _ _)
  clear hB0 hG hW hWs h hR
  go_enter Try.func29, Try.ntmps29
  go_wp2_with fail
  rw [← HW.out]
  refine (HC.out _ HE.out).mono ?_
  rintro e x1 ⟨rfl, hb⟩
  clear g0 g1 g2
  obtain ⟨g0, g1, g2⟩ := HF.out x1 hb
  have hRr : Blk x1 (w.heap.size + 1) 31 #[.int .i64 0, .slice none 0 0] := HR1.out.below hb HR1.out.lt
  have r1 : x1.cell? ⟨w.heap.size + 1, 0, none⟩ = some (.int .i64 0) := hRr.cell 0
  have r3 : x1.frozen? ⟨w.heap.size + 1, 0, none⟩ = false := hRr.frozen 0
  have r2 : x1.cell? ⟨w.heap.size + 1, 1, none⟩ = some (.slice none 0 0) := hRr.cell 1
  have r4 : x1.frozen? ⟨w.heap.size + 1, 1, none⟩ = false := hRr.frozen 1
  have r7 : (x1.setCell ⟨w.heap.size + 1, 0, none⟩ (.int .i64 0)).cell? ⟨w.heap.size + 1, 1, none⟩ = some (.slice none 0 0) := (hRr.set_ 0 (.int .i64 0)).cell 1
  have r8 : (x1.setCell ⟨w.heap.size + 1, 0, none⟩ (.int .i64 0)).frozen? ⟨w.heap.size + 1, 1, none⟩ = false := (hRr.set_ 0 (.int .i64 0)).frozen 1
  have HEND := Lib.hid (HB0.out.trans (hb.mono HB0.out.size))
  have HEND2 := Lib.hid ((HEND.out.setCell (p := ⟨w.heap.size + 1, 0, none⟩) (by show w.heap.size ≤ w.heap.size + 1; omega) (.int .i64 0)).setCell (p := ⟨w.heap.size + 1, 1, none⟩) (by show w.heap.size ≤ w.heap.size + 1; omega) (.slice none 0 0))
  have r5 : ((x1.setCell ⟨w.heap.size + 1, 0, none⟩ (.int .i64 0)).setCell ⟨w.heap.size + 1, 1, none⟩ (.slice none 0 0)).cell? ⟨w.heap.size + 1, 0, none⟩ = some (.int .i64 0) := ((hRr.set_ 0 (.int .i64 0)).set_ 1 (.slice none 0 0)).cell 0
  have r6 : ((x1.setCell ⟨w.heap.size + 1, 0, none⟩ (.int .i64 0)).setCell ⟨w.heap.size + 1, 1, none⟩ (.slice none 0 0)).cell? ⟨w.heap.size + 1, 1, none⟩ = some (.slice none 0 0) := ((hRr.set_ 0 (.int .i64 0)).set_ 1 (.slice none 0 0)).cell 1
  clear hRr hb
  go_wp2
  refine bodyPost_ret (v := .tuple #[.agg #[.int .i64 0, .slice none 0 0], .int .i64 (k : Nat)]) (by simp [results, Try.results29, go_sem, r5, r6]) rfl ?_
  exact ⟨none, 0, rfl, RowAt.nil _ _ _ _, World.ownsRow_nil _ _ _ _, by first | exact HEND2.out | exact HEND.out⟩
set_option maxHeartbeats 12800000 in
set_option maxRecDepth 100000 in
theorem pgraph_many_0 (a : Option Addr) (cap : Nat) (L : List Int) (hL : L.length ≤ 1000000) (hc : chkF 1 L = 0) (hm : 12 < seqV 0 (seqS 0 L)) (w : World) (h : IsAt w a L) :
    Calls Try.prog 29 #[.agg #[.int .i64 1, (.func (.func 53) #[] #[]), (.func (.func 54) #[] #[])], .slice a L.length cap] w (GivesGE w 0 [] 5) := by
  have HC := Lib.hid (fun w h => pcheckF_any 1 (.func (.func 53) #[] #[]) (.func (.func 54) #[] #[]) a cap L hL w h)
  rw [hc] at HC
  have HL0 : Hid (0 < L.length) := Lib.hid (by have := (chkF_zero hc).1; omega)
  have HDW := Lib.hid (fun B s0 w hl hA hD => pdraw_0 B a cap L hc s0 w hl hA hD)
  unfold Drew at HDW
  generalize seqV 0 (seqS 0 L) = VV at *
  generalize seqP (seqS 0 L) = PP at *
  clear hc
  unfold GivesGE gv at *
  obtain ⟨W, hW⟩ : ∃ W, W = (w.alloc (Obj.cells #[.int .i64 1, (.func (.func 53) #[] #[]), (.func (.func 54) #[] #[])] 60)).alloc (Obj.cells #[.int .i64 0, .slice none 0 0] 31) := ⟨_, rfl⟩
  have hB0 : Below w.heap.size w W := by rw [hW]; exact ((Below.refl _ w).alloc (Nat.le_refl _) _).alloc (by simp) _
  have hG : Blk W w.heap.size 60 #[.int .i64 1, (.func (.func 53) #[] #[]), (.func (.func 54) #[] #[])] := by rw [hW]; exact (Blk.new _ _ _).alloc _
  have hWs : W.heap.size = w.heap.size + 2 := by rw [hW]; simp
  have hR : Blk W (w.heap.size + 1) 31 #[.int .i64 0, .slice none 0 0] := by
    rw [hW]
    have := Blk.new (w.alloc (Obj.cells #[.int .i64 1, (.func (.func 53) #[] #[]), (.func (.func 54) #[] #[])] 60)) 31 #[.int .i64 0, .slice none 0 0]
    rwa [World.size_alloc] at this
  have HR1 := Lib.hid hR
  have HW := Lib.hid hW
  have HWS := Lib.hid hWs
  have HB0 := Lib.hid hB0
  have HE := Lib.hid (h.keep hB0)
  have HF : Hid (∀ u, Below W.heap.size W u → u.cell? ⟨w.heap.size, 0, none⟩ = some (.int .i64 1) ∧ u.cell? ⟨w.heap.size, 1, none⟩ = some (.func (.func 53) #[] #[]) ∧ u.cell? ⟨w.heap.size, 2, none⟩ = some (.func (.func 54) #[] #[])) := Lib.hid fun u hu => ⟨(hG.below hu hG.lt).cell 0, (hG.below hu hG.lt).cell 1, (hG.below hu hG.lt).cell 2⟩
  obtain ⟨g0, g1, g2⟩ := HF.out W (Below.refl _ _)
  clear hB0 hG hW hWs h hR
  go_enter Try.func29, Try.ntmps29
  go_wp2_with fail
  rw [← HW.out]
  refine (HC.out _ HE.out).mono ?_
  rintro e x1 ⟨rfl, hb⟩
  clear g0 g1 g2
  obtain ⟨g0, g1, g2⟩ := HF.out x1 hb
  have HEx := Lib.hid (HE.out.keep hb)
  obtain ⟨V, hV⟩ : ∃ V, V = x1.alloc (Obj.cells #[.int .i64 0, .slice none 0 0] 78) := ⟨_, rfl⟩
  have hDV : DrAt x1.heap.size 0 [] (.slice none 0 0) V := by rw [hV]; exact ⟨Blk.new _ _ _, World.ownsRow_nil _ _ _ _⟩
  have hbV : Below x1.heap.size x1 V := by rw [hV]; exact (Below.refl _ _).alloc (Nat.le_refl _) _
  have hAV : Awy a x1.heap.size (.slice none 0 0) := fun p hp => ⟨by
    obtain ⟨b', o', e1, e2, -⟩ := HEx.out 0 HL0.out
    rw [hp] at e1; injection e1 with e1; rw [e1]; show b' ≠ _; omega, fun h => by cases h⟩
  have HDR := Lib.hid (HDW.out x1.heap.size (.slice none 0 0) V (HEx.out.keep hbV) hAV hDV)
  have hbW : Below W.heap.size W V := hb.trans (hbV.mono hb.size)
  have HBV := Lib.hid hbW
  have HX1 := Lib.hid hb.size
  obtain ⟨B, hB⟩ : ∃ B, B = x1.heap.size := ⟨_, rfl⟩
  rw [← hB] at HDR
  have HBB := Lib.hid hB
  clear g0 g1 g2
  have g0 : (x1.alloc (Obj.cells #[.int .i64 0, .slice none 0 0] 78)).cell? ⟨w.heap.size, 0, none⟩ = some (.int .i64 1) := by rw [← hV]; exact (HF.out V hbW).1
  have g1 : (x1.alloc (Obj.cells #[.int .i64 0, .slice none 0 0] 78)).cell? ⟨w.heap.size, 1, none⟩ = some (.func (.func 53) #[] #[]) := by rw [← hV]; exact (HF.out V hbW).2.1
  have HV := Lib.hid hV
  clear hDV hbV hAV hbW hb hV hB
  go_wp2_with fail
  rw [← HV.out, ← HBB.out]
  refine HDR.out.mono ?_
  rintro e x2 ⟨rfl, s2, hd2, hs2⟩
  rw [List.nil_append] at hd2
  have hk2 : Below W.heap.size W x2 := HBV.out.trans (hs2.below.mono (by rw [HBB.out]; exact HX1.out))
  clear g0 g1
  have v0 : x2.cell? ⟨B, 0, none⟩ = some (.int .i64 VV) := hd2.1.cell 0
  clear hd2 hs2
  have hRr : Blk x2 (w.heap.size + 1) 31 #[.int .i64 0, .slice none 0 0] := HR1.out.below hk2 HR1.out.lt
  have r1 : x2.cell? ⟨w.heap.size + 1, 0, none⟩ = some (.int .i64 0) := hRr.cell 0
  have r3 : x2.frozen? ⟨w.heap.size + 1, 0, none⟩ = false := hRr.frozen 0
  have r2 : x2.cell? ⟨w.heap.size + 1, 1, none⟩ = some (.slice none 0 0) := hRr.cell 1
  have r4 : x2.frozen? ⟨w.heap.size + 1, 1, none⟩ = false := hRr.frozen 1
  have r7 : (x2.setCell ⟨w.heap.size + 1, 0, none⟩ (.int .i64 0)).cell? ⟨w.heap.size + 1, 1, none⟩ = some (.slice none 0 0) := (hRr.set_ 0 (.int .i64 0)).cell 1
  have r8 : (x2.setCell ⟨w.heap.size + 1, 0, none⟩ (.int .i64 0)).frozen? ⟨w.heap.size + 1, 1, none⟩ = false := (hRr.set_ 0 (.int .i64 0)).frozen 1
  have HEND := Lib.hid (HB0.out.trans (hk2.mono HB0.out.size))
  have HEND2 := Lib.hid ((HEND.out.setCell (p := ⟨w.heap.size + 1, 0, none⟩) (by show w.heap.size ≤ w.heap.size + 1; omega) (.int .i64 0)).setCell (p := ⟨w.heap.size + 1, 1, none⟩) (by show w.heap.size ≤ w.heap.size + 1; omega) (.slice none 0 0))
  have r5 : ((x2.setCell ⟨w.heap.size + 1, 0, none⟩ (.int .i64 0)).setCell ⟨w.heap.size + 1, 1, none⟩ (.slice none 0 0)).cell? ⟨w.heap.size + 1, 0, none⟩ = some (.int .i64 0) := ((hRr.set_ 0 (.int .i64 0)).set_ 1 (.slice none 0 0)).cell 0
  have r6 : ((x2.setCell ⟨w.heap.size + 1, 0, none⟩ (.int .i64 0)).setCell ⟨w.heap.size + 1, 1, none⟩ (.slice none 0 0)).cell? ⟨w.heap.size + 1, 1, none⟩ = some (.slice none 0 0) := ((hRr.set_ 0 (.int .i64 0)).set_ 1 (.slice none 0 0)).cell 1
  clear hRr hk2
  go_wp2
  refine bodyPost_ret (v := .tuple #[.agg #[.int .i64 0, .slice none 0 0], .int .i64 5]) (by simp [results, Try.results29, go_sem, r5, r6]) rfl ?_
  exact ⟨none, 0, rfl, RowAt.nil _ _ _ _, World.ownsRow_nil _ _ _ _, by first | exact HEND2.out | exact HEND.out⟩
set_option maxHeartbeats 12800000 in
set_option maxRecDepth 100000 in
theorem pgraph_ok_0 (a : Option Addr) (cap : Nat) (L : List Int) (hL : L.length ≤ 1000000) (hc : chkF 1 L = 0) (hm : seqV 0 (seqS 0 L) ≤ 12) (m : Int) (J : List E) (k : Nat) (hM : Makes (seqV 0 (seqS 0 L)) (seqP (seqS 0 L)) m J k) (w : World) (h : IsAt w a L) :
    Calls Try.prog 29 #[.agg #[.int .i64 1, (.func (.func 53) #[] #[]), (.func (.func 54) #[] #[])], .slice a L.length cap] w (GivesGE w m J k) := by
  have HC := Lib.hid (fun w h => pcheckF_any 1 (.func (.func 53) #[] #[]) (.func (.func 54) #[] #[]) a cap L hL w h)
  rw [hc] at HC
  have HL0 : Hid (0 < L.length) := Lib.hid (by have := (chkF_zero hc).1; omega)
  have HDW := Lib.hid (fun B s0 w hl hA hD => pdraw_0 B a cap L hc s0 w hl hA hD)
  unfold Drew at HDW
  obtain ⟨hJl, hM, -⟩ := hM
  have HM := Lib.hid hM
  generalize seqV 0 (seqS 0 L) = VV at *
  generalize seqP (seqS 0 L) = PP at *
  clear hc hM
  unfold GivesGE gv at *
  obtain ⟨W, hW⟩ : ∃ W, W = (w.alloc (Obj.cells #[.int .i64 1, (.func (.func 53) #[] #[]), (.func (.func 54) #[] #[])] 60)).alloc (Obj.cells #[.int .i64 0, .slice none 0 0] 31) := ⟨_, rfl⟩
  have hB0 : Below w.heap.size w W := by rw [hW]; exact ((Below.refl _ w).alloc (Nat.le_refl _) _).alloc (by simp) _
  have hG : Blk W w.heap.size 60 #[.int .i64 1, (.func (.func 53) #[] #[]), (.func (.func 54) #[] #[])] := by rw [hW]; exact (Blk.new _ _ _).alloc _
  have hWs : W.heap.size = w.heap.size + 2 := by rw [hW]; simp
  have hR : Blk W (w.heap.size + 1) 31 #[.int .i64 0, .slice none 0 0] := by
    rw [hW]
    have := Blk.new (w.alloc (Obj.cells #[.int .i64 1, (.func (.func 53) #[] #[]), (.func (.func 54) #[] #[])] 60)) 31 #[.int .i64 0, .slice none 0 0]
    rwa [World.size_alloc] at this
  have HR1 := Lib.hid hR
  have HW := Lib.hid hW
  have HWS := Lib.hid hWs
  have HB0 := Lib.hid hB0
  have HE := Lib.hid (h.keep hB0)
  have HF : Hid (∀ u, Below W.heap.size W u → u.cell? ⟨w.heap.size, 0, none⟩ = some (.int .i64 1) ∧ u.cell? ⟨w.heap.size, 1, none⟩ = some (.func (.func 53) #[] #[]) ∧ u.cell? ⟨w.heap.size, 2, none⟩ = some (.func (.func 54) #[] #[])) := Lib.hid fun u hu => ⟨(hG.below hu hG.lt).cell 0, (hG.below hu hG.lt).cell 1, (hG.below hu hG.lt).cell 2⟩
  obtain ⟨g0, g1, g2⟩ := HF.out W (Below.refl _ _)
  clear hB0 hG hW hWs h hR
  go_enter Try.func29, Try.ntmps29
  go_wp2_with fail
  rw [← HW.out]
  refine (HC.out _ HE.out).mono ?_
  rintro e x1 ⟨rfl, hb⟩
  clear g0 g1 g2
  obtain ⟨g0, g1, g2⟩ := HF.out x1 hb
  have HEx := Lib.hid (HE.out.keep hb)
  obtain ⟨V, hV⟩ : ∃ V, V = x1.alloc (Obj.cells #[.int .i64 0, .slice none 0 0] 78) := ⟨_, rfl⟩
  have hDV : DrAt x1.heap.size 0 [] (.slice none 0 0) V := by rw [hV]; exact ⟨Blk.new _ _ _, World.ownsRow_nil _ _ _ _⟩
  have hbV : Below x1.heap.size x1 V := by rw [hV]; exact (Below.refl _ _).alloc (Nat.le_refl _) _
  have hAV : Awy a x1.heap.size (.slice none 0 0) := fun p hp => ⟨by
    obtain ⟨b', o', e1, e2, -⟩ := HEx.out 0 HL0.out
    rw [hp] at e1; injection e1 with e1; rw [e1]; show b' ≠ _; omega, fun h => by cases h⟩
  have HDR := Lib.hid (HDW.out x1.heap.size (.slice none 0 0) V (HEx.out.keep hbV) hAV hDV)
  have hbW : Below W.heap.size W V := hb.trans (hbV.mono hb.size)
  have HBV := Lib.hid hbW
  have HX1 := Lib.hid hb.size
  obtain ⟨B, hB⟩ : ∃ B, B = x1.heap.size := ⟨_, rfl⟩
  rw [← hB] at HDR
  have HBB := Lib.hid hB
  clear g0 g1 g2
  have g0 : (x1.alloc (Obj.cells #[.int .i64 0, .slice none 0 0] 78)).cell? ⟨w.heap.size, 0, none⟩ = some (.int .i64 1) := by rw [← hV]; exact (HF.out V hbW).1
  have g1 : (x1.alloc (Obj.cells #[.int .i64 0, .slice none 0 0] 78)).cell? ⟨w.heap.size, 1, none⟩ = some (.func (.func 53) #[] #[]) := by rw [← hV]; exact (HF.out V hbW).2.1
  have HV := Lib.hid hV
  clear hDV hbV hAV hbW hb hV hB
  go_wp2_with fail
  rw [← HV.out, ← HBB.out]
  refine HDR.out.mono ?_
  rintro e x2 ⟨rfl, s2, hd2, hs2⟩
  rw [List.nil_append] at hd2
  have hk2 : Below W.heap.size W x2 := HBV.out.trans (hs2.below.mono (by rw [HBB.out]; exact HX1.out))
  clear g0 g1
  have v0 : x2.cell? ⟨B, 0, none⟩ = some (.int .i64 VV) := hd2.1.cell 0
  obtain ⟨sa, sc, rfl, hps⟩ := RowAt.of_own encP_len hd2.2
  have v1 : x2.cell? ⟨B, 1, none⟩ = some (.slice sa PP.length sc) := hd2.1.cell 1
  clear hd2 hs2
  go_wp2_with fail
  refine (HM.out _ _ _ hps).mono ?_
  rintro r x5 ⟨a2, c2, rfl, -, he2, hb5⟩
  have hj5 : Below W.heap.size W x5 := hk2.trans (hb5.mono hk2.size)
  clear hps hb5 v0 v1
  have hRr : Blk x5 (w.heap.size + 1) 31 #[.int .i64 0, .slice none 0 0] := HR1.out.below hj5 HR1.out.lt
  have hkB : w.heap.size + 1 < x2.heap.size := by have := hk2.size; have := HWS.out; omega
  have HOWN := Lib.hid ((ownsRow_setCell_below (ownsRow_setCell_below he2 (a := ⟨w.heap.size + 1, 0, none⟩) hkB (.int .i64 m)) (a := ⟨w.heap.size + 1, 1, none⟩) hkB (.slice a2 J.length c2)).mono (base' := w.heap.size) (by omega))
  obtain ⟨r1, r3, r2, r4, r5, r6, hes, hbf⟩ := tail_facts x5 x2.heap.size (w.heap.size + 1) w.heap.size m J a2 c2 he2 hkB hRr
  have HES := Lib.hid hes
  have HBF := Lib.hid (hbf w (HB0.out.trans (hj5.mono HB0.out.size)) (by omega))
  clear hRr hes hbf hkB
  clear he2 hj5 hk2
  go_wp2
  refine bodyPost_ret (v := .tuple #[.agg #[.int .i64 m, .slice a2 J.length c2], .int .i64 ((k : Nat) : Int)]) (by simp [results, Try.results29, go_sem, r5, r6]) rfl ?_
  exact ⟨a2, c2, rfl, HES.out, HOWN.out, HBF.out⟩
set_option maxHeartbeats 12800000 in
set_option maxRecDepth 100000 in
theorem pmakeK_0 (a : Option Addr) (cap : Nat) (L : List Int) (m : Int) (J : List E) (k : Nat) (hM : ∀ w, IsAt w a L → Calls Try.prog 29 #[.agg #[.int .i64 1, (.func (.func 53) #[] #[]), (.func (.func 54) #[] #[])], .slice a L.length cap] w (GivesGE w m J k)) (w : World) (h : IsAt w a L) :
    Calls Try.prog 12 #[.int .i64 0, .slice a L.length cap] w (GivesGE w m J k) := by
  have HM := Lib.hid hM
  have HO := Lib.hid (fun w => pof_0 w)
  clear hM
  unfold GivesGE gv at *
  obtain ⟨W, hW⟩ : ∃ W, W = w.alloc (Obj.cells #[.int .i64 0, .slice none 0 0] 31) := ⟨_, rfl⟩
  have HB0 : Hid (Below w.heap.size w W) := Lib.hid (by rw [hW]; exact (Below.refl _ w).alloc (Nat.le_refl _) _)
  have HR1 : Hid (Blk W w.heap.size 31 #[.int .i64 0, .slice none 0 0]) := Lib.hid (by rw [hW]; exact Blk.new _ _ _)
  have HWS : Hid (W.heap.size = w.heap.size + 1) := Lib.hid (by rw [hW]; simp)
  have HE := Lib.hid (h.keep HB0.out)
  have HW := Lib.hid hW
  clear hW h
  go_enter Try.func12, Try.ntmps12
  go_wp2_with fail
  rw [← HW.out]
  refine (HO.out _).mono ?_
  rintro e x1 ⟨rfl, hb⟩
  obtain ⟨Y, hY⟩ : ∃ Y, Y = x1.alloc (Obj.cells #[.int .i64 1, (.func (.func 53) #[] #[]), (.func (.func 54) #[] #[])] 60) := ⟨_, rfl⟩
  have HBY : Hid (Below W.heap.size W Y) := Lib.hid (by rw [hY]; exact hb.alloc hb.size _)
  have HEY := Lib.hid (HE.out.keep HBY.out)
  have HY := Lib.hid hY
  clear hY hb
  go_wp2_with fail
  rw [← HY.out]
  refine (HM.out _ HEY.out).mono ?_
  rintro r x5 ⟨a2, c2, rfl, -, he2, hb5⟩
  have hj5 : Below W.heap.size W x5 := HBY.out.trans (hb5.mono HBY.out.size)
  clear hb5
  have hRr : Blk x5 (w.heap.size) 31 #[.int .i64 0, .slice none 0 0] := HR1.out.below hj5 HR1.out.lt
  have hkB : w.heap.size < Y.heap.size := by have := HBY.out.size; have := HWS.out; omega
  have HOWN := Lib.hid ((ownsRow_setCell_below (ownsRow_setCell_below he2 (a := ⟨w.heap.size, 0, none⟩) hkB (.int .i64 m)) (a := ⟨w.heap.size, 1, none⟩) hkB (.slice a2 J.length c2)).mono (base' := w.heap.size) (by omega))
  obtain ⟨r1, r3, r2, r4, r5, r6, hes, hbf⟩ := tail_facts x5 Y.heap.size (w.heap.size) w.heap.size m J a2 c2 he2 hkB hRr
  have HES := Lib.hid hes
  have HBF := Lib.hid (hbf w (HB0.out.trans (hj5.mono HB0.out.size)) (by omega))
  clear hRr hes hbf hkB
  clear he2 hj5
  go_wp2
  refine bodyPost_ret (v := .tuple #[.agg #[.int .i64 m, .slice a2 J.length c2], .int .i64 ((k : Nat) : Int)]) (by simp [results, Try.results12, go_sem, r5, r6]) rfl ?_
  exact ⟨a2, c2, rfl, HES.out, HOWN.out, HBF.out⟩
set_option maxHeartbeats 12800000 in
set_option maxRecDepth 100000 in
theorem psizes_0 (w : World) : Calls Try.prog 10 #[.int .i64 0] w (fun e x => e = .returned (.tuple #[.int .i64 1, .int .i64 0]) ∧ Below w.heap.size w x) := by
  have HO := Lib.hid (fun w => pof_0 w)
  go_enter Try.func10, Try.ntmps10
  go_wp2_with fail
  refine (HO.out _).mono ?_
  rintro e x1 ⟨rfl, hb⟩
  have HB := Lib.hid (hb.alloc hb.size (Obj.cells #[.int .i64 1, (.func (.func 53) #[] #[]), (.func (.func 54) #[] #[])] 60))
  clear hb
  go_wp2
  go_ret2
  exact ⟨rfl, HB.out⟩
set_option maxHeartbeats 12800000 in
set_option maxRecDepth 100000 in
theorem pgraph_err_1 (a : Option Addr) (cap : Nat) (L : List Int) (hL : L.length ≤ 1000000) (hk : chkF 1 L ≠ 0) (w : World) (h : IsAt w a L) :
    Calls Try.prog 29 #[.agg #[.int .i64 1, (.func (.func 55) #[] #[]), (.func (.func 56) #[] #[])], .slice a L.length cap] w (GivesGE w 0 [] (chkF 1 L)) := by
  have HC := Lib.hid (fun w h => pcheckF_any 1 (.func (.func 55) #[] #[]) (.func (.func 56) #[] #[]) a cap L hL w h)
  generalize chkF 1 L = k at *
  have q0 : (((k : Nat) : Int) != 0) = true := by rw [bne_iff_ne]; omega
  unfold GivesGE gv at *
  obtain ⟨W, hW⟩ : ∃ W, W = (w.alloc (Obj.cells #[.int .i64 1, (.func (.func 55) #[] #[]), (.func (.func 56) #[] #[])] 60)).alloc (Obj.cells #[.int .i64 0, .slice none 0 0] 31) := ⟨_, rfl⟩
  have hB0 : Below w.heap.size w W := by rw [hW]; exact ((Below.refl _ w).alloc (Nat.le_refl _) _).alloc (by simp) _
  have hG : Blk W w.heap.size 60 #[.int .i64 1, (.func (.func 55) #[] #[]), (.func (.func 56) #[] #[])] := by rw [hW]; exact (Blk.new _ _ _).alloc _
  have hWs : W.heap.size = w.heap.size + 2 := by rw [hW]; simp
  have hR : Blk W (w.heap.size + 1) 31 #[.int .i64 0, .slice none 0 0] := by
    rw [hW]
    have := Blk.new (w.alloc (Obj.cells #[.int .i64 1, (.func (.func 55) #[] #[]), (.func (.func 56) #[] #[])] 60)) 31 #[.int .i64 0, .slice none 0 0]
    rwa [World.size_alloc] at this
  have HR1 := Lib.hid hR
  have HW := Lib.hid hW
  have HWS := Lib.hid hWs
  have HB0 := Lib.hid hB0
  have HE := Lib.hid (h.keep hB0)
  have HF : Hid (∀ u, Below W.heap.size W u → u.cell? ⟨w.heap.size, 0, none⟩ = some (.int .i64 1) ∧ u.cell? ⟨w.heap.size, 1, none⟩ = some (.func (.func 55) #[] #[]) ∧ u.cell? ⟨w.heap.size, 2, none⟩ = some (.func (.func 56) #[] #[])) := Lib.hid fun u hu => ⟨(hG.below hu hG.lt).cell 0, (hG.below hu hG.lt).cell 1, (hG.below hu hG.lt).cell 2⟩
  obtain ⟨g0, g1, g2⟩ := HF.out W (Below.refl _ _)
  clear hB0 hG hW hWs h hR
  go_enter Try.func29, Try.ntmps29
  go_wp2_with fail
  rw [← HW.out]
  refine (HC.out _ HE.out).mono ?_
  rintro e x1 ⟨rfl, hb⟩
  clear g0 g1 g2
  obtain ⟨g0, g1, g2⟩ := HF.out x1 hb
  have hRr : Blk x1 (w.heap.size + 1) 31 #[.int .i64 0, .slice none 0 0] := HR1.out.below hb HR1.out.lt
  have r1 : x1.cell? ⟨w.heap.size + 1, 0, none⟩ = some (.int .i64 0) := hRr.cell 0
  have r3 : x1.frozen? ⟨w.heap.size + 1, 0, none⟩ = false := hRr.frozen 0
  have r2 : x1.cell? ⟨w.heap.size + 1, 1, none⟩ = some (.slice none 0 0) := hRr.cell 1
  have r4 : x1.frozen? ⟨w.heap.size + 1, 1, none⟩ = false := hRr.frozen 1
  have r7 : (x1.setCell ⟨w.heap.size + 1, 0, none⟩ (.int .i64 0)).cell? ⟨w.heap.size + 1, 1, none⟩ = some (.slice none 0 0) := (hRr.set_ 0 (.int .i64 0)).cell 1
  have r8 : (x1.setCell ⟨w.heap.size + 1, 0, none⟩ (.int .i64 0)).frozen? ⟨w.heap.size + 1, 1, none⟩ = false := (hRr.set_ 0 (.int .i64 0)).frozen 1
  have HEND := Lib.hid (HB0.out.trans (hb.mono HB0.out.size))
  have HEND2 := Lib.hid ((HEND.out.setCell (p := ⟨w.heap.size + 1, 0, none⟩) (by show w.heap.size ≤ w.heap.size + 1; omega) (.int .i64 0)).setCell (p := ⟨w.heap.size + 1, 1, none⟩) (by show w.heap.size ≤ w.heap.size + 1; omega) (.slice none 0 0))
  have r5 : ((x1.setCell ⟨w.heap.size + 1, 0, none⟩ (.int .i64 0)).setCell ⟨w.heap.size + 1, 1, none⟩ (.slice none 0 0)).cell? ⟨w.heap.size + 1, 0, none⟩ = some (.int .i64 0) := ((hRr.set_ 0 (.int .i64 0)).set_ 1 (.slice none 0 0)).cell 0
  have r6 : ((x1.setCell ⟨w.heap.size + 1, 0, none⟩ (.int .i64 0)).setCell ⟨w.heap.size + 1, 1, none⟩ (.slice none 0 0)).cell? ⟨w.heap.size + 1, 1, none⟩ = some (.slice none 0 0) := ((hRr.set_ 0 (.int .i64 0)).set_ 1 (.slice none 0 0)).cell 1
  clear hRr hb
  go_wp2
  refine bodyPost_ret (v := .tuple #[.agg #[.int .i64 0, .slice none 0 0], .int .i64 (k : Nat)]) (by simp [results, Try.results29, go_sem, r5, r6]) rfl ?_
  exact ⟨none, 0, rfl, RowAt.nil _ _ _ _, World.ownsRow_nil _ _ _ _, by first | exact HEND2.out | exact HEND.out⟩
set_option maxHeartbeats 12800000 in
set_option maxRecDepth 100000 in
theorem pgraph_many_1 (a : Option Addr) (cap : Nat) (L : List Int) (hL : L.length ≤ 1000000) (hc : chkF 1 L = 0) (hm : 12 < seqV 0 (seqS 1 L)) (w : World) (h : IsAt w a L) :
    Calls Try.prog 29 #[.agg #[.int .i64 1, (.func (.func 55) #[] #[]), (.func (.func 56) #[] #[])], .slice a L.length cap] w (GivesGE w 0 [] 5) := by
  have HC := Lib.hid (fun w h => pcheckF_any 1 (.func (.func 55) #[] #[]) (.func (.func 56) #[] #[]) a cap L hL w h)
  rw [hc] at HC
  have HL0 : Hid (0 < L.length) := Lib.hid (by have := (chkF_zero hc).1; omega)
  have HDW := Lib.hid (fun B s0 w hl hA hD => pdraw_1 B a cap L hc s0 w hl hA hD)
  unfold Drew at HDW
  generalize seqV 0 (seqS 1 L) = VV at *
  generalize seqP (seqS 1 L) = PP at *
  clear hc
  unfold GivesGE gv at *
  obtain ⟨W, hW⟩ : ∃ W, W = (w.alloc (Obj.cells #[.int .i64 1, (.func (.func 55) #[] #[]), (.func (.func 56) #[] #[])] 60)).alloc (Obj.cells #[.int .i64 0, .slice none 0 0] 31) := ⟨_, rfl⟩
  have hB0 : Below w.heap.size w W := by rw [hW]; exact ((Below.refl _ w).alloc (Nat.le_refl _) _).alloc (by simp) _
  have hG : Blk W w.heap.size 60 #[.int .i64 1, (.func (.func 55) #[] #[]), (.func (.func 56) #[] #[])] := by rw [hW]; exact (Blk.new _ _ _).alloc _
  have hWs : W.heap.size = w.heap.size + 2 := by rw [hW]; simp
  have hR : Blk W (w.heap.size + 1) 31 #[.int .i64 0, .slice none 0 0] := by
    rw [hW]
    have := Blk.new (w.alloc (Obj.cells #[.int .i64 1, (.func (.func 55) #[] #[]), (.func (.func 56) #[] #[])] 60)) 31 #[.int .i64 0, .slice none 0 0]
    rwa [World.size_alloc] at this
  have HR1 := Lib.hid hR
  have HW := Lib.hid hW
  have HWS := Lib.hid hWs
  have HB0 := Lib.hid hB0
  have HE := Lib.hid (h.keep hB0)
  have HF : Hid (∀ u, Below W.heap.size W u → u.cell? ⟨w.heap.size, 0, none⟩ = some (.int .i64 1) ∧ u.cell? ⟨w.heap.size, 1, none⟩ = some (.func (.func 55) #[] #[]) ∧ u.cell? ⟨w.heap.size, 2, none⟩ = some (.func (.func 56) #[] #[])) := Lib.hid fun u hu => ⟨(hG.below hu hG.lt).cell 0, (hG.below hu hG.lt).cell 1, (hG.below hu hG.lt).cell 2⟩
  obtain ⟨g0, g1, g2⟩ := HF.out W (Below.refl _ _)
  clear hB0 hG hW hWs h hR
  go_enter Try.func29, Try.ntmps29
  go_wp2_with fail
  rw [← HW.out]
  refine (HC.out _ HE.out).mono ?_
  rintro e x1 ⟨rfl, hb⟩
  clear g0 g1 g2
  obtain ⟨g0, g1, g2⟩ := HF.out x1 hb
  have HEx := Lib.hid (HE.out.keep hb)
  obtain ⟨V, hV⟩ : ∃ V, V = x1.alloc (Obj.cells #[.int .i64 0, .slice none 0 0] 78) := ⟨_, rfl⟩
  have hDV : DrAt x1.heap.size 0 [] (.slice none 0 0) V := by rw [hV]; exact ⟨Blk.new _ _ _, World.ownsRow_nil _ _ _ _⟩
  have hbV : Below x1.heap.size x1 V := by rw [hV]; exact (Below.refl _ _).alloc (Nat.le_refl _) _
  have hAV : Awy a x1.heap.size (.slice none 0 0) := fun p hp => ⟨by
    obtain ⟨b', o', e1, e2, -⟩ := HEx.out 0 HL0.out
    rw [hp] at e1; injection e1 with e1; rw [e1]; show b' ≠ _; omega, fun h => by cases h⟩
  have HDR := Lib.hid (HDW.out x1.heap.size (.slice none 0 0) V (HEx.out.keep hbV) hAV hDV)
  have hbW : Below W.heap.size W V := hb.trans (hbV.mono hb.size)
  have HBV := Lib.hid hbW
  have HX1 := Lib.hid hb.size
  obtain ⟨B, hB⟩ : ∃ B, B = x1.heap.size := ⟨_, rfl⟩
  rw [← hB] at HDR
  have HBB := Lib.hid hB
  clear g0 g1 g2
  have g0 : (x1.alloc (Obj.cells #[.int .i64 0, .slice none 0 0] 78)).cell? ⟨w.heap.size, 0, none⟩ = some (.int .i64 1) := by rw [← hV]; exact (HF.out V hbW).1
  have g1 : (x1.alloc (Obj.cells #[.int .i64 0, .slice none 0 0] 78)).cell? ⟨w.heap.size, 1, none⟩ = some (.func (.func 55) #[] #[]) := by rw [← hV]; exact (HF.out V hbW).2.1
  have HV := Lib.hid hV
  clear hDV hbV hAV hbW hb hV hB
  go_wp2_with fail
  rw [← HV.out, ← HBB.out]
  refine HDR.out.mono ?_
  rintro e x2 ⟨rfl, s2, hd2, hs2⟩
  rw [List.nil_append] at hd2
  have hk2 : Below W.heap.size W x2 := HBV.out.trans (hs2.below.mono (by rw [HBB.out]; exact HX1.out))
  clear g0 g1
  have v0 : x2.cell? ⟨B, 0, none⟩ = some (.int .i64 VV) := hd2.1.cell 0
  clear hd2 hs2
  have hRr : Blk x2 (w.heap.size + 1) 31 #[.int .i64 0, .slice none 0 0] := HR1.out.below hk2 HR1.out.lt
  have r1 : x2.cell? ⟨w.heap.size + 1, 0, none⟩ = some (.int .i64 0) := hRr.cell 0
  have r3 : x2.frozen? ⟨w.heap.size + 1, 0, none⟩ = false := hRr.frozen 0
  have r2 : x2.cell? ⟨w.heap.size + 1, 1, none⟩ = some (.slice none 0 0) := hRr.cell 1
  have r4 : x2.frozen? ⟨w.heap.size + 1, 1, none⟩ = false := hRr.frozen 1
  have r7 : (x2.setCell ⟨w.heap.size + 1, 0, none⟩ (.int .i64 0)).cell? ⟨w.heap.size + 1, 1, none⟩ = some (.slice none 0 0) := (hRr.set_ 0 (.int .i64 0)).cell 1
  have r8 : (x2.setCell ⟨w.heap.size + 1, 0, none⟩ (.int .i64 0)).frozen? ⟨w.heap.size + 1, 1, none⟩ = false := (hRr.set_ 0 (.int .i64 0)).frozen 1
  have HEND := Lib.hid (HB0.out.trans (hk2.mono HB0.out.size))
  have HEND2 := Lib.hid ((HEND.out.setCell (p := ⟨w.heap.size + 1, 0, none⟩) (by show w.heap.size ≤ w.heap.size + 1; omega) (.int .i64 0)).setCell (p := ⟨w.heap.size + 1, 1, none⟩) (by show w.heap.size ≤ w.heap.size + 1; omega) (.slice none 0 0))
  have r5 : ((x2.setCell ⟨w.heap.size + 1, 0, none⟩ (.int .i64 0)).setCell ⟨w.heap.size + 1, 1, none⟩ (.slice none 0 0)).cell? ⟨w.heap.size + 1, 0, none⟩ = some (.int .i64 0) := ((hRr.set_ 0 (.int .i64 0)).set_ 1 (.slice none 0 0)).cell 0
  have r6 : ((x2.setCell ⟨w.heap.size + 1, 0, none⟩ (.int .i64 0)).setCell ⟨w.heap.size + 1, 1, none⟩ (.slice none 0 0)).cell? ⟨w.heap.size + 1, 1, none⟩ = some (.slice none 0 0) := ((hRr.set_ 0 (.int .i64 0)).set_ 1 (.slice none 0 0)).cell 1
  clear hRr hk2
  go_wp2
  refine bodyPost_ret (v := .tuple #[.agg #[.int .i64 0, .slice none 0 0], .int .i64 5]) (by simp [results, Try.results29, go_sem, r5, r6]) rfl ?_
  exact ⟨none, 0, rfl, RowAt.nil _ _ _ _, World.ownsRow_nil _ _ _ _, by first | exact HEND2.out | exact HEND.out⟩
set_option maxHeartbeats 12800000 in
set_option maxRecDepth 100000 in
theorem pgraph_ok_1 (a : Option Addr) (cap : Nat) (L : List Int) (hL : L.length ≤ 1000000) (hc : chkF 1 L = 0) (hm : seqV 0 (seqS 1 L) ≤ 12) (m : Int) (J : List E) (k : Nat) (hM : Makes (seqV 0 (seqS 1 L)) (seqP (seqS 1 L)) m J k) (w : World) (h : IsAt w a L) :
    Calls Try.prog 29 #[.agg #[.int .i64 1, (.func (.func 55) #[] #[]), (.func (.func 56) #[] #[])], .slice a L.length cap] w (GivesGE w m J k) := by
  have HC := Lib.hid (fun w h => pcheckF_any 1 (.func (.func 55) #[] #[]) (.func (.func 56) #[] #[]) a cap L hL w h)
  rw [hc] at HC
  have HL0 : Hid (0 < L.length) := Lib.hid (by have := (chkF_zero hc).1; omega)
  have HDW := Lib.hid (fun B s0 w hl hA hD => pdraw_1 B a cap L hc s0 w hl hA hD)
  unfold Drew at HDW
  obtain ⟨hJl, hM, -⟩ := hM
  have HM := Lib.hid hM
  generalize seqV 0 (seqS 1 L) = VV at *
  generalize seqP (seqS 1 L) = PP at *
  clear hc hM
  unfold GivesGE gv at *
  obtain ⟨W, hW⟩ : ∃ W, W = (w.alloc (Obj.cells #[.int .i64 1, (.func (.func 55) #[] #[]), (.func (.func 56) #[] #[])] 60)).alloc (Obj.cells #[.int .i64 0, .slice none 0 0] 31) := ⟨_, rfl⟩
  have hB0 : Below w.heap.size w W := by rw [hW]; exact ((Below.refl _ w).alloc (Nat.le_refl _) _).alloc (by simp) _
  have hG : Blk W w.heap.size 60 #[.int .i64 1, (.func (.func 55) #[] #[]), (.func (.func 56) #[] #[])] := by rw [hW]; exact (Blk.new _ _ _).alloc _
  have hWs : W.heap.size = w.heap.size + 2 := by rw [hW]; simp
  have hR : Blk W (w.heap.size + 1) 31 #[.int .i64 0, .slice none 0 0] := by
    rw [hW]
    have := Blk.new (w.alloc (Obj.cells #[.int .i64 1, (.func (.func 55) #[] #[]), (.func (.func 56) #[] #[])] 60)) 31 #[.int .i64 0, .slice none 0 0]
    rwa [World.size_alloc] at this
  have HR1 := Lib.hid hR
  have HW := Lib.hid hW
  have HWS := Lib.hid hWs
  have HB0 := Lib.hid hB0
  have HE := Lib.hid (h.keep hB0)
  have HF : Hid (∀ u, Below W.heap.size W u → u.cell? ⟨w.heap.size, 0, none⟩ = some (.int .i64 1) ∧ u.cell? ⟨w.heap.size, 1, none⟩ = some (.func (.func 55) #[] #[]) ∧ u.cell? ⟨w.heap.size, 2, none⟩ = some (.func (.func 56) #[] #[])) := Lib.hid fun u hu => ⟨(hG.below hu hG.lt).cell 0, (hG.below hu hG.lt).cell 1, (hG.below hu hG.lt).cell 2⟩
  obtain ⟨g0, g1, g2⟩ := HF.out W (Below.refl _ _)
  clear hB0 hG hW hWs h hR
  go_enter Try.func29, Try.ntmps29
  go_wp2_with fail
  rw [← HW.out]
  refine (HC.out _ HE.out).mono ?_
  rintro e x1 ⟨rfl, hb⟩
  clear g0 g1 g2
  obtain ⟨g0, g1, g2⟩ := HF.out x1 hb
  have HEx := Lib.hid (HE.out.keep hb)
  obtain ⟨V, hV⟩ : ∃ V, V = x1.alloc (Obj.cells #[.int .i64 0, .slice none 0 0] 78) := ⟨_, rfl⟩
  have hDV : DrAt x1.heap.size 0 [] (.slice none 0 0) V := by rw [hV]; exact ⟨Blk.new _ _ _, World.ownsRow_nil _ _ _ _⟩
  have hbV : Below x1.heap.size x1 V := by rw [hV]; exact (Below.refl _ _).alloc (Nat.le_refl _) _
  have hAV : Awy a x1.heap.size (.slice none 0 0) := fun p hp => ⟨by
    obtain ⟨b', o', e1, e2, -⟩ := HEx.out 0 HL0.out
    rw [hp] at e1; injection e1 with e1; rw [e1]; show b' ≠ _; omega, fun h => by cases h⟩
  have HDR := Lib.hid (HDW.out x1.heap.size (.slice none 0 0) V (HEx.out.keep hbV) hAV hDV)
  have hbW : Below W.heap.size W V := hb.trans (hbV.mono hb.size)
  have HBV := Lib.hid hbW
  have HX1 := Lib.hid hb.size
  obtain ⟨B, hB⟩ : ∃ B, B = x1.heap.size := ⟨_, rfl⟩
  rw [← hB] at HDR
  have HBB := Lib.hid hB
  clear g0 g1 g2
  have g0 : (x1.alloc (Obj.cells #[.int .i64 0, .slice none 0 0] 78)).cell? ⟨w.heap.size, 0, none⟩ = some (.int .i64 1) := by rw [← hV]; exact (HF.out V hbW).1
  have g1 : (x1.alloc (Obj.cells #[.int .i64 0, .slice none 0 0] 78)).cell? ⟨w.heap.size, 1, none⟩ = some (.func (.func 55) #[] #[]) := by rw [← hV]; exact (HF.out V hbW).2.1
  have HV := Lib.hid hV
  clear hDV hbV hAV hbW hb hV hB
  go_wp2_with fail
  rw [← HV.out, ← HBB.out]
  refine HDR.out.mono ?_
  rintro e x2 ⟨rfl, s2, hd2, hs2⟩
  rw [List.nil_append] at hd2
  have hk2 : Below W.heap.size W x2 := HBV.out.trans (hs2.below.mono (by rw [HBB.out]; exact HX1.out))
  clear g0 g1
  have v0 : x2.cell? ⟨B, 0, none⟩ = some (.int .i64 VV) := hd2.1.cell 0
  obtain ⟨sa, sc, rfl, hps⟩ := RowAt.of_own encP_len hd2.2
  have v1 : x2.cell? ⟨B, 1, none⟩ = some (.slice sa PP.length sc) := hd2.1.cell 1
  clear hd2 hs2
  go_wp2_with fail
  refine (HM.out _ _ _ hps).mono ?_
  rintro r x5 ⟨a2, c2, rfl, -, he2, hb5⟩
  have hj5 : Below W.heap.size W x5 := hk2.trans (hb5.mono hk2.size)
  clear hps hb5 v0 v1
  have hRr : Blk x5 (w.heap.size + 1) 31 #[.int .i64 0, .slice none 0 0] := HR1.out.below hj5 HR1.out.lt
  have hkB : w.heap.size + 1 < x2.heap.size := by have := hk2.size; have := HWS.out; omega
  have HOWN := Lib.hid ((ownsRow_setCell_below (ownsRow_setCell_below he2 (a := ⟨w.heap.size + 1, 0, none⟩) hkB (.int .i64 m)) (a := ⟨w.heap.size + 1, 1, none⟩) hkB (.slice a2 J.length c2)).mono (base' := w.heap.size) (by omega))
  obtain ⟨r1, r3, r2, r4, r5, r6, hes, hbf⟩ := tail_facts x5 x2.heap.size (w.heap.size + 1) w.heap.size m J a2 c2 he2 hkB hRr
  have HES := Lib.hid hes
  have HBF := Lib.hid (hbf w (HB0.out.trans (hj5.mono HB0.out.size)) (by omega))
  clear hRr hes hbf hkB
  clear he2 hj5 hk2
  go_wp2
  refine bodyPost_ret (v := .tuple #[.agg #[.int .i64 m, .slice a2 J.length c2], .int .i64 ((k : Nat) : Int)]) (by simp [results, Try.results29, go_sem, r5, r6]) rfl ?_
  exact ⟨a2, c2, rfl, HES.out, HOWN.out, HBF.out⟩
set_option maxHeartbeats 12800000 in
set_option maxRecDepth 100000 in
theorem pmakeK_1 (a : Option Addr) (cap : Nat) (L : List Int) (m : Int) (J : List E) (k : Nat) (hM : ∀ w, IsAt w a L → Calls Try.prog 29 #[.agg #[.int .i64 1, (.func (.func 55) #[] #[]), (.func (.func 56) #[] #[])], .slice a L.length cap] w (GivesGE w m J k)) (w : World) (h : IsAt w a L) :
    Calls Try.prog 12 #[.int .i64 1, .slice a L.length cap] w (GivesGE w m J k) := by
  have HM := Lib.hid hM
  have HO := Lib.hid (fun w => pof_1 w)
  clear hM
  unfold GivesGE gv at *
  obtain ⟨W, hW⟩ : ∃ W, W = w.alloc (Obj.cells #[.int .i64 0, .slice none 0 0] 31) := ⟨_, rfl⟩
  have HB0 : Hid (Below w.heap.size w W) := Lib.hid (by rw [hW]; exact (Below.refl _ w).alloc (Nat.le_refl _) _)
  have HR1 : Hid (Blk W w.heap.size 31 #[.int .i64 0, .slice none 0 0]) := Lib.hid (by rw [hW]; exact Blk.new _ _ _)
  have HWS : Hid (W.heap.size = w.heap.size + 1) := Lib.hid (by rw [hW]; simp)
  have HE := Lib.hid (h.keep HB0.out)
  have HW := Lib.hid hW
  clear hW h
  go_enter Try.func12, Try.ntmps12
  go_wp2_with fail
  rw [← HW.out]
  refine (HO.out _).mono ?_
  rintro e x1 ⟨rfl, hb⟩
  obtain ⟨Y, hY⟩ : ∃ Y, Y = x1.alloc (Obj.cells #[.int .i64 1, (.func (.func 55) #[] #[]), (.func (.func 56) #[] #[])] 60) := ⟨_, rfl⟩
  have HBY : Hid (Below W.heap.size W Y) := Lib.hid (by rw [hY]; exact hb.alloc hb.size _)
  have HEY := Lib.hid (HE.out.keep HBY.out)
  have HY := Lib.hid hY
  clear hY hb
  go_wp2_with fail
  rw [← HY.out]
  refine (HM.out _ HEY.out).mono ?_
  rintro r x5 ⟨a2, c2, rfl, -, he2, hb5⟩
  have hj5 : Below W.heap.size W x5 := HBY.out.trans (hb5.mono HBY.out.size)
  clear hb5
  have hRr : Blk x5 (w.heap.size) 31 #[.int .i64 0, .slice none 0 0] := HR1.out.below hj5 HR1.out.lt
  have hkB : w.heap.size < Y.heap.size := by have := HBY.out.size; have := HWS.out; omega
  have HOWN := Lib.hid ((ownsRow_setCell_below (ownsRow_setCell_below he2 (a := ⟨w.heap.size, 0, none⟩) hkB (.int .i64 m)) (a := ⟨w.heap.size, 1, none⟩) hkB (.slice a2 J.length c2)).mono (base' := w.heap.size) (by omega))
  obtain ⟨r1, r3, r2, r4, r5, r6, hes, hbf⟩ := tail_facts x5 Y.heap.size (w.heap.size) w.heap.size m J a2 c2 he2 hkB hRr
  have HES := Lib.hid hes
  have HBF := Lib.hid (hbf w (HB0.out.trans (hj5.mono HB0.out.size)) (by omega))
  clear hRr hes hbf hkB
  clear he2 hj5
  go_wp2
  refine bodyPost_ret (v := .tuple #[.agg #[.int .i64 m, .slice a2 J.length c2], .int .i64 ((k : Nat) : Int)]) (by simp [results, Try.results12, go_sem, r5, r6]) rfl ?_
  exact ⟨a2, c2, rfl, HES.out, HOWN.out, HBF.out⟩
set_option maxHeartbeats 12800000 in
set_option maxRecDepth 100000 in
theorem psizes_1 (w : World) : Calls Try.prog 10 #[.int .i64 1] w (fun e x => e = .returned (.tuple #[.int .i64 1, .int .i64 0]) ∧ Below w.heap.size w x) := by
  have HO := Lib.hid (fun w => pof_1 w)
  go_enter Try.func10, Try.ntmps10
  go_wp2_with fail
  refine (HO.out _).mono ?_
  rintro e x1 ⟨rfl, hb⟩
  have HB := Lib.hid (hb.alloc hb.size (Obj.cells #[.int .i64 1, (.func (.func 55) #[] #[]), (.func (.func 56) #[] #[])] 60))
  clear hb
  go_wp2
  go_ret2
  exact ⟨rfl, HB.out⟩
set_option maxHeartbeats 12800000 in
set_option maxRecDepth 100000 in
theorem pgraph_err_2 (a : Option Addr) (cap : Nat) (L : List Int) (hL : L.length ≤ 1000000) (hk : chkF 1 L ≠ 0) (w : World) (h : IsAt w a L) :
    Calls Try.prog 29 #[.agg #[.int .i64 1, (.func (.func 57) #[] #[]), (.func (.func 54) #[] #[])], .slice a L.length cap] w (GivesGE w 0 [] (chkF 1 L)) := by
  have HC := Lib.hid (fun w h => pcheckF_any 1 (.func (.func 57) #[] #[]) (.func (.func 54) #[] #[]) a cap L hL w h)
  generalize chkF 1 L = k at *
  have q0 : (((k : Nat) : Int) != 0) = true := by rw [bne_iff_ne]; omega
  unfold GivesGE gv at *
  obtain ⟨W, hW⟩ : ∃ W, W = (w.alloc (Obj.cells #[.int .i64 1, (.func (.func 57) #[] #[]), (.func (.func 54) #[] #[])] 60)).alloc (Obj.cells #[.int .i64 0, .slice none 0 0] 31) := ⟨_, rfl⟩
  have hB0 : Below w.heap.size w W := by rw [hW]; exact ((Below.refl _ w).alloc (Nat.le_refl _) _).alloc (by simp) _
  have hG : Blk W w.heap.size 60 #[.int .i64 1, (.func (.func 57) #[] #[]), (.func (.func 54) #[] #[])] := by rw [hW]; exact (Blk.new _ _ _).alloc _
  have hWs : W.heap.size = w.heap.size + 2 := by rw [hW]; simp
  have hR : Blk W (w.heap.size + 1) 31 #[.int .i64 0, .slice none 0 0] := by
    rw [hW]
    have := Blk.new (w.alloc (Obj.cells #[.int .i64 1, (.func (.func 57) #[] #[]), (.func (.func 54) #[] #[])] 60)) 31 #[.int .i64 0, .slice none 0 0]
    rwa [World.size_alloc] at this
  have HR1 := Lib.hid hR
  have HW := Lib.hid hW
  have HWS := Lib.hid hWs
  have HB0 := Lib.hid hB0
  have HE := Lib.hid (h.keep hB0)
  have HF : Hid (∀ u, Below W.heap.size W u → u.cell? ⟨w.heap.size, 0, none⟩ = some (.int .i64 1) ∧ u.cell? ⟨w.heap.size, 1, none⟩ = some (.func (.func 57) #[] #[]) ∧ u.cell? ⟨w.heap.size, 2, none⟩ = some (.func (.func 54) #[] #[])) := Lib.hid fun u hu => ⟨(hG.below hu hG.lt).cell 0, (hG.below hu hG.lt).cell 1, (hG.below hu hG.lt).cell 2⟩
  obtain ⟨g0, g1, g2⟩ := HF.out W (Below.refl _ _)
  clear hB0 hG hW hWs h hR
  go_enter Try.func29, Try.ntmps29
  go_wp2_with fail
  rw [← HW.out]
  refine (HC.out _ HE.out).mono ?_
  rintro e x1 ⟨rfl, hb⟩
  clear g0 g1 g2
  obtain ⟨g0, g1, g2⟩ := HF.out x1 hb
  have hRr : Blk x1 (w.heap.size + 1) 31 #[.int .i64 0, .slice none 0 0] := HR1.out.below hb HR1.out.lt
  have r1 : x1.cell? ⟨w.heap.size + 1, 0, none⟩ = some (.int .i64 0) := hRr.cell 0
  have r3 : x1.frozen? ⟨w.heap.size + 1, 0, none⟩ = false := hRr.frozen 0
  have r2 : x1.cell? ⟨w.heap.size + 1, 1, none⟩ = some (.slice none 0 0) := hRr.cell 1
  have r4 : x1.frozen? ⟨w.heap.size + 1, 1, none⟩ = false := hRr.frozen 1
  have r7 : (x1.setCell ⟨w.heap.size + 1, 0, none⟩ (.int .i64 0)).cell? ⟨w.heap.size + 1, 1, none⟩ = some (.slice none 0 0) := (hRr.set_ 0 (.int .i64 0)).cell 1
  have r8 : (x1.setCell ⟨w.heap.size + 1, 0, none⟩ (.int .i64 0)).frozen? ⟨w.heap.size + 1, 1, none⟩ = false := (hRr.set_ 0 (.int .i64 0)).frozen 1
  have HEND := Lib.hid (HB0.out.trans (hb.mono HB0.out.size))
  have HEND2 := Lib.hid ((HEND.out.setCell (p := ⟨w.heap.size + 1, 0, none⟩) (by show w.heap.size ≤ w.heap.size + 1; omega) (.int .i64 0)).setCell (p := ⟨w.heap.size + 1, 1, none⟩) (by show w.heap.size ≤ w.heap.size + 1; omega) (.slice none 0 0))
  have r5 : ((x1.setCell ⟨w.heap.size + 1, 0, none⟩ (.int .i64 0)).setCell ⟨w.heap.size + 1, 1, none⟩ (.slice none 0 0)).cell? ⟨w.heap.size + 1, 0, none⟩ = some (.int .i64 0) := ((hRr.set_ 0 (.int .i64 0)).set_ 1 (.slice none 0 0)).cell 0
  have r6 : ((x1.setCell ⟨w.heap.size + 1, 0, none⟩ (.int .i64 0)).setCell ⟨w.heap.size + 1, 1, none⟩ (.slice none 0 0)).cell? ⟨w.heap.size + 1, 1, none⟩ = some (.slice none 0 0) := ((hRr.set_ 0 (.int .i64 0)).set_ 1 (.slice none 0 0)).cell 1
  clear hRr hb
  go_wp2
  refine bodyPost_ret (v := .tuple #[.agg #[.int .i64 0, .slice none 0 0], .int .i64 (k : Nat)]) (by simp [results, Try.results29, go_sem, r5, r6]) rfl ?_
  exact ⟨none, 0, rfl, RowAt.nil _ _ _ _, World.ownsRow_nil _ _ _ _, by first | exact HEND2.out | exact HEND.out⟩
set_option maxHeartbeats 12800000 in
set_option maxRecDepth 100000 in
theorem pgraph_many_2 (a : Option Addr) (cap : Nat) (L : List Int) (hL : L.length ≤ 1000000) (hc : chkF 1 L = 0) (hm : 12 < seqV 0 (seqS 2 L)) (w : World) (h : IsAt w a L) :
    Calls Try.prog 29 #[.agg #[.int .i64 1, (.func (.func 57) #[] #[]), (.func (.func 54) #[] #[])], .slice a L.length cap] w (GivesGE w 0 [] 5) := by
  have HC := Lib.hid (fun w h => pcheckF_any 1 (.func (.func 57) #[] #[]) (.func (.func 54) #[] #[]) a cap L hL w h)
  rw [hc] at HC
  have HL0 : Hid (0 < L.length) := Lib.hid (by have := (chkF_zero hc).1; omega)
  have HDW := Lib.hid (fun B s0 w hl hA hD => pdraw_2 B a cap L hc s0 w hl hA hD)
  unfold Drew at HDW
  generalize seqV 0 (seqS 2 L) = VV at *
  generalize seqP (seqS 2 L) = PP at *
  clear hc
  unfold GivesGE gv at *
  obtain ⟨W, hW⟩ : ∃ W, W = (w.alloc (Obj.cells #[.int .i64 1, (.func (.func 57) #[] #[]), (.func (.func 54) #[] #[])] 60)).alloc (Obj.cells #[.int .i64 0, .slice none 0 0] 31) := ⟨_, rfl⟩
  have hB0 : Below w.heap.size w W := by rw [hW]; exact ((Below.refl _ w).alloc (Nat.le_refl _) _).alloc (by simp) _
  have hG : Blk W w.heap.size 60 #[.int .i64 1, (.func (.func 57) #[] #[]), (.func (.func 54) #[] #[])] := by rw [hW]; exact (Blk.new _ _ _).alloc _
  have hWs : W.heap.size = w.heap.size + 2 := by rw [hW]; simp
  have hR : Blk W (w.heap.size + 1) 31 #[.int .i64 0, .slice none 0 0] := by
    rw [hW]
    have := Blk.new (w.alloc (Obj.cells #[.int .i64 1, (.func (.func 57) #[] #[]), (.func (.func 54) #[] #[])] 60)) 31 #[.int .i64 0, .slice none 0 0]
    rwa [World.size_alloc] at this
  have HR1 := Lib.hid hR
  have HW := Lib.hid hW
  have HWS := Lib.hid hWs
  have HB0 := Lib.hid hB0
  have HE := Lib.hid (h.keep hB0)
  have HF : Hid (∀ u, Below W.heap.size W u → u.cell? ⟨w.heap.size, 0, none⟩ = some (.int .i64 1) ∧ u.cell? ⟨w.heap.size, 1, none⟩ = some (.func (.func 57) #[] #[]) ∧ u.cell? ⟨w.heap.size, 2, none⟩ = some (.func (.func 54) #[] #[])) := Lib.hid fun u hu => ⟨(hG.below hu hG.lt).cell 0, (hG.below hu hG.lt).cell 1, (hG.below hu hG.lt).cell 2⟩
  obtain ⟨g0, g1, g2⟩ := HF.out W (Below.refl _ _)
  clear hB0 hG hW hWs h hR
  go_enter Try.func29, Try.ntmps29
  go_wp2_with fail
  rw [← HW.out]
  refine (HC.out _ HE.out).mono ?_
  rintro e x1 ⟨rfl, hb⟩
  clear g0 g1 g2
  obtain ⟨g0, g1, g2⟩ := HF.out x1 hb
  have HEx := Lib.hid (HE.out.keep hb)
  obtain ⟨V, hV⟩ : ∃ V, V = x1.alloc (Obj.cells #[.int .i64 0, .slice none 0 0] 78) := ⟨_, rfl⟩
  have hDV : DrAt x1.heap.size 0 [] (.slice none 0 0) V := by rw [hV]; exact ⟨Blk.new _ _ _, World.ownsRow_nil _ _ _ _⟩
  have hbV : Below x1.heap.size x1 V := by rw [hV]; exact (Below.refl _ _).alloc (Nat.le_refl _) _
  have hAV : Awy a x1.heap.size (.slice none 0 0) := fun p hp => ⟨by
    obtain ⟨b', o', e1, e2, -⟩ := HEx.out 0 HL0.out
    rw [hp] at e1; injection e1 with e1; rw [e1]; show b' ≠ _; omega, fun h => by cases h⟩
  have HDR := Lib.hid (HDW.out x1.heap.size (.slice none 0 0) V (HEx.out.keep hbV) hAV hDV)
  have hbW : Below W.heap.size W V := hb.trans (hbV.mono hb.size)
  have HBV := Lib.hid hbW
  have HX1 := Lib.hid hb.size
  obtain ⟨B, hB⟩ : ∃ B, B = x1.heap.size := ⟨_, rfl⟩
  rw [← hB] at HDR
  have HBB := Lib.hid hB
  clear g0 g1 g2
  have g0 : (x1.alloc (Obj.cells #[.int .i64 0, .slice none 0 0] 78)).cell? ⟨w.heap.size, 0, none⟩ = some (.int .i64 1) := by rw [← hV]; exact (HF.out V hbW).1
  have g1 : (x1.alloc (Obj.cells #[.int .i64 0, .slice none 0 0] 78)).cell? ⟨w.heap.size, 1, none⟩ = some (.func (.func 57) #[] #[]) := by rw [← hV]; exact (HF.out V hbW).2.1
  have HV := Lib.hid hV
  clear hDV hbV hAV hbW hb hV hB
  go_wp2_with fail
  rw [← HV.out, ← HBB.out]
  refine HDR.out.mono ?_
  rintro e x2 ⟨rfl, s2, hd2, hs2⟩
  rw [List.nil_append] at hd2
  have hk2 : Below W.heap.size W x2 := HBV.out.trans (hs2.below.mono (by rw [HBB.out]; exact HX1.out))
  clear g0 g1
  have v0 : x2.cell? ⟨B, 0, none⟩ = some (.int .i64 VV) := hd2.1.cell 0
  clear hd2 hs2
  have hRr : Blk x2 (w.heap.size + 1) 31 #[.int .i64 0, .slice none 0 0] := HR1.out.below hk2 HR1.out.lt
  have r1 : x2.cell? ⟨w.heap.size + 1, 0, none⟩ = some (.int .i64 0) := hRr.cell 0
  have r3 : x2.frozen? ⟨w.heap.size + 1, 0, none⟩ = false := hRr.frozen 0
  have r2 : x2.cell? ⟨w.heap.size + 1, 1, none⟩ = some (.slice none 0 0) := hRr.cell 1
  have r4 : x2.frozen? ⟨w.heap.size + 1, 1, none⟩ = false := hRr.frozen 1
  have r7 : (x2.setCell ⟨w.heap.size + 1, 0, none⟩ (.int .i64 0)).cell? ⟨w.heap.size + 1, 1, none⟩ = some (.slice none 0 0) := (hRr.set_ 0 (.int .i64 0)).cell 1
  have r8 : (x2.setCell ⟨w.heap.size + 1, 0, none⟩ (.int .i64 0)).frozen? ⟨w.heap.size + 1, 1, none⟩ = false := (hRr.set_ 0 (.int .i64 0)).frozen 1
  have HEND := Lib.hid (HB0.out.trans (hk2.mono HB0.out.size))
  have HEND2 := Lib.hid ((HEND.out.setCell (p := ⟨w.heap.size + 1, 0, none⟩) (by show w.heap.size ≤ w.heap.size + 1; omega) (.int .i64 0)).setCell (p := ⟨w.heap.size + 1, 1, none⟩) (by show w.heap.size ≤ w.heap.size + 1; omega) (.slice none 0 0))
  have r5 : ((x2.setCell ⟨w.heap.size + 1, 0, none⟩ (.int .i64 0)).setCell ⟨w.heap.size + 1, 1, none⟩ (.slice none 0 0)).cell? ⟨w.heap.size + 1, 0, none⟩ = some (.int .i64 0) := ((hRr.set_ 0 (.int .i64 0)).set_ 1 (.slice none 0 0)).cell 0
  have r6 : ((x2.setCell ⟨w.heap.size + 1, 0, none⟩ (.int .i64 0)).setCell ⟨w.heap.size + 1, 1, none⟩ (.slice none 0 0)).cell? ⟨w.heap.size + 1, 1, none⟩ = some (.slice none 0 0) := ((hRr.set_ 0 (.int .i64 0)).set_ 1 (.slice none 0 0)).cell 1
  clear hRr hk2
  go_wp2
  refine bodyPost_ret (v := .tuple #[.agg #[.int .i64 0, .slice none 0 0], .int .i64 5]) (by simp [results, Try.results29, go_sem, r5, r6]) rfl ?_
  exact ⟨none, 0, rfl, RowAt.nil _ _ _ _, World.ownsRow_nil _ _ _ _, by first | exact HEND2.out | exact HEND.out⟩
set_option maxHeartbeats 12800000 in
set_option maxRecDepth 100000 in
theorem pgraph_ok_2 (a : Option Addr) (cap : Nat) (L : List Int) (hL : L.length ≤ 1000000) (hc : chkF 1 L = 0) (hm : seqV 0 (seqS 2 L) ≤ 12) (m : Int) (J : List E) (k : Nat) (hM : Makes (seqV 0 (seqS 2 L)) (seqP (seqS 2 L)) m J k) (w : World) (h : IsAt w a L) :
    Calls Try.prog 29 #[.agg #[.int .i64 1, (.func (.func 57) #[] #[]), (.func (.func 54) #[] #[])], .slice a L.length cap] w (GivesGE w m J k) := by
  have HC := Lib.hid (fun w h => pcheckF_any 1 (.func (.func 57) #[] #[]) (.func (.func 54) #[] #[]) a cap L hL w h)
  rw [hc] at HC
  have HL0 : Hid (0 < L.length) := Lib.hid (by have := (chkF_zero hc).1; omega)
  have HDW := Lib.hid (fun B s0 w hl hA hD => pdraw_2 B a cap L hc s0 w hl hA hD)
  unfold Drew at HDW
  obtain ⟨hJl, hM, -⟩ := hM
  have HM := Lib.hid hM
  generalize seqV 0 (seqS 2 L) = VV at *
  generalize seqP (seqS 2 L) = PP at *
  clear hc hM
  unfold GivesGE gv at *
  obtain ⟨W, hW⟩ : ∃ W, W = (w.alloc (Obj.cells #[.int .i64 1, (.func (.func 57) #[] #[]), (.func (.func 54) #[] #[])] 60)).alloc (Obj.cells #[.int .i64 0, .slice none 0 0] 31) := ⟨_, rfl⟩
  have hB0 : Below w.heap.size w W := by rw [hW]; exact ((Below.refl _ w).alloc (Nat.le_refl _) _).alloc (by simp) _
  have hG : Blk W w.heap.size 60 #[.int .i64 1, (.func (.func 57) #[] #[]), (.func (.func 54) #[] #[])] := by rw [hW]; exact (Blk.new _ _ _).alloc _
  have hWs : W.heap.size = w.heap.size + 2 := by rw [hW]; simp
  have hR : Blk W (w.heap.size + 1) 31 #[.int .i64 0, .slice none 0 0] := by
    rw [hW]
    have := Blk.new (w.alloc (Obj.cells #[.int .i64 1, (.func (.func 57) #[] #[]), (.func (.func 54) #[] #[])] 60)) 31 #[.int .i64 0, .slice none 0 0]
    rwa [World.size_alloc] at this
  have HR1 := Lib.hid hR
  have HW := Lib.hid hW
  have HWS := Lib.hid hWs
  have HB0 := Lib.hid hB0
  have HE := Lib.hid (h.keep hB0)
  have HF : Hid (∀ u, Below W.heap.size W u → u.cell? ⟨w.heap.size, 0, none⟩ = some (.int .i64 1) ∧ u.cell? ⟨w.heap.size, 1, none⟩ = some (.func (.func 57) #[] #[]) ∧ u.cell? ⟨w.heap.size, 2, none⟩ = some (.func (.func 54) #[] #[])) := Lib.hid fun u hu => ⟨(hG.below hu hG.lt).cell 0, (hG.below hu hG.lt).cell 1, (hG.below hu hG.lt).cell 2⟩
  obtain ⟨g0, g1, g2⟩ := HF.out W (Below.refl _ _)
  clear hB0 hG hW hWs h hR
  go_enter Try.func29, Try.ntmps29
  go_wp2_with fail
  rw [← HW.out]
  refine (HC.out _ HE.out).mono ?_
  rintro e x1 ⟨rfl, hb⟩
  clear g0 g1 g2
  obtain ⟨g0, g1, g2⟩ := HF.out x1 hb
  have HEx := Lib.hid (HE.out.keep hb)
  obtain ⟨V, hV⟩ : ∃ V, V = x1.alloc (Obj.cells #[.int .i64 0, .slice none 0 0] 78) := ⟨_, rfl⟩
  have hDV : DrAt x1.heap.size 0 [] (.slice none 0 0) V := by rw [hV]; exact ⟨Blk.new _ _ _, World.ownsRow_nil _ _ _ _⟩
  have hbV : Below x1.heap.size x1 V := by rw [hV]; exact (Below.refl _ _).alloc (Nat.le_refl _) _
  have hAV : Awy a x1.heap.size (.slice none 0 0) := fun p hp => ⟨by
    obtain ⟨b', o', e1, e2, -⟩ := HEx.out 0 HL0.out
    rw [hp] at e1; injection e1 with e1; rw [e1]; show b' ≠ _; omega, fun h => by cases h⟩
  have HDR := Lib.hid (HDW.out x1.heap.size (.slice none 0 0) V (HEx.out.keep hbV) hAV hDV)
  have hbW : Below W.heap.size W V := hb.trans (hbV.mono hb.size)
  have HBV := Lib.hid hbW
  have HX1 := Lib.hid hb.size
  obtain ⟨B, hB⟩ : ∃ B, B = x1.heap.size := ⟨_, rfl⟩
  rw [← hB] at HDR
  have HBB := Lib.hid hB
  clear g0 g1 g2
  have g0 : (x1.alloc (Obj.cells #[.int .i64 0, .slice none 0 0] 78)).cell? ⟨w.heap.size, 0, none⟩ = some (.int .i64 1) := by rw [← hV]; exact (HF.out V hbW).1
  have g1 : (x1.alloc (Obj.cells #[.int .i64 0, .slice none 0 0] 78)).cell? ⟨w.heap.size, 1, none⟩ = some (.func (.func 57) #[] #[]) := by rw [← hV]; exact (HF.out V hbW).2.1
  have HV := Lib.hid hV
  clear hDV hbV hAV hbW hb hV hB
  go_wp2_with fail
  rw [← HV.out, ← HBB.out]
  refine HDR.out.mono ?_
  rintro e x2 ⟨rfl, s2, hd2, hs2⟩
  rw [List.nil_append] at hd2
  have hk2 : Below W.heap.size W x2 := HBV.out.trans (hs2.below.mono (by rw [HBB.out]; exact HX1.out))
  clear g0 g1
  have v0 : x2.cell? ⟨B, 0, none⟩ = some (.int .i64 VV) := hd2.1.cell 0
  obtain ⟨sa, sc, rfl, hps⟩ := RowAt.of_own encP_len hd2.2
  have v1 : x2.cell? ⟨B, 1, none⟩ = some (.slice sa PP.length sc) := hd2.1.cell 1
  clear hd2 hs2
  go_wp2_with fail
  refine (HM.out _ _ _ hps).mono ?_
  rintro r x5 ⟨a2, c2, rfl, -, he2, hb5⟩
  have hj5 : Below W.heap.size W x5 := hk2.trans (hb5.mono hk2.size)
  clear hps hb5 v0 v1
  have hRr : Blk x5 (w.heap.size + 1) 31 #[.int .i64 0, .slice none 0 0] := HR1.out.below hj5 HR1.out.lt
  have hkB : w.heap.size + 1 < x2.heap.size := by have := hk2.size; have := HWS.out; omega
  have HOWN := Lib.hid ((ownsRow_setCell_below (ownsRow_setCell_below he2 (a := ⟨w.heap.size + 1, 0, none⟩) hkB (.int .i64 m)) (a := ⟨w.heap.size + 1, 1, none⟩) hkB (.slice a2 J.length c2)).mono (base' := w.heap.size) (by omega))
  obtain ⟨r1, r3, r2, r4, r5, r6, hes, hbf⟩ := tail_facts x5 x2.heap.size (w.heap.size + 1) w.heap.size m J a2 c2 he2 hkB hRr
  have HES := Lib.hid hes
  have HBF := Lib.hid (hbf w (HB0.out.trans (hj5.mono HB0.out.size)) (by omega))
  clear hRr hes hbf hkB
  clear he2 hj5 hk2
  go_wp2
  refine bodyPost_ret (v := .tuple #[.agg #[.int .i64 m, .slice a2 J.length c2], .int .i64 ((k : Nat) : Int)]) (by simp [results, Try.results29, go_sem, r5, r6]) rfl ?_
  exact ⟨a2, c2, rfl, HES.out, HOWN.out, HBF.out⟩
set_option maxHeartbeats 12800000 in
set_option maxRecDepth 100000 in
theorem pmakeK_2 (a : Option Addr) (cap : Nat) (L : List Int) (m : Int) (J : List E) (k : Nat) (hM : ∀ w, IsAt w a L → Calls Try.prog 29 #[.agg #[.int .i64 1, (.func (.func 57) #[] #[]), (.func (.func 54) #[] #[])], .slice a L.length cap] w (GivesGE w m J k)) (w : World) (h : IsAt w a L) :
    Calls Try.prog 12 #[.int .i64 2, .slice a L.length cap] w (GivesGE w m J k) := by
  have HM := Lib.hid hM
  have HO := Lib.hid (fun w => pof_2 w)
  clear hM
  unfold GivesGE gv at *
  obtain ⟨W, hW⟩ : ∃ W, W = w.alloc (Obj.cells #[.int .i64 0, .slice none 0 0] 31) := ⟨_, rfl⟩
  have HB0 : Hid (Below w.heap.size w W) := Lib.hid (by rw [hW]; exact (Below.refl _ w).alloc (Nat.le_refl _) _)
  have HR1 : Hid (Blk W w.heap.size 31 #[.int .i64 0, .slice none 0 0]) := Lib.hid (by rw [hW]; exact Blk.new _ _ _)
  have HWS : Hid (W.heap.size = w.heap.size + 1) := Lib.hid (by rw [hW]; simp)
  have HE := Lib.hid (h.keep HB0.out)
  have HW := Lib.hid hW
  clear hW h
  go_enter Try.func12, Try.ntmps12
  go_wp2_with fail
  rw [← HW.out]
  refine (HO.out _).mono ?_
  rintro e x1 ⟨rfl, hb⟩
  obtain ⟨Y, hY⟩ : ∃ Y, Y = x1.alloc (Obj.cells #[.int .i64 1, (.func (.func 57) #[] #[]), (.func (.func 54) #[] #[])] 60) := ⟨_, rfl⟩
  have HBY : Hid (Below W.heap.size W Y) := Lib.hid (by rw [hY]; exact hb.alloc hb.size _)
  have HEY := Lib.hid (HE.out.keep HBY.out)
  have HY := Lib.hid hY
  clear hY hb
  go_wp2_with fail
  rw [← HY.out]
  refine (HM.out _ HEY.out).mono ?_
  rintro r x5 ⟨a2, c2, rfl, -, he2, hb5⟩
  have hj5 : Below W.heap.size W x5 := HBY.out.trans (hb5.mono HBY.out.size)
  clear hb5
  have hRr : Blk x5 (w.heap.size) 31 #[.int .i64 0, .slice none 0 0] := HR1.out.below hj5 HR1.out.lt
  have hkB : w.heap.size < Y.heap.size := by have := HBY.out.size; have := HWS.out; omega
  have HOWN := Lib.hid ((ownsRow_setCell_below (ownsRow_setCell_below he2 (a := ⟨w.heap.size, 0, none⟩) hkB (.int .i64 m)) (a := ⟨w.heap.size, 1, none⟩) hkB (.slice a2 J.length c2)).mono (base' := w.heap.size) (by omega))
  obtain ⟨r1, r3, r2, r4, r5, r6, hes, hbf⟩ := tail_facts x5 Y.heap.size (w.heap.size) w.heap.size m J a2 c2 he2 hkB hRr
  have HES := Lib.hid hes
  have HBF := Lib.hid (hbf w (HB0.out.trans (hj5.mono HB0.out.size)) (by omega))
  clear hRr hes hbf hkB
  clear he2 hj5
  go_wp2
  refine bodyPost_ret (v := .tuple #[.agg #[.int .i64 m, .slice a2 J.length c2], .int .i64 ((k : Nat) : Int)]) (by simp [results, Try.results12, go_sem, r5, r6]) rfl ?_
  exact ⟨a2, c2, rfl, HES.out, HOWN.out, HBF.out⟩
set_option maxHeartbeats 12800000 in
set_option maxRecDepth 100000 in
theorem psizes_2 (w : World) : Calls Try.prog 10 #[.int .i64 2] w (fun e x => e = .returned (.tuple #[.int .i64 1, .int .i64 0]) ∧ Below w.heap.size w x) := by
  have HO := Lib.hid (fun w => pof_2 w)
  go_enter Try.func10, Try.ntmps10
  go_wp2_with fail
  refine (HO.out _).mono ?_
  rintro e x1 ⟨rfl, hb⟩
  have HB := Lib.hid (hb.alloc hb.size (Obj.cells #[.int .i64 1, (.func (.func 57) #[] #[]), (.func (.func 54) #[] #[])] 60))
  clear hb
  go_wp2
  go_ret2
  exact ⟨rfl, HB.out⟩
end Go.Proofs.Ytgfbihdnjidodaa

namespace Go.Proofs.Ytgfbihdnjidodaa
open Go.RowKit Go.Shelf Go.Proofs.Gr
attribute [local go_sem] Oper.semAt_some
attribute [local go_sem] run_store_func run_store_nilFunc
set_option maxHeartbeats 12800000 in
set_option maxRecDepth 100000 in
theorem pof_3 (w : World) : Calls Try.prog 28 #[.int .i64 3] w (fun e x => e = .returned (.tuple #[.agg #[.int .i64 1, (.func (.func 58) #[] #[]), (.func (.func 59) #[] #[])], .int .i64 0]) ∧ Below w.heap.size w x) := by
  obtain ⟨C, hC⟩ : ∃ C : Array Value, C = #[.int .i64 1, (.func (.func 53) #[] #[]), (.func (.func 54) #[] #[]), .int .i64 1, (.func (.func 55) #[] #[]), (.func (.func 56) #[] #[]), .int .i64 1, (.func (.func 57) #[] #[]), (.func (.func 54) #[] #[]), .int .i64 1, (.func (.func 58) #[] #[]), (.func (.func 59) #[] #[]), .int .i64 1, (.func (.func 60) #[] #[]), (.func (.func 56) #[] #[]), .int .i64 1, (.func (.func 61) #[] #[]), (.func (.func 62) #[] #[]), .int .i64 2, (.func (.func 63) #[] #[]), (.func (.func 64) #[] #[]), .int .i64 2, (.func (.func 65) #[] #[]), Value.nilFunc, .int .i64 3, (.func (.func 66) #[] #[]), (.func (.func 67) #[] #[])] := ⟨_, rfl⟩
  have HF := Lib.hid (fun w => pfamilies_any w)
  rw [← hC] at HF
  have HCS : Hid (C.size = 27) := Lib.hid (by rw [hC]; rfl)
  have HC1 : Hid (C.all (·.oneCell') = true) := Lib.hid (by rw [hC]; kernel_rfl)
  have HCA : Hid (C[9]? = some (.int .i64 1) ∧ C[10]? = some (.func (.func 58) #[] #[]) ∧ C[11]? = some (.func (.func 59) #[] #[])) := Lib.hid (by rw [hC]; exact ⟨rfl, rfl, rfl⟩)
  clear hC
  obtain ⟨W, hW⟩ : ∃ W, W = w.alloc (Obj.cells #[.int .i64 0, Value.nilFunc, Value.nilFunc] 60) := ⟨_, rfl⟩
  have HB0 : Hid (Below w.heap.size w W) := Lib.hid (by rw [hW]; exact (Below.refl _ w).alloc (Nat.le_refl _) _)
  have HG : Hid (Blk W w.heap.size 60 #[.int .i64 0, Value.nilFunc, Value.nilFunc]) := Lib.hid (by rw [hW]; exact Blk.new _ _ _)
  have HW := Lib.hid hW
  clear hW
  go_enter Try.func28, Try.ntmps28
  go_wp2_with fail
  rw [← HW.out]
  refine (HF.out _).mono ?_
  rintro e x1 ⟨rfl, hb⟩
  have hBY : Blk (x1.alloc (Obj.cells C 74)) x1.heap.size 74 C := Blk.new _ _ _
  have hbY : Below W.heap.size W (x1.alloc (Obj.cells C 74)) := hb.alloc hb.size _
  have hGY := HG.out.below hbY HG.out.lt
  have y0 : (x1.alloc (Obj.cells C 74)).cell? ⟨x1.heap.size, 9, none⟩ = some (.int .i64 1) := (hBY.cell _).trans HCA.out.1
  have y1 : (x1.alloc (Obj.cells C 74)).cell? ⟨x1.heap.size, 10, none⟩ = some (.func (.func 58) #[] #[]) := (hBY.cell _).trans HCA.out.2.1
  have y2 : (x1.alloc (Obj.cells C 74)).cell? ⟨x1.heap.size, 11, none⟩ = some (.func (.func 59) #[] #[]) := (hBY.cell _).trans HCA.out.2.2
  have hS1 := hGY.set_ 0 (.int .i64 1)
  have hS2 := hS1.set_ 1 (.func (.func 58) #[] #[])
  have hS3 := hS2.set_ 2 (.func (.func 59) #[] #[])
  have z0 := hGY.cell 0
  have z1 := hGY.frozen 0
  have z2 := hS1.cell 1
  have z3 := hS1.frozen 1
  have z4 := hS2.cell 2
  have z5 := hS2.frozen 2
  have r0 := hS3.cell 0
  have r1 := hS3.cell 1
  have r2 := hS3.cell 2
  simp only [List.getElem?_toArray, List.setIfInBounds_toArray, List.set_cons_zero, List.set_cons_succ, List.getElem?_cons_zero, List.getElem?_cons_succ] at z0 z2 z4 r0 r1 r2
  have HEND := Lib.hid (((((HB0.out.trans (hbY.mono HB0.out.size)).setCell (p := ⟨w.heap.size, 0, none⟩) (Nat.le_refl _) (.int .i64 1)).setCell (p := ⟨w.heap.size, 1, none⟩) (Nat.le_refl _) (.func (.func 58) #[] #[])).setCell (p := ⟨w.heap.size, 2, none⟩) (Nat.le_refl _) (.func (.func 59) #[] #[])))
  clear hBY hbY hGY hS1 hS2 hS3 hb
  go_wp2_with (refine wpList_store_new rfl 74 _ _ rfl rfl #[.int .i64 0, Value.nilFunc, Value.nilFunc, .int .i64 0, Value.nilFunc, Value.nilFunc, .int .i64 0, Value.nilFunc, Value.nilFunc, .int .i64 0, Value.nilFunc, Value.nilFunc, .int .i64 0, Value.nilFunc, Value.nilFunc, .int .i64 0, Value.nilFunc, Value.nilFunc, .int .i64 0, Value.nilFunc, Value.nilFunc, .int .i64 0, Value.nilFunc, Value.nilFunc, .int .i64 0, Value.nilFunc, Value.nilFunc] C rfl rfl (by rw [HCS.out]; kernel_rfl) (by rw [HCS.out]; rfl) HC1.out ?_)
  refine bodyPost_ret (v := .tuple #[.agg #[.int .i64 1, (.func (.func 58) #[] #[]), (.func (.func 59) #[] #[])], .int .i64 0]) (by simp [results, Try.results28, go_sem, r0, r1, r2]) rfl ?_
  exact ⟨rfl, HEND.out⟩
set_option maxHeartbeats 12800000 in
set_option maxRecDepth 100000 in
theorem pof_4 (w : World) : Calls Try.prog 28 #[.int .i64 4] w (fun e x => e = .returned (.tuple #[.agg #[.int .i64 1, (.func (.func 60) #[] #[]), (.func (.func 56) #[] #[])], .int .i64 0]) ∧ Below w.heap.size w x) := by
  obtain ⟨C, hC⟩ : ∃ C : Array Value, C = #[.int .i64 1, (.func (.func 53) #[] #[]), (.func (.func 54) #[] #[]), .int .i64 1, (.func (.func 55) #[] #[]), (.func (.func 56) #[] #[]), .int .i64 1, (.func (.func 57) #[] #[]), (.func (.func 54) #[] #[]), .int .i64 1, (.func (.func 58) #[] #[]), (.func (.func 59) #[] #[]), .int .i64 1, (.func (.func 60) #[] #[]), (.func (.func 56) #[] #[]), .int .i64 1, (.func (.func 61) #[] #[]), (.func (.func 62) #[] #[]), .int .i64 2, (.func (.func 63) #[] #[]), (.func (.func 64) #[] #[]), .int .i64 2, (.func (.func 65) #[] #[]), Value.nilFunc, .int .i64 3, (.func (.func 66) #[] #[]), (.func (.func 67) #[] #[])] := ⟨_, rfl⟩
  have HF := Lib.hid (fun w => pfamilies_any w)
  rw [← hC] at HF
  have HCS : Hid (C.size = 27) := Lib.hid (by rw [hC]; rfl)
  have HC1 : Hid (C.all (·.oneCell') = true) := Lib.hid (by rw [hC]; kernel_rfl)
  have HCA : Hid (C[12]? = some (.int .i64 1) ∧ C[13]? = some (.func (.func 60) #[] #[]) ∧ C[14]? = some (.func (.func 56) #[] #[])) := Lib.hid (by rw [hC]; exact ⟨rfl, rfl, rfl⟩)
  clear hC
  obtain ⟨W, hW⟩ : ∃ W, W = w.alloc (Obj.cells #[.int .i64 0, Value.nilFunc, Value.nilFunc] 60) := ⟨_, rfl⟩
  have HB0 : Hid (Below w.heap.size w W) := Lib.hid (by rw [hW]; exact (Below.refl _ w).alloc (Nat.le_refl _) _)
  have HG : Hid (Blk W w.heap.size 60 #[.int .i64 0, Value.nilFunc, Value.nilFunc]) := Lib.hid (by rw [hW]; exact Blk.new _ _ _)
  have HW := Lib.hid hW
  clear hW
  go_enter Try.func28, Try.ntmps28
  go_wp2_with fail
  rw [← HW.out]
  refine (HF.out _).mono ?_
  rintro e x1 ⟨rfl, hb⟩
  have hBY : Blk (x1.alloc (Obj.cells C 74)) x1.heap.size 74 C := Blk.new _ _ _
  have hbY : Below W.heap.size W (x1.alloc (Obj.cells C 74)) := hb.alloc hb.size _
  have hGY := HG.out.below hbY HG.out.lt
  have y0 : (x1.alloc (Obj.cells C 74)).cell? ⟨x1.heap.size, 12, none⟩ = some (.int .i64 1) := (hBY.cell _).trans HCA.out.1
  have y1 : (x1.alloc (Obj.cells C 74)).cell? ⟨x1.heap.size, 13, none⟩ = some (.func (.func 60) #[] #[]) := (hBY.cell _).trans HCA.out.2.1
  have y2 : (x1.alloc (Obj.cells C 74)).cell? ⟨x1.heap.size, 14, none⟩ = some (.func (.func 56) #[] #[]) := (hBY.cell _).trans HCA.out.2.2
  have hS1 := hGY.set_ 0 (.int .i64 1)
  have hS2 := hS1.set_ 1 (.func (.func 60) #[] #[])
  have hS3 := hS2.set_ 2 (.func (.func 56) #[] #[])
  have z0 := hGY.cell 0
  have z1 := hGY.frozen 0
  have z2 := hS1.cell 1
  have z3 := hS1.frozen 1
  have z4 := hS2.cell 2
  have z5 := hS2.frozen 2
  have r0 := hS3.cell 0
  have r1 := hS3.cell 1
  have r2 := hS3.cell 2
  simp only [List.getElem?_toArray, List.setIfInBounds_toArray, List.set_cons_zero, List.set_cons_succ, List.getElem?_cons_zero, List.getElem?_cons_succ] at z0 z2 z4 r0 r1 r2
  have HEND := Lib.hid (((((HB0.out.trans (hbY.mono HB0.out.size)).setCell (p := ⟨w.heap.size, 0, none⟩) (Nat.le_refl _) (.int .i64 1)).setCell (p := ⟨w.heap.size, 1, none⟩) (Nat.le_refl _) (.func (.func 60) #[] #[])).setCell (p := ⟨w.heap.size, 2, none⟩) (Nat.le_refl _) (.func (.func 56) #[] #[])))
  clear hBY hbY hGY hS1 hS2 hS3 hb
  go_wp2_with (refine wpList_store_new rfl 74 _ _ rfl rfl #[.int .i64 0, Value.nilFunc, Value.nilFunc, .int .i64 0, Value.nilFunc, Value.nilFunc, .int .i64 0, Value.nilFunc, Value.nilFunc, .int .i64 0, Value.nilFunc, Value.nilFunc, .int .i64 0, Value.nilFunc, Value.nilFunc, .int .i64 0, Value.nilFunc, Value.nilFunc, .int .i64 0, Value.nilFunc, Value.nilFunc, .int .i64 0, Value.nilFunc, Value.nilFunc, .int .i64 0, Value.nilFunc, Value.nilFunc] C rfl rfl (by rw [HCS.out]; kernel_rfl) (by rw [HCS.out]; rfl) HC1.out ?_)
  refine bodyPost_ret (v := .tuple #[.agg #[.int .i64 1, (.func (.func 60) #[] #[]), (.func (.func 56) #[] #[])], .int .i64 0]) (by simp [results, Try.results28, go_sem, r0, r1, r2]) rfl ?_
  exact ⟨rfl, HEND.out⟩
set_option maxHeartbeats 12800000 in
set_option maxRecDepth 100000 in
theorem pof_5 (w : World) : Calls Try.prog 28 #[.int .i64 5] w (fun e x => e = .returned (.tuple #[.agg #[.int .i64 1, (.func (.func 61) #[] #[]), (.func (.func 62) #[] #[])], .int .i64 0]) ∧ Below w.heap.size w x) := by
  obtain ⟨C, hC⟩ : ∃ C : Array Value, C = #[.int .i64 1, (.func (.func 53) #[] #[]), (.func (.func 54) #[] #[]), .int .i64 1, (.func (.func 55) #[] #[]), (.func (.func 56) #[] #[]), .int .i64 1, (.func (.func 57) #[] #[]), (.func (.func 54) #[] #[]), .int .i64 1, (.func (.func 58) #[] #[]), (.func (.func 59) #[] #[]), .int .i64 1, (.func (.func 60) #[] #[]), (.func (.func 56) #[] #[]), .int .i64 1, (.func (.func 61) #[] #[]), (.func (.func 62) #[] #[]), .int .i64 2, (.func (.func 63) #[] #[]), (.func (.func 64) #[] #[]), .int .i64 2, (.func (.func 65) #[] #[]), Value.nilFunc, .int .i64 3, (.func (.func 66) #[] #[]), (.func (.func 67) #[] #[])] := ⟨_, rfl⟩
  have HF := Lib.hid (fun w => pfamilies_any w)
  rw [← hC] at HF
  have HCS : Hid (C.size = 27) := Lib.hid (by rw [hC]; rfl)
  have HC1 : Hid (C.all (·.oneCell') = true) := Lib.hid (by rw [hC]; kernel_rfl)
  have HCA : Hid (C[15]? = some (.int .i64 1) ∧ C[16]? = some (.func (.func 61) #[] #[]) ∧ C[17]? = some (.func (.func 62) #[] #[])) := Lib.hid (by rw [hC]; exact ⟨rfl, rfl, rfl⟩)
  clear hC
  obtain ⟨W, hW⟩ : ∃ W, W = w.alloc (Obj.cells #[.int .i64 0, Value.nilFunc, Value.nilFunc] 60) := ⟨_, rfl⟩
  have HB0 : Hid (Below w.heap.size w W) := Lib.hid (by rw [hW]; exact (Below.refl _ w).alloc (Nat.le_refl _) _)
  have HG : Hid (Blk W w.heap.size 60 #[.int .i64 0, Value.nilFunc, Value.nilFunc]) := Lib.hid (by rw [hW]; exact Blk.new _ _ _)
  have HW := Lib.hid hW
  clear hW
  go_enter Try.func28, Try.ntmps28
  go_wp2_with fail
  rw [← HW.out]
  refine (HF.out _).mono ?_
  rintro e x1 ⟨rfl, hb⟩
  have hBY : Blk (x1.alloc (Obj.cells C 74)) x1.heap.size 74 C := Blk.new _ _ _
  have hbY : Below W.heap.size W (x1.alloc (Obj.cells C 74)) := hb.alloc hb.size _
  have hGY := HG.out.below hbY HG.out.lt
  have y0 : (x1.alloc (Obj.cells C 74)).cell? ⟨x1.heap.size, 15, none⟩ = some (.int .i64 1) := (hBY.cell _).trans HCA.out.1
  have y1 : (x1.alloc (Obj.cells C 74)).cell? ⟨x1.heap.size, 16, none⟩ = some (.func (.func 61) #[] #[]) := (hBY.cell _).trans HCA.out.2.1
  have y2 : (x1.alloc (Obj.cells C 74)).cell? ⟨x1.heap.size, 17, none⟩ = some (.func (.func 62) #[] #[]) := (hBY.cell _).trans HCA.out.2.2
  have hS1 := hGY.set_ 0 (.int .i64 1)
  have hS2 := hS1.set_ 1 (.func (.func 61) #[] #[])
  have hS3 := hS2.set_ 2 (.func (.func 62) #[] #[])
  have z0 := hGY.cell 0
  have z1 := hGY.frozen 0
  have z2 := hS1.cell 1
  have z3 := hS1.frozen 1
  have z4 := hS2.cell 2
  have z5 := hS2.frozen 2
  have r0 := hS3.cell 0
  have r1 := hS3.cell 1
  have r2 := hS3.cell 2
  simp only [List.getElem?_toArray, List.setIfInBounds_toArray, List.set_cons_zero, List.set_cons_succ, List.getElem?_cons_zero, List.getElem?_cons_succ] at z0 z2 z4 r0 r1 r2
  have HEND := Lib.hid (((((HB0.out.trans (hbY.mono HB0.out.size)).setCell (p := ⟨w.heap.size, 0, none⟩) (Nat.le_refl _) (.int .i64 1)).setCell (p := ⟨w.heap.size, 1, none⟩) (Nat.le_refl _) (.func (.func 61) #[] #[])).setCell (p := ⟨w.heap.size, 2, none⟩) (Nat.le_refl _) (.func (.func 62) #[] #[])))
  clear hBY hbY hGY hS1 hS2 hS3 hb
  go_wp2_with (refine wpList_store_new rfl 74 _ _ rfl rfl #[.int .i64 0, Value.nilFunc, Value.nilFunc, .int .i64 0, Value.nilFunc, Value.nilFunc, .int .i64 0, Value.nilFunc, Value.nilFunc, .int .i64 0, Value.nilFunc, Value.nilFunc, .int .i64 0, Value.nilFunc, Value.nilFunc, .int .i64 0, Value.nilFunc, Value.nilFunc, .int .i64 0, Value.nilFunc, Value.nilFunc, .int .i64 0, Value.nilFunc, Value.nilFunc, .int .i64 0, Value.nilFunc, Value.nilFunc] C rfl rfl (by rw [HCS.out]; kernel_rfl) (by rw [HCS.out]; rfl) HC1.out ?_)
  refine bodyPost_ret (v := .tuple #[.agg #[.int .i64 1, (.func (.func 61) #[] #[]), (.func (.func 62) #[] #[])], .int .i64 0]) (by simp [results, Try.results28, go_sem, r0, r1, r2]) rfl ?_
  exact ⟨rfl, HEND.out⟩
end Go.Proofs.Ytgfbihdnjidodaa
