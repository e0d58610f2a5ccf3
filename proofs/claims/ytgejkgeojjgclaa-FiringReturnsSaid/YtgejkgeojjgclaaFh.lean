/- What leaves a set, by the program. -/
import Derived.Test.YtgejkgeojjgclaaFg
import Derived.Test.YtgejkgeojjgclaaGq
namespace Go.Proofs.Ytgejkgeojjgclaa
open Go.RowKit Go.Proofs.Gr Go.Proofs.Cp
attribute [local go_sem] Oper.semAt_some

/-- Worlds that differ in two blocks, and in new ones. -/
structure Kp (g l : Nat) (u v : World) : Prop where
  os : v.os = u.os
  tape : v.tape = u.tape
  output : v.output = u.output
  size : u.heap.size ≤ v.heap.size
  block : ∀ k, k < u.heap.size → k ≠ g → k ≠ l → v.heap[k]? = u.heap[k]?
theorem Kp.trans {g l : Nat} {u v w : World} (h : Kp g l u v) (h' : Kp g l v w) : Kp g l u w :=
  ⟨h'.os.trans h.os, h'.tape.trans h.tape, h'.output.trans h.output, Nat.le_trans h.size h'.size, fun k hk h1 h2 => (h'.block k (Nat.lt_of_lt_of_le hk h.size) h1 h2).trans (h.block k hk h1 h2)⟩
theorem Kp.of_below {g l : Nat} {u v : World} (h : Below u.heap.size u v) : Kp g l u v := ⟨h.os, h.tape, h.output, h.size, fun k hk _ _ => h.block k hk⟩
theorem Kp.set {g l : Nat} (u : World) (i : Nat) (x : Value) : Kp g l u (u.setCell ⟨g, i, none⟩ x) :=
  ⟨rfl, rfl, rfl, by simp [World.setCell], fun k _ h1 _ => Below.heap_setCell u ⟨g, i, none⟩ x k (fun e => h1 e)⟩
theorem Kp.set' {g l : Nat} (u : World) (i : Nat) (x : Value) : Kp g l u (u.setCell ⟨l, i, none⟩ x) :=
  ⟨rfl, rfl, rfl, by simp [World.setCell], fun k _ _ h2 => Below.heap_setCell u ⟨l, i, none⟩ x k (fun e => h2 e)⟩
theorem Kp.blk {g l k : Nat} {u v : World} {t : TypeId} {cs : Array Value} (h : Kp g l u v) (hb : Blk u k t cs) (h1 : k ≠ g) (h2 : k ≠ l) : Blk v k t cs := (h.block k hb.lt h1 h2).trans hb
theorem Kp.es {g l : Nat} {u v : World} {a : Option Addr} {L : List E} (h : Kp g l u v) (he : EsAt u a L) (hr : ∀ p, a = some p → 0 < L.length → p.block ≠ g ∧ p.block ≠ l) : EsAt v a L := by
  intro j hj
  obtain ⟨b, off, rfl, hlt, h1⟩ := he j hj
  obtain ⟨r1, r2⟩ := hr _ rfl (by omega)
  refine ⟨b, off, rfl, Nat.lt_of_lt_of_le hlt h.size, fun i hi => ?_⟩
  rw [← h1 i hi]
  exact World.cell?_of_block (h.block b hlt r1 r2)
theorem Kp.below {g l : Nat} {w u v : World} (h : Kp g l u v) (hb : Below w.heap.size w u) (h1 : w.heap.size ≤ g) (h2 : w.heap.size ≤ l) : Below w.heap.size w v :=
  ⟨h.os.trans hb.os, h.tape.trans hb.tape, h.output.trans hb.output, Nat.le_trans hb.size h.size, fun k hk => (h.block k (Nat.lt_of_lt_of_le hk hb.size) (by omega) (by omega)).trans (hb.block k hk)⟩
/-- One direction of an edge, and the edges one by one. -/
def lgO (A : List Int) (z : List Int × Bool) (x y : Nat) (m : Int) : List Int × Bool := if (A.contains (x : Int) && !A.contains (y : Int)) = true then (z.1.set x (iAt z.1 x - m), true) else z
def lgE (A : List Int) (z : List Int × Bool) (e : E) : List Int × Bool := if e.a = e.b then z else lgO A (lgO A z e.a.toNat e.b.toNat e.m) e.b.toNat e.a.toNat e.m
def lgL (A : List Int) (D : List Int) (L : List E) : Nat → List Int × Bool
  | 0 => (D, false)
  | i + 1 => lgE A (lgL A D L i) (eAt L i)
theorem lgO_len (A : List Int) (z : List Int × Bool) (x y : Nat) (m : Int) : (lgO A z x y m).1.length = z.1.length := by
  unfold lgO; split <;> simp
theorem lgL_len (A D : List Int) (L : List E) (i : Nat) : (lgL A D L i).1.length = D.length := by
  induction i with
  | zero => rfl
  | succ i ih => rw [lgL, lgE]; split; exact ih; rw [lgO_len, lgO_len, ih]
theorem lgO_bd {A : List Int} {z : List Int × Bool} {x y : Nat} {m B : Int} (hx : x < z.1.length) (hm : 0 ≤ m ∧ m ≤ 50) (h : ∀ v, -B ≤ iAt z.1 v ∧ iAt z.1 v ≤ B) (v : Nat) : -(B + 50) ≤ iAt (lgO A z x y m).1 v ∧ iAt (lgO A z x y m).1 v ≤ B + 50 := by
  unfold lgO
  split
  · simp only
    rw [iAt_set _ _ _ _ hx]
    have h1 := h x
    have h2 := h v
    split <;> omega
  · have := h v; omega
theorem lgL_bd {n : Int} {A D : List Int} {L : List E} (hn : n = D.length) (hr : ∀ e ∈ L, 0 ≤ e.a ∧ e.a ≤ e.b ∧ e.b < n ∧ 1 ≤ e.m ∧ e.m ≤ 50) (h : ∀ v, -1048576 ≤ iAt D v ∧ iAt D v ≤ 1048576) (i : Nat) (hi : i ≤ L.length) (v : Nat) : -(1048576 + 100 * (i : Int)) ≤ iAt (lgL A D L i).1 v ∧ iAt (lgL A D L i).1 v ≤ 1048576 + 100 * (i : Int) := by
  induction i generalizing v with
  | zero => have := h v; rw [lgL]; simp only; omega
  | succ i ih =>
    have h1 := hr (eAt L i) (by rw [← eAt_get L i (by omega)]; exact List.getElem_mem _)
    have hl := lgL_len A D L i
    rw [lgL, lgE]
    split
    · have := ih (by omega) v; omega
    · have a1 := lgO_bd (A := A) (z := lgL A D L i) (x := (eAt L i).a.toNat) (y := (eAt L i).b.toNat) (m := (eAt L i).m) (by omega) (by omega) (fun v => ih (by omega) v)
      have a2 := lgO_bd (A := A) (z := lgO A (lgL A D L i) (eAt L i).a.toNat (eAt L i).b.toNat (eAt L i).m) (x := (eAt L i).b.toNat) (y := (eAt L i).a.toNat) (m := (eAt L i).m) (by rw [lgO_len]; omega) (by omega) a1 v
      omega
set_option maxHeartbeats 12800000 in
set_option maxRecDepth 100000 in
theorem plg1_any (N x y : Nat) (hx : x < N) (hy : y < N) (hN : N ≤ 12) (m : Int) (hm : 0 ≤ m ∧ m ≤ 50) (ib lb vb g cap : Nat) (A : List Int) (z : List Int × Bool) (hQ : z.1.length = N) (hb : ∀ v, -100000000000 ≤ iAt z.1 v ∧ iAt z.1 v ≤ 100000000000) (u0 : World) (h1 : Blk u0 ib 110 (inA A)) (h2 : Blk u0 lb 28 #[.slice (some ⟨g, 0, none⟩) N cap]) (h3 : PB u0 g z.1) (h4 : Blk u0 vb 4 #[.bool z.2]) (ne : vb ≠ g) :
    Calls Try.prog 86 #[.int .i64 (x : Int), .int .i64 (y : Int), .int .i64 m, .pointer (some ⟨ib, 0, none⟩), .pointer (some ⟨lb, 0, none⟩), .pointer (some ⟨vb, 0, none⟩)] u0 (fun e w' => e = .returned (.tuple #[]) ∧ PB w' g (lgO A z x y m).1 ∧ Blk w' vb 4 #[.bool (lgO A z x y m).2] ∧ Kp g vb u0 w') := by
  have y1 : u0.cell? ⟨ib, x, none⟩ = some (.bool (A.contains (x : Int))) := (h1.cell x).trans (inA_at A x (by omega))
  have y2 : u0.cell? ⟨ib, y, none⟩ = some (.bool (A.contains (y : Int))) := (h1.cell y).trans (inA_at A y (by omega))
  have y3 : u0.cell? ⟨lb, 0, none⟩ = some (.slice (some ⟨g, 0, none⟩) N cap) := h2.cell 0
  have y4 := h3.cell x (by omega)
  have y5 := h3.frozen x
  have hbx := hb x
  have i1 : (x : Int) < (N : Int) := by omega
  have i2 : (0 : Int) ≤ (x : Int) := by omega
  have i3 : (y : Int) < 12 := by omega
  have i4 : (0 : Int) ≤ (y : Int) := by omega
  have i5 : (x : Int) < 12 := by omega
  obtain ⟨Q, q⟩ := z
  simp only at hQ hb h3 h4 y4 hbx ⊢
  have HL : Hid (lgO A (Q, q) x y m = if (A.contains (x : Int) && !A.contains (y : Int)) = true then (Q.set x (iAt Q x - m), true) else (Q, q)) := Lib.hid rfl
  have h3s := h3.set x (iAt Q x - m)
  have h4f : Blk (u0.setCell ⟨g, x, none⟩ (.int .i64 (iAt Q x - m))) vb 4 #[.bool q] := h4.far (p := ⟨g, x, none⟩) (fun e => ne e) _
  have y6 : (u0.setCell ⟨g, x, none⟩ (.int .i64 (iAt Q x - m))).cell? ⟨vb, 0, none⟩ = some (.bool q) := h4f.cell 0
  have y7 := h4f.frozen 0
  have HA1 : Hid (PB ((u0.setCell ⟨g, x, none⟩ (.int .i64 (iAt Q x - m))).setCell ⟨vb, 0, none⟩ (.bool true)) g (Q.set x (iAt Q x - m)) ∧ Blk ((u0.setCell ⟨g, x, none⟩ (.int .i64 (iAt Q x - m))).setCell ⟨vb, 0, none⟩ (.bool true)) vb 4 #[.bool true] ∧ Kp g vb u0 ((u0.setCell ⟨g, x, none⟩ (.int .i64 (iAt Q x - m))).setCell ⟨vb, 0, none⟩ (.bool true))) := Lib.hid ⟨h3s.far (p := ⟨vb, 0, none⟩) (fun e => ne e.symm) _, h4f.set_ 0 _, (Kp.set _ _ _).trans (Kp.set' _ _ _)⟩
  have HA2 : Hid (PB u0 g Q ∧ Blk u0 vb 4 #[.bool q] ∧ Kp g vb u0 u0) := Lib.hid ⟨h3, h4, Kp.of_below (Below.refl _ _)⟩
  generalize lgO A (Q, q) x y m = R at *
  generalize A.contains (x : Int) = cx at *
  generalize A.contains (y : Int) = cy at *
  generalize iAt Q x = qx at *
  clear h1 h2 h3 h4 hb h3s h4f ne
  cases cx with
  | false =>
    have HR : Hid (R = (Q, q)) := Lib.hid (by rw [HL.out]; rfl)
    clear HL
    go_enter Try.func86, Try.ntmps86
    go_wp2
    go_end0
    exact ⟨rfl, by rw [HR.out]; exact HA2.out⟩
  | true =>
    cases cy with
    | true =>
      have HR : Hid (R = (Q, q)) := Lib.hid (by rw [HL.out]; rfl)
      clear HL
      go_enter Try.func86, Try.ntmps86
      go_wp2
      go_end0
      exact ⟨rfl, by rw [HR.out]; exact HA2.out⟩
    | false =>
      have HR : Hid (R = (Q.set x (qx - m), true)) := Lib.hid (by rw [HL.out]; rfl)
      clear HL
      go_enter Try.func86, Try.ntmps86
      go_wp2
      go_end0
      exact ⟨rfl, by rw [HR.out]; exact HA1.out⟩
set_option maxHeartbeats 12800000 in
set_option maxRecDepth 100000 in
theorem palongG (N : Nat) (a : Option Addr) (cap : Nat) (L : List E) (hL : L.length ≤ 100000) (hR : Right N L) (ib lb vb g cp : Nat) (A D : List Int) (hD : D.length = N) (hdb : ∀ v, -1048576 ≤ iAt D v ∧ iAt D v ≤ 1048576) (w : World) (h : EsAt w a L) (h1 : Blk w ib 110 (inA A)) (h2 : Blk w lb 28 #[.slice (some ⟨g, 0, none⟩) N cp]) (h3 : PB w g D) (h4 : Blk w vb 4 #[.bool false]) (ne0 : vb ≠ g) (ne1 : ib ≠ g ∧ ib ≠ vb) (ne2 : lb ≠ g ∧ lb ≠ vb) (ne4 : ∀ p, a = some p → 0 < L.length → p.block ≠ g ∧ p.block ≠ vb) :
    Calls Try.prog 78 #[gv N a L.length cap, (.func (.func 86) #[] #[.pointer (some ⟨ib, 0, none⟩), .pointer (some ⟨lb, 0, none⟩), .pointer (some ⟨vb, 0, none⟩)])] w (fun e w' => e = .returned (.tuple #[]) ∧ PB w' g (lgL A D L L.length).1 ∧ Blk w' vb 4 #[.bool (lgL A D L L.length).2] ∧ Kp g vb w w') := by
  have HR := Lib.hid hR.rng
  have HN12 := Lib.hid hR.hi
  have HBD : Hid (∀ i, i ≤ L.length → ∀ v, -20000000 ≤ iAt (lgL A D L i).1 v ∧ iAt (lgL A D L i).1 v ≤ 20000000) := Lib.hid fun i hi v => by
    have := lgL_bd (n := N) (A := A) (by omega) hR.rng hdb i hi v
    omega
  have HCL := Lib.hid (fun i => lgL_len A D L i)
  have HC1 : Hid (∀ i, lgL A D L (i + 1) = lgE A (lgL A D L i) (eAt L i)) := Lib.hid fun _ => rfl
  have HC0 : Hid (lgL A D L 0 = (D, false)) := Lib.hid rfl
  have HDN := Lib.hid hD
  have HNE := Lib.hid ne0
  generalize lgL A D L = Z at *
  obtain ⟨W, hW⟩ : ∃ W, W = w.alloc (Obj.cells #[.int .i64 (N : Int), .slice a L.length cap] 24) := ⟨_, rfl⟩
  have hB0 : Below w.heap.size w W := by rw [hW]; exact (Below.refl _ w).alloc (Nat.le_refl _) _
  have hG : Blk W w.heap.size 24 #[.int .i64 (N : Int), .slice a L.length cap] := by rw [hW]; exact Blk.new _ _ _
  have g0 : W.cell? ⟨w.heap.size, 0, none⟩ = some (.int .i64 (N : Int)) := hG.cell 0
  have g1 : W.cell? ⟨w.heap.size, 1, none⟩ = some (.slice a L.length cap) := hG.cell 1
  have HW := Lib.hid hW
  have HK0 : Hid (∀ u, Kp g vb w u → Blk u ib 110 (inA A) ∧ Blk u lb 28 #[.slice (some ⟨g, 0, none⟩) N cp] ∧ EsAt u a L) := Lib.hid fun u hu => ⟨hu.blk h1 ne1.1 ne1.2, hu.blk h2 ne2.1 ne2.2, hu.es h ne4⟩
  have HG0 : Hid (Kp g vb w W) := Lib.hid (Kp.of_below hB0)
  have HP0 : Hid (PB W g D ∧ Blk W vb 4 #[.bool false]) := Lib.hid ⟨h3.keep hB0, h4.below hB0 h4.lt⟩
  unfold gv
  clear h h1 h2 h3 h4 ne0 ne1 ne2 ne4 hR hD hdb hG hW hB0
  go_enter Try.func78, Try.ntmps78
  go_wp2
  rw [← HW.out]
  go_loopw [9] (fun x wr => ∃ i : Nat, i ≤ L.length ∧ x = .int .i64 i ∧ PB wr g (Z i).1 ∧ Blk wr vb 4 #[.bool (Z i).2] ∧ Kp g vb w wr) (fun x _ => L.length - (intOf x).toNat)
  case atStart => exact ⟨0, by omega, rfl, by rw [HC0.out]; exact HP0.out.1, by rw [HC0.out]; exact HP0.out.2, HG0.out⟩
  case round =>
    obtain ⟨i, hi, rfl, hp, hv, hg⟩ := hrel
    have HPI := Lib.hid hp
    have HVI := Lib.hid hv
    have HGI := Lib.hid hg
    by_cases hlt : i < L.length
    · have i1 : (i : Int) < (L.length : Int) := by omega
      have i2 : (0 : Int) ≤ (i : Int) := by omega
      have HLT := Lib.hid hlt
      have HZ1 := Lib.hid (HC1.out i)
      obtain ⟨-, -, hes⟩ := HK0.out wr hg
      obtain ⟨b1, o1, hb1, q1, x1, x2, x3⟩ := RowAt.three hes i hlt
      subst hb1
      have hrn := HR.out (eAt L i) (by rw [← eAt_get L i hlt]; exact List.getElem_mem hlt)
      have HQB := Lib.hid (HBD.out i hi)
      have HQL := Lib.hid (HCL.out i)
      clear hes hp hg hv hlt
      generalize eAt L i = e at *
      generalize Z i = Q at *
      obtain ⟨ea, eb, m⟩ := e
      simp only at hrn x1 x2 x3
      obtain ⟨x, hxe⟩ : ∃ x : Nat, ea = x := ⟨ea.toNat, by omega⟩
      obtain ⟨y, hye⟩ : ∃ y : Nat, eb = y := ⟨eb.toNat, by omega⟩
      subst hxe hye
      have HM : Hid (0 ≤ m ∧ m ≤ 50) := Lib.hid (by omega)
      have HXN : Hid (x < N) := Lib.hid (by omega)
      have HYN : Hid (y < N) := Lib.hid (by omega)
      obtain ⟨V, hV⟩ : ∃ V, V = wr.alloc (Obj.cells #[.int .i64 (x : Int), .int .i64 (y : Int), .int .i64 m] 103) := ⟨_, rfl⟩
      have hbV : Below wr.heap.size wr V := by rw [hV]; exact (Below.refl _ _).alloc (Nat.le_refl _) _
      have hbl : Blk V wr.heap.size 103 #[.int .i64 (x : Int), .int .i64 (y : Int), .int .i64 m] := by rw [hV]; exact Blk.new _ _ _
      have HV := Lib.hid hV
      have HGV : Hid (Kp g vb w V) := Lib.hid (HGI.out.trans (Kp.of_below hbV))
      have HPV : Hid (PB V g Q.1 ∧ Blk V vb 4 #[.bool Q.2]) := Lib.hid ⟨HPI.out.keep hbV, HVI.out.below hbV HVI.out.lt⟩
      have HBL := Lib.hid hbl
      have y1 : V.cell? ⟨wr.heap.size, 0, none⟩ = some (.int .i64 (x : Int)) := hbl.cell 0
      have y2 : V.cell? ⟨wr.heap.size, 1, none⟩ = some (.int .i64 (y : Int)) := hbl.cell 1
      have y3 : V.cell? ⟨wr.heap.size, 2, none⟩ = some (.int .i64 m) := hbl.cell 2
      have HGN : Hid (g < wr.heap.size ∧ vb < wr.heap.size) := Lib.hid ⟨HPI.out.lt, HVI.out.lt⟩
      rw [hV] at y1 y2 y3
      clear hV hbV hbl hrn
      by_cases hxy : x = y
      · subst hxy
        have d1 : ((x : Int) != (x : Int)) = false := by simp
        have HZN : Hid (Z (i + 1) = Q) := Lib.hid (by rw [HZ1.out]; unfold lgE; rw [if_pos rfl])
        go_wp2
        rw [← HV.out]
        go_roundw
        case rel => exact ⟨i + 1, by have := HLT.out; omega, by go_num, by rw [HZN.out]; exact HPV.out.1, by rw [HZN.out]; exact HPV.out.2, HGV.out⟩
        case measure => have := HLT.out; simp [intOf]; omega
      · have d1 : ((x : Int) != (y : Int)) = true := by rw [bne_iff_ne]; omega
        have HZN : Hid (Z (i + 1) = lgO A (lgO A Q x y m) y x m) := Lib.hid (by rw [HZ1.out]; unfold lgE; rw [if_neg (by simp only; omega)]; simp)
        have HYB : Hid (∀ v, -100000000000 ≤ iAt (lgO A Q x y m).1 v ∧ iAt (lgO A Q x y m).1 v ≤ 100000000000) := Lib.hid fun v => by
          have := lgO_bd (A := A) (z := Q) (x := x) (y := y) (m := m) (B := 20000000) (by rw [HQL.out, HDN.out]; exact HXN.out) HM.out (fun v => HQB.out v) v
          omega
        clear hxy
        go_wp2_with fail
        rw [← HV.out]
        obtain ⟨k1, k2, -⟩ := HK0.out V HGV.out
        refine (plg1_any N x y HXN.out HYN.out (by have := HN12.out; omega) m HM.out ib lb vb g cp A Q (by rw [HQL.out, HDN.out]) (fun v => by have := HQB.out v; omega) V k1 k2 HPV.out.1 HPV.out.2 HNE.out).mono ?_
        rintro e1 w1 ⟨rfl, hp1, hv1, hg1⟩
        have HP1 := Lib.hid hp1
        have HV1 := Lib.hid hv1
        have HG1 := Lib.hid (HGV.out.trans hg1)
        have hbl1 : Blk w1 wr.heap.size 103 #[.int .i64 (x : Int), .int .i64 (y : Int), .int .i64 m] := hg1.blk HBL.out (by have := HGN.out; omega) (by have := HGN.out; omega)
        clear y1 y2 y3 k1 k2 hp1 hg1 hv1
        have y1 := hbl1.cell 0
        have y2 := hbl1.cell 1
        have y3 := hbl1.cell 2
        simp only [List.getElem?_toArray, List.getElem?_cons_zero, List.getElem?_cons_succ] at y1 y2 y3
        clear hbl1
        go_wp2_with fail
        obtain ⟨k1, k2, -⟩ := HK0.out w1 HG1.out
        refine (plg1_any N y x HYN.out HXN.out (by have := HN12.out; omega) m HM.out ib lb vb g cp A (lgO A Q x y m) (by rw [lgO_len, HQL.out, HDN.out]) HYB.out w1 k1 k2 HP1.out HV1.out HNE.out).mono ?_
        rintro e2 w2 ⟨rfl, hp2, hv2, hg2⟩
        have HP2 : Hid (PB w2 g (Z (i + 1)).1) := Lib.hid (by rw [HZN.out]; exact hp2)
        have HV2 : Hid (Blk w2 vb 4 #[.bool (Z (i + 1)).2]) := Lib.hid (by rw [HZN.out]; exact hv2)
        have HG2 := Lib.hid (HG1.out.trans hg2)
        clear y1 y2 y3 k1 k2 hp2 hg2 hv2
        go_wp2
        go_roundw
        case rel => exact ⟨i + 1, by have := HLT.out; omega, by go_num, HP2.out, HV2.out, HG2.out⟩
        case measure => have := HLT.out; simp [intOf]; omega
    · obtain rfl : i = L.length := by omega
      have i1 : ¬ (L.length : Int) < (L.length : Int) := by omega
      clear hp hg hv
      go_wp2
      go_end0
      exact ⟨rfl, HPI.out, HVI.out, HGI.out⟩
end Go.Proofs.Ytgejkgeojjgclaa
