/- What a script changes, by the program: the closure, along the edges. -/
import Derived.Test.YtgejkgeojjgclaaFb
import Derived.Test.YtgejkgeojjgclaaLateD
namespace Go.Proofs.Ytgejkgeojjgclaa
open Go.RowKit Go.Proofs.Gr Go.Proofs.Cp
attribute [local go_sem] Oper.semAt_some

set_option maxHeartbeats 12800000 in
set_option maxRecDepth 100000 in
theorem pchg1_any (N : Nat) (x y : Nat) (hx : x < N) (hy : y < N) (m q : Int) (hm : 0 ≤ m ∧ m ≤ 50) (hq : -100000000000000 ≤ q ∧ q ≤ 100000000000000) (pb ps g cap sc : Nat) (sa : Option Addr) (S Q : List Int) (hQ : Q.length = N) (hS : S.length = N) (hs : Sb (fS S)) (hqx : iAt Q x = q) (u0 : World) (h1 : u0.cell? ⟨pb, 0, none⟩ = some (.slice (some ⟨g, 0, none⟩) N cap)) (h2 : u0.cell? ⟨ps, 0, none⟩ = some (.slice sa N sc)) (h3 : PB u0 g Q) (h4 : IsAt u0 sa S) (hlb : pb < u0.heap.size) (hls : ps < u0.heap.size) :
    Calls Try.prog 79 #[.int .i64 (x : Int), .int .i64 (y : Int), .int .i64 m, .pointer (some ⟨pb, 0, none⟩), .pointer (some ⟨ps, 0, none⟩)] u0 (fun e w' => e = .returned (.tuple #[]) ∧ PB w' g (Q.set x (q + m * (fS S (y : Int) - fS S (x : Int)))) ∧ u0.grownBy w' (some g)) := by
  obtain ⟨sb, so, hsb, q1, c1⟩ := h4.one x (by omega)
  subst hsb
  obtain ⟨b9, o9, e9, -, c2⟩ := h4.one y (by omega)
  injection e9 with e9
  injection e9 with e8 e7
  subst e8 e7
  have c3 := h3.cell x (by omega)
  have s2 := h3.frozen x
  rw [hqx] at c3
  have hsy := hs (y : Int)
  have hsx := hs (x : Int)
  have e1 : fS S (x : Int) = iAt S x := rfl
  have e2 : fS S (y : Int) = iAt S y := rfl
  rw [e1] at hsx ⊢
  rw [e2] at hsy ⊢
  have HS : Hid (∀ u, Below u0.heap.size u0 u → u.cell? ⟨pb, 0, none⟩ = some (.slice (some ⟨g, 0, none⟩) N cap) ∧ u.cell? ⟨ps, 0, none⟩ = some (.slice (some ⟨sb, so, none⟩) N sc) ∧ u.cell? ⟨g, x, none⟩ = some (.int .i64 q) ∧ u.cell? ⟨sb, so + y, none⟩ = some (.int .i64 (iAt S y)) ∧ u.cell? ⟨sb, so + x, none⟩ = some (.int .i64 (iAt S x))) := Lib.hid fun u hu => ⟨(hu.cell (p := ⟨pb, 0, none⟩) hlb).trans h1, (hu.cell (p := ⟨ps, 0, none⟩) hls).trans h2, (hu.cell (p := ⟨g, x, none⟩) h3.lt).trans c3, (hu.cell (p := ⟨sb, so + y, none⟩) q1).trans c2, (hu.cell (p := ⟨sb, so + x, none⟩) q1).trans c1⟩
  generalize iAt S y = sy at *
  generalize iAt S x = sx at *
  have m1 : -104857600 ≤ m * (sy - sx) ∧ m * (sy - sx) ≤ 104857600 := mul_bd hm (by omega)
  have i1 : (x : Int) < (N : Int) := by omega
  have i2 : (0 : Int) ≤ (x : Int) := by omega
  have i3 : (y : Int) < (N : Int) := by omega
  have i4 : (0 : Int) ≤ (y : Int) := by omega
  have HP : Hid (PB (u0.setCell ⟨g, x, none⟩ (.int .i64 (q + m * (sy - sx)))) g (Q.set x (q + m * (sy - sx)))) := Lib.hid (h3.set x _)
  have HGR : Hid (u0.grownBy (u0.setCell ⟨g, x, none⟩ (.int .i64 (q + m * (sy - sx)))) (some g)) := Lib.hid (grown_set _ _ _ _)
  clear h1 h2 h3 h4 c1 c2 e1 e2 hs hqx hQ hS
  go_enter Try.func79, Try.ntmps79
  have hj0 : Below u0.heap.size u0 u0.drew := (Below.refl _ _).drew
  refine wp_region_late (S := fun u => Below u0.heap.size u0 u) (X := [17]) (by kernel_rfl) ?_
  refine wpAnyL_takeD (i := 0) 8 (.slice (some ⟨g, 0, none⟩) N cap) rfl rfl (by kernel_rfl) (by kernel_rfl) (by kernel_rfl) (by kernel_rfl) (by kernel_rfl) (fun _ _ _ h => h) hj0 (Or.inl ⟨by rfl, fun u hu => ?_⟩) ?_
  · obtain ⟨t0, t1, t2, t3, t4⟩ := HS.out u hu
    go_simp
  try simp only [Act.put, List.setIfInBounds_toArray, List.set_cons_zero, List.set_cons_succ]
  refine wpAnyL_pureD (i := 1) 9 (.int .i64 (x : Int)) rfl rfl (by kernel_rfl) (by kernel_rfl) (by kernel_rfl) (fun _ _ _ h => h) (Or.inl ⟨by rfl, fun u _ => ?_⟩) ?_
  · go_simp
  try simp only [Act.put, List.setIfInBounds_toArray, List.set_cons_zero, List.set_cons_succ]
  refine wpAnyL_pureD (i := 2) 10 (.pointer (some ⟨g, x, none⟩)) rfl rfl (by kernel_rfl) (by kernel_rfl) (by kernel_rfl) (fun _ _ _ h => h) (Or.inl ⟨by rfl, fun u _ => ?_⟩) ?_
  · go_simp
  try simp only [Act.put, List.setIfInBounds_toArray, List.set_cons_zero, List.set_cons_succ]
  refine wpAnyL_takeD (i := 3) 11 (.int .i64 q) rfl rfl (by kernel_rfl) (by kernel_rfl) (by kernel_rfl) (by kernel_rfl) (by kernel_rfl) (fun _ _ _ h => h) hj0 (Or.inl ⟨by rfl, fun u hu => ?_⟩) ?_
  · obtain ⟨t0, t1, t2, t3, t4⟩ := HS.out u hu
    go_simp
  try simp only [Act.put, List.setIfInBounds_toArray, List.set_cons_zero, List.set_cons_succ]
  refine wpAnyL_pureD (i := 4) 12 (.int .i64 m) rfl rfl (by kernel_rfl) (by kernel_rfl) (by kernel_rfl) (fun _ _ _ h => h) (Or.inl ⟨by rfl, fun u _ => ?_⟩) ?_
  · go_simp
  try simp only [Act.put, List.setIfInBounds_toArray, List.set_cons_zero, List.set_cons_succ]
  refine wpAnyL_takeD (i := 5) 13 (.slice (some ⟨sb, so, none⟩) N sc) rfl rfl (by kernel_rfl) (by kernel_rfl) (by kernel_rfl) (by kernel_rfl) (by kernel_rfl) (fun _ _ _ h => h) hj0 (Or.inl ⟨by rfl, fun u hu => ?_⟩) ?_
  · obtain ⟨t0, t1, t2, t3, t4⟩ := HS.out u hu
    go_simp
  try simp only [Act.put, List.setIfInBounds_toArray, List.set_cons_zero, List.set_cons_succ]
  refine wpAnyL_pureD (i := 6) 14 (.int .i64 (y : Int)) rfl rfl (by kernel_rfl) (by kernel_rfl) (by kernel_rfl) (fun _ _ _ h => h) (Or.inl ⟨by rfl, fun u _ => ?_⟩) ?_
  · go_simp
  try simp only [Act.put, List.setIfInBounds_toArray, List.set_cons_zero, List.set_cons_succ]
  refine wpAnyL_pureD (i := 7) 15 (.pointer (some ⟨sb, so + y, none⟩)) rfl rfl (by kernel_rfl) (by kernel_rfl) (by kernel_rfl) (fun _ _ _ h => h) (Or.inl ⟨by rfl, fun u _ => ?_⟩) ?_
  · go_simp
  try simp only [Act.put, List.setIfInBounds_toArray, List.set_cons_zero, List.set_cons_succ]
  refine wpAnyL_takeD (i := 8) 16 (.int .i64 sy) rfl rfl (by kernel_rfl) (by kernel_rfl) (by kernel_rfl) (by kernel_rfl) (by kernel_rfl) (fun _ _ _ h => h) hj0 (Or.inl ⟨by rfl, fun u hu => ?_⟩) ?_
  · obtain ⟨t0, t1, t2, t3, t4⟩ := HS.out u hu
    go_simp
  try simp only [Act.put, List.setIfInBounds_toArray, List.set_cons_zero, List.set_cons_succ]
  refine wpAnyL_takeD (i := 9) 17 (.slice (some ⟨sb, so, none⟩) N sc) rfl rfl (by kernel_rfl) (by kernel_rfl) (by kernel_rfl) (by kernel_rfl) (by kernel_rfl) (fun _ _ _ h => h) hj0 (Or.inl ⟨by rfl, fun u hu => ?_⟩) ?_
  · obtain ⟨t0, t1, t2, t3, t4⟩ := HS.out u hu
    go_simp
  try simp only [Act.put, List.setIfInBounds_toArray, List.set_cons_zero, List.set_cons_succ]
  refine wpAnyL_pureD (i := 10) 18 (.int .i64 (x : Int)) rfl rfl (by kernel_rfl) (by kernel_rfl) (by kernel_rfl) (fun _ _ _ h => h) (Or.inl ⟨by rfl, fun u _ => ?_⟩) ?_
  · go_simp
  try simp only [Act.put, List.setIfInBounds_toArray, List.set_cons_zero, List.set_cons_succ]
  refine wpAnyL_pureD (i := 11) 19 (.pointer (some ⟨sb, so + x, none⟩)) rfl rfl (by kernel_rfl) (by kernel_rfl) (by kernel_rfl) (fun _ _ _ h => h) (Or.inl ⟨by rfl, fun u _ => ?_⟩) ?_
  · go_simp
  try simp only [Act.put, List.setIfInBounds_toArray, List.set_cons_zero, List.set_cons_succ]
  refine wpAnyL_takeD (i := 12) 20 (.int .i64 sx) rfl rfl (by kernel_rfl) (by kernel_rfl) (by kernel_rfl) (by kernel_rfl) (by kernel_rfl) (fun _ _ _ h => h) hj0 (Or.inl ⟨by rfl, fun u hu => ?_⟩) ?_
  · obtain ⟨t0, t1, t2, t3, t4⟩ := HS.out u hu
    go_simp
  try simp only [Act.put, List.setIfInBounds_toArray, List.set_cons_zero, List.set_cons_succ]
  refine wpAnyL_pureD (i := 13) 21 (.int .i64 (sy - sx)) rfl rfl (by kernel_rfl) (by kernel_rfl) (by kernel_rfl) (fun _ _ _ h => h) (Or.inl ⟨by rfl, fun u _ => ?_⟩) ?_
  · go_simp
    try (rw [IntKind.wrap_i64]; omega)
  try simp only [Act.put, List.setIfInBounds_toArray, List.set_cons_zero, List.set_cons_succ]
  refine wpAnyL_pureD (i := 14) 22 (.int .i64 (m * (sy - sx))) rfl rfl (by kernel_rfl) (by kernel_rfl) (by kernel_rfl) (fun _ _ _ h => h) (Or.inl ⟨by rfl, fun u _ => ?_⟩) ?_
  · go_simp
    try (rw [IntKind.wrap_i64]; omega)
  try simp only [Act.put, List.setIfInBounds_toArray, List.set_cons_zero, List.set_cons_succ]
  refine wpAnyL_pureD (i := 15) 23 (.int .i64 (q + m * (sy - sx))) rfl rfl (by kernel_rfl) (by kernel_rfl) (by kernel_rfl) (fun _ _ _ h => h) (Or.inl ⟨by rfl, fun u _ => ?_⟩) ?_
  · go_simp
    try (rw [IntKind.wrap_i64]; omega)
  try simp only [Act.put, List.setIfInBounds_toArray, List.set_cons_zero, List.set_cons_succ]
  refine wpAnyL_pureD (i := 16) 24 (.pointer (some ⟨g, x, none⟩)) rfl rfl (by kernel_rfl) (by kernel_rfl) (by kernel_rfl) (fun _ _ _ h => h) (Or.inl ⟨by rfl, fun u _ => ?_⟩) ?_
  · go_simp
  try simp only [Act.put, List.setIfInBounds_toArray, List.set_cons_zero, List.set_cons_succ]
  refine wpAnyL_one (i := 17) (by kernel_rfl) rfl (fun K hK => ?_)
  go_simp
  refine hK.out _ _ (fun h => absurd (by decide) h) ?_
  clear hK K
  refine wpAnyL_done (by kernel_rfl) ?_ _
  try simp only [Act.put, List.setIfInBounds_toArray, List.set_cons_zero, List.set_cons_succ]
  go_end0
  exact ⟨rfl, HP.out, grown_trans HGR.out (grown_below (Below.refl _ _).drew _)⟩
set_option maxHeartbeats 12800000 in
set_option maxRecDepth 100000 in
theorem palongC (N : Nat) (a : Option Addr) (cap : Nat) (L : List E) (hL : L.length ≤ 100000) (hR : Right N L) (pb ps g cp sc : Nat) (sa : Option Addr) (S D : List Int) (hD : D.length = N) (hS : S.length = N) (hs : Sb (fS S)) (hdb : ∀ v, -1048576 ≤ iAt D v ∧ iAt D v ≤ 1048576) (w : World) (h : EsAt w a L) (h1 : w.cell? ⟨pb, 0, none⟩ = some (.slice (some ⟨g, 0, none⟩) N cp)) (h2 : w.cell? ⟨ps, 0, none⟩ = some (.slice sa N sc)) (h3 : PB w g D) (h4 : IsAt w sa S) (hlb : pb < w.heap.size) (hls : ps < w.heap.size) (ne1 : pb ≠ g) (ne2 : ps ≠ g) (ne3 : ∀ p, sa = some p → some p.block ≠ some g) (ne4 : ∀ p, a = some p → 0 < L.length → some p.block ≠ some g) :
    Calls Try.prog 78 #[gv N a L.length cap, (.func (.func 79) #[] #[.pointer (some ⟨pb, 0, none⟩), .pointer (some ⟨ps, 0, none⟩)])] w (fun e w' => e = .returned (.tuple #[]) ∧ PB w' g (chL (fS S) D L L.length) ∧ w.grownBy w' (some g)) := by
  have HR := Lib.hid hR.rng
  have HBD : Hid (∀ i, i ≤ L.length → ∀ v, -100000000000000 ≤ iAt (chL (fS S) D L i) v ∧ iAt (chL (fS S) D L i) v ≤ 100000000000000) := Lib.hid fun i hi v => by
    rw [chL_at (n := N) (fS S) D L (by omega) hR.rng i hi v]
    have h5 := sumL_bd (n := N) hs v L hR.rng i hi
    have h6 := hdb v
    omega
  have HCL := Lib.hid (fun i => chL_len (fS S) D L i)
  have HC1 : Hid (∀ i, chL (fS S) D L (i + 1) = stE (fS S) (chL (fS S) D L i) (eAt L i)) := Lib.hid fun _ => rfl
  have HC0 : Hid (chL (fS S) D L 0 = D) := Lib.hid rfl
  have HDN := Lib.hid hD
  have HSN := Lib.hid hS
  have HSB := Lib.hid hs
  generalize chL (fS S) D L = Z at *
  obtain ⟨W, hW⟩ : ∃ W, W = w.alloc (Obj.cells #[.int .i64 (N : Int), .slice a L.length cap] 24) := ⟨_, rfl⟩
  have hB0 : Below w.heap.size w W := by rw [hW]; exact (Below.refl _ w).alloc (Nat.le_refl _) _
  have hG : Blk W w.heap.size 24 #[.int .i64 (N : Int), .slice a L.length cap] := by rw [hW]; exact Blk.new _ _ _
  have hpbl := h3.lt
  have g0 : W.cell? ⟨w.heap.size, 0, none⟩ = some (.int .i64 (N : Int)) := hG.cell 0
  have g1 : W.cell? ⟨w.heap.size, 1, none⟩ = some (.slice a L.length cap) := hG.cell 1
  have HW := Lib.hid hW
  have HK0 : Hid (∀ u, w.grownBy u (some g) → u.cell? ⟨pb, 0, none⟩ = some (.slice (some ⟨g, 0, none⟩) N cp) ∧ u.cell? ⟨ps, 0, none⟩ = some (.slice sa N sc) ∧ IsAt u sa S ∧ EsAt u a L ∧ pb < u.heap.size ∧ ps < u.heap.size) := Lib.hid fun u hu => ⟨(World.cell?_of_block (a := ⟨pb, 0, none⟩) (hu.block pb hlb (fun e => ne1 (by injection e)))).trans h1, (World.cell?_of_block (a := ⟨ps, 0, none⟩) (hu.block ps hls (fun e => ne2 (by injection e)))).trans h2, h4.grown hu ne3, EsAt.grown h hu ne4, Nat.lt_of_lt_of_le hlb hu.size, Nat.lt_of_lt_of_le hls hu.size⟩
  have HG0 : Hid (w.grownBy W (some g)) := Lib.hid (grown_below hB0 _)
  have HP0 : Hid (PB W g D) := Lib.hid (h3.keep hB0)
  unfold gv
  clear h h1 h2 h3 h4 hlb hls ne1 ne2 ne3 ne4 hR hD hS hs hdb hG hW hB0 hpbl
  go_enter Try.func78, Try.ntmps78
  go_wp2
  rw [← HW.out]
  go_loopw [9] (fun x wr => ∃ i : Nat, i ≤ L.length ∧ x = .int .i64 i ∧ PB wr g (Z i) ∧ w.grownBy wr (some g)) (fun x _ => L.length - (intOf x).toNat)
  case atStart => exact ⟨0, by omega, rfl, by rw [HC0.out]; exact HP0.out, HG0.out⟩
  case round =>
    obtain ⟨i, hi, rfl, hp, hg⟩ := hrel
    have HPI := Lib.hid hp
    have HGI := Lib.hid hg
    by_cases hlt : i < L.length
    · have i1 : (i : Int) < (L.length : Int) := by omega
      have i2 : (0 : Int) ≤ (i : Int) := by omega
      have HLT := Lib.hid hlt
      have HZ1 := Lib.hid (HC1.out i)
      obtain ⟨-, -, -, hes, -, -⟩ := HK0.out wr hg
      obtain ⟨b1, o1, hb1, q1, x1, x2, x3⟩ := RowAt.three hes i hlt
      subst hb1
      have hrn := HR.out (eAt L i) (by rw [← eAt_get L i hlt]; exact List.getElem_mem hlt)
      have HQB := Lib.hid (HBD.out i hi)
      have HQL := Lib.hid (HCL.out i)
      clear hes hp hg hlt
      generalize eAt L i = e at *
      generalize Z i = Q at *
      obtain ⟨ea, eb, m⟩ := e
      simp only at hrn x1 x2 x3
      obtain ⟨x, hxe⟩ : ∃ x : Nat, ea = x := ⟨ea.toNat, by omega⟩
      obtain ⟨y, hye⟩ : ∃ y : Nat, eb = y := ⟨eb.toNat, by omega⟩
      subst hxe hye
      have HM : Hid (0 ≤ m ∧ m ≤ 50) := Lib.hid (by omega)
      have HXN : Hid (x < N) := Lib.hid (by omega)
      have HYN : Hid (y < N) := Lib.hid (by omega)
      obtain ⟨V, hV⟩ : ∃ V, V = wr.alloc (Obj.cells #[.int .i64 (x : Int), .int .i64 (y : Int), .int .i64 m] 103) := ⟨_, rfl⟩
      have hbV : Below wr.heap.size wr V := by rw [hV]; exact (Below.refl _ _).alloc (Nat.le_refl _) _
      have hbl : Blk V wr.heap.size 103 #[.int .i64 (x : Int), .int .i64 (y : Int), .int .i64 m] := by rw [hV]; exact Blk.new _ _ _
      have HV := Lib.hid hV
      have HGV : Hid (w.grownBy V (some g)) := Lib.hid (grown_trans HGI.out (grown_below hbV _))
      have HPV : Hid (PB V g Q) := Lib.hid (HPI.out.keep hbV)
      have HBL := Lib.hid hbl
      have y1 : V.cell? ⟨wr.heap.size, 0, none⟩ = some (.int .i64 (x : Int)) := hbl.cell 0
      have y2 : V.cell? ⟨wr.heap.size, 1, none⟩ = some (.int .i64 (y : Int)) := hbl.cell 1
      have y3 : V.cell? ⟨wr.heap.size, 2, none⟩ = some (.int .i64 m) := hbl.cell 2
      have HGN : Hid (g < wr.heap.size) := Lib.hid HPI.out.lt
      rw [hV] at y1 y2 y3
      clear hV hbV hbl hrn
      by_cases hxy : x = y
      · subst hxy
        have d1 : ((x : Int) != (x : Int)) = false := by simp
        have HZN : Hid (Z (i + 1) = Q) := Lib.hid (by rw [HZ1.out]; unfold stE; rw [if_pos rfl])
        go_wp2
        rw [← HV.out]
        go_roundw
        case rel => exact ⟨i + 1, by have := HLT.out; omega, by go_num, by rw [HZN.out]; exact HPV.out, HGV.out⟩
        case measure => have := HLT.out; simp [intOf]; omega
      · have d1 : ((x : Int) != (y : Int)) = true := by rw [bne_iff_ne]; omega
        have HZN : Hid (Z (i + 1) = (Q.set x (iAt Q x + m * (fS S (y : Int) - fS S (x : Int)))).set y (iAt (Q.set x (iAt Q x + m * (fS S (y : Int) - fS S (x : Int)))) y + m * (fS S (x : Int) - fS S (y : Int)))) := Lib.hid (by rw [HZ1.out]; unfold stE; rw [if_neg (by simp only; omega)]; simp)
        have HYB : Hid (iAt (Q.set x (iAt Q x + m * (fS S (y : Int) - fS S (x : Int)))) y = iAt Q y) := Lib.hid (by rw [iAt_set _ _ _ _ (by rw [HQL.out, HDN.out]; exact HXN.out), if_neg hxy])
        clear hxy
        go_wp2_with fail
        rw [← HV.out]
        obtain ⟨k1, k2, k3, -, k5, k6⟩ := HK0.out V HGV.out
        refine (pchg1_any N x y HXN.out HYN.out m (iAt Q x) HM.out (by have := HQB.out x; omega) pb ps g cp sc sa S Q (by rw [HQL.out, HDN.out]) HSN.out HSB.out rfl V k1 k2 HPV.out k3 k5 k6).mono ?_
        rintro e1 w1 ⟨rfl, hp1, hg1⟩
        have HP1 := Lib.hid hp1
        have HG1 := Lib.hid (grown_trans HGV.out hg1)
        have hbl1 : Blk w1 wr.heap.size 103 #[.int .i64 (x : Int), .int .i64 (y : Int), .int .i64 m] := HBL.out.grown hg1 (fun e => by injection e with e; have := HGN.out; omega)
        clear y1 y2 y3 k1 k2 k3 k5 k6 hp1 hg1
        have y1 := hbl1.cell 0
        have y2 := hbl1.cell 1
        have y3 := hbl1.cell 2
        simp only [List.getElem?_toArray, List.getElem?_cons_zero, List.getElem?_cons_succ] at y1 y2 y3
        clear hbl1
        go_wp2_with fail
        obtain ⟨k1, k2, k3, -, k5, k6⟩ := HK0.out w1 HG1.out
        refine (pchg1_any N y x HYN.out HXN.out m (iAt (Q.set x (iAt Q x + m * (fS S (y : Int) - fS S (x : Int)))) y) HM.out (by rw [HYB.out]; have := HQB.out y; omega) pb ps g cp sc sa S _ (by rw [List.length_set, HQL.out, HDN.out]) HSN.out HSB.out rfl w1 k1 k2 HP1.out k3 k5 k6).mono ?_
        rintro e2 w2 ⟨rfl, hp2, hg2⟩
        have HP2 : Hid (PB w2 g (Z (i + 1))) := Lib.hid (by rw [HZN.out]; exact hp2)
        have HG2 := Lib.hid (grown_trans HG1.out hg2)
        clear y1 y2 y3 k1 k2 k3 k5 k6 hp2 hg2
        go_wp2
        go_roundw
        case rel => exact ⟨i + 1, by have := HLT.out; omega, by go_num, HP2.out, HG2.out⟩
        case measure => have := HLT.out; simp [intOf]; omega
    · obtain rfl : i = L.length := by omega
      have i1 : ¬ (L.length : Int) < (L.length : Int) := by omega
      clear hp hg
      go_wp2
      go_end0
      exact ⟨rfl, HPI.out, HGI.out⟩
end Go.Proofs.Ytgejkgeojjgclaa
