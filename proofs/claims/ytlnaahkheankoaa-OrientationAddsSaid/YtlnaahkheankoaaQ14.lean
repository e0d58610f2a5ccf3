/- Acyclic orientations with one source, by the program. And: The chapter's examples hold. -/
import Derived.Test.YtlnaahkheankoaaQ13
import Derived.Test.YtlnaahkheankoaaQ12
import Derived.Maps.OwnIn
import Derived.Test.YtlnaahkheankoaaQ09
namespace Go.Proofs.Ytlnaahkheankoaa
open Go.RowKit Go.Shelf Go.Proofs.Gr
attribute [local go_sem] Oper.semAt_some

set_option maxHeartbeats 12800000 in
set_option maxRecDepth 100000 in
theorem pcheckfew_any (z : Int) (w : World) : Calls Try.prog 65 #[.int .i64 z] w (fun e x => e = .returned (.int .i64 (if 15 ≤ z then 12 else 0)) ∧ w = x) := by
  have HB := Lib.hid (Try.bits_Len 16384 w (by omega) (by omega))
  rw [show Lib.bitLen (16384 : Int).toNat = 15 by decide +kernel] at HB
  by_cases h : 15 ≤ z
  · rw [if_pos h]
    have h1 : (15 : Int) ≤ z := h
    go_enter Try.func65, Try.ntmps65
    go_wp2_with fail
    refine HB.out.mono ?_
    rintro e x ⟨rfl, rfl⟩
    go_wp2
    go_ret
    exact ⟨rfl, rfl⟩
  · rw [if_neg h]
    have h1 : ¬ (15 : Int) ≤ z := h
    go_enter Try.func65, Try.ntmps65
    go_wp2_with fail
    refine HB.out.mono ?_
    rintro e x ⟨rfl, rfl⟩
    go_wp2
    go_ret
    exact ⟨rfl, rfl⟩
/-- Two lists of ints, compared by the library. -/
theorem pequalI_any (a b : Option Addr) (c d : Nat) (X Y : List Int) (hX : X.length ≤ 1000000) (hY : Y.length ≤ 1000000) (w : World) (hx : IsAt w a X) (hy : IsAt w b Y) :
    Calls Try.prog 53 #[.slice a X.length c, .slice b Y.length d] w (fun e w' => e = .returned (.bool (decide (X = Y))) ∧ Below w.heap.size w w') := by
  by_cases hl : X.length = Y.length
  · by_cases h0 : X.length = 0
    · have e1 : X = [] := List.length_eq_zero_iff.1 h0
      have e2 : Y = [] := List.length_eq_zero_iff.1 (hl ▸ h0)
      subst e1 e2
      refine (Try.slices_Equal_int_empty a b c 0 d w (by omega)).mono ?_
      rintro e w' ⟨rfl, rfl⟩
      exact ⟨by simp, Below.refl _ _⟩
    · obtain ⟨b1, o1, rfl, -, -⟩ := hx.one 0 (by omega)
      obtain ⟨b2, o2, rfl, -, -⟩ := hy.one 0 (by omega)
      refine (Try.slices_Equal_int b1 o1 X.length c b2 o2 Y.length d X Y w (Nat.le_refl _) (Nat.le_refl _) (by omega) (by omega) (fun j hj => ?_) (fun j hj => ?_)).mono ?_
      · obtain ⟨b', o', h1, h2, h3⟩ := hx.one j hj
        injection h1 with h1
        injection h1 with e1 e2
        subst e1 e2
        exact h3
      · obtain ⟨b', o', h1, h2, h3⟩ := hy.one j hj
        injection h1 with h1
        injection h1 with e1 e2
        subst e1 e2
        exact h3
      · rintro e w' ⟨rfl, q, rfl⟩
        refine ⟨?_, below_drewN (Below.refl _ _) q⟩
        rw [List.take_length, List.take_length, Bool.beq_eq_decide_eq]
  · refine (Try.slices_Equal_int_lens a b X.length c Y.length d w hl).mono ?_
    rintro e w' ⟨rfl, rfl⟩
    exact ⟨by rw [decide_eq_false (fun h => hl (by rw [h]))], Below.refl _ _⟩
theorem infoS : (Try.prog.info? 25).map (fun i => (i.zero, i.size, i.bytes)) = some (some (.slice none 0 0), 1, 24) := by kernel_rfl
def prU (P : List (Int × Int)) (N : Nat) (q : Int) (b : List Bool) : Bool := srtB (arcs P b) N && decide (srcL (inL (arcs P b) N (arcs P b).length) N = [q])
def uniqR (P : List (Int × Int)) (N : Nat) (q : Int) : List (List Bool) := (allB P.length []).filter (prU P N q)
/-- Hands back lists of bools and an error's number. -/
def GivesLE (w : World) (M : List (List Bool)) (k : Nat) (e : Ending) (x : World) : Prop := ∃ a c, e = .returned (.tuple #[.slice a M.length c, .int .i64 (k : Nat)]) ∧ LsAt x a M ∧ Below w.heap.size w x
set_option maxHeartbeats 12800000 in
set_option maxRecDepth 100000 in
theorem punique_ok (N : Nat) (a : Option Addr) (cap : Nat) (L : List E) (hL : L.length ≤ 100000) (q : Int) (hc : chkG (N : Int) L = 0) (hq : 0 ≤ q ∧ q < N) (hm : (endsG L).length ≤ 14) (w : World) (h : EsAt w a L) :
    CallsIn Fence.wide 3 Try.prog 29 #[gv N a L.length cap, .int .i64 q] w (GivesLE w (uniqR (endsG L) N q) 0) := by
  have hN := chkG_n hc
  have hN12 : N ≤ 12 := by omega
  have HEN := Lib.hid (fun w h => pends_any N a cap L hL w h)
  rw [hc, if_pos rfl] at HEN
  have HAR := Lib.hid (fun O j hj => arcs_rng (right_of hc) O j hj)
  have HFEW := Lib.hid (pcheckfew_any ((endsG L).length : Int))
  rw [if_neg (by omega)] at HFEW
  have q1 : ¬ q < 0 := by omega
  have q2 : ¬ (N : Int) ≤ q := by omega
  unfold GivesPE gv at *
  unfold GivesLE uniqR
  generalize endsG L = P at *
  obtain ⟨W, hW⟩ : ∃ W, W = (w.alloc (Obj.cells #[.int .i64 (N : Int), .slice a L.length cap] 24)).alloc (Obj.cells #[.int .i64 q] 3) := ⟨_, rfl⟩
  have HB0 : Hid (Below w.heap.size w W) := Lib.hid (by rw [hW]; exact ((Below.refl _ w).alloc (Nat.le_refl _) _).alloc (by simp) _)
  have hG : Blk W w.heap.size 24 #[.int .i64 (N : Int), .slice a L.length cap] := by rw [hW]; exact (Blk.new _ _ _).alloc _
  have hQ : Blk W (w.heap.size + 1) 3 #[.int .i64 q] := by
    rw [hW]
    have := Blk.new (w.alloc (Obj.cells #[.int .i64 (N : Int), .slice a L.length cap] 24)) 3 #[.int .i64 q]
    rwa [World.size_alloc] at this
  have HG := Lib.hid hG
  have HQ := Lib.hid hQ
  have HE := Lib.hid (h.keep HB0.out)
  have HW := Lib.hid hW
  clear hW hG hQ h hc
  refine callsIn_of_wp_marks Try.func29 rfl trivial ?_ rfl
  simp only [Try.ntmps29, List.size_toArray, List.length_cons, List.length_nil, Nat.reduceAdd, Nat.reduceSub, Array.replicate_succ, Array.replicate_zero, List.push_toArray, List.append_toArray, List.nil_append, List.cons_append]
  gi_wp2_with fail
  rw [← HW.out]
  refine ⟨trivial, ?_⟩
  refine (callsIn_wide.2 (HEN.out _ HE.out)).mono ?_
  rintro e w1 ⟨p, cp, rfl, hp, hb1⟩
  have HB1 := Lib.hid hb1
  obtain ⟨w2, hw2⟩ : ∃ w2, w2 = w1.alloc (Obj.cells #[.slice p P.length cp] 83) := ⟨_, rfl⟩
  have hb2 : Below w1.heap.size w1 w2 := by rw [hw2]; exact (Below.refl _ _).alloc (Nat.le_refl _) _
  have hE2 : Blk w2 w1.heap.size 83 #[.slice p P.length cp] := by rw [hw2]; exact Blk.new _ _ _
  have hbW2 : Below W.heap.size W w2 := hb1.trans (hb2.mono hb1.size)
  have HP2 := Lib.hid (hp.keep hb2)
  have HE2 := Lib.hid hE2
  have HG2 := Lib.hid (HG.out.below hbW2 HG.out.lt)
  have HQ2 := Lib.hid (HQ.out.below hbW2 HQ.out.lt)
  have HBW2 := Lib.hid hbW2
  have g0 : (w1.alloc (Obj.cells #[.slice p P.length cp] 83)).cell? ⟨w.heap.size, 0, none⟩ = some (.int .i64 (N : Int)) := by rw [← hw2]; exact HG2.out.cell 0
  have g2 : (w1.alloc (Obj.cells #[.slice p P.length cp] 83)).cell? ⟨w.heap.size + 1, 0, none⟩ = some (.int .i64 q) := by rw [← hw2]; exact HQ2.out.cell 0
  have HW2 := Lib.hid hw2
  clear hb1 hp hb2 hE2 hbW2 hw2
  gi_wp2_with fail
  rw [← HW2.out]
  refine ⟨trivial, ?_⟩
  refine (callsIn_wide.2 (HFEW.out _)).mono ?_
  rintro e u1 ⟨rfl, rfl⟩
  obtain ⟨w3, hw3⟩ : ∃ w3, w3 = w2.alloc (Obj.cells #[.slice none 0 0] 45) := ⟨_, rfl⟩
  have e2 : (w2.alloc (Obj.cells #[.slice none 0 0] 45)).cell? ⟨w1.heap.size, 0, none⟩ = some (.slice p P.length cp) := (HE2.out.alloc _).cell 0
  have HW3 := Lib.hid hw3
  clear hw3 g0 g2
  gi_wp2_with fail
  rw [← HW3.out]
  refine ⟨trivial, ?_⟩
  refine (callsIn_wide.2 (porients_any _ _)).mono ?_
  rintro e w4 ⟨rfl, hw4⟩
  have HW4 := Lib.hid hw4
  clear hw4 e2
  gi_wp2_with fail
  obtain ⟨i0, hi0, hz0, hz1, hz2⟩ := info_parts infoS
  have h34 : Below w3.heap.size w3 w4 := by rw [HW4.out]; exact (Below.refl _ _).alloc (Nat.le_refl _) _
  have h23 : Below w2.heap.size w2 w3 := by rw [HW3.out]; exact (Below.refl _ _).alloc (Nat.le_refl _) _
  have hz3 : w3.heap.size = w2.heap.size + 1 := by rw [HW3.out]; simp
  have hz4 : w4.heap.size = w3.heap.size + 1 := by rw [HW4.out]; simp
  have hl4 : Blk w4 w2.heap.size 45 #[.slice none 0 0] := by rw [HW4.out, HW3.out]; exact (Blk.new _ _ _).alloc _
  have hbs : Blk w4 (w3.heap.size) 3 #[.int .i64 (P.length : Int)] := by rw [HW4.out]; exact Blk.new _ _ _
  have hui0 : UI w2 (prU P N q) (fun r => r = w3.heap.size) [] w4 := by
    refine ⟨h23.trans (h34.mono h23.size), fun r hr => by omega, fun r hr => by omega, ⟨.slice none 0 0, hl4, World.ownsRow_nil _ _ _ _, fun k hk => by cases hk⟩, fun y hy => by cases hy⟩
  have HZ3 := Lib.hid hz3
  have HZ4 := Lib.hid hz4
  have HPL : Hid (2 ^ P.length ≤ 16384) := Lib.hid (by exact Nat.pow_le_pow_right (n := 2) (by decide) (show P.length ≤ 14 from hm))
  refine wpIn_rangeFunc_bits (by omega) (gf := 97) (lb := #[.pointer (some ⟨w3.heap.size, 0, none⟩)]) rfl (enters_of Try.func97 (by kernel_rfl) rfl)
    (orient_seq 2 (2 ^ P.length) P.length (by omega) (Nat.le_refl _) (w3.heap.size) (fun r => r = w3.heap.size) w4 hbs rfl (fun r hr => by omega))
    (fun r hr => by omega) (Below.refl _ _) (fun _ => rfl) (fun T pre W => UI w2 (prU P N q) T pre W)
    (fun T s A A' h hg => h.grow hg) (fun T s A A' r h hr hg => h.turn hr hg) (fun T T' s A h hT => h.less hT)
    (fun T s A A' r o h hg h1 h2 ho hc => h.recd hg (by omega) ho hc) (fun T x A A' r o h hg ho hc => h.recd hg ho hc) hui0 (fun x => { tmps := #[.agg #[.int .i64 (N : Int), .slice a L.length cap], .int .i64 q, .pointer (some ⟨w.heap.size, 0, none⟩), .pointer (some ⟨w.heap.size + 1, 0, none⟩), .slice none 0 0, .int .i64 0, .pointer (some ⟨w1.heap.size, 0, none⟩), .int .i64 0, .int .i64 0, .pointer (some ⟨w2.heap.size, 0, none⟩), .slice x.a x.b.length x.c, undef, undef, undef, .tuple #[.slice p P.length cp, .int .i64 0], .agg #[.int .i64 (N : Int), .slice a L.length cap], .tuple #[.slice p P.length cp, .int .i64 0], .slice p P.length cp, .int .i64 0, .int .i64 0, .bool false, undef, .int .i64 q, .bool (decide (q < 0)), .bool (decide (q < 0)), .int .i64 q, .pointer (some ⟨w.heap.size, 0, none⟩), .int .i64 (N : Int), .bool (decide ((N : Int) ≤ q)), .bool (decide (q < 0) || decide ((N : Int) ≤ q)), .slice p P.length cp, .int .i64 (P.length : Int), .int .i64 0, .int .i64 0, .bool false, undef, .slice p P.length cp, .int .i64 (P.length : Int), .func (.func 97) #[] #[.pointer (some ⟨w3.heap.size, 0, none⟩)], .slice x.a x.b.length x.c, undef, undef, undef, undef, undef, undef, undef, undef, undef, undef, undef, undef, undef, undef, undef, undef, undef, undef, undef, undef, undef, undef, undef, undef, undef], defers := [] }) ?assign ?body ?done
  case assign =>
    intro l k x W K hK
    clear hz3 hz4 hbs hl4 hui0
    unfold encX
    gi_wp2
    exact hK
  case body =>
    intro l k T pre x W hI hlen hsz ht1 ht2 hQ
    have HI := Lib.hid hI
    have HQX := Lib.hid hQ
    have HXL := Lib.hid hQ.1
    have e0 : W.cell? ⟨w1.heap.size, 0, none⟩ = some (.slice p P.length cp) := (HE2.out.below hI.low HE2.out.lt).cell 0
    have HPW := Lib.hid (HP2.out.keep hI.low)
    have HLD := Lib.hid (pled_any p cp P (by omega) x.a x.c x.b hQ.1.symm W HPW.out hQ.2.1)
    unfold GivesPB at HLD
    clear hI hQ hsz ht1 ht2 h34 h23 hz3 hz4 hl4 hbs hui0
    gi_wp2_with fail
    refine ⟨trivial, fun h => (by cases h), ?_⟩
    refine (CallsIn.inRound l (callsIn_wide.2 HLD.out)).mono ?_
    rintro e x1 ⟨g, hg, rfl, hra, hb1⟩
    have hpa : PsAt x1 (some ⟨g, 0, none⟩) (arcs P x.b) := hra.row encP_len
    have hN1 : x1.cell? ⟨w.heap.size, 0, none⟩ = some (.int .i64 (N : Int)) := ((HG2.out.below HI.out.low HG2.out.lt).below hb1 (Nat.lt_of_lt_of_le HG2.out.lt HI.out.low.size)).cell 0
    have HN0 := Lib.hid hN1
    have hal : (arcs P x.b).length ≤ 5000000 := by rw [arcs_len]; omega
    have HSR := Lib.hid (psorted_any N (by omega) (some ⟨g, 0, none⟩) (arcs P x.b).length (arcs P x.b) hal (fun j hj => (HAR.out x.b j hj).2) x1 hpa)
    have HSO := Lib.hid (fun u h => psources_any N (by omega) (some ⟨g, 0, none⟩) (arcs P x.b).length (arcs P x.b) hal (fun j hj => (HAR.out x.b j hj).2) u h)
    have HPA := Lib.hid hpa
    have HB1 := Lib.hid hb1
    have hq1 : x1.cell? ⟨w.heap.size + 1, 0, none⟩ = some (.int .i64 q) := ((HQ2.out.below HI.out.low HQ2.out.lt).below hb1 (Nat.lt_of_lt_of_le HQ2.out.lt HI.out.low.size)).cell 0
    have HPR : Hid (prU P N q x.b = (srtB (arcs P x.b) N && decide (srcL (inL (arcs P x.b) N (arcs P x.b).length) N = [q]))) := Lib.hid rfl
    have HQ1 := Lib.hid hq1
    unfold GivesI at *
    generalize srtB (arcs P x.b) N = sb at *
    generalize srtL (arcs P x.b) N = sl at *
    have hsl : (srcL (inL (arcs P x.b) N (arcs P x.b).length) N).length ≤ 1000000 := Nat.le_trans (srcL_len _ _) (by omega)
    have heq := fun (a b : Option Addr) (c d : Nat) (u : World) hx hy => pequalI_any a b c d (srcL (inL (arcs P x.b) N (arcs P x.b).length) N) [q] hsl (by simp) u hx hy
    clear hsl
    generalize srcL (inL (arcs P x.b) N (arcs P x.b).length) N = so at *
    obtain ⟨bo, hbo⟩ : ∃ bo, decide (so = [q]) = bo := ⟨_, rfl⟩
    simp only [hbo] at heq HPR
    have HEQ := Lib.hid heq
    clear heq hbo
    clear hpa hra hb1 hq1 e0
    gi_wp2_with fail
    refine ⟨trivial, fun h => (by cases h), ?_⟩
    refine (CallsIn.inRound l (callsIn_wide.2 HSR.out)).mono ?_
    rintro e x2 ⟨sa, sc, rfl, -, hb2⟩
    have HB2 := Lib.hid hb2
    clear hN1 hb2
    gi_wp2_with fail
    have HF : Hid (∀ u, Below x2.heap.size x2 u → u.cell? ⟨w.heap.size, 0, none⟩ = some (.int .i64 (N : Int)) ∧ u.cell? ⟨w.heap.size + 1, 0, none⟩ = some (.int .i64 q)) := Lib.hid (fun u hu => by
      have h9 : Below w2.heap.size w2 u := HI.out.low.trans ((HB1.out.trans ((HB2.out.trans (hu.mono HB2.out.size)).mono HB1.out.size)).mono HI.out.low.size)
      exact ⟨(HG2.out.below h9 HG2.out.lt).cell 0, (HQ2.out.below h9 HQ2.out.lt).cell 0⟩)
    cases sb with
    | false =>
      have hbz : Below W.heap.size W x2.drew := HB1.out.trans ((HB2.out.drew).mono HB1.out.size)
      refine wpIn_region_lateR (S := fun u => Below x2.heap.size x2 u) (X := []) (by kernel_rfl) (by kernel_rfl) (fun _ _ h => (by cases h.1)) ?_
      refine wpAnyL_pureD (i := 0) 50 (.bool false) rfl rfl (by kernel_rfl) (by kernel_rfl) (by kernel_rfl) (fun _ _ _ h => h) (Or.inl ⟨by rfl, fun u _ => ?_⟩) ?_
      · go_simp
      try simp only [Act.put, List.setIfInBounds_toArray, List.set_cons_zero, List.set_cons_succ]
      refine wpAnyL_pureD (i := 1) 51 (.bool false) rfl rfl (by kernel_rfl) (by kernel_rfl) (by kernel_rfl) (fun _ _ _ h => h) (Or.inl ⟨by rfl, fun u _ => ?_⟩) ?_
      · go_simp
      try simp only [Act.put, List.setIfInBounds_toArray, List.set_cons_zero, List.set_cons_succ]
      refine wpAnyL_pureD (i := 2) 52 undef rfl rfl (by kernel_rfl) (by kernel_rfl) (by kernel_rfl) (fun _ _ _ h => h) (Or.inr ⟨by kernel_rfl, rfl⟩) ?_
      try simp only [Act.put, List.setIfInBounds_toArray, List.set_cons_zero, List.set_cons_succ]
      refine wpAnyL_pureD (i := 3) 53 undef rfl rfl (by kernel_rfl) (by kernel_rfl) (by kernel_rfl) (fun _ _ _ h => h) (Or.inr ⟨by kernel_rfl, rfl⟩) ?_
      try simp only [Act.put, List.setIfInBounds_toArray, List.set_cons_zero, List.set_cons_succ]
      refine wpAnyL_pureD (i := 4) 54 undef rfl rfl (by kernel_rfl) (by kernel_rfl) (by kernel_rfl) (fun _ _ _ h => h) (Or.inr ⟨by kernel_rfl, rfl⟩) ?_
      try simp only [Act.put, List.setIfInBounds_toArray, List.set_cons_zero, List.set_cons_succ]
      refine wpAnyL_pureD (i := 5) 55 undef rfl rfl (by kernel_rfl) (by kernel_rfl) (by kernel_rfl) (fun _ _ _ h => h) (Or.inr ⟨by kernel_rfl, rfl⟩) ?_
      try simp only [Act.put, List.setIfInBounds_toArray, List.set_cons_zero, List.set_cons_succ]
      refine wpAnyL_pureD (i := 6) 56 undef rfl rfl (by kernel_rfl) (by kernel_rfl) (by kernel_rfl) (fun _ _ _ h => h) (Or.inr ⟨by kernel_rfl, rfl⟩) ?_
      try simp only [Act.put, List.setIfInBounds_toArray, List.set_cons_zero, List.set_cons_succ]
      refine wpAnyL_pureD (i := 7) 57 undef rfl rfl (by kernel_rfl) (by kernel_rfl) (by kernel_rfl) (fun _ _ _ h => h) (Or.inr ⟨by kernel_rfl, rfl⟩) ?_
      try simp only [Act.put, List.setIfInBounds_toArray, List.set_cons_zero, List.set_cons_succ]
      refine wpAnyL_pureD (i := 8) 58 undef rfl rfl (by kernel_rfl) (by kernel_rfl) (by kernel_rfl) (fun _ _ _ h => h) (Or.inr ⟨by kernel_rfl, rfl⟩) ?_
      try simp only [Act.put, List.setIfInBounds_toArray, List.set_cons_zero, List.set_cons_succ]
      refine wpAnyL_pureD (i := 9) 59 (.bool false) rfl rfl (by kernel_rfl) (by kernel_rfl) (by kernel_rfl) (fun _ _ _ h => h) (Or.inl ⟨by rfl, fun u _ => ?_⟩) ?_
      · go_simp
      try simp only [Act.put, List.setIfInBounds_toArray, List.set_cons_zero, List.set_cons_succ]
      refine wpAnyL_done (by kernel_rfl) ?_ _
      try simp only [Act.put, List.setIfInBounds_toArray, List.set_cons_zero, List.set_cons_succ]
      gi_wp2
      exact UI.skip HI.out (by rw [HPR.out]; rfl) hbz _

    | true =>
      have hj0 : Below x2.heap.size x2 x2.drew := (Below.refl _ _).drew
      refine wpIn_region_lateR (S := fun u => Below x2.heap.size x2 u) (X := []) (by kernel_rfl) (by kernel_rfl) (fun _ _ h => (by cases h.1)) ?_
      refine wpAnyL_pureD (i := 0) 50 (.bool true) rfl rfl (by kernel_rfl) (by kernel_rfl) (by kernel_rfl) (fun _ _ _ h => h) (Or.inl ⟨by rfl, fun u _ => ?_⟩) ?_
      · go_simp
      try simp only [Act.put, List.setIfInBounds_toArray, List.set_cons_zero, List.set_cons_succ]
      refine wpAnyL_pureD (i := 1) 51 (.bool true) rfl rfl (by kernel_rfl) (by kernel_rfl) (by kernel_rfl) (fun _ _ _ h => h) (Or.inl ⟨by rfl, fun u _ => ?_⟩) ?_
      · go_simp
      try simp only [Act.put, List.setIfInBounds_toArray, List.set_cons_zero, List.set_cons_succ]
      refine wpAnyL_pureD (i := 2) 52 (.pointer (some ⟨w.heap.size, 0, none⟩)) rfl rfl (by kernel_rfl) (by kernel_rfl) (by kernel_rfl) (fun _ _ _ h => h) (Or.inl ⟨by rfl, fun u _ => ?_⟩) ?_
      · go_simp
      try simp only [Act.put, List.setIfInBounds_toArray, List.set_cons_zero, List.set_cons_succ]
      refine wpAnyL_takeD (i := 3) 53 (.int .i64 (N : Int)) rfl rfl (by kernel_rfl) (by kernel_rfl) (by kernel_rfl) (by kernel_rfl) (by kernel_rfl) (fun _ _ _ h => h) hj0 (Or.inl ⟨by rfl, fun u hu => ?_⟩) ?_
      · obtain ⟨t0, t1⟩ := HF.out u hu
        go_simp
      try simp only [Act.put, List.setIfInBounds_toArray, List.set_cons_zero, List.set_cons_succ]
      refine wpAnyL_pureD (i := 4) 54 (.slice (some ⟨g, 0, none⟩) (arcs P x.b).length (arcs P x.b).length) rfl rfl (by kernel_rfl) (by kernel_rfl) (by kernel_rfl) (fun _ _ _ h => h) (Or.inl ⟨by rfl, fun u _ => ?_⟩) ?_
      · go_simp
      try simp only [Act.put, List.setIfInBounds_toArray, List.set_cons_zero, List.set_cons_succ]
      refine wpAnyL_takeD (i := 6) 56 (.int .i64 q) rfl rfl (by kernel_rfl) (by kernel_rfl) (by kernel_rfl) (by kernel_rfl) (by kernel_rfl) (fun _ _ _ h => h) hj0 (Or.inl ⟨by rfl, fun u hu => ?_⟩) ?_
      · obtain ⟨t0, t1⟩ := HF.out u hu
        go_simp
      try simp only [Act.put, List.setIfInBounds_toArray, List.set_cons_zero, List.set_cons_succ]
      refine wpAnyL_some (rs := [5, 7]) (by kernel_rfl) (by simp) (fun i' hi' => ?_)
      rcases (show i' = 5 ∨ i' = 7 by simpa using hi') with rfl | rfl
      · refine ⟨_, rfl, fun K hK => ?_⟩
        go_simp
        go_at_call 61
        refine (HSO.out _ (HPA.out.keep (HB2.out.trans (hj0.mono HB2.out.size)))).mono ?_
        rintro e y1 ⟨s2, c2, rfl, hs2, hbs⟩
        have hjs : Below x2.heap.size x2 y1 := hj0.trans (hbs.mono hj0.size)
        show K _ _
        refine hK.out _ _ (fun _ => hjs) ?_
        clear hK K hbs
        try simp only [Act.put, List.setIfInBounds_toArray, List.set_cons_zero, List.set_cons_succ]
        refine wpAnyL_one (i := 7) (by kernel_rfl) rfl (fun K hK => ?_)
        go_simp
        obtain ⟨y2, hy2⟩ : ∃ u, u = y1.alloc (Obj.cells #[.int .i64 q] 3) := ⟨_, rfl⟩
        obtain ⟨gq, hgq⟩ : ∃ g, g = y1.heap.size := ⟨_, rfl⟩
        have hb9 : Below y1.heap.size y1 y2 := by rw [hy2]; exact (Below.refl _ _).alloc (Nat.le_refl _) _
        have hqq : RowB encI 3 y2 gq [q] := by rw [hy2, hgq]; exact Blk.new _ _ _
        have hs3 := hs2.keep hb9
        have hjt : Below x2.heap.size x2 y2 := hjs.trans (hb9.mono hjs.size)
        rw [← hy2, ← hgq]
        refine hK.out _ _ (fun _ _ => hjt) ?_
        clear hK K hb9 hs2 hy2 hgq hjs hj0
        try simp only [Act.put, List.setIfInBounds_toArray, List.set_cons_zero, List.set_cons_succ]
        refine wpAnyL_one (i := 8) (by kernel_rfl) rfl (fun K hK => ?_)
        go_simp
        go_at_call 53
        refine (HEQ.out s2 (some ⟨gq, 0, none⟩) c2 1 y2 hs3 (hqq.row encI_len)).mono ?_
        rintro e y3 ⟨rfl, hb9⟩
        have hju : Below x2.heap.size x2 y3 := hjt.trans (hb9.mono hjt.size)
        show K _ _
        refine hK.out _ _ (fun _ _ => hju) ?_
        clear hK K hb9 hs3 hqq hjt
        try simp only [Act.put, List.setIfInBounds_toArray, List.set_cons_zero, List.set_cons_succ]
        refine wpAnyL_pureD (i := 9) 59 (.bool bo) rfl rfl (by kernel_rfl) (by kernel_rfl) (by kernel_rfl) (fun _ _ _ h => h) (Or.inl ⟨by rfl, fun u _ => ?_⟩) ?_
        · go_simp
        try simp only [Act.put, List.setIfInBounds_toArray, List.set_cons_zero, List.set_cons_succ]
        refine wpAnyL_done (by kernel_rfl) ?_ _
        try simp only [Act.put, List.setIfInBounds_toArray, List.set_cons_zero, List.set_cons_succ]
        have hbz : Below W.heap.size W y3 := HB1.out.trans ((HB2.out.trans (hju.mono HB2.out.size)).mono HB1.out.size)
        cases bo with
        | false =>
          gi_wp2
          exact UI.skip HI.out (by rw [HPR.out]; rfl) hbz _
        | true =>
          have hiy : UI w2 (prU P N q) T pre y3 := (HI.out.grow (Below.grown0 hbz)).less (fun _ h => .inl h)
          obtain ⟨v, hv1, hv2, hv3⟩ := hiy.row
          have hlv := hv1.lt
          have hc0 := hv1.cell 0
          have hkl : (keptX (prU P N q) pre).length ≤ 16384 := by have h1 : (keptX (prU P N q) pre).length ≤ pre.length := List.length_filter_le _ _; have := HPL.out; omega
          have HV := Lib.hid hv1
          have HO := Lib.hid hv2
          have HT3 := Lib.hid hv3
          have HBY := Lib.hid hbz
          clear hv1 hv2 hv3 hiy
          gi_wp2_with (gi_at_builtin; refine wpListIn_append_own_at _ rfl _ _ 45 rfl (w2.heap.size + 1) 25 i0 (.slice none 0 0) 1 24 Try.underlying45 hi0 hz0 hz1 hz2 rfl (by decide) _ _ _ rfl (HO.out.alloc _) ⟨y3.heap.size, 0, none⟩ 1 1 [.slice x.a x.b.length x.c] rfl rfl (lit_row _ _ _) (by simp [Value.oneCell']) (by unfold maxLen; omega) (by omega) (by simp; omega) ?_; intro v1 w9 hown hgrow hnil hat; obtain ⟨g9, c9, rfl⟩ := own_succ hown; have hvb9 := (HV.out.alloc (Obj.cells #[.slice x.a x.b.length x.c] 25)).grown hgrow (fun e => by have := (HO.out.lt _ e.symm).1; omega); have hc1 := hvb9.cell 0; have hf1 := hvb9.frozen 0; have HW9 := Lib.hid hown; have HGW := Lib.hid hgrow; have HAT := Lib.hid hat; clear hown hgrow hnil hat)
          exact UI.push HI.out HQX.out (by rw [HPR.out]; rfl) HBY.out HT3.out HO.out HV.out HW9.out HGW.out HAT.out _
      · refine ⟨_, rfl, fun K hK => ?_⟩
        go_simp
        obtain ⟨y1, hy1⟩ : ∃ u, u = (x2.alloc (Obj.cells #[.int .i64 q] 3)).drew := ⟨_, rfl⟩
        obtain ⟨gq, hgq⟩ : ∃ g, g = x2.heap.size := ⟨_, rfl⟩
        have hgq' : gq = x2.heap.size := hgq
        have hb9 : Below x2.heap.size x2 y1 := by rw [hy1]; exact ((Below.refl _ x2).alloc (Nat.le_refl _) _).drew
        have hq9 : RowB encI 3 y1 gq [q] := by rw [hy1, hgq]; exact Blk.new _ _ _
        first | rw [← hy1, ← hgq'] | rw [← hy1, ← hgq]
        refine hK.out _ _ (fun _ => hb9) ?_
        clear hK K hy1 hgq hgq' hj0
        try simp only [Act.put, List.setIfInBounds_toArray, List.set_cons_zero, List.set_cons_succ]
        refine wpAnyL_one (i := 5) (by kernel_rfl) rfl (fun K hK => ?_)
        go_simp
        go_at_call 61
        refine (HSO.out _ (HPA.out.keep (HB2.out.trans (hb9.mono HB2.out.size)))).mono ?_
        rintro e y2 ⟨s2, c2, rfl, hs2, hbs⟩
        have hjs : Below x2.heap.size x2 y2 := hb9.trans (hbs.mono hb9.size)
        show K _ _
        refine hK.out _ _ (fun _ _ => hjs) ?_
        have hs3 := hs2
        have hqq : RowB encI 3 y2 gq [q] := Blk.below hq9 hbs (Blk.lt hq9)
        have hjt := hjs
        clear hK K hbs hs2 hb9 hq9 hjs
        try simp only [Act.put, List.setIfInBounds_toArray, List.set_cons_zero, List.set_cons_succ]
        refine wpAnyL_one (i := 8) (by kernel_rfl) rfl (fun K hK => ?_)
        go_simp
        go_at_call 53
        refine (HEQ.out s2 (some ⟨gq, 0, none⟩) c2 1 y2 hs3 (hqq.row encI_len)).mono ?_
        rintro e y3 ⟨rfl, hb9⟩
        have hju : Below x2.heap.size x2 y3 := hjt.trans (hb9.mono hjt.size)
        show K _ _
        refine hK.out _ _ (fun _ _ => hju) ?_
        clear hK K hb9 hs3 hqq hjt
        try simp only [Act.put, List.setIfInBounds_toArray, List.set_cons_zero, List.set_cons_succ]
        refine wpAnyL_pureD (i := 9) 59 (.bool bo) rfl rfl (by kernel_rfl) (by kernel_rfl) (by kernel_rfl) (fun _ _ _ h => h) (Or.inl ⟨by rfl, fun u _ => ?_⟩) ?_
        · go_simp
        try simp only [Act.put, List.setIfInBounds_toArray, List.set_cons_zero, List.set_cons_succ]
        refine wpAnyL_done (by kernel_rfl) ?_ _
        try simp only [Act.put, List.setIfInBounds_toArray, List.set_cons_zero, List.set_cons_succ]
        have hbz : Below W.heap.size W y3 := HB1.out.trans ((HB2.out.trans (hju.mono HB2.out.size)).mono HB1.out.size)
        cases bo with
        | false =>
          gi_wp2
          exact UI.skip HI.out (by rw [HPR.out]; rfl) hbz _
        | true =>
          have hiy : UI w2 (prU P N q) T pre y3 := (HI.out.grow (Below.grown0 hbz)).less (fun _ h => .inl h)
          obtain ⟨v, hv1, hv2, hv3⟩ := hiy.row
          have hlv := hv1.lt
          have hc0 := hv1.cell 0
          have hkl : (keptX (prU P N q) pre).length ≤ 16384 := by have h1 : (keptX (prU P N q) pre).length ≤ pre.length := List.length_filter_le _ _; have := HPL.out; omega
          have HV := Lib.hid hv1
          have HO := Lib.hid hv2
          have HT3 := Lib.hid hv3
          have HBY := Lib.hid hbz
          clear hv1 hv2 hv3 hiy
          gi_wp2_with (gi_at_builtin; refine wpListIn_append_own_at _ rfl _ _ 45 rfl (w2.heap.size + 1) 25 i0 (.slice none 0 0) 1 24 Try.underlying45 hi0 hz0 hz1 hz2 rfl (by decide) _ _ _ rfl (HO.out.alloc _) ⟨y3.heap.size, 0, none⟩ 1 1 [.slice x.a x.b.length x.c] rfl rfl (lit_row _ _ _) (by simp [Value.oneCell']) (by unfold maxLen; omega) (by omega) (by simp; omega) ?_; intro v1 w9 hown hgrow hnil hat; obtain ⟨g9, c9, rfl⟩ := own_succ hown; have hvb9 := (HV.out.alloc (Obj.cells #[.slice x.a x.b.length x.c] 25)).grown hgrow (fun e => by have := (HO.out.lt _ e.symm).1; omega); have hc1 := hvb9.cell 0; have hf1 := hvb9.frozen 0; have HW9 := Lib.hid hown; have HGW := Lib.hid hgrow; have HAT := Lib.hid hat; clear hown hgrow hnil hat)
          exact UI.push HI.out HQX.out (by rw [HPR.out]; rfl) HBY.out HT3.out HO.out HV.out HW9.out HGW.out HAT.out _

  case done =>
    intro D xs W hD hS hI hK
    obtain ⟨v, hv, hrow, -⟩ := hI.row
    have hc := hv.cell 0
    obtain ⟨a', c', rfl, hp⟩ := RowAt.of_own encV_len hrow
    have HEL := Lib.hid hI.els
    have HLOW := Lib.hid hI.low
    have HPR := Lib.hid hp
    have HSX := Lib.hid hS
    clear hI hv hrow hp hS
    gi_wp2
    have hgr := grownBy_putObj' W D (.deferred none)
    refine ⟨by simp, .inl ⟨_, _, rfl, run_takeDeferred hK, ?_⟩⟩
    refine ⟨.tuple #[.slice a' (keptX (prU P N q) xs).length c', .int .i64 0], by simp [results, Try.results29, go_sem], ?_⟩
    have hM : (allB P.length []).filter (prU P N q) = (keptX (prU P N q) xs).map BX.b := by rw [keptX_map, HSX.out]
    rw [hM]
    refine ⟨a', c', by rw [List.length_map]; rfl, ⟨_, rfl, RowAt.putObj encV_len HPR.out hK rfl, fun y hy => RowAt.putObj encB_len (HEL.out y hy).1 hK rfl⟩, ?_⟩
    exact HB0.out.trans ((HBW2.out.trans ((HLOW.out.grown hgr HLOW.out.size (fun k e => by cases e; omega)).mono HBW2.out.size)).mono HB0.out.size)
end Go.Proofs.Ytlnaahkheankoaa

namespace Go.Proofs.Ytlnaahkheankoaa
open Go.RowKit Go.Shelf Go.Proofs.Gr
attribute [local go_sem] Oper.semAt_some

abbrev bTTT : List Bool := [true, true, true]
theorem tri_divisor (a b : Option Addr) (c d : Nat) (w : World) (h : EsAt w a triE) (ho : BsAt w b bTTT) : Calls Try.prog 16 #[.agg #[.int .i64 3, .slice a 3 c], .slice b 3 d] w (fun e x => ∃ a c, e = .returned (.tuple #[.slice a 3 c, .int .i64 0]) ∧ IsAt x a [-1, 0, 1] ∧ Below w.heap.size w x) := by
  refine (pdivisor_any 3 a c triE (by decide) b d bTTT (by decide) w h ho).mono ?_
  rintro e x ⟨a, c, rfl, h1, hb⟩
  have e1 : okL (chkO 3 triE bTTT) (lessL (inO 3 triE bTTT)) = [-1, 0, 1] := by decide +kernel
  rw [e1] at h1
  exact ⟨a, c, by rw [e1, show chkO 3 triE bTTT = 0 by decide]; rfl, h1, hb⟩
theorem tri_acyclic (a b : Option Addr) (c d : Nat) (w : World) (h : EsAt w a triE) (ho : BsAt w b bTTT) : Calls Try.prog 32 #[.agg #[.int .i64 3, .slice a 3 c], .slice b 3 d] w (fun e x => ∃ a c, e = .returned (.tuple #[.bool true, .slice a 3 c, .int .i64 0]) ∧ IsAt x a [0, 1, 2] ∧ Below w.heap.size w x) := by
  refine (pAcyclic_any 3 a c triE (by decide) b d bTTT (by decide) w h ho).mono ?_
  rintro e x ⟨a, c, rfl, h1, hb⟩
  have e1 : okL (chkO 3 triE bTTT) (acyL 3 triE bTTT) = [0, 1, 2] := by decide +kernel
  have e2 : okB (chkO 3 triE bTTT) (acyB 3 triE bTTT) = true := by decide +kernel
  rw [e1] at h1
  exact ⟨a, c, by rw [e1, e2, show chkO 3 triE bTTT = 0 by decide]; rfl, h1, hb⟩
theorem tri_directed (a b s : Option Addr) (c d f : Nat) (w : World) (h : EsAt w a triE) (ho : BsAt w b bTTT) (hs : IsAt w s [0]) : Calls Try.prog 37 #[.agg #[.int .i64 3, .slice a 3 c], .slice b 3 d, .slice s 1 f] w (fun e x => e = .returned (.tuple #[.int .i64 1, .int .i64 0]) ∧ Below w.heap.size w x) := by
  refine (pdirected_any 3 a c triE (by decide) b d bTTT (by decide) s f [0] (by decide) w h ho hs).mono ?_
  rintro e x ⟨rfl, hb⟩
  have e1 : okZ (dirE 3 triE bTTT [0]) (dirV 3 triE bTTT [0]) = 1 := by decide +kernel
  exact ⟨by rw [e1, show dirE 3 triE bTTT [0] = 0 by decide +kernel]; rfl, hb⟩
theorem tri_unique (a : Option Addr) (c : Nat) (w : World) (h : EsAt w a triE) : Calls Try.prog 29 #[.agg #[.int .i64 3, .slice a 3 c], .int .i64 0] w (fun e x => ∃ a c, e = .returned (.tuple #[.slice a 2 c, .int .i64 0]) ∧ LsAt x a [[true, true, false], [true, true, true]] ∧ Below w.heap.size w x) := by
  refine (callsIn_wide.1 (punique_ok 3 a c triE (by decide) 0 (by decide) (by decide) (by decide) w h)).mono ?_
  rintro e x ⟨a, c, rfl, h1, hb⟩
  have e1 : uniqR (endsG triE) 3 0 = [[true, true, false], [true, true, true]] := by decide +kernel
  rw [e1] at h1
  exact ⟨a, c, by rw [e1]; rfl, h1, hb⟩
theorem tri_eqI (a b : Option Addr) (c d : Nat) (w : World) (h1 : IsAt w a [0, 1, 2]) (h2 : IsAt w b [0, 1, 2]) : Calls Try.prog 53 #[.slice a 3 c, .slice b 3 d] w (fun e w' => e = .returned (.bool true) ∧ Below w.heap.size w w') := pequalI_any a b c d [0, 1, 2] [0, 1, 2] (by decide) (by decide) w h1 h2
set_option maxHeartbeats 12800000 in
set_option maxRecDepth 100000 in
theorem triangle_any (w : World) : Calls Try.prog 55 #[] w (fun e x => ∃ a c, e = .returned (.agg #[.int .i64 3, .slice a 3 c]) ∧ EsAt x a triE ∧ Below w.heap.size w x) := by
  go_enter Try.func55, Try.ntmps55
  go_wp2
  obtain ⟨V, hV⟩ : ∃ V, V = (w.alloc (Obj.cells #[.int .i64 3, .slice (some ⟨w.heap.size + 1, 0, none⟩) 3 3] 24)).alloc (Obj.cells #[.int .i64 0, .int .i64 1, .int .i64 1, .int .i64 0, .int .i64 2, .int .i64 1, .int .i64 1, .int .i64 2, .int .i64 1] 79) := ⟨_, rfl⟩
  rw [← hV]
  have hb : Below w.heap.size w V := by rw [hV]; exact ((Below.refl _ w).alloc (Nat.le_refl _) _).alloc (by simp) _
  have h1 : Blk V w.heap.size 24 #[.int .i64 3, .slice (some ⟨w.heap.size + 1, 0, none⟩) 3 3] := by rw [hV]; exact (Blk.new _ _ _).alloc _
  have h2 : Blk V (w.heap.size + 1) 79 #[.int .i64 0, .int .i64 1, .int .i64 1, .int .i64 0, .int .i64 2, .int .i64 1, .int .i64 1, .int .i64 2, .int .i64 1] := by
    rw [hV]
    have h9 := Blk.new (w.alloc (Obj.cells #[.int .i64 3, .slice (some ⟨w.heap.size + 1, 0, none⟩) 3 3] 24)) 79 #[.int .i64 0, .int .i64 1, .int .i64 1, .int .i64 0, .int .i64 2, .int .i64 1, .int .i64 1, .int .i64 2, .int .i64 1]
    rwa [World.size_alloc] at h9
  have r5 : V.cell? ⟨w.heap.size, 0, none⟩ = some (.int .i64 3) := h1.cell 0
  have r6 : V.cell? ⟨w.heap.size, 1, none⟩ = some (.slice (some ⟨w.heap.size + 1, 0, none⟩) 3 3) := h1.cell 1
  refine bodyPost_ret (v := .agg #[.int .i64 3, .slice (some ⟨w.heap.size + 1, 0, none⟩) 3 3]) (by simp [results, Try.results55, go_sem, r5, r6]) rfl ?_
  exact ⟨_, _, rfl, RowAt.of_blk (k := 3) (enc := encE) (fun _ => rfl) h2 rfl, hb⟩
set_option maxHeartbeats 12800000 in
set_option maxRecDepth 100000 in
theorem awake14 (w : World) : Calls Try.prog 13 #[] w (fun e x => e = .returned (.bool true) ∧ Below w.heap.size w x) := by
  have HTR := Lib.hid (triangle_any w)
  go_enter Try.func13, Try.ntmps13
  go_wp2_with fail
  refine HTR.out.mono ?_
  rintro e w1 ⟨a, c, rfl, hE, hb⟩
  obtain ⟨V, hV⟩ : ∃ V, V = (w1.alloc (Obj.cells #[.bool true, .bool true, .bool true] 4)).alloc (Obj.cells #[.int .i64 3, .slice a 3 c] 24) := ⟨_, rfl⟩
  have hbV : Below w1.heap.size w1 V := by rw [hV]; exact ((Below.refl _ _).alloc (Nat.le_refl _) _).alloc (by simp) _
  have ho : Blk V w1.heap.size 4 #[.bool true, .bool true, .bool true] := by rw [hV]; exact (Blk.new _ _ _).alloc _
  have hg : Blk V (w1.heap.size + 1) 24 #[.int .i64 3, .slice a 3 c] := by
    rw [hV]
    have := Blk.new (w1.alloc (Obj.cells #[.bool true, .bool true, .bool true] 4)) 24 #[.int .i64 3, .slice a 3 c]
    rwa [World.size_alloc] at this
  have HBV := Lib.hid (hb.trans (hbV.mono hb.size))
  have HF : Hid (∀ u, Below V.heap.size V u → u.cell? ⟨w1.heap.size + 1, 0, none⟩ = some (.int .i64 3) ∧ u.cell? ⟨w1.heap.size + 1, 1, none⟩ = some (.slice a 3 c) ∧ EsAt u a triE ∧ BsAt u (some ⟨w1.heap.size, 0, none⟩) bTTT) := Lib.hid (fun u hu => ⟨(hg.below hu hg.lt).cell 0, (hg.below hu hg.lt).cell 1, (hE.keep hbV).keep hu, RowB.row (enc := encB) (t := 4) encB_len (ho.below hu ho.lt : Blk u _ _ _)⟩)
  have HV := Lib.hid hV
  clear hE hb hbV ho hg hV
  go_wp2_with fail
  rw [← HV.out]
  refine (tri_divisor a _ c _ V (HF.out V (Below.refl _ _)).2.2.1 (HF.out V (Below.refl _ _)).2.2.2).mono ?_
  rintro e x1 ⟨da, dc, rfl, hd, hb⟩
  have Hx1 : Hid (Below V.heap.size V x1) := Lib.hid (hb)
  have HD := Lib.hid hd
  clear hd hb HV
  obtain ⟨g0, g1, -⟩ := HF.out x1 Hx1.out
  go_wp2_with fail
  refine (tri_acyclic a _ c _ x1 (HF.out x1 Hx1.out).2.2.1 (HF.out x1 Hx1.out).2.2.2).mono ?_
  rintro e x2 ⟨oa, oc, rfl, ho, hb⟩
  have Hx2 : Hid (Below V.heap.size V x2) := Lib.hid (Hx1.out.trans (hb.mono Hx1.out.size))
  have HD' := Lib.hid (HD.out.keep hb)
  have HO := Lib.hid ho
  obtain ⟨x3, hx3⟩ : ∃ x3, x3 = (x2.alloc (Obj.cells #[.bool true, .bool false, .bool true] 4)).alloc (Obj.cells #[.bool false, .bool true, .bool false] 4) := ⟨_, rfl⟩
  have hb3 : Below x2.heap.size x2 x3 := by rw [hx3]; exact ((Below.refl _ _).alloc (Nat.le_refl _) _).alloc (by simp) _
  have ha1 : Blk x3 x2.heap.size 4 #[.bool true, .bool false, .bool true] := by rw [hx3]; exact (Blk.new _ _ _).alloc _
  have ha2 : Blk x3 (x2.heap.size + 1) 4 #[.bool false, .bool true, .bool false] := by
    rw [hx3]
    have := Blk.new (x2.alloc (Obj.cells #[.bool true, .bool false, .bool true] 4)) 4 #[.bool false, .bool true, .bool false]
    rwa [World.size_alloc] at this
  have Hx3 : Hid (Below V.heap.size V x3) := Lib.hid (Hx2.out.trans (hb3.mono Hx2.out.size))
  have HEQ := Lib.hid (equiv_tri a c x2.heap.size (x2.heap.size + 1) x3 (HF.out x3 Hx3.out).2.2.1 ha1 ha2)
  have HD2 := Lib.hid (HD'.out.keep hb3)
  have HO2 := Lib.hid (HO.out.keep hb3)
  have H3 := Lib.hid hx3
  clear g0 g1 ho hb HD HD' HO hb3 ha1 ha2 hx3
  obtain ⟨g0, g1, -⟩ := HF.out x2 Hx2.out
  go_wp2_with fail
  rw [← H3.out]
  refine HEQ.out.mono ?_
  rintro e x4 ⟨rfl, hb⟩
  have Hx4 : Hid (Below V.heap.size V x4) := Lib.hid (Hx3.out.trans (hb.mono Hx3.out.size))
  have HD := Lib.hid (HD2.out.keep hb)
  have HO := Lib.hid (HO2.out.keep hb)
  clear g0 g1 hb HD2 HO2 HEQ H3
  obtain ⟨g0, g1, -⟩ := HF.out x4 Hx4.out
  go_wp2_with fail
  refine (tri_unique a c x4 (HF.out x4 Hx4.out).2.2.1).mono ?_
  rintro e x5 ⟨la, lc, rfl, hl, hb⟩
  have Hx5 : Hid (Below V.heap.size V x5) := Lib.hid (Hx4.out.trans (hb.mono Hx4.out.size))
  have HD2 := Lib.hid (HD.out.keep hb)
  have HO2 := Lib.hid (HO.out.keep hb)
  obtain ⟨x6, hx6⟩ : ∃ x6, x6 = x5.alloc (Obj.cells #[.int .i64 0] 3) := ⟨_, rfl⟩
  have hb6 : Below x5.heap.size x5 x6 := by rw [hx6]; exact (Below.refl _ _).alloc (Nat.le_refl _) _
  have ha6 : RowB encI 3 x6 x5.heap.size [0] := by rw [hx6]; exact Blk.new _ _ _
  have Hx6 : Hid (Below V.heap.size V x6) := Lib.hid (Hx5.out.trans (hb6.mono Hx5.out.size))
  have HDI := Lib.hid (tri_directed a _ _ c 3 1 x6 (HF.out x6 Hx6.out).2.2.1 (HF.out x6 Hx6.out).2.2.2 (ha6.row encI_len))
  have HD3 := Lib.hid (HD2.out.keep hb6)
  have HO3 := Lib.hid (HO2.out.keep hb6)
  have HL3 := Lib.hid (hl.keep hb6)
  have H6 := Lib.hid hx6
  clear g0 g1 hb hl HD HO HD2 HO2 hb6 ha6 hx6
  obtain ⟨g0, g1, -⟩ := HF.out x5 Hx5.out
  go_wp2_with fail
  rw [← H6.out]
  refine HDI.out.mono ?_
  rintro e x7 ⟨rfl, hb⟩
  have Hx7 : Hid (Below V.heap.size V x7) := Lib.hid (Hx6.out.trans (hb.mono Hx6.out.size))
  obtain ⟨x8, hx8⟩ : ∃ x8, x8 = x7.alloc (Obj.cells #[.int .i64 (-1), .int .i64 0, .int .i64 1] 3) := ⟨_, rfl⟩
  have hb8 : Below x7.heap.size x7 x8 := by rw [hx8]; exact (Below.refl _ _).alloc (Nat.le_refl _) _
  have ha8 : RowB encI 3 x8 x7.heap.size [-1, 0, 1] := by rw [hx8]; exact Blk.new _ _ _
  have Hx8 : Hid (Below V.heap.size V x8) := Lib.hid (Hx7.out.trans (hb8.mono Hx7.out.size))
  have HDD := Lib.hid (pequalD_true da (some ⟨x7.heap.size, 0, none⟩) dc 3 [-1, 0, 1] (by decide) x8 ((HD3.out.keep hb).keep hb8) (ha8.row encI_len))
  have HO := Lib.hid ((HO3.out.keep hb).keep hb8)
  have HL := Lib.hid ((HL3.out.keep hb).keep hb8)
  have H8 := Lib.hid hx8
  clear g0 g1 hb HD3 HO3 HL3 hb8 ha8 hx8 HDI H6
  go_wp2_with fail
  rw [← H8.out]
  refine HDD.out.mono ?_
  rintro e x9 ⟨rfl, hb⟩
  have Hx9 : Hid (Below V.heap.size V x9) := Lib.hid (Hx8.out.trans (hb.mono Hx8.out.size))
  obtain ⟨y0, hy0⟩ : ∃ y0, y0 = x9.alloc (Obj.cells #[.int .i64 0, .int .i64 1, .int .i64 2] 3) := ⟨_, rfl⟩
  have hby : Below x9.heap.size x9 y0 := by rw [hy0]; exact (Below.refl _ _).alloc (Nat.le_refl _) _
  have hay : RowB encI 3 y0 x9.heap.size [0, 1, 2] := by rw [hy0]; exact Blk.new _ _ _
  have Hy0 : Hid (Below V.heap.size V y0) := Lib.hid (Hx9.out.trans (hby.mono Hx9.out.size))
  have HII := Lib.hid (tri_eqI oa (some ⟨x9.heap.size, 0, none⟩) oc 3 y0 ((HO.out.keep hb).keep hby) (hay.row encI_len))
  have HL2 := Lib.hid ((HL.out.keep hb).keep hby)
  have H9 := Lib.hid hy0
  clear hb HO HL hby hay hy0 HDD H8
  go_wp2_with fail
  rw [← H9.out]
  refine HII.out.mono ?_
  rintro e y1 ⟨rfl, hb⟩
  have Hy1 : Hid (Below V.heap.size V y1) := Lib.hid (Hy0.out.trans (hb.mono Hy0.out.size))
  obtain ⟨y2, hy2⟩ : ∃ y2, y2 = ((y1.alloc (Obj.cells #[.bool true, .bool true, .bool false] 4)).alloc (Obj.cells #[.bool true, .bool true, .bool true] 4)).alloc (Obj.cells #[.slice (some ⟨y1.heap.size, 0, none⟩) 3 3, .slice (some ⟨y1.heap.size + 1, 0, none⟩) 3 3] 25) := ⟨_, rfl⟩
  have hb2 : Below y1.heap.size y1 y2 := by rw [hy2]; exact (((Below.refl _ _).alloc (Nat.le_refl _) _).alloc (by simp) _).alloc (by simp; omega) _
  have k0 : Blk y2 y1.heap.size 4 #[.bool true, .bool true, .bool false] := by rw [hy2]; exact ((Blk.new _ _ _).alloc _).alloc _
  have k1 : Blk y2 (y1.heap.size + 1) 4 #[.bool true, .bool true, .bool true] := by
    rw [hy2]
    have := Blk.new (y1.alloc (Obj.cells #[.bool true, .bool true, .bool false] 4)) 4 #[.bool true, .bool true, .bool true]
    rw [World.size_alloc] at this
    exact this.alloc _
  have k2 : Blk y2 (y1.heap.size + 2) 25 #[.slice (some ⟨y1.heap.size, 0, none⟩) 3 3, .slice (some ⟨y1.heap.size + 1, 0, none⟩) 3 3] := by
    rw [hy2]
    have := Blk.new ((y1.alloc (Obj.cells #[.bool true, .bool true, .bool false] 4)).alloc (Obj.cells #[.bool true, .bool true, .bool true] 4)) 25 #[.slice (some ⟨y1.heap.size, 0, none⟩) 3 3, .slice (some ⟨y1.heap.size + 1, 0, none⟩) 3 3]
    simp only [World.size_alloc] at this
    exact this
  have hls : LsAt y2 (some ⟨y1.heap.size + 2, 0, none⟩) [[true, true, false], [true, true, true]] := by
    refine ⟨[⟨some ⟨y1.heap.size, 0, none⟩, 3, [true, true, false]⟩, ⟨some ⟨y1.heap.size + 1, 0, none⟩, 3, [true, true, true]⟩], rfl, RowAt.of_blk (k := 1) (enc := encV) (fun _ => rfl) k2 rfl, ?_⟩
    intro x hx
    rcases List.mem_cons.1 hx with rfl | hx
    · exact RowB.row (enc := encB) (t := 4) encB_len k0
    · rcases List.mem_cons.1 hx with rfl | hx
      · exact RowB.row (enc := encB) (t := 4) encB_len k1
      · cases hx
  have Hy2 : Hid (Below V.heap.size V y2) := Lib.hid (Hy1.out.trans (hb2.mono Hy1.out.size))
  have HSM := Lib.hid (rsameAll_true la (some ⟨y1.heap.size + 2, 0, none⟩) lc 2 [[true, true, false], [true, true, true]] (by decide) (fun i hi => by rcases (show i = 0 ∨ i = 1 by simp at hi; omega) with rfl | rfl <;> decide) y2 ((HL2.out.keep hb).keep hb2) hls)
  have H2 := Lib.hid hy2
  clear hb hb2 k0 k1 k2 hls hy2 HL2 HII H9
  go_wp2_with fail
  rw [← H2.out]
  refine HSM.out.mono ?_
  rintro e y3 ⟨rfl, hb⟩
  have Hy3 : Hid (Below V.heap.size V y3) := Lib.hid (Hy2.out.trans (hb.mono Hy2.out.size))
  have HEND : Hid (Below w.heap.size w y3) := Lib.hid (HBV.out.trans (Hy3.out.mono HBV.out.size))
  clear hb
  go_wp2
  go_ret
  exact ⟨rfl, HEND.out⟩
end Go.Proofs.Ytlnaahkheankoaa
