/- Acyclic orientations with one source, by the program. And: The chapter's examples hold. And: The law of cuts. -/
import Derived.Test.YtlnaahkheankoaaQ13
import Derived.Test.YtlnaahkheankoaaQ12
import Derived.Maps.OwnIn
import Derived.Test.YtlnaahkheankoaaQ09
namespace Go.Proofs.Ytlnaahkheankoaa
open Go.RowKit Go.Shelf Go.Proofs.Gr
attribute [local go_sem] Oper.semAt_some

set_option maxHeartbeats 12800000 in
set_option maxRecDepth 100000 in
theorem pcheckfew_any (z : Int) (w : World) : Calls Try.prog 65 #[.int .i64 z] w (fun e x => e = .returned (.int .i64 (if 15 ≤ z then 12 else 0)) ∧ w = x) := by
  have HB := Lib.hid (Try.bits_Len 16384 w (by omega) (by omega))
  rw [show Lib.bitLen (16384 : Int).toNat = 15 by decide +kernel] at HB
  by_cases h : 15 ≤ z
  · rw [if_pos h]
    have h1 : (15 : Int) ≤ z := h
    go_enter Try.func65, Try.ntmps65
    go_wp2_with fail
    refine HB.out.mono ?_
    rintro e x ⟨rfl, rfl⟩
    go_wp2
    go_ret
    exact ⟨rfl, rfl⟩
  · rw [if_neg h]
    have h1 : ¬ (15 : Int) ≤ z := h
    go_enter Try.func65, Try.ntmps65
    go_wp2_with fail
    refine HB.out.mono ?_
    rintro e x ⟨rfl, rfl⟩
    go_wp2
    go_ret
    exact ⟨rfl, rfl⟩
/-- Two lists of ints, compared by the library. -/
theorem pequalI_any (a b : Option Addr) (c d : Nat) (X Y : List Int) (hX : X.length ≤ 1000000) (hY : Y.length ≤ 1000000) (w : World) (hx : IsAt w a X) (hy : IsAt w b Y) :
    Calls Try.prog 53 #[.slice a X.length c, .slice b Y.length d] w (fun e w' => e = .returned (.bool (decide (X = Y))) ∧ Below w.heap.size w w') := by
  by_cases hl : X.length = Y.length
  · by_cases h0 : X.length = 0
    · have e1 : X = [] := List.length_eq_zero_iff.1 h0
      have e2 : Y = [] := List.length_eq_zero_iff.1 (hl ▸ h0)
      subst e1 e2
      refine (Try.slices_Equal_int_empty a b c 0 d w (by omega)).mono ?_
      rintro e w' ⟨rfl, rfl⟩
      exact ⟨by simp, Below.refl _ _⟩
    · obtain ⟨b1, o1, rfl, -, -⟩ := hx.one 0 (by omega)
      obtain ⟨b2, o2, rfl, -, -⟩ := hy.one 0 (by omega)
      refine (Try.slices_Equal_int b1 o1 X.length c b2 o2 Y.length d X Y w (Nat.le_refl _) (Nat.le_refl _) (by omega) (by omega) (fun j hj => ?_) (fun j hj => ?_)).mono ?_
      · obtain ⟨b', o', h1, h2, h3⟩ := hx.one j hj
        injection h1 with h1
        injection h1 with e1 e2
        subst e1 e2
        exact h3
      · obtain ⟨b', o', h1, h2, h3⟩ := hy.one j hj
        injection h1 with h1
        injection h1 with e1 e2
        subst e1 e2
        exact h3
      · rintro e w' ⟨rfl, q, rfl⟩
        refine ⟨?_, below_drewN (Below.refl _ _) q⟩
        rw [List.take_length, List.take_length, Bool.beq_eq_decide_eq]
  · refine (Try.slices_Equal_int_lens a b X.length c Y.length d w hl).mono ?_
    rintro e w' ⟨rfl, rfl⟩
    exact ⟨by rw [decide_eq_false (fun h => hl (by rw [h]))], Below.refl _ _⟩
theorem infoS : (Try.prog.info? 25).map (fun i => (i.zero, i.size, i.bytes)) = some (some (.slice none 0 0), 1, 24) := by kernel_rfl
def prU (P : List (Int × Int)) (N : Nat) (q : Int) (b : List Bool) : Bool := srtB (arcs P b) N && decide (srcL (inL (arcs P b) N (arcs P b).length) N = [q])
def uniqR (P : List (Int × Int)) (N : Nat) (q : Int) : List (List Bool) := (allB P.length []).filter (prU P N q)
/-- Hands back lists of bools and an error's number. -/
def GivesLE (w : World) (M : List (List Bool)) (k : Nat) (e : Ending) (x : World) : Prop := ∃ a c, e = .returned (.tuple #[.slice a M.length c, .int .i64 (k : Nat)]) ∧ LsAt x a M ∧ Below w.heap.size w x
set_option maxHeartbeats 12800000 in
set_option maxRecDepth 100000 in
theorem punique_ok (N : Nat) (a : Option Addr) (cap : Nat) (L : List E) (hL : L.length ≤ 100000) (q : Int) (hc : chkG (N : Int) L = 0) (hq : 0 ≤ q ∧ q < N) (hm : (endsG L).length ≤ 14) (w : World) (h : EsAt w a L) :
    CallsIn Fence.wide 3 Try.prog 29 #[gv N a L.length cap, .int .i64 q] w (GivesLE w (uniqR (endsG L) N q) 0) := by
  have hN := chkG_n hc
  have hN12 : N ≤ 12 := by omega
  have HEN := Lib.hid (fun w h => pends_any N a cap L hL w h)
  rw [hc, if_pos rfl] at HEN
  have HAR := Lib.hid (fun O j hj => arcs_rng (right_of hc) O j hj)
  have HFEW := Lib.hid (pcheckfew_any ((endsG L).length : Int))
  rw [if_neg (by omega)] at HFEW
  have q1 : ¬ q < 0 := by omega
  have q2 : ¬ (N : Int) ≤ q := by omega
  unfold GivesPE gv at *
  unfold GivesLE uniqR
  generalize endsG L = P at *
  obtain ⟨W, hW⟩ : ∃ W, W = (w.alloc (Obj.cells #[.int .i64 (N : Int), .slice a L.length cap] 24)).alloc (Obj.cells #[.int .i64 q] 3) := ⟨_, rfl⟩
  have HB0 : Hid (Below w.heap.size w W) := Lib.hid (by rw [hW]; exact ((Below.refl _ w).alloc (Nat.le_refl _) _).alloc (by simp) _)
  have hG : Blk W w.heap.size 24 #[.int .i64 (N : Int), .slice a L.length cap] := by rw [hW]; exact (Blk.new _ _ _).alloc _
  have hQ : Blk W (w.heap.size + 1) 3 #[.int .i64 q] := by
    rw [hW]
    have := Blk.new (w.alloc (Obj.cells #[.int .i64 (N : Int), .slice a L.length cap] 24)) 3 #[.int .i64 q]
    rwa [World.size_alloc] at this
  have HG := Lib.hid hG
  have HQ := Lib.hid hQ
  have HE := Lib.hid (h.keep HB0.out)
  have HW := Lib.hid hW
  clear hW hG hQ h hc
  refine callsIn_of_wp_marks Try.func29 rfl trivial ?_ rfl
  simp only [Try.ntmps29, List.size_toArray, List.length_cons, List.length_nil, Nat.reduceAdd, Nat.reduceSub, Array.replicate_succ, Array.replicate_zero, List.push_toArray, List.append_toArray, List.nil_append, List.cons_append]
  gi_wp2_with fail
  rw [← HW.out]
  refine ⟨trivial, ?_⟩
  refine (callsIn_wide.2 (HEN.out _ HE.out)).mono ?_
  rintro e w1 ⟨p, cp, rfl, hp, hb1⟩
  have HB1 := Lib.hid hb1
  obtain ⟨w2, hw2⟩ : ∃ w2, w2 = w1.alloc (Obj.cells #[.slice p P.length cp] 83) := ⟨_, rfl⟩
  have hb2 : Below w1.heap.size w1 w2 := by rw [hw2]; exact (Below.refl _ _).alloc (Nat.le_refl _) _
  have hE2 : Blk w2 w1.heap.size 83 #[.slice p P.length cp] := by rw [hw2]; exact Blk.new _ _ _
  have hbW2 : Below W.heap.size W w2 := hb1.trans (hb2.mono hb1.size)
  have HP2 := Lib.hid (hp.keep hb2)
  have HE2 := Lib.hid hE2
  have HG2 := Lib.hid (HG.out.below hbW2 HG.out.lt)
  have HQ2 := Lib.hid (HQ.out.below hbW2 HQ.out.lt)
  have HBW2 := Lib.hid hbW2
  have g0 : (w1.alloc (Obj.cells #[.slice p P.length cp] 83)).cell? ⟨w.heap.size, 0, none⟩ = some (.int .i64 (N : Int)) := by rw [← hw2]; exact HG2.out.cell 0
  have g2 : (w1.alloc (Obj.cells #[.slice p P.length cp] 83)).cell? ⟨w.heap.size + 1, 0, none⟩ = some (.int .i64 q) := by rw [← hw2]; exact HQ2.out.cell 0
  have HW2 := Lib.hid hw2
  clear hb1 hp hb2 hE2 hbW2 hw2
  gi_wp2_with fail
  rw [← HW2.out]
  refine ⟨trivial, ?_⟩
  refine (callsIn_wide.2 (HFEW.out _)).mono ?_
  rintro e u1 ⟨rfl, rfl⟩
  obtain ⟨w3, hw3⟩ : ∃ w3, w3 = w2.alloc (Obj.cells #[.slice none 0 0] 45) := ⟨_, rfl⟩
  have e2 : (w2.alloc (Obj.cells #[.slice none 0 0] 45)).cell? ⟨w1.heap.size, 0, none⟩ = some (.slice p P.length cp) := (HE2.out.alloc _).cell 0
  have HW3 := Lib.hid hw3
  clear hw3 g0 g2
  gi_wp2_with fail
  rw [← HW3.out]
  refine ⟨trivial, ?_⟩
  refine (callsIn_wide.2 (porients_any _ _)).mono ?_
  rintro e w4 ⟨rfl, hw4⟩
  have HW4 := Lib.hid hw4
  clear hw4 e2
  gi_wp2_with fail
  obtain ⟨i0, hi0, hz0, hz1, hz2⟩ := info_parts infoS
  have h34 : Below w3.heap.size w3 w4 := by rw [HW4.out]; exact (Below.refl _ _).alloc (Nat.le_refl _) _
  have h23 : Below w2.heap.size w2 w3 := by rw [HW3.out]; exact (Below.refl _ _).alloc (Nat.le_refl _) _
  have hz3 : w3.heap.size = w2.heap.size + 1 := by rw [HW3.out]; simp
  have hz4 : w4.heap.size = w3.heap.size + 1 := by rw [HW4.out]; simp
  have hl4 : Blk w4 w2.heap.size 45 #[.slice none 0 0] := by rw [HW4.out, HW3.out]; exact (Blk.new _ _ _).alloc _
  have hbs : Blk w4 (w3.heap.size) 3 #[.int .i64 (P.length : Int)] := by rw [HW4.out]; exact Blk.new _ _ _
  have hui0 : UI w2 (prU P N q) (fun r => r = w3.heap.size) [] w4 := by
    refine ⟨h23.trans (h34.mono h23.size), fun r hr => by omega, fun r hr => by omega, ⟨.slice none 0 0, hl4, World.ownsRow_nil _ _ _ _, fun k hk => by cases hk⟩, fun y hy => by cases hy⟩
  have HZ3 := Lib.hid hz3
  have HZ4 := Lib.hid hz4
  have HPL : Hid (2 ^ P.length ≤ 16384) := Lib.hid (by exact Nat.pow_le_pow_right (n := 2) (by decide) (show P.length ≤ 14 from hm))
  refine wpIn_rangeFunc_bits (by omega) (gf := 97) (lb := #[.pointer (some ⟨w3.heap.size, 0, none⟩)]) rfl (enters_of Try.func97 (by kernel_rfl) rfl)
    (orient_seq 2 (2 ^ P.length) P.length (by omega) (Nat.le_refl _) (w3.heap.size) (fun r => r = w3.heap.size) w4 hbs rfl (fun r hr => by omega))
    (fun r hr => by omega) (Below.refl _ _) (fun _ => rfl) (fun T pre W => UI w2 (prU P N q) T pre W)
    (fun T s A A' h hg => h.grow hg) (fun T s A A' r h hr hg => h.turn hr hg) (fun T T' s A h hT => h.less hT)
    (fun T s A A' r o h hg h1 h2 ho hc => h.recd hg (by omega) ho hc) (fun T x A A' r o h hg ho hc => h.recd hg ho hc) hui0 (fun x => { tmps := #[.agg #[.int .i64 (N : Int), .slice a L.length cap], .int .i64 q, .pointer (some ⟨w.heap.size, 0, none⟩), .pointer (some ⟨w.heap.size + 1, 0, none⟩), .slice none 0 0, .int .i64 0, .pointer (some ⟨w1.heap.size, 0, none⟩), .int .i64 0, .int .i64 0, .pointer (some ⟨w2.heap.size, 0, none⟩), .slice x.a x.b.length x.c, undef, undef, undef, .tuple #[.slice p P.length cp, .int .i64 0], .agg #[.int .i64 (N : Int), .slice a L.length cap], .tuple #[.slice p P.length cp, .int .i64 0], .slice p P.length cp, .int .i64 0, .int .i64 0, .bool false, undef, .int .i64 q, .bool (decide (q < 0)), .bool (decide (q < 0)), .int .i64 q, .pointer (some ⟨w.heap.size, 0, none⟩), .int .i64 (N : Int), .bool (decide ((N : Int) ≤ q)), .bool (decide (q < 0) || decide ((N : Int) ≤ q)), .slice p P.length cp, .int .i64 (P.length : Int), .int .i64 0, .int .i64 0, .bool false, undef, .slice p P.length cp, .int .i64 (P.length : Int), .func (.func 97) #[] #[.pointer (some ⟨w3.heap.size, 0, none⟩)], .slice x.a x.b.length x.c, undef, undef, undef, undef, undef, undef, undef, undef, undef, undef, undef, undef, undef, undef, undef, undef, undef, undef, undef, undef, undef, undef, undef, undef, undef], defers := [] }) ?assign ?body ?done
  case assign =>
    intro l k x W K hK
    clear hz3 hz4 hbs hl4 hui0
    unfold encX
    gi_wp2
    exact hK
  case body =>
    intro l k T pre x W hI hlen hsz ht1 ht2 hQ
    have HI := Lib.hid hI
    have HQX := Lib.hid hQ
    have HXL := Lib.hid hQ.1
    have e0 : W.cell? ⟨w1.heap.size, 0, none⟩ = some (.slice p P.length cp) := (HE2.out.below hI.low HE2.out.lt).cell 0
    have HPW := Lib.hid (HP2.out.keep hI.low)
    have HLD := Lib.hid (pled_any p cp P (by omega) x.a x.c x.b hQ.1.symm W HPW.out hQ.2.1)
    unfold GivesPB at HLD
    clear hI hQ hsz ht1 ht2 h34 h23 hz3 hz4 hl4 hbs hui0
    gi_wp2_with fail
    refine ⟨trivial, fun h => (by cases h), ?_⟩
    refine (CallsIn.inRound l (callsIn_wide.2 HLD.out)).mono ?_
    rintro e x1 ⟨g, hg, rfl, hra, hb1⟩
    have hpa : PsAt x1 (some ⟨g, 0, none⟩) (arcs P x.b) := hra.row encP_len
    have hN1 : x1.cell? ⟨w.heap.size, 0, none⟩ = some (.int .i64 (N : Int)) := ((HG2.out.below HI.out.low HG2.out.lt).below hb1 (Nat.lt_of_lt_of_le HG2.out.lt HI.out.low.size)).cell 0
    have HN0 := Lib.hid hN1
    have hal : (arcs P x.b).length ≤ 5000000 := by rw [arcs_len]; omega
    have HSR := Lib.hid (psorted_any N (by omega) (some ⟨g, 0, none⟩) (arcs P x.b).length (arcs P x.b) hal (fun j hj => (HAR.out x.b j hj).2) x1 hpa)
    have HSO := Lib.hid (fun u h => psources_any N (by omega) (some ⟨g, 0, none⟩) (arcs P x.b).length (arcs P x.b) hal (fun j hj => (HAR.out x.b j hj).2) u h)
    have HPA := Lib.hid hpa
    have HB1 := Lib.hid hb1
    have hq1 : x1.cell? ⟨w.heap.size + 1, 0, none⟩ = some (.int .i64 q) := ((HQ2.out.below HI.out.low HQ2.out.lt).below hb1 (Nat.lt_of_lt_of_le HQ2.out.lt HI.out.low.size)).cell 0
    have HPR : Hid (prU P N q x.b = (srtB (arcs P x.b) N && decide (srcL (inL (arcs P x.b) N (arcs P x.b).length) N = [q]))) := Lib.hid rfl
    have HQ1 := Lib.hid hq1
    unfold GivesI at *
    generalize srtB (arcs P x.b) N = sb at *
    generalize srtL (arcs P x.b) N = sl at *
    have hsl : (srcL (inL (arcs P x.b) N (arcs P x.b).length) N).length ≤ 1000000 := Nat.le_trans (srcL_len _ _) (by omega)
    have heq := fun (a b : Option Addr) (c d : Nat) (u : World) hx hy => pequalI_any a b c d (srcL (inL (arcs P x.b) N (arcs P x.b).length) N) [q] hsl (by simp) u hx hy
    clear hsl
    generalize srcL (inL (arcs P x.b) N (arcs P x.b).length) N = so at *
    obtain ⟨bo, hbo⟩ : ∃ bo, decide (so = [q]) = bo := ⟨_, rfl⟩
    simp only [hbo] at heq HPR
    have HEQ := Lib.hid heq
    clear heq hbo
    clear hpa hra hb1 hq1 e0
    gi_wp2_with fail
    refine ⟨trivial, fun h => (by cases h), ?_⟩
    refine (CallsIn.inRound l (callsIn_wide.2 HSR.out)).mono ?_
    rintro e x2 ⟨sa, sc, rfl, -, hb2⟩
    have HB2 := Lib.hid hb2
    clear hN1 hb2
    gi_wp2_with fail
    have HF : Hid (∀ u, Below x2.heap.size x2 u → u.cell? ⟨w.heap.size, 0, none⟩ = some (.int .i64 (N : Int)) ∧ u.cell? ⟨w.heap.size + 1, 0, none⟩ = some (.int .i64 q)) := Lib.hid (fun u hu => by
      have h9 : Below w2.heap.size w2 u := HI.out.low.trans ((HB1.out.trans ((HB2.out.trans (hu.mono HB2.out.size)).mono HB1.out.size)).mono HI.out.low.size)
      exact ⟨(HG2.out.below h9 HG2.out.lt).cell 0, (HQ2.out.below h9 HQ2.out.lt).cell 0⟩)
    cases sb with
    | false =>
      have hbz : Below W.heap.size W x2.drew := HB1.out.trans ((HB2.out.drew).mono HB1.out.size)
      refine wpIn_region_lateR (S := fun u => Below x2.heap.size x2 u) (X := []) (by kernel_rfl) (by kernel_rfl) (fun _ _ h => (by cases h.1)) ?_
      refine wpAnyL_pureD (i := 0) 50 (.bool false) rfl rfl (by kernel_rfl) (by kernel_rfl) (by kernel_rfl) (fun _ _ _ h => h) (Or.inl ⟨by rfl, fun u _ => ?_⟩) ?_
      · go_simp
      try simp only [Act.put, List.setIfInBounds_toArray, List.set_cons_zero, List.set_cons_succ]
      refine wpAnyL_pureD (i := 1) 51 (.bool false) rfl rfl (by kernel_rfl) (by kernel_rfl) (by kernel_rfl) (fun _ _ _ h => h) (Or.inl ⟨by rfl, fun u _ => ?_⟩) ?_
      · go_simp
      try simp only [Act.put, List.setIfInBounds_toArray, List.set_cons_zero, List.set_cons_succ]
      refine wpAnyL_pureD (i := 2) 52 undef rfl rfl (by kernel_rfl) (by kernel_rfl) (by kernel_rfl) (fun _ _ _ h => h) (Or.inr ⟨by kernel_rfl, rfl⟩) ?_
      try simp only [Act.put, List.setIfInBounds_toArray, List.set_cons_zero, List.set_cons_succ]
      refine wpAnyL_pureD (i := 3) 53 undef rfl rfl (by kernel_rfl) (by kernel_rfl) (by kernel_rfl) (fun _ _ _ h => h) (Or.inr ⟨by kernel_rfl, rfl⟩) ?_
      try simp only [Act.put, List.setIfInBounds_toArray, List.set_cons_zero, List.set_cons_succ]
      refine wpAnyL_pureD (i := 4) 54 undef rfl rfl (by kernel_rfl) (by kernel_rfl) (by kernel_rfl) (fun _ _ _ h => h) (Or.inr ⟨by kernel_rfl, rfl⟩) ?_
      try simp only [Act.put, List.setIfInBounds_toArray, List.set_cons_zero, List.set_cons_succ]
      refine wpAnyL_pureD (i := 5) 55 undef rfl rfl (by kernel_rfl) (by kernel_rfl) (by kernel_rfl) (fun _ _ _ h => h) (Or.inr ⟨by kernel_rfl, rfl⟩) ?_
      try simp only [Act.put, List.setIfInBounds_toArray, List.set_cons_zero, List.set_cons_succ]
      refine wpAnyL_pureD (i := 6) 56 undef rfl rfl (by kernel_rfl) (by kernel_rfl) (by kernel_rfl) (fun _ _ _ h => h) (Or.inr ⟨by kernel_rfl, rfl⟩) ?_
      try simp only [Act.put, List.setIfInBounds_toArray, List.set_cons_zero, List.set_cons_succ]
      refine wpAnyL_pureD (i := 7) 57 undef rfl rfl (by kernel_rfl) (by kernel_rfl) (by kernel_rfl) (fun _ _ _ h => h) (Or.inr ⟨by kernel_rfl, rfl⟩) ?_
      try simp only [Act.put, List.setIfInBounds_toArray, List.set_cons_zero, List.set_cons_succ]
      refine wpAnyL_pureD (i := 8) 58 undef rfl rfl (by kernel_rfl) (by kernel_rfl) (by kernel_rfl) (fun _ _ _ h => h) (Or.inr ⟨by kernel_rfl, rfl⟩) ?_
      try simp only [Act.put, List.setIfInBounds_toArray, List.set_cons_zero, List.set_cons_succ]
      refine wpAnyL_pureD (i := 9) 59 (.bool false) rfl rfl (by kernel_rfl) (by kernel_rfl) (by kernel_rfl) (fun _ _ _ h => h) (Or.inl ⟨by rfl, fun u _ => ?_⟩) ?_
      · go_simp
      try simp only [Act.put, List.setIfInBounds_toArray, List.set_cons_zero, List.set_cons_succ]
      refine wpAnyL_done (by kernel_rfl) ?_ _
      try simp only [Act.put, List.setIfInBounds_toArray, List.set_cons_zero, List.set_cons_succ]
      gi_wp2
      exact UI.skip HI.out (by rw [HPR.out]; rfl) hbz _

    | true =>
      have hj0 : Below x2.heap.size x2 x2.drew := (Below.refl _ _).drew
      refine wpIn_region_lateR (S := fun u => Below x2.heap.size x2 u) (X := []) (by kernel_rfl) (by kernel_rfl) (fun _ _ h => (by cases h.1)) ?_
      refine wpAnyL_pureD (i := 0) 50 (.bool true) rfl rfl (by kernel_rfl) (by kernel_rfl) (by kernel_rfl) (fun _ _ _ h => h) (Or.inl ⟨by rfl, fun u _ => ?_⟩) ?_
      · go_simp
      try simp only [Act.put, List.setIfInBounds_toArray, List.set_cons_zero, List.set_cons_succ]
      refine wpAnyL_pureD (i := 1) 51 (.bool true) rfl rfl (by kernel_rfl) (by kernel_rfl) (by kernel_rfl) (fun _ _ _ h => h) (Or.inl ⟨by rfl, fun u _ => ?_⟩) ?_
      · go_simp
      try simp only [Act.put, List.setIfInBounds_toArray, List.set_cons_zero, List.set_cons_succ]
      refine wpAnyL_pureD (i := 2) 52 (.pointer (some ⟨w.heap.size, 0, none⟩)) rfl rfl (by kernel_rfl) (by kernel_rfl) (by kernel_rfl) (fun _ _ _ h => h) (Or.inl ⟨by rfl, fun u _ => ?_⟩) ?_
      · go_simp
      try simp only [Act.put, List.setIfInBounds_toArray, List.set_cons_zero, List.set_cons_succ]
      refine wpAnyL_takeD (i := 3) 53 (.int .i64 (N : Int)) rfl rfl (by kernel_rfl) (by kernel_rfl) (by kernel_rfl) (by kernel_rfl) (by kernel_rfl) (fun _ _ _ h => h) hj0 (Or.inl ⟨by rfl, fun u hu => ?_⟩) ?_
      · obtain ⟨t0, t1⟩ := HF.out u hu
        go_simp
      try simp only [Act.put, List.setIfInBounds_toArray, List.set_cons_zero, List.set_cons_succ]
      refine wpAnyL_pureD (i := 4) 54 (.slice (some ⟨g, 0, none⟩) (arcs P x.b).length (arcs P x.b).length) rfl rfl (by kernel_rfl) (by kernel_rfl) (by kernel_rfl) (fun _ _ _ h => h) (Or.inl ⟨by rfl, fun u _ => ?_⟩) ?_
      · go_simp
      try simp only [Act.put, List.setIfInBounds_toArray, List.set_cons_zero, List.set_cons_succ]
      refine wpAnyL_takeD (i := 6) 56 (.int .i64 q) rfl rfl (by kernel_rfl) (by kernel_rfl) (by kernel_rfl) (by kernel_rfl) (by kernel_rfl) (fun _ _ _ h => h) hj0 (Or.inl ⟨by rfl, fun u hu => ?_⟩) ?_
      · obtain ⟨t0, t1⟩ := HF.out u hu
        go_simp
      try simp only [Act.put, List.setIfInBounds_toArray, List.set_cons_zero, List.set_cons_succ]
      refine wpAnyL_some (rs := [5, 7]) (by kernel_rfl) (by simp) (fun i' hi' => ?_)
      rcases (show i' = 5 ∨ i' = 7 by simpa using hi') with rfl | rfl
      · refine ⟨_, rfl, fun K hK => ?_⟩
        go_simp
        go_at_call 61
        refine (HSO.out _ (HPA.out.keep (HB2.out.trans (hj0.mono HB2.out.size)))).mono ?_
        rintro e y1 ⟨s2, c2, rfl, hs2, hbs⟩
        have hjs : Below x2.heap.size x2 y1 := hj0.trans (hbs.mono hj0.size)
        show K _ _
        refine hK.out _ _ (fun _ => hjs) ?_
        clear hK K hbs
        try simp only [Act.put, List.setIfInBounds_toArray, List.set_cons_zero, List.set_cons_succ]
        refine wpAnyL_one (i := 7) (by kernel_rfl) rfl (fun K hK => ?_)
        go_simp
        obtain ⟨y2, hy2⟩ : ∃ u, u = y1.alloc (Obj.cells #[.int .i64 q] 3) := ⟨_, rfl⟩
        obtain ⟨gq, hgq⟩ : ∃ g, g = y1.heap.size := ⟨_, rfl⟩
        have hb9 : Below y1.heap.size y1 y2 := by rw [hy2]; exact (Below.refl _ _).alloc (Nat.le_refl _) _
        have hqq : RowB encI 3 y2 gq [q] := by rw [hy2, hgq]; exact Blk.new _ _ _
        have hs3 := hs2.keep hb9
        have hjt : Below x2.heap.size x2 y2 := hjs.trans (hb9.mono hjs.size)
        rw [← hy2, ← hgq]
        refine hK.out _ _ (fun _ _ => hjt) ?_
        clear hK K hb9 hs2 hy2 hgq hjs hj0
        try simp only [Act.put, List.setIfInBounds_toArray, List.set_cons_zero, List.set_cons_succ]
        refine wpAnyL_one (i := 8) (by kernel_rfl) rfl (fun K hK => ?_)
        go_simp
        go_at_call 53
        refine (HEQ.out s2 (some ⟨gq, 0, none⟩) c2 1 y2 hs3 (hqq.row encI_len)).mono ?_
        rintro e y3 ⟨rfl, hb9⟩
        have hju : Below x2.heap.size x2 y3 := hjt.trans (hb9.mono hjt.size)
        show K _ _
        refine hK.out _ _ (fun _ _ => hju) ?_
        clear hK K hb9 hs3 hqq hjt
        try simp only [Act.put, List.setIfInBounds_toArray, List.set_cons_zero, List.set_cons_succ]
        refine wpAnyL_pureD (i := 9) 59 (.bool bo) rfl rfl (by kernel_rfl) (by kernel_rfl) (by kernel_rfl) (fun _ _ _ h => h) (Or.inl ⟨by rfl, fun u _ => ?_⟩) ?_
        · go_simp
        try simp only [Act.put, List.setIfInBounds_toArray, List.set_cons_zero, List.set_cons_succ]
        refine wpAnyL_done (by kernel_rfl) ?_ _
        try simp only [Act.put, List.setIfInBounds_toArray, List.set_cons_zero, List.set_cons_succ]
        have hbz : Below W.heap.size W y3 := HB1.out.trans ((HB2.out.trans (hju.mono HB2.out.size)).mono HB1.out.size)
        cases bo with
        | false =>
          gi_wp2
          exact UI.skip HI.out (by rw [HPR.out]; rfl) hbz _
        | true =>
          have hiy : UI w2 (prU P N q) T pre y3 := (HI.out.grow (Below.grown0 hbz)).less (fun _ h => .inl h)
          obtain ⟨v, hv1, hv2, hv3⟩ := hiy.row
          have hlv := hv1.lt
          have hc0 := hv1.cell 0
          have hkl : (keptX (prU P N q) pre).length ≤ 16384 := by have h1 : (keptX (prU P N q) pre).length ≤ pre.length := List.length_filter_le _ _; have := HPL.out; omega
          have HV := Lib.hid hv1
          have HO := Lib.hid hv2
          have HT3 := Lib.hid hv3
          have HBY := Lib.hid hbz
          clear hv1 hv2 hv3 hiy
          gi_wp2_with (gi_at_builtin; refine wpListIn_append_own_at _ rfl _ _ 45 rfl (w2.heap.size + 1) 25 i0 (.slice none 0 0) 1 24 Try.underlying45 hi0 hz0 hz1 hz2 rfl (by decide) _ _ _ rfl (HO.out.alloc _) ⟨y3.heap.size, 0, none⟩ 1 1 [.slice x.a x.b.length x.c] rfl rfl (lit_row _ _ _) (by simp [Value.oneCell']) (by unfold maxLen; omega) (by omega) (by simp; omega) ?_; intro v1 w9 hown hgrow hnil hat; obtain ⟨g9, c9, rfl⟩ := own_succ hown; have hvb9 := (HV.out.alloc (Obj.cells #[.slice x.a x.b.length x.c] 25)).grown hgrow (fun e => by have := (HO.out.lt _ e.symm).1; omega); have hc1 := hvb9.cell 0; have hf1 := hvb9.frozen 0; have HW9 := Lib.hid hown; have HGW := Lib.hid hgrow; have HAT := Lib.hid hat; clear hown hgrow hnil hat)
          exact UI.push HI.out HQX.out (by rw [HPR.out]; rfl) HBY.out HT3.out HO.out HV.out HW9.out HGW.out HAT.out _
      · refine ⟨_, rfl, fun K hK => ?_⟩
        go_simp
        obtain ⟨y1, hy1⟩ : ∃ u, u = (x2.alloc (Obj.cells #[.int .i64 q] 3)).drew := ⟨_, rfl⟩
        obtain ⟨gq, hgq⟩ : ∃ g, g = x2.heap.size := ⟨_, rfl⟩
        have hgq' : gq = x2.heap.size := hgq
        have hb9 : Below x2.heap.size x2 y1 := by rw [hy1]; exact ((Below.refl _ x2).alloc (Nat.le_refl _) _).drew
        have hq9 : RowB encI 3 y1 gq [q] := by rw [hy1, hgq]; exact Blk.new _ _ _
        first | rw [← hy1, ← hgq'] | rw [← hy1, ← hgq]
        refine hK.out _ _ (fun _ => hb9) ?_
        clear hK K hy1 hgq hgq' hj0
        try simp only [Act.put, List.setIfInBounds_toArray, List.set_cons_zero, List.set_cons_succ]
        refine wpAnyL_one (i := 5) (by kernel_rfl) rfl (fun K hK => ?_)
        go_simp
        go_at_call 61
        refine (HSO.out _ (HPA.out.keep (HB2.out.trans (hb9.mono HB2.out.size)))).mono ?_
        rintro e y2 ⟨s2, c2, rfl, hs2, hbs⟩
        have hjs : Below x2.heap.size x2 y2 := hb9.trans (hbs.mono hb9.size)
        show K _ _
        refine hK.out _ _ (fun _ _ => hjs) ?_
        have hs3 := hs2
        have hqq : RowB encI 3 y2 gq [q] := Blk.below hq9 hbs (Blk.lt hq9)
        have hjt := hjs
        clear hK K hbs hs2 hb9 hq9 hjs
        try simp only [Act.put, List.setIfInBounds_toArray, List.set_cons_zero, List.set_cons_succ]
        refine wpAnyL_one (i := 8) (by kernel_rfl) rfl (fun K hK => ?_)
        go_simp
        go_at_call 53
        refine (HEQ.out s2 (some ⟨gq, 0, none⟩) c2 1 y2 hs3 (hqq.row encI_len)).mono ?_
        rintro e y3 ⟨rfl, hb9⟩
        have hju : Below x2.heap.size x2 y3 := hjt.trans (hb9.mono hjt.size)
        show K _ _
        refine hK.out _ _ (fun _ _ => hju) ?_
        clear hK K hb9 hs3 hqq hjt
        try simp only [Act.put, List.setIfInBounds_toArray, List.set_cons_zero, List.set_cons_succ]
        refine wpAnyL_pureD (i := 9) 59 (.bool bo) rfl rfl (by kernel_rfl) (by kernel_rfl) (by kernel_rfl) (fun _ _ _ h => h) (Or.inl ⟨by rfl, fun u _ => ?_⟩) ?_
        · go_simp
        try simp only [Act.put, List.setIfInBounds_toArray, List.set_cons_zero, List.set_cons_succ]
        refine wpAnyL_done (by kernel_rfl) ?_ _
        try simp only [Act.put, List.setIfInBounds_toArray, List.set_cons_zero, List.set_cons_succ]
        have hbz : Below W.heap.size W y3 := HB1.out.trans ((HB2.out.trans (hju.mono HB2.out.size)).mono HB1.out.size)
        cases bo with
        | false =>
          gi_wp2
          exact UI.skip HI.out (by rw [HPR.out]; rfl) hbz _
        | true =>
          have hiy : UI w2 (prU P N q) T pre y3 := (HI.out.grow (Below.grown0 hbz)).less (fun _ h => .inl h)
          obtain ⟨v, hv1, hv2, hv3⟩ := hiy.row
          have hlv := hv1.lt
          have hc0 := hv1.cell 0
          have hkl : (keptX (prU P N q) pre).length ≤ 16384 := by have h1 : (keptX (prU P N q) pre).length ≤ pre.length := List.length_filter_le _ _; have := HPL.out; omega
          have HV := Lib.hid hv1
          have HO := Lib.hid hv2
          have HT3 := Lib.hid hv3
          have HBY := Lib.hid hbz
          clear hv1 hv2 hv3 hiy
          gi_wp2_with (gi_at_builtin; refine wpListIn_append_own_at _ rfl _ _ 45 rfl (w2.heap.size + 1) 25 i0 (.slice none 0 0) 1 24 Try.underlying45 hi0 hz0 hz1 hz2 rfl (by decide) _ _ _ rfl (HO.out.alloc _) ⟨y3.heap.size, 0, none⟩ 1 1 [.slice x.a x.b.length x.c] rfl rfl (lit_row _ _ _) (by simp [Value.oneCell']) (by unfold maxLen; omega) (by omega) (by simp; omega) ?_; intro v1 w9 hown hgrow hnil hat; obtain ⟨g9, c9, rfl⟩ := own_succ hown; have hvb9 := (HV.out.alloc (Obj.cells #[.slice x.a x.b.length x.c] 25)).grown hgrow (fun e => by have := (HO.out.lt _ e.symm).1; omega); have hc1 := hvb9.cell 0; have hf1 := hvb9.frozen 0; have HW9 := Lib.hid hown; have HGW := Lib.hid hgrow; have HAT := Lib.hid hat; clear hown hgrow hnil hat)
          exact UI.push HI.out HQX.out (by rw [HPR.out]; rfl) HBY.out HT3.out HO.out HV.out HW9.out HGW.out HAT.out _

  case done =>
    intro D xs W hD hS hI hK
    obtain ⟨v, hv, hrow, -⟩ := hI.row
    have hc := hv.cell 0
    obtain ⟨a', c', rfl, hp⟩ := RowAt.of_own encV_len hrow
    have HEL := Lib.hid hI.els
    have HLOW := Lib.hid hI.low
    have HPR := Lib.hid hp
    have HSX := Lib.hid hS
    clear hI hv hrow hp hS
    gi_wp2
    have hgr := grownBy_putObj' W D (.deferred none)
    refine ⟨by simp, .inl ⟨_, _, rfl, run_takeDeferred hK, ?_⟩⟩
    refine ⟨.tuple #[.slice a' (keptX (prU P N q) xs).length c', .int .i64 0], by simp [results, Try.results29, go_sem], ?_⟩
    have hM : (allB P.length []).filter (prU P N q) = (keptX (prU P N q) xs).map BX.b := by rw [keptX_map, HSX.out]
    rw [hM]
    refine ⟨a', c', by rw [List.length_map]; rfl, ⟨_, rfl, RowAt.putObj encV_len HPR.out hK rfl, fun y hy => RowAt.putObj encB_len (HEL.out y hy).1 hK rfl⟩, ?_⟩
    exact HB0.out.trans ((HBW2.out.trans ((HLOW.out.grown hgr HLOW.out.size (fun k e => by cases e; omega)).mono HBW2.out.size)).mono HB0.out.size)
end Go.Proofs.Ytlnaahkheankoaa

namespace Go.Proofs.Ytlnaahkheankoaa
open Go.RowKit Go.Shelf Go.Proofs.Gr
attribute [local go_sem] Oper.semAt_some

abbrev bTTT : List Bool := [true, true, true]
theorem tri_divisor (a b : Option Addr) (c d : Nat) (w : World) (h : EsAt w a triE) (ho : BsAt w b bTTT) : Calls Try.prog 16 #[.agg #[.int .i64 3, .slice a 3 c], .slice b 3 d] w (fun e x => ∃ a c, e = .returned (.tuple #[.slice a 3 c, .int .i64 0]) ∧ IsAt x a [-1, 0, 1] ∧ Below w.heap.size w x) := by
  refine (pdivisor_any 3 a c triE (by decide) b d bTTT (by decide) w h ho).mono ?_
  rintro e x ⟨a, c, rfl, h1, hb⟩
  have e1 : okL (chkO 3 triE bTTT) (lessL (inO 3 triE bTTT)) = [-1, 0, 1] := by decide +kernel
  rw [e1] at h1
  exact ⟨a, c, by rw [e1, show chkO 3 triE bTTT = 0 by decide]; rfl, h1, hb⟩
theorem tri_acyclic (a b : Option Addr) (c d : Nat) (w : World) (h : EsAt w a triE) (ho : BsAt w b bTTT) : Calls Try.prog 32 #[.agg #[.int .i64 3, .slice a 3 c], .slice b 3 d] w (fun e x => ∃ a c, e = .returned (.tuple #[.bool true, .slice a 3 c, .int .i64 0]) ∧ IsAt x a [0, 1, 2] ∧ Below w.heap.size w x) := by
  refine (pAcyclic_any 3 a c triE (by decide) b d bTTT (by decide) w h ho).mono ?_
  rintro e x ⟨a, c, rfl, h1, hb⟩
  have e1 : okL (chkO 3 triE bTTT) (acyL 3 triE bTTT) = [0, 1, 2] := by decide +kernel
  have e2 : okB (chkO 3 triE bTTT) (acyB 3 triE bTTT) = true := by decide +kernel
  rw [e1] at h1
  exact ⟨a, c, by rw [e1, e2, show chkO 3 triE bTTT = 0 by decide]; rfl, h1, hb⟩
theorem tri_directed (a b s : Option Addr) (c d f : Nat) (w : World) (h : EsAt w a triE) (ho : BsAt w b bTTT) (hs : IsAt w s [0]) : Calls Try.prog 37 #[.agg #[.int .i64 3, .slice a 3 c], .slice b 3 d, .slice s 1 f] w (fun e x => e = .returned (.tuple #[.int .i64 1, .int .i64 0]) ∧ Below w.heap.size w x) := by
  refine (pdirected_any 3 a c triE (by decide) b d bTTT (by decide) s f [0] (by decide) w h ho hs).mono ?_
  rintro e x ⟨rfl, hb⟩
  have e1 : okZ (dirE 3 triE bTTT [0]) (dirV 3 triE bTTT [0]) = 1 := by decide +kernel
  exact ⟨by rw [e1, show dirE 3 triE bTTT [0] = 0 by decide +kernel]; rfl, hb⟩
theorem tri_unique (a : Option Addr) (c : Nat) (w : World) (h : EsAt w a triE) : Calls Try.prog 29 #[.agg #[.int .i64 3, .slice a 3 c], .int .i64 0] w (fun e x => ∃ a c, e = .returned (.tuple #[.slice a 2 c, .int .i64 0]) ∧ LsAt x a [[true, true, false], [true, true, true]] ∧ Below w.heap.size w x) := by
  refine (callsIn_wide.1 (punique_ok 3 a c triE (by decide) 0 (by decide) (by decide) (by decide) w h)).mono ?_
  rintro e x ⟨a, c, rfl, h1, hb⟩
  have e1 : uniqR (endsG triE) 3 0 = [[true, true, false], [true, true, true]] := by decide +kernel
  rw [e1] at h1
  exact ⟨a, c, by rw [e1]; rfl, h1, hb⟩
theorem tri_eqI (a b : Option Addr) (c d : Nat) (w : World) (h1 : IsAt w a [0, 1, 2]) (h2 : IsAt w b [0, 1, 2]) : Calls Try.prog 53 #[.slice a 3 c, .slice b 3 d] w (fun e w' => e = .returned (.bool true) ∧ Below w.heap.size w w') := pequalI_any a b c d [0, 1, 2] [0, 1, 2] (by decide) (by decide) w h1 h2
set_option maxHeartbeats 12800000 in
set_option maxRecDepth 100000 in
theorem triangle_any (w : World) : Calls Try.prog 55 #[] w (fun e x => ∃ a c, e = .returned (.agg #[.int .i64 3, .slice a 3 c]) ∧ EsAt x a triE ∧ Below w.heap.size w x) := by
  go_enter Try.func55, Try.ntmps55
  go_wp2
  obtain ⟨V, hV⟩ : ∃ V, V = (w.alloc (Obj.cells #[.int .i64 3, .slice (some ⟨w.heap.size + 1, 0, none⟩) 3 3] 24)).alloc (Obj.cells #[.int .i64 0, .int .i64 1, .int .i64 1, .int .i64 0, .int .i64 2, .int .i64 1, .int .i64 1, .int .i64 2, .int .i64 1] 79) := ⟨_, rfl⟩
  rw [← hV]
  have hb : Below w.heap.size w V := by rw [hV]; exact ((Below.refl _ w).alloc (Nat.le_refl _) _).alloc (by simp) _
  have h1 : Blk V w.heap.size 24 #[.int .i64 3, .slice (some ⟨w.heap.size + 1, 0, none⟩) 3 3] := by rw [hV]; exact (Blk.new _ _ _).alloc _
  have h2 : Blk V (w.heap.size + 1) 79 #[.int .i64 0, .int .i64 1, .int .i64 1, .int .i64 0, .int .i64 2, .int .i64 1, .int .i64 1, .int .i64 2, .int .i64 1] := by
    rw [hV]
    have h9 := Blk.new (w.alloc (Obj.cells #[.int .i64 3, .slice (some ⟨w.heap.size + 1, 0, none⟩) 3 3] 24)) 79 #[.int .i64 0, .int .i64 1, .int .i64 1, .int .i64 0, .int .i64 2, .int .i64 1, .int .i64 1, .int .i64 2, .int .i64 1]
    rwa [World.size_alloc] at h9
  have r5 : V.cell? ⟨w.heap.size, 0, none⟩ = some (.int .i64 3) := h1.cell 0
  have r6 : V.cell? ⟨w.heap.size, 1, none⟩ = some (.slice (some ⟨w.heap.size + 1, 0, none⟩) 3 3) := h1.cell 1
  refine bodyPost_ret (v := .agg #[.int .i64 3, .slice (some ⟨w.heap.size + 1, 0, none⟩) 3 3]) (by simp [results, Try.results55, go_sem, r5, r6]) rfl ?_
  exact ⟨_, _, rfl, RowAt.of_blk (k := 3) (enc := encE) (fun _ => rfl) h2 rfl, hb⟩
set_option maxHeartbeats 12800000 in
set_option maxRecDepth 100000 in
theorem awake14 (w : World) : Calls Try.prog 13 #[] w (fun e x => e = .returned (.bool true) ∧ Below w.heap.size w x) := by
  have HTR := Lib.hid (triangle_any w)
  go_enter Try.func13, Try.ntmps13
  go_wp2_with fail
  refine HTR.out.mono ?_
  rintro e w1 ⟨a, c, rfl, hE, hb⟩
  obtain ⟨V, hV⟩ : ∃ V, V = (w1.alloc (Obj.cells #[.bool true, .bool true, .bool true] 4)).alloc (Obj.cells #[.int .i64 3, .slice a 3 c] 24) := ⟨_, rfl⟩
  have hbV : Below w1.heap.size w1 V := by rw [hV]; exact ((Below.refl _ _).alloc (Nat.le_refl _) _).alloc (by simp) _
  have ho : Blk V w1.heap.size 4 #[.bool true, .bool true, .bool true] := by rw [hV]; exact (Blk.new _ _ _).alloc _
  have hg : Blk V (w1.heap.size + 1) 24 #[.int .i64 3, .slice a 3 c] := by
    rw [hV]
    have := Blk.new (w1.alloc (Obj.cells #[.bool true, .bool true, .bool true] 4)) 24 #[.int .i64 3, .slice a 3 c]
    rwa [World.size_alloc] at this
  have HBV := Lib.hid (hb.trans (hbV.mono hb.size))
  have HF : Hid (∀ u, Below V.heap.size V u → u.cell? ⟨w1.heap.size + 1, 0, none⟩ = some (.int .i64 3) ∧ u.cell? ⟨w1.heap.size + 1, 1, none⟩ = some (.slice a 3 c) ∧ EsAt u a triE ∧ BsAt u (some ⟨w1.heap.size, 0, none⟩) bTTT) := Lib.hid (fun u hu => ⟨(hg.below hu hg.lt).cell 0, (hg.below hu hg.lt).cell 1, (hE.keep hbV).keep hu, RowB.row (enc := encB) (t := 4) encB_len (ho.below hu ho.lt : Blk u _ _ _)⟩)
  have HV := Lib.hid hV
  clear hE hb hbV ho hg hV
  go_wp2_with fail
  rw [← HV.out]
  refine (tri_divisor a _ c _ V (HF.out V (Below.refl _ _)).2.2.1 (HF.out V (Below.refl _ _)).2.2.2).mono ?_
  rintro e x1 ⟨da, dc, rfl, hd, hb⟩
  have Hx1 : Hid (Below V.heap.size V x1) := Lib.hid (hb)
  have HD := Lib.hid hd
  clear hd hb HV
  obtain ⟨g0, g1, -⟩ := HF.out x1 Hx1.out
  go_wp2_with fail
  refine (tri_acyclic a _ c _ x1 (HF.out x1 Hx1.out).2.2.1 (HF.out x1 Hx1.out).2.2.2).mono ?_
  rintro e x2 ⟨oa, oc, rfl, ho, hb⟩
  have Hx2 : Hid (Below V.heap.size V x2) := Lib.hid (Hx1.out.trans (hb.mono Hx1.out.size))
  have HD' := Lib.hid (HD.out.keep hb)
  have HO := Lib.hid ho
  obtain ⟨x3, hx3⟩ : ∃ x3, x3 = (x2.alloc (Obj.cells #[.bool true, .bool false, .bool true] 4)).alloc (Obj.cells #[.bool false, .bool true, .bool false] 4) := ⟨_, rfl⟩
  have hb3 : Below x2.heap.size x2 x3 := by rw [hx3]; exact ((Below.refl _ _).alloc (Nat.le_refl _) _).alloc (by simp) _
  have ha1 : Blk x3 x2.heap.size 4 #[.bool true, .bool false, .bool true] := by rw [hx3]; exact (Blk.new _ _ _).alloc _
  have ha2 : Blk x3 (x2.heap.size + 1) 4 #[.bool false, .bool true, .bool false] := by
    rw [hx3]
    have := Blk.new (x2.alloc (Obj.cells #[.bool true, .bool false, .bool true] 4)) 4 #[.bool false, .bool true, .bool false]
    rwa [World.size_alloc] at this
  have Hx3 : Hid (Below V.heap.size V x3) := Lib.hid (Hx2.out.trans (hb3.mono Hx2.out.size))
  have HEQ := Lib.hid (equiv_tri a c x2.heap.size (x2.heap.size + 1) x3 (HF.out x3 Hx3.out).2.2.1 ha1 ha2)
  have HD2 := Lib.hid (HD'.out.keep hb3)
  have HO2 := Lib.hid (HO.out.keep hb3)
  have H3 := Lib.hid hx3
  clear g0 g1 ho hb HD HD' HO hb3 ha1 ha2 hx3
  obtain ⟨g0, g1, -⟩ := HF.out x2 Hx2.out
  go_wp2_with fail
  rw [← H3.out]
  refine HEQ.out.mono ?_
  rintro e x4 ⟨rfl, hb⟩
  have Hx4 : Hid (Below V.heap.size V x4) := Lib.hid (Hx3.out.trans (hb.mono Hx3.out.size))
  have HD := Lib.hid (HD2.out.keep hb)
  have HO := Lib.hid (HO2.out.keep hb)
  clear g0 g1 hb HD2 HO2 HEQ H3
  obtain ⟨g0, g1, -⟩ := HF.out x4 Hx4.out
  go_wp2_with fail
  refine (tri_unique a c x4 (HF.out x4 Hx4.out).2.2.1).mono ?_
  rintro e x5 ⟨la, lc, rfl, hl, hb⟩
  have Hx5 : Hid (Below V.heap.size V x5) := Lib.hid (Hx4.out.trans (hb.mono Hx4.out.size))
  have HD2 := Lib.hid (HD.out.keep hb)
  have HO2 := Lib.hid (HO.out.keep hb)
  obtain ⟨x6, hx6⟩ : ∃ x6, x6 = x5.alloc (Obj.cells #[.int .i64 0] 3) := ⟨_, rfl⟩
  have hb6 : Below x5.heap.size x5 x6 := by rw [hx6]; exact (Below.refl _ _).alloc (Nat.le_refl _) _
  have ha6 : RowB encI 3 x6 x5.heap.size [0] := by rw [hx6]; exact Blk.new _ _ _
  have Hx6 : Hid (Below V.heap.size V x6) := Lib.hid (Hx5.out.trans (hb6.mono Hx5.out.size))
  have HDI := Lib.hid (tri_directed a _ _ c 3 1 x6 (HF.out x6 Hx6.out).2.2.1 (HF.out x6 Hx6.out).2.2.2 (ha6.row encI_len))
  have HD3 := Lib.hid (HD2.out.keep hb6)
  have HO3 := Lib.hid (HO2.out.keep hb6)
  have HL3 := Lib.hid (hl.keep hb6)
  have H6 := Lib.hid hx6
  clear g0 g1 hb hl HD HO HD2 HO2 hb6 ha6 hx6
  obtain ⟨g0, g1, -⟩ := HF.out x5 Hx5.out
  go_wp2_with fail
  rw [← H6.out]
  refine HDI.out.mono ?_
  rintro e x7 ⟨rfl, hb⟩
  have Hx7 : Hid (Below V.heap.size V x7) := Lib.hid (Hx6.out.trans (hb.mono Hx6.out.size))
  obtain ⟨x8, hx8⟩ : ∃ x8, x8 = x7.alloc (Obj.cells #[.int .i64 (-1), .int .i64 0, .int .i64 1] 3) := ⟨_, rfl⟩
  have hb8 : Below x7.heap.size x7 x8 := by rw [hx8]; exact (Below.refl _ _).alloc (Nat.le_refl _) _
  have ha8 : RowB encI 3 x8 x7.heap.size [-1, 0, 1] := by rw [hx8]; exact Blk.new _ _ _
  have Hx8 : Hid (Below V.heap.size V x8) := Lib.hid (Hx7.out.trans (hb8.mono Hx7.out.size))
  have HDD := Lib.hid (pequalD_true da (some ⟨x7.heap.size, 0, none⟩) dc 3 [-1, 0, 1] (by decide) x8 ((HD3.out.keep hb).keep hb8) (ha8.row encI_len))
  have HO := Lib.hid ((HO3.out.keep hb).keep hb8)
  have HL := Lib.hid ((HL3.out.keep hb).keep hb8)
  have H8 := Lib.hid hx8
  clear g0 g1 hb HD3 HO3 HL3 hb8 ha8 hx8 HDI H6
  go_wp2_with fail
  rw [← H8.out]
  refine HDD.out.mono ?_
  rintro e x9 ⟨rfl, hb⟩
  have Hx9 : Hid (Below V.heap.size V x9) := Lib.hid (Hx8.out.trans (hb.mono Hx8.out.size))
  obtain ⟨y0, hy0⟩ : ∃ y0, y0 = x9.alloc (Obj.cells #[.int .i64 0, .int .i64 1, .int .i64 2] 3) := ⟨_, rfl⟩
  have hby : Below x9.heap.size x9 y0 := by rw [hy0]; exact (Below.refl _ _).alloc (Nat.le_refl _) _
  have hay : RowB encI 3 y0 x9.heap.size [0, 1, 2] := by rw [hy0]; exact Blk.new _ _ _
  have Hy0 : Hid (Below V.heap.size V y0) := Lib.hid (Hx9.out.trans (hby.mono Hx9.out.size))
  have HII := Lib.hid (tri_eqI oa (some ⟨x9.heap.size, 0, none⟩) oc 3 y0 ((HO.out.keep hb).keep hby) (hay.row encI_len))
  have HL2 := Lib.hid ((HL.out.keep hb).keep hby)
  have H9 := Lib.hid hy0
  clear hb HO HL hby hay hy0 HDD H8
  go_wp2_with fail
  rw [← H9.out]
  refine HII.out.mono ?_
  rintro e y1 ⟨rfl, hb⟩
  have Hy1 : Hid (Below V.heap.size V y1) := Lib.hid (Hy0.out.trans (hb.mono Hy0.out.size))
  obtain ⟨y2, hy2⟩ : ∃ y2, y2 = ((y1.alloc (Obj.cells #[.bool true, .bool true, .bool false] 4)).alloc (Obj.cells #[.bool true, .bool true, .bool true] 4)).alloc (Obj.cells #[.slice (some ⟨y1.heap.size, 0, none⟩) 3 3, .slice (some ⟨y1.heap.size + 1, 0, none⟩) 3 3] 25) := ⟨_, rfl⟩
  have hb2 : Below y1.heap.size y1 y2 := by rw [hy2]; exact (((Below.refl _ _).alloc (Nat.le_refl _) _).alloc (by simp) _).alloc (by simp; omega) _
  have k0 : Blk y2 y1.heap.size 4 #[.bool true, .bool true, .bool false] := by rw [hy2]; exact ((Blk.new _ _ _).alloc _).alloc _
  have k1 : Blk y2 (y1.heap.size + 1) 4 #[.bool true, .bool true, .bool true] := by
    rw [hy2]
    have := Blk.new (y1.alloc (Obj.cells #[.bool true, .bool true, .bool false] 4)) 4 #[.bool true, .bool true, .bool true]
    rw [World.size_alloc] at this
    exact this.alloc _
  have k2 : Blk y2 (y1.heap.size + 2) 25 #[.slice (some ⟨y1.heap.size, 0, none⟩) 3 3, .slice (some ⟨y1.heap.size + 1, 0, none⟩) 3 3] := by
    rw [hy2]
    have := Blk.new ((y1.alloc (Obj.cells #[.bool true, .bool true, .bool false] 4)).alloc (Obj.cells #[.bool true, .bool true, .bool true] 4)) 25 #[.slice (some ⟨y1.heap.size, 0, none⟩) 3 3, .slice (some ⟨y1.heap.size + 1, 0, none⟩) 3 3]
    simp only [World.size_alloc] at this
    exact this
  have hls : LsAt y2 (some ⟨y1.heap.size + 2, 0, none⟩) [[true, true, false], [true, true, true]] := by
    refine ⟨[⟨some ⟨y1.heap.size, 0, none⟩, 3, [true, true, false]⟩, ⟨some ⟨y1.heap.size + 1, 0, none⟩, 3, [true, true, true]⟩], rfl, RowAt.of_blk (k := 1) (enc := encV) (fun _ => rfl) k2 rfl, ?_⟩
    intro x hx
    rcases List.mem_cons.1 hx with rfl | hx
    · exact RowB.row (enc := encB) (t := 4) encB_len k0
    · rcases List.mem_cons.1 hx with rfl | hx
      · exact RowB.row (enc := encB) (t := 4) encB_len k1
      · cases hx
  have Hy2 : Hid (Below V.heap.size V y2) := Lib.hid (Hy1.out.trans (hb2.mono Hy1.out.size))
  have HSM := Lib.hid (rsameAll_true la (some ⟨y1.heap.size + 2, 0, none⟩) lc 2 [[true, true, false], [true, true, true]] (by decide) (fun i hi => by rcases (show i = 0 ∨ i = 1 by simp at hi; omega) with rfl | rfl <;> decide) y2 ((HL2.out.keep hb).keep hb2) hls)
  have H2 := Lib.hid hy2
  clear hb hb2 k0 k1 k2 hls hy2 HL2 HII H9
  go_wp2_with fail
  rw [← H2.out]
  refine HSM.out.mono ?_
  rintro e y3 ⟨rfl, hb⟩
  have Hy3 : Hid (Below V.heap.size V y3) := Lib.hid (Hy2.out.trans (hb.mono Hy2.out.size))
  have HEND : Hid (Below w.heap.size w y3) := Lib.hid (HBV.out.trans (Hy3.out.mono HBV.out.size))
  clear hb
  go_wp2
  go_ret
  exact ⟨rfl, HEND.out⟩
end Go.Proofs.Ytlnaahkheankoaa

namespace Go.Proofs.Ytlnaahkheankoaa
open Go.RowKit Go.Shelf Go.Proofs.Gr
attribute [local go_sem] Oper.semAt_some

set_option maxHeartbeats 12800000 in
set_option maxRecDepth 100000 in
theorem rsubset_all (n : Int) (a : Option Addr) (cap : Nat) (L : List E) (b : Option Addr) (c : Nat) (S : List Int) (hS : S.length ≤ 9223372036854775807) (w : World) (h : EsAt w a L) (hv : IsAt w b S) :
    Calls Try.prog 49 #[gv n a L.length cap, .slice b S.length c] w (GivesN w (subE n S : Nat)) := by
  have HIV := Lib.hid (fun v w => vertex_any n a L.length cap v w)
  have HR : Hid (subE n S = firstE (sErr n S) S.length) := Lib.hid rfl
  unfold GivesN gv at *
  generalize subE n S = R at *
  obtain ⟨W, hW⟩ : ∃ W, W = w.alloc (Obj.cells #[.int .i64 n, .slice a L.length cap] 24) := ⟨_, rfl⟩
  have hB0 : Below w.heap.size w W := by rw [hW]; exact (Below.refl _ w).alloc (Nat.le_refl _) _
  have hG : Blk W w.heap.size 24 #[.int .i64 n, .slice a L.length cap] := by rw [hW]; exact Blk.new _ _ _
  have hWs : W.heap.size = w.heap.size + 1 := by rw [hW]; simp
  have HWS := Lib.hid hWs
  have HW := Lib.hid hW
  have HB0 := Lib.hid hB0
  have HG := Lib.hid hG
  have HE := Lib.hid (h.keep hB0)
  have g0 : W.cell? ⟨w.heap.size, 0, none⟩ = some (.int .i64 n) := hG.cell 0
  have g1 : W.cell? ⟨w.heap.size, 1, none⟩ = some (.slice a L.length cap) := hG.cell 1
  clear hB0 hG hW hWs
  have HVs := Lib.hid (hv.keep HB0.out)
  clear h hv HE
  go_enter Try.func49, Try.ntmps49
  go_wp2
  rw [← HW.out]
  generalize L.length = l0 at *
  go_loopw [5] (fun v wr => ∃ i : Nat, i ≤ S.length ∧ v = .int .i64 i ∧ (∀ j, j < i → sErr n S j = 0) ∧ Below W.heap.size W wr) (fun v _ => S.length - (intOf v).toNat)
  case atStart => exact ⟨0, by omega, rfl, fun j hj => by omega, Below.refl _ _⟩
  case round =>
    obtain ⟨i, hi, rfl, hz, hb⟩ := hrel
    have HBr := Lib.hid hb
    have HZ := Lib.hid hz
    have g0' : wr.cell? ⟨w.heap.size, 0, none⟩ = some (.int .i64 n) := (HG.out.below hb HG.out.lt).cell 0
    have g1' : wr.cell? ⟨w.heap.size, 1, none⟩ = some (.slice a l0 cap) := (HG.out.below hb HG.out.lt).cell 1
    by_cases hlt : i < S.length
    · obtain ⟨b1, o1, hbb, q1, x1⟩ := (HVs.out.keep hb).one i hlt
      subst hbb
      have i1 : (i : Int) < ((S.length : Nat) : Int) := by omega
      have HEr : Hid (sErr n S i = if isV n (iAt S i) = false then 2 else if 0 < i ∧ iAt S i ≤ iAt S (i - 1) then 9 else 0) := Lib.hid rfl
      have HFI : Hid (sErr n S i ≠ 0 → R = sErr n S i) := Lib.hid (fun hne => by rw [HR.out]; exact firstE_at HZ.out hne hlt)
      have HNX : Hid (sErr n S i = 0 → ∀ j, j < i + 1 → sErr n S j = 0) := Lib.hid (fun h0 j hj => by
        by_cases e : j = i
        · subst e; exact h0
        · exact HZ.out j (by omega))
      have HPREV : Hid (∀ m, i = m + 1 → ∀ x, Below W.heap.size W x → x.cell? ⟨b1, o1 + m, none⟩ = some (.int .i64 (iAt S m))) := Lib.hid (fun m hm x hx => by
        obtain ⟨b2, o2, h2, q2, y1⟩ := (HVs.out.keep hx).one m (by omega)
        simp only [Option.some.injEq, Addr.mk.injEq, and_true] at h2
        obtain ⟨rfl, rfl⟩ := h2
        exact y1)
      have HX1 : Hid (∀ x, Below W.heap.size W x → x.cell? ⟨b1, o1 + i, none⟩ = some (.int .i64 (iAt S i))) := Lib.hid (fun x hx => by
        obtain ⟨b2, o2, h2, q2, y1⟩ := (HVs.out.keep hx).one i hlt
        simp only [Option.some.injEq, Addr.mk.injEq, and_true] at h2
        obtain ⟨rfl, rfl⟩ := h2
        exact y1)
      generalize sErr n S i = er at *
      generalize hzz : iAt S i = z at *
      clear hb hz hzz
      have HV2 := Lib.hid (fun w => HIV.out z w)
      have HS : Hid (∀ x, Below wr.heap.size wr x → (Below wr.heap.size wr x ∧ x.cell? ⟨w.heap.size, 0, none⟩ = some (.int .i64 n) ∧ x.cell? ⟨w.heap.size, 1, none⟩ = some (.slice a l0 cap) ∧ x.cell? ⟨b1, o1 + i, none⟩ = some (.int .i64 z))) := fun x hx => by
        have hWx := HBr.out.trans (hx.mono HBr.out.size)
        exact ⟨hx, (HG.out.below hWx HG.out.lt).cell 0, (HG.out.below hWx HG.out.lt).cell 1, HX1.out x hWx⟩
      generalize hqq : isV n z = q at *
      cases q
      · have HEr' : er = 2 := by rw [HEr.out]; rfl
        go_wp2
        have hk1 : Below wr.heap.size wr wr.drew := (Below.refl _ _).drew
        obtain ⟨_, f0, f1, f2⟩ := HS.out _ hk1
        have hk2 := hk1
        clear hk1
        go_region_held3 (fun x => Below wr.heap.size wr x ∧ x.cell? ⟨w.heap.size, 0, none⟩ = some (.int .i64 n) ∧ x.cell? ⟨w.heap.size, 1, none⟩ = some (.slice a l0 cap) ∧ x.cell? ⟨b1, o1 + i, none⟩ = some (.int .i64 z))
          (first | exact HS.out _ (by assumption) | exact HS.out _ (Below.drew (by assumption)))
          (first | (go_at_call 72; refine (HV2.out _).mono ?_; rintro e w2 ⟨rfl, hbz⟩; have hk3 := hk2.trans (hbz.mono hk2.size); clear hbz hk2; have hk2 := hk3; clear hk3))
        rename_i hHeldz
        clear hHeldz
        have hk4 := HBr.out.trans (hk2.mono HBr.out.size)
        have HB2 := Lib.hid hk4
        clear hk2 hk4
        go_wp2
        go_ret
        exact ⟨by rw [HFI.out (by rw [HEr']; omega), HEr']; rfl, HB0.out.trans (HB2.out.mono HB0.out.size)⟩
      · rcases Nat.eq_zero_or_pos i with hi0 | hi0
        · subst hi0
          have HEr' : er = 0 := by rw [HEr.out, if_neg (by simp), if_neg (by omega)]
          simp only [Nat.add_zero] at x1 HS
          go_wp2
          have hk1 : Below wr.heap.size wr wr.drew := (Below.refl _ _).drew
          obtain ⟨_, f0, f1, f2⟩ := HS.out _ hk1
          have hk2 := hk1
          clear hk1
          go_region_held3 (fun x => Below wr.heap.size wr x ∧ x.cell? ⟨w.heap.size, 0, none⟩ = some (.int .i64 n) ∧ x.cell? ⟨w.heap.size, 1, none⟩ = some (.slice a l0 cap) ∧ x.cell? ⟨b1, o1, none⟩ = some (.int .i64 z))
            (first | exact HS.out _ (by assumption) | exact HS.out _ (Below.drew (by assumption)))
            (first | (go_at_call 72; refine (HV2.out _).mono ?_; rintro e w2 ⟨rfl, hbz⟩; have hk3 := hk2.trans (hbz.mono hk2.size); clear hbz hk2; have hk2 := hk3; clear hk3))
          rename_i hHeldz
          clear hHeldz
          have hk4 := HBr.out.trans (hk2.mono HBr.out.size)
          have HB2 := Lib.hid hk4
          have hz4 : decide ((0 : Int) < 0) = false := by decide
          clear hk2 hk4
          go_wp2
          go_quiet (fail)
          go_wp2
          go_roundw
          case rel => exact ⟨0 + 1, by omega, by go_num, HNX.out HEr', below_drewN HB2.out _⟩
          case measure => simp [intOf]; omega
        · obtain ⟨m, rfl⟩ : ∃ m, i = m + 1 := ⟨i - 1, by omega⟩
          have HP := Lib.hid (fun x hx => HPREV.out m rfl x hx)
          rw [show m + 1 - 1 = m from rfl] at HEr
          generalize iAt S m = y at *
          have z6 : IntKind.i64.wrap (m : Int) = (m : Int) := IntWalk.i64_in _ (by omega)
          have z2 : (0 : Int) ≤ (m : Int) := by omega
          have z3 : (m : Int) < ((S.length : Nat) : Int) := by omega
          have z4 : (0 : Int) < ((m + 1 : Nat) : Int) := by omega
          have z5 : (0 : Int) < (m : Int) + 1 := by omega
          have z7 : (0 : Int) ≤ (m : Int) + 1 := by omega
          have z8 : (m : Int) + 1 < ((S.length : Nat) : Int) := by omega
          by_cases hzy : z ≤ y
          · have HEr' : er = 9 := by rw [HEr.out, if_neg (by simp), if_pos ⟨by omega, hzy⟩]
            have c1 : decide (z ≤ y) = true := decide_eq_true hzy
            go_wp2
            have hk1 : Below wr.heap.size wr wr.drew := (Below.refl _ _).drew
            obtain ⟨_, f0, f1, f2⟩ := HS.out _ hk1
            have hk2 := hk1
            clear hk1
            go_region_held3 (fun x => Below wr.heap.size wr x ∧ x.cell? ⟨w.heap.size, 0, none⟩ = some (.int .i64 n) ∧ x.cell? ⟨w.heap.size, 1, none⟩ = some (.slice a l0 cap) ∧ x.cell? ⟨b1, o1 + (m + 1), none⟩ = some (.int .i64 z))
              (first | exact HS.out _ (by assumption) | exact HS.out _ (Below.drew (by assumption)))
              (first | (go_at_call 72; refine (HV2.out _).mono ?_; rintro e w2 ⟨rfl, hbz⟩; have hk3 := hk2.trans (hbz.mono hk2.size); clear hbz hk2; have hk2 := hk3; clear hk3))
            rename_i hHeldz
            clear hHeldz
            have hk4 := HBr.out.trans (hk2.mono HBr.out.size)
            have HB2 := Lib.hid hk4
            have y1 := HP.out _ hk4
            have x1' := HX1.out _ hk4
            clear hk2 hk4
            go_wp2
            go_quiet (fail)
            go_wp2
            go_ret
            exact ⟨by rw [HFI.out (by rw [HEr']; omega), HEr']; rfl, HB0.out.trans ((below_drewN HB2.out _).mono HB0.out.size)⟩
          · have HEr' : er = 0 := by rw [HEr.out, if_neg (by simp), if_neg (fun h => hzy h.2)]
            have c1 : decide (z ≤ y) = false := decide_eq_false hzy
            go_wp2
            have hk1 : Below wr.heap.size wr wr.drew := (Below.refl _ _).drew
            obtain ⟨_, f0, f1, f2⟩ := HS.out _ hk1
            have hk2 := hk1
            clear hk1
            go_region_held3 (fun x => Below wr.heap.size wr x ∧ x.cell? ⟨w.heap.size, 0, none⟩ = some (.int .i64 n) ∧ x.cell? ⟨w.heap.size, 1, none⟩ = some (.slice a l0 cap) ∧ x.cell? ⟨b1, o1 + (m + 1), none⟩ = some (.int .i64 z))
              (first | exact HS.out _ (by assumption) | exact HS.out _ (Below.drew (by assumption)))
              (first | (go_at_call 72; refine (HV2.out _).mono ?_; rintro e w2 ⟨rfl, hbz⟩; have hk3 := hk2.trans (hbz.mono hk2.size); clear hbz hk2; have hk2 := hk3; clear hk3))
            rename_i hHeldz
            clear hHeldz
            have hk4 := HBr.out.trans (hk2.mono HBr.out.size)
            have HB2 := Lib.hid hk4
            have y1 := HP.out _ hk4
            have x1' := HX1.out _ hk4
            clear hk2 hk4
            go_wp2
            go_quiet (fail)
            go_wp2
            go_roundw
            case rel => exact ⟨m + 1 + 1, by omega, by go_num, HNX.out HEr', below_drewN HB2.out _⟩
            case measure => simp [intOf]; omega
    · obtain rfl : i = S.length := by omega
      have HF : Hid (R = 0) := Lib.hid (by rw [HR.out]; exact firstE_zero hz)
      clear hb hz
      go_wp2
      go_ret
      exact ⟨by rw [HF.out]; rfl, HB0.out.trans (HBr.out.mono HB0.out.size)⟩
set_option maxHeartbeats 12800000 in
set_option maxRecDepth 100000 in
theorem indexI_any (a : Option Addr) (c : Nat) (A : List Int) (hA : A.length ≤ 100000) (v : Int) (w : World) (h : IsAt w a A) :
    Calls Try.prog 91 #[.slice a A.length c, .int .i64 v] w (fun e w' => (∃ r : Int, e = .returned (.int .i64 r) ∧ A.contains v = decide (0 ≤ r)) ∧ Below w.heap.size w w') := by
  have HE := Lib.hid h
  have HT : Hid (∀ i, i < A.length → v = iAt A i → A.contains v = true) := Lib.hid fun i hi e => by rw [List.contains_iff_mem, e, ← iAt_get A i hi]; exact List.getElem_mem hi
  have HF : Hid ((∀ j, j < A.length → ¬ v = iAt A j) → A.contains v = false) := Lib.hid fun hz => by
    cases hc : A.contains v with
    | false => rfl
    | true =>
      rw [List.contains_iff_mem] at hc
      obtain ⟨j, hj, e⟩ := List.getElem_of_mem hc
      exact absurd (by rw [← iAt_get A j hj]; exact e.symm) (hz j hj)
  generalize A.contains v = R at *
  clear h
  go_enter Try.func91, Try.ntmps91
  go_wp2
  go_loopw [8] (fun x wr => ∃ i : Nat, i ≤ A.length ∧ x = .int .i64 i ∧ Hid (∀ j, j < i → ¬ v = iAt A j) ∧ Below w.heap.size w wr) (fun x _ => A.length - (intOf x).toNat)
  case atStart => exact ⟨0, by omega, rfl, Lib.hid fun j hj => by omega, Below.refl _ _⟩
  case round =>
    obtain ⟨i, hi, rfl, hz, hb⟩ := hrel
    have HB := Lib.hid hb
    by_cases hlt : i < A.length
    · have i1 : (i : Int) < (A.length : Int) := by omega
      have i2 : (0 : Int) ≤ (i : Int) := by omega
      have HLT := Lib.hid hlt
      obtain ⟨b1, o1, hb1, q1, x1⟩ := (HE.out.keep hb).one i hlt
      subst hb1
      have HTI := Lib.hid (HT.out i hlt)
      have HZN : Hid (¬ v = iAt A i → Hid (∀ j, j < i + 1 → ¬ v = iAt A j)) := Lib.hid fun h0 => Lib.hid fun j hj => by
        by_cases e : j = i
        · subst e; exact h0
        · exact hz.out j (by omega)
      generalize iAt A i = z at *
      clear hz hb hlt q1
      by_cases e : v = z
      · have d1 : (v == z) = true := by rw [beq_iff_eq]; exact e
        have HR := Lib.hid (HTI.out e)
        clear e
        go_wp2
        go_ret
        exact ⟨⟨i, rfl, by rw [HR.out, decide_eq_true (by omega)]⟩, HB.out⟩
      · have d1 : (v == z) = false := by rw [beq_eq_false_iff_ne]; exact e
        have HR := Lib.hid (HZN.out e)
        clear e
        go_wp2
        go_roundw
        case rel => exact ⟨i + 1, by have := HLT.out; omega, by go_num, HR.out, HB.out⟩
        case measure => have := HLT.out; simp [intOf]; omega
    · obtain rfl : i = A.length := by omega
      have i1 : ¬ (A.length : Int) < (A.length : Int) := by omega
      have HR := Lib.hid (HF.out hz.out)
      clear hb hz
      go_wp2
      go_ret
      exact ⟨⟨-1, rfl, by rw [HR.out]; rfl⟩, HB.out⟩
set_option maxHeartbeats 12800000 in
set_option maxRecDepth 100000 in
theorem containsI_any (a : Option Addr) (c : Nat) (A : List Int) (hA : A.length ≤ 100000) (v : Int) (w : World) (h : IsAt w a A) :
    Calls Try.prog 52 #[.slice a A.length c, .int .i64 v] w (fun e w' => e = .returned (.bool (A.contains v)) ∧ Below w.heap.size w w') := by
  have HI := Lib.hid (indexI_any a c A hA v w h)
  generalize A.contains v = R at *
  clear h
  go_enter Try.func52, Try.ntmps52
  go_wp2_with fail
  refine HI.out.mono ?_
  rintro e w1 ⟨⟨r, rfl, hr⟩, hb⟩
  have HB := Lib.hid hb
  have HR := Lib.hid hr
  clear hb hr
  go_wp2
  go_ret
  exact ⟨by rw [HR.out]; rfl, HB.out⟩
set_option maxHeartbeats 12800000 in
set_option maxRecDepth 100000 in
theorem pequalI_true (a b : Option Addr) (c d : Nat) (D : List Int) (hD : D.length ≤ 100000) (w : World) (h1 : IsAt w a D) (h2 : IsAt w b D) :
    Calls Try.prog 53 #[.slice a D.length c, .slice b D.length d] w (fun e w' => e = .returned (.bool true) ∧ Below w.heap.size w w') := by
  have d1 : ((D.length : Int) != (D.length : Int)) = false := by simp
  have H1 := Lib.hid h1
  have H2 := Lib.hid h2
  clear h1 h2
  go_enter Try.func53, Try.ntmps53
  go_wp2
  go_loopw [13] (fun x wr => ∃ i : Nat, i ≤ D.length ∧ x = .int .i64 i ∧ Below w.heap.size w wr) (fun x _ => D.length - (intOf x).toNat)
  case atStart => exact ⟨0, by omega, rfl, Below.refl _ _⟩
  case round =>
    obtain ⟨i, hi, rfl, hb⟩ := hrel
    by_cases hlt : i < D.length
    · have i1 : (i : Int) < (D.length : Int) := by omega
      have i2 : (0 : Int) ≤ (i : Int) := by omega
      obtain ⟨b1, o1, hb1, q1, x1⟩ := (H1.out.keep hb).one i hlt
      obtain ⟨b2, o2, hb2, q2, x2⟩ := (H2.out.keep hb).one i hlt
      subst hb1 hb2
      have HXY : Hid (∀ u, Below wr.heap.size wr u → u.cell? ⟨b1, o1 + i, none⟩ = some (.int .i64 (iAt D i)) ∧ u.cell? ⟨b2, o2 + i, none⟩ = some (.int .i64 (iAt D i))) := Lib.hid fun u hu => by
        obtain ⟨b3, o3, e1, -, y1⟩ := (H1.out.keep (hb.trans (hu.mono hb.size))).one i hlt
        obtain ⟨b4, o4, e2, -, y2⟩ := (H2.out.keep (hb.trans (hu.mono hb.size))).one i hlt
        injection e1 with e1; injection e1 with e3 e4
        injection e2 with e2; injection e2 with e5 e6
        subst e3 e4 e5 e6
        exact ⟨y1, y2⟩
      have HBr := Lib.hid hb
      clear hb x1 x2
      generalize iAt D i = z at *
      have d2 : (z != z) = false := by simp
      go_wp2
      have hj0 : Below wr.heap.size wr wr.drew := (Below.refl _ _).drew
      refine wp_region_late (S := fun u => Below wr.heap.size wr u) (X := []) (by kernel_rfl) ?_
      refine wpAnyL_pureD (i := 0) 16 (.slice (some ⟨b1, o1, none⟩) D.length c) rfl rfl (by kernel_rfl) (by kernel_rfl) (by kernel_rfl) (fun _ _ _ h => h) (Or.inl ⟨by rfl, fun u _ => ?_⟩) ?_
      · go_simp
      try simp only [Act.put, List.setIfInBounds_toArray, List.set_cons_zero, List.set_cons_succ]
      refine wpAnyL_pureD (i := 1) 17 (.int .i64 i) rfl rfl (by kernel_rfl) (by kernel_rfl) (by kernel_rfl) (fun _ _ _ h => h) (Or.inl ⟨by rfl, fun u _ => ?_⟩) ?_
      · go_simp
      try simp only [Act.put, List.setIfInBounds_toArray, List.set_cons_zero, List.set_cons_succ]
      refine wpAnyL_pureD (i := 2) 18 (.pointer (some ⟨b1, o1 + i, none⟩)) rfl rfl (by kernel_rfl) (by kernel_rfl) (by kernel_rfl) (fun _ _ _ h => h) (Or.inl ⟨by rfl, fun u _ => ?_⟩) ?_
      · go_simp
      try simp only [Act.put, List.setIfInBounds_toArray, List.set_cons_zero, List.set_cons_succ]
      refine wpAnyL_takeD (i := 3) 19 (.int .i64 z) rfl rfl (by kernel_rfl) (by kernel_rfl) (by kernel_rfl) (by kernel_rfl) (by kernel_rfl) (fun _ _ _ h => h) hj0 (Or.inl ⟨by rfl, fun u hu => ?_⟩) ?_
      · obtain ⟨t0, t1⟩ := HXY.out u hu
        go_simp
      try simp only [Act.put, List.setIfInBounds_toArray, List.set_cons_zero, List.set_cons_succ]
      refine wpAnyL_pureD (i := 4) 20 (.slice (some ⟨b2, o2, none⟩) D.length d) rfl rfl (by kernel_rfl) (by kernel_rfl) (by kernel_rfl) (fun _ _ _ h => h) (Or.inl ⟨by rfl, fun u _ => ?_⟩) ?_
      · go_simp
      try simp only [Act.put, List.setIfInBounds_toArray, List.set_cons_zero, List.set_cons_succ]
      refine wpAnyL_pureD (i := 5) 21 (.int .i64 i) rfl rfl (by kernel_rfl) (by kernel_rfl) (by kernel_rfl) (fun _ _ _ h => h) (Or.inl ⟨by rfl, fun u _ => ?_⟩) ?_
      · go_simp
      try simp only [Act.put, List.setIfInBounds_toArray, List.set_cons_zero, List.set_cons_succ]
      refine wpAnyL_pureD (i := 6) 22 (.pointer (some ⟨b2, o2 + i, none⟩)) rfl rfl (by kernel_rfl) (by kernel_rfl) (by kernel_rfl) (fun _ _ _ h => h) (Or.inl ⟨by rfl, fun u _ => ?_⟩) ?_
      · go_simp
      try simp only [Act.put, List.setIfInBounds_toArray, List.set_cons_zero, List.set_cons_succ]
      refine wpAnyL_takeD (i := 7) 23 (.int .i64 z) rfl rfl (by kernel_rfl) (by kernel_rfl) (by kernel_rfl) (by kernel_rfl) (by kernel_rfl) (fun _ _ _ h => h) hj0 (Or.inl ⟨by rfl, fun u hu => ?_⟩) ?_
      · obtain ⟨t0, t1⟩ := HXY.out u hu
        go_simp
      try simp only [Act.put, List.setIfInBounds_toArray, List.set_cons_zero, List.set_cons_succ]
      refine wpAnyL_pureD (i := 8) 24 (.bool false) rfl rfl (by kernel_rfl) (by kernel_rfl) (by kernel_rfl) (fun _ _ _ h => h) (Or.inl ⟨by rfl, fun u _ => ?_⟩) ?_
      · go_simp
      try simp only [Act.put, List.setIfInBounds_toArray, List.set_cons_zero, List.set_cons_succ]
      refine wpAnyL_done (by kernel_rfl) ?_ _
      try simp only [Act.put, List.setIfInBounds_toArray, List.set_cons_zero, List.set_cons_succ]
      have HBN := Lib.hid (HBr.out.trans (hj0.mono HBr.out.size))
      clear hj0
      go_wp2
      go_roundw
      case rel => exact ⟨i + 1, by omega, by go_num, HBN.out⟩
      case measure => simp [intOf]; omega
    · obtain rfl : i = D.length := by omega
      have i1 : ¬ (D.length : Int) < (D.length : Int) := by omega
      have HEND := Lib.hid hb
      clear hb
      go_wp2
      go_ret
      exact ⟨rfl, HEND.out⟩
theorem sub_len {n : Int} {A : List Int} (h : subE n A = 0) (hn : 0 ≤ n) : (A.length : Int) ≤ n := by
  have hs : ∀ i, i < A.length → (0 ≤ iAt A i ∧ iAt A i < n) ∧ (0 < i → iAt A (i - 1) < iAt A i) := fun i hi => by
    have h1 := firstE_all h i hi
    unfold sErr at h1
    by_cases h3 : isV n (iAt A i) = false
    · rw [if_pos h3] at h1; omega
    · have h4 : isV n (iAt A i) = true := by cases h : isV n (iAt A i) with
        | false => exact absurd h h3
        | true => rfl
      rw [if_neg h3] at h1
      unfold isV at h4
      rw [Bool.and_eq_true, decide_eq_true_iff, decide_eq_true_iff] at h4
      refine ⟨h4, fun h0 => ?_⟩
      by_cases h5 : 0 < i ∧ iAt A i ≤ iAt A (i - 1)
      · rw [if_pos h5] at h1; omega
      · omega
  have hk : ∀ i, i < A.length → (i : Int) ≤ iAt A i := by
    intro i
    induction i with
    | zero => intro hi; have := (hs 0 hi).1.1; omega
    | succ i ih =>
      intro hi
      have h1 := ih (by omega)
      have h2 := (hs (i + 1) hi).2 (by omega)
      rw [Nat.add_sub_cancel] at h2
      omega
  by_cases h0 : A.length = 0
  · omega
  · have h1 := hk (A.length - 1) (by omega)
    have h2 := (hs (A.length - 1) (by omega)).1.2
    omega
theorem below_grown {base g : Nat} {w u v : World} (h : Below base w u) (h' : u.grownBy v (some g)) (hg : base ≤ g) (hs : base ≤ w.heap.size) : Below base w v :=
  ⟨h'.os.trans h.os, h'.tape.trans h.tape, h'.output.trans h.output, Nat.le_trans h.size h'.size, fun k hk => (h'.block k (Nat.lt_of_lt_of_le (Nat.lt_of_lt_of_le hk hs) h.size) (fun e => by injection e with e; omega)).trans (h.block k hk)⟩
theorem grownT {u v w : World} {r : Option Nat} (h : u.grownBy v r) (h' : v.grownBy w r) : u.grownBy w r :=
  ⟨h'.os.trans h.os, h'.tape.trans h.tape, h'.output.trans h.output, Nat.le_trans h.size h'.size, fun k hk hr => (h'.block k (Nat.lt_of_lt_of_le hk h.size) hr).trans (h.block k hk hr)⟩
theorem grownB {u v : World} (h : Below u.heap.size u v) (r : Option Nat) : u.grownBy v r := ⟨h.os, h.tape, h.output, h.size, fun k hk _ => h.block k hk⟩
theorem RowAt.gr {α : Type} {k : Nat} {enc : α → List Value} {w w' : World} {a : Option Addr} {L : List α} {g : Nat} (h : RowAt k enc w a L) (hg : w.grownBy w' (some g)) (hr : L ≠ [] → ∀ p, a = some p → p.block ≠ g) : RowAt k enc w' a L :=
  RowAt.same h hr (fun q hq hlt => hg.block q hlt (fun e => hq (by injection e))) hg.size
set_option maxHeartbeats 12800000 in
set_option maxRecDepth 100000 in
theorem cuts_any (n : Int) (a : Option Addr) (cap : Nat) (L : List E) (b : Option Addr) (c : Nat) (O : List Bool) (sa : Option Addr) (sc : Nat) (A : List Int) (hA0 : A.length ≤ 9223372036854775807) (w : World) (h : EsAt w a L) (ho : BsAt w b O) (hs : IsAt w sa A) :
    Calls Try.prog 10 #[gv n a L.length cap, .slice b O.length c, .slice sa A.length sc] w (fun e w' => e = .returned (.bool true) ∧ Below w.heap.size w w') := by
  have HAW := Lib.hid (fun w => awake14 w)
  by_cases hf : rightO n L O = false
  · have HRT : Hid (∀ u, EsAt u a L → BsAt u b O → Calls Try.prog 43 #[gv n a L.length cap, .slice b O.length c] u (fun e w' => e = .returned (.bool false) ∧ Below u.heap.size u w')) := Lib.hid fun u h1 h2 => by
      have := right_any n a cap L b c O u h1 h2
      unfold GivesB at this
      rwa [hf] at this
    unfold gv at *
    clear hf
    obtain ⟨W, hW⟩ : ∃ W, W = w.alloc (Obj.cells #[.int .i64 n, .slice a L.length cap] 24) := ⟨_, rfl⟩
    have hB0 : Below w.heap.size w W := by rw [hW]; exact (Below.refl _ w).alloc (Nat.le_refl _) _
    have hG : Blk W w.heap.size 24 #[.int .i64 n, .slice a L.length cap] := by rw [hW]; exact Blk.new _ _ _
    have HW := Lib.hid hW
    have HSW : Hid (W.heap.size = w.heap.size + 1) := Lib.hid (by rw [hW]; simp)
    have HB0 := Lib.hid hB0
    have HF : Hid (∀ u, Below W.heap.size W u → u.cell? ⟨w.heap.size, 0, none⟩ = some (.int .i64 n) ∧ u.cell? ⟨w.heap.size, 1, none⟩ = some (.slice a L.length cap)) := Lib.hid fun u hu => ⟨(hG.below hu hG.lt).cell 0, (hG.below hu hG.lt).cell 1⟩
    have HB : Hid (Below W.heap.size W W) := Lib.hid (Below.refl _ _)
    have PEE := Lib.hid (h.keep hB0)
    have PO := Lib.hid (ho.keep hB0)
    have PS := Lib.hid (hs.keep hB0)
    clear hW hB0 hG h ho hs
    go_enter Try.func10, Try.ntmps10
    go_wp2_with fail
    rw [← HW.out]
    refine (HRT.out W PEE.out PO.out).mono ?_
    rintro e w0 ⟨rfl, hb⟩
    replace PEE := Lib.hid (PEE.out.keep hb)
    replace PO := Lib.hid (PO.out.keep hb)
    replace PS := Lib.hid (PS.out.keep hb)
    replace HB := Lib.hid (HB.out.trans (hb.mono HB.out.size))
    clear hb
    obtain ⟨g0, g1⟩ := HF.out w0 HB.out
    go_wp2_with fail
    refine (HAW.out w0).mono ?_
    rintro e w1 ⟨rfl, hb⟩
    replace PEE := Lib.hid (PEE.out.keep hb)
    replace PO := Lib.hid (PO.out.keep hb)
    replace PS := Lib.hid (PS.out.keep hb)
    replace HB := Lib.hid (HB.out.trans (hb.mono HB.out.size))
    clear hb
    clear g0 g1
    obtain ⟨g0, g1⟩ := HF.out w1 HB.out
    go_wp2
    go_ret
    exact ⟨rfl, HB0.out.trans (HB.out.mono HB0.out.size)⟩
  have hf : rightO n L O = true := by cases hh : rightO n L O with | true => rfl | false => exact absurd hh hf
  have HRT : Hid (∀ u, EsAt u a L → BsAt u b O → Calls Try.prog 43 #[gv n a L.length cap, .slice b O.length c] u (fun e w' => e = .returned (.bool true) ∧ Below u.heap.size u w')) := Lib.hid fun u h1 h2 => by
    have := right_any n a cap L b c O u h1 h2
    unfold GivesB at this
    rwa [hf] at this
  have hfw : fewG n L = true ∧ chkO n L O = 0 := by
    unfold rightO at hf
    rwa [Bool.and_eq_true, decide_eq_true_iff] at hf
  have hl40 := few_len hfw.1
  have hR := right_of (chkO_zero hfw.2).1
  have hol := chkO_len hfw.2
  have hel := ends_all hR
  have HSU := Lib.hid (fun u h hs => rsubset_all n a cap L sa sc A hA0 u h hs)
  clear hf
  by_cases hk : subE n A ≠ 0
  · have q0 : (((subE n A : Nat) : Int) != 0) = true := by rw [bne_iff_ne]; omega
    unfold GivesN gv at *
    clear hfw hl40 hR hol hel hk
    generalize subE n A = k at *
    obtain ⟨W, hW⟩ : ∃ W, W = w.alloc (Obj.cells #[.int .i64 n, .slice a L.length cap] 24) := ⟨_, rfl⟩
    have hB0 : Below w.heap.size w W := by rw [hW]; exact (Below.refl _ w).alloc (Nat.le_refl _) _
    have hG : Blk W w.heap.size 24 #[.int .i64 n, .slice a L.length cap] := by rw [hW]; exact Blk.new _ _ _
    have HW := Lib.hid hW
    have HSW : Hid (W.heap.size = w.heap.size + 1) := Lib.hid (by rw [hW]; simp)
    have HB0 := Lib.hid hB0
    have HF : Hid (∀ u, Below W.heap.size W u → u.cell? ⟨w.heap.size, 0, none⟩ = some (.int .i64 n) ∧ u.cell? ⟨w.heap.size, 1, none⟩ = some (.slice a L.length cap)) := Lib.hid fun u hu => ⟨(hG.below hu hG.lt).cell 0, (hG.below hu hG.lt).cell 1⟩
    have HB : Hid (Below W.heap.size W W) := Lib.hid (Below.refl _ _)
    have PEE := Lib.hid (h.keep hB0)
    have PO := Lib.hid (ho.keep hB0)
    have PS := Lib.hid (hs.keep hB0)
    clear hW hB0 hG h ho hs
    go_enter Try.func10, Try.ntmps10
    go_wp2_with fail
    rw [← HW.out]
    refine (HRT.out W PEE.out PO.out).mono ?_
    rintro e w0 ⟨rfl, hb⟩
    replace PEE := Lib.hid (PEE.out.keep hb)
    replace PO := Lib.hid (PO.out.keep hb)
    replace PS := Lib.hid (PS.out.keep hb)
    replace HB := Lib.hid (HB.out.trans (hb.mono HB.out.size))
    clear hb
    obtain ⟨g0, g1⟩ := HF.out w0 HB.out
    go_wp2_with fail
    refine (HSU.out w0 PEE.out PS.out).mono ?_
    rintro e w1 ⟨rfl, hb⟩
    replace PEE := Lib.hid (PEE.out.keep hb)
    replace PO := Lib.hid (PO.out.keep hb)
    replace PS := Lib.hid (PS.out.keep hb)
    replace HB := Lib.hid (HB.out.trans (hb.mono HB.out.size))
    clear hb
    clear g0 g1
    obtain ⟨g0, g1⟩ := HF.out w1 HB.out
    go_wp2_with fail
    refine (HAW.out w1).mono ?_
    rintro e w2 ⟨rfl, hb⟩
    replace PEE := Lib.hid (PEE.out.keep hb)
    replace PO := Lib.hid (PO.out.keep hb)
    replace PS := Lib.hid (PS.out.keep hb)
    replace HB := Lib.hid (HB.out.trans (hb.mono HB.out.size))
    clear hb
    clear g0 g1
    obtain ⟨g0, g1⟩ := HF.out w2 HB.out
    go_wp2
    go_ret
    exact ⟨rfl, HB0.out.trans (HB.out.mono HB0.out.size)⟩
  have hk0 : subE n A = 0 := by omega
  have hA : A.length ≤ 100000 := by
    have h1 := sub_len hk0 (by have := hR.lo; omega)
    have h2 := hR.hi
    omega
  rw [hk0] at HSU
  have hde : dirE n L O A = 0 := by unfold dirE; rw [if_neg (by rw [hfw.2]; decide)]; exact hk0
  have HD1 : Hid (∀ u, EsAt u a L → BsAt u b O → IsAt u sa A → Calls Try.prog 37 #[gv n a L.length cap, .slice b O.length c, .slice sa A.length sc] u (fun e w' => e = .returned (.tuple #[.int .i64 (dirV n L O A), .int .i64 0]) ∧ Below u.heap.size u w')) := Lib.hid fun u h1 h2 h3 => by
    have := pdirected_any n a cap L (by omega) b c O (by omega) sa sc A hA u h1 h2 h3
    rw [hde, okZ_pos _ rfl] at this
    exact this
  by_cases hw : dirV n L O A = 0
  · rw [hw] at HD1
    unfold GivesN gv at *
    clear hfw hl40 hR hol hel hk hk0 hde hw
    obtain ⟨W, hW⟩ : ∃ W, W = w.alloc (Obj.cells #[.int .i64 n, .slice a L.length cap] 24) := ⟨_, rfl⟩
    have hB0 : Below w.heap.size w W := by rw [hW]; exact (Below.refl _ w).alloc (Nat.le_refl _) _
    have hG : Blk W w.heap.size 24 #[.int .i64 n, .slice a L.length cap] := by rw [hW]; exact Blk.new _ _ _
    have HW := Lib.hid hW
    have HSW : Hid (W.heap.size = w.heap.size + 1) := Lib.hid (by rw [hW]; simp)
    have HB0 := Lib.hid hB0
    have HF : Hid (∀ u, Below W.heap.size W u → u.cell? ⟨w.heap.size, 0, none⟩ = some (.int .i64 n) ∧ u.cell? ⟨w.heap.size, 1, none⟩ = some (.slice a L.length cap)) := Lib.hid fun u hu => ⟨(hG.below hu hG.lt).cell 0, (hG.below hu hG.lt).cell 1⟩
    have HB : Hid (Below W.heap.size W W) := Lib.hid (Below.refl _ _)
    have PEE := Lib.hid (h.keep hB0)
    have PO := Lib.hid (ho.keep hB0)
    have PS := Lib.hid (hs.keep hB0)
    clear hW hB0 hG h ho hs
    go_enter Try.func10, Try.ntmps10
    go_wp2_with fail
    rw [← HW.out]
    refine (HRT.out W PEE.out PO.out).mono ?_
    rintro e w0 ⟨rfl, hb⟩
    replace PEE := Lib.hid (PEE.out.keep hb)
    replace PO := Lib.hid (PO.out.keep hb)
    replace PS := Lib.hid (PS.out.keep hb)
    replace HB := Lib.hid (HB.out.trans (hb.mono HB.out.size))
    clear hb
    obtain ⟨g0, g1⟩ := HF.out w0 HB.out
    go_wp2_with fail
    refine (HSU.out w0 PEE.out PS.out).mono ?_
    rintro e w1 ⟨rfl, hb⟩
    replace PEE := Lib.hid (PEE.out.keep hb)
    replace PO := Lib.hid (PO.out.keep hb)
    replace PS := Lib.hid (PS.out.keep hb)
    replace HB := Lib.hid (HB.out.trans (hb.mono HB.out.size))
    clear hb
    clear g0 g1
    obtain ⟨g0, g1⟩ := HF.out w1 HB.out
    go_wp2_with fail
    refine (HD1.out w1 PEE.out PO.out PS.out).mono ?_
    rintro e w2 ⟨rfl, hb⟩
    replace PEE := Lib.hid (PEE.out.keep hb)
    replace PO := Lib.hid (PO.out.keep hb)
    replace PS := Lib.hid (PS.out.keep hb)
    replace HB := Lib.hid (HB.out.trans (hb.mono HB.out.size))
    clear hb
    clear g0 g1
    obtain ⟨g0, g1⟩ := HF.out w2 HB.out
    go_wp2_with fail
    refine (HAW.out w2).mono ?_
    rintro e w3 ⟨rfl, hb⟩
    replace PEE := Lib.hid (PEE.out.keep hb)
    replace PO := Lib.hid (PO.out.keep hb)
    replace PS := Lib.hid (PS.out.keep hb)
    replace HB := Lib.hid (HB.out.trans (hb.mono HB.out.size))
    clear hb
    clear g0 g1
    obtain ⟨g0, g1⟩ := HF.out w3 HB.out
    go_wp2
    go_ret
    exact ⟨rfl, HB0.out.trans (HB.out.mono HB0.out.size)⟩
  have hn1 := hR.lo
  have hn2 := hR.hi
  obtain ⟨N, rfl⟩ : ∃ N : Nat, n = N := ⟨n.toNat, by omega⟩
  have hc : CutS N L O A := ⟨hfw.2, hk0, hw⟩
  have hway : dirV N L O A = 1 ∨ dirV N L O A = -1 := by
    have h9 := hw
    unfold dirV at h9 ⊢
    rcases way_two h9 with ⟨e, _⟩ | ⟨e, _⟩
    · exact .inl e
    · exact .inr e
  have hbl := backO_len L O A
  have HCU := Lib.hid (fun u h hv => rcut_any N a cap L (by omega) hR sa sc A hA u h hv)
  have hcl : (cutG L A).length ≤ 5000 := by unfold cutG; have := cutI_le (fun e => outB A (pAt (endsG L) e)) (endsG L).length; omega
  have HRV : Hid (∀ p q u, EsAt u a L → BsAt u b O → IsAt u p (cutG L A) → Calls Try.prog 39 #[gv N a L.length cap, .slice b O.length c, .slice p (cutG L A).length q] u (fun e w' => ∃ p q, e = .returned (.tuple #[.slice p (backO L O A).length q, .int .i64 0]) ∧ BsAt w' p (backO L O A) ∧ Below u.heap.size u w')) := Lib.hid fun p q u h1 h2 h3 => by
    have := preverse_ori N a cap L (by omega) b c O (by omega) p q (cutG L A) (by omega) u h1 h2 h3
    rw [hc.rev, okL_pos _ rfl] at this
    exact this
  have HD2 : Hid (∀ p q u, EsAt u a L → BsAt u p (backO L O A) → IsAt u sa A → Calls Try.prog 37 #[gv N a L.length cap, .slice p (backO L O A).length q, .slice sa A.length sc] u (fun e w' => e = .returned (.tuple #[.int .i64 (- dirV N L O A), .int .i64 0]) ∧ Below u.heap.size u w')) := Lib.hid fun p q u h1 h2 h3 => by
    have := pdirected_any N a cap L (by omega) p q (backO L O A) (by omega) sa sc A hA u h1 h2 h3
    rw [hc.dirs.2, okZ_pos _ rfl, hc.turn] at this
    exact this
  have HI1 : Hid (∀ u, EsAt u a L → BsAt u b O → Calls Try.prog 14 #[gv N a L.length cap, .slice b O.length c] u (fun e w' => ∃ g, u.heap.size ≤ g ∧ e = .returned (.tuple #[.slice (some ⟨g, 0, none⟩) N N, .int .i64 0]) ∧ RowB encI 3 w' g (inO N L O) ∧ Below u.heap.size u w')) := Lib.hid fun u h1 h2 => by
    have hp := pindegrees_any N a cap L (by omega) b c O (by omega) u h1 h2
    refine hp.mono fun e x hx => ?_
    have hlen : (inO N L O).length = N := by rw [inO_len, Int.toNat_natCast]
    rcases hx with ⟨_, g, h5, h6, h7, h8⟩ | ⟨h5, _⟩
    · rw [hlen] at h6; exact ⟨g, h5, h6, h7, h8⟩
    · exact absurd hc.ok h5
  have HI2 : Hid (∀ p q u, EsAt u a L → BsAt u p (backO L O A) → Calls Try.prog 14 #[gv N a L.length cap, .slice p (backO L O A).length q] u (fun e w' => ∃ g, u.heap.size ≤ g ∧ e = .returned (.tuple #[.slice (some ⟨g, 0, none⟩) N N, .int .i64 0]) ∧ IsAt w' (some ⟨g, 0, none⟩) (inO N L (backO L O A)) ∧ Below u.heap.size u w')) := Lib.hid fun p q u h1 h2 => by
    have hp := pindegrees_any N a cap L (by omega) p q (backO L O A) (by omega) u h1 h2
    refine hp.mono fun e x hx => ?_
    have hlen : (inO N L (backO L O A)).length = N := by rw [inO_len, Int.toNat_natCast]
    rcases hx with ⟨_, g, h5, h6, h7, h8⟩ | ⟨h5, _⟩
    · rw [hlen] at h6; exact ⟨g, h5, h6, h7.row encI_len, h8⟩
    · exact absurd hc.back h5
  have HEN := Lib.hid (fun u h => rendsW_any N a cap L (by omega) hR u h)
  have HCT := Lib.hid (fun v u h => containsI_any sa sc A hA v u h)
  have HZ0 := Lib.hid (ctT_zero (endsG L) A (dirV N L O A) (inO N L O) (cutG L A))
  have HZS := Lib.hid (fun i hi => ctT_next (endsG L) A (dirV N L O A) (inO N L O) (cutG L A) i hi)
  have HZE := Lib.hid hc.all
  have HZL : Hid (∀ i, i ≤ (cutG L A).length → (ctT (endsG L) A (dirV N L O A) (inO N L O) (cutG L A) i).length = N) := Lib.hid fun i hi => by rw [ctT_len _ _ _ _ _ _ hi, inO_len, Int.toNat_natCast]
  have HZB : Hid (∀ (i : Nat) (v : Nat), i ≤ (cutG L A).length → -20000 ≤ iAt (ctT (endsG L) A (dirV N L O A) (inO N L O) (cutG L A) i) v ∧ iAt (ctT (endsG L) A (dirV N L O A) (inO N L O) (cutG L A) i) v ≤ 20000) := Lib.hid fun i v hi => cut_bd hc i hi v (by omega) (by omega)
  have HER := Lib.hid (fun j hj => ends_rng hR j hj)
  have HCI : Hid (∀ i, i < (cutG L A).length → 0 ≤ iAt (cutG L A) i ∧ iAt (cutG L A) i < ((endsG L).length : Int)) := Lib.hid fun i hi => cutG_in _ (by rw [← iAt_get _ i hi]; exact List.getElem_mem hi)
  have HEQ : Hid (∀ u p q, IsAt u p (inO N L (backO L O A)) → IsAt u q (inO N L (backO L O A)) → Calls Try.prog 53 #[.slice p N N, .slice q N N] u (fun e w' => e = .returned (.bool true) ∧ Below u.heap.size u w')) := Lib.hid fun u p q h1 h2 => by
    have hlen : (inO N L (backO L O A)).length = N := by rw [inO_len, Int.toNat_natCast]
    have := pequalI_true p q N N (inO N L (backO L O A)) (by omega) u h1 h2
    rwa [hlen] at this
  have HCL : Hid ((cutG L A).length ≤ 5000) := Lib.hid hcl
  have HNN : Hid (N ≤ 12) := Lib.hid (by omega)
  have HSTD : Hid (∀ D x, stC (endsG L) A (dirV N L O A) D x = updC A (dirV N L O A) (updC A (dirV N L O A) D (pAt (endsG L) x.toNat).1) (pAt (endsG L) x.toNat).2) := Lib.hid fun _ _ => rfl
  have HUPD : Hid (∀ D v, updC A (dirV N L O A) D v = D.set v.toNat (iAt D v.toNat + (if A.contains v = true then dirV N L O A else - dirV N L O A))) := Lib.hid fun _ _ => rfl
  have HUPL : Hid (∀ D v, (updC A (dirV N L O A) D v).length = D.length) := Lib.hid fun _ _ => updC_len _ _ _ _
  clear hfw hl40 hR hol hel hk hk0 hde hw hn1 hn2 hc hbl hcl
  unfold GivesN GivesI GivesPW gv at *
  generalize ctT (endsG L) A (dirV N L O A) (inO N L O) (cutG L A) = Z at *
  generalize stC (endsG L) A (dirV N L O A) = ST at *
  generalize updC A (dirV N L O A) = UP at *
  generalize inO N L O = D0 at *
  generalize inO N L (backO L O A) = D1 at *
  generalize backO L O A = O2 at *
  generalize cutG L A = C at *
  generalize endsG L = P at *
  generalize dirV N L O A = wy at *
  rcases hway with hw1 | hw1
  · subst hw1
    rw [show (-(1 : Int)) = -1 from rfl] at HD2
    obtain ⟨W, hW⟩ : ∃ W, W = w.alloc (Obj.cells #[.int .i64 (N : Int), .slice a L.length cap] 24) := ⟨_, rfl⟩
    have hB0 : Below w.heap.size w W := by rw [hW]; exact (Below.refl _ w).alloc (Nat.le_refl _) _
    have hG : Blk W w.heap.size 24 #[.int .i64 (N : Int), .slice a L.length cap] := by rw [hW]; exact Blk.new _ _ _
    have HW := Lib.hid hW
    have HSW : Hid (W.heap.size = w.heap.size + 1) := Lib.hid (by rw [hW]; simp)
    have HB0 := Lib.hid hB0
    have HF : Hid (∀ u, Below W.heap.size W u → u.cell? ⟨w.heap.size, 0, none⟩ = some (.int .i64 (N : Int)) ∧ u.cell? ⟨w.heap.size, 1, none⟩ = some (.slice a L.length cap)) := Lib.hid fun u hu => ⟨(hG.below hu hG.lt).cell 0, (hG.below hu hG.lt).cell 1⟩
    have HB : Hid (Below W.heap.size W W) := Lib.hid (Below.refl _ _)
    have PEE := Lib.hid (h.keep hB0)
    have PO := Lib.hid (ho.keep hB0)
    have PS := Lib.hid (hs.keep hB0)
    clear hW hB0 hG h ho hs
    go_enter Try.func10, Try.ntmps10
    go_wp2_with fail
    rw [← HW.out]
    refine (HRT.out W PEE.out PO.out).mono ?_
    rintro e w0 ⟨rfl, hb⟩
    replace PEE := Lib.hid (PEE.out.keep hb)
    replace PO := Lib.hid (PO.out.keep hb)
    replace PS := Lib.hid (PS.out.keep hb)
    replace HB := Lib.hid (HB.out.trans (hb.mono HB.out.size))
    clear hb
    obtain ⟨g0, g1⟩ := HF.out w0 HB.out
    go_wp2_with fail
    refine (HSU.out w0 PEE.out PS.out).mono ?_
    rintro e w1 ⟨rfl, hb⟩
    replace PEE := Lib.hid (PEE.out.keep hb)
    replace PO := Lib.hid (PO.out.keep hb)
    replace PS := Lib.hid (PS.out.keep hb)
    replace HB := Lib.hid (HB.out.trans (hb.mono HB.out.size))
    clear hb
    clear g0 g1
    obtain ⟨g0, g1⟩ := HF.out w1 HB.out
    go_wp2_with fail
    refine (HD1.out w1 PEE.out PO.out PS.out).mono ?_
    rintro e w2 ⟨rfl, hb⟩
    replace PEE := Lib.hid (PEE.out.keep hb)
    replace PO := Lib.hid (PO.out.keep hb)
    replace PS := Lib.hid (PS.out.keep hb)
    replace HB := Lib.hid (HB.out.trans (hb.mono HB.out.size))
    clear hb
    clear g0 g1
    obtain ⟨g0, g1⟩ := HF.out w2 HB.out
    go_wp2_with fail
    refine (HCU.out w2 PEE.out PS.out).mono ?_
    rintro e w3 ⟨pc, qc, rfl, hpC, hb⟩
    replace PEE := Lib.hid (PEE.out.keep hb)
    replace PO := Lib.hid (PO.out.keep hb)
    replace PS := Lib.hid (PS.out.keep hb)
    replace HB := Lib.hid (HB.out.trans (hb.mono HB.out.size))
    clear hb
    have PC := Lib.hid hpC
    clear hpC
    clear g0 g1
    obtain ⟨g0, g1⟩ := HF.out w3 HB.out
    go_wp2_with fail
    refine (HRV.out _ _ w3 PEE.out PO.out PC.out).mono ?_
    rintro e w4 ⟨p2, q2, rfl, hpB, hb⟩
    replace PEE := Lib.hid (PEE.out.keep hb)
    replace PO := Lib.hid (PO.out.keep hb)
    replace PS := Lib.hid (PS.out.keep hb)
    replace PC := Lib.hid (PC.out.keep hb)
    replace HB := Lib.hid (HB.out.trans (hb.mono HB.out.size))
    clear hb
    have PB := Lib.hid hpB
    clear hpB
    clear g0 g1
    obtain ⟨g0, g1⟩ := HF.out w4 HB.out
    go_wp2_with fail
    refine (HD2.out _ _ w4 PEE.out PB.out PS.out).mono ?_
    rintro e w5 ⟨rfl, hb⟩
    replace PEE := Lib.hid (PEE.out.keep hb)
    replace PO := Lib.hid (PO.out.keep hb)
    replace PS := Lib.hid (PS.out.keep hb)
    replace PC := Lib.hid (PC.out.keep hb)
    replace PB := Lib.hid (PB.out.keep hb)
    replace HB := Lib.hid (HB.out.trans (hb.mono HB.out.size))
    clear hb
    clear g0 g1
    obtain ⟨g0, g1⟩ := HF.out w5 HB.out
    have LS := Lib.hid (fun p (e : sa = some p) (h0 : A ≠ []) => (show p.block < w5.heap.size from by have hh := PS.out; rw [e] at hh; exact RowAt.low hh h0 _ rfl))
    have LC := Lib.hid (fun p (e : pc = some p) (h0 : C ≠ []) => (show p.block < w5.heap.size from by have hh := PC.out; rw [e] at hh; exact RowAt.low hh h0 _ rfl))
    have HCB := Lib.hid HB.out.size
    go_wp2_with fail
    refine (HI1.out w5 PEE.out PO.out).mono ?_
    rintro e w6 ⟨g, hgg, rfl, hra, hb⟩
    clear PO
    replace PEE := Lib.hid (PEE.out.keep hb)
    replace PS := Lib.hid (PS.out.keep hb)
    replace PC := Lib.hid (PC.out.keep hb)
    replace PB := Lib.hid (PB.out.keep hb)
    replace HB := Lib.hid (HB.out.trans (hb.mono HB.out.size))
    clear hb
    clear g0 g1
    obtain ⟨g0, g1⟩ := HF.out w6 HB.out
    have HGG := Lib.hid hgg
    clear hgg
    have PRA := Lib.hid hra
    clear hra
    have HGL : Hid (g < w6.heap.size) := Lib.hid PRA.out.lt
    go_wp2_with fail
    refine (HI2.out _ _ w6 PEE.out PB.out).mono ?_
    rintro e w7 ⟨g2, hg2, rfl, hpD, hb⟩
    have HDZ := Lib.hid hb.size
    clear PB
    replace PEE := Lib.hid (PEE.out.keep hb)
    replace PS := Lib.hid (PS.out.keep hb)
    replace PC := Lib.hid (PC.out.keep hb)
    replace PRA : Hid (RowB encI 3 _ g D0) := Lib.hid (PRA.out.below hb PRA.out.lt)
    replace HB := Lib.hid (HB.out.trans (hb.mono HB.out.size))
    clear hb
    have PD := Lib.hid hpD
    clear hpD
    clear g0 g1
    obtain ⟨g0, g1⟩ := HF.out w7 HB.out
    have HG2 : Hid (g < g2) := Lib.hid (by have := HGL.out; omega)
    clear hg2
    go_wp2_with fail
    refine (HEN.out w7 PEE.out).mono ?_
    rintro e w8 ⟨pp, qp, rfl, hpP, hfp, hb⟩
    clear PEE
    replace PS := Lib.hid (PS.out.keep hb)
    replace PC := Lib.hid (PC.out.keep hb)
    replace PD := Lib.hid (PD.out.keep hb)
    replace PRA : Hid (RowB encI 3 _ g D0) := Lib.hid (PRA.out.below hb PRA.out.lt)
    replace HB := Lib.hid (HB.out.trans (hb.mono HB.out.size))
    clear hb
    have PP := Lib.hid hpP
    clear hpP
    clear g0 g1
    obtain ⟨g0, g1⟩ := HF.out w8 HB.out
    have HFP : Hid (∀ p, pp = some p → p.block ≠ g) := Lib.hid fun p e => by
      have h1 := hfp p e
      have h2 : g < w7.heap.size := Nat.lt_of_lt_of_le HGL.out HDZ.out
      omega
    clear hfp
    go_wp2
    clear g0 g1
    go_loopw [112] (fun x wr => ∃ i : Nat, i ≤ C.length ∧ x = .int .i64 i ∧ RowB encI 3 wr g (Z i) ∧ w8.grownBy wr (some g)) (fun x _ => C.length - (intOf x).toNat)
    case atStart => exact ⟨0, by omega, rfl, by rw [HZ0.out]; exact PRA.out, grownB (Below.refl _ _) _⟩
    case round =>
      obtain ⟨i, hi, rfl, hra, hg⟩ := hrel
      have HRA := Lib.hid hra
      have HGR := Lib.hid hg
      have PCI : Hid (IsAt wr pc C) := Lib.hid (RowAt.gr PC.out hg (fun h0 p e => by have := LC.out p e h0; have := HGG.out; omega))
      by_cases hlt : i < C.length
      · have i1 : (i : Int) < (C.length : Int) := by omega
        have i2 : (0 : Int) ≤ (i : Int) := by omega
        have hcl := HCL.out
        have HLT := Lib.hid hlt
        obtain ⟨b1, o1, hb1, q1, x1⟩ := PCI.out.one i hlt
        subst hb1
        have hci := HCI.out i hlt
        obtain ⟨x, hx⟩ : ∃ x : Nat, iAt C i = x := ⟨(iAt C i).toNat, by omega⟩
        rw [hx] at x1 hci
        have PPI : Hid (PsAt wr pp P) := Lib.hid (RowAt.gr PP.out hg (fun _ p e => HFP.out p e))
        obtain ⟨b3, o3, hb3, q3, z1, z2⟩ := PPI.out.two x (by omega)
        subst hb3
        have her := HER.out x (by omega)
        have hzs := HZS.out i hlt
        rw [hx, HSTD.out, Int.toNat_natCast] at hzs
        generalize pAt P x = t at *
        obtain ⟨p, q⟩ := t
        simp only at her z1 z2 hzs
        obtain ⟨px, rfl⟩ : ∃ px : Nat, p = px := ⟨p.toNat, by omega⟩
        obtain ⟨qx, rfl⟩ : ∃ qx : Nat, q = qx := ⟨q.toNat, by omega⟩
        have HZB1 := Lib.hid (HZB.out i px (by omega))
        have hq1 : -20001 ≤ iAt (UP (Z i) (px : Int)) qx ∧ iAt (UP (Z i) (px : Int)) qx ≤ 20001 := by
          have h7 := HZB.out i qx (by omega)
          have h8 := HZB.out i px (by omega)
          rw [HUPD.out, Int.toNat_natCast, iAt_set _ _ _ _ (by rw [HZL.out i (by omega)]; omega)]
          split
          · split <;> omega
          · omega
        have HZB2 := Lib.hid hq1
        have HL1 := Lib.hid (HZL.out i (by omega))
        have HLU : Hid ((UP (Z i) (px : Int)).length = N) := Lib.hid (by rw [HUPL.out]; exact HL1.out)
        have HPX : Hid (px < (Z i).length) := Lib.hid (by rw [HL1.out]; omega)
        have HQX : Hid (qx < (UP (Z i) (px : Int)).length) := Lib.hid (by rw [HLU.out]; omega)
        have HZN := Lib.hid hzs
        have j1 : (x : Int) < (P.length : Int) := hci.2
        have j2 : (0 : Int) ≤ (x : Int) := by omega
        have k1 : (px : Int) < (N : Int) := by omega
        have k2 : (0 : Int) ≤ (px : Int) := by omega
        have k3 : (qx : Int) < (N : Int) := by omega
        have k4 : (0 : Int) ≤ (qx : Int) := by omega
        have HU1 := Lib.hid (HUPD.out (Z i) (px : Int))
        have HU2 := Lib.hid (HUPD.out (UP (Z i) (px : Int)) (qx : Int))
        generalize Z i = Zi at *
        generalize UP Zi (px : Int) = Zu at *
        generalize UP Zu (qx : Int) = Zn at *
        have ix0 : ∀ w : World, (Instr.index 85 (.agg #[.int .i64 (px : Int), .int .i64 (qx : Int)]) (.int .i64 0)).run Try.prog w = .ok (.int .i64 (px : Int)) w := fun _ => by kernel_rfl
        have ix1 : ∀ w : World, (Instr.index 85 (.agg #[.int .i64 (px : Int), .int .i64 (qx : Int)]) (.int .i64 1)).run Try.prog w = .ok (.int .i64 (qx : Int)) w := fun _ => by kernel_rfl
        clear hra hg hlt her hci hzs hq1 hx
        go_wp2
        clear x1 z1 z2
        go_loopw [120] (fun y wv => ((y = .int .i64 0 ∧ RowB encI 3 wv g Zi) ∨ (y = .int .i64 1 ∧ RowB encI 3 wv g Zu) ∨ (y = .int .i64 2 ∧ RowB encI 3 wv g Zn)) ∧ w8.grownBy wv (some g)) (fun y _ => 2 - (intOf y).toNat)
        case atStart => exact ⟨.inl ⟨rfl, HRA.out⟩, HGR.out⟩
        case round =>
          obtain ⟨hyy, hg⟩ := hrel
          have HGV := Lib.hid hg
          have PSI : Hid (IsAt wr sa A) := Lib.hid (RowAt.gr PS.out hg (fun h0 p e => by have := LS.out p e h0; have := HGG.out; omega))
          rcases hyy with ⟨rfl, hr0⟩ | ⟨rfl, hr0⟩ | ⟨rfl, hr0⟩
          · have HR9 := Lib.hid hr0
            clear hr0 hg
            cases hc : A.contains (px : Int) with
            | true =>
              have HC1 : Hid (Calls Try.prog 52 #[.slice sa A.length sc, .int .i64 (px : Int)] wr (fun e w' => e = .returned (.bool true) ∧ Below wr.heap.size wr w')) := Lib.hid (by have := HCT.out (px : Int) wr PSI.out; rwa [hc] at this)
              have hu := HU1.out
              rw [Int.toNat_natCast, if_pos hc] at hu
              have HUU := Lib.hid hu
              clear hu hc
              go_wp2_with fail
              refine HC1.out.mono ?_
              rintro e y1 ⟨rfl, hb1⟩
              have hr : RowB encI 3 y1 g Zi := HR9.out.below hb1 HR9.out.lt
              have s1 := hr.cell px HPX.out
              have s2 : y1.frozen? ⟨g, px, none⟩ = false := Blk.frozen hr px
              have hg1 := grownT HGV.out (grownB hb1 (some g))
              have HPN : Hid (RowB encI 3 (y1.setCell ⟨g, px, none⟩ (.int .i64 (iAt Zi px + 1))) g Zu) := Lib.hid (by rw [HUU.out]; exact hr.set px _)
              have HGN : Hid (w8.grownBy (y1.setCell ⟨g, px, none⟩ (.int .i64 (iAt Zi px + 1))) (some g)) := Lib.hid (grownT hg1 (grown_set _ _ _ _))
              have hbd1 := HZB1.out.1
              have hbd2 := HZB1.out.2
              obtain ⟨old, hold⟩ : ∃ x, x = iAt Zi px := ⟨_, rfl⟩
              rw [← hold] at s1 hbd1 hbd2 HPN HGN
              clear hold hr hg1 hb1 ix0 ix1
              go_wp2
              go_roundw
              case rel => exact ⟨.inr (.inl ⟨by go_num, HPN.out⟩), HGN.out⟩
              case measure => simp [intOf]
            | false =>
              have HC1 : Hid (Calls Try.prog 52 #[.slice sa A.length sc, .int .i64 (px : Int)] wr (fun e w' => e = .returned (.bool false) ∧ Below wr.heap.size wr w')) := Lib.hid (by have := HCT.out (px : Int) wr PSI.out; rwa [hc] at this)
              have hu := HU1.out
              rw [Int.toNat_natCast, if_neg (by rw [hc]; decide)] at hu
              have HUU := Lib.hid hu
              clear hu hc
              go_wp2_with fail
              refine HC1.out.mono ?_
              rintro e y1 ⟨rfl, hb1⟩
              have hr : RowB encI 3 y1 g Zi := HR9.out.below hb1 HR9.out.lt
              have s1 := hr.cell px HPX.out
              have s2 : y1.frozen? ⟨g, px, none⟩ = false := Blk.frozen hr px
              have hg1 := grownT HGV.out (grownB hb1 (some g))
              have HPN : Hid (RowB encI 3 (y1.setCell ⟨g, px, none⟩ (.int .i64 (iAt Zi px + (-1)))) g Zu) := Lib.hid (by rw [HUU.out]; exact hr.set px _)
              have HGN : Hid (w8.grownBy (y1.setCell ⟨g, px, none⟩ (.int .i64 (iAt Zi px + (-1)))) (some g)) := Lib.hid (grownT hg1 (grown_set _ _ _ _))
              have hbd1 := HZB1.out.1
              have hbd2 := HZB1.out.2
              obtain ⟨old, hold⟩ : ∃ x, x = iAt Zi px := ⟨_, rfl⟩
              rw [← hold] at s1 hbd1 hbd2 HPN HGN
              clear hold hr hg1 hb1 ix0 ix1
              go_wp2
              go_roundw
              case rel => exact ⟨.inr (.inl ⟨by go_num, HPN.out⟩), HGN.out⟩
              case measure => simp [intOf]
          · have HR9 := Lib.hid hr0
            clear hr0 hg
            cases hc : A.contains (qx : Int) with
            | true =>
              have HC1 : Hid (Calls Try.prog 52 #[.slice sa A.length sc, .int .i64 (qx : Int)] wr (fun e w' => e = .returned (.bool true) ∧ Below wr.heap.size wr w')) := Lib.hid (by have := HCT.out (qx : Int) wr PSI.out; rwa [hc] at this)
              have hu := HU2.out
              rw [Int.toNat_natCast, if_pos hc] at hu
              have HUU := Lib.hid hu
              clear hu hc
              go_wp2_with fail
              refine HC1.out.mono ?_
              rintro e y1 ⟨rfl, hb1⟩
              have hr : RowB encI 3 y1 g Zu := HR9.out.below hb1 HR9.out.lt
              have s1 := hr.cell qx HQX.out
              have s2 : y1.frozen? ⟨g, qx, none⟩ = false := Blk.frozen hr qx
              have hg1 := grownT HGV.out (grownB hb1 (some g))
              have HPN : Hid (RowB encI 3 (y1.setCell ⟨g, qx, none⟩ (.int .i64 (iAt Zu qx + 1))) g Zn) := Lib.hid (by rw [HUU.out]; exact hr.set qx _)
              have HGN : Hid (w8.grownBy (y1.setCell ⟨g, qx, none⟩ (.int .i64 (iAt Zu qx + 1))) (some g)) := Lib.hid (grownT hg1 (grown_set _ _ _ _))
              have hbd1 := HZB2.out.1
              have hbd2 := HZB2.out.2
              obtain ⟨old, hold⟩ : ∃ x, x = iAt Zu qx := ⟨_, rfl⟩
              rw [← hold] at s1 hbd1 hbd2 HPN HGN
              clear hold hr hg1 hb1 ix0 ix1
              go_wp2
              go_roundw
              case rel => exact ⟨.inr (.inr ⟨by go_num, HPN.out⟩), HGN.out⟩
              case measure => simp [intOf]
            | false =>
              have HC1 : Hid (Calls Try.prog 52 #[.slice sa A.length sc, .int .i64 (qx : Int)] wr (fun e w' => e = .returned (.bool false) ∧ Below wr.heap.size wr w')) := Lib.hid (by have := HCT.out (qx : Int) wr PSI.out; rwa [hc] at this)
              have hu := HU2.out
              rw [Int.toNat_natCast, if_neg (by rw [hc]; decide)] at hu
              have HUU := Lib.hid hu
              clear hu hc
              go_wp2_with fail
              refine HC1.out.mono ?_
              rintro e y1 ⟨rfl, hb1⟩
              have hr : RowB encI 3 y1 g Zu := HR9.out.below hb1 HR9.out.lt
              have s1 := hr.cell qx HQX.out
              have s2 : y1.frozen? ⟨g, qx, none⟩ = false := Blk.frozen hr qx
              have hg1 := grownT HGV.out (grownB hb1 (some g))
              have HPN : Hid (RowB encI 3 (y1.setCell ⟨g, qx, none⟩ (.int .i64 (iAt Zu qx + (-1)))) g Zn) := Lib.hid (by rw [HUU.out]; exact hr.set qx _)
              have HGN : Hid (w8.grownBy (y1.setCell ⟨g, qx, none⟩ (.int .i64 (iAt Zu qx + (-1)))) (some g)) := Lib.hid (grownT hg1 (grown_set _ _ _ _))
              have hbd1 := HZB2.out.1
              have hbd2 := HZB2.out.2
              obtain ⟨old, hold⟩ : ∃ x, x = iAt Zu qx := ⟨_, rfl⟩
              rw [← hold] at s1 hbd1 hbd2 HPN HGN
              clear hold hr hg1 hb1 ix0 ix1
              go_wp2
              go_roundw
              case rel => exact ⟨.inr (.inr ⟨by go_num, HPN.out⟩), HGN.out⟩
              case measure => simp [intOf]
          · have HR9 := Lib.hid hr0
            clear hr0 hg
            go_wp2
            go_roundw
            case rel => exact ⟨i + 1, by have := HLT.out; omega, by go_num, by rw [HZN.out]; exact HR9.out, HGV.out⟩
            case measure => have := HLT.out; simp [intOf]; omega
      · obtain rfl : i = C.length := by omega
        have i1 : ¬ (C.length : Int) < (C.length : Int) := by omega
        have PAE : Hid (IsAt wr (some ⟨g, 0, none⟩) D1) := Lib.hid (by rw [← HZE.out]; exact hra.row encI_len)
        have PDE : Hid (IsAt wr (some ⟨g2, 0, none⟩) D1) := Lib.hid (RowAt.gr PD.out hg (fun _ p e => by injection e with e; subst e; have := HG2.out; show g2 ≠ g; omega))
        have HBE := Lib.hid (below_grown HB.out hg (Nat.le_trans HCB.out HGG.out) (Nat.le_refl _))
        clear hra hg
        go_wp2_with fail
        refine (HEQ.out wr _ _ PAE.out PDE.out).mono ?_
        rintro e y1 ⟨rfl, hb1⟩
        have HB1 := Lib.hid (HBE.out.trans (hb1.mono HBE.out.size))
        clear hb1
        go_wp2_with fail
        refine (HAW.out y1).mono ?_
        rintro e y2 ⟨rfl, hb2⟩
        have HB2 := Lib.hid (HB1.out.trans (hb2.mono HB1.out.size))
        clear hb2
        go_wp2
        go_ret
        exact ⟨rfl, HB0.out.trans (HB2.out.mono HB0.out.size)⟩
  · subst hw1
    rw [show (-(-1 : Int)) = 1 from rfl] at HD2
    obtain ⟨W, hW⟩ : ∃ W, W = w.alloc (Obj.cells #[.int .i64 (N : Int), .slice a L.length cap] 24) := ⟨_, rfl⟩
    have hB0 : Below w.heap.size w W := by rw [hW]; exact (Below.refl _ w).alloc (Nat.le_refl _) _
    have hG : Blk W w.heap.size 24 #[.int .i64 (N : Int), .slice a L.length cap] := by rw [hW]; exact Blk.new _ _ _
    have HW := Lib.hid hW
    have HSW : Hid (W.heap.size = w.heap.size + 1) := Lib.hid (by rw [hW]; simp)
    have HB0 := Lib.hid hB0
    have HF : Hid (∀ u, Below W.heap.size W u → u.cell? ⟨w.heap.size, 0, none⟩ = some (.int .i64 (N : Int)) ∧ u.cell? ⟨w.heap.size, 1, none⟩ = some (.slice a L.length cap)) := Lib.hid fun u hu => ⟨(hG.below hu hG.lt).cell 0, (hG.below hu hG.lt).cell 1⟩
    have HB : Hid (Below W.heap.size W W) := Lib.hid (Below.refl _ _)
    have PEE := Lib.hid (h.keep hB0)
    have PO := Lib.hid (ho.keep hB0)
    have PS := Lib.hid (hs.keep hB0)
    clear hW hB0 hG h ho hs
    go_enter Try.func10, Try.ntmps10
    go_wp2_with fail
    rw [← HW.out]
    refine (HRT.out W PEE.out PO.out).mono ?_
    rintro e w0 ⟨rfl, hb⟩
    replace PEE := Lib.hid (PEE.out.keep hb)
    replace PO := Lib.hid (PO.out.keep hb)
    replace PS := Lib.hid (PS.out.keep hb)
    replace HB := Lib.hid (HB.out.trans (hb.mono HB.out.size))
    clear hb
    obtain ⟨g0, g1⟩ := HF.out w0 HB.out
    go_wp2_with fail
    refine (HSU.out w0 PEE.out PS.out).mono ?_
    rintro e w1 ⟨rfl, hb⟩
    replace PEE := Lib.hid (PEE.out.keep hb)
    replace PO := Lib.hid (PO.out.keep hb)
    replace PS := Lib.hid (PS.out.keep hb)
    replace HB := Lib.hid (HB.out.trans (hb.mono HB.out.size))
    clear hb
    clear g0 g1
    obtain ⟨g0, g1⟩ := HF.out w1 HB.out
    go_wp2_with fail
    refine (HD1.out w1 PEE.out PO.out PS.out).mono ?_
    rintro e w2 ⟨rfl, hb⟩
    replace PEE := Lib.hid (PEE.out.keep hb)
    replace PO := Lib.hid (PO.out.keep hb)
    replace PS := Lib.hid (PS.out.keep hb)
    replace HB := Lib.hid (HB.out.trans (hb.mono HB.out.size))
    clear hb
    clear g0 g1
    obtain ⟨g0, g1⟩ := HF.out w2 HB.out
    go_wp2_with fail
    refine (HCU.out w2 PEE.out PS.out).mono ?_
    rintro e w3 ⟨pc, qc, rfl, hpC, hb⟩
    replace PEE := Lib.hid (PEE.out.keep hb)
    replace PO := Lib.hid (PO.out.keep hb)
    replace PS := Lib.hid (PS.out.keep hb)
    replace HB := Lib.hid (HB.out.trans (hb.mono HB.out.size))
    clear hb
    have PC := Lib.hid hpC
    clear hpC
    clear g0 g1
    obtain ⟨g0, g1⟩ := HF.out w3 HB.out
    go_wp2_with fail
    refine (HRV.out _ _ w3 PEE.out PO.out PC.out).mono ?_
    rintro e w4 ⟨p2, q2, rfl, hpB, hb⟩
    replace PEE := Lib.hid (PEE.out.keep hb)
    replace PO := Lib.hid (PO.out.keep hb)
    replace PS := Lib.hid (PS.out.keep hb)
    replace PC := Lib.hid (PC.out.keep hb)
    replace HB := Lib.hid (HB.out.trans (hb.mono HB.out.size))
    clear hb
    have PB := Lib.hid hpB
    clear hpB
    clear g0 g1
    obtain ⟨g0, g1⟩ := HF.out w4 HB.out
    go_wp2_with fail
    refine (HD2.out _ _ w4 PEE.out PB.out PS.out).mono ?_
    rintro e w5 ⟨rfl, hb⟩
    replace PEE := Lib.hid (PEE.out.keep hb)
    replace PO := Lib.hid (PO.out.keep hb)
    replace PS := Lib.hid (PS.out.keep hb)
    replace PC := Lib.hid (PC.out.keep hb)
    replace PB := Lib.hid (PB.out.keep hb)
    replace HB := Lib.hid (HB.out.trans (hb.mono HB.out.size))
    clear hb
    clear g0 g1
    obtain ⟨g0, g1⟩ := HF.out w5 HB.out
    have LS := Lib.hid (fun p (e : sa = some p) (h0 : A ≠ []) => (show p.block < w5.heap.size from by have hh := PS.out; rw [e] at hh; exact RowAt.low hh h0 _ rfl))
    have LC := Lib.hid (fun p (e : pc = some p) (h0 : C ≠ []) => (show p.block < w5.heap.size from by have hh := PC.out; rw [e] at hh; exact RowAt.low hh h0 _ rfl))
    have HCB := Lib.hid HB.out.size
    go_wp2_with fail
    refine (HI1.out w5 PEE.out PO.out).mono ?_
    rintro e w6 ⟨g, hgg, rfl, hra, hb⟩
    clear PO
    replace PEE := Lib.hid (PEE.out.keep hb)
    replace PS := Lib.hid (PS.out.keep hb)
    replace PC := Lib.hid (PC.out.keep hb)
    replace PB := Lib.hid (PB.out.keep hb)
    replace HB := Lib.hid (HB.out.trans (hb.mono HB.out.size))
    clear hb
    clear g0 g1
    obtain ⟨g0, g1⟩ := HF.out w6 HB.out
    have HGG := Lib.hid hgg
    clear hgg
    have PRA := Lib.hid hra
    clear hra
    have HGL : Hid (g < w6.heap.size) := Lib.hid PRA.out.lt
    go_wp2_with fail
    refine (HI2.out _ _ w6 PEE.out PB.out).mono ?_
    rintro e w7 ⟨g2, hg2, rfl, hpD, hb⟩
    have HDZ := Lib.hid hb.size
    clear PB
    replace PEE := Lib.hid (PEE.out.keep hb)
    replace PS := Lib.hid (PS.out.keep hb)
    replace PC := Lib.hid (PC.out.keep hb)
    replace PRA : Hid (RowB encI 3 _ g D0) := Lib.hid (PRA.out.below hb PRA.out.lt)
    replace HB := Lib.hid (HB.out.trans (hb.mono HB.out.size))
    clear hb
    have PD := Lib.hid hpD
    clear hpD
    clear g0 g1
    obtain ⟨g0, g1⟩ := HF.out w7 HB.out
    have HG2 : Hid (g < g2) := Lib.hid (by have := HGL.out; omega)
    clear hg2
    go_wp2_with fail
    refine (HEN.out w7 PEE.out).mono ?_
    rintro e w8 ⟨pp, qp, rfl, hpP, hfp, hb⟩
    clear PEE
    replace PS := Lib.hid (PS.out.keep hb)
    replace PC := Lib.hid (PC.out.keep hb)
    replace PD := Lib.hid (PD.out.keep hb)
    replace PRA : Hid (RowB encI 3 _ g D0) := Lib.hid (PRA.out.below hb PRA.out.lt)
    replace HB := Lib.hid (HB.out.trans (hb.mono HB.out.size))
    clear hb
    have PP := Lib.hid hpP
    clear hpP
    clear g0 g1
    obtain ⟨g0, g1⟩ := HF.out w8 HB.out
    have HFP : Hid (∀ p, pp = some p → p.block ≠ g) := Lib.hid fun p e => by
      have h1 := hfp p e
      have h2 : g < w7.heap.size := Nat.lt_of_lt_of_le HGL.out HDZ.out
      omega
    clear hfp
    go_wp2
    clear g0 g1
    go_loopw [112] (fun x wr => ∃ i : Nat, i ≤ C.length ∧ x = .int .i64 i ∧ RowB encI 3 wr g (Z i) ∧ w8.grownBy wr (some g)) (fun x _ => C.length - (intOf x).toNat)
    case atStart => exact ⟨0, by omega, rfl, by rw [HZ0.out]; exact PRA.out, grownB (Below.refl _ _) _⟩
    case round =>
      obtain ⟨i, hi, rfl, hra, hg⟩ := hrel
      have HRA := Lib.hid hra
      have HGR := Lib.hid hg
      have PCI : Hid (IsAt wr pc C) := Lib.hid (RowAt.gr PC.out hg (fun h0 p e => by have := LC.out p e h0; have := HGG.out; omega))
      by_cases hlt : i < C.length
      · have i1 : (i : Int) < (C.length : Int) := by omega
        have i2 : (0 : Int) ≤ (i : Int) := by omega
        have hcl := HCL.out
        have HLT := Lib.hid hlt
        obtain ⟨b1, o1, hb1, q1, x1⟩ := PCI.out.one i hlt
        subst hb1
        have hci := HCI.out i hlt
        obtain ⟨x, hx⟩ : ∃ x : Nat, iAt C i = x := ⟨(iAt C i).toNat, by omega⟩
        rw [hx] at x1 hci
        have PPI : Hid (PsAt wr pp P) := Lib.hid (RowAt.gr PP.out hg (fun _ p e => HFP.out p e))
        obtain ⟨b3, o3, hb3, q3, z1, z2⟩ := PPI.out.two x (by omega)
        subst hb3
        have her := HER.out x (by omega)
        have hzs := HZS.out i hlt
        rw [hx, HSTD.out, Int.toNat_natCast] at hzs
        generalize pAt P x = t at *
        obtain ⟨p, q⟩ := t
        simp only at her z1 z2 hzs
        obtain ⟨px, rfl⟩ : ∃ px : Nat, p = px := ⟨p.toNat, by omega⟩
        obtain ⟨qx, rfl⟩ : ∃ qx : Nat, q = qx := ⟨q.toNat, by omega⟩
        have HZB1 := Lib.hid (HZB.out i px (by omega))
        have hq1 : -20001 ≤ iAt (UP (Z i) (px : Int)) qx ∧ iAt (UP (Z i) (px : Int)) qx ≤ 20001 := by
          have h7 := HZB.out i qx (by omega)
          have h8 := HZB.out i px (by omega)
          rw [HUPD.out, Int.toNat_natCast, iAt_set _ _ _ _ (by rw [HZL.out i (by omega)]; omega)]
          split
          · split <;> omega
          · omega
        have HZB2 := Lib.hid hq1
        have HL1 := Lib.hid (HZL.out i (by omega))
        have HLU : Hid ((UP (Z i) (px : Int)).length = N) := Lib.hid (by rw [HUPL.out]; exact HL1.out)
        have HPX : Hid (px < (Z i).length) := Lib.hid (by rw [HL1.out]; omega)
        have HQX : Hid (qx < (UP (Z i) (px : Int)).length) := Lib.hid (by rw [HLU.out]; omega)
        have HZN := Lib.hid hzs
        have j1 : (x : Int) < (P.length : Int) := hci.2
        have j2 : (0 : Int) ≤ (x : Int) := by omega
        have k1 : (px : Int) < (N : Int) := by omega
        have k2 : (0 : Int) ≤ (px : Int) := by omega
        have k3 : (qx : Int) < (N : Int) := by omega
        have k4 : (0 : Int) ≤ (qx : Int) := by omega
        have HU1 := Lib.hid (HUPD.out (Z i) (px : Int))
        have HU2 := Lib.hid (HUPD.out (UP (Z i) (px : Int)) (qx : Int))
        generalize Z i = Zi at *
        generalize UP Zi (px : Int) = Zu at *
        generalize UP Zu (qx : Int) = Zn at *
        have ix0 : ∀ w : World, (Instr.index 85 (.agg #[.int .i64 (px : Int), .int .i64 (qx : Int)]) (.int .i64 0)).run Try.prog w = .ok (.int .i64 (px : Int)) w := fun _ => by kernel_rfl
        have ix1 : ∀ w : World, (Instr.index 85 (.agg #[.int .i64 (px : Int), .int .i64 (qx : Int)]) (.int .i64 1)).run Try.prog w = .ok (.int .i64 (qx : Int)) w := fun _ => by kernel_rfl
        clear hra hg hlt her hci hzs hq1 hx
        go_wp2
        clear x1 z1 z2
        go_loopw [120] (fun y wv => ((y = .int .i64 0 ∧ RowB encI 3 wv g Zi) ∨ (y = .int .i64 1 ∧ RowB encI 3 wv g Zu) ∨ (y = .int .i64 2 ∧ RowB encI 3 wv g Zn)) ∧ w8.grownBy wv (some g)) (fun y _ => 2 - (intOf y).toNat)
        case atStart => exact ⟨.inl ⟨rfl, HRA.out⟩, HGR.out⟩
        case round =>
          obtain ⟨hyy, hg⟩ := hrel
          have HGV := Lib.hid hg
          have PSI : Hid (IsAt wr sa A) := Lib.hid (RowAt.gr PS.out hg (fun h0 p e => by have := LS.out p e h0; have := HGG.out; omega))
          rcases hyy with ⟨rfl, hr0⟩ | ⟨rfl, hr0⟩ | ⟨rfl, hr0⟩
          · have HR9 := Lib.hid hr0
            clear hr0 hg
            cases hc : A.contains (px : Int) with
            | true =>
              have HC1 : Hid (Calls Try.prog 52 #[.slice sa A.length sc, .int .i64 (px : Int)] wr (fun e w' => e = .returned (.bool true) ∧ Below wr.heap.size wr w')) := Lib.hid (by have := HCT.out (px : Int) wr PSI.out; rwa [hc] at this)
              have hu := HU1.out
              rw [Int.toNat_natCast, if_pos hc] at hu
              have HUU := Lib.hid hu
              clear hu hc
              go_wp2_with fail
              refine HC1.out.mono ?_
              rintro e y1 ⟨rfl, hb1⟩
              have hr : RowB encI 3 y1 g Zi := HR9.out.below hb1 HR9.out.lt
              have s1 := hr.cell px HPX.out
              have s2 : y1.frozen? ⟨g, px, none⟩ = false := Blk.frozen hr px
              have hg1 := grownT HGV.out (grownB hb1 (some g))
              have HPN : Hid (RowB encI 3 (y1.setCell ⟨g, px, none⟩ (.int .i64 (iAt Zi px + (-1)))) g Zu) := Lib.hid (by rw [HUU.out]; exact hr.set px _)
              have HGN : Hid (w8.grownBy (y1.setCell ⟨g, px, none⟩ (.int .i64 (iAt Zi px + (-1)))) (some g)) := Lib.hid (grownT hg1 (grown_set _ _ _ _))
              have hbd1 := HZB1.out.1
              have hbd2 := HZB1.out.2
              obtain ⟨old, hold⟩ : ∃ x, x = iAt Zi px := ⟨_, rfl⟩
              rw [← hold] at s1 hbd1 hbd2 HPN HGN
              clear hold hr hg1 hb1 ix0 ix1
              go_wp2
              go_roundw
              case rel => exact ⟨.inr (.inl ⟨by go_num, HPN.out⟩), HGN.out⟩
              case measure => simp [intOf]
            | false =>
              have HC1 : Hid (Calls Try.prog 52 #[.slice sa A.length sc, .int .i64 (px : Int)] wr (fun e w' => e = .returned (.bool false) ∧ Below wr.heap.size wr w')) := Lib.hid (by have := HCT.out (px : Int) wr PSI.out; rwa [hc] at this)
              have hu := HU1.out
              rw [Int.toNat_natCast, if_neg (by rw [hc]; decide)] at hu
              have HUU := Lib.hid hu
              clear hu hc
              go_wp2_with fail
              refine HC1.out.mono ?_
              rintro e y1 ⟨rfl, hb1⟩
              have hr : RowB encI 3 y1 g Zi := HR9.out.below hb1 HR9.out.lt
              have s1 := hr.cell px HPX.out
              have s2 : y1.frozen? ⟨g, px, none⟩ = false := Blk.frozen hr px
              have hg1 := grownT HGV.out (grownB hb1 (some g))
              have HPN : Hid (RowB encI 3 (y1.setCell ⟨g, px, none⟩ (.int .i64 (iAt Zi px + 1))) g Zu) := Lib.hid (by rw [HUU.out]; exact hr.set px _)
              have HGN : Hid (w8.grownBy (y1.setCell ⟨g, px, none⟩ (.int .i64 (iAt Zi px + 1))) (some g)) := Lib.hid (grownT hg1 (grown_set _ _ _ _))
              have hbd1 := HZB1.out.1
              have hbd2 := HZB1.out.2
              obtain ⟨old, hold⟩ : ∃ x, x = iAt Zi px := ⟨_, rfl⟩
              rw [← hold] at s1 hbd1 hbd2 HPN HGN
              clear hold hr hg1 hb1 ix0 ix1
              go_wp2
              go_roundw
              case rel => exact ⟨.inr (.inl ⟨by go_num, HPN.out⟩), HGN.out⟩
              case measure => simp [intOf]
          · have HR9 := Lib.hid hr0
            clear hr0 hg
            cases hc : A.contains (qx : Int) with
            | true =>
              have HC1 : Hid (Calls Try.prog 52 #[.slice sa A.length sc, .int .i64 (qx : Int)] wr (fun e w' => e = .returned (.bool true) ∧ Below wr.heap.size wr w')) := Lib.hid (by have := HCT.out (qx : Int) wr PSI.out; rwa [hc] at this)
              have hu := HU2.out
              rw [Int.toNat_natCast, if_pos hc] at hu
              have HUU := Lib.hid hu
              clear hu hc
              go_wp2_with fail
              refine HC1.out.mono ?_
              rintro e y1 ⟨rfl, hb1⟩
              have hr : RowB encI 3 y1 g Zu := HR9.out.below hb1 HR9.out.lt
              have s1 := hr.cell qx HQX.out
              have s2 : y1.frozen? ⟨g, qx, none⟩ = false := Blk.frozen hr qx
              have hg1 := grownT HGV.out (grownB hb1 (some g))
              have HPN : Hid (RowB encI 3 (y1.setCell ⟨g, qx, none⟩ (.int .i64 (iAt Zu qx + (-1)))) g Zn) := Lib.hid (by rw [HUU.out]; exact hr.set qx _)
              have HGN : Hid (w8.grownBy (y1.setCell ⟨g, qx, none⟩ (.int .i64 (iAt Zu qx + (-1)))) (some g)) := Lib.hid (grownT hg1 (grown_set _ _ _ _))
              have hbd1 := HZB2.out.1
              have hbd2 := HZB2.out.2
              obtain ⟨old, hold⟩ : ∃ x, x = iAt Zu qx := ⟨_, rfl⟩
              rw [← hold] at s1 hbd1 hbd2 HPN HGN
              clear hold hr hg1 hb1 ix0 ix1
              go_wp2
              go_roundw
              case rel => exact ⟨.inr (.inr ⟨by go_num, HPN.out⟩), HGN.out⟩
              case measure => simp [intOf]
            | false =>
              have HC1 : Hid (Calls Try.prog 52 #[.slice sa A.length sc, .int .i64 (qx : Int)] wr (fun e w' => e = .returned (.bool false) ∧ Below wr.heap.size wr w')) := Lib.hid (by have := HCT.out (qx : Int) wr PSI.out; rwa [hc] at this)
              have hu := HU2.out
              rw [Int.toNat_natCast, if_neg (by rw [hc]; decide)] at hu
              have HUU := Lib.hid hu
              clear hu hc
              go_wp2_with fail
              refine HC1.out.mono ?_
              rintro e y1 ⟨rfl, hb1⟩
              have hr : RowB encI 3 y1 g Zu := HR9.out.below hb1 HR9.out.lt
              have s1 := hr.cell qx HQX.out
              have s2 : y1.frozen? ⟨g, qx, none⟩ = false := Blk.frozen hr qx
              have hg1 := grownT HGV.out (grownB hb1 (some g))
              have HPN : Hid (RowB encI 3 (y1.setCell ⟨g, qx, none⟩ (.int .i64 (iAt Zu qx + 1))) g Zn) := Lib.hid (by rw [HUU.out]; exact hr.set qx _)
              have HGN : Hid (w8.grownBy (y1.setCell ⟨g, qx, none⟩ (.int .i64 (iAt Zu qx + 1))) (some g)) := Lib.hid (grownT hg1 (grown_set _ _ _ _))
              have hbd1 := HZB2.out.1
              have hbd2 := HZB2.out.2
              obtain ⟨old, hold⟩ : ∃ x, x = iAt Zu qx := ⟨_, rfl⟩
              rw [← hold] at s1 hbd1 hbd2 HPN HGN
              clear hold hr hg1 hb1 ix0 ix1
              go_wp2
              go_roundw
              case rel => exact ⟨.inr (.inr ⟨by go_num, HPN.out⟩), HGN.out⟩
              case measure => simp [intOf]
          · have HR9 := Lib.hid hr0
            clear hr0 hg
            go_wp2
            go_roundw
            case rel => exact ⟨i + 1, by have := HLT.out; omega, by go_num, by rw [HZN.out]; exact HR9.out, HGV.out⟩
            case measure => have := HLT.out; simp [intOf]; omega
      · obtain rfl : i = C.length := by omega
        have i1 : ¬ (C.length : Int) < (C.length : Int) := by omega
        have PAE : Hid (IsAt wr (some ⟨g, 0, none⟩) D1) := Lib.hid (by rw [← HZE.out]; exact hra.row encI_len)
        have PDE : Hid (IsAt wr (some ⟨g2, 0, none⟩) D1) := Lib.hid (RowAt.gr PD.out hg (fun _ p e => by injection e with e; subst e; have := HG2.out; show g2 ≠ g; omega))
        have HBE := Lib.hid (below_grown HB.out hg (Nat.le_trans HCB.out HGG.out) (Nat.le_refl _))
        clear hra hg
        go_wp2_with fail
        refine (HEQ.out wr _ _ PAE.out PDE.out).mono ?_
        rintro e y1 ⟨rfl, hb1⟩
        have HB1 := Lib.hid (HBE.out.trans (hb1.mono HBE.out.size))
        clear hb1
        go_wp2_with fail
        refine (HAW.out y1).mono ?_
        rintro e y2 ⟨rfl, hb2⟩
        have HB2 := Lib.hid (HB1.out.trans (hb2.mono HB1.out.size))
        clear hb2
        go_wp2
        go_ret
        exact ⟨rfl, HB0.out.trans (HB2.out.mono HB0.out.size)⟩
end Go.Proofs.Ytlnaahkheankoaa
