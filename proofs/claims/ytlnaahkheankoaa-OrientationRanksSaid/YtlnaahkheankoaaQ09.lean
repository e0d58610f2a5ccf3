/- Sources, acyclic orientations, different numbers, copies, by the program. And: Reversed orientations, those of orders, directed sets, by the program. And: Directed sets, by the program. And: Orientations of orders, by the program. And: Ends of the reference, in memory of their own. And: Indegrees, divisors and sources of orientations, by the reference. And: Divisors and sources of orientations, by the reference. -/
import Derived.Test.YtlnaahkheankoaaQ08
import Derived.Lib.SliceRun
import Derived.BigQuiet
import Derived.Deep.QuietTactic
import Derived.Test.YtlnaahkheankoaaQ00
namespace Go.Proofs.Ytlnaahkheankoaa
open Go.RowKit Go.Shelf Go.Proofs.Gr
attribute [local go_sem] Oper.semAt_some

def srcO (n : Int) (L : List E) (O : List Bool) : List Int := srcL (inO n L O) n.toNat
set_option maxHeartbeats 12800000 in
set_option maxRecDepth 100000 in
theorem pSources_any (n : Int) (a : Option Addr) (cap : Nat) (L : List E) (hL : L.length ≤ 100000) (b : Option Addr) (c : Nat) (O : List Bool) (hO : O.length ≤ 100000000) (w : World) (h : EsAt w a L) (ho : BsAt w b O) :
    Calls Try.prog 18 #[gv n a L.length cap, .slice b O.length c] w (GivesIE w (okL (chkO n L O) (srcO n L O)) (chkO n L O)) := by
  have HAO := Lib.hid (fun w h ho => parcsOf_any n a cap L hL b c O hO w h ho)
  have hn1 : chkO n L O = 0 → 1 ≤ n ∧ n ≤ 12 := fun hz => chkG_n (chkO_zero hz).1
  have har : chkO n L O = 0 → ∀ j, j < (arcs (endsG L) O).length → (0 ≤ (pAt (arcs (endsG L) O) j).1 ∧ (pAt (arcs (endsG L) O) j).1 < n) ∧ (0 ≤ (pAt (arcs (endsG L) O) j).2 ∧ (pAt (arcs (endsG L) O) j).2 < n) := fun hz => arcs_rng (right_of (chkO_zero hz).1) O
  have hal : chkO n L O = 0 → (arcs (endsG L) O).length ≤ 5000000 := fun hz => by have := ends_all (right_of (chkO_zero hz).1); rw [arcs_len]; omega
  have HI : Hid (chkO n L O = 0 → ∀ p cp w, PsAt w p (arcs (endsG L) O) → Calls Try.prog 61 #[.int .i64 n, .slice p (arcs (endsG L) O).length cp] w (GivesI w (srcO n L O))) := Lib.hid fun hz p cp w hp => by
    have h1 := hn1 hz
    have h2 := psources_any n.toNat (by omega) p cp (arcs (endsG L) O) (hal hz) (fun j hj => ⟨(har hz j hj).2.1, by have := (har hz j hj).2.2; omega⟩) w hp
    rw [show ((n.toNat : Nat) : Int) = n by omega] at h2
    exact h2
  clear hn1 har hal
  have HX1 := Lib.hid (fun h => okL_pos (k := chkO n L O) (arcs (endsG L) O) h)
  have HY1 := Lib.hid (fun h => okL_pos (k := chkO n L O) (srcO n L O) h)
  have HY2 := Lib.hid (fun h => okL_neg (k := chkO n L O) (srcO n L O) h)
  unfold GivesPE at *
  unfold GivesI GivesIE gv at *
  generalize okL (chkO n L O) (arcs (endsG L) O) = X at *
  generalize okL (chkO n L O) (srcO n L O) = Y at *
  generalize chkO n L O = k at *
  generalize srcO n L O = D at *
  generalize arcs (endsG L) O = A at *
  obtain ⟨W, hW⟩ : ∃ W, W = w.alloc (Obj.cells #[.int .i64 n, .slice a L.length cap] 24) := ⟨_, rfl⟩
  have hB0 : Below w.heap.size w W := by rw [hW]; exact (Below.refl _ w).alloc (Nat.le_refl _) _
  have hG : Blk W w.heap.size 24 #[.int .i64 n, .slice a L.length cap] := by rw [hW]; exact Blk.new _ _ _
  have hWs : W.heap.size = w.heap.size + 1 := by rw [hW]; simp
  have HW := Lib.hid hW
  have HWS := Lib.hid hWs
  have HB0 := Lib.hid hB0
  have HE := Lib.hid (h.keep hB0)
  have HF : Hid (∀ u, Below W.heap.size W u → u.cell? ⟨w.heap.size, 0, none⟩ = some (.int .i64 n) ∧ u.cell? ⟨w.heap.size, 1, none⟩ = some (.slice a L.length cap)) := Lib.hid fun u hu => ⟨(hG.below hu hG.lt).cell 0, (hG.below hu hG.lt).cell 1⟩
  obtain ⟨g0, g1⟩ := HF.out W (Below.refl _ _)
  have HO := Lib.hid (ho.keep hB0)
  clear ho hB0 hG hW hWs h
  go_enter Try.func18, Try.ntmps18
  go_wp2_with fail
  rw [← HW.out]
  refine (HAO.out _ HE.out HO.out).mono ?_
  rintro e w1 ⟨p, cp, rfl, hp, hb⟩
  by_cases hk : k = 0
  · have HI1 := Lib.hid (HI.out hk)
    have hX := HX1.out hk
    have HYA := Lib.hid (HY1.out hk)
    subst hk hX
    clear g0 g1
    obtain ⟨g0, g1⟩ := HF.out w1 hb
    have HBE := Lib.hid (HB0.out.trans (hb.mono HB0.out.size))
    clear hb
    go_wp2_with fail
    refine (HI1.out p cp _ hp).mono ?_
    rintro e w3 ⟨a9, c9, rfl, hr, hb3⟩
    have HEND := Lib.hid (HBE.out.trans (hb3.mono HBE.out.size))
    have HPR := Lib.hid hr
    clear hr hb3 hp g0 g1
    go_wp2
    go_ret2
    exact ⟨a9, c9, by rw [HYA.out]; rfl, by rw [HYA.out]; exact HPR.out, HEND.out⟩
  · have q0 : (((k : Nat) : Int) != 0) = true := by rw [bne_iff_ne]; omega
    have HEND := Lib.hid (HB0.out.trans (hb.mono HB0.out.size))
    have HYA := Lib.hid (HY2.out hk)
    clear hb g0 g1 hp hk
    go_wp2
    go_ret2
    exact ⟨none, 0, by rw [HYA.out]; rfl, by rw [HYA.out]; exact RowAt.nil _ _ _ _, HEND.out⟩
def acyL (n : Int) (L : List E) (O : List Bool) : List Int := srtL (arcs (endsG L) O) n.toNat
def acyB (n : Int) (L : List E) (O : List Bool) : Bool := srtB (arcs (endsG L) O) n.toNat
def okB (k : Nat) (b : Bool) : Bool := if k = 0 then b else false
theorem okB_pos {k : Nat} (b : Bool) (h : k = 0) : okB k b = b := by unfold okB; rw [if_pos h]
theorem okB_neg {k : Nat} (b : Bool) (h : k ≠ 0) : okB k b = false := by unfold okB; rw [if_neg h]
/-- Hands back a bool, ints and an error's number. -/
def GivesBIE (w : World) (b : Bool) (l : List Int) (k : Nat) (e : Ending) (x : World) : Prop := ∃ a c, e = .returned (.tuple #[.bool b, .slice a l.length c, .int .i64 (k : Nat)]) ∧ IsAt x a l ∧ Below w.heap.size w x
set_option maxHeartbeats 12800000 in
set_option maxRecDepth 100000 in
theorem pAcyclic_any (n : Int) (a : Option Addr) (cap : Nat) (L : List E) (hL : L.length ≤ 100000) (b : Option Addr) (c : Nat) (O : List Bool) (hO : O.length ≤ 100000000) (w : World) (h : EsAt w a L) (ho : BsAt w b O) :
    Calls Try.prog 32 #[gv n a L.length cap, .slice b O.length c] w (GivesBIE w (okB (chkO n L O) (acyB n L O)) (okL (chkO n L O) (acyL n L O)) (chkO n L O)) := by
  have HAO := Lib.hid (fun w h ho => parcsOf_any n a cap L hL b c O hO w h ho)
  have hn1 : chkO n L O = 0 → 1 ≤ n ∧ n ≤ 12 := fun hz => chkG_n (chkO_zero hz).1
  have har : chkO n L O = 0 → ∀ j, j < (arcs (endsG L) O).length → (0 ≤ (pAt (arcs (endsG L) O) j).1 ∧ (pAt (arcs (endsG L) O) j).1 < n) ∧ (0 ≤ (pAt (arcs (endsG L) O) j).2 ∧ (pAt (arcs (endsG L) O) j).2 < n) := fun hz => arcs_rng (right_of (chkO_zero hz).1) O
  have hal : chkO n L O = 0 → (arcs (endsG L) O).length ≤ 5000000 := fun hz => by have := ends_all (right_of (chkO_zero hz).1); rw [arcs_len]; omega
  have HI : Hid (chkO n L O = 0 → ∀ p cp w, PsAt w p (arcs (endsG L) O) → Calls Try.prog 71 #[.int .i64 n, .slice p (arcs (endsG L) O).length cp] w (fun e x => ∃ a c, e = .returned (.tuple #[.slice a (acyL n L O).length c, .bool (acyB n L O)]) ∧ IsAt x a (acyL n L O) ∧ Below w.heap.size w x)) := Lib.hid fun hz p cp w hp => by
    have h1 := hn1 hz
    have h2 := psorted_any n.toNat (by omega) p cp (arcs (endsG L) O) (hal hz) (fun j hj => ⟨(har hz j hj).2.1, by have := (har hz j hj).2.2; omega⟩) w hp
    rw [show ((n.toNat : Nat) : Int) = n by omega] at h2
    exact h2
  clear hn1 har hal
  have HX1 := Lib.hid (fun h => okL_pos (k := chkO n L O) (arcs (endsG L) O) h)
  have HY1 := Lib.hid (fun h => okL_pos (k := chkO n L O) (acyL n L O) h)
  have HY2 := Lib.hid (fun h => okL_neg (k := chkO n L O) (acyL n L O) h)
  have HZ1 := Lib.hid (fun h => okB_pos (k := chkO n L O) (acyB n L O) h)
  have HZ2 := Lib.hid (fun h => okB_neg (k := chkO n L O) (acyB n L O) h)
  unfold GivesPE at *
  unfold GivesBIE gv at *
  generalize okL (chkO n L O) (arcs (endsG L) O) = X at *
  generalize okL (chkO n L O) (acyL n L O) = Y at *
  generalize okB (chkO n L O) (acyB n L O) = Z at *
  generalize chkO n L O = k at *
  generalize acyL n L O = D at *
  generalize acyB n L O = B at *
  generalize arcs (endsG L) O = A at *
  obtain ⟨W, hW⟩ : ∃ W, W = w.alloc (Obj.cells #[.int .i64 n, .slice a L.length cap] 24) := ⟨_, rfl⟩
  have hB0 : Below w.heap.size w W := by rw [hW]; exact (Below.refl _ w).alloc (Nat.le_refl _) _
  have hG : Blk W w.heap.size 24 #[.int .i64 n, .slice a L.length cap] := by rw [hW]; exact Blk.new _ _ _
  have hWs : W.heap.size = w.heap.size + 1 := by rw [hW]; simp
  have HW := Lib.hid hW
  have HWS := Lib.hid hWs
  have HB0 := Lib.hid hB0
  have HE := Lib.hid (h.keep hB0)
  have HF : Hid (∀ u, Below W.heap.size W u → u.cell? ⟨w.heap.size, 0, none⟩ = some (.int .i64 n) ∧ u.cell? ⟨w.heap.size, 1, none⟩ = some (.slice a L.length cap)) := Lib.hid fun u hu => ⟨(hG.below hu hG.lt).cell 0, (hG.below hu hG.lt).cell 1⟩
  obtain ⟨g0, g1⟩ := HF.out W (Below.refl _ _)
  have HO := Lib.hid (ho.keep hB0)
  clear ho hB0 hG hW hWs h
  go_enter Try.func32, Try.ntmps32
  go_wp2_with fail
  rw [← HW.out]
  refine (HAO.out _ HE.out HO.out).mono ?_
  rintro e w1 ⟨p, cp, rfl, hp, hb⟩
  by_cases hk : k = 0
  · have HI1 := Lib.hid (HI.out hk)
    have hX := HX1.out hk
    have HYA := Lib.hid (HY1.out hk)
    have HZA := Lib.hid (HZ1.out hk)
    subst hk hX
    clear g0 g1
    obtain ⟨g0, g1⟩ := HF.out w1 hb
    have HBE := Lib.hid (HB0.out.trans (hb.mono HB0.out.size))
    clear hb
    go_wp2_with fail
    refine (HI1.out p cp _ hp).mono ?_
    rintro e w3 ⟨a9, c9, rfl, hr, hb3⟩
    have HEND := Lib.hid (HBE.out.trans (hb3.mono HBE.out.size))
    have HPR := Lib.hid hr
    clear hr hb3 hp g0 g1
    go_wp2
    refine bodyPost_ret (v := .tuple #[.bool B, .slice a9 D.length c9, .int .i64 0]) (by simp [results, Try.results32, go_sem]) rfl ?_
    exact ⟨a9, c9, by rw [HYA.out, HZA.out]; rfl, by rw [HYA.out]; exact HPR.out, HEND.out⟩
  · have q0 : (((k : Nat) : Int) != 0) = true := by rw [bne_iff_ne]; omega
    have HEND := Lib.hid (HB0.out.trans (hb.mono HB0.out.size))
    have HYA := Lib.hid (HY2.out hk)
    have HZA := Lib.hid (HZ2.out hk)
    clear hb g0 g1 hp hk
    go_wp2
    refine bodyPost_ret (v := .tuple #[.bool false, .slice none 0 0, .int .i64 (k : Nat)]) (by simp [results, Try.results32, go_sem]) rfl ?_
    exact ⟨none, 0, by rw [HYA.out, HZA.out]; rfl, by rw [HYA.out]; exact RowAt.nil _ _ _ _, HEND.out⟩
set_option maxHeartbeats 12800000 in
set_option maxRecDepth 100000 in
theorem pcloneB_any (b : Option Addr) (c : Nat) (P : List Bool) (hP : P.length ≤ 100000000) (w : World) (hp : BsAt w b P) :
    Calls Try.prog 79 #[.slice b P.length c] w (fun e w' => ∃ v, e = .returned v ∧ w'.ownsRow w.heap.size 4 1 v P.length (flat encB P) ∧ Below w.heap.size w w') := by
  have q31 : ∀ (w : World) (a : Option Addr) (n c n' c' : Nat), (binOp .eql 25 (.slice a n c) (.slice none n' c')).run Try.prog w = .ok (.bool a.isNone) w := fun w a n c n' c' => Lib.run_eql_slice_nil w _ _ a n c n' c' Try.underlying25
  rcases b with _ | ad
  · obtain rfl : P = [] := by
      rcases P with _ | ⟨p, P⟩
      · rfl
      · obtain ⟨b', o', e, _⟩ := hp 0 (by simp); cases e
    go_enter Try.func79, Try.ntmps79
    go_wp2
    go_ret
    exact ⟨_, rfl, World.ownsRow_nil _ _ _ _, Below.refl _ _⟩
  · obtain ⟨i0, hi0, hz0, hz1, hz2⟩ := info_parts infoB
    have hnews : ∀ (W : World), Below w.heap.size w W → ∀ j u, (flat encB P)[j]? = some u → W.cell? (ad.add j) = some u := by
      intro W hb j u hj
      rcases P with _ | ⟨p, P⟩
      · simp [flat] at hj
      · have hk := hp.keep hb
        obtain ⟨b', o', e, _⟩ := hk 0 (by simp)
        injection e with e
        subst e
        exact RowAt.cells (k := 1) (enc := encB) (by decide) (fun _ => rfl) hk j u hj
    have HNW := Lib.hid hnews
    have HB1 : Hid (Below w.heap.size w (w.alloc (Obj.cells #[] 4))) := Lib.hid ((Below.refl _ _).alloc (Nat.le_refl _) _)
    have HO : Hid ((w.alloc (Obj.cells #[] 4)).ownsRow w.heap.size 4 1 (.slice (some ⟨w.heap.size, 0, none⟩) 0 0) 0 []) := Lib.hid (World.ownsRow_lit w #[] 0 (Nat.le_refl _) (by decide) rfl)
    have HFL : Hid ((flat encB P).length = P.length * 1) := Lib.hid (flat_len encB_len P)
    have H1 : Hid (∀ u ∈ flat encB P, u.oneCell' = true) := Lib.hid (fun u hu => by
      obtain ⟨x, _, hx⟩ := List.mem_flatMap.1 hu
      simp only [encB, List.mem_cons, List.not_mem_nil, or_false] at hx
      rcases hx with rfl; rfl)
    clear hnews hp
    generalize flat encB P = fl at *
    go_enter Try.func79, Try.ntmps79
    go_wp2_with (at_builtin; refine wpList_append_own _ rfl _ _ 25 rfl w.heap.size 4 i0 (.bool false) 1 1 Try.underlying25 hi0 hz0 hz1 hz2 rfl (by decide) _ _ _ rfl HO.out ad P.length c fl rfl HFL.out (HNW.out _ HB1.out) H1.out (by unfold maxLen; omega) (by omega) (by rw [World.size_alloc]; omega) ?_; intro v1 w3 hown1 hgrow1 _; have hB3 : Below w.heap.size w w3 := below_push (w := w) (Below.refl _ w) (fun k hk => (HO.out.lt k hk).1) hgrow1)
    rw [Nat.zero_add, List.nil_append] at hown1
    have HO1 := Lib.hid hown1
    have HB3 := Lib.hid hB3
    clear hown1 hgrow1 hB3
    go_wp2
    go_ret
    exact ⟨_, rfl, HO1.out, HB3.out⟩
/-- A list that is filled place by place. -/
def fillL {α : Type} (z : α) (f : Nat → α) (m : Nat) : Nat → List α
  | 0 => List.replicate m z
  | k + 1 => (fillL z f m k).set k (f k)
theorem fillL_len {α : Type} (z : α) (f : Nat → α) (m k : Nat) : (fillL z f m k).length = m := by
  induction k with
  | zero => simp [fillL]
  | succ k ih => rw [fillL, List.length_set, ih]
theorem fillL_at {α : Type} (z : α) (f : Nat → α) (m k : Nat) (hk : k ≤ m) (j : Nat) (hj : j < m) : (fillL z f m k)[j]? = some (if j < k then f j else z) := by
  induction k with
  | zero => rw [fillL, List.getElem?_replicate, if_pos hj, if_neg (by omega)]
  | succ k ih =>
    rw [fillL]
    by_cases e : k = j
    · subst e
      rw [List.getElem?_set_self (by rw [fillL_len]; omega), if_pos (by omega)]
    · rw [List.getElem?_set_ne e, ih (by omega)]
      by_cases h : j < k
      · rw [if_pos h, if_pos (by omega)]
      · rw [if_neg h, if_neg (by omega)]
theorem fillL_all {α : Type} (z : α) (f : Nat → α) (m : Nat) : fillL z f m m = (List.range m).map f := by
  refine List.ext_getElem? fun j => ?_
  by_cases hj : j < m
  · rw [fillL_at z f m m (Nat.le_refl _) j hj, if_pos hj, List.getElem?_map, List.getElem?_range hj]; rfl
  · rw [List.getElem?_eq_none (by rw [fillL_len]; omega), List.getElem?_eq_none (by simp; omega)]
/-- Which numbers have been seen. -/
def seenL (S : List Int) (n i : Nat) : List Bool := (List.range n).map fun v : Nat => (S.take i).contains (v : Int)
theorem seenL_len (S : List Int) (n i : Nat) : (seenL S n i).length = n := by simp [seenL]
theorem seenL_zero (S : List Int) (n : Nat) : seenL S n 0 = List.replicate n false := by
  refine List.ext_getElem? fun j => ?_
  unfold seenL
  by_cases h : j < n
  · rw [List.getElem?_map, List.getElem?_range h, List.getElem?_replicate, if_pos h]; rfl
  · rw [List.getElem?_eq_none (by simp; omega), List.getElem?_eq_none (by simp; omega)]
theorem seenL_at (S : List Int) (n i v : Nat) (h : v < n) : bAt (seenL S n i) v = (S.take i).contains (v : Int) := by
  unfold bAt seenL
  rw [List.getD_eq_getElem?_getD, List.getElem?_map, List.getElem?_range h]; rfl
theorem seenL_succ (S : List Int) (n i v : Nat) (hi : i < S.length) (hv : iAt S i = (v : Int)) : seenL S n (i + 1) = (seenL S n i).set v true := by
  refine List.ext_getElem? fun j => ?_
  by_cases h : j < n
  · have h1 : (seenL S n (i + 1))[j]? = some ((S.take (i + 1)).contains (j : Int)) := by unfold seenL; rw [List.getElem?_map, List.getElem?_range h]; rfl
    have h2 : (seenL S n i)[j]? = some ((S.take i).contains (j : Int)) := by unfold seenL; rw [List.getElem?_map, List.getElem?_range h]; rfl
    rw [h1, List.take_succ_eq_append_getElem hi, iAt_get S i hi, hv]
    by_cases e : v = j
    · subst e
      rw [List.getElem?_set_self (by rw [seenL_len]; exact h)]; simp
    · rw [List.getElem?_set_ne e, h2]
      have : ((v : Int) == (j : Int)) = false := by rw [beq_eq_false_iff_ne]; omega
      congr 1
      rw [Bool.eq_iff_iff]
      simp only [List.contains_iff_mem, List.mem_append, List.mem_singleton]
      constructor
      · rintro (h | h)
        · exact h
        · exact absurd h (by omega)
      · exact .inl
  · rw [List.getElem?_eq_none (by rw [seenL_len]; omega), List.getElem?_eq_none (by rw [List.length_set, seenL_len]; omega)]
set_option maxHeartbeats 12800000 in
set_option maxRecDepth 100000 in
theorem pdistinct_any (N : Nat) (hN : N ≤ 10000000) (p : Option Addr) (cp : Nat) (S : List Int) (hS : S.length ≤ 100000000) (w : World) (hs : IsAt w p S) :
    Calls Try.prog 75 #[.slice p S.length cp, .int .i64 N] w (GivesN w (firstE (nErr N S) S.length : Nat)) := by
  have HSA := Lib.hid hs
  have HK : Hid (∃ K, K = firstE (nErr N S) S.length) := Lib.hid ⟨_, rfl⟩
  have HFI : Hid (∀ i, (∀ j, j < i → nErr N S j = 0) → nErr N S i ≠ 0 → i < S.length → firstE (nErr N S) S.length = nErr N S i) := Lib.hid fun i h1 h2 h3 => firstE_at h1 h2 h3
  have HFZ : Hid ((∀ j, j < S.length → nErr N S j = 0) → firstE (nErr N S) S.length = 0) := Lib.hid fun h => firstE_zero h
  have HNE : Hid (∀ i, nErr N S i = if iAt S i < 0 ∨ (N : Int) ≤ iAt S i then 2 else if (S.take i).contains (iAt S i) = true then 7 else 0) := Lib.hid fun _ => rfl
  have HL0 := Lib.hid (seenL_zero S N)
  have HLA := Lib.hid (fun i v h => seenL_at S N i v h)
  have HLS := Lib.hid (fun i v h1 h2 => seenL_succ S N i v h1 h2)
  have HLL := Lib.hid (seenL_len S N)
  unfold GivesN
  generalize firstE (nErr N S) S.length = R at *
  generalize nErr N S = ER at *
  generalize seenL S N = LD at *
  clear hs HK
  have hmk : (Instr.makeSlice 25 (.int .i64 (N : Int)) (.int .i64 (N : Int))).run Try.prog w = .ok (.slice (some ⟨w.heap.size, 0, none⟩) N N) (w.alloc (.cells (flat encB (List.replicate N false)).toArray 4)) := make_bits N (by omega) _
  obtain ⟨W, hW⟩ : ∃ v, v = w.alloc (.cells (flat encB (List.replicate N false)).toArray 4) := ⟨_, rfl⟩
  obtain ⟨g, hg⟩ : ∃ v, v = w.heap.size := ⟨_, rfl⟩
  have hrbg : RowB encB 4 W g (LD 0) := by rw [hW, hg, HL0.out]; exact RowB.new _ _ _ _
  have hblg : Below w.heap.size w W := by rw [hW]; exact (Below.refl _ _).alloc (Nat.le_refl _) _
  rw [← hW, ← hg] at hmk
  have HRBg := Lib.hid hrbg
  have HBLg := Lib.hid hblg
  have HGEg := Lib.hid hg
  clear hrbg hblg hW hg
  have HGB : Hid (w.heap.size ≤ g) := Lib.hid (by rw [HGEg.out]; exact Nat.le_refl _)
  go_enter Try.func75, Try.ntmps75
  go_wp2
  clear hmk
  go_loopw [12] (fun x wr => ∃ i : Nat, i ≤ S.length ∧ x = .int .i64 i ∧ (∀ j, j < i → ER j = 0) ∧ RowB encB 4 wr g (LD i) ∧ Below w.heap.size w wr) (fun x _ => S.length - (intOf x).toNat)
  case atStart => exact ⟨0, by omega, rfl, fun j hj => by omega, HRBg.out, HBLg.out⟩
  case round =>
    obtain ⟨i, hi, rfl, hz, hrb, hb⟩ := hrel
    by_cases hlt : i < S.length
    · have i1 : (i : Int) < (S.length : Int) := by omega
      have i2 : (0 : Int) ≤ (i : Int) := by omega
      obtain ⟨b1, o1, hb1, q1, x1⟩ := (HSA.out.keep hb).one i hlt
      subst hb1
      have hne := HNE.out i
      have HFR := Lib.hid (HFI.out i hz)
      have HNXT : Hid (ER i = 0 → ∀ j, j < i + 1 → ER j = 0) := Lib.hid (fun h0 j hj => by
        by_cases e : j = i
        · subst e; exact h0
        · exact hz j (by omega))
      have HLSi := Lib.hid (fun v h => HLS.out i v hlt h)
      have HBr := Lib.hid hb
      have HRr := Lib.hid hrb
      clear hz hrb hb
      obtain ⟨z, hzz⟩ : ∃ z, iAt S i = z := ⟨_, rfl⟩
      rw [hzz] at x1 hne HLSi
      by_cases h1 : z < 0
      · have HRv : Hid (R = 2) := Lib.hid (by rw [if_pos (.inl h1)] at hne; rw [HFR.out (by omega) hlt, hne])
        clear hne hzz
        go_wp2
        go_ret
        exact ⟨by rw [HRv.out]; rfl, HBr.out⟩
      · by_cases h2 : (N : Int) ≤ z
        · have HRv : Hid (R = 2) := Lib.hid (by rw [if_pos (.inr h2)] at hne; rw [HFR.out (by omega) hlt, hne])
          clear hne hzz
          go_wp2
          go_ret
          exact ⟨by rw [HRv.out]; rfl, HBr.out⟩
        · obtain ⟨v, rfl⟩ : ∃ v : Nat, z = v := ⟨z.toNat, by omega⟩
          have hv : v < N := by omega
          have hla := HLA.out i v hv
          have HLSn := Lib.hid (HLSi.out v rfl)
          rw [if_neg (by omega), ← hla] at hne
          have c1 : (v : Int) < (N : Int) := by omega
          have c2 : (0 : Int) ≤ (v : Int) := by omega
          obtain ⟨Q, hQ⟩ : ∃ Q, LD i = Q := ⟨_, rfl⟩
          have HQL : Hid (v < Q.length) := Lib.hid (by rw [← hQ, HLL.out]; exact hv)
          have hrq := HRr.out
          rw [hQ] at hrq HLSn hne
          have y0 := hrq.bcell v HQL.out
          obtain ⟨bv, hbv⟩ : ∃ t, bAt Q v = t := ⟨_, rfl⟩
          rw [hbv] at y0 hne
          have y1 : wr.frozen? ⟨g, v, none⟩ = false := Blk.frozen hrq v
          have HRN : Hid (RowB encB 4 (wr.setCell ⟨g, v, none⟩ (.bool true)) g (LD (i + 1))) := Lib.hid (by rw [HLSn.out]; exact hrq.bset v true)
          have HBN := Lib.hid (HBr.out.setCell (p := ⟨g, v, none⟩) HGB.out (.bool true))
          cases bv
          · have HZN := Lib.hid (HNXT.out (by rw [hne]; rfl))
            clear hne hzz hla hQ hrq hbv
            go_wp2
            go_roundw
            case rel => exact ⟨i + 1, by omega, by go_num, HZN.out, HRN.out, HBN.out⟩
            case measure => simp [intOf]; omega
          · have HRv : Hid (R = 7) := Lib.hid (by rw [if_pos rfl] at hne; rw [HFR.out (by omega) hlt, hne])
            clear hne hzz hla hQ hrq hbv
            go_wp2
            go_ret
            exact ⟨by rw [HRv.out]; rfl, HBr.out⟩
    · obtain rfl : i = S.length := by omega
      have i1 : ¬ (S.length : Int) < (S.length : Int) := by omega
      have HRv := Lib.hid (HFZ.out hz)
      have HEND := Lib.hid hb
      clear hrb hb hz
      go_wp2
      go_ret
      exact ⟨by rw [HRv.out]; rfl, HEND.out⟩
end Go.Proofs.Ytlnaahkheankoaa

namespace Go.Proofs.Ytlnaahkheankoaa
open Go.RowKit Go.Shelf Go.Proofs.Gr
attribute [local go_sem] Oper.semAt_some

/-- Hands back bools and an error's number. -/
def GivesBE (w : World) (l : List Bool) (k : Nat) (e : Ending) (x : World) : Prop := ∃ a c, e = .returned (.tuple #[.slice a l.length c, .int .i64 (k : Nat)]) ∧ BsAt x a l ∧ Below w.heap.size w x
/-- Some are turned. -/
def revL (O : List Bool) (S : List Int) : Nat → List Bool
  | 0 => O
  | k + 1 => (revL O S k).set (iAt S k).toNat (!bAt (revL O S k) (iAt S k).toNat)
theorem revL_len (O : List Bool) (S : List Int) (k : Nat) : (revL O S k).length = O.length := by
  induction k with
  | zero => rfl
  | succ k ih => rw [revL, List.length_set, ih]
def revE (n : Int) (L : List E) (O : List Bool) (S : List Int) : Nat := if chkO n L O ≠ 0 then chkO n L O else firstE (nErr O.length S) S.length
theorem revE_zero {n : Int} {L : List E} {O : List Bool} {S : List Int} (h : revE n L O S = 0) : chkO n L O = 0 ∧ ∀ i, i < S.length → 0 ≤ iAt S i ∧ iAt S i < O.length ∧ (S.take i).contains (iAt S i) = false := by
  unfold revE at h
  by_cases h1 : chkO n L O ≠ 0
  · rw [if_pos h1] at h; exact absurd h h1
  · rw [if_neg h1] at h
    refine ⟨by omega, fun i hi => ?_⟩
    have h2 := firstE_all h i hi
    unfold nErr at h2
    by_cases h3 : iAt S i < 0 ∨ (O.length : Int) ≤ iAt S i
    · rw [if_pos h3] at h2; omega
    · rw [if_neg h3] at h2
      cases h4 : (S.take i).contains (iAt S i)
      · exact ⟨by omega, by omega, rfl⟩
      · rw [h4, if_pos rfl] at h2; omega
set_option maxHeartbeats 12800000 in
set_option maxRecDepth 100000 in
theorem preverse_ori (n : Int) (a : Option Addr) (cap : Nat) (L : List E) (hL : L.length ≤ 100000) (b : Option Addr) (c : Nat) (O : List Bool) (hO : O.length ≤ 100000000) (s : Option Addr) (d : Nat) (S : List Int) (hS : S.length ≤ 100000000) (w : World) (h : EsAt w a L) (ho : BsAt w b O) (hs : IsAt w s S) :
    Calls Try.prog 39 #[gv n a L.length cap, .slice b O.length c, .slice s S.length d] w (GivesBE w (okL (revE n L O S) (revL O S S.length)) (revE n L O S)) := by
  have hoL : chkO n L O = 0 → O.length ≤ 5000000 := fun hz => by have := chkO_len hz; have := ends_all (right_of (chkO_zero hz).1); omega
  have HC := Lib.hid (fun w h ho => pcheckO_any n a cap L hL b c O hO w h ho)
  have HDI : Hid (chkO n L O = 0 → ∀ w, IsAt w s S → Calls Try.prog 75 #[.slice s S.length d, .int .i64 O.length] w (GivesN w (firstE (nErr O.length S) S.length : Nat))) := Lib.hid fun hz w hs => pdistinct_any O.length (by have := hoL hz; omega) s d S hS w hs
  have HCL := Lib.hid (fun w ho => pcloneB_any b c O hO w ho)
  have HRZ : Hid (revE n L O S = 0 → ∀ i, i < S.length → 0 ≤ iAt S i ∧ iAt S i < O.length) := Lib.hid fun hz i hi => ⟨((revE_zero hz).2 i hi).1, ((revE_zero hz).2 i hi).2.1⟩
  have HE1 : Hid (chkO n L O ≠ 0 → revE n L O S = chkO n L O) := Lib.hid fun hz => by unfold revE; rw [if_pos hz]
  have HE2 : Hid (chkO n L O = 0 → revE n L O S = firstE (nErr O.length S) S.length) := Lib.hid fun hz => by unfold revE; rw [if_neg (by omega)]
  have HV0 : Hid (revL O S 0 = O) := Lib.hid rfl
  have HVS : Hid (∀ k, revL O S (k + 1) = (revL O S k).set (iAt S k).toNat (!bAt (revL O S k) (iAt S k).toNat)) := Lib.hid fun _ => rfl
  have HVL := Lib.hid (revL_len O S)
  have HX1 := Lib.hid (fun h => okL_pos (k := revE n L O S) (revL O S S.length) h)
  have HX2 := Lib.hid (fun h => okL_neg (k := revE n L O S) (revL O S S.length) h)
  unfold GivesBE
  unfold GivesN gv at *
  generalize okL (revE n L O S) (revL O S S.length) = X at *
  generalize revL O S = RV at *
  generalize revE n L O S = K at *
  generalize chkO n L O = k at *
  generalize firstE (nErr O.length S) S.length = k2 at *
  clear hoL
  obtain ⟨W, hW⟩ : ∃ W, W = w.alloc (Obj.cells #[.int .i64 n, .slice a L.length cap] 24) := ⟨_, rfl⟩
  have hB0 : Below w.heap.size w W := by rw [hW]; exact (Below.refl _ w).alloc (Nat.le_refl _) _
  have hG : Blk W w.heap.size 24 #[.int .i64 n, .slice a L.length cap] := by rw [hW]; exact Blk.new _ _ _
  have hWs : W.heap.size = w.heap.size + 1 := by rw [hW]; simp
  have HW := Lib.hid hW
  have HWS := Lib.hid hWs
  have HB0 := Lib.hid hB0
  have HE := Lib.hid (h.keep hB0)
  have HF : Hid (∀ u, Below W.heap.size W u → u.cell? ⟨w.heap.size, 0, none⟩ = some (.int .i64 n) ∧ u.cell? ⟨w.heap.size, 1, none⟩ = some (.slice a L.length cap)) := Lib.hid fun u hu => ⟨(hG.below hu hG.lt).cell 0, (hG.below hu hG.lt).cell 1⟩
  obtain ⟨g0, g1⟩ := HF.out W (Below.refl _ _)
  have HO := Lib.hid (ho.keep hB0)
  have HSS := Lib.hid (hs.keep hB0)
  clear hs ho hB0 hG hW hWs h
  go_enter Try.func39, Try.ntmps39
  go_wp2_with fail
  rw [← HW.out]
  refine (HC.out _ HE.out HO.out).mono ?_
  rintro e w1 ⟨rfl, hb⟩
  by_cases hk : k ≠ 0
  · have q0 : (((k : Nat) : Int) != 0) = true := by rw [bne_iff_ne]; omega
    have HKE := Lib.hid (HE1.out hk)
    have HXA := Lib.hid (HX2.out (by rw [HE1.out hk]; exact hk))
    have HEND := Lib.hid (HB0.out.trans (hb.mono HB0.out.size))
    clear hk
    clear g0 g1 hb
    go_wp2
    go_ret2
    first | exact ⟨none, 0, by rw [HXA.out, HKE.out]; rfl, by rw [HXA.out]; exact RowAt.nil _ _ _ _, HEND.out⟩ | exact ⟨none, ⟨0, by rw [HXA.out, HKE.out]; rfl⟩, by rw [HXA.out]; exact RowAt.nil _ _ _ _, HEND.out⟩
  · have hk0 : k = 0 := by omega
    have HDI2 := Lib.hid (HDI.out hk0)
    have HKE := Lib.hid (HE2.out hk0)
    subst hk0
    clear g0 g1 hk
    obtain ⟨g0, g1⟩ := HF.out w1 hb
    go_wp2_with fail
    refine (HDI2.out _ (HSS.out.keep hb)).mono ?_
    rintro e w2 ⟨rfl, hb2⟩
    have hk2 : Below W.heap.size W w2 := hb.trans (hb2.mono hb.size)
    clear hb hb2 g0 g1
    by_cases hq : k2 ≠ 0
    · have q0 : (((k2 : Nat) : Int) != 0) = true := by rw [bne_iff_ne]; omega
      have HXA := Lib.hid (HX2.out (by rw [HKE.out]; exact hq))
      have HEND := Lib.hid (HB0.out.trans (hk2.mono HB0.out.size))
      clear hq hk2
      go_wp2
      go_ret2
      first | exact ⟨none, 0, by rw [HXA.out, HKE.out]; rfl, by rw [HXA.out]; exact RowAt.nil _ _ _ _, HEND.out⟩ | exact ⟨none, ⟨0, by rw [HXA.out, HKE.out]; rfl⟩, by rw [HXA.out]; exact RowAt.nil _ _ _ _, HEND.out⟩
    · have hq0 : k2 = 0 := by omega
      have HXA := Lib.hid (HX1.out (by rw [HKE.out]; exact hq0))
      have HRG := Lib.hid (HRZ.out (by rw [HKE.out]; exact hq0))
      subst hq0
      have HO2 := Lib.hid (HO.out.keep hk2)
      have HS2 := Lib.hid (HSS.out.keep hk2)
      have HBE := Lib.hid (HB0.out.trans (hk2.mono HB0.out.size))
      clear hq hk2
      go_wp2_with fail
      refine (HCL.out _ HO2.out).mono ?_
      rintro e w3 ⟨v, rfl, hown, hb3⟩
      obtain ⟨sa, sc, rfl, -⟩ := RowAt.of_own encB_len hown
      have HOW0 := Lib.hid hown
      have HB3 := Lib.hid hb3
      clear hown hb3
      go_wp2
      go_loopw [30] (fun x wr => ∃ i : Nat, i ≤ S.length ∧ x = .int .i64 i ∧ wr.ownsRow w2.heap.size 4 1 (.slice sa O.length sc) O.length (flat encB (RV i)) ∧ Below w2.heap.size w2 wr) (fun x _ => S.length - (intOf x).toNat)
      case atStart => exact ⟨0, by omega, rfl, by rw [HV0.out]; exact HOW0.out, HB3.out⟩
      case round =>
        obtain ⟨i, hi, rfl, hown, hb⟩ := hrel
        by_cases hlt : i < S.length
        · have i1 : (i : Int) < (S.length : Int) := by omega
          have i2 : (0 : Int) ≤ (i : Int) := by omega
          obtain ⟨b1, o1, hb1, q1, x1⟩ := (HS2.out.keep hb).one i hlt
          subst hb1
          obtain ⟨hr1, hr2⟩ := HRG.out i hlt
          have HVn := Lib.hid (HVS.out i)
          obtain ⟨v, hv⟩ : ∃ v : Nat, iAt S i = v := ⟨(iAt S i).toNat, by omega⟩
          rw [hv] at x1 hr2 HVn
          rw [show ((v : Nat) : Int).toNat = v by omega] at HVn
          have c1 : (v : Int) < (O.length : Int) := by omega
          have c2 : (0 : Int) ≤ (v : Int) := by omega
          obtain ⟨g, c9, hvv⟩ := own_pos hown (by omega)
          injection hvv with e1 e2 e3
          subst e1 e3
          have hg1 := (hown.lt g rfl).1
          obtain ⟨Q, hQ⟩ : ∃ Q, RV i = Q := ⟨_, rfl⟩
          have hql := HVL.out i
          rw [hQ] at hown HVn hql
          have HQL : Hid (v < Q.length) := Lib.hid (by omega)
          have hqq : (flat encB Q)[v]? = some (.bool (bAt Q v)) := by
            have := flat_at (k := 1) (enc := encB) encB_len Q v 0 HQL.out (by decide)
            rw [Nat.mul_one, Nat.add_zero] at this
            rw [this, bAt_get Q v HQL.out]; rfl
          have y0 : wr.cell? ⟨g, v, none⟩ = some (.bool (bAt Q v)) := (hown.cellAt v (by omega)).trans hqq
          have y1 : wr.frozen? ⟨g, v, none⟩ = false := hown.frozenAt v
          have own2 := (hown.stored v (.bool (!bAt Q v))).1
          rw [flatB_map, ← List.map_set, ← flatB_map, ← HVn.out] at own2
          have HBN := Lib.hid (hb.setCell (p := ⟨g, v, none⟩) hg1 (.bool (!bAt Q v)))
          generalize bAt Q v = bv at *
          have HON := Lib.hid own2
          clear own2 hown hb hv hQ hr1 hr2 hqq hg1 hql
          cases bv
          all_goals
            go_wp2
            go_roundw
            case rel => exact ⟨i + 1, by omega, by go_num, HON.out, HBN.out⟩
            case measure => simp [intOf]; omega
        · obtain rfl : i = S.length := by omega
          have i1 : ¬ (S.length : Int) < (S.length : Int) := by omega
          have hql := HVL.out S.length
          obtain ⟨a9, c9, e8, hra⟩ := of_own_len encB_len hown hql.symm
          injection e8 with e81 _ e83
          subst e81 e83
          have HRA := Lib.hid hra
          have HQL := Lib.hid hql
          have HEND := Lib.hid (HBE.out.trans (hb.mono HBE.out.size))
          clear hown hb hra hql
          go_wp2
          go_ret2
          first | exact ⟨sa, sc, by rw [HXA.out, HKE.out, HQL.out]; rfl, by rw [HXA.out]; exact HRA.out, HEND.out⟩ | exact ⟨sa, ⟨sc, by rw [HXA.out, HKE.out, HQL.out]; rfl⟩, by rw [HXA.out]; exact HRA.out, HEND.out⟩
end Go.Proofs.Ytlnaahkheankoaa

namespace Go.Proofs.Ytlnaahkheankoaa
open Go.RowKit Go.Shelf Go.Proofs.Gr
attribute [local go_sem] Oper.semAt_some

def outB2 (S : List Int) (p : Int × Int) : Bool := S.contains p.1 && !S.contains p.2
def intB2 (S : List Int) (p : Int × Int) : Bool := S.contains p.2 && !S.contains p.1
/-- How many of the first arcs are so. -/
def cntB (q : Int × Int → Bool) (A : List (Int × Int)) : Nat → Nat
  | 0 => 0
  | k + 1 => cntB q A k + (if q (pAt A k) = true then 1 else 0)
theorem cntB_le (q : Int × Int → Bool) (A : List (Int × Int)) (k : Nat) : cntB q A k ≤ k := by
  induction k with
  | zero => exact Nat.le_refl _
  | succ k ih => rw [cntB]; split <;> omega
/-- 1 or -1 for numbers of arcs out and in. -/
def wayN (o i : Nat) : Int := if 0 < o ∧ i = 0 then 1 else if 0 < i ∧ o = 0 then -1 else 0
def dirV (_ : Int) (L : List E) (O : List Bool) (S : List Int) : Int := wayN (cntB (outB2 S) (arcs (endsG L) O) (arcs (endsG L) O).length) (cntB (intB2 S) (arcs (endsG L) O) (arcs (endsG L) O).length)
def dirE (n : Int) (L : List E) (O : List Bool) (S : List Int) : Nat := if chkO n L O ≠ 0 then chkO n L O else subE n S
def okZ (k : Nat) (z : Int) : Int := if k = 0 then z else 0
theorem okZ_pos {k : Nat} (z : Int) (h : k = 0) : okZ k z = z := by unfold okZ; rw [if_pos h]
theorem okZ_neg {k : Nat} (z : Int) (h : k ≠ 0) : okZ k z = 0 := by unfold okZ; rw [if_neg h]
set_option maxHeartbeats 12800000 in
set_option maxRecDepth 100000 in
theorem pdirected_any (n : Int) (a : Option Addr) (cap : Nat) (L : List E) (hL : L.length ≤ 100000) (b : Option Addr) (c : Nat) (O : List Bool) (hO : O.length ≤ 100000000) (s : Option Addr) (d : Nat) (S : List Int) (hS : S.length ≤ 100000) (w : World) (h : EsAt w a L) (ho : BsAt w b O) (hs : IsAt w s S) :
    Calls Try.prog 37 #[gv n a L.length cap, .slice b O.length c, .slice s S.length d] w (GivesNE w (okZ (dirE n L O S) (dirV n L O S)) (dirE n L O S)) := by
  have hoL : chkO n L O = 0 → (arcs (endsG L) O).length ≤ 5000000 := fun hz => by have := chkO_len hz; have := ends_all (right_of (chkO_zero hz).1); rw [arcs_len]; omega
  have HOL := Lib.hid hoL
  have HAO := Lib.hid (fun w h ho => parcsOf_any n a cap L hL b c O hO w h ho)
  have HSU := Lib.hid (fun w h hs => psubset_any n a cap L hL s d S hS w h hs)
  have HSZ : Hid (chkO n L O = 0 → chkS n L S = subE n S) := Lib.hid fun hz => by unfold chkS; rw [(chkO_zero hz).1, if_neg (by omega)]
  have HCO := Lib.hid (fun v w h => pcontains_any s d S (by omega) v w h)
  have HE1 : Hid (chkO n L O ≠ 0 → dirE n L O S = chkO n L O) := Lib.hid fun hz => by unfold dirE; rw [if_pos hz]
  have HE2 : Hid (chkO n L O = 0 → dirE n L O S = subE n S) := Lib.hid fun hz => by unfold dirE; rw [if_neg (by omega)]
  have HX1 := Lib.hid (fun h => okL_pos (k := chkO n L O) (arcs (endsG L) O) h)
  have HY1 := Lib.hid (fun h => okZ_pos (k := dirE n L O S) (dirV n L O S) h)
  have HY2 := Lib.hid (fun h => okZ_neg (k := dirE n L O S) (dirV n L O S) h)
  have HV : Hid (dirV n L O S = wayN (cntB (outB2 S) (arcs (endsG L) O) (arcs (endsG L) O).length) (cntB (intB2 S) (arcs (endsG L) O) (arcs (endsG L) O).length)) := Lib.hid rfl
  have HO0 : Hid (cntB (outB2 S) (arcs (endsG L) O) 0 = 0) := Lib.hid rfl
  have HI0 : Hid (cntB (intB2 S) (arcs (endsG L) O) 0 = 0) := Lib.hid rfl
  have HO1 : Hid (∀ k, cntB (outB2 S) (arcs (endsG L) O) (k + 1) = cntB (outB2 S) (arcs (endsG L) O) k + (if (S.contains (pAt (arcs (endsG L) O) k).1 && !S.contains (pAt (arcs (endsG L) O) k).2) = true then 1 else 0)) := Lib.hid fun _ => rfl
  have HI1 : Hid (∀ k, cntB (intB2 S) (arcs (endsG L) O) (k + 1) = cntB (intB2 S) (arcs (endsG L) O) k + (if (S.contains (pAt (arcs (endsG L) O) k).2 && !S.contains (pAt (arcs (endsG L) O) k).1) = true then 1 else 0)) := Lib.hid fun _ => rfl
  have HOB := Lib.hid (fun k => cntB_le (outB2 S) (arcs (endsG L) O) k)
  have HIB := Lib.hid (fun k => cntB_le (intB2 S) (arcs (endsG L) O) k)
  clear hoL
  unfold GivesPE GivesNE at *
  unfold GivesN gv at *
  generalize okL (chkO n L O) (arcs (endsG L) O) = X at *
  generalize okZ (dirE n L O S) (dirV n L O S) = Y at *
  generalize dirV n L O S = V at *
  generalize dirE n L O S = K at *
  generalize chkS n L S = k9 at *
  generalize chkO n L O = k at *
  generalize subE n S = k2 at *
  generalize arcs (endsG L) O = A at *
  generalize cntB (outB2 S) A = co at *
  generalize cntB (intB2 S) A = ci at *
  obtain ⟨W, hW⟩ : ∃ W, W = w.alloc (Obj.cells #[.int .i64 n, .slice a L.length cap] 24) := ⟨_, rfl⟩
  have hB0 : Below w.heap.size w W := by rw [hW]; exact (Below.refl _ w).alloc (Nat.le_refl _) _
  have hG : Blk W w.heap.size 24 #[.int .i64 n, .slice a L.length cap] := by rw [hW]; exact Blk.new _ _ _
  have hWs : W.heap.size = w.heap.size + 1 := by rw [hW]; simp
  have HW := Lib.hid hW
  have HWS := Lib.hid hWs
  have HB0 := Lib.hid hB0
  have HE := Lib.hid (h.keep hB0)
  have HF : Hid (∀ u, Below W.heap.size W u → u.cell? ⟨w.heap.size, 0, none⟩ = some (.int .i64 n) ∧ u.cell? ⟨w.heap.size, 1, none⟩ = some (.slice a L.length cap)) := Lib.hid fun u hu => ⟨(hG.below hu hG.lt).cell 0, (hG.below hu hG.lt).cell 1⟩
  obtain ⟨g0, g1⟩ := HF.out W (Below.refl _ _)
  have HO := Lib.hid (ho.keep hB0)
  have HSS := Lib.hid (hs.keep hB0)
  clear hs ho hB0 hG hW hWs h
  go_enter Try.func37, Try.ntmps37
  go_wp2_with fail
  rw [← HW.out]
  refine (HAO.out _ HE.out HO.out).mono ?_
  rintro e w1 ⟨p, cp, rfl, hp, hb⟩
  by_cases hk : k ≠ 0
  · have q0 : (((k : Nat) : Int) != 0) = true := by rw [bne_iff_ne]; omega
    have HKE := Lib.hid (HE1.out hk)
    have HYA := Lib.hid (HY2.out (by rw [HE1.out hk]; exact hk))
    have HEND := Lib.hid (HB0.out.trans (hb.mono HB0.out.size))
    clear hk g0 g1 hb hp
    go_wp2
    go_ret2
    exact ⟨by rw [HYA.out, HKE.out]; rfl, HEND.out⟩
  · have hk0 : k = 0 := by omega
    have hX := (HX1.out hk0).symm
    have HKE := Lib.hid (HE2.out hk0)
    have HLA := Lib.hid (HOL.out hk0)
    have hz9 := HSZ.out hk0
    subst hk0 hX
    rw [hz9] at HSU
    clear g0 g1 hk hz9
    obtain ⟨g0, g1⟩ := HF.out w1 hb
    have HP1 := Lib.hid hp
    clear hp
    go_wp2_with fail
    refine (HSU.out _ (HE.out.keep hb) (HSS.out.keep hb)).mono ?_
    rintro e w2 ⟨rfl, hb2⟩
    have hk2 : Below W.heap.size W w2 := hb.trans (hb2.mono hb.size)
    have HP2 := Lib.hid (HP1.out.keep hb2)
    clear hb hb2 g0 g1
    by_cases hq : k2 ≠ 0
    · have q0 : (((k2 : Nat) : Int) != 0) = true := by rw [bne_iff_ne]; omega
      have HYA := Lib.hid (HY2.out (by rw [HKE.out]; exact hq))
      have HEND := Lib.hid (HB0.out.trans (hk2.mono HB0.out.size))
      clear hq hk2
      go_wp2
      go_ret2
      exact ⟨by rw [HYA.out, HKE.out]; rfl, HEND.out⟩
    · have hq0 : k2 = 0 := by omega
      have HYA := Lib.hid (HY1.out (by rw [HKE.out]; exact hq0))
      subst hq0
      have HS2 := Lib.hid (HSS.out.keep hk2)
      have HBE := Lib.hid (HB0.out.trans (hk2.mono HB0.out.size))
      clear hq hk2
      go_wp2
      go_loopw [11, 12, 34] (fun xo xi x wr => ∃ i : Nat, i ≤ A.length ∧ x = .int .i64 i ∧ xo = .int .i64 ((co i : Nat) : Int) ∧ xi = .int .i64 ((ci i : Nat) : Int) ∧ Below w2.heap.size w2 wr) (fun _ _ x _ => A.length - (intOf x).toNat)
      case atStart => exact ⟨0, by omega, rfl, by rw [HO0.out]; rfl, by rw [HI0.out]; rfl, Below.refl _ _⟩
      case round =>
        obtain ⟨i, hi, rfl, rfl, rfl, hb⟩ := hrel
        have hla := HLA.out
        by_cases hlt : i < A.length
        · have i1 : (i : Int) < (A.length : Int) := by omega
          have i2 : (0 : Int) ≤ (i : Int) := by omega
          obtain ⟨b1, o1, hb1, q1, x1, x2⟩ := (HP2.out.keep hb).two i hlt
          subst hb1
          have HOn := Lib.hid (HO1.out i)
          have HIn := Lib.hid (HI1.out i)
          have hob := HOB.out i
          have hib := HIB.out i
          obtain ⟨pa, hpa⟩ : ∃ t, (pAt A i).1 = t := ⟨_, rfl⟩
          obtain ⟨pb, hpb⟩ : ∃ t, (pAt A i).2 = t := ⟨_, rfl⟩
          rw [hpa] at x1 HOn HIn
          rw [hpb] at x2 HOn HIn
          obtain ⟨u, hu⟩ : ∃ u, co i = u := ⟨_, rfl⟩
          obtain ⟨v, hv⟩ : ∃ u, ci i = u := ⟨_, rfl⟩
          rw [hu] at HOn hob ⊢
          rw [hv] at HIn hib ⊢
          have HC1 := Lib.hid (fun w h => HCO.out pa w h)
          have HC2 := Lib.hid (fun w h => HCO.out pb w h)
          generalize S.contains pa = ba at *
          generalize S.contains pb = bb at *
          have hbx : Below wr.heap.size wr (wr.alloc (Obj.cells #[.int .i64 pa, .int .i64 pb] 85)) := (Below.refl _ _).alloc (Nat.le_refl _) _
          have HSV : Hid (∀ x, Below wr.heap.size wr x → IsAt x s S) := Lib.hid (fun x hx => HS2.out.keep (hb.trans (hx.mono hb.size)))
          have HBX := Lib.hid (hb.alloc hb.size (Obj.cells #[.int .i64 pa, .int .i64 pb] 85))
          have HVB : Hid (Blk (wr.alloc (Obj.cells #[.int .i64 pa, .int .i64 pb] 85)) wr.heap.size 85 #[.int .i64 pa, .int .i64 pb]) := Lib.hid (Blk.new _ _ _)
          have HNB : Hid (Below wr.heap.size wr (wr.alloc (Obj.cells #[.int .i64 pa, .int .i64 pb] 85))) := Lib.hid hbx
          clear hbx hb hu hv hpa hpb
          cases ba
          · cases bb
            · have HOk : Hid (co (i + 1) = u) := Lib.hid (by rw [HOn.out]; rfl)
              have HIk : Hid (ci (i + 1) = v) := Lib.hid (by rw [HIn.out]; rfl)
              go_wp2
              go_quiet (first | with_reducible exact Calls.quiet_of_same ((HC1.out _ (HSV.out _ (below_drewN HNB.out _))).mono fun _ _ h => ⟨h.1, h.2.symm⟩) | with_reducible exact Calls.quiet_of_same ((HC2.out _ (HSV.out _ (below_drewN HNB.out _))).mono fun _ _ h => ⟨h.1, h.2.symm⟩))
              have HEN := Lib.hid (below_drewN HBX.out nq)
              go_wp2
              go_roundw
              case rel => exact ⟨i + 1, by omega, by go_num, by first | (rw [HOk.out]; done) | (rw [HOk.out]; go_num), by first | (rw [HIk.out]; done) | (rw [HIk.out]; go_num), HEN.out⟩
              case measure => simp [intOf]; omega
            · have HOk : Hid (co (i + 1) = u) := Lib.hid (by rw [HOn.out]; rfl)
              have HIk : Hid (ci (i + 1) = v + 1) := Lib.hid (by rw [HIn.out]; rfl)
              go_wp2
              go_quiet (first | with_reducible exact Calls.quiet_of_same ((HC1.out _ (HSV.out _ (below_drewN HNB.out _))).mono fun _ _ h => ⟨h.1, h.2.symm⟩) | with_reducible exact Calls.quiet_of_same ((HC2.out _ (HSV.out _ (below_drewN HNB.out _))).mono fun _ _ h => ⟨h.1, h.2.symm⟩))
              have HEN := Lib.hid (below_drewN HBX.out nq)
              go_wp2
              go_roundw
              case rel => exact ⟨i + 1, by omega, by go_num, by first | (rw [HOk.out]; done) | (rw [HOk.out]; go_num), by first | (rw [HIk.out]; done) | (rw [HIk.out]; go_num), HEN.out⟩
              case measure => simp [intOf]; omega
          · cases bb
            · have HOk : Hid (co (i + 1) = u + 1) := Lib.hid (by rw [HOn.out]; rfl)
              have HIk : Hid (ci (i + 1) = v) := Lib.hid (by rw [HIn.out]; rfl)
              go_wp2
              go_quiet (first | with_reducible exact Calls.quiet_of_same ((HC1.out _ (HSV.out _ (below_drewN HNB.out _))).mono fun _ _ h => ⟨h.1, h.2.symm⟩) | with_reducible exact Calls.quiet_of_same ((HC2.out _ (HSV.out _ (below_drewN HNB.out _))).mono fun _ _ h => ⟨h.1, h.2.symm⟩))
              have HEN := Lib.hid (below_drewN HBX.out nq)
              go_wp2
              go_roundw
              case rel => exact ⟨i + 1, by omega, by go_num, by first | (rw [HOk.out]; done) | (rw [HOk.out]; go_num), by first | (rw [HIk.out]; done) | (rw [HIk.out]; go_num), HEN.out⟩
              case measure => simp [intOf]; omega
            · have HOk : Hid (co (i + 1) = u) := Lib.hid (by rw [HOn.out]; rfl)
              have HIk : Hid (ci (i + 1) = v) := Lib.hid (by rw [HIn.out]; rfl)
              go_wp2
              go_quiet (first | with_reducible exact Calls.quiet_of_same ((HC1.out _ (HSV.out _ (below_drewN HNB.out _))).mono fun _ _ h => ⟨h.1, h.2.symm⟩) | with_reducible exact Calls.quiet_of_same ((HC2.out _ (HSV.out _ (below_drewN HNB.out _))).mono fun _ _ h => ⟨h.1, h.2.symm⟩))
              have HEN := Lib.hid (below_drewN HBX.out nq)
              go_wp2
              go_roundw
              case rel => exact ⟨i + 1, by omega, by go_num, by first | (rw [HOk.out]; done) | (rw [HOk.out]; go_num), by first | (rw [HIk.out]; done) | (rw [HIk.out]; go_num), HEN.out⟩
              case measure => simp [intOf]; omega
        · obtain rfl : i = A.length := by omega
          have i1 : ¬ (A.length : Int) < (A.length : Int) := by omega
          have HEND := Lib.hid (HBE.out.trans (hb.mono HBE.out.size))
          have hob := HOB.out A.length
          have hib := HIB.out A.length
          obtain ⟨u, hu⟩ : ∃ u, co A.length = u := ⟨_, rfl⟩
          obtain ⟨v, hv⟩ : ∃ u, ci A.length = u := ⟨_, rfl⟩
          have HVA : Hid (V = wayN u v) := Lib.hid (by rw [HV.out, hu, hv])
          rw [hu] at hob ⊢
          rw [hv] at hib ⊢
          clear hu hv hb
          by_cases h1 : 0 < u
          · have c1 : (0 : Int) < (u : Int) := by omega
            by_cases h2 : v = 0
            · have c2 : (((v : Nat) : Int) == 0) = true := by rw [beq_iff_eq]; omega
              have HVW : Hid (V = 1) := Lib.hid (by rw [HVA.out]; unfold wayN; rw [if_pos ⟨h1, h2⟩])
              clear h1 h2
              go_wp2
              go_ret2
              exact ⟨by rw [HYA.out, HKE.out, HVW.out]; rfl, HEND.out⟩
            · have c2 : (((v : Nat) : Int) == 0) = false := by rw [beq_eq_false_iff_ne]; omega
              have c3 : (0 : Int) < (v : Int) := by omega
              have c4 : (((u : Nat) : Int) == 0) = false := by rw [beq_eq_false_iff_ne]; omega
              have HVW : Hid (V = 0) := Lib.hid (by rw [HVA.out]; unfold wayN; rw [if_neg (by omega), if_neg (by omega)])
              clear h1 h2
              go_wp2
              go_ret2
              exact ⟨by rw [HYA.out, HKE.out, HVW.out]; rfl, HEND.out⟩
          · have c1 : ¬ (0 : Int) < (u : Int) := by omega
            have c4 : (((u : Nat) : Int) == 0) = true := by rw [beq_iff_eq]; omega
            by_cases h2 : 0 < v
            · have c3 : (0 : Int) < (v : Int) := by omega
              have HVW : Hid (V = -1) := Lib.hid (by rw [HVA.out]; unfold wayN; rw [if_neg (by omega), if_pos ⟨h2, by omega⟩])
              clear h1 h2
              go_wp2
              go_ret2
              exact ⟨by rw [HYA.out, HKE.out, HVW.out]; rfl, HEND.out⟩
            · have c3 : ¬ (0 : Int) < (v : Int) := by omega
              have HVW : Hid (V = 0) := Lib.hid (by rw [HVA.out]; unfold wayN; rw [if_neg (by omega), if_neg (by omega)])
              clear h1 h2
              go_wp2
              go_ret2
              exact ⟨by rw [HYA.out, HKE.out, HVW.out]; rfl, HEND.out⟩
end Go.Proofs.Ytlnaahkheankoaa

namespace Go.Proofs.Ytlnaahkheankoaa
open Go.RowKit Go.Shelf Go.Proofs.Gr
attribute [local go_sem] Oper.semAt_some

/-- The places of an order; its orientation. -/
def plcS (S : List Int) (n : Nat) : Nat → List Int
  | 0 => List.replicate n 0
  | k + 1 => (plcS S n k).set (iAt S k).toNat k
theorem plcS_len (S : List Int) (n k : Nat) : (plcS S n k).length = n := by
  induction k with
  | zero => simp [plcS]
  | succ k ih => rw [plcS, List.length_set, ih]
def ordF (P : List (Int × Int)) (Z : List Int) (j : Nat) : Bool := decide (iAt Z (pAt P j).1.toNat ≤ iAt Z (pAt P j).2.toNat)
def ordL (P : List (Int × Int)) (Z : List Int) : List Bool := (List.range P.length).map (ordF P Z)
def ordR (n : Int) (L : List E) (S : List Int) : List Bool := ordL (endsG L) (plcS S n.toNat S.length)
theorem ordL_len (P : List (Int × Int)) (Z : List Int) : (ordL P Z).length = P.length := by simp [ordL]
def ordE (n : Int) (L : List E) (S : List Int) : Nat := if chkG n L ≠ 0 then chkG n L else renE n S
theorem ren_at {n : Int} {S : List Int} (h : renE n S = 0) : (S.length : Int) = n ∧ ∀ i, i < S.length → 0 ≤ iAt S i ∧ iAt S i < n ∧ (S.take i).contains (iAt S i) = false := by
  unfold renE at h
  by_cases h1 : (S.length : Int) ≠ n
  · rw [if_pos h1] at h; omega
  · rw [if_neg h1] at h
    refine ⟨by omega, fun i hi => ?_⟩
    have h2 := firstE_all h i hi
    unfold nErr at h2
    by_cases h3 : iAt S i < 0 ∨ n ≤ iAt S i
    · rw [if_pos h3] at h2; omega
    · rw [if_neg h3] at h2
      cases h4 : (S.take i).contains (iAt S i)
      · exact ⟨by omega, by omega, rfl⟩
      · rw [h4, if_pos rfl] at h2; omega
set_option maxHeartbeats 12800000 in
set_option maxRecDepth 100000 in
theorem porder_ori (n : Int) (a : Option Addr) (cap : Nat) (L : List E) (hL : L.length ≤ 100000) (s : Option Addr) (d : Nat) (S : List Int) (hS : S.length ≤ 100000000) (w : World) (h : EsAt w a L) (hs : IsAt w s S) :
    Calls Try.prog 34 #[gv n a L.length cap, .slice s S.length d] w (GivesBE w (okL (ordE n L S) (ordR n L S)) (ordE n L S)) := by
  have HEN := Lib.hid (fun w h => pends_any n a cap L hL w h)
  have HDI : Hid (chkG n L = 0 → ∀ w, IsAt w s S → Calls Try.prog 75 #[.slice s S.length d, .int .i64 n] w (GivesN w (firstE (nErr n S) S.length : Nat))) := Lib.hid fun hz w hs => by
    have h1 := chkG_n hz
    have := pdistinct_any n.toNat (by omega) s d S hS w hs
    rw [show ((n.toNat : Nat) : Int) = n by omega] at this
    exact this
  have HN1 : Hid (chkG n L = 0 → n = ((n.toNat : Nat) : Int) ∧ n.toNat ≤ 12) := Lib.hid fun hz => by have := chkG_n hz; omega
  have HRN : Hid (chkG n L = 0 → (endsG L).length ≤ 5000000 ∧ ∀ j, j < (endsG L).length → (0 ≤ (pAt (endsG L) j).1 ∧ (pAt (endsG L) j).1 < n) ∧ (0 ≤ (pAt (endsG L) j).2 ∧ (pAt (endsG L) j).2 < n)) := Lib.hid fun hz => ⟨by have := ends_all (right_of hz); omega, fun j hj => ends_rng (right_of hz) j hj⟩
  have HE1 : Hid (chkG n L ≠ 0 → ordE n L S = chkG n L) := Lib.hid fun hz => by unfold ordE; rw [if_pos hz]
  have HE2 : Hid (chkG n L = 0 → (S.length : Int) ≠ n → ordE n L S = 8) := Lib.hid fun hz h8 => by unfold ordE renE; rw [if_neg (by omega), if_pos h8]
  have HE3 : Hid (chkG n L = 0 → (S.length : Int) = n → ordE n L S = firstE (nErr n S) S.length) := Lib.hid fun hz h8 => by unfold ordE renE; rw [if_neg (by omega), if_neg (by omega)]
  have HRZ : Hid (chkG n L = 0 → ordE n L S = 0 → ∀ i, i < S.length → 0 ≤ iAt S i ∧ iAt S i < n) := Lib.hid fun h0 hz i hi => by
    unfold ordE at hz
    rw [if_neg (by omega)] at hz
    exact ⟨((ren_at hz).2 i hi).1, ((ren_at hz).2 i hi).2.1⟩
  have HX1 := Lib.hid (fun h => okL_pos (k := ordE n L S) (ordR n L S) h)
  have HX2 := Lib.hid (fun h => okL_neg (k := ordE n L S) (ordR n L S) h)
  have HZ0 : Hid (plcS S n.toNat 0 = List.replicate n.toNat 0) := Lib.hid rfl
  have HZS : Hid (∀ k, plcS S n.toNat (k + 1) = (plcS S n.toNat k).set (iAt S k).toNat k) := Lib.hid fun _ => rfl
  have HZL := Lib.hid (plcS_len S n.toNat)
  have HOF : Hid (ordR n L S = (List.range (endsG L).length).map (ordF (endsG L) (plcS S n.toNat S.length))) := Lib.hid rfl
  have HFL := Lib.hid (fillL_len false (ordF (endsG L) (plcS S n.toNat S.length)) (endsG L).length)
  have HFA := Lib.hid (fillL_all false (ordF (endsG L) (plcS S n.toNat S.length)) (endsG L).length)
  have HF0 : Hid (fillL false (ordF (endsG L) (plcS S n.toNat S.length)) (endsG L).length 0 = List.replicate (endsG L).length false) := Lib.hid rfl
  have HFS : Hid (∀ k, fillL false (ordF (endsG L) (plcS S n.toNat S.length)) (endsG L).length (k + 1) = (fillL false (ordF (endsG L) (plcS S n.toNat S.length)) (endsG L).length k).set k (decide (iAt (plcS S n.toNat S.length) (pAt (endsG L) k).1.toNat ≤ iAt (plcS S n.toNat S.length) (pAt (endsG L) k).2.toNat))) := Lib.hid fun _ => rfl
  unfold GivesBE
  unfold GivesPE GivesN gv at *
  generalize okL (ordE n L S) (ordR n L S) = X at *
  generalize fillL false (ordF (endsG L) (plcS S n.toNat S.length)) (endsG L).length = FL at *
  generalize ordR n L S = RR at *
  generalize plcS S n.toNat = PZ at *
  generalize ordE n L S = K at *
  generalize chkG n L = k at *
  generalize firstE (nErr n S) S.length = k2 at *
  generalize endsG L = P at *
  obtain ⟨W, hW⟩ : ∃ W, W = w.alloc (Obj.cells #[.int .i64 n, .slice a L.length cap] 24) := ⟨_, rfl⟩
  have hB0 : Below w.heap.size w W := by rw [hW]; exact (Below.refl _ w).alloc (Nat.le_refl _) _
  have hG : Blk W w.heap.size 24 #[.int .i64 n, .slice a L.length cap] := by rw [hW]; exact Blk.new _ _ _
  have hWs : W.heap.size = w.heap.size + 1 := by rw [hW]; simp
  have HW := Lib.hid hW
  have HWS := Lib.hid hWs
  have HB0 := Lib.hid hB0
  have HE := Lib.hid (h.keep hB0)
  have HF : Hid (∀ u, Below W.heap.size W u → u.cell? ⟨w.heap.size, 0, none⟩ = some (.int .i64 n) ∧ u.cell? ⟨w.heap.size, 1, none⟩ = some (.slice a L.length cap)) := Lib.hid fun u hu => ⟨(hG.below hu hG.lt).cell 0, (hG.below hu hG.lt).cell 1⟩
  obtain ⟨g0, g1⟩ := HF.out W (Below.refl _ _)
  have HSS := Lib.hid (hs.keep hB0)
  clear hs hB0 hG hW hWs h
  go_enter Try.func34, Try.ntmps34
  go_wp2_with fail
  rw [← HW.out]
  refine (HEN.out _ HE.out).mono ?_
  rintro e w1 ⟨p, cp, rfl, hp, hb⟩
  by_cases hk : k ≠ 0
  · have q0 : (((k : Nat) : Int) != 0) = true := by rw [bne_iff_ne]; omega
    rw [if_neg hk]
    have HKE := Lib.hid (HE1.out hk)
    have HXA := Lib.hid (HX2.out (by rw [HKE.out]; exact hk))
    have HEND := Lib.hid (HB0.out.trans (hb.mono HB0.out.size))
    clear g0 g1 hb hp hk
    go_wp2
    go_ret2
    first | exact ⟨none, 0, by rw [HXA.out, HKE.out]; rfl, by rw [HXA.out]; exact RowAt.nil _ _ _ _, HEND.out⟩ | exact ⟨none, ⟨0, by rw [HXA.out, HKE.out]; rfl⟩, by rw [HXA.out]; exact RowAt.nil _ _ _ _, HEND.out⟩
  · have hk0 : k = 0 := by omega
    rw [if_pos hk0] at hp ⊢
    have HDI2 := Lib.hid (HDI.out hk0)
    have HE22 := Lib.hid (HE2.out hk0)
    have HE33 := Lib.hid (HE3.out hk0)
    have HRZ2 := Lib.hid (HRZ.out hk0)
    obtain ⟨hn1, hn2⟩ := HN1.out hk0
    obtain ⟨hpl, hpr⟩ := HRN.out hk0
    have HPL := Lib.hid hpl
    have HPR := Lib.hid hpr
    have HP1 := Lib.hid hp
    subst hk0
    clear g0 g1 hk hpr hp
    obtain ⟨g0, g1⟩ := HF.out w1 hb
    by_cases h8 : (S.length : Int) ≠ n
    · have d8 : ((S.length : Int) != n) = true := by rw [bne_iff_ne]; exact h8
      have HBN := Lib.hid (HB0.out.trans (hb.mono HB0.out.size))
      clear hn1 hn2
      have HKE := Lib.hid (HE22.out h8)
      have HXA := Lib.hid (HX2.out (by rw [HKE.out]; decide))
      have HEND := Lib.hid (HBN.out)
      clear hb h8
      go_wp2
      go_ret2
      first | exact ⟨none, 0, by rw [HXA.out, HKE.out]; rfl, by rw [HXA.out]; exact RowAt.nil _ _ _ _, HEND.out⟩ | exact ⟨none, ⟨0, by rw [HXA.out, HKE.out]; rfl⟩, by rw [HXA.out]; exact RowAt.nil _ _ _ _, HEND.out⟩
    · have h88 : (S.length : Int) = n := by omega
      have d8 : ((S.length : Int) != n) = false := by rw [bne_eq_false_iff_eq]; exact h88
      have HKE0 := Lib.hid (HE33.out h88)
      obtain ⟨N, hN⟩ : ∃ N, n.toNat = N := ⟨_, rfl⟩
      rw [hN] at hn1 hn2 HZ0 HZL
      have HNN := Lib.hid hn1
      have HSN := Lib.hid h88
      clear h8 h88 hN hn1
      go_wp2_with fail
      refine (HDI2.out _ (HSS.out.keep hb)).mono ?_
      rintro e w2 ⟨rfl, hb2⟩
      have hk2 : Below W.heap.size W w2 := hb.trans (hb2.mono hb.size)
      have HP2 := Lib.hid (HP1.out.keep hb2)
      clear hb hb2 g0 g1
      obtain ⟨g0, g1⟩ := HF.out w2 hk2
      by_cases hq : k2 ≠ 0
      · have q0 : (((k2 : Nat) : Int) != 0) = true := by rw [bne_iff_ne]; omega
        have HKE := Lib.hid (HKE0.out)
        have HXA := Lib.hid (HX2.out (by rw [HKE.out]; exact hq))
        have HEND := Lib.hid (HB0.out.trans (hk2.mono HB0.out.size))
        clear hk2 hq g0 g1
        go_wp2
        go_ret2
        first | exact ⟨none, 0, by rw [HXA.out, HKE.out]; rfl, by rw [HXA.out]; exact RowAt.nil _ _ _ _, HEND.out⟩ | exact ⟨none, ⟨0, by rw [HXA.out, HKE.out]; rfl⟩, by rw [HXA.out]; exact RowAt.nil _ _ _ _, HEND.out⟩
      · have hq0 : k2 = 0 := by omega
        have HKE : Hid (K = 0) := Lib.hid (by rw [HKE0.out]; exact hq0)
        have HXA := Lib.hid (HX1.out HKE.out)
        have HRG := Lib.hid (HRZ2.out HKE.out)
        have HS2 := Lib.hid (HSS.out.keep hk2)
        have HBE := Lib.hid (HB0.out.trans (hk2.mono HB0.out.size))
        subst hq0
        rw [HNN.out] at g0 HRG HPR
        clear hk2 hq
        have hmk : (Instr.makeSlice 28 (.int .i64 (N : Int)) (.int .i64 (N : Int))).run Try.prog w2 = .ok (.slice (some ⟨w2.heap.size, 0, none⟩) N N) (w2.alloc (.cells (flat encI (List.replicate N 0)).toArray 3)) := make_ints N (by omega) _
        obtain ⟨V0, hV0⟩ : ∃ v, v = w2.alloc (.cells (flat encI (List.replicate N 0)).toArray 3) := ⟨_, rfl⟩
        obtain ⟨gp, hgp⟩ : ∃ v, v = w2.heap.size := ⟨_, rfl⟩
        have hrbgp : RowB encI 3 V0 gp (PZ 0) := by rw [hV0, hgp, HZ0.out]; exact RowB.new _ _ _ _
        have hblgp : Below w2.heap.size w2 V0 := by rw [hV0]; exact (Below.refl _ _).alloc (Nat.le_refl _) _
        rw [← hV0, ← hgp] at hmk
        have HRBgp := Lib.hid hrbgp
        have HBLgp := Lib.hid hblgp
        have HGEgp := Lib.hid hgp
        clear hrbgp hblgp hV0 hgp
        go_wp2
        clear hmk g0 g1
        go_loopw [40] (fun x wr => ∃ i : Nat, i ≤ S.length ∧ x = .int .i64 i ∧ RowB encI 3 wr gp (PZ i) ∧ Below w2.heap.size w2 wr) (fun x _ => S.length - (intOf x).toNat)
        case atStart => exact ⟨0, by omega, rfl, HRBgp.out, HBLgp.out⟩
        case round =>
          obtain ⟨i, hi, rfl, hrb, hb⟩ := hrel
          by_cases hlt : i < S.length
          · have i1 : (i : Int) < (S.length : Int) := by omega
            have i2 : (0 : Int) ≤ (i : Int) := by omega
            obtain ⟨b1, o1, hb1, q1, x1⟩ := (HS2.out.keep hb).one i hlt
            subst hb1
            obtain ⟨hr1, hr2⟩ := HRG.out i hlt
            have HVn := Lib.hid (HZS.out i)
            obtain ⟨v, hv⟩ : ∃ v : Nat, iAt S i = v := ⟨(iAt S i).toNat, by omega⟩
            rw [hv] at x1 hr2 HVn
            rw [show ((v : Nat) : Int).toNat = v by omega] at HVn
            have c1 : (v : Int) < (N : Int) := by omega
            have c2 : (0 : Int) ≤ (v : Int) := by omega
            obtain ⟨Q, hQ⟩ : ∃ Q, PZ i = Q := ⟨_, rfl⟩
            have HQL : Hid (v < Q.length) := Lib.hid (by rw [← hQ, HZL.out]; omega)
            rw [hQ] at hrb HVn
            have y0 := hrb.cell v HQL.out
            have y1 : wr.frozen? ⟨gp, v, none⟩ = false := Blk.frozen hrb v
            have HRN2 : Hid (RowB encI 3 (wr.setCell ⟨gp, v, none⟩ (.int .i64 i)) gp (PZ (i + 1))) := Lib.hid (by rw [HVn.out]; exact hrb.set v _)
            have HBN := Lib.hid (hb.setCell (p := ⟨gp, v, none⟩) (by rw [HGEgp.out]; exact Nat.le_refl _) (.int .i64 (i : Int)))
            clear hrb hb hQ hv hr1 hr2
            go_wp2
            go_roundw
            case rel => exact ⟨i + 1, by omega, by go_num, HRN2.out, HBN.out⟩
            case measure => simp [intOf]; omega
          · obtain rfl : i = S.length := by omega
            have i1 : ¬ (S.length : Int) < (S.length : Int) := by omega
            have HRZ9 := Lib.hid hrb
            have HBZ := Lib.hid hb
            have HZLN := Lib.hid (HZL.out S.length)
            generalize PZ S.length = ZZ at *
            have hmk : (Instr.makeSlice 25 (.int .i64 (P.length : Int)) (.int .i64 (P.length : Int))).run Try.prog wr = .ok (.slice (some ⟨wr.heap.size, 0, none⟩) P.length P.length) (wr.alloc (.cells (flat encB (List.replicate P.length false)).toArray 4)) := make_bits P.length (by omega) _
            obtain ⟨V1, hV1⟩ : ∃ v, v = wr.alloc (.cells (flat encB (List.replicate P.length false)).toArray 4) := ⟨_, rfl⟩
            obtain ⟨go, hgo⟩ : ∃ v, v = wr.heap.size := ⟨_, rfl⟩
            have hrbgo : RowB encB 4 V1 go (FL 0) := by rw [hV1, hgo, HF0.out]; exact RowB.new _ _ _ _
            have hblgo : Below wr.heap.size wr V1 := by rw [hV1]; exact (Below.refl _ _).alloc (Nat.le_refl _) _
            rw [← hV1, ← hgo] at hmk
            have HRBgo := Lib.hid hrbgo
            have HBLgo := Lib.hid hblgo
            have HGEgo := Lib.hid hgo
            clear hrbgo hblgo hV1 hgo
            have HRZ10 := Lib.hid (HRZ9.out.keep HBLgo.out)
            have HGW : Hid (w2.heap.size ≤ go) := Lib.hid (by rw [HGEgo.out]; exact HBZ.out.size)
            have HBV1 := Lib.hid (HBZ.out.trans (HBLgo.out.mono HBZ.out.size))
            have HPGO : Hid (gp < go) := Lib.hid (by rw [HGEgo.out]; exact HRZ9.out.lt)
            clear hrb hb
            go_wp2
            clear hmk
            go_loopw [55] (fun x wr => ∃ i : Nat, i ≤ P.length ∧ x = .int .i64 i ∧ RowB encB 4 wr go (FL i) ∧ RowB encI 3 wr gp ZZ ∧ Below w2.heap.size w2 wr) (fun x _ => P.length - (intOf x).toNat)
            case atStart => exact ⟨0, by omega, rfl, HRBgo.out, HRZ10.out, HBV1.out⟩
            case round =>
              obtain ⟨i, hi, rfl, hrb, hrz, hb⟩ := hrel
              by_cases hlt : i < P.length
              · have i1 : (i : Int) < (P.length : Int) := by omega
                have i2 : (0 : Int) ≤ (i : Int) := by omega
                obtain ⟨b1, o1, hb1, q1, x1, x2⟩ := (HP2.out.keep hb).two i hlt
                subst hb1
                obtain ⟨⟨hr1, hr2⟩, hr3, hr4⟩ := HPR.out i hlt
                have HFn := Lib.hid (HFS.out i)
                obtain ⟨va, hva⟩ : ∃ v : Nat, (pAt P i).1 = v := ⟨(pAt P i).1.toNat, by omega⟩
                obtain ⟨vb, hvb⟩ : ∃ v : Nat, (pAt P i).2 = v := ⟨(pAt P i).2.toNat, by omega⟩
                rw [hva] at x1 hr2 HFn
                rw [hvb] at x2 hr4 HFn
                rw [show ((va : Nat) : Int).toNat = va by omega, show ((vb : Nat) : Int).toNat = vb by omega] at HFn
                have c1 : (va : Int) < (N : Int) := by omega
                have c2 : (0 : Int) ≤ (va : Int) := by omega
                have c3 : (vb : Int) < (N : Int) := by omega
                have c4 : (0 : Int) ≤ (vb : Int) := by omega
                obtain ⟨Q, hQ⟩ : ∃ Q, FL i = Q := ⟨_, rfl⟩
                have HQL : Hid (i < Q.length) := Lib.hid (by rw [← hQ, HFL.out]; omega)
                rw [hQ] at hrb HFn
                obtain ⟨za, hza⟩ : ∃ z, iAt ZZ va = z := ⟨_, rfl⟩
                obtain ⟨zb, hzb⟩ : ∃ z, iAt ZZ vb = z := ⟨_, rfl⟩
                rw [hza, hzb] at HFn
                obtain ⟨B, hB⟩ : ∃ B, B = wr.heap.size := ⟨_, rfl⟩
                obtain ⟨V, hV⟩ : ∃ V, V = wr.alloc (Obj.cells #[.int .i64 va, .int .i64 vb] 85) := ⟨_, rfl⟩
                have hbv : Below wr.heap.size wr V := by rw [hV]; exact (Below.refl _ _).alloc (Nat.le_refl _) _
                have hrbv : RowB encB 4 V go Q := hrb.keep hbv
                have hrzv : RowB encI 3 V gp ZZ := hrz.keep hbv
                have hbox : Blk V B 85 #[.int .i64 va, .int .i64 vb] := by rw [hV, hB]; exact Blk.new _ _ _
                have HSS3 : Hid (∀ u, Below V.heap.size V u → u.cell? ⟨B, 0, none⟩ = some (.int .i64 va) ∧ u.cell? ⟨B, 1, none⟩ = some (.int .i64 vb) ∧ u.cell? ⟨gp, va, none⟩ = some (.int .i64 za) ∧ u.cell? ⟨gp, vb, none⟩ = some (.int .i64 zb)) := Lib.hid fun u hu => ⟨(hbox.below hu hbox.lt).cell 0, (hbox.below hu hbox.lt).cell 1, by rw [← hza]; exact (hrzv.keep hu).cell va (by rw [HZLN.out]; omega), by rw [← hzb]; exact (hrzv.keep hu).cell vb (by rw [HZLN.out]; omega)⟩
                have z1 : V.cell? ⟨go, i, none⟩ = some (.bool (bAt Q i)) := hrbv.bcell i HQL.out
                have z2 : V.frozen? ⟨go, i, none⟩ = false := Blk.frozen hrbv i
                have HRN3 : Hid (RowB encB 4 (V.setCell ⟨go, i, none⟩ (.bool (decide (za ≤ zb)))).drew go (FL (i + 1))) := Lib.hid (by rw [HFn.out]; exact RowB.keep (hrbv.bset i _) ((Below.refl _ _).drew))
                have HRZ3 : Hid (RowB encI 3 (V.setCell ⟨go, i, none⟩ (.bool (decide (za ≤ zb)))).drew gp ZZ) := Lib.hid (RowB.keep (hrzv.far (p := ⟨go, i, none⟩) (by have := HPGO.out; show gp ≠ go; omega) _) ((Below.refl _ _).drew))
                have HBN3 : Hid (Below w2.heap.size w2 (V.setCell ⟨go, i, none⟩ (.bool (decide (za ≤ zb)))).drew) := Lib.hid (((hb.trans (hbv.mono hb.size)).setCell (p := ⟨go, i, none⟩) HGW.out _).drew)
                have HVV := Lib.hid hV
                have HBB := Lib.hid hB
                have hk2 : Below V.heap.size V V.drew := (Below.refl _ _).drew
                clear hbox hrbv hrzv hbv hV hB hrb hrz hb hQ hva hvb hza hzb hr1 hr2 hr3 hr4
                go_wp2
                rw [← HVV.out, ← HBB.out]
                refine wp_region_late (S := fun u => Below V.heap.size V u) (X := [14]) (by kernel_rfl) ?_
                refine wpAnyL_pureD (i := 0) 60 (.slice (some ⟨go, 0, none⟩) P.length P.length) rfl rfl (by kernel_rfl) (by kernel_rfl) (by kernel_rfl) (fun _ _ _ h => h) (Or.inl ⟨by rfl, fun u _ => ?_⟩) ?_
                · go_simp
                try simp only [Act.put, List.setIfInBounds_toArray, List.set_cons_zero, List.set_cons_succ]
                refine wpAnyL_pureD (i := 1) 61 (.int .i64 (i : Int)) rfl rfl (by kernel_rfl) (by kernel_rfl) (by kernel_rfl) (fun _ _ _ h => h) (Or.inl ⟨by rfl, fun u _ => ?_⟩) ?_
                · go_simp
                try simp only [Act.put, List.setIfInBounds_toArray, List.set_cons_zero, List.set_cons_succ]
                refine wpAnyL_pureD (i := 2) 62 (.slice (some ⟨gp, 0, none⟩) N N) rfl rfl (by kernel_rfl) (by kernel_rfl) (by kernel_rfl) (fun _ _ _ h => h) (Or.inl ⟨by rfl, fun u _ => ?_⟩) ?_
                · go_simp
                try simp only [Act.put, List.setIfInBounds_toArray, List.set_cons_zero, List.set_cons_succ]
                refine wpAnyL_pureD (i := 3) 63 (.pointer (some ⟨B, 0, none⟩)) rfl rfl (by kernel_rfl) (by kernel_rfl) (by kernel_rfl) (fun _ _ _ h => h) (Or.inl ⟨by rfl, fun u _ => ?_⟩) ?_
                · go_simp
                try simp only [Act.put, List.setIfInBounds_toArray, List.set_cons_zero, List.set_cons_succ]
                refine wpAnyL_takeD (i := 4) 64 (.int .i64 (va : Int)) rfl rfl (by kernel_rfl) (by kernel_rfl) (by kernel_rfl) (by kernel_rfl) (by kernel_rfl) (fun _ _ _ h => h) hk2 (Or.inl ⟨by rfl, fun u hu => ?_⟩) ?_
                · obtain ⟨t0, t1, t2, t3⟩ := HSS3.out u hu
                  go_simp
                try simp only [Act.put, List.setIfInBounds_toArray, List.set_cons_zero, List.set_cons_succ]
                refine wpAnyL_pureD (i := 5) 65 (.pointer (some ⟨gp, va, none⟩)) rfl rfl (by kernel_rfl) (by kernel_rfl) (by kernel_rfl) (fun _ _ _ h => h) (Or.inl ⟨by rfl, fun u _ => ?_⟩) ?_
                · go_simp
                try simp only [Act.put, List.setIfInBounds_toArray, List.set_cons_zero, List.set_cons_succ]
                refine wpAnyL_takeD (i := 6) 66 (.int .i64 za) rfl rfl (by kernel_rfl) (by kernel_rfl) (by kernel_rfl) (by kernel_rfl) (by kernel_rfl) (fun _ _ _ h => h) hk2 (Or.inl ⟨by rfl, fun u hu => ?_⟩) ?_
                · obtain ⟨t0, t1, t2, t3⟩ := HSS3.out u hu
                  go_simp
                try simp only [Act.put, List.setIfInBounds_toArray, List.set_cons_zero, List.set_cons_succ]
                refine wpAnyL_pureD (i := 7) 67 (.slice (some ⟨gp, 0, none⟩) N N) rfl rfl (by kernel_rfl) (by kernel_rfl) (by kernel_rfl) (fun _ _ _ h => h) (Or.inl ⟨by rfl, fun u _ => ?_⟩) ?_
                · go_simp
                try simp only [Act.put, List.setIfInBounds_toArray, List.set_cons_zero, List.set_cons_succ]
                refine wpAnyL_pureD (i := 8) 68 (.pointer (some ⟨B, 1, none⟩)) rfl rfl (by kernel_rfl) (by kernel_rfl) (by kernel_rfl) (fun _ _ _ h => h) (Or.inl ⟨by rfl, fun u _ => ?_⟩) ?_
                · go_simp
                try simp only [Act.put, List.setIfInBounds_toArray, List.set_cons_zero, List.set_cons_succ]
                refine wpAnyL_takeD (i := 9) 69 (.int .i64 (vb : Int)) rfl rfl (by kernel_rfl) (by kernel_rfl) (by kernel_rfl) (by kernel_rfl) (by kernel_rfl) (fun _ _ _ h => h) hk2 (Or.inl ⟨by rfl, fun u hu => ?_⟩) ?_
                · obtain ⟨t0, t1, t2, t3⟩ := HSS3.out u hu
                  go_simp
                try simp only [Act.put, List.setIfInBounds_toArray, List.set_cons_zero, List.set_cons_succ]
                refine wpAnyL_pureD (i := 10) 70 (.pointer (some ⟨gp, vb, none⟩)) rfl rfl (by kernel_rfl) (by kernel_rfl) (by kernel_rfl) (fun _ _ _ h => h) (Or.inl ⟨by rfl, fun u _ => ?_⟩) ?_
                · go_simp
                try simp only [Act.put, List.setIfInBounds_toArray, List.set_cons_zero, List.set_cons_succ]
                refine wpAnyL_takeD (i := 11) 71 (.int .i64 zb) rfl rfl (by kernel_rfl) (by kernel_rfl) (by kernel_rfl) (by kernel_rfl) (by kernel_rfl) (fun _ _ _ h => h) hk2 (Or.inl ⟨by rfl, fun u hu => ?_⟩) ?_
                · obtain ⟨t0, t1, t2, t3⟩ := HSS3.out u hu
                  go_simp
                try simp only [Act.put, List.setIfInBounds_toArray, List.set_cons_zero, List.set_cons_succ]
                refine wpAnyL_pureD (i := 12) 72 (.bool (decide (za ≤ zb))) rfl rfl (by kernel_rfl) (by kernel_rfl) (by kernel_rfl) (fun _ _ _ h => h) (Or.inl ⟨by rfl, fun u _ => ?_⟩) ?_
                · go_simp
                try simp only [Act.put, List.setIfInBounds_toArray, List.set_cons_zero, List.set_cons_succ]
                refine wpAnyL_pureD (i := 13) 73 (.pointer (some ⟨go, i, none⟩)) rfl rfl (by kernel_rfl) (by kernel_rfl) (by kernel_rfl) (fun _ _ _ h => h) (Or.inl ⟨by rfl, fun u _ => ?_⟩) ?_
                · go_simp
                try simp only [Act.put, List.setIfInBounds_toArray, List.set_cons_zero, List.set_cons_succ]
                refine wpAnyL_one (i := 14) (by kernel_rfl) rfl (fun K hK => ?_)
                go_simp
                refine hK.out _ _ (fun h => absurd (by decide) h) ?_
                clear hK K
                refine wpAnyL_done (by kernel_rfl) ?_ _
                go_wp2
                go_roundw
                case rel => exact ⟨i + 1, by omega, by go_num, HRN3.out, HRZ3.out, HBN3.out⟩
                case measure => simp [intOf]; omega
              · obtain rfl : i = P.length := by omega
                have i1 : ¬ (P.length : Int) < (P.length : Int) := by omega
                have HEND := Lib.hid (HBE.out.trans (hb.mono HBE.out.size))
                have HRE : Hid (BsAt wr (some ⟨go, 0, none⟩) RR) := Lib.hid (by rw [HOF.out, ← HFA.out]; exact hrb.row encB_len)
                have HRL : Hid (RR.length = P.length) := Lib.hid (by rw [HOF.out, ← HFA.out, HFL.out])
                clear hb hrb hrz
                go_wp2
                go_ret2
                first | exact ⟨some ⟨go, 0, none⟩, P.length, by rw [HXA.out, HKE.out, HRL.out]; rfl, by rw [HXA.out]; exact HRE.out, HEND.out⟩ | exact ⟨some ⟨go, 0, none⟩, ⟨P.length, by rw [HXA.out, HKE.out, HRL.out]; rfl⟩, by rw [HXA.out]; exact HRE.out, HEND.out⟩
end Go.Proofs.Ytlnaahkheankoaa

namespace Go.Proofs.Ytlnaahkheankoaa
open Go.RowKit Go.Shelf Go.Proofs.Gr
attribute [local go_sem] Oper.semAt_some

theorem own_awy {w : World} {base : Nat} {e : TypeId} {size n m c : Nat} {a : Option Addr} {xs : List Value} (h : w.ownsRow base e size (.slice a n c) m xs) (p : Addr) (hp : a = some p) : base ≤ p.block := by
  rcases h.2 with ⟨h0, _⟩ | ⟨g, cap, cur, hv, hb, _⟩
  · injection h0 with h0 _ _; rw [hp] at h0; cases h0
  · injection hv with h0 _ _; rw [hp] at h0; injection h0 with h0; rw [h0]; exact hb
/-- Hands back pairs in memory of its own. -/
def GivesPW (w : World) (l : List (Int × Int)) (e : Ending) (w' : World) : Prop := ∃ a c, e = .returned (.slice a l.length c) ∧ PsAt w' a l ∧ (∀ p, a = some p → w.heap.size ≤ p.block) ∧ Below w.heap.size w w'
/-- A row lies as it lay where the blocks but one are the same. -/
theorem RowAt.same {α : Type} {k : Nat} {enc : α → List Value} {w w' : World} {a : Option Addr} {L : List α} (h : RowAt k enc w a L) {g : Nat} (hg : L ≠ [] → ∀ p, a = some p → p.block ≠ g) (hs : ∀ q, q ≠ g → q < w.heap.size → w'.heap[q]? = w.heap[q]?) (hz : w.heap.size ≤ w'.heap.size) : RowAt k enc w' a L := by
  intro j hj
  obtain ⟨b, off, rfl, hlt, h1⟩ := h j hj
  refine ⟨b, off, rfl, by omega, fun i hi => ?_⟩
  rw [← h1 i hi]
  unfold World.cell?
  rw [hs b (hg (fun e => by rw [e] at hj; simp at hj) _ rfl) hlt]
theorem RowAt.low {α : Type} {k : Nat} {enc : α → List Value} {w : World} {a : Option Addr} {L : List α} (h : RowAt k enc w a L) (h0 : L ≠ []) (p : Addr) (hp : a = some p) : p.block < w.heap.size := by
  obtain ⟨b, off, e, hlt, -⟩ := h 0 (List.length_pos_iff.2 h0)
  rw [hp] at e
  injection e with e
  rw [e]; exact hlt
theorem rendsW_any (n : Int) (a : Option Addr) (cap : Nat) (L : List E) (hL : L.length ≤ 100000) (hR : Right n L) (w : World) (h : EsAt w a L) :
    Calls Try.prog 51 #[gv n a L.length cap] w (GivesPW w (endsG L)) := by
  obtain ⟨i0, hi0, hz0, hz1, hz2⟩ := info_parts infoP
  have HST := Lib.hid (fun i h => endsG_take L i h)
  have HALL : Hid (endsG L = endsG (L.take L.length)) := Lib.hid (by rw [List.take_length])
  have HLE := Lib.hid (fun i => ends_le hR i)
  have HRN := Lib.hid hR.rng
  unfold GivesPW
  unfold gv at *
  rw [HALL.out]
  obtain ⟨W, hW⟩ : ∃ W, W = w.alloc (Obj.cells #[.int .i64 n, .slice a L.length cap] 24) := ⟨_, rfl⟩
  have hB0 : Below w.heap.size w W := by rw [hW]; exact (Below.refl _ w).alloc (Nat.le_refl _) _
  have hG : Blk W w.heap.size 24 #[.int .i64 n, .slice a L.length cap] := by rw [hW]; exact Blk.new _ _ _
  have hWs : W.heap.size = w.heap.size + 1 := by rw [hW]; simp
  have HWS := Lib.hid hWs
  have HW := Lib.hid hW
  have HB0 := Lib.hid hB0
  have HG := Lib.hid hG
  have HE := Lib.hid (h.keep hB0)
  have g0 : W.cell? ⟨w.heap.size, 0, none⟩ = some (.int .i64 n) := hG.cell 0
  have g1 : W.cell? ⟨w.heap.size, 1, none⟩ = some (.slice a L.length cap) := hG.cell 1
  clear hB0 hG hW hWs
  clear h hR
  go_enter Try.func51, Try.ntmps51
  go_wp2
  rw [← HW.out]
  go_loopw [3, 4] (fun s x wr => ∃ i : Nat, i ≤ L.length ∧ x = .int .i64 i ∧ wr.ownsRow W.heap.size 85 2 s (endsG (L.take i)).length (flat encP (endsG (L.take i))) ∧ Below W.heap.size W wr) (fun _ x _ => L.length - (intOf x).toNat)
  case atStart => exact ⟨0, by omega, rfl, World.ownsRow_nil _ _ _ _, Below.refl _ _⟩
  case round =>
    obtain ⟨i, hi, rfl, hown, hb⟩ := hrel
    have g0' : wr.cell? ⟨w.heap.size, 0, none⟩ = some (.int .i64 n) := (HG.out.below hb HG.out.lt).cell 0
    have g1' : wr.cell? ⟨w.heap.size, 1, none⟩ = some (.slice a L.length cap) := (HG.out.below hb HG.out.lt).cell 1
    have HBr := Lib.hid hb
    by_cases hlt : i < L.length
    · have hst := HST.out i hlt
      have hle := HLE.out (i + 1)
      have hrn := HRN.out (eAt L i) (by rw [← eAt_get L i hlt]; exact List.getElem_mem hlt)
      obtain ⟨b1, o1, ha, q1, x1, x2, x3⟩ := HE.out.three i hlt
      subst ha
      generalize eAt L i = T at *
      obtain ⟨ta, tb, tm⟩ := T
      simp only at x1 x2 x3 hst hrn
      obtain ⟨M, hM⟩ : ∃ M : Nat, tm = M := ⟨tm.toNat, by omega⟩
      subst hM
      rw [Int.toNat_natCast] at hst
      have hm50 : M ≤ 50 := by omega
      have hlen : (endsG (L.take i)).length + M ≤ 50 * L.length := by
        have := congrArg List.length hst
        rw [List.length_append, List.length_replicate] at this
        omega
      generalize endsG (L.take i) = P at *
      have HST2 := Lib.hid hst
      have HLEN := Lib.hid hlen
      have i1 : (i : Int) < ((L.length : Nat) : Int) := by omega
      have HS : Hid (∀ x, Below W.heap.size W x → (Below W.heap.size W x ∧ x.cell? ⟨w.heap.size, 1, none⟩ = some (.slice (some ⟨b1, o1, none⟩) L.length cap) ∧ x.cell? ⟨b1, o1 + i * 3, none⟩ = some (.int .i64 ta) ∧ x.cell? ⟨b1, o1 + i * 3 + 1, none⟩ = some (.int .i64 tb) ∧ x.cell? ⟨b1, o1 + i * 3 + 2, none⟩ = some (.int .i64 (M : Nat)))) :=
        fun x hx => ⟨hx, (HG.out.below hx HG.out.lt).cell 1, (hx.cell (p := ⟨b1, o1 + i * 3, none⟩) q1).trans x1, (hx.cell (p := ⟨b1, o1 + i * 3 + 1, none⟩) q1).trans x2, (hx.cell (p := ⟨b1, o1 + i * 3 + 2, none⟩) q1).trans x3⟩
      have HOW := Lib.hid hown
      clear hst hle hrn hb hown x1 x2 x3 hlen
      go_wp2
      go_loopw [3, 5] (fun s x wr => ∃ k : Nat, k ≤ M ∧ x = .int .i64 k ∧ wr.ownsRow W.heap.size 85 2 s (P ++ List.replicate k (ta, tb)).length (flat encP (P ++ List.replicate k (ta, tb))) ∧ Below W.heap.size W wr) (fun _ x _ => M - (intOf x).toNat)
      case atStart => exact ⟨0, by omega, rfl, by simpa using HOW.out, HBr.out⟩
      case round =>
        obtain ⟨k, hk, rfl, hown, hB⟩ := hrel
        obtain ⟨_, y0, y1, y2, y3⟩ := HS.out _ hB
        have HOW2 := Lib.hid hown
        have hlk : (P ++ List.replicate k (ta, tb)).length ≤ 50 * L.length := by
          have := HLEN.out
          rw [List.length_append, List.length_replicate]; omega
        have HRS : Hid (∀ k, P ++ List.replicate (k + 1) (ta, tb) = (P ++ List.replicate k (ta, tb)) ++ [(ta, tb)]) := Lib.hid fun k => by rw [List.replicate_succ', List.append_assoc]
        by_cases hkm : k < M
        · have k1 : (k : Int) < ((M : Nat) : Int) := by omega
          have HN := HRS.out k
          generalize P ++ List.replicate k (ta, tb) = Q at *
          have HQN := Lib.hid HN
          clear hown HN
          go_wp2
          have hk2 : Below wr.heap.size wr wr.drew := (Below.refl _ _).drew
          obtain ⟨_, f0, f1, f2, f3⟩ := HS.out _ (hB.trans (hk2.mono hB.size))
          go_region_held3 (fun x => Below W.heap.size W x ∧ x.cell? ⟨w.heap.size, 1, none⟩ = some (.slice (some ⟨b1, o1, none⟩) L.length cap) ∧ x.cell? ⟨b1, o1 + i * 3, none⟩ = some (.int .i64 ta) ∧ x.cell? ⟨b1, o1 + i * 3 + 1, none⟩ = some (.int .i64 tb) ∧ x.cell? ⟨b1, o1 + i * 3 + 2, none⟩ = some (.int .i64 (M : Nat)))
            (first | exact HS.out _ (by assumption) | exact HS.out _ (hB.trans (Below.mono (by assumption) hB.size)) | exact HS.out _ (hB.trans ((hk2.alloc hk2.size _).mono hB.size)))
            (first | (rw [if_pos (by rfl)]; refine wp_append_own _ _ _ 83 rfl W.heap.size 85 i0 (.agg #[.int .i64 0, .int .i64 0]) 2 16 Try.underlying83 hi0 hz0 hz1 hz2 rfl (by decide) _ _ _ rfl ((own_keep HOW2.out hk2).alloc _) ⟨_, 0, none⟩ 1 1 [.int .i64 ta, .int .i64 tb] rfl rfl (lit_row _ _ _) (by simp [Value.oneCell']) (by unfold maxLen; omega) (by omega) (by show W.heap.size ≤ (wr.alloc _).heap.size; rw [World.size_alloc]; have := hk2.size; have := hB.size; omega) ?_; intro v1 w3 hown1 hgrow1 _; have hk4 : Below W.heap.size W w3 := below_push (w := W) (hB.trans (hk2.mono hB.size)) (fun k hk => ((own_keep HOW2.out hk2).lt k hk).1) hgrow1))
          rename_i hHeldz
          clear hHeldz
          have HOW3 : Hid (w3.ownsRow W.heap.size 85 2 v1 (Q ++ [(ta, tb)]).length (flat encP (Q ++ [(ta, tb)]))) := by
            rw [List.length_append, flatP_snoc]
            exact hown1
          have HB4 := Lib.hid hk4
          clear hown1 hgrow1 hk4 hk2 f0 f1 f2 f3 y0 y1 y2 y3 hB
          go_wp2
          go_roundw
          case rel => exact ⟨k + 1, by omega, by go_num, by rw [HQN.out]; exact HOW3.out, HB4.out⟩
          case measure => simp [intOf]; omega
        · obtain rfl : k = M := by omega
          have HB5 := Lib.hid hB
          rw [← HST2.out] at HOW2
          clear hown hB
          go_wp2
          go_roundw
          case rel => exact ⟨i + 1, by omega, by go_num, HOW2.out, HB5.out⟩
          case measure => simp [intOf]; omega
    · obtain rfl : i = L.length := by omega
      obtain ⟨a', c', e1, e2⟩ := RowAt.of_own encP_len hown
      have E1 := Lib.hid e1
      have E2 := Lib.hid e2
      have E3 : Hid (∀ p, a' = some p → w.heap.size ≤ p.block) := Lib.hid (by rw [e1] at hown; intro p hp; have := own_awy hown p hp; have := HB0.out.size; omega)
      clear hb hown e1 e2
      go_wp2
      go_ret
      exact ⟨a', c', by rw [← E1.out]; rfl, E2.out, E3.out, HB0.out.trans (HBr.out.mono HB0.out.size)⟩
end Go.Proofs.Ytlnaahkheankoaa

namespace Go.Proofs.Ytlnaahkheankoaa
open Go.RowKit Go.Shelf Go.Proofs.Gr
attribute [local go_sem] Oper.semAt_some

/-- The end to which a single edge leads. -/
def hdV (a b : Int) (d : Bool) : Int := if d = true then b else a
theorem hdV_arc (P : List (Int × Int)) (O : List Bool) (j : Nat) : hdV (pAt P j).1 (pAt P j).2 (bAt O j) = (arcP P O j).2 := by
  unfold hdV arcP; split <;> rfl
theorem tlV_arc (P : List (Int × Int)) (O : List Bool) (j : Nat) : hdV (pAt P j).1 (pAt P j).2 (!bAt O j) = (arcP P O j).1 := by
  unfold hdV arcP
  cases bAt O j <;> rfl
set_option maxHeartbeats 12800000 in
set_option maxRecDepth 100000 in
theorem rcheckO_any (n : Int) (a : Option Addr) (cap : Nat) (L : List E) (hL : L.length ≤ 100000) (b : Option Addr) (c : Nat) (O : List Bool) (hO : O.length ≤ 100000000) (w : World) (h : EsAt w a L) (ho : BsAt w b O) :
    Calls Try.prog 21 #[gv n a L.length cap, .slice b O.length c] w (GivesN w (chkO n L O : Nat)) := by
  have HOL := Lib.hid hO
  have HC := Lib.hid (fun w h => rcheck_any n a cap L (by omega) w h)
  have HSZ : Hid (chkG n L = 0 → ∀ w, EsAt w a L → Calls Try.prog 26 #[gv n a L.length cap] w (GivesN w (sizeG L))) := Lib.hid fun hz w h => rsize_any n a cap L hL (right_of hz) w h
  have HK : Hid (chkO n L O = if chkG n L ≠ 0 then chkG n L else if (O.length : Int) = sizeG L then 0 else 8) := Lib.hid rfl
  unfold GivesN gv at *
  generalize chkO n L O = R at *
  generalize chkG n L = k at *
  generalize sizeG L = S at *
  obtain ⟨W, hW⟩ : ∃ W, W = w.alloc (Obj.cells #[.int .i64 n, .slice a L.length cap] 24) := ⟨_, rfl⟩
  have hB0 : Below w.heap.size w W := by rw [hW]; exact (Below.refl _ w).alloc (Nat.le_refl _) _
  have hG : Blk W w.heap.size 24 #[.int .i64 n, .slice a L.length cap] := by rw [hW]; exact Blk.new _ _ _
  have hWs : W.heap.size = w.heap.size + 1 := by rw [hW]; simp
  have HW := Lib.hid hW
  have HWS := Lib.hid hWs
  have HB0 := Lib.hid hB0
  have HE := Lib.hid (h.keep hB0)
  have HF : Hid (∀ u, Below W.heap.size W u → u.cell? ⟨w.heap.size, 0, none⟩ = some (.int .i64 n) ∧ u.cell? ⟨w.heap.size, 1, none⟩ = some (.slice a L.length cap)) := Lib.hid fun u hu => ⟨(hG.below hu hG.lt).cell 0, (hG.below hu hG.lt).cell 1⟩
  obtain ⟨g0, g1⟩ := HF.out W (Below.refl _ _)
  have HO := Lib.hid (ho.keep hB0)
  clear ho hB0 hG hW hWs h
  go_enter Try.func21, Try.ntmps21
  go_wp2_with fail
  rw [← HW.out]
  refine (HC.out _ HE.out).mono ?_
  rintro e w1 ⟨rfl, hb⟩
  by_cases hk : k ≠ 0
  · have q0 : (((k : Nat) : Int) != 0) = true := by rw [bne_iff_ne]; omega
    have HR : Hid (R = k) := Lib.hid (by rw [HK.out, if_pos hk])
    have HEND := Lib.hid (HB0.out.trans (hb.mono HB0.out.size))
    clear hk g0 g1 hb
    go_wp2
    go_ret
    exact ⟨by rw [HR.out]; rfl, HEND.out⟩
  · have hk0 : k = 0 := by omega
    have HSZ2 := Lib.hid (HSZ.out hk0)
    subst hk0
    clear g0 g1 hk
    obtain ⟨g0, g1⟩ := HF.out w1 hb
    have HE1 := Lib.hid (HE.out.keep hb)
    have HBE := Lib.hid (HB0.out.trans (hb.mono HB0.out.size))
    clear hb
    go_wp2_with fail
    refine (HSZ2.out _ HE1.out).mono ?_
    rintro e w2 ⟨rfl, hb2⟩
    have HEND := Lib.hid (HBE.out.trans (hb2.mono HBE.out.size))
    clear hb2 g0 g1
    by_cases hs : (O.length : Int) = S
    · have d2 : ((O.length : Int) != S) = false := by rw [bne_eq_false_iff_eq]; exact hs
      have HR : Hid (R = 0) := Lib.hid (by rw [HK.out, if_neg (by omega), if_pos hs])
      clear hs
      go_wp2
      go_ret
      exact ⟨by rw [HR.out]; rfl, HEND.out⟩
    · have d2 : ((O.length : Int) != S) = true := by rw [bne_iff_ne]; exact hs
      have HR : Hid (R = 8) := Lib.hid (by rw [HK.out, if_neg (by omega), if_neg hs])
      clear hs
      go_wp2
      go_ret
      exact ⟨by rw [HR.out]; rfl, HEND.out⟩
set_option maxHeartbeats 12800000 in
set_option maxRecDepth 100000 in
theorem rhead_any (p q : Int) (d : Bool) (w : World) : Calls Try.prog 92 #[.agg #[.int .i64 p, .int .i64 q], .bool d] w (GivesN w (hdV p q d)) := by
  have HEND : Hid (Below w.heap.size w (w.alloc (Obj.cells #[.int .i64 p, .int .i64 q] 85))) := Lib.hid ((Below.refl _ _).alloc (Nat.le_refl _) _)
  unfold GivesN hdV
  cases d
  · rw [if_neg (by simp)]
    go_enter Try.func92, Try.ntmps92
    go_wp2
    go_ret
    exact ⟨rfl, HEND.out⟩
  · rw [if_pos rfl]
    go_enter Try.func92, Try.ntmps92
    go_wp2
    go_ret
    exact ⟨rfl, HEND.out⟩
set_option maxHeartbeats 12800000 in
set_option maxRecDepth 100000 in
theorem rtail_any (p q : Int) (d : Bool) (w : World) : Calls Try.prog 104 #[.agg #[.int .i64 p, .int .i64 q], .bool d] w (GivesN w (hdV p q (!d))) := by
  have HB0 : Hid (Below w.heap.size w (w.alloc (Obj.cells #[.int .i64 p, .int .i64 q] 85))) := Lib.hid ((Below.refl _ _).alloc (Nat.le_refl _) _)
  have HH := Lib.hid (rhead_any p q (!d))
  unfold GivesN at *
  generalize hdV p q (!d) = z at *
  cases d
  all_goals
    go_enter Try.func104, Try.ntmps104
    go_wp2_with fail
    refine (HH.out _).mono ?_
    rintro e w1 ⟨rfl, hb⟩
    have HEND := Lib.hid (HB0.out.trans (hb.mono HB0.out.size))
    clear hb
    go_wp2
    go_ret
    exact ⟨rfl, HEND.out⟩
set_option maxHeartbeats 12800000 in
set_option maxRecDepth 100000 in
theorem rinto_any (n : Int) (a : Option Addr) (cap : Nat) (L : List E) (hL : L.length ≤ 100000) (b : Option Addr) (c : Nat) (O : List Bool) (hc : chkO n L O = 0)  (w : World) (h : EsAt w a L) (ho : BsAt w b O) :
    Calls Try.prog 59 #[gv n a L.length cap, .slice b O.length c] w (GivesIB w (inO n L O)) := by
  have hlen := chkO_len hc
  have hR := right_of (chkO_zero hc).1
  have h1 := chkG_n (chkO_zero hc).1
  obtain ⟨N, rfl⟩ : ∃ N : Nat, n = N := ⟨n.toNat, by omega⟩
  have hN : N ≤ 12 := by omega
  have HEN := Lib.hid (fun w h => rendsW_any N a cap L hL hR w h)
  have hpl : (endsG L).length ≤ 5000000 := by have := ends_all hR; omega
  have HHD := Lib.hid (fun p q d w => rhead_any p q d w)
  have HAR : Hid (∀ j, j < (endsG L).length → hdV (pAt (endsG L) j).1 (pAt (endsG L) j).2 (bAt O j) = (pAt (arcs (endsG L) O) j).2 ∧ 0 ≤ (pAt (arcs (endsG L) O) j).2 ∧ (pAt (arcs (endsG L) O) j).2 < (N : Int)) := Lib.hid fun j hj => by
    have := arcs_rng hR O j (by rw [arcs_len]; exact hj)
    exact ⟨by rw [hdV_arc, arcs_at _ _ _ hj], this.2.1, this.2.2⟩
  have HL0 := Lib.hid (inL_zero (arcs (endsG L) O) N)
  have HLS := Lib.hid (fun k v h1 h2 => inL_succ (arcs (endsG L) O) N k v h1 h2)
  have HLL := Lib.hid (inL_len (arcs (endsG L) O) N)
  have HLB : Hid (∀ k v : Nat, v < N → 0 ≤ iAt (inL (arcs (endsG L) O) N k) v ∧ iAt (inL (arcs (endsG L) O) N k) v ≤ k) := Lib.hid (fun k v hv => by
    rw [inL_at _ N k v hv]
    have := hdN_le (arcs (endsG L) O) (v : Int) k
    omega)
  have HOUT : Hid (inO (N : Int) L O = inL (arcs (endsG L) O) N (endsG L).length) := Lib.hid (by unfold inO; rw [arcs_len, show ((N : Nat) : Int).toNat = N by omega])
  have HLEN := Lib.hid hlen
  unfold GivesPW at HEN
  unfold GivesN at HHD
  unfold GivesIB gv at *
  generalize inO (N : Int) L O = RR at *
  generalize inL (arcs (endsG L) O) N = LD at *
  generalize arcs (endsG L) O = A at *
  generalize endsG L = P at *
  clear hc hR h1 hlen
  obtain ⟨W, hW⟩ : ∃ W, W = w.alloc (Obj.cells #[.int .i64 N, .slice a L.length cap] 24) := ⟨_, rfl⟩
  have hB0 : Below w.heap.size w W := by rw [hW]; exact (Below.refl _ w).alloc (Nat.le_refl _) _
  have hG : Blk W w.heap.size 24 #[.int .i64 N, .slice a L.length cap] := by rw [hW]; exact Blk.new _ _ _
  have hWs : W.heap.size = w.heap.size + 1 := by rw [hW]; simp
  have HW := Lib.hid hW
  have HWS := Lib.hid hWs
  have HB0 := Lib.hid hB0
  have HE := Lib.hid (h.keep hB0)
  have HF : Hid (∀ u, Below W.heap.size W u → u.cell? ⟨w.heap.size, 0, none⟩ = some (.int .i64 N) ∧ u.cell? ⟨w.heap.size, 1, none⟩ = some (.slice a L.length cap)) := Lib.hid fun u hu => ⟨(hG.below hu hG.lt).cell 0, (hG.below hu hG.lt).cell 1⟩
  obtain ⟨g0, g1⟩ := HF.out W (Below.refl _ _)
  have HO := Lib.hid (ho.keep hB0)
  clear ho hB0 hG hW hWs h
  have hmk : (Instr.makeSlice 28 (.int .i64 (N : Int)) (.int .i64 (N : Int))).run Try.prog W = .ok (.slice (some ⟨W.heap.size, 0, none⟩) N N) (W.alloc (.cells (flat encI (List.replicate N 0)).toArray 3)) := make_ints N (by omega) _
  obtain ⟨V0, hV0⟩ : ∃ v, v = W.alloc (.cells (flat encI (List.replicate N 0)).toArray 3) := ⟨_, rfl⟩
  obtain ⟨g, hg⟩ : ∃ v, v = W.heap.size := ⟨_, rfl⟩
  have hrbg : RowB encI 3 V0 g (LD 0) := by rw [hV0, hg, HL0.out]; exact RowB.new _ _ _ _
  have hblg : Below W.heap.size W V0 := by rw [hV0]; exact (Below.refl _ _).alloc (Nat.le_refl _) _
  rw [← hV0, ← hg] at hmk
  have HRBg := Lib.hid hrbg
  have HBLg := Lib.hid hblg
  have HGEg := Lib.hid hg
  clear hrbg hblg hV0 hg
  have HGB : Hid (w.heap.size ≤ g) := Lib.hid (by rw [HGEg.out]; exact HB0.out.size)
  go_enter Try.func59, Try.ntmps59
  go_wp2_with fail
  rw [← HW.out, hmk]
  clear g0 g1
  obtain ⟨g0, g1⟩ := HF.out V0 HBLg.out
  go_wp2_with fail
  clear hmk g0 g1
  refine (HEN.out _ (HE.out.keep HBLg.out)).mono ?_
  rintro e w1 ⟨p, cp, rfl, hp, hpw, hb1⟩
  have HP1 := Lib.hid hp
  have HR1 := Lib.hid (HRBg.out.keep hb1)
  have HBW : Hid (Below W.heap.size W w1) := Lib.hid (HBLg.out.trans (hb1.mono HBLg.out.size))
  have HB1 := Lib.hid (HB0.out.trans (HBW.out.mono HB0.out.size))
  have HO1 := Lib.hid (HO.out.keep HBW.out)
  have HPG : Hid (P ≠ [] → ∀ q, p = some q → q.block ≠ g) := Lib.hid fun _ q hq => by have h1 := hpw q hq; have h2 := HRBg.out.lt; omega
  have HOG : Hid (O ≠ [] → ∀ q, b = some q → q.block ≠ g) := Lib.hid fun h0 q hq => by have h1 := HO.out.low h0 q hq; have h2 := HGEg.out; omega
  clear hp hb1 hpw
  go_wp2
  go_loopw [7] (fun x wr => ∃ i : Nat, i ≤ P.length ∧ x = .int .i64 i ∧ RowB encI 3 wr g (LD i) ∧ Below w.heap.size w wr ∧ (∀ q, q ≠ g → q < w1.heap.size → wr.heap[q]? = w1.heap[q]?) ∧ w1.heap.size ≤ wr.heap.size) (fun x _ => P.length - (intOf x).toNat)
  case atStart => exact ⟨0, by omega, rfl, HR1.out, HB1.out, fun _ _ _ => rfl, Nat.le_refl _⟩
  case round =>
    obtain ⟨i, hi, rfl, hrb, hb, hsm, hsz⟩ := hrel
    by_cases hlt : i < P.length
    · have i1 : (i : Int) < (P.length : Int) := by omega
      have i2 : (0 : Int) ≤ (i : Int) := by omega
      have i4 : i < O.length := by rw [← HLEN.out]; exact hlt
      have i3 : (i : Int) < (O.length : Int) := by omega
      obtain ⟨b1, o1, hb1, q1, x1, x2⟩ := (RowAt.same HP1.out HPG.out hsm hsz).two i hlt
      obtain ⟨b2, o2, hb2, q2, y1⟩ := (RowAt.same HO1.out HOG.out hsm hsz).bit i i4
      subst hb1 hb2
      obtain ⟨har, hr1, hr2⟩ := HAR.out i hlt
      obtain ⟨v, hv⟩ : ∃ v : Nat, (pAt A i).2 = v := ⟨(pAt A i).2.toNat, by omega⟩
      have HNX := Lib.hid (HLS.out i v (by omega) hv)
      have hbd := HLB.out i v (by omega)
      rw [hv] at har hr2
      obtain ⟨pa, hpa⟩ : ∃ t, (pAt P i).1 = t := ⟨_, rfl⟩
      obtain ⟨pb, hpb⟩ : ∃ t, (pAt P i).2 = t := ⟨_, rfl⟩
      obtain ⟨bv, hbv⟩ : ∃ t, bAt O i = t := ⟨_, rfl⟩
      rw [hpa] at x1 har
      rw [hpb] at x2 har
      rw [hbv] at y1 har
      have HHD2 := Lib.hid (HHD.out pa pb bv)
      rw [har] at HHD2
      obtain ⟨Q, hQ⟩ : ∃ Q, LD i = Q := ⟨_, rfl⟩
      have HQL : Hid (v < Q.length) := Lib.hid (by rw [← hQ, HLL.out]; omega)
      rw [hQ] at hrb HNX hbd
      obtain ⟨z, hz⟩ : ∃ z, iAt Q v = z := ⟨_, rfl⟩
      rw [hz] at HNX hbd
      have HZ := Lib.hid hz
      have c1 : (v : Int) < (N : Int) := by omega
      have c2 : (0 : Int) ≤ (v : Int) := by omega
      have HS : Hid (∀ u, Below wr.heap.size wr u → u.cell? ⟨b1, o1 + i * 2, none⟩ = some (.int .i64 pa) ∧ u.cell? ⟨b1, o1 + i * 2 + 1, none⟩ = some (.int .i64 pb) ∧ u.cell? ⟨b2, o2 + i, none⟩ = some (.bool bv)) := Lib.hid fun u hu => ⟨(hu.cell (p := ⟨b1, o1 + i * 2, none⟩) q1).trans x1, (hu.cell (p := ⟨b1, o1 + i * 2 + 1, none⟩) q1).trans x2, (hu.cell (p := ⟨b2, o2 + i, none⟩) q2).trans y1⟩
      have HRr := Lib.hid hrb
      have HBr := Lib.hid hb
      have HSM := Lib.hid hsm
      have HSZ := Lib.hid hsz
      clear hsm hsz hrb hb hpa hpb hbv hQ hz hv har hr1 hr2 x1 x2 y1
      go_wp2
      have hj0 : Below wr.heap.size wr wr.drew := (Below.refl _ _).drew
      refine wp_region_late (S := fun u => Below wr.heap.size wr u) (X := []) (by kernel_rfl) ?_
      refine wpAnyL_pureD (i := 0) 20 (.slice (some ⟨b1, o1, none⟩) P.length cp) rfl rfl (by kernel_rfl) (by kernel_rfl) (by kernel_rfl) (fun _ _ _ h => h) (Or.inl ⟨by rfl, fun u _ => ?_⟩) ?_
      · go_simp
      try simp only [Act.put, List.setIfInBounds_toArray, List.set_cons_zero, List.set_cons_succ]
      refine wpAnyL_pureD (i := 1) 21 (.int .i64 (i : Int)) rfl rfl (by kernel_rfl) (by kernel_rfl) (by kernel_rfl) (fun _ _ _ h => h) (Or.inl ⟨by rfl, fun u _ => ?_⟩) ?_
      · go_simp
      try simp only [Act.put, List.setIfInBounds_toArray, List.set_cons_zero, List.set_cons_succ]
      refine wpAnyL_pureD (i := 2) 22 (.pointer (some ⟨b1, o1 + i * 2, none⟩)) rfl rfl (by kernel_rfl) (by kernel_rfl) (by kernel_rfl) (fun _ _ _ h => h) (Or.inl ⟨by rfl, fun u _ => ?_⟩) ?_
      · go_simp
      try simp only [Act.put, List.setIfInBounds_toArray, List.set_cons_zero, List.set_cons_succ]
      refine wpAnyL_takeD (i := 3) 23 (.agg #[.int .i64 pa, .int .i64 pb]) rfl rfl (by kernel_rfl) (by kernel_rfl) (by kernel_rfl) (by kernel_rfl) (by kernel_rfl) (fun _ _ _ h => h) hj0 (Or.inl ⟨by rfl, fun u hu => ?_⟩) ?_
      · obtain ⟨t0, t1, t2⟩ := HS.out u hu
        go_simp
      try simp only [Act.put, List.setIfInBounds_toArray, List.set_cons_zero, List.set_cons_succ]
      refine wpAnyL_pureD (i := 4) 24 (.slice (some ⟨b2, o2, none⟩) O.length c) rfl rfl (by kernel_rfl) (by kernel_rfl) (by kernel_rfl) (fun _ _ _ h => h) (Or.inl ⟨by rfl, fun u _ => ?_⟩) ?_
      · go_simp
      try simp only [Act.put, List.setIfInBounds_toArray, List.set_cons_zero, List.set_cons_succ]
      refine wpAnyL_pureD (i := 5) 25 (.int .i64 (i : Int)) rfl rfl (by kernel_rfl) (by kernel_rfl) (by kernel_rfl) (fun _ _ _ h => h) (Or.inl ⟨by rfl, fun u _ => ?_⟩) ?_
      · go_simp
      try simp only [Act.put, List.setIfInBounds_toArray, List.set_cons_zero, List.set_cons_succ]
      refine wpAnyL_pureD (i := 6) 26 (.pointer (some ⟨b2, o2 + i, none⟩)) rfl rfl (by kernel_rfl) (by kernel_rfl) (by kernel_rfl) (fun _ _ _ h => h) (Or.inl ⟨by rfl, fun u _ => ?_⟩) ?_
      · go_simp
      try simp only [Act.put, List.setIfInBounds_toArray, List.set_cons_zero, List.set_cons_succ]
      refine wpAnyL_takeD (i := 7) 27 (.bool bv) rfl rfl (by kernel_rfl) (by kernel_rfl) (by kernel_rfl) (by kernel_rfl) (by kernel_rfl) (fun _ _ _ h => h) hj0 (Or.inl ⟨by rfl, fun u hu => ?_⟩) ?_
      · obtain ⟨t0, t1, t2⟩ := HS.out u hu
        go_simp
      try simp only [Act.put, List.setIfInBounds_toArray, List.set_cons_zero, List.set_cons_succ]
      refine wpAnyL_one (i := 8) (by kernel_rfl) rfl (fun K hK => ?_)
      go_simp
      go_at_call 92
      refine (HHD2.out _).mono ?_
      rintro e y1 ⟨rfl, hb1⟩
      have hj1 := hj0.trans (hb1.mono hj0.size)
      show K _ _
      refine hK.out _ _ (fun _ _ => hj1) ?_
      clear hK K hb1 hj0
      try simp only [Act.put, List.setIfInBounds_toArray, List.set_cons_zero, List.set_cons_succ]
      refine wpAnyL_pureD (i := 9) 8 (.int .i64 (v : Int)) rfl rfl (by kernel_rfl) (by kernel_rfl) (by kernel_rfl) (fun _ _ _ h => h) (Or.inl ⟨by rfl, fun u _ => ?_⟩) ?_
      · go_simp
      try simp only [Act.put, List.setIfInBounds_toArray, List.set_cons_zero, List.set_cons_succ]
      refine wpAnyL_done (by kernel_rfl) ?_ _
      try simp only [Act.put, List.setIfInBounds_toArray, List.set_cons_zero, List.set_cons_succ]
      have hrz : RowB encI 3 y1 g Q := HRr.out.keep hj1
      have z1 : y1.cell? ⟨g, v, none⟩ = some (.int .i64 z) := by rw [← HZ.out]; exact hrz.cell v HQL.out
      have z2 : y1.frozen? ⟨g, v, none⟩ = false := Blk.frozen hrz v
      have hw9 := HBr.out.trans (hj1.mono HBr.out.size)
      have HRN : Hid (RowB encI 3 (y1.setCell ⟨g, v, none⟩ (.int .i64 (z + 1))) g (LD (i + 1))) := Lib.hid (by rw [HNX.out]; exact hrz.set v _)
      have HBN := Lib.hid (hw9.setCell (p := ⟨g, v, none⟩) HGB.out (.int .i64 (z + 1)))
      have HSM2 : Hid (∀ q, q ≠ g → q < w1.heap.size → (y1.setCell ⟨g, v, none⟩ (.int .i64 (z + 1))).heap[q]? = w1.heap[q]?) := Lib.hid fun q h1 h2 => (Below.heap_setCell y1 ⟨g, v, none⟩ _ q h1).trans ((hj1.block q (by have := HSZ.out; omega)).trans (HSM.out q h1 h2))
      have HSZ2 : Hid (w1.heap.size ≤ (y1.setCell ⟨g, v, none⟩ (.int .i64 (z + 1))).heap.size) := Lib.hid (by have h1 := hj1.size; have h2 := HSZ.out; simp only [World.setCell, Array.size_modify]; omega)
      clear hrz hw9 hj1
      go_wp2
      go_roundw
      case rel => exact ⟨i + 1, by omega, by go_num, HRN.out, HBN.out, HSM2.out, HSZ2.out⟩
      case measure => simp [intOf]; omega
    · obtain rfl : i = P.length := by omega
      have i1 : ¬ (P.length : Int) < (P.length : Int) := by omega
      have HRE := Lib.hid hrb
      have HEND := Lib.hid hb
      have HLN := Lib.hid (HLL.out P.length)
      clear hrb hb hsm hsz
      go_wp2
      go_ret
      exact ⟨g, HGB.out, by rw [HOUT.out, HLN.out]; rfl, by rw [HOUT.out]; exact HRE.out, HEND.out⟩
end Go.Proofs.Ytlnaahkheankoaa

namespace Go.Proofs.Ytlnaahkheankoaa
open Go.RowKit Go.Shelf Go.Proofs.Gr
attribute [local go_sem] Oper.semAt_some

theorem lessL_at (D : List Int) (j : Nat) (h : j < D.length) : (lessL D)[j]? = some (iAt D j - 1) := by
  unfold lessL
  rw [List.getElem?_map, List.getElem?_eq_getElem h, iAt_get D j h]; rfl
theorem fill_less (D : List Int) : fillL 0 (fun j => iAt D j - 1) D.length D.length = lessL D := by
  rw [fillL_all]
  refine List.ext_getElem? fun j => ?_
  by_cases h : j < D.length
  · rw [lessL_at D j h, List.getElem?_map, List.getElem?_range h]; rfl
  · rw [List.getElem?_eq_none (by simp; omega), List.getElem?_eq_none (by rw [lessL_len]; omega)]
theorem inO_bd {n : Int} {L : List E} {O : List Bool} (hL : L.length ≤ 100000) (hc : chkO n L O = 0) (j : Nat) (hj : j < (inO n L O).length) : 0 ≤ iAt (inO n L O) j ∧ iAt (inO n L O) j ≤ 5000000 := by
  unfold inO at *
  rw [inL_len] at hj
  rw [inL_at _ _ _ _ hj]
  have h1 := hdN_le (arcs (endsG L) O) (j : Int) (arcs (endsG L) O).length
  have := ends_all (right_of (chkO_zero hc).1)
  rw [arcs_len] at *
  omega
set_option maxHeartbeats 12800000 in
set_option maxRecDepth 100000 in
theorem rshifted_any (n : Int) (a : Option Addr) (cap : Nat) (L : List E) (hL : L.length ≤ 100000) (b : Option Addr) (c : Nat) (O : List Bool) (hc : chkO n L O = 0)  (w : World) (h : EsAt w a L) (ho : BsAt w b O) :
    Calls Try.prog 60 #[gv n a L.length cap, .slice b O.length c] w (GivesI w (lessL (inO n L O))) := by
  have h1 := chkG_n (chkO_zero hc).1
  obtain ⟨N, rfl⟩ : ∃ N : Nat, n = N := ⟨n.toNat, by omega⟩
  have hN : N ≤ 12 := by omega
  have HI := Lib.hid (fun w h ho => rinto_any N a cap L hL b c O hc w h ho)
  have HIL : Hid ((inO N L O).length = N) := Lib.hid (by rw [inO_len]; omega)
  have HBD := Lib.hid (fun j hj => inO_bd hL hc j hj)
  have HF0 : Hid (fillL (0 : Int) (fun j => iAt (inO N L O) j - 1) N 0 = List.replicate N 0) := Lib.hid rfl
  have HFS : Hid (∀ k, fillL (0 : Int) (fun j => iAt (inO N L O) j - 1) N (k + 1) = (fillL (0 : Int) (fun j => iAt (inO N L O) j - 1) N k).set k (iAt (inO N L O) k - 1)) := Lib.hid fun _ => rfl
  have HFA : Hid (fillL (0 : Int) (fun j => iAt (inO N L O) j - 1) N N = lessL (inO N L O)) := Lib.hid (by have := fill_less (inO N L O); rw [HIL.out] at this; exact this)
  have HLL : Hid ((lessL (inO N L O)).length = N) := Lib.hid (by rw [lessL_len, HIL.out])
  have HFL := Lib.hid (fillL_len (0 : Int) (fun j => iAt (inO N L O) j - 1) N)
  unfold GivesI
  unfold GivesIB gv at *
  generalize lessL (inO N L O) = LS at *
  generalize fillL (0 : Int) (fun j => iAt (inO N L O) j - 1) N = FL at *
  generalize inO N L O = D at *
  clear hc h1
  obtain ⟨W, hW⟩ : ∃ W, W = w.alloc (Obj.cells #[.int .i64 N, .slice a L.length cap] 24) := ⟨_, rfl⟩
  have hB0 : Below w.heap.size w W := by rw [hW]; exact (Below.refl _ w).alloc (Nat.le_refl _) _
  have hG : Blk W w.heap.size 24 #[.int .i64 N, .slice a L.length cap] := by rw [hW]; exact Blk.new _ _ _
  have hWs : W.heap.size = w.heap.size + 1 := by rw [hW]; simp
  have HW := Lib.hid hW
  have HWS := Lib.hid hWs
  have HB0 := Lib.hid hB0
  have HE := Lib.hid (h.keep hB0)
  have HF : Hid (∀ u, Below W.heap.size W u → u.cell? ⟨w.heap.size, 0, none⟩ = some (.int .i64 N) ∧ u.cell? ⟨w.heap.size, 1, none⟩ = some (.slice a L.length cap)) := Lib.hid fun u hu => ⟨(hG.below hu hG.lt).cell 0, (hG.below hu hG.lt).cell 1⟩
  obtain ⟨g0, g1⟩ := HF.out W (Below.refl _ _)
  have HO := Lib.hid (ho.keep hB0)
  clear ho hB0 hG hW hWs h
  go_enter Try.func60, Try.ntmps60
  go_wp2_with fail
  rw [← HW.out]
  refine (HI.out _ HE.out HO.out).mono ?_
  rintro e w1 ⟨g, hg, rfl, hr, hb⟩
  have HRD := Lib.hid hr
  have HB1 := Lib.hid (HB0.out.trans (hb.mono HB0.out.size))
  have HBW := Lib.hid hb
  clear g0 g1 hr hb hg
  obtain ⟨g0, g1⟩ := HF.out w1 HBW.out
  rw [HIL.out]
  have hmk : (Instr.makeSlice 34 (.int .i64 (N : Int)) (.int .i64 (N : Int))).run Try.prog w1 = .ok (.slice (some ⟨w1.heap.size, 0, none⟩) N N) (w1.alloc (.cells (flat encI (List.replicate N 0)).toArray 3)) := make_divs N (by omega) _
  obtain ⟨V0, hV0⟩ : ∃ v, v = w1.alloc (.cells (flat encI (List.replicate N 0)).toArray 3) := ⟨_, rfl⟩
  obtain ⟨gp, hgp⟩ : ∃ v, v = w1.heap.size := ⟨_, rfl⟩
  have hrbgp : RowB encI 3 V0 gp (FL 0) := by rw [hV0, hgp, HF0.out]; exact RowB.new _ _ _ _
  have hblgp : Below w1.heap.size w1 V0 := by rw [hV0]; exact (Below.refl _ _).alloc (Nat.le_refl _) _
  rw [← hV0, ← hgp] at hmk
  have HRBgp := Lib.hid hrbgp
  have HBLgp := Lib.hid hblgp
  have HGEgp := Lib.hid hgp
  clear hrbgp hblgp hV0 hgp
  have HV1 : Hid (Below W.heap.size W V0) := Lib.hid (HBW.out.trans (HBLgp.out.mono HBW.out.size))
  go_wp2
  clear hmk g0 g1
  go_loopw [7] (fun x wr => ∃ i : Nat, i ≤ N ∧ x = .int .i64 i ∧ RowB encI 3 wr gp (FL i) ∧ Below w1.heap.size w1 wr) (fun x _ => N - (intOf x).toNat)
  case atStart => exact ⟨0, by omega, rfl, HRBgp.out, HBLgp.out⟩
  case round =>
    obtain ⟨i, hi, rfl, hrb, hb⟩ := hrel
    have hbw : Below W.heap.size W wr := HBW.out.trans (hb.mono HBW.out.size)
    obtain ⟨g0, g1⟩ := HF.out wr hbw
    have HEND := Lib.hid (HB0.out.trans (hbw.mono HB0.out.size))
    by_cases hlt : i < N
    · have i1 : (i : Int) < (N : Int) := by omega
      have i2 : (0 : Int) ≤ (i : Int) := by omega
      have x1 := (HRD.out.keep hb).cell i (by rw [HIL.out]; exact hlt)
      have hbd := HBD.out i (by rw [HIL.out]; exact hlt)
      have HFn := Lib.hid (HFS.out i)
      obtain ⟨z, hz⟩ : ∃ z, iAt D i = z := ⟨_, rfl⟩
      rw [hz] at x1 hbd HFn
      obtain ⟨Q, hQ⟩ : ∃ Q, FL i = Q := ⟨_, rfl⟩
      have HQL : Hid (i < Q.length) := Lib.hid (by rw [← hQ, HFL.out]; exact hlt)
      rw [hQ] at hrb HFn
      have y0 := hrb.cell i HQL.out
      have y1 : wr.frozen? ⟨gp, i, none⟩ = false := Blk.frozen hrb i
      have HRN : Hid (RowB encI 3 (wr.setCell ⟨gp, i, none⟩ (.int .i64 (z - 1))) gp (FL (i + 1))) := Lib.hid (by rw [HFn.out]; exact hrb.set i _)
      have HBN := Lib.hid (hb.setCell (p := ⟨gp, i, none⟩) (by rw [HGEgp.out]; exact Nat.le_refl _) (.int .i64 (z - 1)))
      clear hrb hb hbw hz hQ
      go_wp2
      go_roundw
      case rel => exact ⟨i + 1, by omega, by go_num, HRN.out, HBN.out⟩
      case measure => simp [intOf]; omega
    · obtain rfl : i = N := by omega
      have i1 : ¬ (i : Int) < (i : Int) := by omega
      have HRE : Hid (IsAt wr (some ⟨gp, 0, none⟩) LS) := Lib.hid (by rw [← HFA.out]; exact hrb.row encI_len)
      clear hrb hb hbw
      go_wp2
      go_ret
      first | exact ⟨some ⟨gp, 0, none⟩, i, by rw [HLL.out]; rfl, HRE.out, HEND.out⟩ | exact ⟨some ⟨gp, 0, none⟩, ⟨i, by rw [HLL.out]; rfl⟩, HRE.out, HEND.out⟩
set_option maxHeartbeats 12800000 in
set_option maxRecDepth 100000 in
theorem rroots_any (n : Int) (a : Option Addr) (cap : Nat) (L : List E) (hL : L.length ≤ 100000) (b : Option Addr) (c : Nat) (O : List Bool) (hc : chkO n L O = 0)  (w : World) (h : EsAt w a L) (ho : BsAt w b O) :
    Calls Try.prog 62 #[gv n a L.length cap, .slice b O.length c] w (GivesI w (srcO n L O)) := by
  obtain ⟨i0, hi0, hz0, hz1, hz2⟩ := info_parts infoI
  have h1 := chkG_n (chkO_zero hc).1
  obtain ⟨N, rfl⟩ : ∃ N : Nat, n = N := ⟨n.toNat, by omega⟩
  have hN : N ≤ 12 := by omega
  have HI := Lib.hid (fun w h ho => rinto_any N a cap L hL b c O hc w h ho)
  have HIL : Hid ((inO N L O).length = N) := Lib.hid (by rw [inO_len]; omega)
  have HBD := Lib.hid (fun j hj => inO_bd hL hc j hj)
  have HS0 : Hid (srcL (inO N L O) 0 = []) := Lib.hid rfl
  have HSS : Hid (∀ k, srcL (inO N L O) (k + 1) = srcL (inO N L O) k ++ (if iAt (inO N L O) k = 0 then [(k : Int)] else [])) := Lib.hid fun _ => rfl
  have HSL := Lib.hid (fun k => srcL_len (inO N L O) k)
  have HOUT : Hid (srcO N L O = srcL (inO N L O) N) := Lib.hid (by unfold srcO; rw [show ((N : Nat) : Int).toNat = N by omega])
  unfold GivesI
  unfold GivesIB gv at *
  generalize srcO N L O = RR at *
  generalize srcL (inO N L O) = Q at *
  generalize inO N L O = D at *
  clear hc h1
  obtain ⟨W, hW⟩ : ∃ W, W = w.alloc (Obj.cells #[.int .i64 N, .slice a L.length cap] 24) := ⟨_, rfl⟩
  have hB0 : Below w.heap.size w W := by rw [hW]; exact (Below.refl _ w).alloc (Nat.le_refl _) _
  have hG : Blk W w.heap.size 24 #[.int .i64 N, .slice a L.length cap] := by rw [hW]; exact Blk.new _ _ _
  have hWs : W.heap.size = w.heap.size + 1 := by rw [hW]; simp
  have HW := Lib.hid hW
  have HWS := Lib.hid hWs
  have HB0 := Lib.hid hB0
  have HE := Lib.hid (h.keep hB0)
  have HF : Hid (∀ u, Below W.heap.size W u → u.cell? ⟨w.heap.size, 0, none⟩ = some (.int .i64 N) ∧ u.cell? ⟨w.heap.size, 1, none⟩ = some (.slice a L.length cap)) := Lib.hid fun u hu => ⟨(hG.below hu hG.lt).cell 0, (hG.below hu hG.lt).cell 1⟩
  obtain ⟨g0, g1⟩ := HF.out W (Below.refl _ _)
  have HO := Lib.hid (ho.keep hB0)
  clear ho hB0 hG hW hWs h
  go_enter Try.func62, Try.ntmps62
  go_wp2_with fail
  rw [← HW.out]
  refine (HI.out _ HE.out HO.out).mono ?_
  rintro e w1 ⟨g, hg, rfl, hr, hb1⟩
  have HR1 := Lib.hid hr
  have HBW := Lib.hid hb1
  have HB1 := Lib.hid (HB0.out.trans (hb1.mono HB0.out.size))
  clear hr hb1 hg g0 g1
  rw [HIL.out]
  go_wp2
  go_loopw [6, 7] (fun s x wr => ∃ i : Nat, i ≤ N ∧ x = .int .i64 i ∧ wr.ownsRow w1.heap.size 3 1 s (Q i).length (flat encI (Q i)) ∧ Below w1.heap.size w1 wr) (fun _ x _ => N - (intOf x).toNat)
  case atStart => exact ⟨0, by omega, rfl, by rw [HS0.out]; exact World.ownsRow_nil _ _ _ _, Below.refl _ _⟩
  case round =>
    obtain ⟨i, hi, rfl, hown, hb⟩ := hrel
    have HOW := Lib.hid hown
    have HBR := Lib.hid hb
    have HBS := Lib.hid hb.size
    obtain ⟨g0, g1⟩ := HF.out wr (HBW.out.trans (hb.mono HBW.out.size))
    by_cases hlt : i < N
    · have i1 : (i : Int) < (N : Int) := by omega
      have i2 : (0 : Int) ≤ (i : Int) := by omega
      have hll := HSL.out i
      have hs := HSS.out i
      have x1 : wr.cell? ⟨g, i, none⟩ = some (.int .i64 (iAt D i)) := (HR1.out.keep hb).cell i (by rw [HIL.out]; exact hlt)
      generalize Q i = PP at *
      generalize iAt D i = z at *
      by_cases hz : z = 0
      · have d1 : (z == 0) = true := by rw [beq_iff_eq]; exact hz
        rw [if_pos hz] at hs
        have HSn := Lib.hid hs
        clear hs hz hown hb
        go_wp2_with (at_builtin; refine wpList_append_own _ rfl _ _ 28 rfl w1.heap.size 3 i0 (.int .i64 0) 1 8 Try.underlying28 hi0 hz0 hz1 hz2 rfl (by decide) _ _ _ rfl (HOW.out.alloc _) ⟨wr.heap.size, 0, none⟩ 1 1 [.int .i64 (i : Int)] rfl rfl (lit_row _ _ _) (by simp [Value.oneCell']) (by unfold maxLen; omega) (by omega) (by rw [World.size_alloc]; have := HBS.out; omega) ?_; intro v1 w3 hown1 hgrow1 hnil; clear hnil; have HO3 : Hid (w3.ownsRow w1.heap.size 3 1 v1 (PP ++ [(i : Int)]).length (flat encI (PP ++ [(i : Int)]))) := Lib.hid (by rw [List.length_append, flatI_snoc]; exact hown1); have HB3 : Hid (Below w1.heap.size w1 w3) := Lib.hid (below_push (w := w1) HBR.out (fun k hk => (HOW.out.lt k hk).1) hgrow1); clear hown1 hgrow1)
        go_roundw
        case rel => exact ⟨i + 1, by omega, by go_num, by rw [HSn.out]; exact HO3.out, HB3.out⟩
        case measure => simp [intOf]; omega
      · have d1 : (z == 0) = false := by rw [beq_eq_false_iff_ne]; exact hz
        rw [if_neg hz, List.append_nil] at hs
        have HSn := Lib.hid hs
        clear hs hz hown hb
        go_wp2
        go_roundw
        case rel => exact ⟨i + 1, by omega, by go_num, by rw [HSn.out]; exact HOW.out, HBR.out⟩
        case measure => simp [intOf]; omega
    · obtain rfl : i = N := by omega
      have i1 : ¬ (i : Int) < (i : Int) := by omega
      have HOA := Lib.hid (RowAt.of_own encI_len hown)
      have HEND := Lib.hid (HB1.out.trans (hb.mono HB1.out.size))
      clear hown hb
      obtain ⟨a9, c9, hv, hra⟩ := HOA.out
      subst hv
      have HRA := Lib.hid hra
      clear hra
      go_wp2
      go_ret
      first | exact ⟨a9, c9, by rw [HOUT.out]; rfl, by rw [HOUT.out]; exact HRA.out, HEND.out⟩ | exact ⟨a9, ⟨c9, by rw [HOUT.out]; rfl⟩, by rw [HOUT.out]; exact HRA.out, HEND.out⟩
set_option maxHeartbeats 12800000 in
set_option maxRecDepth 100000 in
theorem rindegrees_any (n : Int) (a : Option Addr) (cap : Nat) (L : List E) (hL : L.length ≤ 100000) (b : Option Addr) (c : Nat) (O : List Bool) (hO : O.length ≤ 100000000) (w : World) (h : EsAt w a L) (ho : BsAt w b O) :
    Calls Try.prog 15 #[gv n a L.length cap, .slice b O.length c] w (GivesIE w (okL (chkO n L O) (inO n L O)) (chkO n L O)) := by
  have HC := Lib.hid (fun w h ho => rcheckO_any n a cap L hL b c O hO w h ho)
  have HI : Hid (chkO n L O = 0 → ∀ w, EsAt w a L → BsAt w b O → Calls Try.prog 59 #[gv n a L.length cap, .slice b O.length c] w (GivesI w (inO n L O))) := Lib.hid fun hc w h ho => (rinto_any n a cap L hL b c O hc w h ho).mono fun e x ⟨g, _, e1, hr, hb⟩ => ⟨_, _, e1, hr.row encI_len, hb⟩
  have HX1 := Lib.hid (fun h => okL_pos (k := chkO n L O) (inO n L O) h)
  have HX2 := Lib.hid (fun h => okL_neg (k := chkO n L O) (inO n L O) h)
  unfold GivesIE
  unfold GivesI GivesN gv at *
  generalize okL (chkO n L O) (inO n L O) = X at *
  generalize (inO n L O) = D at *
  generalize chkO n L O = k at *
  obtain ⟨W, hW⟩ : ∃ W, W = w.alloc (Obj.cells #[.int .i64 n, .slice a L.length cap] 24) := ⟨_, rfl⟩
  have hB0 : Below w.heap.size w W := by rw [hW]; exact (Below.refl _ w).alloc (Nat.le_refl _) _
  have hG : Blk W w.heap.size 24 #[.int .i64 n, .slice a L.length cap] := by rw [hW]; exact Blk.new _ _ _
  have hWs : W.heap.size = w.heap.size + 1 := by rw [hW]; simp
  have HW := Lib.hid hW
  have HWS := Lib.hid hWs
  have HB0 := Lib.hid hB0
  have HE := Lib.hid (h.keep hB0)
  have HF : Hid (∀ u, Below W.heap.size W u → u.cell? ⟨w.heap.size, 0, none⟩ = some (.int .i64 n) ∧ u.cell? ⟨w.heap.size, 1, none⟩ = some (.slice a L.length cap)) := Lib.hid fun u hu => ⟨(hG.below hu hG.lt).cell 0, (hG.below hu hG.lt).cell 1⟩
  obtain ⟨g0, g1⟩ := HF.out W (Below.refl _ _)
  have HO := Lib.hid (ho.keep hB0)
  clear ho hB0 hG hW hWs h
  go_enter Try.func15, Try.ntmps15
  go_wp2_with fail
  rw [← HW.out]
  refine (HC.out _ HE.out HO.out).mono ?_
  rintro e w1 ⟨rfl, hb⟩
  by_cases hk : k ≠ 0
  · have q0 : (((k : Nat) : Int) != 0) = true := by rw [bne_iff_ne]; omega
    have HXA := Lib.hid (HX2.out hk)
    have HEND := Lib.hid (HB0.out.trans (hb.mono HB0.out.size))
    clear hk g0 g1 hb
    go_wp2
    go_ret2
    exact ⟨none, 0, by rw [HXA.out]; rfl, by rw [HXA.out]; exact RowAt.nil _ _ _ _, HEND.out⟩
  · have hk0 : k = 0 := by omega
    have HXA := Lib.hid (HX1.out hk0)
    have HI2 := Lib.hid (HI.out hk0)
    subst hk0
    clear g0 g1 hk
    obtain ⟨g0, g1⟩ := HF.out w1 hb
    have HE1 := Lib.hid (HE.out.keep hb)
    have HO1 := Lib.hid (HO.out.keep hb)
    have HBE := Lib.hid (HB0.out.trans (hb.mono HB0.out.size))
    clear hb
    go_wp2_with fail
    refine (HI2.out _ HE1.out HO1.out).mono ?_
    rintro e w2 ⟨a9, c9, rfl, hr, hb2⟩
    have HEND := Lib.hid (HBE.out.trans (hb2.mono HBE.out.size))
    have HR := Lib.hid hr
    clear hb2 g0 g1 hr
    go_wp2
    go_ret2
    exact ⟨a9, c9, by rw [HXA.out]; rfl, by rw [HXA.out]; exact HR.out, HEND.out⟩
set_option maxHeartbeats 12800000 in
set_option maxRecDepth 100000 in
theorem rdivisor_any (n : Int) (a : Option Addr) (cap : Nat) (L : List E) (hL : L.length ≤ 100000) (b : Option Addr) (c : Nat) (O : List Bool) (hO : O.length ≤ 100000000) (w : World) (h : EsAt w a L) (ho : BsAt w b O) :
    Calls Try.prog 17 #[gv n a L.length cap, .slice b O.length c] w (GivesIE w (okL (chkO n L O) (lessL (inO n L O))) (chkO n L O)) := by
  have HC := Lib.hid (fun w h ho => rcheckO_any n a cap L hL b c O hO w h ho)
  have HI : Hid (chkO n L O = 0 → ∀ w, EsAt w a L → BsAt w b O → Calls Try.prog 60 #[gv n a L.length cap, .slice b O.length c] w (GivesI w (lessL (inO n L O)))) := Lib.hid fun hc w h ho => rshifted_any n a cap L hL b c O hc w h ho
  have HX1 := Lib.hid (fun h => okL_pos (k := chkO n L O) (lessL (inO n L O)) h)
  have HX2 := Lib.hid (fun h => okL_neg (k := chkO n L O) (lessL (inO n L O)) h)
  unfold GivesIE
  unfold GivesI GivesN gv at *
  generalize okL (chkO n L O) (lessL (inO n L O)) = X at *
  generalize (lessL (inO n L O)) = D at *
  generalize chkO n L O = k at *
  obtain ⟨W, hW⟩ : ∃ W, W = w.alloc (Obj.cells #[.int .i64 n, .slice a L.length cap] 24) := ⟨_, rfl⟩
  have hB0 : Below w.heap.size w W := by rw [hW]; exact (Below.refl _ w).alloc (Nat.le_refl _) _
  have hG : Blk W w.heap.size 24 #[.int .i64 n, .slice a L.length cap] := by rw [hW]; exact Blk.new _ _ _
  have hWs : W.heap.size = w.heap.size + 1 := by rw [hW]; simp
  have HW := Lib.hid hW
  have HWS := Lib.hid hWs
  have HB0 := Lib.hid hB0
  have HE := Lib.hid (h.keep hB0)
  have HF : Hid (∀ u, Below W.heap.size W u → u.cell? ⟨w.heap.size, 0, none⟩ = some (.int .i64 n) ∧ u.cell? ⟨w.heap.size, 1, none⟩ = some (.slice a L.length cap)) := Lib.hid fun u hu => ⟨(hG.below hu hG.lt).cell 0, (hG.below hu hG.lt).cell 1⟩
  obtain ⟨g0, g1⟩ := HF.out W (Below.refl _ _)
  have HO := Lib.hid (ho.keep hB0)
  clear ho hB0 hG hW hWs h
  go_enter Try.func17, Try.ntmps17
  go_wp2_with fail
  rw [← HW.out]
  refine (HC.out _ HE.out HO.out).mono ?_
  rintro e w1 ⟨rfl, hb⟩
  by_cases hk : k ≠ 0
  · have q0 : (((k : Nat) : Int) != 0) = true := by rw [bne_iff_ne]; omega
    have HXA := Lib.hid (HX2.out hk)
    have HEND := Lib.hid (HB0.out.trans (hb.mono HB0.out.size))
    clear hk g0 g1 hb
    go_wp2
    go_ret2
    exact ⟨none, 0, by rw [HXA.out]; rfl, by rw [HXA.out]; exact RowAt.nil _ _ _ _, HEND.out⟩
  · have hk0 : k = 0 := by omega
    have HXA := Lib.hid (HX1.out hk0)
    have HI2 := Lib.hid (HI.out hk0)
    subst hk0
    clear g0 g1 hk
    obtain ⟨g0, g1⟩ := HF.out w1 hb
    have HE1 := Lib.hid (HE.out.keep hb)
    have HO1 := Lib.hid (HO.out.keep hb)
    have HBE := Lib.hid (HB0.out.trans (hb.mono HB0.out.size))
    clear hb
    go_wp2_with fail
    refine (HI2.out _ HE1.out HO1.out).mono ?_
    rintro e w2 ⟨a9, c9, rfl, hr, hb2⟩
    have HEND := Lib.hid (HBE.out.trans (hb2.mono HBE.out.size))
    have HR := Lib.hid hr
    clear hb2 g0 g1 hr
    go_wp2
    go_ret2
    exact ⟨a9, c9, by rw [HXA.out]; rfl, by rw [HXA.out]; exact HR.out, HEND.out⟩
set_option maxHeartbeats 12800000 in
set_option maxRecDepth 100000 in
theorem rsources_any (n : Int) (a : Option Addr) (cap : Nat) (L : List E) (hL : L.length ≤ 100000) (b : Option Addr) (c : Nat) (O : List Bool) (hO : O.length ≤ 100000000) (w : World) (h : EsAt w a L) (ho : BsAt w b O) :
    Calls Try.prog 19 #[gv n a L.length cap, .slice b O.length c] w (GivesIE w (okL (chkO n L O) (srcO n L O)) (chkO n L O)) := by
  have HC := Lib.hid (fun w h ho => rcheckO_any n a cap L hL b c O hO w h ho)
  have HI : Hid (chkO n L O = 0 → ∀ w, EsAt w a L → BsAt w b O → Calls Try.prog 62 #[gv n a L.length cap, .slice b O.length c] w (GivesI w (srcO n L O))) := Lib.hid fun hc w h ho => rroots_any n a cap L hL b c O hc w h ho
  have HX1 := Lib.hid (fun h => okL_pos (k := chkO n L O) (srcO n L O) h)
  have HX2 := Lib.hid (fun h => okL_neg (k := chkO n L O) (srcO n L O) h)
  unfold GivesIE
  unfold GivesI GivesN gv at *
  generalize okL (chkO n L O) (srcO n L O) = X at *
  generalize (srcO n L O) = D at *
  generalize chkO n L O = k at *
  obtain ⟨W, hW⟩ : ∃ W, W = w.alloc (Obj.cells #[.int .i64 n, .slice a L.length cap] 24) := ⟨_, rfl⟩
  have hB0 : Below w.heap.size w W := by rw [hW]; exact (Below.refl _ w).alloc (Nat.le_refl _) _
  have hG : Blk W w.heap.size 24 #[.int .i64 n, .slice a L.length cap] := by rw [hW]; exact Blk.new _ _ _
  have hWs : W.heap.size = w.heap.size + 1 := by rw [hW]; simp
  have HW := Lib.hid hW
  have HWS := Lib.hid hWs
  have HB0 := Lib.hid hB0
  have HE := Lib.hid (h.keep hB0)
  have HF : Hid (∀ u, Below W.heap.size W u → u.cell? ⟨w.heap.size, 0, none⟩ = some (.int .i64 n) ∧ u.cell? ⟨w.heap.size, 1, none⟩ = some (.slice a L.length cap)) := Lib.hid fun u hu => ⟨(hG.below hu hG.lt).cell 0, (hG.below hu hG.lt).cell 1⟩
  obtain ⟨g0, g1⟩ := HF.out W (Below.refl _ _)
  have HO := Lib.hid (ho.keep hB0)
  clear ho hB0 hG hW hWs h
  go_enter Try.func19, Try.ntmps19
  go_wp2_with fail
  rw [← HW.out]
  refine (HC.out _ HE.out HO.out).mono ?_
  rintro e w1 ⟨rfl, hb⟩
  by_cases hk : k ≠ 0
  · have q0 : (((k : Nat) : Int) != 0) = true := by rw [bne_iff_ne]; omega
    have HXA := Lib.hid (HX2.out hk)
    have HEND := Lib.hid (HB0.out.trans (hb.mono HB0.out.size))
    clear hk g0 g1 hb
    go_wp2
    go_ret2
    exact ⟨none, 0, by rw [HXA.out]; rfl, by rw [HXA.out]; exact RowAt.nil _ _ _ _, HEND.out⟩
  · have hk0 : k = 0 := by omega
    have HXA := Lib.hid (HX1.out hk0)
    have HI2 := Lib.hid (HI.out hk0)
    subst hk0
    clear g0 g1 hk
    obtain ⟨g0, g1⟩ := HF.out w1 hb
    have HE1 := Lib.hid (HE.out.keep hb)
    have HO1 := Lib.hid (HO.out.keep hb)
    have HBE := Lib.hid (HB0.out.trans (hb.mono HB0.out.size))
    clear hb
    go_wp2_with fail
    refine (HI2.out _ HE1.out HO1.out).mono ?_
    rintro e w2 ⟨a9, c9, rfl, hr, hb2⟩
    have HEND := Lib.hid (HBE.out.trans (hb2.mono HBE.out.size))
    have HR := Lib.hid hr
    clear hb2 g0 g1 hr
    go_wp2
    go_ret2
    exact ⟨a9, c9, by rw [HXA.out]; rfl, by rw [HXA.out]; exact HR.out, HEND.out⟩
end Go.Proofs.Ytlnaahkheankoaa
