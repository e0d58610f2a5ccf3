/- Moved of the reference. -/
import Derived.Test.YtgejkgeojjgclaaFr1
import Derived.Test.YtgejkgeojjgclaaFs
import Derived.Test.YtgejkgeojjgclaaLateD
namespace Go.Proofs.Ytgejkgeojjgclaa
open Go.RowKit Go.Proofs.Gr Go.Proofs.Cp
attribute [local go_sem] Oper.semAt_some

/-- What is moved, vertex by vertex. -/
def mvT (D S : List Int) (L : List E) (N v : Nat) : List Int := (List.range D.length).map fun j : Nat => iAt D j + (if j < v then movZ (fS S) j L N else 0)
theorem mvT_len (D S : List Int) (L : List E) (N v : Nat) : (mvT D S L N v).length = D.length := by simp [mvT]
theorem mvT_at (D S : List Int) (L : List E) (N v j : Nat) (h : j < D.length) : iAt (mvT D S L N v) j = iAt D j + (if j < v then movZ (fS S) j L N else 0) := by
  unfold mvT
  show List.getD _ j 0 = _
  rw [List.getD_eq_getElem?_getD, List.getElem?_map, List.getElem?_range h]; rfl
def mvF (S : List Int) (v : Int) (L : List E) (u : Int) : Int := if v = u then 0 else betw v u L * (fS S u - fS S v)
def mvZ (D S : List Int) (L : List E) (N v k : Nat) : List Int := (mvT D S L N v).set v (iAt D v + sumZ (mvF S v L) k)
theorem mvZ_len (D S : List Int) (L : List E) (N v k : Nat) : (mvZ D S L N v k).length = D.length := by unfold mvZ; rw [List.length_set, mvT_len]
theorem mvZ_at (D S : List Int) (L : List E) (N v k : Nat) (h : v < D.length) : iAt (mvZ D S L N v k) v = iAt D v + sumZ (mvF S v L) k := by
  unfold mvZ
  rw [iAt_set _ _ _ _ (by rw [mvT_len]; exact h), if_pos rfl]
theorem mvZ_next (D S : List Int) (L : List E) (N v k : Nat) : (mvZ D S L N v k).set v (iAt D v + sumZ (mvF S v L) (k + 1)) = mvZ D S L N v (k + 1) := by
  unfold mvZ; rw [List.set_set]
theorem mvZ_zero (D S : List Int) (L : List E) (N v : Nat) (h : v < D.length) : mvZ D S L N v 0 = mvT D S L N v := by
  refine eq_of_at (by rw [mvZ_len, mvT_len]) fun j hj => ?_
  rw [mvZ_len] at hj
  unfold mvZ
  rw [iAt_set _ _ _ _ (by rw [mvT_len]; exact h), mvT_at _ _ _ _ _ _ hj]
  by_cases e : v = j
  · subst e; rw [if_pos rfl, if_neg (by omega)]; rfl
  · rw [if_neg e]
theorem mvZ_last (D S : List Int) (L : List E) (N v : Nat) (h : v < D.length) : mvZ D S L N v N = mvT D S L N (v + 1) := by
  refine eq_of_at (by rw [mvZ_len, mvT_len]) fun j hj => ?_
  rw [mvZ_len] at hj
  unfold mvZ
  rw [iAt_set _ _ _ _ (by rw [mvT_len]; exact h), mvT_at _ _ _ _ _ _ hj, mvT_at _ _ _ _ _ _ hj]
  by_cases e : v = j
  · subst e; rw [if_pos rfl, if_pos (by omega)]; rfl
  · rw [if_neg e]
    by_cases e2 : j < v
    · rw [if_pos e2, if_pos (by omega)]
    · rw [if_neg e2, if_neg (by omega)]
theorem mvT_zero (D S : List Int) (L : List E) (N : Nat) : mvT D S L N 0 = D := by
  refine eq_of_at (by rw [mvT_len]) fun j hj => ?_
  rw [mvT_len] at hj
  rw [mvT_at _ _ _ _ _ _ hj, if_neg (by omega)]; omega
theorem mvT_all {N : Nat} (D S : List Int) (L : List E) (hD : D.length = N) (h : ∀ e ∈ L, 0 ≤ e.a ∧ e.a ≤ e.b ∧ e.b < (N : Int) ∧ 1 ≤ e.m ∧ e.m ≤ 50) : mvT D S L N N = chD D S L := by
  refine eq_of_at (by rw [mvT_len, chD_len]) fun j hj => ?_
  rw [mvT_len] at hj
  rw [mvT_at _ _ _ _ _ _ hj, if_pos (by omega), chD_at _ _ _ _ hj, movZ_eN (fS S) j L h]
theorem mvF_bd {n : Int} {L : List E} (hR : Right n L) {S : List Int} (hs : Sb (fS S)) (v u : Int) : -104857600 ≤ mvF S v L u ∧ mvF S v L u ≤ 104857600 := by
  unfold mvF
  have h1 := hs u
  have h2 := hs v
  split
  · omega
  · exact mul_bd (betw_le hR v u) (by omega)
theorem mvS_bd {n : Int} {L : List E} (hR : Right n L) {S : List Int} (hs : Sb (fS S)) (v : Int) (k : Nat) : -(104857600 * (k : Int)) ≤ sumZ (mvF S v L) k ∧ sumZ (mvF S v L) k ≤ 104857600 * (k : Int) := by
  induction k with
  | zero => exact ⟨Int.le_refl _, Int.le_refl _⟩
  | succ k ih =>
    have h1 := mvF_bd hR hs v k
    rw [sumZ]; omega
set_option maxHeartbeats 12800000 in
set_option maxRecDepth 100000 in
theorem rMoved_any (N : Nat) (a : Option Addr) (cap : Nat) (L : List E) (hL : L.length ≤ 100000) (hR : Right N L) (b : Option Addr) (c : Nat) (D : List Int) (hD : Div D) (hDN : D.length = N) (sa : Option Addr) (sc : Nat) (S : List Int) (hS : S.length = N) (hs : Sb (fS S)) (w : World) (h : EsAt w a L) (ho : IsAt w b D) (hsa : IsAt w sa S) :
    Calls Try.prog 52 #[gv N a L.length cap, .slice b N c, .slice sa N sc] w (fun e w' => ∃ p q, e = .returned (.slice p N q) ∧ IsAt w' p (chD D S L) ∧ Below w.heap.size w w') := by
  obtain ⟨i0, hi0, hz0, hz1, hz2⟩ := info_parts infoI
  have hN12 := hR.hi
  have h0 := hD.one
  have HBT := Lib.hid (fun v u w h => rbetween_any (N : Nat) a cap L hL hR.srt v u w h)
  unfold GivesN gv at *
  obtain ⟨b1, o1, rfl⟩ := IsAt.ne ho h0
  obtain ⟨W, hW⟩ : ∃ W, W = w.alloc (Obj.cells #[.int .i64 (N : Int), .slice a L.length cap] 24) := ⟨_, rfl⟩
  have hB0 : Below w.heap.size w W := by rw [hW]; exact (Below.refl _ w).alloc (Nat.le_refl _) _
  have hG : Blk W w.heap.size 24 #[.int .i64 (N : Int), .slice a L.length cap] := by rw [hW]; exact Blk.new _ _ _
  have HW := Lib.hid hW
  have HB0 := Lib.hid hB0
  have HF : Hid (∀ u, Below W.heap.size W u → u.cell? ⟨w.heap.size, 0, none⟩ = some (.int .i64 (N : Int)) ∧ u.cell? ⟨w.heap.size, 1, none⟩ = some (.slice a L.length cap)) := Lib.hid fun u hu => ⟨(hG.below hu hG.lt).cell 0, (hG.below hu hG.lt).cell 1⟩
  have HE0 := Lib.hid (h.keep hB0)
  have HS0 := Lib.hid (hsa.keep hB0)
  have HNW : Hid (∀ (V : World), Below W.heap.size W V → ∀ j u, (flat encI D)[j]? = some u → V.cell? ((⟨b1, o1, none⟩ : Addr).add j) = some u) := Lib.hid fun V hb j u hj => RowAt.cells (k := 1) (enc := encI) (by decide) (fun _ => rfl) ((ho.keep hB0).keep hb) j u hj
  have HB1 : Hid (Below W.heap.size W (W.alloc (Obj.cells #[] 3))) := Lib.hid ((Below.refl _ _).alloc (Nat.le_refl _) _)
  have hWs : W.heap.size = w.heap.size + 1 := by rw [hW]; simp
  have HO : Hid ((W.alloc (Obj.cells #[] 3)).ownsRow W.heap.size 3 1 (.slice (some ⟨w.heap.size + 1, 0, none⟩) 0 0) 0 []) := Lib.hid (by rw [← hWs]; exact World.ownsRow_lit W #[] 0 (Nat.le_refl _) (by decide) rfl)
  have HFL : Hid ((flat encI D).length = N * 1) := Lib.hid (by rw [← hDN]; exact flat_len encI_len D)
  have H1 := Lib.hid (boneI D)
  have HPB : Hid (∀ (w' : World) v, w'.ownsRow W.heap.size 3 1 v N (flat encI D) → ∃ g cap, v = .slice (some ⟨g, 0, none⟩) N cap ∧ W.heap.size ≤ g ∧ PB w' g D) := Lib.hid fun w' v h => by rw [← hDN] at h ⊢; exact PB.of_own h h0
  have hNN : N ≤ 1000 := by omega
  have hld := hD.le
  have HZL := Lib.hid (mvT_zero D S L N)
  have HZN := Lib.hid (mvT_all D S L hDN hR.rng)
  have HZ0 : Hid (∀ v, v < N → mvZ D S L N v 0 = mvT D S L N v) := Lib.hid fun v hv => mvZ_zero D S L N v (by omega)
  have HZE : Hid (∀ v, v < N → mvZ D S L N v N = mvT D S L N (v + 1)) := Lib.hid fun v hv => mvZ_last D S L N v (by omega)
  have HZQ : Hid (∀ v k, v < N → iAt (mvZ D S L N v k) v = iAt D v + sumZ (mvF S v L) k) := Lib.hid fun v k hv => mvZ_at D S L N v k (by omega)
  have HZS : Hid (∀ v k, (mvZ D S L N v k).set v (iAt D v + sumZ (mvF S v L) (k + 1)) = mvZ D S L N v (k + 1)) := Lib.hid fun v k => mvZ_next D S L N v k
  have HZB : Hid (∀ (v : Int) (k : Nat), -(104857600 * (k : Int)) ≤ sumZ (mvF S v L) k ∧ sumZ (mvF S v L) k ≤ 104857600 * (k : Int)) := Lib.hid fun v k => mvS_bd hR hs v k
  have HZP : Hid (∀ (v : Int) (k : Nat), sumZ (mvF S v L) (k + 1) = sumZ (mvF S v L) k + (if v = (k : Int) then 0 else betw v k L * (fS S k - fS S v))) := Lib.hid fun v k => rfl
  have HBL := Lib.hid (fun u v => betw_le hR u v)
  have HSB := Lib.hid hs
  have HDB : Hid (∀ v : Nat, v < N → -1048576 ≤ iAt D v ∧ iAt D v ≤ 1048576) := Lib.hid fun v hv => hD.rng _ (by rw [← iAt_get D v (by omega)]; exact List.getElem_mem _)
  have HZLN : Hid (∀ v k, (mvZ D S L N v k).length = N) := Lib.hid fun v k => by rw [mvZ_len, hDN]
  clear hB0 hG hW hWs h ho hsa h0 hR hs hD
  generalize flat encI D = fl at *
  obtain ⟨DL, hDL⟩ : ∃ x, x = D.length := ⟨_, rfl⟩
  have EDN : Hid (D.length = N) := Lib.hid hDN
  go_enter Try.func52, Try.ntmps52
  go_wp2_with (at_builtin; rw [← HW.out]; refine wpList_append_own _ rfl _ _ 28 rfl W.heap.size 3 i0 (.int .i64 0) 1 8 Try.underlying28 hi0 hz0 hz1 hz2 rfl (by decide) _ _ _ rfl HO.out ⟨b1, o1, none⟩ N c fl rfl HFL.out (HNW.out _ HB1.out) H1.out (by unfold maxLen; omega) (by omega) (by rw [World.size_alloc]; omega) ?_; intro v1 w3 hown1 hgrow1 _; have hB3 : Below W.heap.size W w3 := below_push (w := W) (Below.refl _ W) (fun k hk => (HO.out.lt k hk).1) hgrow1)
  rw [Nat.zero_add, List.nil_append] at hown1
  obtain ⟨g, cp, rfl, hgg, hpb⟩ := HPB.out _ _ hown1
  have HGE : Hid (w.heap.size ≤ g) := Lib.hid (Nat.le_trans HB0.out.size hgg)
  have HGG := Lib.hid hgg
  have HP0 : Hid (PB w3 g (mvT D S L N 0)) := Lib.hid (by rw [HZL.out]; exact hpb)
  have HB3 := Lib.hid hB3
  clear hown1 hgrow1 hB3 hpb hgg HPB HNW HB1 HO HFL H1 hi0 hz0 hz1 hz2 hDL DL hld hDN
  go_wp2
  go_loopw [8] (fun x wr => ∃ v : Nat, v ≤ N ∧ x = .int .i64 v ∧ PB wr g (mvT D S L N v) ∧ Below W.heap.size W wr) (fun x _ => N - (intOf x).toNat)
  case atStart => exact ⟨0, by omega, rfl, HP0.out, HB3.out⟩
  case round =>
    obtain ⟨v, hv, rfl, hp, hb⟩ := hrel
    obtain ⟨g0, g1⟩ := HF.out wr hb
    have HBR := Lib.hid hb
    have HPR := Lib.hid hp
    clear hp hb
    by_cases hlt : v < N
    · have i1 : (v : Int) < (N : Int) := by omega
      have i2 : (0 : Int) ≤ (v : Int) := by omega
      have HLT := Lib.hid hlt
      have HZE2 := Lib.hid (HZE.out v hlt)
      have HPS : Hid (PB wr g (mvZ D S L N v 0)) := Lib.hid (by rw [HZ0.out v hlt]; exact HPR.out)
      clear hlt
      go_wp2
      clear g0 g1
      go_loopw [9] (fun x wr => ∃ u : Nat, u ≤ N ∧ x = .int .i64 u ∧ PB wr g (mvZ D S L N v u) ∧ Below W.heap.size W wr) (fun x _ => N - (intOf x).toNat)
      case atStart => exact ⟨0, by omega, rfl, HPS.out, HBR.out⟩
      case round =>
        obtain ⟨u, hu, rfl, hp, hb⟩ := hrel
        obtain ⟨g0, g1⟩ := HF.out wr hb
        have HBR2 := Lib.hid hb
        have HPI := Lib.hid hp
        clear hp hb
        by_cases hlu : u < N
        · have j1 : (u : Int) < (N : Int) := by omega
          have j2 : (0 : Int) ≤ (u : Int) := by omega
          have HLU := Lib.hid hlu
          have hsp := HZP.out v u
          have hzs := HZS.out v u
          by_cases hvu : (v : Int) = (u : Int)
          · have d1 : ((v : Int) != (u : Int)) = false := by rw [hvu]; simp
            rw [if_pos hvu, Int.add_zero] at hsp
            have HPN : Hid (PB wr g (mvZ D S L N v (u + 1))) := Lib.hid (by
              rw [← hzs, hsp, ← HZQ.out v u HLT.out]
              have e9 : ∀ (Q : List Int), v < Q.length → Q.set v (iAt Q v) = Q := fun Q hq => by rw [← iAt_get Q v hq, List.set_getElem_self]
              rw [e9 _ (by rw [HZLN.out]; exact HLT.out)]; exact HPI.out)
            clear hsp hzs hvu hlu
            go_wp2
            go_roundw
            case rel => exact ⟨u + 1, by have := HLU.out; omega, by go_num, HPN.out, HBR2.out⟩
            case measure => have := HLU.out; simp [intOf]; omega
          · have d1 : ((v : Int) != (u : Int)) = true := by rw [bne_iff_ne]; exact hvu
            rw [if_neg hvu] at hsp
            have hbw := HBL.out v u
            have hsv := HSB.out v
            have hsu := HSB.out u
            have e1 : fS S (v : Int) = iAt S v := rfl
            have e2 : fS S (u : Int) = iAt S u := rfl
            rw [e1] at hsv hsp
            rw [e2] at hsu hsp
            have hq := HZQ.out v u HLT.out
            have hqb := HZB.out v u
            have hdb := HDB.out v HLT.out
            obtain ⟨sb, so, hsb, q1, c1⟩ := (HS0.out.keep HBR2.out).one v (by rw [hS]; exact HLT.out)
            subst hsb
            obtain ⟨b9, o9, e9, -, c2⟩ := (HS0.out.keep HBR2.out).one u (by rw [hS]; exact HLU.out)
            injection e9 with e9
            injection e9 with e8 e7
            subst e8 e7
            have hgl := HPI.out.lt
            have hp3 := HPI.out.cell v (by rw [HZLN.out]; exact HLT.out)
            obtain ⟨q, hqe⟩ : ∃ q, q = iAt (mvZ D S L N v u) v := ⟨_, rfl⟩
            rw [← hqe] at hp3 hq
            have HBTV := Lib.hid (fun y hy => HBT.out v u y hy)
            generalize betw (v : Int) (u : Int) L = m at *
            have HBT := HBTV
            have HNX : Hid ((mvZ D S L N v u).set v (q + m * (iAt S u - iAt S v)) = mvZ D S L N v (u + 1)) := Lib.hid (by rw [← hzs, hsp, hq, Int.add_assoc])
            have HQV : Hid (iAt (mvZ D S L N v u) v = q) := Lib.hid hqe.symm
            have HVL : Hid (v < (mvZ D S L N v u).length) := Lib.hid (by rw [HZLN.out]; exact HLT.out)
            have HES := Lib.hid (HE0.out.keep HBR2.out)
            have HBW2 := HBR2
            have hgw : w.heap.size < wr.heap.size := Nat.lt_of_lt_of_le (by rw [HW.out, World.size_alloc]; omega) HBR2.out.size
            have HS : Hid (∀ x, Below wr.heap.size wr x → x.cell? ⟨g, v, none⟩ = some (.int .i64 q) ∧ x.cell? ⟨w.heap.size, 0, none⟩ = some (.int .i64 (N : Int)) ∧ x.cell? ⟨w.heap.size, 1, none⟩ = some (.slice a L.length cap) ∧ x.cell? ⟨sb, so + u, none⟩ = some (.int .i64 (iAt S u)) ∧ x.cell? ⟨sb, so + v, none⟩ = some (.int .i64 (iAt S v))) := Lib.hid fun x hx => ⟨(hx.cell (p := ⟨g, v, none⟩) hgl).trans hp3, (hx.cell (p := ⟨w.heap.size, 0, none⟩) hgw).trans g0, (hx.cell (p := ⟨w.heap.size, 1, none⟩) hgw).trans g1, (hx.cell (p := ⟨sb, so + u, none⟩) q1).trans c2, (hx.cell (p := ⟨sb, so + v, none⟩) q1).trans c1⟩
            generalize iAt S u = sy at *
            generalize iAt S v = sx at *
            have m1 : -104857600 ≤ m * (sy - sx) ∧ m * (sy - sx) ≤ 104857600 := mul_bd hbw (by omega)
            have hqq : -100000000000 ≤ q ∧ q ≤ 100000000000 := by omega
            clear hsp hzs hq hqb hdb hqe e1 e2 c1 c2 q1 hp3 hgl hgw hlu
            go_wp2
            clear g0 g1
            have hj0 : Below wr.heap.size wr wr.drew := (Below.refl _ _).drew
            refine wp_region_late (S := fun u => Below wr.heap.size wr u) (X := [20]) (by kernel_rfl) ?_
            refine wpAnyL_pureD (i := 0) 28 (.slice (some ⟨g, 0, none⟩) N cp) rfl rfl (by kernel_rfl) (by kernel_rfl) (by kernel_rfl) (fun _ _ _ h => h) (Or.inl ⟨by rfl, fun u _ => ?_⟩) ?_
            · go_simp
            try simp only [Act.put, List.setIfInBounds_toArray, List.set_cons_zero, List.set_cons_succ]
            refine wpAnyL_pureD (i := 1) 29 (.int .i64 (v : Int)) rfl rfl (by kernel_rfl) (by kernel_rfl) (by kernel_rfl) (fun _ _ _ h => h) (Or.inl ⟨by rfl, fun u _ => ?_⟩) ?_
            · go_simp
            try simp only [Act.put, List.setIfInBounds_toArray, List.set_cons_zero, List.set_cons_succ]
            refine wpAnyL_pureD (i := 2) 30 (.pointer (some ⟨g, v, none⟩)) rfl rfl (by kernel_rfl) (by kernel_rfl) (by kernel_rfl) (fun _ _ _ h => h) (Or.inl ⟨by rfl, fun u _ => ?_⟩) ?_
            · go_simp
            try simp only [Act.put, List.setIfInBounds_toArray, List.set_cons_zero, List.set_cons_succ]
            refine wpAnyL_takeD (i := 3) 31 (.int .i64 q) rfl rfl (by kernel_rfl) (by kernel_rfl) (by kernel_rfl) (by kernel_rfl) (by kernel_rfl) (fun _ _ _ h => h) hj0 (Or.inl ⟨by rfl, fun u hu => ?_⟩) ?_
            · obtain ⟨t0, t1, t2, t3, t4⟩ := HS.out u hu
              go_simp
            try simp only [Act.put, List.setIfInBounds_toArray, List.set_cons_zero, List.set_cons_succ]
            refine wpAnyL_takeD (i := 4) 32 (.agg #[.int .i64 (N : Int), .slice a L.length cap]) rfl rfl (by kernel_rfl) (by kernel_rfl) (by kernel_rfl) (by kernel_rfl) (by kernel_rfl) (fun _ _ _ h => h) hj0 (Or.inl ⟨by rfl, fun u hu => ?_⟩) ?_
            · obtain ⟨t0, t1, t2, t3, t4⟩ := HS.out u hu
              go_simp
            try simp only [Act.put, List.setIfInBounds_toArray, List.set_cons_zero, List.set_cons_succ]
            refine wpAnyL_pureD (i := 5) 33 (.int .i64 (v : Int)) rfl rfl (by kernel_rfl) (by kernel_rfl) (by kernel_rfl) (fun _ _ _ h => h) (Or.inl ⟨by rfl, fun u _ => ?_⟩) ?_
            · go_simp
            try simp only [Act.put, List.setIfInBounds_toArray, List.set_cons_zero, List.set_cons_succ]
            refine wpAnyL_pureD (i := 6) 34 (.int .i64 (u : Int)) rfl rfl (by kernel_rfl) (by kernel_rfl) (by kernel_rfl) (fun _ _ _ h => h) (Or.inl ⟨by rfl, fun u _ => ?_⟩) ?_
            · go_simp
            try simp only [Act.put, List.setIfInBounds_toArray, List.set_cons_zero, List.set_cons_succ]
            refine wpAnyL_pureD (i := 8) 36 (.slice (some ⟨sb, so, none⟩) N sc) rfl rfl (by kernel_rfl) (by kernel_rfl) (by kernel_rfl) (fun _ _ _ h => h) (Or.inl ⟨by rfl, fun u _ => ?_⟩) ?_
            · go_simp
            try simp only [Act.put, List.setIfInBounds_toArray, List.set_cons_zero, List.set_cons_succ]
            refine wpAnyL_pureD (i := 9) 37 (.int .i64 (u : Int)) rfl rfl (by kernel_rfl) (by kernel_rfl) (by kernel_rfl) (fun _ _ _ h => h) (Or.inl ⟨by rfl, fun u _ => ?_⟩) ?_
            · go_simp
            try simp only [Act.put, List.setIfInBounds_toArray, List.set_cons_zero, List.set_cons_succ]
            refine wpAnyL_pureD (i := 10) 38 (.pointer (some ⟨sb, so + u, none⟩)) rfl rfl (by kernel_rfl) (by kernel_rfl) (by kernel_rfl) (fun _ _ _ h => h) (Or.inl ⟨by rfl, fun u _ => ?_⟩) ?_
            · go_simp
            try simp only [Act.put, List.setIfInBounds_toArray, List.set_cons_zero, List.set_cons_succ]
            refine wpAnyL_takeD (i := 11) 39 (.int .i64 sy) rfl rfl (by kernel_rfl) (by kernel_rfl) (by kernel_rfl) (by kernel_rfl) (by kernel_rfl) (fun _ _ _ h => h) hj0 (Or.inl ⟨by rfl, fun u hu => ?_⟩) ?_
            · obtain ⟨t0, t1, t2, t3, t4⟩ := HS.out u hu
              go_simp
            try simp only [Act.put, List.setIfInBounds_toArray, List.set_cons_zero, List.set_cons_succ]
            refine wpAnyL_pureD (i := 12) 40 (.slice (some ⟨sb, so, none⟩) N sc) rfl rfl (by kernel_rfl) (by kernel_rfl) (by kernel_rfl) (fun _ _ _ h => h) (Or.inl ⟨by rfl, fun u _ => ?_⟩) ?_
            · go_simp
            try simp only [Act.put, List.setIfInBounds_toArray, List.set_cons_zero, List.set_cons_succ]
            refine wpAnyL_pureD (i := 13) 41 (.int .i64 (v : Int)) rfl rfl (by kernel_rfl) (by kernel_rfl) (by kernel_rfl) (fun _ _ _ h => h) (Or.inl ⟨by rfl, fun u _ => ?_⟩) ?_
            · go_simp
            try simp only [Act.put, List.setIfInBounds_toArray, List.set_cons_zero, List.set_cons_succ]
            refine wpAnyL_pureD (i := 14) 42 (.pointer (some ⟨sb, so + v, none⟩)) rfl rfl (by kernel_rfl) (by kernel_rfl) (by kernel_rfl) (fun _ _ _ h => h) (Or.inl ⟨by rfl, fun u _ => ?_⟩) ?_
            · go_simp
            try simp only [Act.put, List.setIfInBounds_toArray, List.set_cons_zero, List.set_cons_succ]
            refine wpAnyL_takeD (i := 15) 43 (.int .i64 sx) rfl rfl (by kernel_rfl) (by kernel_rfl) (by kernel_rfl) (by kernel_rfl) (by kernel_rfl) (fun _ _ _ h => h) hj0 (Or.inl ⟨by rfl, fun u hu => ?_⟩) ?_
            · obtain ⟨t0, t1, t2, t3, t4⟩ := HS.out u hu
              go_simp
            try simp only [Act.put, List.setIfInBounds_toArray, List.set_cons_zero, List.set_cons_succ]
            refine wpAnyL_pureD (i := 16) 44 (.int .i64 (sy - sx)) rfl rfl (by kernel_rfl) (by kernel_rfl) (by kernel_rfl) (fun _ _ _ h => h) (Or.inl ⟨by rfl, fun u _ => ?_⟩) ?_
            · go_simp
              try (rw [IntKind.wrap_i64]; omega)
            try simp only [Act.put, List.setIfInBounds_toArray, List.set_cons_zero, List.set_cons_succ]
            refine wpAnyL_one (i := 7) (by kernel_rfl) rfl (fun K hK => ?_)
            go_simp
            go_at_call 82
            refine (HBT.out _ (HES.out.keep hj0)).mono ?_
            rintro e y ⟨rfl, hb⟩
            have hj1 : Below wr.heap.size wr y := hj0.trans (hb.mono hj0.size)
            clear hb
            show K _ _
            refine hK.out _ _ (fun _ _ => hj1) ?_
            clear hK K
            try simp only [Act.put, List.setIfInBounds_toArray, List.set_cons_zero, List.set_cons_succ]
            refine wpAnyL_pureD (i := 17) 45 (.int .i64 (m * (sy - sx))) rfl rfl (by kernel_rfl) (by kernel_rfl) (by kernel_rfl) (fun _ _ _ h => h) (Or.inl ⟨by rfl, fun u _ => ?_⟩) ?_
            · go_simp
              try (rw [IntKind.wrap_i64]; omega)
            try simp only [Act.put, List.setIfInBounds_toArray, List.set_cons_zero, List.set_cons_succ]
            refine wpAnyL_pureD (i := 18) 46 (.int .i64 (q + m * (sy - sx))) rfl rfl (by kernel_rfl) (by kernel_rfl) (by kernel_rfl) (fun _ _ _ h => h) (Or.inl ⟨by rfl, fun u _ => ?_⟩) ?_
            · go_simp
              try (rw [IntKind.wrap_i64]; omega)
            try simp only [Act.put, List.setIfInBounds_toArray, List.set_cons_zero, List.set_cons_succ]
            refine wpAnyL_pureD (i := 19) 47 (.pointer (some ⟨g, v, none⟩)) rfl rfl (by kernel_rfl) (by kernel_rfl) (by kernel_rfl) (fun _ _ _ h => h) (Or.inl ⟨by rfl, fun u _ => ?_⟩) ?_
            · go_simp
            try simp only [Act.put, List.setIfInBounds_toArray, List.set_cons_zero, List.set_cons_succ]
            have s3 : y.frozen? ⟨g, v, none⟩ = false := (HPI.out.keep hj1).frozen v
            have s4 : y.cell? ⟨g, v, none⟩ = some (.int .i64 q) := by rw [← HQV.out]; exact (HPI.out.keep hj1).cell v HVL.out
            have HPN : Hid (PB (y.setCell ⟨g, v, none⟩ (.int .i64 (q + m * (sy - sx)))) g (mvZ D S L N v (u + 1))) := Lib.hid (by rw [← HNX.out]; exact (HPI.out.keep hj1).set v _)
            have HBI2 : Hid (Below W.heap.size W (y.setCell ⟨g, v, none⟩ (.int .i64 (q + m * (sy - sx))))) := Lib.hid ((HBW2.out.trans (hj1.mono HBW2.out.size)).setCell (p := ⟨g, v, none⟩) HGG.out _)
            clear hj0 hj1
            refine wpAnyL_one (i := 20) (by kernel_rfl) rfl (fun K hK => ?_)
            go_simp
            refine hK.out _ _ (fun h => absurd (by decide) h) ?_
            clear hK K
            refine wpAnyL_done (by kernel_rfl) ?_ _
            try simp only [Act.put, List.setIfInBounds_toArray, List.set_cons_zero, List.set_cons_succ]
            go_wp2
            go_roundw
            case rel => exact ⟨u + 1, by have := HLU.out; omega, by go_num, HPN.out, HBI2.out⟩
            case measure => have := HLU.out; simp [intOf]; omega
        · obtain rfl : u = N := by omega
          have HPN : Hid (PB wr g (mvT D S L u (v + 1))) := Lib.hid (by rw [← HZE2.out]; exact HPI.out)
          go_wp2
          go_roundw
          case rel => exact ⟨v + 1, by have := HLT.out; omega, by go_num, HPN.out, HBR2.out⟩
          case measure => have := HLT.out; simp [intOf]; omega
    · obtain rfl : v = N := by omega
      have HPS : Hid (IsAt wr (some ⟨g, 0, none⟩) (chD D S L)) := Lib.hid (by rw [← HZN.out]; exact HPR.out.row)
      have HBE := Lib.hid (HB0.out.trans (HBR.out.mono HB0.out.size))
      go_wp2
      go_ret
      first | exact ⟨some ⟨g, 0, none⟩, ⟨cp, rfl⟩, HPS.out, HBE.out⟩ | exact ⟨some ⟨g, 0, none⟩, cp, rfl, HPS.out, HBE.out⟩
end Go.Proofs.Ytgejkgeojjgclaa
