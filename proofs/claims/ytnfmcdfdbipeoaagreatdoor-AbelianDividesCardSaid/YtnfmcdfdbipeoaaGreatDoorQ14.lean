/- Walks of the words' functions: long division; and: Walks of the words' functions: quotients of all numbers. -/
import Derived.Test.YtnfmcdfdbipeoaaGreatDoorQ10
import Derived.Test.YtnfmcdfdbipeoaaGreatDoorQ12
namespace Go.Proofs.YtnfmcdfdbipeoaaGreatDoor
open Go.RowKit Go.Proofs.Num

theorem cells_words {w : World} {b off cap : Nat} {l : List Nat} (h : RdAt .u64 135 w b off cap l) : ∀ j v, (cellsOf .u64 l)[j]? = some v → w.cell? ((⟨b, off, none⟩ : Addr).add j) = some v := by
  intro j v hj
  have hlt : j < l.length := by
    have := (List.getElem?_eq_some_iff.1 hj).1
    rwa [cellsOf_length] at this
  rw [cellsOf_at _ _ _ hlt] at hj
  cases hj
  have h1 := h.cell j hlt
  unfold Addr.add
  split
  · rename_i h0; subst h0; simpa using h1
  · simpa using h1

theorem nth_seg2 (R : List Nat) (i k j : Nat) (hj : j < k) : nth ((R.drop i).take k) j = nth R (i + j) := by
  simp [nth, List.getD, hj, List.getElem?_drop]

theorem reduce_any' (v p A : List Nat) (word n : Nat) (hn : v.length = n) (hw : word < 1000000000) (hv : ∀ x ∈ v, x < 1000000000) (hp : ∀ x ∈ p, x < 1000000000) (hl : n + 1 ≤ p.length) (hsm : n ≤ 2147483647)
    (B g N i c1 b2 o2 c2 : Nat) (hi : i = A.length) (w : World) (hown : w.ownsRow B 135 1 (.slice (some ⟨g, 0, none⟩) N N) N (cellsOf .u64 (A ++ p))) (hb : b2 ≠ g)
    (h2 : ∀ j, j < n → w.cell? ⟨b2, o2 + j, none⟩ = some (.int .u64 ((nth v j : Nat) : Int))) :
    Calls Tryz.prog 172 #[.slice (some ⟨g, i, none⟩) (n + 1) c1, .slice (some ⟨b2, o2, none⟩) n c2, .int .u64 word] w fun e w' =>
      ∃ (r : Nat) (o : List Nat), e = .returned (.bool (decide (0 < r))) ∧ RedI p v word (v.length + 1) 0 r o ∧ w'.ownsRow B 135 1 (.slice (some ⟨g, 0, none⟩) N N) N (cellsOf .u64 (A ++ o)) ∧ Sole g w w' := by
  subst hn
  exact reduce_any v p A word hw hv hp hl hsm B g N i c1 b2 o2 c2 hi w hown hb h2

theorem restore_any' (v p A : List Nat) (n : Nat) (hn : v.length = n) (hv : ∀ x ∈ v, x < 1000000000) (hp : ∀ x ∈ p, x < 1000000000) (hl : n + 1 ≤ p.length) (hsm : n ≤ 2147483647)
    (B g N i c1 b2 o2 c2 : Nat) (hi : i = A.length) (w : World) (hown : w.ownsRow B 135 1 (.slice (some ⟨g, 0, none⟩) N N) N (cellsOf .u64 (A ++ p))) (hb : b2 ≠ g)
    (h2 : ∀ j, j < n → w.cell? ⟨b2, o2 + j, none⟩ = some (.int .u64 ((nth v j : Nat) : Int))) :
    Calls Tryz.prog 173 #[.slice (some ⟨g, i, none⟩) (n + 1) c1, .slice (some ⟨b2, o2, none⟩) n c2] w fun e w' =>
      (∃ ev, e = .returned ev) ∧ ∃ (c : Nat) (o : List Nat), RstI p v (v.length + 1) c o ∧ w'.ownsRow B 135 1 (.slice (some ⟨g, 0, none⟩) N N) N (cellsOf .u64 (A ++ o)) ∧ Sole g w w' := by
  subst hn
  exact restore_any v p A hv hp hl hsm B g N i c1 b2 o2 c2 hi w hown hb h2

theorem divideWord_back (v' : Value) (x f : Nat) (w : World) (h : Wd w v' (x * f)) (hl : (dig 1000000000 (x * f)).length ≤ 4294967295) (hf1 : 1 ≤ f) (hf2 : f ≤ 500000000) : Calls Tryz.prog 160 #[v', .int .u64 f] w (Gives2 w x 0) := by
  by_cases h0 : x = 0
  · subst h0
    rw [Nat.zero_mul] at h
    obtain ⟨a, k, cap, rfl⟩ := Rd.sh h
    obtain rfl : k = 0 := (Wd.len h).2.2 rfl
    exact divideWord_none a cap f w hf1 (by omega)
  · have hne : x * f ≠ 0 := by
      have := Nat.mul_pos (show 0 < x by omega) (show 0 < f by omega)
      omega
    have := wdivideWord_any v' (x * f) f w h hl hne hf1 (by omega)
    rwa [Nat.mul_div_cancel _ (by omega), Nat.mul_mod_left] at this

theorem hsz102 : (Tryz.prog.info? 135).map (·.size) = some 1 := by kernel_rfl

set_option maxHeartbeats 6400000 in
set_option maxRecDepth 100000 in
/-- words.divideLong -/
theorem divideLong_any (v1 v2 : Value) (U D : Nat) (w : World) (h1 : Wd w v1 U) (h2 : Wd w v2 D) (hlen : 2 ≤ (dig 1000000000 D).length) (hle : D ≤ U) (hU : (dig 1000000000 U).length ≤ 1073741823) :
    Calls Tryz.prog 161 #[v1, v2] w (Gives2 w (U / D) (U % D)) := by
  obtain ⟨m, hm⟩ : ∃ m, (dig 1000000000 D).length = m + 2 := ⟨(dig 1000000000 D).length - 2, by omega⟩
  obtain ⟨t, ht⟩ : ∃ t, (dig 1000000000 U).length = m + 2 + t := ⟨(dig 1000000000 U).length - (m + 2), by have := dig_length_mono (b := 1000000000) (by omega) hle; omega⟩
  obtain ⟨b2, o2, c2, rfl, g2⟩ : ∃ b off cap, v2 = .slice (some ⟨b, off, none⟩) (m + 2) cap ∧ RdAt .u64 135 w b off cap (dig 1000000000 D) := by
    rcases h2 with ⟨h, _⟩ | ⟨b, off, cap, rfl, h⟩
    · rw [h] at hm; simp at hm
    · exact ⟨b, off, cap, by rw [hm], h⟩
  obtain ⟨b1, o1, c1, rfl, g1⟩ : ∃ b off cap, v1 = .slice (some ⟨b, off, none⟩) (m + 2 + t) cap ∧ RdAt .u64 135 w b off cap (dig 1000000000 U) := by
    rcases h1 with ⟨h, _⟩ | ⟨b, off, cap, rfl, h⟩
    · rw [h] at ht; simp at ht; omega
    · exact ⟨b, off, cap, by rw [ht], h⟩
  obtain ⟨x, hx⟩ : ∃ x, x = nth (dig 1000000000 D) (m + 1) := ⟨_, rfl⟩
  obtain ⟨f, hf⟩ : ∃ f, f = 1000000000 / (x + 1) := ⟨_, rfl⟩
  have hL := lead hm hx f hf
  have hxB : x < 1000000000 := by rw [hx]; exact nth_lt (by omega) _ (dig9_lt D) _
  have hc0 : w.cell? ⟨b2, o2 + (m + 1), none⟩ = some (.int .u64 ((x : Nat) : Int)) := by rw [hx]; exact g2.cell (m + 1) (by omega)
  have hne : (((x : Nat) : Int) + 1 == 0) = false := by simp; omega
  have hff : (1000000000 : Int) / (((x : Nat) : Int) + 1) = ((f : Nat) : Int) := by
    rw [hf, Int.natCast_ediv]; rfl
  have hf1 := hL.f1
  have hf2 := hL.f2
  have hsz : m + 2 + t ≤ 1073741823 := by omega
  obtain ⟨i0, hi, hz0, hz1, hz2⟩ := info_parts info102
  have HH : Hid (Wd w (.slice (some ⟨b1, o1, none⟩) (m + 2 + t) c1) U ∧ Wd w (.slice (some ⟨b2, o2, none⟩) (m + 2) c2) D ∧ (dig 1000000000 D).length = m + 2 ∧ (dig 1000000000 U).length = m + 2 + t ∧ Lead D f m) := ⟨h1, h2, hm, ht, hL⟩
  have HI := Lib.hid hi
  have HZ0 := Lib.hid hz0
  have HZ1 := Lib.hid hz1
  have HZ2 := Lib.hid hz2
  clear h1 h2 hm ht hL hx hf g1 g2 hlen hle hU hi hz0 hz1 hz2
  go_enter Tryz.func161, Tryz.ntmps161
  go_wp2_with fail
  have hfw : ∀ w : World, Wd (w.alloc (.cells #[.int .u64 ((f : Nat) : Int)] 135)) (.slice (some ⟨w.heap.size, 0, none⟩) 1 1) f := fun w => by
    unfold Wd
    rw [dig_one (by omega) (by omega)]
    exact rd_one w f
  have HF := Lib.hid hfw
  clear hfw
  refine (wtimes_any _ _ D f _ (HH.out.2.1.keep (below1 _ _)) (HF.out w) (by rw [HH.out.2.2.1]; omega) (by rw [dig_one (by omega) (by omega)]; simp)).mono ?_
  rintro e w1 ⟨v3, rfl, ⟨a3, k3, c3, rfl⟩, hV, hb1⟩
  obtain ⟨b3, o3, hv3, gV⟩ : ∃ b off, (Value.slice a3 k3 c3) = .slice (some ⟨b, off, none⟩) (m + 2) c3 ∧ RdAt .u64 135 w1 b off c3 (dig 1000000000 (D * f)) := by
    have hl := HH.out.2.2.2.2.len
    rcases hV with ⟨h, _⟩ | ⟨b, off, cap, he, h⟩
    · rw [h] at hl; simp at hl
    · simp only [Value.slice.injEq] at he
      obtain ⟨rfl, rfl, rfl⟩ := he
      exact ⟨b, off, by rw [hl], h⟩
  rw [hv3]
  have hb31 : b3 < w1.heap.size := gV.lt
  have HGV := Lib.hid gV
  have HB1 : Hid (Below w.heap.size w w1) := (below1 _ _).trans (hb1.mono (below1 _ _).size)
  clear hV hv3 gV hb1
  go_wp2_with (at_make; refine wpList_make_full _ rfl _ _ 102 rfl w1.heap.size 135 i0 (.int .u64 0) 1 Tryz.underlying102 HI.out HZ0.out HZ1.out _ _ _ _ (m + 2 + t + 1) rfl rfl (by omega) (by omega) ?b2 ?b3 (Nat.le_refl _) ?_)
  case b2 => rw [HZ2.out]; omega
  case b3 => unfold maxLen; omega
  intro w2 hown2 hgrow2
  rw [toList_madeCells_one, ← cellsOf_replicate] at hown2
  have hb12 : Below w1.heap.size w1 w2 := (Below.refl _ _).grown hgrow2 (Nat.le_refl _) (fun k h => by cases h)
  obtain ⟨hg2, -, hmax2, -⟩ := own_block hown2
  have hg2lt : w1.heap.size < w2.heap.size := (Array.getElem?_eq_some_iff.1 hg2).1
  have HG2 := Lib.hid hg2
  have HB12 := Lib.hid hb12
  have hUB := Lib.hid (HH.out.1.keep (HB1.out.trans (hb12.mono HB1.out.size)))
  clear hown2 hgrow2 hg2 hb12
  go_wp2_with fail
  refine (wtimes_any _ _ U f _ (hUB.out.keep (below1 _ _)) (HF.out w2) (by rw [HH.out.2.2.2.1]; omega) (by rw [dig_one (by omega) (by omega)]; simp)).mono ?_
  rintro e w3 ⟨v4, rfl, ⟨a4, k4, c4, rfl⟩, hW, hb3⟩
  have hb23 : Below w2.heap.size w2 w3 := (below1 _ _).trans (hb3.mono (below1 _ _).size)
  have hg3 : w3.heap[w1.heap.size]? = some (.cells (cellsOf .u64 (List.replicate (m + 2 + t + 1) 0)).toArray 135 (0, 0)) := (hb23.block _ hg2lt).trans HG2.out
  have hb13 : Below w1.heap.size w1 w3 := HB12.out.trans (hb23.mono HB12.out.size)
  have hlW : (dig 1000000000 (U * f)).length ≤ m + 2 + t + 1 := by
    have h5 := lt_pow_dig (b := 1000000000) (by omega) U
    rw [HH.out.2.2.2.1] at h5
    refine dig_length_le (by omega) _ _ ?_
    rw [Nat.pow_succ]
    exact Nat.mul_lt_mul_of_lt_of_le h5 (by omega) (by omega)
  have hk4 := (Wd.len hW).1
  have HW := Lib.hid hW
  have HG3 := Lib.hid hg3
  have HB13 := Lib.hid hb13
  have HLW := Lib.hid hlW
  have HK4 := Lib.hid hk4
  clear hW hb3 hb23 hg3 hb13 hlW hk4
  go_wp2_with (with_reducible refine wpList_copy_splice rfl (.tmp 28) (.tmp 32) 102 102 rfl 135 Tryz.underlying102 hsz102 (some ⟨w1.heap.size, 0, none⟩) a4 (m + 2 + t + 1) (m + 2 + t + 1) k4 c4 rfl rfl w1.heap.size 0 (cellsOf .u64 (List.replicate (m + 2 + t + 1) 0)) 135 HG3.out (cellsOf .u64 (dig 1000000000 (U * f))) ?c1 ?c2 ?c3 ?c4 w1.heap.size w1 HB13.out (Nat.le_refl _) ?_)
  case c1 => rw [cellsOf_length, HK4.out]; exact (Nat.min_eq_left HLW.out).symm
  case c2 =>
    intro h0
    rcases HW.out with ⟨h, _⟩ | ⟨b, off, cap, he, h⟩
    · rw [h] at h0; simp [cellsOf] at h0
    · simp only [Value.slice.injEq] at he
      obtain ⟨rfl, -, -⟩ := he
      first | exact ⟨rfl, _, rfl, cells_words h⟩ | exact ⟨_, rfl, cells_words h⟩
  case c3 => rw [cellsOf_length, cellsOf_length, List.length_replicate]; have := HLW.out; omega
  case c4 => intro v hv; obtain ⟨n, -, rfl⟩ := List.mem_map.1 hv; rfl
  intro w4 hg4 hb14
  have hg4' := hg4.out
  rw [splice_zeros _ _ _ HLW.out] at hg4'
  obtain ⟨R0, hR0⟩ : ∃ R0, R0 = dig 1000000000 (U * f) ++ List.replicate (m + 2 + t + 1 - (dig 1000000000 (U * f)).length) 0 := ⟨_, rfl⟩
  rw [← hR0] at hg4'
  have hR0l : R0.length = m + 2 + t + 1 := by rw [hR0, List.length_append, List.length_replicate]; have := HLW.out; omega
  have hR0v : val 1000000000 R0 = U * f := by rw [hR0, val_zeros, val_dig9]
  have hR0b : ∀ x ∈ R0, x < 1000000000 := by
    intro y hy
    rw [hR0] at hy
    rcases List.mem_append.1 hy with hy | hy
    · exact dig9_lt _ y hy
    · have := List.eq_of_mem_replicate hy; omega
  have hown4 : w4.ownsRow w.heap.size 135 1 (.slice (some ⟨w1.heap.size, 0, none⟩) (m + 2 + t + 1) (m + 2 + t + 1)) (m + 2 + t + 1) (cellsOf .u64 R0) :=
    own_of hg4' HB1.out.size (by rw [cellsOf_length]; exact hR0l) hmax2
  have HR0 : Hid (R0.length = m + 2 + t + 1 ∧ val 1000000000 R0 = U * f ∧ ∀ x ∈ R0, x < 1000000000) := ⟨hR0l, hR0v, hR0b⟩
  have HOWN4 := Lib.hid hown4
  have HB14 := Lib.hid hb14
  have hql : ((m : Nat) : Int) + 2 + ((t : Nat) : Int) - (((m : Nat) : Int) + 2) + 1 = ((t : Nat) : Int) + 1 := by omega
  clear hg4 hg4' hR0 hR0l hR0v hR0b hown4 hb14 hmax2 hg2lt
  go_wp2_with (at_make; refine wpList_make_full _ rfl _ _ 102 rfl w4.heap.size 135 i0 (.int .u64 0) 1 Tryz.underlying102 HI.out HZ0.out HZ1.out _ _ _ _ (t + 1) rfl rfl (by omega) (by omega) ?b4 ?b5 (Nat.le_refl _) ?_)
  case b4 => rw [HZ2.out]; omega
  case b5 => unfold maxLen; omega
  intro w5 hown5 hgrow5
  rw [toList_madeCells_one, ← cellsOf_replicate] at hown5
  have hb45 : Below w4.heap.size w4 w5 := (Below.refl _ _).grown hgrow5 (Nat.le_refl _) (fun k h => by cases h)
  have hs14 : w1.heap.size ≤ w4.heap.size := HB14.out.size
  obtain ⟨hq5, -, hmaxq, -⟩ := own_block hown5
  have hq5lt : w4.heap.size < w5.heap.size := (Array.getElem?_eq_some_iff.1 hq5).1
  have hg4lt : w1.heap.size < w4.heap.size := (Array.getElem?_eq_some_iff.1 (own_block HOWN4.out).1).1
  have hownQ : w5.ownsRow w.heap.size 135 1 (.slice (some ⟨w4.heap.size, 0, none⟩) (t + 1) (t + 1)) (t + 1) (cellsOf .u64 (List.replicate (t + 1) 0)) :=
    own_of hq5 (Nat.le_trans HB1.out.size hs14) (by rw [cellsOf_length, List.length_replicate]) hmaxq
  have hownR := own_below HOWN4.out hb45
  have hb15 : Below w1.heap.size w1 w5 := HB14.out.trans (hb45.mono HB14.out.size)
  obtain ⟨vv, hvv⟩ : ∃ vv, vv = dig 1000000000 (D * f) := ⟨_, rfl⟩
  have hld := HH.out.2.2.2.2
  have hvl : vv.length = m + 2 := by rw [hvv]; exact hld.len
  have hvb : ∀ x ∈ vv, x < 1000000000 := by rw [hvv]; exact dig9_lt _
  have hvt : 500000000 ≤ nth vv (m + 1) := by rw [hvv]; exact hld.top
  have hvv2 : val 1000000000 vv = D * f := by rw [hvv, val_dig9]
  have hstart : LngI vv (U * f) (t + 1) (t + 1) R0 (List.replicate (t + 1) 0) := by
    refine LngI.start (f := f) (vt := 0) (by omega) ?_ ?_ HR0.out.2.1 HR0.out.2.2 (by rw [HR0.out.1]; omega) (by omega) rfl
    · rw [hvl, hvv2]; exact hld.low
    · have h5 := lt_pow_dig (b := 1000000000) (by omega) U
      rw [HH.out.2.2.2.1] at h5
      rw [show vv.length + (t + 1) - 1 = m + 2 + t by omega, Nat.mul_comm]
      exact Nat.mul_lt_mul_of_pos_left h5 (by omega)
  have hV0 : 0 < val 1000000000 vv := by
    have := hstart.lt
    omega
  have HVV : Hid (vv.length = m + 2 ∧ (∀ x ∈ vv, x < 1000000000) ∧ 500000000 ≤ nth vv (m + 1) ∧ val 1000000000 vv = D * f ∧ 0 < val 1000000000 vv) := ⟨hvl, hvb, hvt, hvv2, hV0⟩
  have HGV2 : Hid (RdAt .u64 135 w1 b3 o3 c3 vv) := by rw [hvv]; exact HGV.out
  have HST := Lib.hid hstart
  have HOQ := Lib.hid hownQ
  have HOR := Lib.hid hownR
  have HB15 := Lib.hid hb15
  clear hown5 hgrow5 hb45 hq5 hmaxq hownQ hownR hb15 hvv hld hvl hvb hvt hvv2 hstart hV0
  go_wp2
  go_loopw [9] (fun si wr => ∃ (j : Nat) (R Q : List Nat), j ≤ t + 1 ∧ si = .int .i64 (((j : Nat) : Int) - 1) ∧
      wr.ownsRow w.heap.size 135 1 (.slice (some ⟨w1.heap.size, 0, none⟩) (m + 2 + t + 1) (m + 2 + t + 1)) (m + 2 + t + 1) (cellsOf .u64 R) ∧
      wr.ownsRow w.heap.size 135 1 (.slice (some ⟨w4.heap.size, 0, none⟩) (t + 1) (t + 1)) (t + 1) (cellsOf .u64 Q) ∧
      LngI vv (U * f) (t + 1) j R Q ∧ Below w1.heap.size w1 wr)
    (fun si _ => (intOf si + 1).toNat)
  case atStart => exact ⟨t + 1, R0, _, Nat.le_refl _, by go_num, HOR.out, HOQ.out, HST.out, HB15.out⟩
  case round =>
    obtain ⟨j, R, Q, hj, rfl, hownR, hownQ, hI, hB⟩ := hrel
    by_cases h0 : j = 0
    · subst h0
      obtain ⟨e1, e2⟩ := hI.stop
      rw [HVV.out.2.2.2.1, Nat.mul_div_mul_right _ _ (by omega)] at e1
      rw [HVV.out.2.2.2.1, Nat.mul_mod_mul_right] at e2
      have hlR : R.length = m + 2 + t + 1 := by have := hI.lr; have := HVV.out.1; omega
      have hrdR : Rd .u64 135 wr (.slice (some ⟨w1.heap.size, 0, none⟩) (m + 2 + t + 1) (m + 2 + t + 1)) R := by
        rw [← hlR]
        refine Rd.of_own (base := w.heap.size) (T := 135) ?_
        rw [hlR]; exact hownR
      have hrdQ : Rd .u64 135 wr (.slice (some ⟨w4.heap.size, 0, none⟩) (t + 1) (t + 1)) Q := by
        rw [← hI.lq]
        refine Rd.of_own (base := w.heap.size) (T := 135) ?_
        rw [hI.lq]; exact hownQ
      have HRD : Hid (Rd .u64 135 wr (.slice (some ⟨w1.heap.size, 0, none⟩) (m + 2 + t + 1) (m + 2 + t + 1)) R ∧ Rd .u64 135 wr (.slice (some ⟨w4.heap.size, 0, none⟩) (t + 1) (t + 1)) Q ∧ (∀ x ∈ R, x < 1000000000) ∧ (∀ x ∈ Q, x < 1000000000) ∧ R.length = m + 2 + t + 1 ∧ Q.length = t + 1) := ⟨hrdR, hrdQ, hI.br, hI.bq, hlR, hI.lq⟩
      have E1 := Lib.hid e1
      have E2 := Lib.hid e2
      have HBR := Lib.hid hB
      have hlb : (dig 1000000000 (U % D * f)).length ≤ 4294967295 := by
        rw [← e2]
        refine Nat.le_trans (dig_length_le (by omega) R.length _ (val_lt (by omega) R hI.br)) (by omega)
      have HLB := Lib.hid hlb
      clear hownR hownQ hI hB e1 e2 hlR hrdR hrdQ hlb
      go_wp2_with fail
      refine (trim_any _ R _ HRD.out.1 HRD.out.2.2.1 (by rw [HRD.out.2.2.2.2.1]; omega)).mono ?_
      rintro e w' ⟨v', rfl, hw, rfl⟩
      rw [E2.out] at hw
      obtain ⟨a', k', cap', rfl⟩ := Rd.sh hw
      go_wp2_with fail
      refine (divideWord_back _ (U % D) f _ hw HLB.out hf1 hf2).mono ?_
      rintro e w6 ⟨vq, vr, rfl, hq, hr, hb6⟩
      obtain ⟨aq, kq, cq, rfl⟩ := Rd.sh hq
      obtain ⟨ar, kr, cr, rfl⟩ := Rd.sh hr
      go_wp2_with fail
      refine (trim_any _ Q _ (HRD.out.2.1.keep hb6) HRD.out.2.2.2.1 (by rw [HRD.out.2.2.2.2.2]; omega)).mono ?_
      rintro e w' ⟨v', rfl, hw2, rfl⟩
      rw [E1.out] at hw2
      obtain ⟨a2, k2, cap2, rfl⟩ := Rd.sh hw2
      go_wp2
      go_ret2
      exact ⟨_, _, rfl, hw2, hq, HB1.out.trans ((HBR.out.mono HB1.out.size).trans (hb6.mono (Nat.le_trans HB1.out.size HBR.out.size)))⟩
    · obtain ⟨i, rfl⟩ : ∃ i, j = i + 1 := ⟨j - 1, by omega⟩
      have HOR := Lib.hid hownR
      have HOQ := Lib.hid hownQ
      have HIN := Lib.hid hI
      have HBR := Lib.hid hB
      rw [show (((i + 1 : Nat) : Int) - 1) = (i : Int) by omega]
      clear hownR hownQ hI hB h0
      have hit : i ≤ t := by omega
      have hvc : ∀ j, j < m + 2 → wr.cell? ⟨b3, o3 + j, none⟩ = some (.int .u64 ((nth vv j : Nat) : Int)) := fun j hj => (HBR.out.cell (p := ⟨b3, o3 + j, none⟩) hb31).trans (HGV2.out.cell j (by rw [HVV.out.1]; exact hj))
      have HVC := Lib.hid hvc
      obtain ⟨hGs, hGv⟩ := lng_gs HIN.out HVV.out.2.1 (by omega) HVV.out.1 HVV.out.2.2.1
      have hpc : ∀ j, j < m + 3 → wr.cell? ⟨w1.heap.size, i + j, none⟩ = some (.int .u64 ((nth ((R.drop i).take (m + 3)) j : Nat) : Int)) := fun j hj => by
        rw [HOR.out.cellAt (i + j) (by omega), cellsOf_at _ _ _ (by rw [HIN.out.lr, HVV.out.1]; omega), nth_seg2 _ _ _ _ hj]
      have HPC := Lib.hid hpc
      have HGS := Lib.hid hGs
      have HGVV := Lib.hid hGv
      have hil : i = (R.take i).length := by rw [List.length_take, HIN.out.lr]; omega
      have HIL := Lib.hid hil
      clear hvc hGs hGv hpc hil
      go_wp2_with fail
      rw [show i + (m + 2) + 1 - i = m + 3 by omega]
      refine (guess_any m vv ((R.drop i).take (m + 3)) HGS.out (by omega) w1.heap.size i _ b3 o3 c3 _ HPC.out HVC.out).mono ?_
      rintro e w6 ⟨⟨word, rfl, hw, hq1, hq2⟩, n, rfl⟩
      rw [HGVV.out] at hq1 hq2
      have HQ : Hid (val 1000000000 (R.drop i) / val 1000000000 vv ≤ word ∧ word ≤ val 1000000000 (R.drop i) / val 1000000000 vv + 1) := ⟨hq1, hq2⟩
      clear hq1 hq2
      go_wp2_with fail
      refine (reduce_any' vv (R.drop i) (R.take i) word (m + 2) HVV.out.1 hw HVV.out.2.1 (fun x hx => HIN.out.br x (List.mem_of_mem_drop hx)) (by rw [List.length_drop, HIN.out.lr, HVV.out.1]; omega) (by omega)
        w.heap.size w1.heap.size (m + 2 + t + 1) i _ b3 o3 c3 HIL.out (wr.drewN n) (by rw [List.take_append_drop]; exact HOR.out) (by omega) HVC.out).mono ?_
      rintro e w7 ⟨r, o, rfl, hRI, hown7, hS7⟩
      have hr1 : r ≤ 1 := hRI.2.2.2.1
      have hS7' : Sole w1.heap.size wr w7 := ((Sole.refl _ wr).drewN n).trans hS7
      have hownQ7 := own_sole HOQ.out hS7' (by omega)
      have hb7 : Below w1.heap.size w1 w7 := HBR.out.trans (hS7'.below (Nat.le_refl _))
      have HRI := Lib.hid hRI
      have HOWN7 := Lib.hid hown7
      have HB7 := Lib.hid hb7
      have HQ7 := Lib.hid hownQ7
      have HVC7 : Hid (∀ j, j < m + 2 → w7.cell? ⟨b3, o3 + j, none⟩ = some (.int .u64 ((nth vv j : Nat) : Int))) := fun j hj => (hS7'.cell b3 (o3 + j) (by omega)).trans (HVC.out j hj)
      clear hRI hown7 hS7 hS7' hb7 hownQ7
      rcases (show r = 0 ∨ r = 1 by omega) with rfl | rfl
      · have hl := Lib.hid (lng_right HIN.out HVV.out.2.1 (by omega) HVV.out.2.2.2.2 HRI.out HQ.out.1 hw)
        have hqc : w7.cell? ⟨w4.heap.size, i, none⟩ = some (.int .u64 ((nth Q i : Nat) : Int)) := by
          rw [HQ7.out.cellAt i (by omega), cellsOf_at _ _ _ (by rw [HIN.out.lq]; omega)]
        have hqf : w7.frozen? ⟨w4.heap.size, i, none⟩ = false := HQ7.out.frozenAt i
        have hst := HQ7.out.stored i (.int .u64 ((word : Nat) : Int))
        rw [← cellsOf_set] at hst
        have HSQ : Hid _ := hst.1
        have HSR := Lib.hid (own_sole HOWN7.out ((Sole.refl w4.heap.size w7).store i (.int .u64 ((word : Nat) : Int))) (by omega))
        have HSB := Lib.hid (HB7.out.setCell (p := ⟨w4.heap.size, i, none⟩) hs14 (.int .u64 ((word : Nat) : Int)))
        clear hst
        go_wp2
        go_roundw
        case rel => exact ⟨i, _, _, by omega, by go_num, HSR.out, HSQ.out, hl.out, HSB.out⟩
        case measure => simp [intOf]
      · obtain ⟨hA1, hA2, hA3, -, -, -, -⟩ := HRI.out
        have HA : Hid (o.length = (R.drop i).length ∧ ∀ x ∈ o, x < 1000000000) := ⟨hA1, hA2⟩
        clear hA1 hA2 hA3
        go_wp2_with fail
        refine (restore_any' vv o (R.take i) (m + 2) HVV.out.1 HVV.out.2.1 HA.out.2 (by rw [HA.out.1, List.length_drop, HIN.out.lr, HVV.out.1]; omega) (by omega)
          w.heap.size w1.heap.size (m + 2 + t + 1) i _ b3 o3 c3 HIL.out w7 HOWN7.out (by omega) HVC7.out).mono ?_
        rintro e w8 ⟨⟨ev, rfl⟩, c, o2, hRS, hown8, hS8⟩
        obtain ⟨hw1, hl0⟩ := lng_wrong HIN.out HVV.out.2.1 (by omega) HVV.out.2.2.2.2 HRI.out hRS HQ.out.2 hw
        have hl := Lib.hid hl0
        have hQ8 := own_sole HQ7.out hS8 (by omega)
        have hb8 : Below w1.heap.size w1 w8 := HB7.out.trans (hS8.below (Nat.le_refl _))
        have hqc : w8.cell? ⟨w4.heap.size, i, none⟩ = some (.int .u64 ((nth Q i : Nat) : Int)) := by
          rw [hQ8.cellAt i (by omega), cellsOf_at _ _ _ (by rw [HIN.out.lq]; omega)]
        have hqf : w8.frozen? ⟨w4.heap.size, i, none⟩ = false := hQ8.frozenAt i
        have hst := hQ8.stored i (.int .u64 (((word - 1 : Nat) : Nat) : Int))
        rw [← cellsOf_set] at hst
        have hsr := own_sole hown8 ((Sole.refl w4.heap.size w8).store i (.int .u64 (((word - 1 : Nat) : Nat) : Int))) (by omega)
        have hsb := hb8.setCell (p := ⟨w4.heap.size, i, none⟩) hs14 (.int .u64 (((word - 1 : Nat) : Nat) : Int))
        rw [show (((word - 1 : Nat) : Nat) : Int) = (word : Int) - 1 by omega] at hst hsr hsb
        have HSQ : Hid _ := hst.1
        have HSR := Lib.hid hsr
        have HSB := Lib.hid hsb
        clear hst hsr hsb hl0 hRS hown8 hS8 hQ8 hb8
        go_wp2
        go_roundw
        case rel => exact ⟨i, _, _, by omega, by go_num, HSR.out, HSQ.out, hl.out, HSB.out⟩
        case measure => simp [intOf]
end Go.Proofs.YtnfmcdfdbipeoaaGreatDoor

namespace Go.Proofs.YtnfmcdfdbipeoaaGreatDoor
open Go.RowKit Go.Proofs.Num

theorem wdivide_long (v1 v2 : Value) (m n : Nat) (w : World) (h1 : Wd w v1 m) (h2 : Wd w v2 n) (hl : 2 ≤ (dig 1000000000 n).length) (hge : n ≤ m) (hm : (dig 1000000000 m).length ≤ 1073741823) :
    Calls Tryz.prog 147 #[v1, v2] w (Gives2 w (m / n) (m % n)) := by
  have H1 := h1
  have H2 := h2
  obtain ⟨a1, k1, p1, rfl⟩ := Rd.sh h1
  obtain ⟨a2, k2, p2, rfl⟩ := Rd.sh h2
  have hk2 := (Wd.len H2).1
  have hc : decide (cmpN m n < 0) = false := by unfold cmpN; rw [if_neg (by omega)]; split <;> simp
  have hk1 : ((k2 : Int) == 1) = false := by simp; omega
  have HL : Hid ((dig 1000000000 m).length ≤ 4294967295 ∧ (dig 1000000000 n).length ≤ 4294967295 ∧ 2 ≤ (dig 1000000000 n).length ∧ n ≤ m ∧ (dig 1000000000 m).length ≤ 1073741823) :=
    ⟨by omega, by have := dig_length_mono (b := 1000000000) (by omega) hge; omega, hl, hge, hm⟩
  clear hk2 hm hl hge
  go_enter Tryz.func147, Tryz.ntmps147
  go_wp2_with fail
  refine (wcompare_any _ _ m n _ h1 H2 HL.out.1 HL.out.2.1).mono ?_
  rintro e w' ⟨he, kk, rfl⟩
  generalize cmpN m n = cc at *
  subst he
  go_wp2_with fail
  refine (divideLong_any _ _ m n _ (h1.keep (below_drewN (Below.refl _ _) kk)) (H2.keep (below_drewN (Below.refl _ _) kk)) HL.out.2.2.1 HL.out.2.2.2.1 HL.out.2.2.2.2).mono ?_
  rintro e w1 ⟨q1, r1, rfl, hq, hr, hb⟩
  obtain ⟨a3, k3, p3, rfl⟩ := Rd.sh hq
  obtain ⟨a4, k4, p4, rfl⟩ := Rd.sh hr
  go_wp2
  go_ret2
  exact ⟨_, _, rfl, hq, hr, (below_drewN (Below.refl _ _) kk).trans hb⟩

/-- words.divide: all divisors. -/
theorem divTo_all (M : Nat) : DivTo M := by
  intro v1 v2 m n w h1 h2 h0 hn hm hl
  rcases Nat.lt_or_ge m n with h | h
  · exact wdivide_lt v1 v2 m n w h1 h2 h hm hl
  · rcases Nat.lt_or_ge n 1000000000 with hs | hs
    · exact wdivide_word v1 v2 m n w h1 h2 h0 hs h hm
    · refine wdivide_long v1 v2 m n w h1 h2 ?_ h hm
      apply Classical.byContradiction
      intro hlt
      have h3 := lt_pow_dig (b := 1000000000) (by omega) n
      have h4 : 1000000000 ^ (dig 1000000000 n).length ≤ 1000000000 ^ 1 := Nat.pow_le_pow_right (by omega) (by omega)
      rw [Nat.pow_one] at h4
      omega
end Go.Proofs.YtnfmcdfdbipeoaaGreatDoor
