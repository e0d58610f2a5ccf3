/- The law of ranks, in numbers. -/
import Derived.Test.YtlnaahkheankoaaZBd
namespace Go.Proofs.Ytlnaahkheankoaa
open Go.RowKit Go.Shelf Go.Proofs.Gr

theorem ends_mem {L : List E} (j : Nat) (hj : j < (endsG L).length) : ∃ e ∈ L, pAt (endsG L) j = (e.a, e.b) := by
  have h1 : pAt (endsG L) j ∈ endsG L := by rw [← pAt_get _ j hj]; exact List.getElem_mem hj
  unfold endsG at h1
  obtain ⟨e, he, h2⟩ := List.mem_flatMap.1 h1
  rw [List.mem_replicate] at h2
  refine ⟨e, he, ?_⟩
  unfold endsG
  exact h2.2
theorem ends_of {L : List E} {e : E} (he : e ∈ L) (hm : 1 ≤ e.m) : ∃ j, j < (endsG L).length ∧ pAt (endsG L) j = (e.a, e.b) := by
  have h1 : (e.a, e.b) ∈ endsG L := by
    unfold endsG
    exact List.mem_flatMap.2 ⟨e, he, List.mem_replicate.2 ⟨by omega, rfl⟩⟩
  obtain ⟨j, hj, h2⟩ := List.getElem_of_mem h1
  exact ⟨j, hj, by rw [← pAt_get _ j hj]; exact h2⟩
theorem arc_heads {n : Int} {L : List E} (hR : Right n L) (O : List Bool) : ∀ j, j < (arcs (endsG L) O).length → 0 ≤ (pAt (arcs (endsG L) O) j).2 ∧ (pAt (arcs (endsG L) O) j).2 < ((n.toNat : Nat) : Int) := fun j hj => by
  have h1 := arcs_rng hR O j hj
  have := hR.lo
  omega
theorem loop_not {n : Int} {L : List E} (hR : Right n L) (O : List Bool) (e : E) (he : e ∈ L) (hl : e.a = e.b) : acyB n L O = false := by
  obtain ⟨j, hj, h1⟩ := ends_of he (by have := hR.rng e he; omega)
  have h2 : pAt (arcs (endsG L) O) j = (e.a, e.b) := by
    rw [arcs_at _ _ _ hj]
    unfold arcP
    rw [h1, hl]
    split <;> rfl
  have h3 := arc_heads hR O
  have h4 := srt_loop (A := arcs (endsG L) O) (N := n.toNat) j (by rw [arcs_len]; exact hj) (by rw [h2]; exact hl) (h3 j (by rw [arcs_len]; exact hj)) n.toNat
  obtain ⟨r1, -⟩ := srt_ref h3
  unfold acyB
  cases hb : srtB (arcs (endsG L) O) n.toNat with
  | false => rfl
  | true => have := (r1 hb).2; omega
/-- Facts of an order. -/
theorem ord_idx {S : List Int} (hz : ∀ i, i < S.length → 0 ≤ iAt S i ∧ iAt S i < S.length ∧ (S.take i).contains (iAt S i) = false) (v : Int) (h0 : 0 ≤ v) (h1 : v < S.length) : ∃ k : Nat, k < S.length ∧ Lib.idxOf S v = k ∧ iAt S k = v := by
  rcases idx_cases S v with ⟨-, h⟩ | ⟨k, h2, h3, h4, -⟩
  · obtain ⟨i, hi, e⟩ := ord_surj hz v h0 h1
    exact absurd e (h i hi)
  · exact ⟨k, h2, h3, h4⟩
theorem bit_aln {n : Int} {L : List E} {S : List Int} (hk : chkG n L = 0) (hr : renE n S = 0) (j : Nat) (hj : j < (endsG L).length) : bAt (ordR n L S) j = alnF (endsG L) S j := by
  rw [← aln_eq hk hr]
  unfold bAt
  rw [List.getD_eq_getElem?_getD, List.getElem?_map, List.getElem?_range hj]; rfl
theorem ord_acy {n : Int} {L : List E} {S : List Int} (hk : chkG n L = 0) (hr : renE n S = 0) (hn : ∀ e ∈ L, e.a ≠ e.b) : acyB n L (ordR n L S) = true := by
  have hR := right_of hk
  have h0 := hR.lo
  obtain ⟨hl, hz⟩ := ren_at hr
  have hz2 : ∀ i, i < S.length → 0 ≤ iAt S i ∧ iAt S i < S.length ∧ (S.take i).contains (iAt S i) = false := fun i hi => by have := hz i hi; rw [hl]; exact this
  have h3 := arc_heads hR (ordR n L S)
  obtain ⟨-, r2⟩ := srt_ref h3
  unfold acyB
  cases hb : srtB (arcs (endsG L) (ordR n L S)) n.toNat with
  | true => rfl
  | false =>
    have h4 := (r2 hb).1
    have h5 := srt_full (A := arcs (endsG L) (ordR n L S)) (N := n.toNat) (fun T hT hrg hlen => by
      rcases ord_miss S T S.length (Nat.le_refl _) with h | ⟨i, hi, h6, h7⟩
      · have h8 := nodup_len (l := S) (m := T) (ord_nodup hz2) (fun x hx => by
          obtain ⟨i, hi, rfl⟩ := List.getElem_of_mem hx
          rw [iAt_get S i hi]; exact h i hi)
        omega
      · have h8 := hz2 i hi
        refine ⟨(iAt S i).toNat, by omega, ?_⟩
        have ev : (((iAt S i).toNat : Nat) : Int) = iAt S i := by omega
        unfold canT
        rw [ev, Bool.and_eq_true, Bool.not_eq_true']
        refine ⟨by
          cases hc : T.contains (iAt S i) with
          | false => rfl
          | true => rw [List.contains_iff_mem] at hc; exact absurd hc h6, free_yes fun j hj => ?_⟩
        rw [arcs_len] at hj
        unfold badB
        rw [arcs_at _ _ _ hj]
        obtain ⟨e, he, hpe⟩ := ends_mem j hj
        have hne := hn e he
        have hrg2 := hR.rng e he
        obtain ⟨x, hx1, hx2, hx3⟩ := ord_idx hz2 e.a (by omega) (by omega)
        obtain ⟨y, hy1, hy2, hy3⟩ := ord_idx hz2 e.b (by omega) (by omega)
        have hbit := bit_aln hk hr j hj
        unfold alnF at hbit
        rw [hpe, hx2, hy2] at hbit
        unfold arcP
        rw [hbit, hpe]
        -- a tail that stands earlier has been taken
        have hin : ∀ t u : Nat, t < u → iAt S u = iAt S i → u < S.length → T.contains (iAt S t) = true := fun t u htu e3 hu => by
          have e4 : u = i := by
            rcases Nat.lt_trichotomy u i with h9 | h9 | h9
            · exact absurd e3 (ord_inj hz2 h9 hi)
            · exact h9
            · exact absurd e3.symm (ord_inj hz2 h9 hu)
          rw [List.contains_iff_mem]
          exact h7 t (by omega)
        have hxy : x ≠ y := fun e3 => hne (by rw [← hx3, ← hy3, e3])
        by_cases hle : (x : Int) ≤ (y : Int)
        · rw [decide_eq_true hle, if_pos rfl]
          simp only
          cases hh : (e.b == iAt S i) with
          | false => rfl
          | true =>
            rw [beq_iff_eq] at hh
            have := hin x y (by omega) (by rw [hy3]; exact hh) hy1
            rw [hx3] at this
            rw [this]; rfl
        · rw [decide_eq_false hle, if_neg (by decide)]
          simp only
          cases hh : (e.a == iAt S i) with
          | false => rfl
          | true =>
            rw [beq_iff_eq] at hh
            have := hin y x (by omega) (by rw [hx3]; exact hh) hx1
            rw [hy3] at this
            rw [this]; rfl) n.toNat (Nat.le_refl _)
    omega
/-- An acyclic orientation is that of its order. -/
theorem acy_ord {n : Int} {L : List E} {O : List Bool} (hk : chkO n L O = 0) (hb : acyB n L O = true) : renE n (acyL n L O) = 0 ∧ ordR n L (acyL n L O) = O ∧ ((acyL n L O).length : Int) = n := by
  have hg := (chkO_zero hk).1
  have hR := right_of hg
  have h0 := hR.lo
  have hol := chkO_len hk
  have h3 := arc_heads hR O
  obtain ⟨r1, -⟩ := srt_ref h3
  obtain ⟨e1, e2⟩ := r1 hb
  have hs := srt_all (arcs (endsG L) O) n.toNat n.toNat
  have el : acyL n L O = srtR (arcs (endsG L) O) n.toNat n.toNat := e1.symm
  rw [el]
  generalize hl : srtR (arcs (endsG L) O) n.toNat n.toNat = l at *
  have hlen : (l.length : Int) = n := by omega
  have hnot : ∀ i, i < l.length → (l.take i).contains (iAt l i) = false := fun i hi => by
    cases hc : (l.take i).contains (iAt l i) with
    | false => rfl
    | true =>
      rw [List.contains_iff_mem] at hc
      obtain ⟨x, hx, e⟩ := List.getElem_of_mem hc
      rw [List.length_take] at hx
      rw [List.getElem_take, iAt_get l x (by omega)] at e
      have := List.pairwise_iff_getElem.1 hs.nodup x i (by omega) hi (by omega)
      rw [iAt_get l x (by omega), iAt_get l i hi] at this
      exact absurd e this
  have hrg : ∀ i, i < l.length → 0 ≤ iAt l i ∧ iAt l i < n := fun i hi => by
    have := hs.rng (iAt l i) (by rw [← iAt_get l i hi]; exact List.getElem_mem hi)
    omega
  have hr : renE n l = 0 := by
    unfold renE
    rw [if_neg (by omega)]
    refine firstE_zero fun i hi => ?_
    unfold nErr
    rw [if_neg (by have := hrg i hi; omega), if_neg (by rw [hnot i hi]; decide)]
  refine ⟨hr, ?_, hlen⟩
  have hz2 : ∀ i, i < l.length → 0 ≤ iAt l i ∧ iAt l i < l.length ∧ (l.take i).contains (iAt l i) = false := fun i hi => by
    have := hrg i hi; rw [hlen]; exact ⟨this.1, this.2, hnot i hi⟩
  refine list_bAt (by unfold ordR; rw [ordL_len]; exact hol) fun j hj => ?_
  unfold ordR at hj
  rw [ordL_len] at hj
  rw [bit_aln hg hr j hj]
  have har := arcs_rng hR O j (by rw [arcs_len]; exact hj)
  have hpe := ends_rng hR j hj
  -- the tail stands before the head
  have key : ∀ t h : Int, arcP (endsG L) O j = (t, h) → 0 ≤ t → t < n → 0 ≤ h → h < n → Lib.idxOf l t < Lib.idxOf l h := fun t h e9 a1 a2 a3 a4 => by
    obtain ⟨x, hx1, hx2, hx3⟩ := ord_idx hz2 t (by omega) (by omega)
    obtain ⟨y, hy1, hy2, hy3⟩ := ord_idx hz2 h (by omega) (by omega)
    have h5 := hs.free y hy1
    rw [hy3] at h5
    have h6 := free_arc h5 j (by rw [arcs_len]; exact hj) (by rw [arcs_at _ _ _ hj, e9])
    rw [arcs_at _ _ _ hj, e9, List.contains_iff_mem] at h6
    obtain ⟨z, hz, e⟩ := List.getElem_of_mem h6
    rw [List.length_take] at hz
    rw [List.getElem_take, iAt_get l z (by omega)] at e
    have e3 : iAt l z = t := e
    have e4 : z = x := by
      rcases Nat.lt_trichotomy z x with h9 | h9 | h9
      · exact absurd (e3.trans hx3.symm) (ord_inj hz2 h9 hx1)
      · exact h9
      · exact absurd (hx3.trans e3.symm) (ord_inj hz2 h9 (by omega))
    rw [hx2, hy2]; omega
  unfold alnF
  cases hbo : bAt O j with
  | true =>
    have := key (pAt (endsG L) j).1 (pAt (endsG L) j).2 (by unfold arcP; rw [hbo, if_pos rfl]) hpe.1.1 hpe.1.2 hpe.2.1 hpe.2.2
    exact decide_eq_true (by omega)
  | false =>
    have := key (pAt (endsG L) j).2 (pAt (endsG L) j).1 (by unfold arcP; rw [hbo, if_neg (by decide)]) hpe.2.1 hpe.2.2 hpe.1.1 hpe.1.2
    exact decide_eq_false (by omega)
/-- Its first vertex is the first source. -/
theorem acy_src {n : Int} {L : List E} {O : List Bool} (hk : chkO n L O = 0) (hb : acyB n L O = true) : 0 < (srcO n L O).length ∧ iAt (srcO n L O) 0 = iAt (acyL n L O) 0 := by
  have hg := (chkO_zero hk).1
  have hR := right_of hg
  have h0 := hR.lo
  have h3 := arc_heads hR O
  obtain ⟨r1, -⟩ := srt_ref h3
  obtain ⟨e1, e2⟩ := r1 hb
  obtain ⟨v, hv, hc, hm, hh⟩ := srt_head (arcs (endsG L) O) n.toNat n.toNat (by omega)
  have el : acyL n L O = srtR (arcs (endsG L) O) n.toNat n.toNat := e1.symm
  have hin : ∀ u : Nat, u < n.toNat → (iAt (inO n L O) u = 0 ↔ canT (arcs (endsG L) O) [] u = true) := fun u hu => by
    unfold inO canT
    rw [inL_at _ _ _ _ hu, ← cnt_nil]
    rw [show ([] : List Int).contains (u : Int) = false from rfl, Bool.not_false, Bool.true_and, ← cnt_free]
    omega
  have h5 := src_first (inO n L O) n.toNat v hv ((hin v hv).2 hc) (fun u hu e => by
    have := (hin u (by omega)).1 e
    rw [hm u hu] at this; cases this)
  rw [el, hh]
  exact h5
theorem acy_none {n : Int} {L : List E} {O : List Bool} (hk : chkO n L O = 0) (hb : acyB n L O = false) : acyL n L O = [] := by
  have hR := right_of (chkO_zero hk).1
  obtain ⟨-, r2⟩ := srt_ref (arc_heads hR O)
  exact (r2 hb).2
end Go.Proofs.Ytlnaahkheankoaa
