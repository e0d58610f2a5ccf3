/- Subsets of single edges; graphs with some single edges. -/
import Derived.Test.YtgfbihdnjidodaaZPj
namespace Go.Proofs.Ytgfbihdnjidodaa
open Go.RowKit Go.Shelf Go.Proofs.Gr
attribute [local go_sem] Oper.semAt_some

/-- The numbers of a subset; the pairs of a list of numbers. -/
def subL (w : Nat) : Nat → List Int
  | 0 => []
  | e + 1 => subL w e ++ (if (w / 2 ^ e) % 2 = 1 then [(e : Int)] else [])
theorem subL_len (w e : Nat) : (subL w e).length ≤ e := by
  induction e with
  | zero => simp [subL]
  | succ e ih => rw [subL, List.length_append]; split <;> simp <;> omega
theorem subL_mem (w e : Nat) : ∀ x ∈ subL w e, 0 ≤ x ∧ x < e := by
  induction e with
  | zero => simp [subL]
  | succ e ih =>
    intro x hx
    rw [subL, List.mem_append] at hx
    rcases hx with hx | hx
    · have := ih x hx; omega
    · split at hx
      · simp at hx; omega
      · simp at hx
def selP (P : List (Int × Int)) (l : List Int) : Nat → List (Int × Int)
  | 0 => []
  | i + 1 => selP P l i ++ [pAt P (iAt l i).toNat]
theorem selP_len (P : List (Int × Int)) (l : List Int) (i : Nat) : (selP P l i).length = i := by
  induction i with
  | zero => rfl
  | succ i ih => rw [selP, List.length_append, ih]; rfl
theorem selP_mem (P : List (Int × Int)) (l : List Int) (i : Nat) (h : ∀ j, j < i → (iAt l j).toNat < P.length) : ∀ p ∈ selP P l i, p ∈ P := by
  induction i with
  | zero => simp [selP]
  | succ i ih =>
    intro p hp
    rw [selP, List.mem_append] at hp
    rcases hp with hp | hp
    · exact ih (fun j hj => h j (by omega)) p hp
    · rw [List.mem_singleton] at hp
      have hl := h i (by omega)
      rw [hp, ← pAt_get P _ hl]
      exact List.getElem_mem hl
set_option maxHeartbeats 12800000 in
set_option maxRecDepth 100000 in
theorem rpower2_any (n : Nat) (hn : n ≤ 20) (w : World) : Calls Try.prog 33 #[.int .i64 2, .int .i64 n] w (fun e x => e = .returned (.int .i64 ((2 ^ n : Nat) : Int)) ∧ Below w.heap.size w x) := by
  have HPS : Hid (∀ i : Nat, ((2 ^ (i + 1) : Nat) : Int) = ((2 ^ i : Nat) : Int) * 2) := Lib.hid (fun i => by rw [Nat.pow_succ]; simp)
  have HPB : Hid (∀ i : Nat, i ≤ 20 → 0 ≤ ((2 ^ i : Nat) : Int) ∧ ((2 ^ i : Nat) : Int) ≤ 1048576) := Lib.hid (fun i hi => by
    have := Nat.pow_le_pow_right (show 0 < 2 by omega) hi
    have e : 2 ^ 20 = 1048576 := by decide
    exact ⟨Int.natCast_nonneg _, Int.ofNat_le.2 (by omega)⟩)
  have HP0 : Hid (((2 ^ 0 : Nat) : Int) = 1) := Lib.hid rfl
  generalize hpf : (fun i : Nat => ((2 ^ i : Nat) : Int)) = PF at *
  have HPF : Hid (∀ i : Nat, ((2 ^ i : Nat) : Int) = PF i) := Lib.hid (fun i => by rw [← hpf])
  simp only [HPF.out] at HPS HPB HP0
  rw [HPF.out]
  clear hpf HPF
  go_enter Try.func33, Try.ntmps33
  go_wp2
  go_loopw [5, 6] (fun y x wr => ∃ i : Nat, i ≤ n ∧ x = .int .i64 i ∧ y = .int .i64 (PF i) ∧ Below w.heap.size w wr) (fun _ x _ => n - (intOf x).toNat)
  case atStart => exact ⟨0, by omega, rfl, by rw [HP0.out], Below.refl _ _⟩
  case round =>
    obtain ⟨i, hi, rfl, rfl, hb⟩ := hrel
    have HBW := Lib.hid hb
    by_cases hlt : i < n
    · have i1 : (i : Int) < (n : Int) := by omega
      have hps := HPS.out i
      have hpb := HPB.out (i + 1) (by omega)
      rw [hps] at hpb
      have e1 : IntKind.i64.wrap (PF i * 2) = PF i * 2 := IntWalk.i64_in _ (by omega)
      have HPSn := Lib.hid hps
      clear hb hps hpb
      go_wp2
      go_roundw
      case rel => exact ⟨i + 1, by omega, by go_num, by rw [HPSn.out], HBW.out⟩
      case measure => simp [intOf]; omega
    · obtain rfl : i = n := by omega
      have i1 : ¬ (i : Int) < (i : Int) := by omega
      clear hb
      go_wp2
      go_ret
      exact ⟨rfl, HBW.out⟩
set_option maxHeartbeats 12800000 in
set_option maxRecDepth 100000 in
theorem rsubsetN_any (n u : Nat) (hn : n ≤ 20) (hu : u ≤ 1048576) (w : World) : Calls Try.prog 34 #[.int .i64 n, .int .i64 u] w (GivesO w (subL u n)) := by
  obtain ⟨i0, hi0, hz0, hz1, hz2⟩ := info_parts infoI
  have HL0 : Hid (subL u 0 = []) := Lib.hid rfl
  have HLS : Hid (∀ e, subL u (e + 1) = subL u e ++ (if (u / 2 ^ e) % 2 = 1 then [(e : Int)] else [])) := Lib.hid fun _ => rfl
  have HLL := Lib.hid (subL_len u)
  have HD0 : Hid (((u / 2 ^ 0 : Nat) : Int) = u) := Lib.hid (by simp)
  have HDS : Hid (∀ e, u / 2 ^ (e + 1) = u / 2 ^ e / 2) := Lib.hid (fun e => by rw [Nat.pow_succ, Nat.div_div_eq_div_mul])
  have HDB : Hid (∀ e, u / 2 ^ e ≤ 1048576) := Lib.hid (fun e => Nat.le_trans (Nat.div_le_self _ _) hu)
  generalize subL u = Q at *
  generalize hdf : (fun e => u / 2 ^ e) = D at *
  have HDF : Hid (∀ e, u / 2 ^ e = D e) := Lib.hid (fun e => by rw [← hdf])
  simp only [HDF.out] at HLS HD0 HDS HDB
  clear hdf HDF
  unfold GivesO
  go_enter Try.func34, Try.ntmps34
  go_wp2
  go_loopw [1, 5, 6] (fun q s x wr => ∃ i : Nat, i ≤ n ∧ x = .int .i64 i ∧ q = .int .i64 ((D i : Nat) : Int) ∧ wr.ownsRow w.heap.size 3 1 s (Q i).length (flat encI (Q i)) ∧ Below w.heap.size w wr) (fun _ _ x _ => n - (intOf x).toNat)
  case atStart => exact ⟨0, by omega, rfl, by rw [HD0.out], by rw [HL0.out]; exact World.ownsRow_nil _ _ _ _, Below.refl _ _⟩
  case round =>
    obtain ⟨i, hi, rfl, rfl, hown, hbw⟩ := hrel
    have HOW := Lib.hid hown
    have HBR := Lib.hid hbw
    by_cases hlt : i < n
    · have i1 : (i : Int) < (n : Int) := by omega
      have hs := HLS.out i
      have hll := HLL.out i
      have hcd := HDS.out i
      have hdb := HDB.out i
      have HDD0 := Lib.hid hcd
      generalize D i = c at *
      generalize Q i = PP at *
      obtain ⟨d, hd⟩ : ∃ d, d = c / 2 := ⟨_, rfl⟩
      have HDD : Hid (D (i + 1) = d) := Lib.hid (by rw [HDD0.out, hd])
      have e1 : ((c : Nat) : Int).tdiv 2 = (d : Int) := by rw [hd, Int.tdiv_eq_ediv_of_nonneg (by omega)]; simp
      have hdr : d ≤ 1048576 := by omega
      clear hd HDD0
      by_cases hbit : c % 2 = 1
      · have e0 : ((c : Nat) : Int).tmod 2 = 1 := by rw [Int.tmod_eq_emod_of_nonneg (by omega)]; omega
        rw [if_pos hbit] at hs
        have HSn := Lib.hid hs
        clear hown hbw hs hbit hcd
        go_wp2_with (at_builtin; refine wpList_append_own _ rfl _ _ 22 rfl w.heap.size 3 i0 (.int .i64 0) 1 8 Try.underlying22 hi0 hz0 hz1 hz2 rfl (by decide) _ _ _ rfl (HOW.out.alloc _) ⟨wr.heap.size, 0, none⟩ 1 1 [.int .i64 (i : Int)] rfl rfl (lit_row _ _ _) (by simp [Value.oneCell']) (by unfold maxLen; omega) (by omega) (by rw [World.size_alloc]; have := HBR.out.size; omega) ?_; intro v1 w3 hown1 hgrow1 hnil; clear hnil; have HO3 : Hid (w3.ownsRow w.heap.size 3 1 v1 (PP ++ [(i : Int)]).length (flat encI (PP ++ [(i : Int)]))) := Lib.hid (by rw [List.length_append, flatI_snoc]; exact hown1); have HB3 : Hid (Below w.heap.size w w3) := Lib.hid (below_push (w := w) HBR.out (fun k hk => (HOW.out.lt k hk).1) hgrow1); clear hown1 hgrow1)
        go_roundw
        case rel => exact ⟨i + 1, by omega, by go_num, by rw [HDD.out], by rw [HSn.out]; exact HO3.out, HB3.out⟩
        case measure => simp [intOf]; omega
      · have e0 : ((c : Nat) : Int).tmod 2 = 0 := by rw [Int.tmod_eq_emod_of_nonneg (by omega)]; omega
        rw [if_neg hbit, List.append_nil] at hs
        have HSn := Lib.hid hs
        clear hown hbw hs hbit hcd
        go_wp2
        go_roundw
        case rel => exact ⟨i + 1, by omega, by go_num, by rw [HDD.out], by rw [HSn.out]; exact HOW.out, HBR.out⟩
        case measure => simp [intOf]; omega
    · obtain rfl : i = n := by omega
      have i1 : ¬ (i : Int) < (i : Int) := by omega
      clear hown hbw
      go_wp2
      go_ret
      exact ⟨_, rfl, HOW.out, HBR.out⟩
set_option maxHeartbeats 12800000 in
set_option maxRecDepth 100000 in
theorem rwith_any (n : Int) (a : Option Addr) (cap : Nat) (L : List E) (hL : L.length ≤ 100000) (hR : Right n L) (b : Option Addr) (cp : Nat) (l : List Int) (hl : l.length ≤ 1000) (hr : ∀ j, j < l.length → 0 ≤ iAt l j ∧ iAt l j < (endsG L).length) (m : Int) (J2 : List E) (HM : Hid (∀ b cp w, PsAt w b (selP (endsG L) l l.length) → Calls Try.prog 45 #[.int .i64 n, .slice b (selP (endsG L) l l.length).length cp] w (GivesGE w m J2 0))) (w : World) (h : EsAt w a L) (h2 : IsAt w b l) : Calls Try.prog 35 #[gv n a L.length cap, .slice b l.length cp] w (GivesG w m J2) := by
  obtain ⟨i0, hi0, hz0, hz1, hz2⟩ := info_parts infoP
  have HEN := Lib.hid (fun w h => rends_any n a cap L hL hR w h)
  have HP0 : Hid (selP (endsG L) l 0 = []) := Lib.hid rfl
  have HPS : Hid (∀ i, selP (endsG L) l (i + 1) = selP (endsG L) l i ++ [pAt (endsG L) (iAt l i).toNat]) := Lib.hid fun _ => rfl
  have HPL := Lib.hid (selP_len (endsG L) l)
  have HRG := Lib.hid hr
  have hPl := ends_all hR
  unfold GivesP at HEN
  unfold GivesGE at HM
  unfold GivesG
  generalize endsG L = P at *
  generalize selP P l = F at *
  unfold gv at *
  obtain ⟨W, hW⟩ : ∃ W, W = (w.alloc (Obj.cells #[.int .i64 n, .slice a L.length cap] 31)).alloc (Obj.cells #[.int .i64 0, .slice none 0 0] 31) := ⟨_, rfl⟩
  have HB0 : Hid (Below w.heap.size w W) := Lib.hid (by rw [hW]; exact ((Below.refl _ w).alloc (Nat.le_refl _) _).alloc (by simp) _)
  have HX : Hid (BoxAt W w.heap.size n a L.length cap) := Lib.hid (by rw [hW]; exact (Blk.new _ _ _).alloc _)
  have HR1 : Hid (Blk W (w.heap.size + 1) 31 #[.int .i64 0, .slice none 0 0]) := Lib.hid (by
    rw [hW]
    have := Blk.new (w.alloc (Obj.cells #[.int .i64 n, .slice a L.length cap] 31)) 31 #[.int .i64 0, .slice none 0 0]
    rwa [World.size_alloc] at this)
  have HWS : Hid (W.heap.size = w.heap.size + 2) := Lib.hid (by rw [hW]; simp)
  have HE := Lib.hid (h.keep HB0.out)
  have HI := Lib.hid (h2.keep HB0.out)
  have HW := Lib.hid hW
  have g0 : W.cell? ⟨w.heap.size, 0, none⟩ = some (.int .i64 n) := HX.out.cell 0
  have g1 : W.cell? ⟨w.heap.size, 1, none⟩ = some (.slice a L.length cap) := HX.out.cell 1
  have hPm : P.length ≤ 5000000 := by omega
  clear hW h h2 hr hR hPl
  go_enter Try.func35, Try.ntmps35
  go_wp2_with fail
  rw [← HW.out]
  go_wp2_with fail
  refine (HEN.out _ HE.out).mono ?_
  rintro e x1 ⟨ae, ce, rfl, hps, hb1⟩
  have HB1 := Lib.hid hb1
  have HX1 := Lib.hid (HX.out.keep hb1)
  have HI1 := Lib.hid (HI.out.keep hb1)
  have HPS1 := Lib.hid hps
  clear hb1 hps g0 g1
  go_wp2
  go_loopw [6, 7] (fun s x wr => ∃ i : Nat, i ≤ l.length ∧ x = .int .i64 i ∧ wr.ownsRow x1.heap.size 56 2 s (F i).length (flat encP (F i)) ∧ Below x1.heap.size x1 wr) (fun _ x _ => l.length - (intOf x).toNat)
  case atStart => exact ⟨0, by omega, rfl, by rw [HP0.out]; exact World.ownsRow_nil _ _ _ _, Below.refl _ _⟩
  case round =>
    obtain ⟨i, hi, rfl, hown, hbw⟩ := hrel
    have HOW := Lib.hid hown
    have HBR := Lib.hid hbw
    by_cases hlt : i < l.length
    · have i1 : (i : Int) < (l.length : Int) := by omega
      have i2 : (0 : Int) ≤ (i : Int) := by omega
      obtain ⟨bb, oo, ea, q1, y1⟩ := (HI1.out.keep hbw).one i hlt
      subst ea
      obtain ⟨hk0, hk1⟩ := HRG.out i hlt
      obtain ⟨k, hk⟩ : ∃ k : Nat, iAt l i = (k : Int) := ⟨(iAt l i).toNat, by omega⟩
      have hs := HPS.out i
      have hll := HPL.out i
      rw [hk, Int.toNat_natCast] at hs
      rw [hk] at y1
      have hkl : k < P.length := by omega
      have k1 : (k : Int) < (P.length : Int) := by omega
      have k2 : (0 : Int) ≤ (k : Int) := by omega
      obtain ⟨be, oe, ee, q2, y2, y3⟩ := (HPS1.out.keep hbw).two k hkl
      subst ee
      generalize hpp : pAt P k = T at *
      obtain ⟨px, py⟩ := T
      simp only at y2 y3
      have HSn := Lib.hid hs
      generalize F i = PP at *
      clear hown hbw hs hpp hk
      go_wp2_with (at_builtin; refine wpList_append_own _ rfl _ _ 54 rfl x1.heap.size 56 i0 (.agg #[.int .i64 0, .int .i64 0]) 2 16 Try.underlying54 hi0 hz0 hz1 hz2 rfl (by decide) _ _ _ rfl (HOW.out.alloc _) ⟨wr.heap.size, 0, none⟩ 1 1 [.int .i64 px, .int .i64 py] rfl rfl (lit_row _ _ _) (by simp [Value.oneCell']) (by unfold maxLen; omega) (by omega) (by rw [World.size_alloc]; have := HBR.out.size; omega) ?_; intro v1 w3 hown1 hgrow1 hnil; clear hnil; have HO3 : Hid (w3.ownsRow x1.heap.size 56 2 v1 (PP ++ [(px, py)]).length (flat encP (PP ++ [(px, py)]))) := Lib.hid (by rw [List.length_append, flatP_snoc]; exact hown1); have HB3 : Hid (Below x1.heap.size x1 w3) := Lib.hid (below_push (w := x1) HBR.out (fun k hk => (HOW.out.lt k hk).1) hgrow1); clear hown1 hgrow1)
      go_roundw
      case rel => exact ⟨i + 1, by omega, by go_num, by rw [HSn.out]; exact HO3.out, HB3.out⟩
      case measure => simp [intOf]; omega
    · obtain rfl : i = l.length := by omega
      have i1 : ¬ (l.length : Int) < (l.length : Int) := by omega
      have HBX := Lib.hid (HB1.out.trans (hbw.mono HB1.out.size))
      have hX := HX1.out.keep hbw
      have g0 : wr.cell? ⟨w.heap.size, 0, none⟩ = some (.int .i64 n) := hX.cell 0
      have g1 : wr.cell? ⟨w.heap.size, 1, none⟩ = some (.slice a L.length cap) := hX.cell 1
      obtain ⟨sa, sc, hsv, hps⟩ := RowAt.of_own encP_len hown
      subst hsv
      have HPS := Lib.hid hps
      clear hown hbw hps hX
      go_wp2_with fail
      refine (HM.out sa sc _ HPS.out).mono ?_
      rintro e x3 ⟨a2, c2, rfl, -, he3, hb3⟩
      have HB3 := Lib.hid (HBX.out.trans (hb3.mono HBX.out.size))
      clear hb3 g0 g1
      have hy : Below x3.heap.size x3 (x3.alloc (Obj.cells #[.int .i64 m, .slice a2 J2.length c2] 31)) := (Below.refl _ _).alloc (Nat.le_refl _) _
      have he2 := own_keep he3 hy
      have hjY : Below W.heap.size W (x3.alloc (Obj.cells #[.int .i64 m, .slice a2 J2.length c2] 31)) := HB3.out.trans (hy.mono HB3.out.size)
      clear hy he3
      have hRr : Blk (x3.alloc (Obj.cells #[.int .i64 m, .slice a2 J2.length c2] 31)) (w.heap.size + 1) 31 #[.int .i64 0, .slice none 0 0] := HR1.out.below hjY HR1.out.lt
      have hkB : w.heap.size + 1 < wr.heap.size := by have := HBX.out.size; have := HWS.out; omega
      have HOWN := Lib.hid ((ownsRow_setCell_below (ownsRow_setCell_below he2 (a := ⟨w.heap.size + 1, 0, none⟩) hkB (.int .i64 m)) (a := ⟨w.heap.size + 1, 1, none⟩) hkB (.slice a2 J2.length c2)).mono (base' := w.heap.size) (by omega))
      obtain ⟨r1, r3, r2, r4, r5, r6, hes, hbf⟩ := tail_facts (x3.alloc (Obj.cells #[.int .i64 m, .slice a2 J2.length c2] 31)) wr.heap.size (w.heap.size + 1) w.heap.size m J2 a2 c2 he2 hkB hRr
      have HES := Lib.hid hes
      have HBF := Lib.hid (hbf w (HB0.out.trans (hjY.mono HB0.out.size)) (by omega))
      clear hRr hes hbf hkB
      clear he2 hjY
      go_wp2
      refine bodyPost_ret (v := .agg #[.int .i64 m, .slice a2 J2.length c2]) (by simp [results, Try.results35, go_sem, r5, r6]) rfl ?_
      exact ⟨a2, c2, rfl, HES.out, HOWN.out, HBF.out⟩
end Go.Proofs.Ytgfbihdnjidodaa
