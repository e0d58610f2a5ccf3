/- The new numbers of single edges, by the program: the walk. And: New numbers of vertices and single edges, by the program. And: Divisors that are collected, by the program. And: A graph in which two vertices are merged, by the program. -/
import Derived.Test.YtndjjafpdiehdaaQ12
import Derived.Test.YtndjjafpdiehdaaQ15
namespace Go.Proofs.Ytndjjafpdiehdaa
open Go.RowKit Go.Shelf Go.Proofs.Gr
attribute [local go_sem] Oper.semAt_some

/-- The first numbers but one. -/
def othN (e : Nat) (i : Nat) : List Nat := (List.range i).filter fun j => decide (j ≠ e)
theorem othN_succ (e i : Nat) : othN e (i + 1) = othN e i ++ (if i = e then [] else [i]) := by
  unfold othN
  rw [List.range_succ, List.filter_append]
  by_cases h : i = e <;> simp [h]
theorem othN_le (e i : Nat) : (othN e i).length ≤ i := by
  have := List.length_filter_le (fun j => decide (j ≠ e)) (List.range i)
  rw [List.length_range] at this
  exact this
theorem othN_mem (e i j : Nat) : j ∈ othN e i ↔ j < i ∧ j ≠ e := by unfold othN; simp
theorem othN_asc (e i : Nat) : (othN e i).Pairwise (· < ·) := List.Pairwise.filter _ List.pairwise_lt_range
theorem othN_few (e i : Nat) (he : e < i) : (othN e i).length < i := by
  have h1 := othN_le e i
  rcases Nat.lt_or_ge (othN e i).length i with h | h
  · exact h
  · have h2 : (othN e i).length = i := by omega
    have h3 : (List.range i).length ≤ (othN e i).length := by rw [List.length_range]; omega
    have h4 : othN e i = List.range i := List.Sublist.eq_of_length_le List.filter_sublist h3
    have h5 : e ∈ othN e i := by rw [h4]; exact List.mem_range.2 he
    rw [othN_mem] at h5
    exact absurd rfl h5.2
def castL (D : List Nat) : List Int := D.map fun x : Nat => (x : Int)
theorem castL_len (D : List Nat) : (castL D).length = D.length := by unfold castL; rw [List.length_map]
theorem castL_at (D : List Nat) (p : Nat) (h : p < D.length) : iAt (castL D) p = (D.getD p 0 : Nat) := by
  rw [← iAt_get _ p (by rw [castL_len]; exact h)]
  unfold castL
  rw [List.getElem_map, List.getD_eq_getElem?_getD, List.getElem?_eq_getElem h]; rfl
theorem castL_snoc (D : List Nat) (i : Nat) : castL (D ++ [i]) = castL D ++ [(i : Int)] := by unfold castL; rw [List.map_append]; rfl
set_option maxHeartbeats 12800000 in
set_option maxRecDepth 100000 in
theorem pnumbers_any (b o c : Nat) (Q : List (Int × Int)) (hQl : Q.length ≤ 20) (e : Nat) (he : e < Q.length) (w : World) (h : PsAt w (some ⟨b, o, none⟩) Q) :
    Calls Try.prog 68 #[.slice (some ⟨b, o, none⟩) Q.length c, .int .i64 e, cmpV] w (GivesI w (plc Q e)) := by
  obtain ⟨i0, hi0, hz0, hz1, hz2⟩ := info_parts infoI
  have hbw : b < w.heap.size := by
    obtain ⟨b1, o1, h1, h2, -⟩ := h.two 0 (by omega)
    injection h1 with h1
    injection h1 with h1
    rw [h1]; exact h2
  have HOS := Lib.hid (fun i => othN_succ e i)
  have HOL := Lib.hid (fun i => othN_le e i)
  have HOA := Lib.hid (othN_asc e Q.length)
  have HOM := Lib.hid (fun j => othN_mem e Q.length j)
  have HOF := Lib.hid (othN_few e Q.length he)
  have HO0 : Hid (othN e 0 = []) := Lib.hid rfl
  have HPC := Lib.hid (fun M hM hm => setM_plc (Q := Q) he (M := M) hM hm)
  have HPL := Lib.hid (plc_len Q e)
  generalize plc Q e = R at *
  generalize othN e = F at *
  unfold GivesI
  unfold cmpV
  obtain ⟨W, hW⟩ : ∃ W, W = (w.alloc (Obj.cells #[.slice (some ⟨b, o, none⟩) Q.length c] 56)).alloc (Obj.cells #[.func (.func 69) #[] #[]] 89) := ⟨_, rfl⟩
  have hs : W.heap.size = w.heap.size + 1 + 1 := by rw [hW]; simp
  have hb0 : Below w.heap.size w W := by rw [hW]; exact ((Below.refl _ w).alloc (Nat.le_refl _) _).alloc (by simp) _
  have hb1 : Blk W w.heap.size 56 #[.slice (some ⟨b, o, none⟩) Q.length c] := by rw [hW]; exact (Blk.new _ _ _).alloc _
  have hb2 : Blk W (w.heap.size + 1) 89 #[.func (.func 69) #[] #[]] := by
    rw [hW]
    have := Blk.new (w.alloc (Obj.cells #[.slice (some ⟨b, o, none⟩) Q.length c] 56)) 89 #[.func (.func 69) #[] #[]]
    rwa [World.size_alloc] at this
  have HW := Lib.hid hW
  have HSZ := Lib.hid hs
  have HB0 := Lib.hid hb0
  have HQ := Lib.hid (h.keep hb0)
  have HF : Hid (∀ u, Below W.heap.size W u → u.cell? ⟨w.heap.size, 0, none⟩ = some (.slice (some ⟨b, o, none⟩) Q.length c) ∧ u.cell? ⟨w.heap.size + 1, 0, none⟩ = some (.func (.func 69) #[] #[])) := Lib.hid fun u hu => ⟨(hb1.below hu hb1.lt).cell 0, (hb2.below hu hb2.lt).cell 0⟩
  obtain ⟨g0, g1⟩ := HF.out W (Below.refl _ _)
  clear hW hs hb0 hb1 hb2 h
  go_enter Try.func68, Try.ntmps68
  go_wp2
  rw [← HW.out]
  clear g0 g1
  go_loopw [7, 14] (fun s x wr => ∃ i : Nat, i ≤ Q.length ∧ x = .int .i64 i ∧ wr.ownsRow W.heap.size 3 1 s (F i).length (flat encI (castL (F i))) ∧ Below W.heap.size W wr) (fun _ x _ => Q.length - (intOf x).toNat)
  case atStart => exact ⟨0, by omega, rfl, by rw [HO0.out]; exact World.ownsRow_nil _ _ _ _, Below.refl _ _⟩
  case round =>
    obtain ⟨i, hi, rfl, hown, hb⟩ := hrel
    obtain ⟨g0, g1⟩ := HF.out wr hb
    have HBr := Lib.hid hb
    have HOW := Lib.hid hown
    by_cases hlt : i < Q.length
    · have i1 : (i : Int) < (Q.length : Int) := by omega
      have i2 : (0 : Int) ≤ (i : Int) := by omega
      have hst := HOS.out i
      have hcl := HOL.out i
      generalize F i = l at *
      have HST := Lib.hid hst
      clear hb hown hst
      by_cases hie : i = e
      · have HS2 : Hid (F (i + 1) = l) := Lib.hid (by rw [HST.out, if_pos hie]; simp)
        have d1 : ((i : Int) != (e : Int)) = false := by simp [hie]
        go_wp2
        go_roundw
        case rel => exact ⟨i + 1, by omega, by go_num, by rw [HS2.out]; exact HOW.out, HBr.out⟩
        case measure => simp [intOf]; omega
      · have HS2 : Hid (F (i + 1) = l ++ [i]) := Lib.hid (by rw [HST.out, if_neg hie])
        have d1 : ((i : Int) != (e : Int)) = true := by rw [bne_iff_ne]; omega
        go_wp2_with (at_builtin; refine wpList_append_own _ rfl _ _ 33 rfl W.heap.size 3 i0 (.int .i64 0) 1 8 Try.underlying33 hi0 hz0 hz1 hz2 rfl (by decide) _ _ _ rfl (HOW.out.alloc _) ⟨_, 0, none⟩ 1 1 [.int .i64 i] rfl rfl (lit_row _ _ _) (by simp [Value.oneCell']) (by unfold maxLen; omega) (by omega) (by rw [World.size_alloc]; have := HBr.out.size; omega) ?_; intro v1 w3 hown1 hgrow1 _; have hB3 : Below W.heap.size W w3 := below_push (w := W) HBr.out (fun k hk => (HOW.out.lt k hk).1) hgrow1)
        have HOW3 : Hid (w3.ownsRow W.heap.size 3 1 v1 (l ++ [i]).length (flat encI (castL (l ++ [i])))) := by
          rw [List.length_append, castL_snoc, flatI_snoc]
          exact hown1
        have HB3 := Lib.hid hB3
        clear hown1 hgrow1 hB3
        go_wp2
        go_roundw
        case rel => exact ⟨i + 1, by omega, by go_num, by rw [HS2.out]; exact HOW3.out, HB3.out⟩
        case measure => simp [intOf]; omega
    · obtain rfl : i = Q.length := by omega
      have i1 : ¬ (Q.length : Int) < (Q.length : Int) := by omega
      obtain ⟨sa, sc, rfl, -⟩ := of_own_len (k := 1) encI_len hown (castL_len (F Q.length)).symm
      clear HOS HOL HO0 HOW
      generalize F Q.length = D at *
      have hOF := HOF.out
      have hbs := hb.size
      have hszz := HSZ.out
      have HSO : Hid (SortAt wr Q W.heap.size sa sc D (w.heap.size + 1) w.heap.size) := Lib.hid ⟨HOA.out, fun x hx => ((HOM.out x).1 hx).1, by omega, by omega, by omega, g1, ⟨b, o, c, g0, HQ.out.keep hb, fun hk => by have := (hown.lt b hk.symm).1; omega⟩, hown, fun hk => by have := (hown.lt _ hk.symm).1; omega, fun hk => by have := (hown.lt _ hk.symm).1; omega⟩
      have HLT := Lib.hid (fun k hk => (hown.lt k hk).1)
      have HSR : Hid (Calls Try.prog 91 #[.slice sa D.length sc, .func (.func 92) #[] #[.pointer (some ⟨w.heap.size + 1, 0, none⟩), .pointer (some ⟨w.heap.size, 0, none⟩)]] wr (GivesSort wr Q W.heap.size sa sc D)) := Lib.hid (psortst_any W.heap.size sa sc Q D (w.heap.size + 1) w.heap.size wr HSO.out)
      unfold GivesSort at HSR
      clear hb hown hOF hbs hszz
      go_wp2_with fail
      refine HSR.out.mono ?_
      rintro e' x2 ⟨rfl, M, hMp, hMs, hown, hgr⟩
      have hk2 : Below W.heap.size W x2 := HBr.out.grown hgr HBr.out.size (fun k hk => HLT.out k hk)
      have hMl : M.length = D.length := hMp.length_eq
      have HMm : Hid (∀ j, j ∈ M ↔ j < Q.length ∧ j ≠ e) := Lib.hid fun j => hMp.mem_iff.trans (HOM.out j)
      have HRR : Hid (setM M ((List.replicate Q.length 0).set e (-1)) M.length = R) := Lib.hid (HPC.out M hMs HMm.out)
      clear g0 g1 hMp hMs hgr HSR HSO
      obtain ⟨g0, g1⟩ := HF.out x2 hk2
      have hmk : (Instr.makeSlice 33 (.int .i64 (Q.length : Int)) (.int .i64 (Q.length : Int))).run Try.prog x2 = .ok (.slice (some ⟨x2.heap.size, 0, none⟩) Q.length Q.length) (x2.alloc (.cells (flat encI (List.replicate Q.length 0)).toArray 3)) := make_ints _ (by omega) _
      obtain ⟨x3, hx3⟩ : ∃ x3, x3 = x2.alloc (.cells (flat encI (List.replicate Q.length 0)).toArray 3) := ⟨_, rfl⟩
      obtain ⟨gp, hgp⟩ : ∃ gp, gp = x2.heap.size := ⟨_, rfl⟩
      have hrb : RowB encI 3 x3 gp (List.replicate Q.length 0) := by rw [hx3, hgp]; exact RowB.new _ _ _ _
      have hk3 : Below W.heap.size W x3 := by rw [hx3]; exact hk2.alloc hk2.size _
      have how3 : x3.ownsRow W.heap.size 3 1 (.slice sa D.length sc) D.length (flat encI (castL M)) := by rw [hx3]; exact hown.alloc _
      have hne : some gp ≠ (Value.slice sa D.length sc).ownBlock := fun hk => by have := (hown.lt _ hk.symm).2; omega
      have hgW : W.heap.size ≤ gp := by rw [hgp]; exact hk2.size
      rw [← hx3, ← hgp] at hmk
      have y1 : x3.cell? ⟨gp, e, none⟩ = some (.int .i64 (iAt (List.replicate Q.length 0) e)) := hrb.cell e (by simpa using he)
      have y2 : x3.frozen? ⟨gp, e, none⟩ = false := Blk.frozen hrb e
      have e1 : (e : Int) < (Q.length : Int) := by omega
      have e2 : (0 : Int) ≤ (e : Int) := by omega
      have HRB : Hid (RowB encI 3 (x3.setCell ⟨gp, e, none⟩ (.int .i64 (-1))) gp ((List.replicate Q.length 0).set e (-1))) := Lib.hid (hrb.set e (-1))
      have HK3 : Hid (Below W.heap.size W (x3.setCell ⟨gp, e, none⟩ (.int .i64 (-1)))) := Lib.hid (hk3.setCell (p := ⟨gp, e, none⟩) hgW _)
      have HO3 : Hid ((x3.setCell ⟨gp, e, none⟩ (.int .i64 (-1))).ownsRow W.heap.size 3 1 (.slice sa D.length sc) D.length (flat encI (castL M))) := Lib.hid (how3.kept (grown_set x3 gp e _) (.inr hne.symm))
      have HGW := Lib.hid hgW
      have HNE := Lib.hid hne
      obtain ⟨x4, hx4⟩ : ∃ x4, x4 = x3.setCell ⟨gp, e, none⟩ (.int .i64 (-1)) := ⟨_, rfl⟩
      rw [← hx4] at HRB HK3 HO3
      have HX4 := Lib.hid hx4
      have hMd : Hid (∀ p, p < M.length → M.getD p 0 < Q.length) := Lib.hid fun p hp => by
        rw [List.getD_eq_getElem?_getD, List.getElem?_eq_getElem hp]
        exact ((HMm.out _).1 (List.getElem_mem hp)).1
      have hDl : D.length ≤ 20 := by have := HOF.out; omega
      clear hrb hk3 how3 hne hgW hx3 hgp hk2 hown hx4 i1
      go_wp2
      rw [← HX4.out]
      clear y1 y2 e1 e2 hmk g0 g1
      have SM0 : Hid (setM M ((List.replicate Q.length 0).set e (-1)) 0 = (List.replicate Q.length 0).set e (-1)) := Lib.hid rfl
      have SMS : Hid (∀ p, setM M ((List.replicate Q.length 0).set e (-1)) (p + 1) = (setM M ((List.replicate Q.length 0).set e (-1)) p).set (M.getD p 0) p) := Lib.hid fun p => rfl
      have SML : Hid (∀ p, (setM M ((List.replicate Q.length 0).set e (-1)) p).length = Q.length) := Lib.hid fun p => by rw [setM_len]; simp
      rw [← SM0.out] at HRB
      clear SM0
      generalize setM M ((List.replicate Q.length 0).set e (-1)) = G at *
      go_loopw [36] (fun x wr => ∃ p : Nat, p ≤ D.length ∧ x = .int .i64 p ∧ RowB encI 3 wr gp (G p) ∧ wr.ownsRow W.heap.size 3 1 (.slice sa D.length sc) D.length (flat encI (castL M)) ∧ Below W.heap.size W wr) (fun x _ => D.length - (intOf x).toNat)
      case atStart => exact ⟨0, by omega, rfl, HRB.out, HO3.out, HK3.out⟩
      case round =>
        obtain ⟨p, hp, rfl, hrb, hown, hb⟩ := hrel
        by_cases hlt : p < D.length
        · have p1 : (p : Int) < (D.length : Int) := by omega
          have p2 : (0 : Int) ≤ (p : Int) := by omega
          obtain ⟨_, _, hv, hrow⟩ := RowAt.of_own (k := 1) (L := castL M) encI_len (by rw [castL_len, hMl]; exact hown)
          injection hv with hv1 hv2 hv3
          subst hv1 hv3
          obtain ⟨b1, o1, hbb, q1, x1⟩ := hrow.one p (by rw [castL_len]; omega)
          subst hbb
          rw [castL_at M p (by omega)] at x1
          have hvl := hMd.out p (by omega)
          have HGn := Lib.hid (SMS.out p)
          generalize M.getD p 0 = v at *
          have v1 : (v : Int) < (Q.length : Int) := by omega
          have v2 : (0 : Int) ≤ (v : Int) := by omega
          have y1 : wr.cell? ⟨gp, v, none⟩ = some (.int .i64 (iAt (G p) v)) := hrb.cell v (by rw [SML.out]; exact hvl)
          have y2 : wr.frozen? ⟨gp, v, none⟩ = false := Blk.frozen hrb v
          have HR2 : Hid (RowB encI 3 (wr.setCell ⟨gp, v, none⟩ (.int .i64 p)) gp (G (p + 1))) := Lib.hid (by rw [HGn.out]; exact hrb.set v p)
          have HB2 : Hid (Below W.heap.size W (wr.setCell ⟨gp, v, none⟩ (.int .i64 p))) := Lib.hid (hb.setCell (p := ⟨gp, v, none⟩) HGW.out _)
          have HO2 : Hid ((wr.setCell ⟨gp, v, none⟩ (.int .i64 p)).ownsRow W.heap.size 3 1 (.slice (some ⟨b1, o1, none⟩) D.length sc) D.length (flat encI (castL M))) := Lib.hid (hown.kept (grown_set wr gp v _) (.inr HNE.out.symm))
          clear hrb hown hb hrow
          go_wp2
          go_roundw
          case rel => exact ⟨p + 1, by omega, by go_num, HR2.out, HO2.out, HB2.out⟩
          case measure => simp [intOf]; omega
        · obtain rfl : p = D.length := by omega
          have HRW : Hid (IsAt wr (some ⟨gp, 0, none⟩) R) := Lib.hid (by
            rw [← HRR.out, hMl]; exact hrb.row encI_len)
          have HEND := Lib.hid (HB0.out.trans (hb.mono HB0.out.size))
          have p1 : ¬ (D.length : Int) < (D.length : Int) := by omega
          clear hrb hown hb
          go_wp2
          go_ret
          exact ⟨some ⟨gp, 0, none⟩, ⟨Q.length, by rw [HPL.out]; rfl⟩, HRW.out, HEND.out⟩
end Go.Proofs.Ytndjjafpdiehdaa

namespace Go.Proofs.Ytndjjafpdiehdaa
open Go.RowKit Go.Shelf Go.Proofs.Gr
attribute [local go_sem] Oper.semAt_some

/-- Hands back ints and an error's number; two lists and an error's number. -/
def GivesIK (w : World) (l : List Int) (k : Nat) (e : Ending) (w' : World) : Prop := ∃ a c, e = .returned (.tuple #[.slice a l.length c, .int .i64 (k : Int)]) ∧ IsAt w' a l ∧ Below w.heap.size w w'
def GivesII (w : World) (l m : List Int) (k : Nat) (e : Ending) (w' : World) : Prop := ∃ a c b d, e = .returned (.tuple #[.slice a l.length c, .slice b m.length d, .int .i64 (k : Int)]) ∧ IsAt w' a l ∧ IsAt w' b m ∧ Below w.heap.size w w'
/-- A list whose first ints are new. -/
def plT (f : Int → Int) (n i : Nat) : List Int := plL i f ++ List.replicate (n - i) 0
theorem plT_len (f : Int → Int) (n i : Nat) (h : i ≤ n) : (plT f n i).length = n := by unfold plT; rw [List.length_append, plL_len, List.length_replicate]; omega
theorem plT_set (f : Int → Int) (n i : Nat) (h : i < n) : (plT f n i).set i (f i) = plT f n (i + 1) := by
  unfold plT
  rw [List.set_append_right _ _ (by rw [plL_len]; omega), plL_len, Nat.sub_self, show n - i = (n - (i + 1)) + 1 by omega, List.replicate_succ, List.set_cons_zero, plL_succ, List.append_assoc]; rfl
theorem plT_all (f : Int → Int) (n : Nat) : plT f n n = plL n f := by unfold plT; rw [Nat.sub_self]; simp
theorem plT_zero (f : Int → Int) (n : Nat) : plT f n 0 = List.replicate n 0 := by unfold plT plL; simp
set_option maxHeartbeats 12800000 in
set_option maxRecDepth 100000 in
theorem pVertices_err (n : Int) (a : Option Addr) (cap : Nat) (L : List E) (hL : L.length ≤ 100000) (e : Int) (hk : sgE n L e ≠ 0) (w : World) (h : EsAt w a L) :
    Calls Try.prog 17 #[gv n a L.length cap, .int .i64 e] w (GivesIK w [] (sgE n L e)) := by
  have HC := Lib.hid (fun w h => endsWith_any n a cap L hL e w h)
  rw [if_neg hk] at HC
  generalize sgE n L e = k at *
  have q0 : (((k : Nat) : Int) != 0) = true := by rw [bne_iff_ne]; omega
  unfold GivesIK gv at *
  unfold GivesPO at HC
  obtain ⟨W, hW⟩ : ∃ W, W = w.alloc (Obj.cells #[.int .i64 n, .slice a L.length cap] 24) := ⟨_, rfl⟩
  have hB0 : Below w.heap.size w W := by rw [hW]; exact (Below.refl _ w).alloc (Nat.le_refl _) _
  have hG : Blk W w.heap.size 24 #[.int .i64 n, .slice a L.length cap] := by rw [hW]; exact Blk.new _ _ _
  have hWs : W.heap.size = w.heap.size + 1 := by rw [hW]; simp
  have HW := Lib.hid hW
  have HWS := Lib.hid hWs
  have HB0 := Lib.hid hB0
  have HE := Lib.hid (h.keep hB0)
  have HF : Hid (∀ u, Below W.heap.size W u → u.cell? ⟨w.heap.size, 0, none⟩ = some (.int .i64 n) ∧ u.cell? ⟨w.heap.size, 1, none⟩ = some (.slice a L.length cap)) := Lib.hid fun u hu => ⟨(hG.below hu hG.lt).cell 0, (hG.below hu hG.lt).cell 1⟩
  obtain ⟨g0, g1⟩ := HF.out W (Below.refl _ _)
  clear hB0 hG hW hWs h
  go_enter Try.func17, Try.ntmps17
  go_wp2_with fail
  rw [← HW.out]
  refine (HC.out _ HE.out).mono ?_
  rintro r w1 ⟨a1, c1, rfl, -, -, hb⟩
  have HEND := Lib.hid (HB0.out.trans (hb.mono HB0.out.size))
  clear g0 g1 hb
  go_wp2
  go_ret2
  exact ⟨none, 0, rfl, RowAt.nil _ _ _ _, HEND.out⟩
set_option maxHeartbeats 12800000 in
set_option maxRecDepth 100000 in
theorem pSingles_err (n : Int) (a : Option Addr) (cap : Nat) (L : List E) (hL : L.length ≤ 100000) (e : Int) (hk : sgE n L e ≠ 0) (w : World) (h : EsAt w a L) :
    Calls Try.prog 23 #[gv n a L.length cap, .int .i64 e] w (GivesII w [] [] (sgE n L e)) := by
  have HC := Lib.hid (fun w h => endsWith_any n a cap L hL e w h)
  rw [if_neg hk] at HC
  generalize sgE n L e = k at *
  have q0 : (((k : Nat) : Int) != 0) = true := by rw [bne_iff_ne]; omega
  unfold GivesII gv at *
  unfold GivesPO at HC
  obtain ⟨W, hW⟩ : ∃ W, W = w.alloc (Obj.cells #[.int .i64 n, .slice a L.length cap] 24) := ⟨_, rfl⟩
  have hB0 : Below w.heap.size w W := by rw [hW]; exact (Below.refl _ w).alloc (Nat.le_refl _) _
  have hG : Blk W w.heap.size 24 #[.int .i64 n, .slice a L.length cap] := by rw [hW]; exact Blk.new _ _ _
  have hWs : W.heap.size = w.heap.size + 1 := by rw [hW]; simp
  have HW := Lib.hid hW
  have HWS := Lib.hid hWs
  have HB0 := Lib.hid hB0
  have HE := Lib.hid (h.keep hB0)
  have HF : Hid (∀ u, Below W.heap.size W u → u.cell? ⟨w.heap.size, 0, none⟩ = some (.int .i64 n) ∧ u.cell? ⟨w.heap.size, 1, none⟩ = some (.slice a L.length cap)) := Lib.hid fun u hu => ⟨(hG.below hu hG.lt).cell 0, (hG.below hu hG.lt).cell 1⟩
  obtain ⟨g0, g1⟩ := HF.out W (Below.refl _ _)
  clear hB0 hG hW hWs h
  go_enter Try.func23, Try.ntmps23
  go_wp2_with fail
  rw [← HW.out]
  refine (HC.out _ HE.out).mono ?_
  rintro r w1 ⟨a1, c1, rfl, -, -, hb⟩
  have HEND := Lib.hid (HB0.out.trans (hb.mono HB0.out.size))
  clear g0 g1 hb
  go_wp2
  refine bodyPost_ret (v := .tuple #[.slice none 0 0, .slice none 0 0, .int .i64 (k : Nat)]) (by simp [results, Try.results23, go_sem]) rfl ?_
  exact ⟨none, 0, none, 0, rfl, RowAt.nil _ _ _ _, RowAt.nil _ _ _ _, HEND.out⟩
set_option maxHeartbeats 12800000 in
set_option maxRecDepth 100000 in
theorem pVertices_ok (N : Nat) (a : Option Addr) (cap : Nat) (L : List E) (hL : L.length ≤ 100000) (e : Nat) (hk : sgE N L e = 0) (w : World) (h : EsAt w a L) :
    Calls Try.prog 17 #[gv N a L.length cap, .int .i64 e] w (GivesIK w (plL N (mgF (pAt (endsG L) e))) 0) := by
  have HC := Lib.hid (fun w h => endsWith_any N a cap L hL e w h)
  obtain ⟨h0, -, he⟩ := sgE_zero hk
  have hnr := chkG_n h0
  have hln : (endsG L).length ≤ 50 * 100000 := by have := ends_all (right_of h0); omega
  rw [hk, if_pos rfl] at HC
  generalize endsG L = P at *
  have hep : e < P.length := by omega
  have HMG := Lib.hid (fun ga gb v hv w hm => mg1_any ga gb (pAt P e) v hv w hm)
  have HME := Lib.hid (fun w => merging_any (pAt P e) w)
  have HT0 := Lib.hid (plT_zero (mgF (pAt P e)) N)
  have HTA := Lib.hid (plT_all (mgF (pAt P e)) N)
  have HTS := Lib.hid (fun i h => plT_set (mgF (pAt P e)) N i h)
  have HTL := Lib.hid (fun i h => plT_len (mgF (pAt P e)) N i h)
  have HRL := Lib.hid (plL_len N (mgF (pAt P e)))
  unfold pw mgV at HME
  generalize plL N (mgF (pAt P e)) = R at *
  generalize plT (mgF (pAt P e)) N = T at *
  generalize mgF (pAt P e) = f at *
  unfold GivesIK gv at *
  unfold GivesPO at HC
  clear hk h0 he
  obtain ⟨W, hW⟩ : ∃ W, W = w.alloc (Obj.cells #[.int .i64 N, .slice a L.length cap] 24) := ⟨_, rfl⟩
  have hB0 : Below w.heap.size w W := by rw [hW]; exact (Below.refl _ w).alloc (Nat.le_refl _) _
  have hG : Blk W w.heap.size 24 #[.int .i64 N, .slice a L.length cap] := by rw [hW]; exact Blk.new _ _ _
  have hWs : W.heap.size = w.heap.size + 1 := by rw [hW]; simp
  have HW := Lib.hid hW
  have HWS := Lib.hid hWs
  have HB0 := Lib.hid hB0
  have HE := Lib.hid (h.keep hB0)
  have HF : Hid (∀ u, Below W.heap.size W u → u.cell? ⟨w.heap.size, 0, none⟩ = some (.int .i64 N) ∧ u.cell? ⟨w.heap.size, 1, none⟩ = some (.slice a L.length cap)) := Lib.hid fun u hu => ⟨(hG.below hu hG.lt).cell 0, (hG.below hu hG.lt).cell 1⟩
  obtain ⟨g0, g1⟩ := HF.out W (Below.refl _ _)
  clear hB0 hG hW hWs h
  go_enter Try.func17, Try.ntmps17
  go_wp2_with fail
  rw [← HW.out]
  refine (HC.out _ HE.out).mono ?_
  rintro r w1 ⟨a1, c1, rfl, hp1, hown, hb⟩
  clear g0 g1
  obtain ⟨g, c9, hv⟩ := own_pos hown (by omega)
  injection hv with e1 e2 e3
  subst e1 e3
  obtain ⟨b1, o1, hbb, q1, x1, x2⟩ := hp1.two e hep
  injection hbb with hbb
  injection hbb with e1 e2
  subst e1 e2
  have i1 : (e : Int) < (P.length : Int) := by omega
  have i2 : (0 : Int) ≤ (e : Int) := by omega
  generalize pAt P e = p at *
  obtain ⟨xa, xb⟩ := p
  simp only [Nat.zero_add] at x1 x2 HME
  go_wp2_with fail
  refine (HME.out _).mono ?_
  rintro r w2 ⟨ga, gb, rfl, hmg, hga, hgb, hb2⟩
  have hk2 : Below W.heap.size W w2 := hb.trans (hb2.mono hb.size)
  clear hb2 hb x1 x2 hp1 hown
  obtain ⟨g0, g1⟩ := HF.out w2 hk2
  have hmk : (Instr.makeSlice 33 (.int .i64 (N : Int)) (.int .i64 (N : Int))).run Try.prog w2 = .ok (.slice (some ⟨w2.heap.size, 0, none⟩) N N) (w2.alloc (.cells (flat encI (List.replicate N 0)).toArray 3)) := make_ints N (by omega) _
  obtain ⟨x3, hx3⟩ : ∃ x3, x3 = w2.alloc (.cells (flat encI (List.replicate N 0)).toArray 3) := ⟨_, rfl⟩
  obtain ⟨gp, hgp⟩ : ∃ gp, gp = w2.heap.size := ⟨_, rfl⟩
  have hrb : RowB encI 3 x3 gp (T 0) := by rw [hx3, hgp, HT0.out]; exact RowB.new _ _ _ _
  have hk3 : Below w2.heap.size w2 x3 := by rw [hx3]; exact (Below.refl _ _).alloc (Nat.le_refl _) _
  rw [← hx3, ← hgp] at hmk
  have HRB := Lib.hid hrb
  have HK3 := Lib.hid hk3
  have HMGA := Lib.hid hmg
  have HK2 := Lib.hid hk2
  have HGP := Lib.hid hgp
  clear hrb hk3 hmg hx3 hgp hk2
  go_wp2
  clear hmk g0 g1
  go_loopw [30] (fun x wr => ∃ i : Nat, i ≤ N ∧ x = .int .i64 i ∧ RowB encI 3 wr gp (T i) ∧ Below w2.heap.size w2 wr) (fun x _ => N - (intOf x).toNat)
  case atStart => exact ⟨0, by omega, rfl, HRB.out, HK3.out⟩
  case round =>
    obtain ⟨i, hi, rfl, hrb, hb⟩ := hrel
    by_cases hlt : i < N
    · have j1 : (i : Int) < (N : Int) := by omega
      have j2 : (0 : Int) ≤ (i : Int) := by omega
      have hmg := HMGA.out.keep hb
      have HTn := Lib.hid (HTS.out i hlt)
      have HMGi := Lib.hid (fun w hm => HMG.out ga gb (i : Int) (by omega) w hm)
      generalize f (i : Int) = fi at *
      have HRr := Lib.hid hrb
      have HBr := Lib.hid hb
      clear hrb hb
      go_wp2_with fail
      refine (HMGi.out _ hmg).mono ?_
      rintro r w4 ⟨rfl, hb4⟩
      have hlw := Blk.lt HRr.out
      have hrz : RowB encI 3 w4 gp (T i) := Blk.below HRr.out hb4 hlw
      have hbz := HBr.out.trans (hb4.mono HBr.out.size)
      have y1 : w4.cell? ⟨gp, i, none⟩ = some (.int .i64 (iAt (T i) i)) := hrz.cell i (by rw [HTL.out i (by omega)]; exact hlt)
      have y2 : w4.frozen? ⟨gp, i, none⟩ = false := Blk.frozen hrz i
      have HRN : Hid (RowB encI 3 (w4.setCell ⟨gp, i, none⟩ (.int .i64 fi)) gp (T (i + 1))) := Lib.hid (by rw [← HTn.out]; exact hrz.set i fi)
      have HBN : Hid (Below w2.heap.size w2 (w4.setCell ⟨gp, i, none⟩ (.int .i64 fi))) := Lib.hid (hbz.setCell (p := ⟨gp, i, none⟩) (Nat.le_of_eq HGP.out.symm) _)
      clear hrz hbz hlw hb4 hmg
      go_wp2
      go_roundw
      case rel => exact ⟨i + 1, by omega, by go_num, HRN.out, HBN.out⟩
      case measure => simp [intOf]; omega
    · obtain rfl : i = N := by omega
      have j1 : ¬ (i : Int) < (i : Int) := by omega
      have HRW : Hid (IsAt wr (some ⟨gp, 0, none⟩) R) := Lib.hid (by rw [← HTA.out]; exact hrb.row encI_len)
      have HEND := Lib.hid (HB0.out.trans (HK2.out.trans (hb.mono HK2.out.size) |>.mono HB0.out.size))
      clear hrb hb
      go_wp2
      go_ret2
      exact ⟨some ⟨gp, 0, none⟩, ⟨i, by rw [HRL.out]; rfl⟩, HRW.out, HEND.out⟩
set_option maxHeartbeats 12800000 in
set_option maxRecDepth 100000 in
theorem pSingles_ok (n : Int) (a : Option Addr) (cap : Nat) (L : List E) (hL : L.length ≤ 100000) (e : Nat) (hk : sgE n L e = 0) (h20 : (endsG L).length ≤ 20) (w : World) (h : EsAt w a L) :
    Calls Try.prog 23 #[gv n a L.length cap, .int .i64 e] w (GivesII w (plc (endsG L) e) (plc (mvP (mgF (pAt (endsG L) e)) (endsG L)) e) 0) := by
  have HC := Lib.hid (fun w h => endsWith_any n a cap L hL e w h)
  obtain ⟨h0, -, he⟩ := sgE_zero hk
  have hir := inr_ends (right_of h0)
  rw [hk, if_pos rfl] at HC
  generalize endsG L = P at *
  have hep : e < P.length := by omega
  have HN1 := Lib.hid (fun b o c w h => pnumbers_any b o c P h20 e hep w h)
  have HLQ : Hid ((mvP (mgF (pAt P e)) P).length = P.length) := Lib.hid (mvP_len _ _)
  have HN2 := Lib.hid (fun b o c w h => pnumbers_any b o c (mvP (mgF (pAt P e)) P) (by rw [mvP_len]; exact h20) e (by rw [mvP_len]; exact hep) w h)
  have HMV := Lib.hid (fun ga gb (a : Option Addr) c w h hm => pmoved_any ga gb (pAt P e) a c P (by omega) hir w h hm)
  have HME := Lib.hid (fun w => merging_any (pAt P e) w)
  unfold pw mgV at HME
  unfold mgV at HMV
  unfold GivesP at HMV
  unfold cmpV at HN1 HN2
  unfold GivesI at HN1 HN2
  generalize plc P e = R1 at *
  generalize plc (mvP (mgF (pAt P e)) P) e = R2 at *
  generalize mvP (mgF (pAt P e)) P = Q at *
  unfold GivesII gv at *
  unfold GivesPO at HC
  clear hk h0 he hir
  obtain ⟨W, hW⟩ : ∃ W, W = w.alloc (Obj.cells #[.int .i64 n, .slice a L.length cap] 24) := ⟨_, rfl⟩
  have hB0 : Below w.heap.size w W := by rw [hW]; exact (Below.refl _ w).alloc (Nat.le_refl _) _
  have hG : Blk W w.heap.size 24 #[.int .i64 n, .slice a L.length cap] := by rw [hW]; exact Blk.new _ _ _
  have hWs : W.heap.size = w.heap.size + 1 := by rw [hW]; simp
  have HW := Lib.hid hW
  have HWS := Lib.hid hWs
  have HB0 := Lib.hid hB0
  have HE := Lib.hid (h.keep hB0)
  have HF : Hid (∀ u, Below W.heap.size W u → u.cell? ⟨w.heap.size, 0, none⟩ = some (.int .i64 n) ∧ u.cell? ⟨w.heap.size, 1, none⟩ = some (.slice a L.length cap)) := Lib.hid fun u hu => ⟨(hG.below hu hG.lt).cell 0, (hG.below hu hG.lt).cell 1⟩
  obtain ⟨g0, g1⟩ := HF.out W (Below.refl _ _)
  clear hB0 hG hW hWs h
  go_enter Try.func23, Try.ntmps23
  go_wp2_with fail
  rw [← HW.out]
  refine (HC.out _ HE.out).mono ?_
  rintro r w1 ⟨a1, c1, rfl, hp1, hown, hb⟩
  clear g0 g1
  obtain ⟨g, c9, hv⟩ := own_pos hown (by omega)
  injection hv with e1 e2 e3
  subst e1 e3
  obtain ⟨b1, o1, hbb, q1, x1, x2⟩ := hp1.two e hep
  injection hbb with hbb
  injection hbb with e1 e2
  subst e1 e2
  have i1 : (e : Int) < (P.length : Int) := by omega
  have i2 : (0 : Int) ≤ (e : Int) := by omega
  generalize pAt P e = p at *
  obtain ⟨xa, xb⟩ := p
  simp only [Nat.zero_add] at x1 x2 HME
  go_wp2_with fail
  refine (HN1.out g 0 c1 _ hp1).mono ?_
  rintro r w2 ⟨a2, c2, rfl, hr1, hb2⟩
  have hk2 : Below W.heap.size W w2 := hb.trans (hb2.mono hb.size)
  have hp2 := hp1.keep hb2
  have x3 : w2.cell? ⟨g, e * 2, none⟩ = some (.int .i64 xa) := (hb2.cell (p := ⟨g, e * 2, none⟩) q1).trans x1
  have x4 : w2.cell? ⟨g, e * 2 + 1, none⟩ = some (.int .i64 xb) := (hb2.cell (p := ⟨g, e * 2 + 1, none⟩) q1).trans x2
  clear hb2 hb x1 x2 hp1 hown
  go_wp2_with fail
  refine (HME.out _).mono ?_
  rintro r w3 ⟨ga, gb, rfl, hmg, hga, hgb, hb3⟩
  have hk3 : Below W.heap.size W w3 := hk2.trans (hb3.mono hk2.size)
  have hp3 := hp2.keep hb3
  have hr3 := hr1.keep hb3
  clear hb3 hk2 x3 x4 hp2 hr1
  go_wp2_with fail
  refine (HMV.out _ _ _ _ _ hp3 hmg).mono ?_
  rintro r w4 ⟨a4, c4, rfl, hp4, hb4⟩
  have hk4 : Below W.heap.size W w4 := hk3.trans (hb4.mono hk3.size)
  have hr4 := hr3.keep hb4
  clear hb4 hk3 hp3 hr3 hmg
  obtain ⟨g4, o4, ha4, -, -⟩ := hp4 0 (by have := HLQ.out; omega)
  subst ha4
  go_wp2_with fail
  refine (HN2.out g4 o4 c4 _ hp4).mono ?_
  rintro r w5 ⟨a5, c5, rfl, hr5, hb5⟩
  have HR5 := Lib.hid hr5
  have HR4 := Lib.hid (hr4.keep hb5)
  have HEND := Lib.hid (HB0.out.trans ((hk4.trans (hb5.mono hk4.size)).mono HB0.out.size))
  clear hb5 hk4 hp4 hr4 hr5
  go_wp2
  refine bodyPost_ret (v := .tuple #[.slice a2 R1.length c2, .slice a5 R2.length c5, .int .i64 0]) (by simp [results, Try.results23, go_sem]) rfl ?_
  exact ⟨a2, c2, a5, c5, rfl, HR4.out, HR5.out, HEND.out⟩
end Go.Proofs.Ytndjjafpdiehdaa

namespace Go.Proofs.Ytndjjafpdiehdaa
open Go.RowKit Go.Shelf Go.Proofs.Gr
attribute [local go_sem] Oper.semAt_some

/-- So many chips can be at a vertex; the error of a divisor. -/
def rngD (v : Int) : Bool := decide (-1048576 ≤ v) && decide (v ≤ 1048576)
def dvE (n : Int) (D : List Int) : Nat := if (D.length : Int) ≠ n then 8 else if D.all rngD = true then 0 else 2
theorem all_take {D : List Int} {i : Nat} (hi : i < D.length) (h : (D.take i).all rngD = true) (hr : rngD (iAt D i) = true) : (D.take (i + 1)).all rngD = true := by
  rw [List.take_succ_eq_append_getElem hi, List.all_append, h, iAt_get D i hi]; simp [hr]
theorem all_bad {D : List Int} {i : Nat} (hi : i < D.length) (hr : rngD (iAt D i) = false) : D.all rngD = false := by
  rw [List.all_eq_false]
  exact ⟨D[i], List.getElem_mem hi, by rw [iAt_get D i hi, hr]; simp⟩
theorem all_at {D : List Int} (h : D.all rngD = true) (i : Nat) (hi : i < D.length) : -1048576 ≤ iAt D i ∧ iAt D i ≤ 1048576 := by
  have := List.all_eq_true.1 h D[i] (List.getElem_mem hi)
  rw [iAt_get D i hi] at this
  unfold rngD at this
  simpa using this
set_option maxHeartbeats 6400000 in
set_option maxRecDepth 100000 in
theorem pinRange_any (v : Int) (w : World) : Calls Try.prog 75 #[.int .i64 v] w (fun e w' => e = .returned (.bool (rngD v)) ∧ w = w') := by
  have HR : Hid (rngD v = (decide (-1048576 ≤ v) && decide (v ≤ 1048576))) := Lib.hid rfl
  generalize rngD v = R at *
  by_cases h1 : -1048576 ≤ v
  · have d1 : decide (-1048576 ≤ v) = true := decide_eq_true h1
    have HRv : Hid (R = decide (v ≤ 1048576)) := Lib.hid (by rw [HR.out, d1]; simp)
    go_enter Try.func75, Try.ntmps75
    go_wp2
    go_ret
    exact ⟨by rw [HRv.out]; rfl, rfl⟩
  · have d1 : decide (-1048576 ≤ v) = false := decide_eq_false h1
    have HRv : Hid (R = false) := Lib.hid (by rw [HR.out, d1]; simp)
    go_enter Try.func75, Try.ntmps75
    go_wp2
    go_ret
    exact ⟨by rw [HRv.out]; rfl, rfl⟩
set_option maxHeartbeats 12800000 in
set_option maxRecDepth 100000 in
theorem pcheckD_any (n : Int) (a : Option Addr) (cap : Nat) (L : List E) (b : Option Addr) (c : Nat) (D : List Int) (hD : D.length ≤ 100000) (w : World) (h : EsAt w a L) (hd : IsAt w b D) :
    Calls Try.prog 73 #[gv n a L.length cap, .slice b D.length c] w (fun e w' => e = .returned (.int .i64 (dvE n D : Nat)) ∧ Below w.heap.size w w') := by
  have HRG := Lib.hid pinRange_any
  have HT := Lib.hid (fun i h1 h2 h3 => all_take (D := D) (i := i) h1 h2 h3)
  have HBD := Lib.hid (fun i h1 h2 => all_bad (D := D) (i := i) h1 h2)
  have HTA : Hid ((D.take D.length).all rngD = D.all rngD) := Lib.hid (by rw [List.take_length])
  have HK : Hid (dvE n D = if (D.length : Int) ≠ n then 8 else if D.all rngD = true then 0 else 2) := Lib.hid rfl
  generalize dvE n D = K at *
  unfold gv
  obtain ⟨W, hW⟩ : ∃ W, W = w.alloc (Obj.cells #[.int .i64 n, .slice a L.length cap] 24) := ⟨_, rfl⟩
  have hB0 : Below w.heap.size w W := by rw [hW]; exact (Below.refl _ w).alloc (Nat.le_refl _) _
  have hG : Blk W w.heap.size 24 #[.int .i64 n, .slice a L.length cap] := by rw [hW]; exact Blk.new _ _ _
  have hWs : W.heap.size = w.heap.size + 1 := by rw [hW]; simp
  have HW := Lib.hid hW
  have HWS := Lib.hid hWs
  have HB0 := Lib.hid hB0
  have HE := Lib.hid (h.keep hB0)
  have HF : Hid (∀ u, Below W.heap.size W u → u.cell? ⟨w.heap.size, 0, none⟩ = some (.int .i64 n) ∧ u.cell? ⟨w.heap.size, 1, none⟩ = some (.slice a L.length cap)) := Lib.hid fun u hu => ⟨(hG.below hu hG.lt).cell 0, (hG.below hu hG.lt).cell 1⟩
  obtain ⟨g0, g1⟩ := HF.out W (Below.refl _ _)
  have HD := Lib.hid (hd.keep hB0)
  clear hd hB0 hG hW hWs h
  by_cases hn : (D.length : Int) = n
  · have d1 : ((D.length : Int) != n) = false := by simpa using hn
    go_enter Try.func73, Try.ntmps73
    go_wp2
    rw [← HW.out]
    clear g0 g1
    go_loopw [14] (fun x wr => ∃ i : Nat, i ≤ D.length ∧ x = .int .i64 i ∧ (D.take i).all rngD = true ∧ Below W.heap.size W wr) (fun x _ => D.length - (intOf x).toNat)
    case atStart => exact ⟨0, by omega, rfl, by simp, Below.refl _ _⟩
    case round =>
      obtain ⟨i, hi, rfl, hall, hb⟩ := hrel
      by_cases hlt : i < D.length
      · have i1 : (i : Int) < (D.length : Int) := by omega
        have i2 : (0 : Int) ≤ (i : Int) := by omega
        obtain ⟨b1, o1, hbb, q1, x1⟩ := (HD.out.keep hb).one i hlt
        subst hbb
        have HAL := Lib.hid hall
        have HBr := Lib.hid hb
        have HTi := Lib.hid (HT.out i hlt)
        have HBi := Lib.hid (HBD.out i hlt)
        generalize iAt D i = v at *
        have HRv := Lib.hid (fun w => HRG.out v w)
        generalize rngD v = R at *
        clear hall hb
        cases R
        · have HKv : Hid (K = 2) := Lib.hid (by rw [HK.out, if_neg (by omega), HBi.out rfl]; rfl)
          have HEND := Lib.hid (HB0.out.trans (HBr.out.mono HB0.out.size))
          go_wp2_with fail
          refine (HRv.out _).mono ?_
          rintro r w4 ⟨rfl, rfl⟩
          go_wp2
          go_ret
          exact ⟨by rw [HKv.out]; rfl, HEND.out⟩
        · have HTn : Hid ((D.take (i + 1)).all rngD = true) := Lib.hid (HTi.out HAL.out rfl)
          go_wp2_with fail
          refine (HRv.out _).mono ?_
          rintro r w4 ⟨rfl, rfl⟩
          go_wp2
          go_roundw
          case rel => exact ⟨i + 1, by omega, by go_num, HTn.out, HBr.out⟩
          case measure => simp [intOf]; omega
      · obtain rfl : i = D.length := by omega
        have i1 : ¬ (D.length : Int) < (D.length : Int) := by omega
        have HKv : Hid (K = 0) := Lib.hid (by rw [HK.out, if_neg (by omega), ← HTA.out, hall]; rfl)
        have HEND := Lib.hid (HB0.out.trans (hb.mono HB0.out.size))
        clear hall hb
        go_wp2
        go_ret
        exact ⟨by rw [HKv.out]; rfl, HEND.out⟩
  · have d1 : ((D.length : Int) != n) = true := by rw [bne_iff_ne]; exact hn
    have HKv : Hid (K = 8) := Lib.hid (by rw [HK.out, if_pos hn])
    have HEND := Lib.hid HB0.out
    go_enter Try.func73, Try.ntmps73
    go_wp2
    rw [← HW.out]
    go_ret
    exact ⟨by rw [HKv.out]; rfl, HEND.out⟩
/-- The sums of chips under new numbers. -/
def colL (f : Int → Int) (D : List Int) (m : Nat) : Nat → List Int
  | 0 => List.replicate m 0
  | i + 1 => (colL f D m i).set (f i).toNat (iAt (colL f D m i) (f i).toNat + iAt D i)
theorem colL_len (f : Int → Int) (D : List Int) (m i : Nat) : (colL f D m i).length = m := by
  induction i with
  | zero => simp [colL]
  | succ i ih => rw [colL, List.length_set, ih]
theorem iAt_set (l : List Int) (i j : Nat) (v : Int) (h : i < l.length) : iAt (l.set i v) j = if i = j then v else iAt l j := by
  unfold iAt
  rw [List.getD_eq_getElem?_getD, List.getD_eq_getElem?_getD, List.getElem?_set]
  by_cases e : i = j
  · rw [if_pos e, if_pos e, if_pos h]; rfl
  · rw [if_neg e, if_neg e]
theorem colL_low (f : Int → Int) (D : List Int) (hD : ∀ i, i < D.length → -1048576 ≤ iAt D i ∧ iAt D i ≤ 1048576) (m i : Nat) (hi : i ≤ D.length) (j : Nat) : -1048576 * (i : Int) ≤ iAt (colL f D m i) j ∧ iAt (colL f D m i) j ≤ 1048576 * (i : Int) := by
  induction i generalizing j with
  | zero =>
    have : iAt (List.replicate m 0) j = 0 := by
      unfold iAt
      rw [List.getD_eq_getElem?_getD, List.getElem?_replicate]; split <;> rfl
    simp [colL, this]
  | succ i ih =>
    have h1 := ih (by omega) j
    have h2 := ih (by omega) (f i).toNat
    have h3 := hD i (by omega)
    rw [colL]
    by_cases hl : (f i).toNat < (colL f D m i).length
    · rw [iAt_set _ _ _ _ hl]
      split <;> omega
    · rw [List.set_eq_of_length_le (by omega)]; omega
/-- Hands back a divisor and an error's number: the same as ints. -/
def colR (f : Int → Int) (D : List Int) (m : Nat) : List Int := if (colL f D m D.length).all rngD = true then colL f D m D.length else []
def colK (f : Int → Int) (D : List Int) (m : Nat) : Nat := if (colL f D m D.length).all rngD = true then 0 else 11
set_option maxHeartbeats 12800000 in
set_option maxRecDepth 100000 in
theorem pCol_sg (n : Int) (a : Option Addr) (cap : Nat) (L : List E) (hL : L.length ≤ 100000) (e : Int) (b : Option Addr) (c : Nat) (D : List Int) (hk : sgE n L e ≠ 0) (w : World) (h : EsAt w a L) :
    Calls Try.prog 30 #[gv n a L.length cap, .int .i64 e, .slice b D.length c] w (GivesIK w [] (sgE n L e)) := by
  have HC := Lib.hid (fun w h => endsWith_any n a cap L hL e w h)
  rw [if_neg hk] at HC
  generalize sgE n L e = k at *
  have q0 : (((k : Nat) : Int) != 0) = true := by rw [bne_iff_ne]; omega
  unfold GivesIK gv at *
  unfold GivesPO at HC
  obtain ⟨W, hW⟩ : ∃ W, W = w.alloc (Obj.cells #[.int .i64 n, .slice a L.length cap] 24) := ⟨_, rfl⟩
  have hB0 : Below w.heap.size w W := by rw [hW]; exact (Below.refl _ w).alloc (Nat.le_refl _) _
  have hG : Blk W w.heap.size 24 #[.int .i64 n, .slice a L.length cap] := by rw [hW]; exact Blk.new _ _ _
  have hWs : W.heap.size = w.heap.size + 1 := by rw [hW]; simp
  have HW := Lib.hid hW
  have HWS := Lib.hid hWs
  have HB0 := Lib.hid hB0
  have HE := Lib.hid (h.keep hB0)
  have HF : Hid (∀ u, Below W.heap.size W u → u.cell? ⟨w.heap.size, 0, none⟩ = some (.int .i64 n) ∧ u.cell? ⟨w.heap.size, 1, none⟩ = some (.slice a L.length cap)) := Lib.hid fun u hu => ⟨(hG.below hu hG.lt).cell 0, (hG.below hu hG.lt).cell 1⟩
  obtain ⟨g0, g1⟩ := HF.out W (Below.refl _ _)
  clear hB0 hG hW hWs h
  go_enter Try.func30, Try.ntmps30
  go_wp2_with fail
  rw [← HW.out]
  refine (HC.out _ HE.out).mono ?_
  rintro r w1 ⟨a1, c1, rfl, -, -, hb⟩
  have HEND := Lib.hid (HB0.out.trans (hb.mono HB0.out.size))
  clear g0 g1 hb
  go_wp2
  go_ret2
  exact ⟨none, 0, rfl, RowAt.nil _ _ _ _, HEND.out⟩
set_option maxHeartbeats 12800000 in
set_option maxRecDepth 100000 in
theorem pCol_dv (n : Int) (a : Option Addr) (cap : Nat) (L : List E) (hL : L.length ≤ 100000) (e : Int) (b : Option Addr) (c : Nat) (D : List Int) (hD : D.length ≤ 100000) (h0 : sgE n L e = 0) (hk : dvE n D ≠ 0) (w : World) (h : EsAt w a L) (hd : IsAt w b D) :
    Calls Try.prog 30 #[gv n a L.length cap, .int .i64 e, .slice b D.length c] w (GivesIK w [] (dvE n D)) := by
  have HC := Lib.hid (fun w h => endsWith_any n a cap L hL e w h)
  rw [h0, if_pos rfl] at HC
  have HDV := Lib.hid (fun w h hd => pcheckD_any n a cap L b c D hD w h hd)
  generalize dvE n D = k at *
  have q0 : (((k : Nat) : Int) != 0) = true := by rw [bne_iff_ne]; omega
  unfold GivesIK gv at *
  unfold GivesPO at HC
  obtain ⟨W, hW⟩ : ∃ W, W = w.alloc (Obj.cells #[.int .i64 n, .slice a L.length cap] 24) := ⟨_, rfl⟩
  have hB0 : Below w.heap.size w W := by rw [hW]; exact (Below.refl _ w).alloc (Nat.le_refl _) _
  have hG : Blk W w.heap.size 24 #[.int .i64 n, .slice a L.length cap] := by rw [hW]; exact Blk.new _ _ _
  have hWs : W.heap.size = w.heap.size + 1 := by rw [hW]; simp
  have HW := Lib.hid hW
  have HWS := Lib.hid hWs
  have HB0 := Lib.hid hB0
  have HE := Lib.hid (h.keep hB0)
  have HF : Hid (∀ u, Below W.heap.size W u → u.cell? ⟨w.heap.size, 0, none⟩ = some (.int .i64 n) ∧ u.cell? ⟨w.heap.size, 1, none⟩ = some (.slice a L.length cap)) := Lib.hid fun u hu => ⟨(hG.below hu hG.lt).cell 0, (hG.below hu hG.lt).cell 1⟩
  obtain ⟨g0, g1⟩ := HF.out W (Below.refl _ _)
  have HD := Lib.hid (hd.keep hB0)
  clear hd hB0 hG hW hWs h
  go_enter Try.func30, Try.ntmps30
  go_wp2_with fail
  rw [← HW.out]
  refine (HC.out _ HE.out).mono ?_
  rintro r w1 ⟨a1, c1, rfl, -, -, hb⟩
  clear g0 g1
  obtain ⟨g0, g1⟩ := HF.out w1 hb
  go_wp2_with fail
  refine (HDV.out _ (HE.out.keep hb) (HD.out.keep hb)).mono ?_
  rintro r w2 ⟨rfl, hb2⟩
  have HEND := Lib.hid (HB0.out.trans ((hb.trans (hb2.mono hb.size)).mono HB0.out.size))
  clear g0 g1 hb hb2
  go_wp2
  go_ret2
  exact ⟨none, 0, rfl, RowAt.nil _ _ _ _, HEND.out⟩
set_option maxHeartbeats 12800000 in
set_option maxRecDepth 100000 in
theorem pCol_ok (N : Nat) (a : Option Addr) (cap : Nat) (L : List E) (hL : L.length ≤ 100000) (e : Nat) (b : Option Addr) (c : Nat) (D : List Int) (hD : D.length ≤ 100000) (h0 : sgE N L e = 0) (hk : dvE N D = 0) (w : World) (h : EsAt w a L) (hd : IsAt w b D) :
    Calls Try.prog 30 #[gv N a L.length cap, .int .i64 e, .slice b D.length c] w (GivesIK w (colR (mgF (pAt (endsG L) e)) D (mgF (pAt (endsG L) e) N).toNat) (colK (mgF (pAt (endsG L) e)) D (mgF (pAt (endsG L) e) N).toNat)) := by
  have HC := Lib.hid (fun w h => endsWith_any N a cap L hL e w h)
  have HDV := Lib.hid (fun w h hd => pcheckD_any N a cap L b c D hD w h hd)
  rw [hk] at HDV
  have hDn : (D.length : Int) = N ∧ D.all rngD = true := by
    unfold dvE at hk
    split at hk
    · omega
    · split at hk
      · exact ⟨by omega, by assumption⟩
      · omega
  obtain ⟨hDn, hDr⟩ := hDn
  have hDa := all_at hDr
  obtain ⟨h1, -, he⟩ := sgE_zero h0
  have hnr := chkG_n h1
  have hln : (endsG L).length ≤ 50 * 100000 := by have := ends_all (right_of h1); omega
  have her := ends_rng (right_of h1).rng
  rw [h0, if_pos rfl] at HC
  generalize endsG L = P at *
  have hep : e < P.length := by omega
  have hpe := her (pAt P e) (by rw [← pAt_get P e hep]; exact List.getElem_mem hep)
  have HMG := Lib.hid (fun ga gb v hv w hm => mg1_any ga gb (pAt P e) v hv w hm)
  have HME := Lib.hid (fun w => merging_any (pAt P e) w)
  have HFR : Hid (∀ v : Nat, v < N → 0 ≤ mgF (pAt P e) v ∧ mgF (pAt P e) v < mgF (pAt P e) N) := Lib.hid fun v hv => mgF_rng (n := N) (by omega) (by omega) v (by omega)
  have hfn := mgF_n (n := N) (p := pAt P e) (by omega) (by omega)
  have hM0 : 0 ≤ mgF (pAt P e) N ∧ mgF (pAt P e) N ≤ 12 := by rw [hfn]; split <;> omega
  clear hfn her hpe
  obtain ⟨M, hM⟩ : ∃ M : Nat, mgF (pAt P e) N = M := ⟨(mgF (pAt P e) N).toNat, by omega⟩
  have HMN := Lib.hid hM
  rw [hM] at hM0 HFR ⊢
  clear hM
  have HC0 : Hid (colL (mgF (pAt P e)) D M 0 = List.replicate M 0) := Lib.hid rfl
  have HCS : Hid (∀ i : Nat, colL (mgF (pAt P e)) D M (i + 1) = (colL (mgF (pAt P e)) D M i).set (mgF (pAt P e) i).toNat (iAt (colL (mgF (pAt P e)) D M i) (mgF (pAt P e) i).toNat + iAt D i)) := Lib.hid fun i => rfl
  have HCL := Lib.hid (fun i => colL_len (mgF (pAt P e)) D M i)
  have HCB := Lib.hid (fun i h j => colL_low (mgF (pAt P e)) D hDa M i h j)
  have HCR : Hid (colR (mgF (pAt P e)) D M = if (colL (mgF (pAt P e)) D M D.length).all rngD = true then colL (mgF (pAt P e)) D M D.length else []) := Lib.hid rfl
  have HCK : Hid (colK (mgF (pAt P e)) D M = if (colL (mgF (pAt P e)) D M D.length).all rngD = true then 0 else 11) := Lib.hid rfl
  have HRG := Lib.hid pinRange_any
  unfold pw mgV at HME
  rw [show ((M : Nat) : Int).toNat = M by omega]
  generalize colR (mgF (pAt P e)) D M = RR at *
  generalize colK (mgF (pAt P e)) D M = KK at *
  generalize colL (mgF (pAt P e)) D M = CL at *
  generalize mgF (pAt P e) = f at *
  unfold GivesIK gv at *
  unfold GivesPO at HC
  clear h0 he hk h1 hDr
  obtain ⟨W, hW⟩ : ∃ W, W = w.alloc (Obj.cells #[.int .i64 N, .slice a L.length cap] 24) := ⟨_, rfl⟩
  have hB0 : Below w.heap.size w W := by rw [hW]; exact (Below.refl _ w).alloc (Nat.le_refl _) _
  have hG : Blk W w.heap.size 24 #[.int .i64 N, .slice a L.length cap] := by rw [hW]; exact Blk.new _ _ _
  have hWs : W.heap.size = w.heap.size + 1 := by rw [hW]; simp
  have HW := Lib.hid hW
  have HWS := Lib.hid hWs
  have HB0 := Lib.hid hB0
  have HE := Lib.hid (h.keep hB0)
  have HF : Hid (∀ u, Below W.heap.size W u → u.cell? ⟨w.heap.size, 0, none⟩ = some (.int .i64 N) ∧ u.cell? ⟨w.heap.size, 1, none⟩ = some (.slice a L.length cap)) := Lib.hid fun u hu => ⟨(hG.below hu hG.lt).cell 0, (hG.below hu hG.lt).cell 1⟩
  obtain ⟨g0, g1⟩ := HF.out W (Below.refl _ _)
  have HD := Lib.hid (hd.keep hB0)
  clear hd hB0 hG hW hWs h
  go_enter Try.func30, Try.ntmps30
  go_wp2_with fail
  rw [← HW.out]
  refine (HC.out _ HE.out).mono ?_
  rintro r w1 ⟨a1, c1, rfl, hp1, -, hb⟩
  clear g0 g1
  obtain ⟨g0, g1⟩ := HF.out w1 hb
  go_wp2_with fail
  refine (HDV.out _ (HE.out.keep hb) (HD.out.keep hb)).mono ?_
  rintro r w2 ⟨rfl, hb2⟩
  have hk2 : Below W.heap.size W w2 := hb.trans (hb2.mono hb.size)
  have hp2 := hp1.keep hb2
  clear g0 g1 hb hb2 hp1
  obtain ⟨b1, o1, hbb, q1, x1, x2⟩ := hp2.two e hep
  subst hbb
  have i1 : (e : Int) < (P.length : Int) := by omega
  have i2 : (0 : Int) ≤ (e : Int) := by omega
  generalize pAt P e = p at *
  obtain ⟨xa, xb⟩ := p
  simp only at x1 x2 HME
  go_wp2_with fail
  refine (HME.out _).mono ?_
  rintro r w3 ⟨ga, gb, rfl, hmg, -, -, hb3⟩
  have hk3 : Below W.heap.size W w3 := hk2.trans (hb3.mono hk2.size)
  clear hb3 hk2 x1 x2 hp2
  obtain ⟨g0, g1⟩ := HF.out w3 hk3
  have HMN2 := Lib.hid (fun w hm => HMG.out ga gb (N : Int) (by omega) w hm)
  rw [HMN.out] at HMN2
  go_wp2_with fail
  refine (HMN2.out _ hmg).mono ?_
  rintro r w4 ⟨rfl, hb4⟩
  have hk4 : Below W.heap.size W w4 := hk3.trans (hb4.mono hk3.size)
  have hmg4 := hmg.keep hb4
  clear hb4 hk3 hmg g0 g1
  have hmk : (Instr.makeSlice 48 (.int .i64 (M : Int)) (.int .i64 (M : Int))).run Try.prog w4 = .ok (.slice (some ⟨w4.heap.size, 0, none⟩) M M) (w4.alloc (.cells (flat encI (List.replicate M 0)).toArray 3)) := make_divs M (by omega) _
  obtain ⟨x3, hx3⟩ : ∃ x3, x3 = w4.alloc (.cells (flat encI (List.replicate M 0)).toArray 3) := ⟨_, rfl⟩
  obtain ⟨gp, hgp⟩ : ∃ gp, gp = w4.heap.size := ⟨_, rfl⟩
  have hrb : RowB encI 3 x3 gp (CL 0) := by rw [hx3, hgp, HC0.out]; exact RowB.new _ _ _ _
  have hk5 : Below w4.heap.size w4 x3 := by rw [hx3]; exact (Below.refl _ _).alloc (Nat.le_refl _) _
  rw [← hx3, ← hgp] at hmk
  have HRB := Lib.hid hrb
  have HK5 := Lib.hid hk5
  have HMGA := Lib.hid hmg4
  have HK4 := Lib.hid hk4
  have HGP := Lib.hid hgp
  have HDw := Lib.hid (HD.out.keep hk4)
  clear hrb hk5 hmg4 hx3 hgp hk4
  go_wp2
  clear hmk
  go_loopw [44] (fun x wr => ∃ i : Nat, i ≤ D.length ∧ x = .int .i64 i ∧ RowB encI 3 wr gp (CL i) ∧ Below w4.heap.size w4 wr) (fun x _ => D.length - (intOf x).toNat)
  case atStart => exact ⟨0, by omega, rfl, HRB.out, HK5.out⟩
  case round =>
    obtain ⟨i, hi, rfl, hrb, hb⟩ := hrel
    by_cases hlt : i < D.length
    · have j1 : (i : Int) < (D.length : Int) := by omega
      have j2 : (0 : Int) ≤ (i : Int) := by omega
      obtain ⟨b2, o2, hbb, q2, x1⟩ := (HDw.out.keep hb).one i hlt
      subst hbb
      have hmg := HMGA.out.keep hb
      have HMGi := Lib.hid (fun w hm => HMG.out ga gb (i : Int) (by omega) w hm)
      have hfi := HFR.out i (by omega)
      have HCn := Lib.hid (HCS.out i)
      have hcb := HCB.out i hi (f (i : Int)).toNat
      have hda := hDa i hlt
      obtain ⟨t, ht⟩ : ∃ t : Nat, f (i : Int) = t := ⟨(f (i : Int)).toNat, by omega⟩
      rw [ht] at hfi HMGi HCn hcb
      rw [show ((t : Nat) : Int).toNat = t by omega] at HCn hcb
      have t1 : (t : Int) < (M : Int) := by omega
      have t2 : (0 : Int) ≤ (t : Int) := by omega
      obtain ⟨z, hz⟩ : ∃ z, z = iAt (CL i) t := ⟨_, rfl⟩
      obtain ⟨dv, hdv⟩ : ∃ dv, dv = iAt D i := ⟨_, rfl⟩
      rw [← hz] at hcb HCn
      rw [← hdv] at hda HCn x1
      have HZ := Lib.hid hz
      have HRr := Lib.hid hrb
      have HBr := Lib.hid hb
      clear hrb hb hz hdv ht
      go_wp2_with fail
      refine (HMGi.out _ hmg).mono ?_
      rintro r w6 ⟨rfl, hb6⟩
      have hlw := Blk.lt HRr.out
      have hrz : RowB encI 3 w6 gp (CL i) := Blk.below HRr.out hb6 hlw
      have hbz := HBr.out.trans (hb6.mono HBr.out.size)
      have y1 : w6.cell? ⟨gp, t, none⟩ = some (.int .i64 z) := by rw [HZ.out]; exact hrz.cell t (by rw [HCL.out]; omega)
      have y2 : w6.frozen? ⟨gp, t, none⟩ = false := Blk.frozen hrz t
      have HRN : Hid (RowB encI 3 (w6.setCell ⟨gp, t, none⟩ (.int .i64 (z + dv))) gp (CL (i + 1))) := Lib.hid (by rw [HCn.out]; exact hrz.set t _)
      have HBN : Hid (Below w4.heap.size w4 (w6.setCell ⟨gp, t, none⟩ (.int .i64 (z + dv)))) := Lib.hid (hbz.setCell (p := ⟨gp, t, none⟩) (Nat.le_of_eq HGP.out.symm) _)
      clear hrz hbz hlw hb6 hmg x1
      go_wp2
      go_roundw
      case rel => exact ⟨i + 1, by omega, by go_num, HRN.out, HBN.out⟩
      case measure => simp [intOf]; omega
    · obtain rfl : i = D.length := by omega
      have j1 : ¬ (D.length : Int) < (D.length : Int) := by omega
      have HRr := Lib.hid hrb
      have HBr := Lib.hid hb
      clear hrb hb
      have HT := Lib.hid (fun i h1 h2 h3 => all_take (D := CL D.length) (i := i) h1 h2 h3)
      have HBD := Lib.hid (fun i h1 h2 => all_bad (D := CL D.length) (i := i) h1 h2)
      have HTA : Hid (((CL D.length).take (CL D.length).length).all rngD = (CL D.length).all rngD) := Lib.hid (by rw [List.take_length])
      have hcl := HCL.out D.length
      have HCLM := Lib.hid hcl
      rw [hcl] at HT HBD HTA
      generalize CL D.length = Z at *
      clear hcl
      have hM2 : M ≤ 12 := by omega
      go_wp2
      go_loopw [61] (fun x wr => ∃ i : Nat, i ≤ M ∧ x = .int .i64 i ∧ (Z.take i).all rngD = true ∧ RowB encI 3 wr gp Z ∧ Below w4.heap.size w4 wr) (fun x _ => M - (intOf x).toNat)
      case atStart => exact ⟨0, by omega, rfl, by simp, HRr.out, HBr.out⟩
      case round =>
        obtain ⟨i, hi, rfl, hall, hrb, hb⟩ := hrel
        by_cases hlt : i < M
        · have i1 : (i : Int) < (M : Int) := by omega
          have i2 : (0 : Int) ≤ (i : Int) := by omega
          have x1 : wr.cell? ⟨gp, i, none⟩ = some (.int .i64 (iAt Z i)) := hrb.cell i (by rw [HCLM.out]; exact hlt)
          have HAL := Lib.hid hall
          have HBr := Lib.hid hb
          have HRr := Lib.hid hrb
          have HTi := Lib.hid (HT.out i hlt)
          have HBi := Lib.hid (HBD.out i hlt)
          generalize iAt Z i = v at *
          have HRv := Lib.hid (fun w => HRG.out v w)
          generalize rngD v = R at *
          clear hall hb hrb
          cases R
          · have HKv : Hid (KK = 11) := Lib.hid (by rw [HCK.out, HBi.out rfl]; rfl)
            have HRRv : Hid (RR = []) := Lib.hid (by rw [HCR.out, HBi.out rfl]; rfl)
            have HEND := Lib.hid (HB0.out.trans ((HK4.out.trans (HBr.out.mono HK4.out.size)).mono HB0.out.size))
            go_wp2_with fail
            refine (HRv.out _).mono ?_
            rintro r w7 ⟨rfl, rfl⟩
            go_wp2
            go_ret2
            exact ⟨none, 0, by rw [HRRv.out, HKv.out]; rfl, by rw [HRRv.out]; exact RowAt.nil _ _ _ _, HEND.out⟩
          · have HTn : Hid ((Z.take (i + 1)).all rngD = true) := Lib.hid (HTi.out HAL.out rfl)
            go_wp2_with fail
            refine (HRv.out _).mono ?_
            rintro r w7 ⟨rfl, rfl⟩
            go_wp2
            go_roundw
            case rel => exact ⟨i + 1, by omega, by go_num, HTn.out, HRr.out, HBr.out⟩
            case measure => simp [intOf]; omega
        · obtain rfl : i = M := by omega
          have i1 : ¬ (i : Int) < (i : Int) := by omega
          have HKv : Hid (KK = 0) := Lib.hid (by rw [HCK.out, ← HTA.out, hall]; rfl)
          have HRRv : Hid (RR = Z) := Lib.hid (by rw [HCR.out, ← HTA.out, hall]; rfl)
          have HRW : Hid (IsAt wr (some ⟨gp, 0, none⟩) Z) := Lib.hid (hrb.row encI_len)
          have HEND := Lib.hid (HB0.out.trans ((HK4.out.trans (hb.mono HK4.out.size)).mono HB0.out.size))
          clear hall hb hrb
          go_wp2
          go_ret2
          exact ⟨some ⟨gp, 0, none⟩, ⟨i, by rw [HRRv.out, HKv.out, HCLM.out]; rfl⟩, by rw [HRRv.out]; exact HRW.out, HEND.out⟩
end Go.Proofs.Ytndjjafpdiehdaa

namespace Go.Proofs.Ytndjjafpdiehdaa
open Go.RowKit Go.Shelf Go.Proofs.Gr
attribute [local go_sem] Oper.semAt_some

/-- The error of merging. -/
def mergeE (n : Int) (L : List E) (x y : Int) : Nat := if chkG n L ≠ 0 then chkG n L else if ¬ (0 ≤ x ∧ x < n) ∨ ¬ (0 ≤ y ∧ y < n) then 2 else if x = y then 7 else 0
set_option maxHeartbeats 12800000 in
set_option maxRecDepth 100000 in
theorem pMerge_chk (n : Int) (a : Option Addr) (cap : Nat) (L : List E) (hL : L.length ≤ 100000) (x y : Int) (hk : chkG n L ≠ 0) (w : World) (h : EsAt w a L) :
    Calls Try.prog 19 #[gv n a L.length cap, .int .i64 x, .int .i64 y] w (GivesGW w 0 [] (chkG n L)) := by
  have HC := Lib.hid (fun w h => pends_any n a cap L hL w h)
  rw [if_neg hk] at HC
  generalize chkG n L = k at *
  have q0 : (((k : Nat) : Int) != 0) = true := by rw [bne_iff_ne]; omega
  unfold GivesGW gv at *
  unfold GivesPE at HC
  obtain ⟨W, hW⟩ : ∃ W, W = (w.alloc (Obj.cells #[.int .i64 n, .slice a L.length cap] 24)).alloc (Obj.cells #[.int .i64 0, .slice none 0 0] 24) := ⟨_, rfl⟩
  have hB0 : Below w.heap.size w W := by rw [hW]; exact ((Below.refl _ w).alloc (Nat.le_refl _) _).alloc (by simp) _
  have hG : Blk W w.heap.size 24 #[.int .i64 n, .slice a L.length cap] := by rw [hW]; exact (Blk.new _ _ _).alloc _
  have hWs : W.heap.size = w.heap.size + 2 := by rw [hW]; simp
  have hR : Blk W (w.heap.size + 1) 24 #[.int .i64 0, .slice none 0 0] := by
    rw [hW]
    have := Blk.new (w.alloc (Obj.cells #[.int .i64 n, .slice a L.length cap] 24)) 24 #[.int .i64 0, .slice none 0 0]
    rwa [World.size_alloc] at this
  have HR1 := Lib.hid hR
  have HW := Lib.hid hW
  have HWS := Lib.hid hWs
  have HB0 := Lib.hid hB0
  have HE := Lib.hid (h.keep hB0)
  have HF : Hid (∀ u, Below W.heap.size W u → u.cell? ⟨w.heap.size, 0, none⟩ = some (.int .i64 n) ∧ u.cell? ⟨w.heap.size, 1, none⟩ = some (.slice a L.length cap)) := Lib.hid fun u hu => ⟨(hG.below hu hG.lt).cell 0, (hG.below hu hG.lt).cell 1⟩
  obtain ⟨g0, g1⟩ := HF.out W (Below.refl _ _)
  clear hB0 hG hW hWs h hR
  go_enter Try.func19, Try.ntmps19
  go_wp2_with fail
  rw [← HW.out]
  refine (HC.out _ HE.out).mono ?_
  rintro r w1 ⟨a1, c1, rfl, -, hb⟩
  clear g0 g1
  have hRr : Blk w1 (w.heap.size + 1) 24 #[.int .i64 0, .slice none 0 0] := HR1.out.below hb HR1.out.lt
  have r1 : w1.cell? ⟨w.heap.size + 1, 0, none⟩ = some (.int .i64 0) := hRr.cell 0
  have r3 : w1.frozen? ⟨w.heap.size + 1, 0, none⟩ = false := hRr.frozen 0
  have r2 : w1.cell? ⟨w.heap.size + 1, 1, none⟩ = some (.slice none 0 0) := hRr.cell 1
  have r4 : w1.frozen? ⟨w.heap.size + 1, 1, none⟩ = false := hRr.frozen 1
  have r7 : (w1.setCell ⟨w.heap.size + 1, 0, none⟩ (.int .i64 0)).cell? ⟨w.heap.size + 1, 1, none⟩ = some (.slice none 0 0) := (hRr.set_ 0 (.int .i64 0)).cell 1
  have r8 : (w1.setCell ⟨w.heap.size + 1, 0, none⟩ (.int .i64 0)).frozen? ⟨w.heap.size + 1, 1, none⟩ = false := (hRr.set_ 0 (.int .i64 0)).frozen 1
  have HEND := Lib.hid (HB0.out.trans (hb.mono HB0.out.size))
  have HEND2 := Lib.hid ((HEND.out.setCell (p := ⟨w.heap.size + 1, 0, none⟩) (by show w.heap.size ≤ w.heap.size + 1; omega) (.int .i64 0)).setCell (p := ⟨w.heap.size + 1, 1, none⟩) (by show w.heap.size ≤ w.heap.size + 1; omega) (.slice none 0 0))
  have r5 : ((w1.setCell ⟨w.heap.size + 1, 0, none⟩ (.int .i64 0)).setCell ⟨w.heap.size + 1, 1, none⟩ (.slice none 0 0)).cell? ⟨w.heap.size + 1, 0, none⟩ = some (.int .i64 0) := ((hRr.set_ 0 (.int .i64 0)).set_ 1 (.slice none 0 0)).cell 0
  have r6 : ((w1.setCell ⟨w.heap.size + 1, 0, none⟩ (.int .i64 0)).setCell ⟨w.heap.size + 1, 1, none⟩ (.slice none 0 0)).cell? ⟨w.heap.size + 1, 1, none⟩ = some (.slice none 0 0) := ((hRr.set_ 0 (.int .i64 0)).set_ 1 (.slice none 0 0)).cell 1
  clear hRr hb
  go_wp2
  refine bodyPost_ret (v := .tuple #[.agg #[.int .i64 0, .slice none 0 0], .int .i64 (k : Nat)]) (by simp [results, Try.results19, go_sem, r5, r6]) rfl ?_
  exact ⟨none, 0, rfl, RowAt.nil _ _ _ _, by first | exact HEND2.out | exact HEND.out⟩
set_option maxHeartbeats 12800000 in
set_option maxRecDepth 100000 in
theorem pMerge_x (n : Int) (a : Option Addr) (cap : Nat) (L : List E) (hL : L.length ≤ 100000) (x y : Int) (h0 : chkG n L = 0) (hx : ¬ (0 ≤ x ∧ x < n)) (w : World) (h : EsAt w a L) :
    Calls Try.prog 19 #[gv n a L.length cap, .int .i64 x, .int .i64 y] w (GivesGW w 0 [] 2) := by
  have HC := Lib.hid (fun w h => pends_any n a cap L hL w h)
  have hln : (endsG L).length ≤ 50 * 100000 := by have := ends_all (right_of h0); omega
  rw [h0, if_pos rfl] at HC
  generalize endsG L = P at *
  unfold GivesGW gv at *
  unfold GivesPE at HC
  clear h0 hln
  by_cases h1 : x < 0
  · have d1 : decide (x < 0) = true := decide_eq_true (by omega)
    obtain ⟨W, hW⟩ : ∃ W, W = (w.alloc (Obj.cells #[.int .i64 n, .slice a L.length cap] 24)).alloc (Obj.cells #[.int .i64 0, .slice none 0 0] 24) := ⟨_, rfl⟩
    have hB0 : Below w.heap.size w W := by rw [hW]; exact ((Below.refl _ w).alloc (Nat.le_refl _) _).alloc (by simp) _
    have hG : Blk W w.heap.size 24 #[.int .i64 n, .slice a L.length cap] := by rw [hW]; exact (Blk.new _ _ _).alloc _
    have hWs : W.heap.size = w.heap.size + 2 := by rw [hW]; simp
    have hR : Blk W (w.heap.size + 1) 24 #[.int .i64 0, .slice none 0 0] := by
      rw [hW]
      have := Blk.new (w.alloc (Obj.cells #[.int .i64 n, .slice a L.length cap] 24)) 24 #[.int .i64 0, .slice none 0 0]
      rwa [World.size_alloc] at this
    have HR1 := Lib.hid hR
    have HW := Lib.hid hW
    have HWS := Lib.hid hWs
    have HB0 := Lib.hid hB0
    have HE := Lib.hid (h.keep hB0)
    have HF : Hid (∀ u, Below W.heap.size W u → u.cell? ⟨w.heap.size, 0, none⟩ = some (.int .i64 n) ∧ u.cell? ⟨w.heap.size, 1, none⟩ = some (.slice a L.length cap)) := Lib.hid fun u hu => ⟨(hG.below hu hG.lt).cell 0, (hG.below hu hG.lt).cell 1⟩
    obtain ⟨g0, g1⟩ := HF.out W (Below.refl _ _)
    clear hB0 hG hW hWs h hR
    go_enter Try.func19, Try.ntmps19
    go_wp2_with fail
    rw [← HW.out]
    refine (HC.out _ HE.out).mono ?_
    rintro r w1 ⟨a1, c1, rfl, -, hb⟩
    clear g0 g1
    obtain ⟨V, hV⟩ : ∃ V, V = w1.alloc (Obj.cells #[.int .i64 x, .int .i64 y] 3) := ⟨_, rfl⟩
    have hbV : Below W.heap.size W V := by rw [hV]; exact hb.alloc hb.size _
    have hvb : Blk V w1.heap.size 3 #[.int .i64 x, .int .i64 y] := by rw [hV]; exact Blk.new _ _ _
    have z0 : V.cell? ⟨w1.heap.size, 0, none⟩ = some (.int .i64 x) := hvb.cell 0
    have z1 : V.cell? ⟨w1.heap.size, 1, none⟩ = some (.int .i64 y) := hvb.cell 1
    obtain ⟨g0, g1⟩ := HF.out V hbV
    have HV := Lib.hid hV
    have hRr : Blk V (w.heap.size + 1) 24 #[.int .i64 0, .slice none 0 0] := HR1.out.below hbV HR1.out.lt
    have r1 : V.cell? ⟨w.heap.size + 1, 0, none⟩ = some (.int .i64 0) := hRr.cell 0
    have r3 : V.frozen? ⟨w.heap.size + 1, 0, none⟩ = false := hRr.frozen 0
    have r2 : V.cell? ⟨w.heap.size + 1, 1, none⟩ = some (.slice none 0 0) := hRr.cell 1
    have r4 : V.frozen? ⟨w.heap.size + 1, 1, none⟩ = false := hRr.frozen 1
    have r7 : (V.setCell ⟨w.heap.size + 1, 0, none⟩ (.int .i64 0)).cell? ⟨w.heap.size + 1, 1, none⟩ = some (.slice none 0 0) := (hRr.set_ 0 (.int .i64 0)).cell 1
    have r8 : (V.setCell ⟨w.heap.size + 1, 0, none⟩ (.int .i64 0)).frozen? ⟨w.heap.size + 1, 1, none⟩ = false := (hRr.set_ 0 (.int .i64 0)).frozen 1
    have HEND := Lib.hid (HB0.out.trans (hbV.mono HB0.out.size))
    have HEND2 := Lib.hid ((HEND.out.setCell (p := ⟨w.heap.size + 1, 0, none⟩) (by show w.heap.size ≤ w.heap.size + 1; omega) (.int .i64 0)).setCell (p := ⟨w.heap.size + 1, 1, none⟩) (by show w.heap.size ≤ w.heap.size + 1; omega) (.slice none 0 0))
    have r5 : ((V.setCell ⟨w.heap.size + 1, 0, none⟩ (.int .i64 0)).setCell ⟨w.heap.size + 1, 1, none⟩ (.slice none 0 0)).cell? ⟨w.heap.size + 1, 0, none⟩ = some (.int .i64 0) := ((hRr.set_ 0 (.int .i64 0)).set_ 1 (.slice none 0 0)).cell 0
    have r6 : ((V.setCell ⟨w.heap.size + 1, 0, none⟩ (.int .i64 0)).setCell ⟨w.heap.size + 1, 1, none⟩ (.slice none 0 0)).cell? ⟨w.heap.size + 1, 1, none⟩ = some (.slice none 0 0) := ((hRr.set_ 0 (.int .i64 0)).set_ 1 (.slice none 0 0)).cell 1
    clear hRr hbV
    clear hb hV hvb
    go_wp2
    rw [← HV.out]
    refine wp_loop_rounds 3 ?_
    rw [rounds_succ]
    go_wp2
    refine bodyPost_ret (v := .tuple #[.agg #[.int .i64 0, .slice none 0 0], .int .i64 2]) (by simp [results, Try.results19, go_sem, r5, r6]) rfl ?_
    exact ⟨none, 0, rfl, RowAt.nil _ _ _ _, by first | exact HEND2.out | exact HEND.out⟩
  · have d1 : decide (x < 0) = false := decide_eq_false (by omega)
    have d2 : n ≤ x := by omega
    obtain ⟨W, hW⟩ : ∃ W, W = (w.alloc (Obj.cells #[.int .i64 n, .slice a L.length cap] 24)).alloc (Obj.cells #[.int .i64 0, .slice none 0 0] 24) := ⟨_, rfl⟩
    have hB0 : Below w.heap.size w W := by rw [hW]; exact ((Below.refl _ w).alloc (Nat.le_refl _) _).alloc (by simp) _
    have hG : Blk W w.heap.size 24 #[.int .i64 n, .slice a L.length cap] := by rw [hW]; exact (Blk.new _ _ _).alloc _
    have hWs : W.heap.size = w.heap.size + 2 := by rw [hW]; simp
    have hR : Blk W (w.heap.size + 1) 24 #[.int .i64 0, .slice none 0 0] := by
      rw [hW]
      have := Blk.new (w.alloc (Obj.cells #[.int .i64 n, .slice a L.length cap] 24)) 24 #[.int .i64 0, .slice none 0 0]
      rwa [World.size_alloc] at this
    have HR1 := Lib.hid hR
    have HW := Lib.hid hW
    have HWS := Lib.hid hWs
    have HB0 := Lib.hid hB0
    have HE := Lib.hid (h.keep hB0)
    have HF : Hid (∀ u, Below W.heap.size W u → u.cell? ⟨w.heap.size, 0, none⟩ = some (.int .i64 n) ∧ u.cell? ⟨w.heap.size, 1, none⟩ = some (.slice a L.length cap)) := Lib.hid fun u hu => ⟨(hG.below hu hG.lt).cell 0, (hG.below hu hG.lt).cell 1⟩
    obtain ⟨g0, g1⟩ := HF.out W (Below.refl _ _)
    clear hB0 hG hW hWs h hR
    go_enter Try.func19, Try.ntmps19
    go_wp2_with fail
    rw [← HW.out]
    refine (HC.out _ HE.out).mono ?_
    rintro r w1 ⟨a1, c1, rfl, -, hb⟩
    clear g0 g1
    obtain ⟨V, hV⟩ : ∃ V, V = w1.alloc (Obj.cells #[.int .i64 x, .int .i64 y] 3) := ⟨_, rfl⟩
    have hbV : Below W.heap.size W V := by rw [hV]; exact hb.alloc hb.size _
    have hvb : Blk V w1.heap.size 3 #[.int .i64 x, .int .i64 y] := by rw [hV]; exact Blk.new _ _ _
    have z0 : V.cell? ⟨w1.heap.size, 0, none⟩ = some (.int .i64 x) := hvb.cell 0
    have z1 : V.cell? ⟨w1.heap.size, 1, none⟩ = some (.int .i64 y) := hvb.cell 1
    obtain ⟨g0, g1⟩ := HF.out V hbV
    have HV := Lib.hid hV
    have hRr : Blk V (w.heap.size + 1) 24 #[.int .i64 0, .slice none 0 0] := HR1.out.below hbV HR1.out.lt
    have r1 : V.cell? ⟨w.heap.size + 1, 0, none⟩ = some (.int .i64 0) := hRr.cell 0
    have r3 : V.frozen? ⟨w.heap.size + 1, 0, none⟩ = false := hRr.frozen 0
    have r2 : V.cell? ⟨w.heap.size + 1, 1, none⟩ = some (.slice none 0 0) := hRr.cell 1
    have r4 : V.frozen? ⟨w.heap.size + 1, 1, none⟩ = false := hRr.frozen 1
    have r7 : (V.setCell ⟨w.heap.size + 1, 0, none⟩ (.int .i64 0)).cell? ⟨w.heap.size + 1, 1, none⟩ = some (.slice none 0 0) := (hRr.set_ 0 (.int .i64 0)).cell 1
    have r8 : (V.setCell ⟨w.heap.size + 1, 0, none⟩ (.int .i64 0)).frozen? ⟨w.heap.size + 1, 1, none⟩ = false := (hRr.set_ 0 (.int .i64 0)).frozen 1
    have HEND := Lib.hid (HB0.out.trans (hbV.mono HB0.out.size))
    have HEND2 := Lib.hid ((HEND.out.setCell (p := ⟨w.heap.size + 1, 0, none⟩) (by show w.heap.size ≤ w.heap.size + 1; omega) (.int .i64 0)).setCell (p := ⟨w.heap.size + 1, 1, none⟩) (by show w.heap.size ≤ w.heap.size + 1; omega) (.slice none 0 0))
    have r5 : ((V.setCell ⟨w.heap.size + 1, 0, none⟩ (.int .i64 0)).setCell ⟨w.heap.size + 1, 1, none⟩ (.slice none 0 0)).cell? ⟨w.heap.size + 1, 0, none⟩ = some (.int .i64 0) := ((hRr.set_ 0 (.int .i64 0)).set_ 1 (.slice none 0 0)).cell 0
    have r6 : ((V.setCell ⟨w.heap.size + 1, 0, none⟩ (.int .i64 0)).setCell ⟨w.heap.size + 1, 1, none⟩ (.slice none 0 0)).cell? ⟨w.heap.size + 1, 1, none⟩ = some (.slice none 0 0) := ((hRr.set_ 0 (.int .i64 0)).set_ 1 (.slice none 0 0)).cell 1
    clear hRr hbV
    clear hb hV hvb
    go_wp2
    rw [← HV.out]
    refine wp_loop_rounds 3 ?_
    rw [rounds_succ]
    go_wp2
    refine bodyPost_ret (v := .tuple #[.agg #[.int .i64 0, .slice none 0 0], .int .i64 2]) (by simp [results, Try.results19, go_sem, r5, r6]) rfl ?_
    exact ⟨none, 0, rfl, RowAt.nil _ _ _ _, by first | exact HEND2.out | exact HEND.out⟩
set_option maxHeartbeats 12800000 in
set_option maxRecDepth 100000 in
theorem pMerge_y (n : Int) (a : Option Addr) (cap : Nat) (L : List E) (hL : L.length ≤ 100000) (x y : Int) (h0 : chkG n L = 0) (hx : 0 ≤ x ∧ x < n) (hy : ¬ (0 ≤ y ∧ y < n)) (w : World) (h : EsAt w a L) :
    Calls Try.prog 19 #[gv n a L.length cap, .int .i64 x, .int .i64 y] w (GivesGW w 0 [] 2) := by
  have HC := Lib.hid (fun w h => pends_any n a cap L hL w h)
  have hln : (endsG L).length ≤ 50 * 100000 := by have := ends_all (right_of h0); omega
  rw [h0, if_pos rfl] at HC
  generalize endsG L = P at *
  unfold GivesGW gv at *
  unfold GivesPE at HC
  clear h0 hln
  by_cases h1 : y < 0
  · have d1 : decide (x < 0) = false := decide_eq_false (by omega)
    have d2 : ¬ n ≤ x := by omega
    have d3 : decide (y < 0) = true := decide_eq_true (by omega)
    obtain ⟨W, hW⟩ : ∃ W, W = (w.alloc (Obj.cells #[.int .i64 n, .slice a L.length cap] 24)).alloc (Obj.cells #[.int .i64 0, .slice none 0 0] 24) := ⟨_, rfl⟩
    have hB0 : Below w.heap.size w W := by rw [hW]; exact ((Below.refl _ w).alloc (Nat.le_refl _) _).alloc (by simp) _
    have hG : Blk W w.heap.size 24 #[.int .i64 n, .slice a L.length cap] := by rw [hW]; exact (Blk.new _ _ _).alloc _
    have hWs : W.heap.size = w.heap.size + 2 := by rw [hW]; simp
    have hR : Blk W (w.heap.size + 1) 24 #[.int .i64 0, .slice none 0 0] := by
      rw [hW]
      have := Blk.new (w.alloc (Obj.cells #[.int .i64 n, .slice a L.length cap] 24)) 24 #[.int .i64 0, .slice none 0 0]
      rwa [World.size_alloc] at this
    have HR1 := Lib.hid hR
    have HW := Lib.hid hW
    have HWS := Lib.hid hWs
    have HB0 := Lib.hid hB0
    have HE := Lib.hid (h.keep hB0)
    have HF : Hid (∀ u, Below W.heap.size W u → u.cell? ⟨w.heap.size, 0, none⟩ = some (.int .i64 n) ∧ u.cell? ⟨w.heap.size, 1, none⟩ = some (.slice a L.length cap)) := Lib.hid fun u hu => ⟨(hG.below hu hG.lt).cell 0, (hG.below hu hG.lt).cell 1⟩
    obtain ⟨g0, g1⟩ := HF.out W (Below.refl _ _)
    clear hB0 hG hW hWs h hR
    go_enter Try.func19, Try.ntmps19
    go_wp2_with fail
    rw [← HW.out]
    refine (HC.out _ HE.out).mono ?_
    rintro r w1 ⟨a1, c1, rfl, -, hb⟩
    clear g0 g1
    obtain ⟨V, hV⟩ : ∃ V, V = w1.alloc (Obj.cells #[.int .i64 x, .int .i64 y] 3) := ⟨_, rfl⟩
    have hbV : Below W.heap.size W V := by rw [hV]; exact hb.alloc hb.size _
    have hvb : Blk V w1.heap.size 3 #[.int .i64 x, .int .i64 y] := by rw [hV]; exact Blk.new _ _ _
    have z0 : V.cell? ⟨w1.heap.size, 0, none⟩ = some (.int .i64 x) := hvb.cell 0
    have z1 : V.cell? ⟨w1.heap.size, 1, none⟩ = some (.int .i64 y) := hvb.cell 1
    obtain ⟨g0, g1⟩ := HF.out V hbV
    have HV := Lib.hid hV
    have hRr : Blk V (w.heap.size + 1) 24 #[.int .i64 0, .slice none 0 0] := HR1.out.below hbV HR1.out.lt
    have r1 : V.cell? ⟨w.heap.size + 1, 0, none⟩ = some (.int .i64 0) := hRr.cell 0
    have r3 : V.frozen? ⟨w.heap.size + 1, 0, none⟩ = false := hRr.frozen 0
    have r2 : V.cell? ⟨w.heap.size + 1, 1, none⟩ = some (.slice none 0 0) := hRr.cell 1
    have r4 : V.frozen? ⟨w.heap.size + 1, 1, none⟩ = false := hRr.frozen 1
    have r7 : (V.setCell ⟨w.heap.size + 1, 0, none⟩ (.int .i64 0)).cell? ⟨w.heap.size + 1, 1, none⟩ = some (.slice none 0 0) := (hRr.set_ 0 (.int .i64 0)).cell 1
    have r8 : (V.setCell ⟨w.heap.size + 1, 0, none⟩ (.int .i64 0)).frozen? ⟨w.heap.size + 1, 1, none⟩ = false := (hRr.set_ 0 (.int .i64 0)).frozen 1
    have HEND := Lib.hid (HB0.out.trans (hbV.mono HB0.out.size))
    have HEND2 := Lib.hid ((HEND.out.setCell (p := ⟨w.heap.size + 1, 0, none⟩) (by show w.heap.size ≤ w.heap.size + 1; omega) (.int .i64 0)).setCell (p := ⟨w.heap.size + 1, 1, none⟩) (by show w.heap.size ≤ w.heap.size + 1; omega) (.slice none 0 0))
    have r5 : ((V.setCell ⟨w.heap.size + 1, 0, none⟩ (.int .i64 0)).setCell ⟨w.heap.size + 1, 1, none⟩ (.slice none 0 0)).cell? ⟨w.heap.size + 1, 0, none⟩ = some (.int .i64 0) := ((hRr.set_ 0 (.int .i64 0)).set_ 1 (.slice none 0 0)).cell 0
    have r6 : ((V.setCell ⟨w.heap.size + 1, 0, none⟩ (.int .i64 0)).setCell ⟨w.heap.size + 1, 1, none⟩ (.slice none 0 0)).cell? ⟨w.heap.size + 1, 1, none⟩ = some (.slice none 0 0) := ((hRr.set_ 0 (.int .i64 0)).set_ 1 (.slice none 0 0)).cell 1
    clear hRr hbV
    clear hb hV hvb
    go_wp2
    rw [← HV.out]
    refine wp_loop_rounds 3 ?_
    rw [rounds_succ]
    go_wp2
    rw [rounds_succ]
    go_wp2
    refine bodyPost_ret (v := .tuple #[.agg #[.int .i64 0, .slice none 0 0], .int .i64 2]) (by simp [results, Try.results19, go_sem, r5, r6]) rfl ?_
    exact ⟨none, 0, rfl, RowAt.nil _ _ _ _, by first | exact HEND2.out | exact HEND.out⟩
  · have d1 : decide (x < 0) = false := decide_eq_false (by omega)
    have d2 : ¬ n ≤ x := by omega
    have d3 : decide (y < 0) = false := decide_eq_false (by omega)
    have d4 : n ≤ y := by omega
    obtain ⟨W, hW⟩ : ∃ W, W = (w.alloc (Obj.cells #[.int .i64 n, .slice a L.length cap] 24)).alloc (Obj.cells #[.int .i64 0, .slice none 0 0] 24) := ⟨_, rfl⟩
    have hB0 : Below w.heap.size w W := by rw [hW]; exact ((Below.refl _ w).alloc (Nat.le_refl _) _).alloc (by simp) _
    have hG : Blk W w.heap.size 24 #[.int .i64 n, .slice a L.length cap] := by rw [hW]; exact (Blk.new _ _ _).alloc _
    have hWs : W.heap.size = w.heap.size + 2 := by rw [hW]; simp
    have hR : Blk W (w.heap.size + 1) 24 #[.int .i64 0, .slice none 0 0] := by
      rw [hW]
      have := Blk.new (w.alloc (Obj.cells #[.int .i64 n, .slice a L.length cap] 24)) 24 #[.int .i64 0, .slice none 0 0]
      rwa [World.size_alloc] at this
    have HR1 := Lib.hid hR
    have HW := Lib.hid hW
    have HWS := Lib.hid hWs
    have HB0 := Lib.hid hB0
    have HE := Lib.hid (h.keep hB0)
    have HF : Hid (∀ u, Below W.heap.size W u → u.cell? ⟨w.heap.size, 0, none⟩ = some (.int .i64 n) ∧ u.cell? ⟨w.heap.size, 1, none⟩ = some (.slice a L.length cap)) := Lib.hid fun u hu => ⟨(hG.below hu hG.lt).cell 0, (hG.below hu hG.lt).cell 1⟩
    obtain ⟨g0, g1⟩ := HF.out W (Below.refl _ _)
    clear hB0 hG hW hWs h hR
    go_enter Try.func19, Try.ntmps19
    go_wp2_with fail
    rw [← HW.out]
    refine (HC.out _ HE.out).mono ?_
    rintro r w1 ⟨a1, c1, rfl, -, hb⟩
    clear g0 g1
    obtain ⟨V, hV⟩ : ∃ V, V = w1.alloc (Obj.cells #[.int .i64 x, .int .i64 y] 3) := ⟨_, rfl⟩
    have hbV : Below W.heap.size W V := by rw [hV]; exact hb.alloc hb.size _
    have hvb : Blk V w1.heap.size 3 #[.int .i64 x, .int .i64 y] := by rw [hV]; exact Blk.new _ _ _
    have z0 : V.cell? ⟨w1.heap.size, 0, none⟩ = some (.int .i64 x) := hvb.cell 0
    have z1 : V.cell? ⟨w1.heap.size, 1, none⟩ = some (.int .i64 y) := hvb.cell 1
    obtain ⟨g0, g1⟩ := HF.out V hbV
    have HV := Lib.hid hV
    have hRr : Blk V (w.heap.size + 1) 24 #[.int .i64 0, .slice none 0 0] := HR1.out.below hbV HR1.out.lt
    have r1 : V.cell? ⟨w.heap.size + 1, 0, none⟩ = some (.int .i64 0) := hRr.cell 0
    have r3 : V.frozen? ⟨w.heap.size + 1, 0, none⟩ = false := hRr.frozen 0
    have r2 : V.cell? ⟨w.heap.size + 1, 1, none⟩ = some (.slice none 0 0) := hRr.cell 1
    have r4 : V.frozen? ⟨w.heap.size + 1, 1, none⟩ = false := hRr.frozen 1
    have r7 : (V.setCell ⟨w.heap.size + 1, 0, none⟩ (.int .i64 0)).cell? ⟨w.heap.size + 1, 1, none⟩ = some (.slice none 0 0) := (hRr.set_ 0 (.int .i64 0)).cell 1
    have r8 : (V.setCell ⟨w.heap.size + 1, 0, none⟩ (.int .i64 0)).frozen? ⟨w.heap.size + 1, 1, none⟩ = false := (hRr.set_ 0 (.int .i64 0)).frozen 1
    have HEND := Lib.hid (HB0.out.trans (hbV.mono HB0.out.size))
    have HEND2 := Lib.hid ((HEND.out.setCell (p := ⟨w.heap.size + 1, 0, none⟩) (by show w.heap.size ≤ w.heap.size + 1; omega) (.int .i64 0)).setCell (p := ⟨w.heap.size + 1, 1, none⟩) (by show w.heap.size ≤ w.heap.size + 1; omega) (.slice none 0 0))
    have r5 : ((V.setCell ⟨w.heap.size + 1, 0, none⟩ (.int .i64 0)).setCell ⟨w.heap.size + 1, 1, none⟩ (.slice none 0 0)).cell? ⟨w.heap.size + 1, 0, none⟩ = some (.int .i64 0) := ((hRr.set_ 0 (.int .i64 0)).set_ 1 (.slice none 0 0)).cell 0
    have r6 : ((V.setCell ⟨w.heap.size + 1, 0, none⟩ (.int .i64 0)).setCell ⟨w.heap.size + 1, 1, none⟩ (.slice none 0 0)).cell? ⟨w.heap.size + 1, 1, none⟩ = some (.slice none 0 0) := ((hRr.set_ 0 (.int .i64 0)).set_ 1 (.slice none 0 0)).cell 1
    clear hRr hbV
    clear hb hV hvb
    go_wp2
    rw [← HV.out]
    refine wp_loop_rounds 3 ?_
    rw [rounds_succ]
    go_wp2
    rw [rounds_succ]
    go_wp2
    refine bodyPost_ret (v := .tuple #[.agg #[.int .i64 0, .slice none 0 0], .int .i64 2]) (by simp [results, Try.results19, go_sem, r5, r6]) rfl ?_
    exact ⟨none, 0, rfl, RowAt.nil _ _ _ _, by first | exact HEND2.out | exact HEND.out⟩
set_option maxHeartbeats 12800000 in
set_option maxRecDepth 100000 in
theorem pMerge_same (n : Int) (a : Option Addr) (cap : Nat) (L : List E) (hL : L.length ≤ 100000) (x : Int) (h0 : chkG n L = 0) (hx : 0 ≤ x ∧ x < n) (w : World) (h : EsAt w a L) :
    Calls Try.prog 19 #[gv n a L.length cap, .int .i64 x, .int .i64 x] w (GivesGW w 0 [] 7) := by
  have HC := Lib.hid (fun w h => pends_any n a cap L hL w h)
  have hln : (endsG L).length ≤ 50 * 100000 := by have := ends_all (right_of h0); omega
  rw [h0, if_pos rfl] at HC
  generalize endsG L = P at *
  unfold GivesGW gv at *
  unfold GivesPE at HC
  clear h0 hln
  have d1 : decide (x < 0) = false := decide_eq_false (by omega)
  have d2 : ¬ n ≤ x := by omega
  obtain ⟨W, hW⟩ : ∃ W, W = (w.alloc (Obj.cells #[.int .i64 n, .slice a L.length cap] 24)).alloc (Obj.cells #[.int .i64 0, .slice none 0 0] 24) := ⟨_, rfl⟩
  have hB0 : Below w.heap.size w W := by rw [hW]; exact ((Below.refl _ w).alloc (Nat.le_refl _) _).alloc (by simp) _
  have hG : Blk W w.heap.size 24 #[.int .i64 n, .slice a L.length cap] := by rw [hW]; exact (Blk.new _ _ _).alloc _
  have hWs : W.heap.size = w.heap.size + 2 := by rw [hW]; simp
  have hR : Blk W (w.heap.size + 1) 24 #[.int .i64 0, .slice none 0 0] := by
    rw [hW]
    have := Blk.new (w.alloc (Obj.cells #[.int .i64 n, .slice a L.length cap] 24)) 24 #[.int .i64 0, .slice none 0 0]
    rwa [World.size_alloc] at this
  have HR1 := Lib.hid hR
  have HW := Lib.hid hW
  have HWS := Lib.hid hWs
  have HB0 := Lib.hid hB0
  have HE := Lib.hid (h.keep hB0)
  have HF : Hid (∀ u, Below W.heap.size W u → u.cell? ⟨w.heap.size, 0, none⟩ = some (.int .i64 n) ∧ u.cell? ⟨w.heap.size, 1, none⟩ = some (.slice a L.length cap)) := Lib.hid fun u hu => ⟨(hG.below hu hG.lt).cell 0, (hG.below hu hG.lt).cell 1⟩
  obtain ⟨g0, g1⟩ := HF.out W (Below.refl _ _)
  clear hB0 hG hW hWs h hR
  go_enter Try.func19, Try.ntmps19
  go_wp2_with fail
  rw [← HW.out]
  refine (HC.out _ HE.out).mono ?_
  rintro r w1 ⟨a1, c1, rfl, -, hb⟩
  clear g0 g1
  obtain ⟨V, hV⟩ : ∃ V, V = w1.alloc (Obj.cells #[.int .i64 x, .int .i64 x] 3) := ⟨_, rfl⟩
  have hbV : Below W.heap.size W V := by rw [hV]; exact hb.alloc hb.size _
  have hvb : Blk V w1.heap.size 3 #[.int .i64 x, .int .i64 x] := by rw [hV]; exact Blk.new _ _ _
  have z0 : V.cell? ⟨w1.heap.size, 0, none⟩ = some (.int .i64 x) := hvb.cell 0
  have z1 : V.cell? ⟨w1.heap.size, 1, none⟩ = some (.int .i64 x) := hvb.cell 1
  obtain ⟨g0, g1⟩ := HF.out V hbV
  have HV := Lib.hid hV
  have hRr : Blk V (w.heap.size + 1) 24 #[.int .i64 0, .slice none 0 0] := HR1.out.below hbV HR1.out.lt
  have r1 : V.cell? ⟨w.heap.size + 1, 0, none⟩ = some (.int .i64 0) := hRr.cell 0
  have r3 : V.frozen? ⟨w.heap.size + 1, 0, none⟩ = false := hRr.frozen 0
  have r2 : V.cell? ⟨w.heap.size + 1, 1, none⟩ = some (.slice none 0 0) := hRr.cell 1
  have r4 : V.frozen? ⟨w.heap.size + 1, 1, none⟩ = false := hRr.frozen 1
  have r7 : (V.setCell ⟨w.heap.size + 1, 0, none⟩ (.int .i64 0)).cell? ⟨w.heap.size + 1, 1, none⟩ = some (.slice none 0 0) := (hRr.set_ 0 (.int .i64 0)).cell 1
  have r8 : (V.setCell ⟨w.heap.size + 1, 0, none⟩ (.int .i64 0)).frozen? ⟨w.heap.size + 1, 1, none⟩ = false := (hRr.set_ 0 (.int .i64 0)).frozen 1
  have HEND := Lib.hid (HB0.out.trans (hbV.mono HB0.out.size))
  have HEND2 := Lib.hid ((HEND.out.setCell (p := ⟨w.heap.size + 1, 0, none⟩) (by show w.heap.size ≤ w.heap.size + 1; omega) (.int .i64 0)).setCell (p := ⟨w.heap.size + 1, 1, none⟩) (by show w.heap.size ≤ w.heap.size + 1; omega) (.slice none 0 0))
  have r5 : ((V.setCell ⟨w.heap.size + 1, 0, none⟩ (.int .i64 0)).setCell ⟨w.heap.size + 1, 1, none⟩ (.slice none 0 0)).cell? ⟨w.heap.size + 1, 0, none⟩ = some (.int .i64 0) := ((hRr.set_ 0 (.int .i64 0)).set_ 1 (.slice none 0 0)).cell 0
  have r6 : ((V.setCell ⟨w.heap.size + 1, 0, none⟩ (.int .i64 0)).setCell ⟨w.heap.size + 1, 1, none⟩ (.slice none 0 0)).cell? ⟨w.heap.size + 1, 1, none⟩ = some (.slice none 0 0) := ((hRr.set_ 0 (.int .i64 0)).set_ 1 (.slice none 0 0)).cell 1
  clear hRr hbV
  clear hb hV hvb
  go_wp2
  rw [← HV.out]
  refine wp_loop_rounds 3 ?_
  rw [rounds_succ]
  go_wp2
  rw [rounds_succ]
  go_wp2
  rw [rounds_succ]
  go_wp2
  refine bodyPost_ret (v := .tuple #[.agg #[.int .i64 0, .slice none 0 0], .int .i64 7]) (by simp [results, Try.results19, go_sem, r5, r6]) rfl ?_
  exact ⟨none, 0, rfl, RowAt.nil _ _ _ _, by first | exact HEND2.out | exact HEND.out⟩
set_option maxHeartbeats 12800000 in
set_option maxRecDepth 100000 in
theorem pMerge_ok (n : Int) (a : Option Addr) (cap : Nat) (L : List E) (hL : L.length ≤ 100000) (x y : Int) (h0 : chkG n L = 0) (hx : 0 ≤ x ∧ x < n) (hy : 0 ≤ y ∧ y < n) (hxy : x ≠ y) (m : Int) (J : List E) (k : Nat) (hM : Makes (mgF (x, y) n) (mvP (mgF (x, y)) (endsG L)) m J k) (w : World) (h : EsAt w a L) :
    Calls Try.prog 19 #[gv n a L.length cap, .int .i64 x, .int .i64 y] w (GivesGW w m J k) := by
  obtain ⟨hJl, hM, -⟩ := hM
  have hir := inr_ends (right_of h0)
  have hnr := chkG_n h0
  have HC := Lib.hid (fun w h => pends_any n a cap L hL w h)
  have hln : (endsG L).length ≤ 50 * 100000 := by have := ends_all (right_of h0); omega
  rw [h0, if_pos rfl] at HC
  generalize endsG L = P at *
  have HLQ : Hid ((mvP (mgF (x, y)) P).length = P.length) := Lib.hid (mvP_len _ _)
  have HMV := Lib.hid (fun ga gb (a : Option Addr) c w h hm => pmoved_any ga gb (x, y) a c P (by omega) hir w h hm)
  have HMG := Lib.hid (fun ga gb w hm => mg1_any ga gb (x, y) n (by omega) w hm)
  have HME := Lib.hid (fun w => merging_any (x, y) w)
  unfold pw mgV at HME
  unfold mgV at HMV
  unfold GivesP at HMV
  simp only at HME
  have HM := Lib.hid hM
  generalize mvP (mgF (x, y)) P = R at *
  generalize mgF (x, y) n = N at *
  unfold GivesGW gv at *
  unfold GivesGE gv at *
  unfold GivesPE at HC
  clear hM h0 hir hnr hln
  have dxy : (x == y) = false := by simpa using hxy
  have d1 : decide (x < 0) = false := decide_eq_false (by omega)
  have d2 : ¬ n ≤ x := by omega
  have d3 : decide (y < 0) = false := decide_eq_false (by omega)
  have d4 : ¬ n ≤ y := by omega
  obtain ⟨W, hW⟩ : ∃ W, W = (w.alloc (Obj.cells #[.int .i64 n, .slice a L.length cap] 24)).alloc (Obj.cells #[.int .i64 0, .slice none 0 0] 24) := ⟨_, rfl⟩
  have hB0 : Below w.heap.size w W := by rw [hW]; exact ((Below.refl _ w).alloc (Nat.le_refl _) _).alloc (by simp) _
  have hG : Blk W w.heap.size 24 #[.int .i64 n, .slice a L.length cap] := by rw [hW]; exact (Blk.new _ _ _).alloc _
  have hWs : W.heap.size = w.heap.size + 2 := by rw [hW]; simp
  have hR : Blk W (w.heap.size + 1) 24 #[.int .i64 0, .slice none 0 0] := by
    rw [hW]
    have := Blk.new (w.alloc (Obj.cells #[.int .i64 n, .slice a L.length cap] 24)) 24 #[.int .i64 0, .slice none 0 0]
    rwa [World.size_alloc] at this
  have HR1 := Lib.hid hR
  have HW := Lib.hid hW
  have HWS := Lib.hid hWs
  have HB0 := Lib.hid hB0
  have HE := Lib.hid (h.keep hB0)
  have HF : Hid (∀ u, Below W.heap.size W u → u.cell? ⟨w.heap.size, 0, none⟩ = some (.int .i64 n) ∧ u.cell? ⟨w.heap.size, 1, none⟩ = some (.slice a L.length cap)) := Lib.hid fun u hu => ⟨(hG.below hu hG.lt).cell 0, (hG.below hu hG.lt).cell 1⟩
  obtain ⟨g0, g1⟩ := HF.out W (Below.refl _ _)
  clear hB0 hG hW hWs h hR
  go_enter Try.func19, Try.ntmps19
  go_wp2_with fail
  rw [← HW.out]
  refine (HC.out _ HE.out).mono ?_
  rintro r w1 ⟨a1, c1, rfl, hp1, hb⟩
  clear g0 g1
  obtain ⟨V, hV⟩ : ∃ V, V = w1.alloc (Obj.cells #[.int .i64 x, .int .i64 y] 3) := ⟨_, rfl⟩
  have hbV : Below W.heap.size W V := by rw [hV]; exact hb.alloc hb.size _
  have hvb : Blk V w1.heap.size 3 #[.int .i64 x, .int .i64 y] := by rw [hV]; exact Blk.new _ _ _
  have z0 : V.cell? ⟨w1.heap.size, 0, none⟩ = some (.int .i64 x) := hvb.cell 0
  have z1 : V.cell? ⟨w1.heap.size, 1, none⟩ = some (.int .i64 y) := hvb.cell 1
  obtain ⟨g0, g1⟩ := HF.out V hbV
  have HV := Lib.hid hV
  have hpV : PsAt V a1 P := by rw [hV]; exact hp1.keep ((Below.refl _ w1).alloc (Nat.le_refl _) _)
  clear hb hV hvb hp1
  go_wp2
  rw [← HV.out]
  refine wp_loop_rounds 3 ?_
  rw [rounds_succ]
  go_wp2
  rw [rounds_succ]
  go_wp2
  rw [rounds_succ]
  go_wp2_with fail
  refine (HME.out _).mono ?_
  rintro r w2 ⟨ga, gb, rfl, hmg, -, -, hb2⟩
  have hk2 : Below W.heap.size W w2 := hbV.trans (hb2.mono hbV.size)
  have hps := hpV.keep hb2
  clear hbV hb2 hpV z0 z1 g0 g1
  obtain ⟨g0, g1⟩ := HF.out w2 hk2
  go_wp2_with fail
  refine (HMG.out _ _ _ hmg).mono ?_
  rintro r x3 ⟨rfl, hb3⟩
  have hj3 : Below W.heap.size W x3 := hk2.trans (hb3.mono hk2.size)
  have hp3 := hps.keep hb3
  have hmg3 := hmg.keep hb3
  clear hk2 hmg hb3 g0 g1 hps
  go_wp2_with fail
  refine (HMV.out _ _ _ _ _ hp3 hmg3).mono ?_
  rintro r x4 ⟨a4, c4, rfl, hps4, hb4⟩
  have hj4 : Below W.heap.size W x4 := hj3.trans (hb4.mono hj3.size)
  clear hp3 hj3 hmg3 hb4
  go_wp2_with fail
  refine (HM.out _ _ _ hps4).mono ?_
  rintro r x5 ⟨a2, c2, rfl, -, he2, hb5⟩
  have hj5 : Below W.heap.size W x5 := hj4.trans (hb5.mono hj4.size)
  clear hps4 hb5
  have hRr : Blk x5 (w.heap.size + 1) 24 #[.int .i64 0, .slice none 0 0] := HR1.out.below hj5 HR1.out.lt
  obtain ⟨r1, r3, r2, r4, r5, r6, hes, hbf⟩ := tail_facts x5 x4.heap.size (w.heap.size + 1) w.heap.size m J a2 c2 he2 (by have := hj4.size; have := HWS.out; omega) hRr
  have HES := Lib.hid hes
  have HBF := Lib.hid (hbf w (HB0.out.trans (hj5.mono HB0.out.size)) (by omega))
  clear hRr hes hbf
  clear he2 hj4 hj5
  go_wp2
  refine bodyPost_ret (v := .tuple #[.agg #[.int .i64 m, .slice a2 J.length c2], .int .i64 ((k : Nat) : Int)]) (by simp [results, Try.results19, go_sem, r5, r6]) rfl ?_
  exact ⟨a2, c2, rfl, HES.out, HBF.out⟩
end Go.Proofs.Ytndjjafpdiehdaa
