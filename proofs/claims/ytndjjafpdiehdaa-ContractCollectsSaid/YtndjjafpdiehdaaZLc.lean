/- The reference: new numbers of vertices; ends under new numbers. -/
import Derived.Test.YtndjjafpdiehdaaZLa
import Derived.Test.YtndjjafpdiehdaaQ15
namespace Go.Proofs.Ytndjjafpdiehdaa
open Go.RowKit Go.Shelf Go.Proofs.Gr
attribute [local go_sem] Oper.semAt_some

set_option maxHeartbeats 12800000 in
set_option maxRecDepth 100000 in
theorem rmoved_any (n : Nat) (hn : n ≤ 100) (x y : Int) (w : World) :
    Calls Try.prog 67 #[.int .i64 n, .int .i64 x, .int .i64 y] w (GivesI w (plL n (mgR (x, y)))) := by
  obtain ⟨i0, hi0, hz0, hz1, hz2⟩ := info_parts infoI
  have HFE : Hid (∀ v, mgR (x, y) v = if v = max x y then min x y else if max x y < v then v - 1 else v) := Lib.hid fun v => by
    unfold mgR mnP mxP; simp only [min_if, max_if]
  have HPS : Hid (∀ i : Nat, plL (i + 1) (mgR (x, y)) = plL i (mgR (x, y)) ++ [mgR (x, y) i]) := Lib.hid fun i => plL_succ i _
  have HPL := Lib.hid (fun i => plL_len i (mgR (x, y)))
  have HP0 : Hid (plL 0 (mgR (x, y)) = []) := Lib.hid rfl
  obtain ⟨mn, hmn⟩ : ∃ mn, mn = min x y := ⟨_, rfl⟩
  obtain ⟨mx, hmx⟩ : ∃ mx, mx = max x y := ⟨_, rfl⟩
  have HMN := Lib.hid hmn
  have HMX := Lib.hid hmx
  generalize mgR (x, y) = f at *
  unfold GivesI
  clear hmn hmx
  go_enter Try.func67, Try.ntmps67
  go_wp2
  go_loopw [7, 8] (fun s v wr => ∃ i : Nat, i ≤ n ∧ v = .int .i64 i ∧ wr.ownsRow w.heap.size 3 1 s (plL i f).length (flat encI (plL i f)) ∧ Below w.heap.size w wr) (fun _ v _ => n - (intOf v).toNat)
  case atStart => exact ⟨0, by omega, rfl, by rw [HP0.out]; exact World.ownsRow_nil _ _ _ _, Below.refl _ _⟩
  case round =>
    obtain ⟨i, hi, rfl, hown, hb⟩ := hrel
    by_cases hlt : i < n
    · have i1 : (i : Int) < (n : Int) := by omega
      have i2 : (0 : Int) ≤ (i : Int) := by omega
      have HOW := Lib.hid hown
      have HBr := Lib.hid hb
      have HFI := Lib.hid (HFE.out (i : Int))
      have hpl := HPL.out i
      have HPSi := Lib.hid (HPS.out i)
      have HSS0 : Hid (plL i f = plL i f) := Lib.hid rfl
      obtain ⟨S, hS⟩ : ∃ S, S = plL i f := ⟨_, rfl⟩
      rw [← hS] at HOW hpl HPSi
      have HSL := Lib.hid hS
      clear hown hb HSS0 hS
      obtain ⟨F, hF⟩ : ∃ F, F = f (i : Int) := ⟨_, rfl⟩
      have HF := Lib.hid hF
      rw [← hF] at HFI HPSi
      clear hF
      by_cases c1 : (i : Int) = max x y
      · have d1 : ¬ max x y < (i : Int) := by omega
        have d2 : ((i : Int) == max x y) = true := by simpa using c1
        have HFV : Hid (F = min x y) := Lib.hid (by rw [HFI.out, if_pos c1])
        clear c1
        go_wp2_with (at_builtin; refine wpList_append_own _ rfl _ _ 33 rfl w.heap.size 3 i0 (.int .i64 0) 1 8 Try.underlying33 hi0 hz0 hz1 hz2 rfl (by decide) _ _ _ rfl (HOW.out.alloc _) ⟨_, 0, none⟩ 1 1 [.int .i64 (min x y)] rfl rfl (lit_row _ _ _) (by simp [Value.oneCell']) (by unfold maxLen; omega) (by omega) (by rw [World.size_alloc]; have := HBr.out.size; omega) ?_; intro v1 w3 hown1 hgrow1 _; have hB3 : Below w.heap.size w w3 := below_push (w := w) HBr.out (fun k hk => (HOW.out.lt k hk).1) hgrow1)
        have HOW3 : Hid (w3.ownsRow w.heap.size 3 1 v1 (S ++ [(min x y)]).length (flat encI (S ++ [(min x y)]))) := by
          rw [List.length_append, flatI_snoc]
          exact hown1
        have HB3 := Lib.hid hB3
        clear hown1 hgrow1 hB3
        go_wp2
        go_roundw
        case rel => exact ⟨i + 1, by omega, by go_num, by rw [HPSi.out, HFV.out]; exact HOW3.out, HB3.out⟩
        case measure => simp [intOf]; omega
      · have d2 : ((i : Int) == max x y) = false := by simpa using c1
        by_cases c2 : max x y < (i : Int)
        · have HFV : Hid (F = (i : Int) - 1) := Lib.hid (by rw [HFI.out, if_neg c1, if_pos c2])
          go_wp2_with (at_builtin; refine wpList_append_own _ rfl _ _ 33 rfl w.heap.size 3 i0 (.int .i64 0) 1 8 Try.underlying33 hi0 hz0 hz1 hz2 rfl (by decide) _ _ _ rfl (HOW.out.alloc _) ⟨_, 0, none⟩ 1 1 [.int .i64 ((i : Int) - 1)] rfl rfl (lit_row _ _ _) (by simp [Value.oneCell']) (by unfold maxLen; omega) (by omega) (by rw [World.size_alloc]; have := HBr.out.size; omega) ?_; intro v1 w3 hown1 hgrow1 _; have hB3 : Below w.heap.size w w3 := below_push (w := w) HBr.out (fun k hk => (HOW.out.lt k hk).1) hgrow1)
          have HOW3 : Hid (w3.ownsRow w.heap.size 3 1 v1 (S ++ [((i : Int) - 1)]).length (flat encI (S ++ [((i : Int) - 1)]))) := by
            rw [List.length_append, flatI_snoc]
            exact hown1
          have HB3 := Lib.hid hB3
          clear hown1 hgrow1 hB3
          go_wp2
          go_roundw
          case rel => exact ⟨i + 1, by omega, by go_num, by rw [HPSi.out, HFV.out]; exact HOW3.out, HB3.out⟩
          case measure => simp [intOf]; omega
        · have HFV : Hid (F = (i : Int)) := Lib.hid (by rw [HFI.out, if_neg c1, if_neg c2])
          go_wp2_with (at_builtin; refine wpList_append_own _ rfl _ _ 33 rfl w.heap.size 3 i0 (.int .i64 0) 1 8 Try.underlying33 hi0 hz0 hz1 hz2 rfl (by decide) _ _ _ rfl (HOW.out.alloc _) ⟨_, 0, none⟩ 1 1 [.int .i64 (i : Int)] rfl rfl (lit_row _ _ _) (by simp [Value.oneCell']) (by unfold maxLen; omega) (by omega) (by rw [World.size_alloc]; have := HBr.out.size; omega) ?_; intro v1 w3 hown1 hgrow1 _; have hB3 : Below w.heap.size w w3 := below_push (w := w) HBr.out (fun k hk => (HOW.out.lt k hk).1) hgrow1)
          have HOW3 : Hid (w3.ownsRow w.heap.size 3 1 v1 (S ++ [(i : Int)]).length (flat encI (S ++ [(i : Int)]))) := by
            rw [List.length_append, flatI_snoc]
            exact hown1
          have HB3 := Lib.hid hB3
          clear hown1 hgrow1 hB3
          go_wp2
          go_roundw
          case rel => exact ⟨i + 1, by omega, by go_num, by rw [HPSi.out, HFV.out]; exact HOW3.out, HB3.out⟩
          case measure => simp [intOf]; omega
    · obtain rfl : i = n := by omega
      have i1 : ¬ (i : Int) < (i : Int) := by omega
      obtain ⟨a', c', rfl, hps⟩ := RowAt.of_own (k := 1) encI_len hown
      have HPSF := Lib.hid hps
      have HEND := Lib.hid hb
      clear hown hb hps
      go_wp2
      go_ret
      first | exact ⟨a', ⟨c', rfl⟩, HPSF.out, HEND.out⟩ | exact ⟨a', c', rfl, HPSF.out, HEND.out⟩
theorem mvP_succ (f : Int → Int) (P : List (Int × Int)) (i : Nat) (h : i < P.length) : mvP f (P.take (i + 1)) = mvP f (P.take i) ++ [mvF f (pAt P i)] := by
  unfold mvP
  rw [List.take_succ_eq_append_getElem h, List.map_append, pAt_get P i h]; rfl
set_option maxHeartbeats 12800000 in
set_option maxRecDepth 100000 in
theorem rsent_any (f : Int → Int) (n : Nat) (b : Option Addr) (c : Nat) (d : Option Addr) (e : Nat) (P : List (Int × Int)) (hP : P.length ≤ 5000000) (hr : ∀ p ∈ P, (0 ≤ p.1 ∧ p.1 < n) ∧ 0 ≤ p.2 ∧ p.2 < n) (w : World) (h : PsAt w b P) (ht : IsAt w d (plL n f)) :
    Calls Try.prog 66 #[.slice b P.length c, .slice d (plL n f).length e] w (GivesP w (mvP f P)) := by
  obtain ⟨p0, hp0, hq0, hq1, hq2⟩ := info_parts infoP
  have HAT : Hid (∀ v : Nat, v < n → iAt (plL n f) v = f v) := Lib.hid fun v hv => plL_at n f v hv
  have HPL := Lib.hid (plL_len n f)
  have HMS := Lib.hid (fun i h => mvP_succ f P i h)
  have HML : Hid (∀ i, (mvP f (P.take i)).length ≤ 5000000) := Lib.hid fun i => by rw [mvP_len, List.length_take]; omega
  have HM0 : Hid (mvP f (P.take 0) = []) := Lib.hid rfl
  have HMA : Hid (mvP f (P.take P.length) = mvP f P) := Lib.hid (by rw [List.take_length])
  have HMF : Hid (∀ q, mvF f q = (min (f q.1) (f q.2), max (f q.1) (f q.2))) := Lib.hid fun q => by rw [min_if, max_if]; rfl
  have HRG : Hid (∀ i, i < P.length → (0 ≤ (pAt P i).1 ∧ (pAt P i).1 < n) ∧ 0 ≤ (pAt P i).2 ∧ (pAt P i).2 < n) := Lib.hid fun i hi => by
    rw [← pAt_get P i hi]; exact hr _ (List.getElem_mem hi)
  have HT := Lib.hid ht
  have HP := Lib.hid h
  generalize plL n f = T at *
  generalize mvP f P = R at *
  obtain ⟨G, hG⟩ : ∃ G : Nat → List (Int × Int), G = fun i => mvP f (P.take i) := ⟨_, rfl⟩
  have HG0 : Hid (G 0 = []) := Lib.hid (by rw [hG]; exact HM0.out)
  have HGL : Hid (∀ i, (G i).length ≤ 5000000) := Lib.hid fun i => by rw [hG]; exact HML.out i
  have HGS : Hid (∀ i, i < P.length → G (i + 1) = G i ++ [mvF f (pAt P i)]) := Lib.hid fun i hi => by rw [hG]; exact HMS.out i hi
  have HGA : Hid (G P.length = R) := Lib.hid (by rw [hG]; exact HMA.out)
  generalize mvF f = MF at *
  clear hG HM0 HML HMS HMA h ht hr
  unfold GivesP
  go_enter Try.func66, Try.ntmps66
  go_wp2
  go_loopw [5, 6] (fun s v wr => ∃ i : Nat, i ≤ P.length ∧ v = .int .i64 i ∧ wr.ownsRow w.heap.size 25 2 s (G i).length (flat encP (G i)) ∧ Below w.heap.size w wr) (fun _ v _ => P.length - (intOf v).toNat)
  case atStart => exact ⟨0, by omega, rfl, by rw [HG0.out]; exact World.ownsRow_nil _ _ _ _, Below.refl _ _⟩
  case round =>
    obtain ⟨i, hi, rfl, hown, hb⟩ := hrel
    by_cases hlt : i < P.length
    · have i1 : (i : Int) < (P.length : Int) := by omega
      have i2 : (0 : Int) ≤ (i : Int) := by omega
      obtain ⟨b1, o1, hbb, q1, x1, x2⟩ := (HP.out.keep hb).two i hlt
      subst hbb
      have hrg := HRG.out i hlt
      have hgl := HGL.out i
      have HGn := Lib.hid (HGS.out i hlt)
      have hmf := HMF.out (pAt P i)
      generalize pAt P i = q at *
      obtain ⟨x, y⟩ := q
      simp only at x1 x2 hrg hmf
      obtain ⟨X, hX⟩ : ∃ X : Nat, x = X := ⟨x.toNat, by omega⟩
      obtain ⟨Y, hY⟩ : ∃ Y : Nat, y = Y := ⟨y.toNat, by omega⟩
      subst hX hY
      have hXn : X < T.length := by rw [HPL.out]; omega
      have hYn : Y < T.length := by rw [HPL.out]; omega
      obtain ⟨b2, o2, hbb, q2, y1⟩ := (HT.out.keep hb).one X hXn
      subst hbb
      obtain ⟨b3, o3, hbb, q3, y2⟩ := (HT.out.keep hb).one Y hYn
      injection hbb with hbb
      injection hbb with e1 e2
      subst e1 e2
      rw [HAT.out X (by omega)] at y1
      rw [HAT.out Y (by omega)] at y2
      have k1 : (X : Int) < (T.length : Int) := by omega
      have k2 : (0 : Int) ≤ (X : Int) := by omega
      have k3 : (Y : Int) < (T.length : Int) := by omega
      have k4 : (0 : Int) ≤ (Y : Int) := by omega
      have HMQ := Lib.hid hmf
      generalize f (X : Int) = fx at *
      generalize f (Y : Int) = fy at *
      obtain ⟨wd, hwd⟩ : ∃ wd, wd = wr.drew := ⟨_, rfl⟩
      have hbd : Below w.heap.size w wd := by rw [hwd]; exact hb.drew
      have hod : wd.ownsRow w.heap.size 25 2 u5 (G i).length (flat encP (G i)) := by rw [hwd]; exact own_keep hown (Below.refl _ _).drew
      have HOW := Lib.hid hod
      have HBr := Lib.hid hbd
      have HWD := Lib.hid hwd
      have f1 : wr.drew.cell? ⟨b1, o1 + i * 2, none⟩ = some (.int .i64 X) := x1
      have f2 : wr.drew.cell? ⟨b1, o1 + i * 2 + 1, none⟩ = some (.int .i64 Y) := x2
      have f3 : wr.drew.cell? ⟨b2, o2 + X, none⟩ = some (.int .i64 fx) := y1
      have f4 : wr.drew.cell? ⟨b2, o2 + Y, none⟩ = some (.int .i64 fy) := y2
      clear hb hown hod hbd hwd hmf hrg
      generalize G i = Gi at *
      go_wp2
      go_region
      rw [← HWD.out]
      have HSN : Hid (G (i + 1) = Gi ++ [(min fx fy, max fx fy)]) := Lib.hid (by rw [HGn.out, HMQ.out])
      clear f1 f2 f3 f4 x1 x2 y1 y2
      go_wp2_with (at_builtin; refine wpList_append_own _ rfl _ _ 56 rfl w.heap.size 25 p0 (.agg #[.int .i64 0, .int .i64 0]) 2 16 Try.underlying56 hp0 hq0 hq1 hq2 rfl (by decide) _ _ _ rfl (HOW.out.alloc _) ⟨_, 0, none⟩ 1 1 [.int .i64 (min fx fy), .int .i64 (max fx fy)] rfl rfl (lit_row _ _ _) (by simp [Value.oneCell']) (by unfold maxLen; omega) (by omega) (by rw [World.size_alloc]; have := HBr.out.size; omega) ?_; intro v1 w3 hown1 hgrow1 _; have hB3 : Below w.heap.size w w3 := below_push (w := w) HBr.out (fun k hk => (HOW.out.lt k hk).1) hgrow1)
      have HOW3 : Hid (w3.ownsRow w.heap.size 25 2 v1 (Gi ++ [(min fx fy, max fx fy)]).length (flat encP (Gi ++ [(min fx fy, max fx fy)]))) := by
        rw [List.length_append, flatP_snoc]
        exact hown1
      have HB3 := Lib.hid hB3
      clear hown1 hgrow1 hB3
      go_wp2
      go_roundw
      case rel => exact ⟨i + 1, by omega, by go_num, by rw [HSN.out]; exact HOW3.out, HB3.out⟩
      case measure => simp [intOf]; omega
    · obtain rfl : i = P.length := by omega
      have i1 : ¬ (P.length : Int) < (P.length : Int) := by omega
      obtain ⟨a', c', rfl, hps⟩ := RowAt.of_own encP_len hown
      have HRL : Hid ((G P.length).length = R.length) := Lib.hid (by rw [HGA.out])
      have HPSF : Hid (PsAt wr a' R) := Lib.hid (by rw [← HGA.out]; exact hps)
      have HEND := Lib.hid hb
      clear hown hb hps
      go_wp2
      go_ret
      first | exact ⟨a', ⟨c', by rw [← HRL.out]; rfl⟩, HPSF.out, HEND.out⟩ | exact ⟨a', c', by rw [← HRL.out]; rfl, HPSF.out, HEND.out⟩
end Go.Proofs.Ytndjjafpdiehdaa
