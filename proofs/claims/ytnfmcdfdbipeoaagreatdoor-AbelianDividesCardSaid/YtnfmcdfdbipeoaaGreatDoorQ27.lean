/- Walks of the reference: divided. -/
import Derived.Test.YtnfmcdfdbipeoaaGreatDoorQ24
import Derived.Test.YtnfmcdfdbipeoaaGreatDoorQ26
import Derived.Deep.LoopGhost
namespace Go.Proofs.YtnfmcdfdbipeoaaGreatDoor
open Go.RowKit Go.Proofs.Num

/-- Hands back two slices that read as numbers. -/
def GivesDg2 (w : World) (m n : Nat) (e : Ending) (w' : World) : Prop := ∃ v1 v2, e = .returned (.tuple #[v1, v2]) ∧ Dg w' v1 m ∧ Dg w' v2 n ∧ Below w.heap.size w w'

theorem Below.drawn {b : Nat} {w w' : World} (h : Below b w w') (n : Nat) : Below b w (w'.drewN n) := h.trans ⟨rfl, rfl, rfl, Nat.le_refl _, fun _ _ => rfl⟩
theorem Dg.drawn {w : World} {v : Value} {n : Nat} (h : Dg w v n) (k : Nat) : Dg (w.drewN k) v n := h.keep ⟨rfl, rfl, rfl, Nat.le_refl _, fun _ _ => rfl⟩

theorem dig10_digits (n : Nat) : ∀ x ∈ dig 10 n, x < 10 := dig10_lt n
theorem val_cons_dig (x R : Nat) : val 10 (x :: dig 10 R) = x + 10 * R := by rw [val_cons, val_dig10]

theorem cons_dig_lt {x R : Nat} (hx : x < 10) : ∀ y ∈ x :: dig 10 R, y < 10 := by
  intro y hy
  rcases List.mem_cons.1 hy with rfl | hy
  · exact hx
  · exact dig10_lt R y hy

theorem quoJ_rest {l o : List Nat} {B m S : Nat} (h : QuoJ l o B m S) : S < 10 * B := by have := h.2.2.2.2.2; omega
theorem quoI_rest {l o : List Nat} {B j R : Nat} (h : QuoI l o B j R) : R < B := h.2.2.2.2

theorem dig_len_lt {B S M : Nat} (hS : S < 10 * B) (hB : (dig 10 B).length ≤ M) : (dig 10 S).length ≤ M + 1 := by
  refine dig_length_le (by omega) (M + 1) S ?_
  have := few_of_len hB
  rw [Nat.pow_succ]; omega

set_option maxHeartbeats 6400000 in
set_option maxRecDepth 100000 in
theorem divided_at (a1 : Option Addr) (c1 : Nat) (l : List Nat) (bv : Value) (B : Nat) (w : World) (h1 : At .i64 w a1 l) (h2 : Dg w bv B) (hl : ∀ x ∈ l, x < 10) (hB0 : 0 < B)
    (hsl : l.length ≤ 1073741823) (hsm : (dig 10 B).length ≤ 1073741823) :
    Calls Tryz.prog 152 #[.slice a1 l.length c1, bv] w (GivesDg2 w (val 10 l / B) (val 10 l % B)) := by
  obtain ⟨i0, hi, hz0, hz1, hz2⟩ := info_parts info3
  have HSTART := Lib.hid (fun (o : List Nat) (m R : Nat) (h : QuoI l o B (m + 1) R) (hm : m < l.length) => quoJ_start h hl hm)
  have HX := Lib.hid (fun k => nth_lt (b := 10) (by omega) l hl k)
  have H1 := Lib.hid h1
  have H2 := Lib.hid h2
  have HLB := Lib.hid (fun (S : Nat) (h : S < 10 * B) => dig_len_lt h hsm)
  have HB0 := Lib.hid hB0
  have HSM := Lib.hid hsm
  obtain ⟨ab, kb, cb, rfl⟩ := h2.shape
  clear h1 h2 hl hB0 hsm
  go_enter Tryz.func152, Tryz.ntmps152
  go_wp2_with (at_make; refine wpList_make_full _ rfl _ _ 80 rfl w.heap.size 3 i0 (.int .i64 0) 1 Tryz.underlying80 hi hz0 hz1 _ _ _ _ l.length rfl rfl (by omega) (by omega) ?b2 ?b3 (Nat.le_refl _) ?_)
  case b2 => rw [hz2]; omega
  case b3 => unfold maxLen; omega
  intro w0 hown0 hgrow0
  rw [toList_madeCells_one, ← cellsOf_replicate] at hown0
  go_wp2
  go_loopw [7, 8] (fun rv si wr => ∃ (j R : Nat) (o : List Nat), j ≤ l.length ∧ si = .int .i64 ((j : Int) - 1) ∧ Dg wr rv R ∧ From (w.heap.size + 1) rv ∧
      wr.ownsRow w.heap.size 3 1 (.slice (some ⟨w.heap.size, 0, none⟩) l.length l.length) l.length (cellsOf .i64 o) ∧ QuoI l o B j R ∧ Below w.heap.size w wr)
    (fun _ i _ => (intOf i + 1).toNat)
  case atStart => exact ⟨l.length, 0, _, Nat.le_refl _, rfl, by unfold Dg; rw [dig_zero]; exact Rd.nil _ _ _ _ _, (by intro k h; cases h), hown0, quoI_zero l B HB0.out, (Below.refl _ _).grown hgrow0 (Nat.le_refl _) (fun k h => by cases h)⟩
  case round =>
    obtain ⟨j, R, o, hj, rfl, hrv, hfr, hown, hI, hB⟩ := hrel
    rcases j with _ | m
    · rw [show (((0 : Nat) : Int) - 1) = -1 by omega]
      obtain ⟨e1, e2⟩ := quoI_end hI
      have E1 := Lib.hid e1
      have E2 := Lib.hid e2
      have hol := hI.1
      have hdg := hI.2.1
      have HOW := Lib.hid hown
      have HRV := Lib.hid hrv
      obtain ⟨ar, kr, cr, rfl⟩ := hrv.shape
      have hol2 : o.length ≤ 4294967296 := by omega
      have hrd : Hid (Rd .i64 3 wr (.slice (some ⟨w.heap.size, 0, none⟩) l.length l.length) o) := by
        unfold Hid
        rw [← hol]
        refine Rd.of_own (base := w.heap.size) (T := 3) ?_
        rw [hol]; exact HOW.out
      clear e1 e2 hI hown hrv hol
      go_wp2_with fail
      refine (cut_any _ o _ hrd.out hdg hol2).mono ?_
      rintro e w' ⟨v', rfl, hw, rfl⟩
      obtain ⟨a', k', cap', rfl⟩ := hw.shape
      have HW := Lib.hid hw
      clear hw hdg
      go_wp2
      go_ret2
      exact ⟨_, _, rfl, by rw [← E1.out]; exact HW.out, by rw [← E2.out]; exact HRV.out, hB⟩
    · rw [show (((m + 1 : Nat) : Int) - 1) = (m : Int) by omega]
      have hlt : m < l.length := by omega
      obtain ⟨b1, o1, rfl, hb1, hcell1⟩ := H1.out m hlt
      have hx := HX.out m
      have hcr : wr.cell? ⟨b1, o1 + m, none⟩ = some (.int .i64 ((nth l m : Nat) : Int)) := (hB.cell (p := ⟨b1, o1 + m, none⟩) hb1).trans hcell1
      have hJ := HSTART.out o m R hI hlt
      have hRB := quoI_rest hI
      have hlR := HLB.out R (by omega)
      have HOW := Lib.hid hown
      have HRV := Lib.hid hrv
      have hsz0 : w.heap.size < wr.heap.size := by
        rcases hown.2 with ⟨h, -⟩ | ⟨g, cap, cur, h, -, hg, -⟩
        · cases h
        · simp only [Value.slice.injEq, Option.some.injEq, Addr.mk.injEq, and_true, true_and] at h
          obtain ⟨rfl, rfl⟩ := h
          exact (Array.getElem?_eq_some_iff.1 hg).1
      obtain ⟨ar, kr, cr, rfl⟩ := hrv.shape
      clear hcell1 hI hown hrv hfr
      obtain ⟨x, hx'⟩ : ∃ x, x = nth l m := ⟨_, rfl⟩
      rw [← hx'] at hx hcr hJ
      clear hx'
      have hlit := World.ownsRow_lit (base := wr.heap.size) (e := 3) (size := 1) wr #[.int .i64 ((x : Nat) : Int)] 1 (Nat.le_refl _) (by unfold maxLen; omega) rfl
      have HLIT := Lib.hid hlit
      have HJ := Lib.hid hJ
      clear hlit hJ
      have hrd2 : Hid (Rd .i64 3 (wr.alloc (.cells #[.int .i64 ((x : Nat) : Int)] 3)) (.slice ar kr cr) (dig 10 R)) := HRV.out.keep ((Below.refl _ _).alloc (Nat.le_refl _) _)
      go_wp2_with (at_builtin; refine wpList_append_rd rfl _ _ 80 rfl wr.heap.size 3 i0 (.int .i64 0) 8 Tryz.underlying80 hi hz0 hz1 hz2 rfl _ 1 _ rfl HLIT.out .i64 (dig 10 R) _ rfl hrd2.out (by unfold maxLen; omega) (by omega) (by rw [World.size_alloc]; omega) ?_; intro v2 w1 hown1 hgrow1)
      have hBB : Below wr.heap.size wr w1 := ((Below.refl _ _).alloc (Nat.le_refl _) _).grown hgrow1 (by rw [World.size_alloc]; omega) (fun k h => by cases h; exact Nat.le_refl _)
      have hB1 : Below w.heap.size w w1 := hB.trans (hBB.mono hB.size)
      have hown2 : Hid (w1.ownsRow wr.heap.size 3 1 v2 (x :: dig 10 R).length (cellsOf .i64 (x :: dig 10 R))) := by
        unfold Hid
        rw [List.length_cons, Nat.add_comm]
        exact hown1
      have hl3 : (x :: dig 10 R).length ≤ 4294967296 := by rw [List.length_cons]; omega
      have HOW1 := Lib.hid (HOW.out.kept (w' := w1) (row := none) ⟨hBB.os, hBB.tape, hBB.output, hBB.size, fun k hk _ => hBB.block k hk⟩ (.inr (by simp [Value.ownBlock])))
      clear hown1 hgrow1
      go_wp2_with fail
      refine (cut_own _ _ _ _ hown2.out (cons_dig_lt hx) hl3).mono ?_
      rintro e w1' ⟨v3, rfl, hd3, rfl, hfr3⟩
      rw [val_cons_dig] at hd3
      obtain ⟨a3, k3, c3, rfl⟩ := hd3.shape
      have HD3 := Lib.hid hd3
      have HF3 : Hid (From (w.heap.size + 1) (.slice a3 k3 c3)) := fun k hk => by have := hfr3 k hk; omega
      clear hd3 hfr3 hx hcr hsz0 hl3
      go_wp2
      have hs0 : Hid (∃ (S : Nat) (o : List Nat), S ≤ x + 10 * R ∧ Dg w1 (.slice a3 k3 c3) S ∧ From (w.heap.size + 1) (.slice a3 k3 c3) ∧
          w1.ownsRow w.heap.size 3 1 (.slice (some ⟨w.heap.size, 0, none⟩) l.length l.length) l.length (cellsOf .i64 o) ∧ QuoJ l o B m S ∧ Below w.heap.size w w1) :=
        ⟨_, o, Nat.le_refl _, HD3.out, HF3.out, HOW1.out, HJ.out, hB1⟩
      obtain ⟨N, hN⟩ : ∃ N, N = x + 10 * R := ⟨_, rfl⟩
      rw [← hN] at hs0
      clear hN HD3 HF3 HOW1 HJ hB1 hBB hown2 hrd2 HLIT HRV HOW hlR hRB hB hb1
      go_loopg [7] N (fun gk rv wr => ∃ (S : Nat) (o : List Nat), S ≤ gk ∧ Dg wr rv S ∧ From (w.heap.size + 1) rv ∧
          wr.ownsRow w.heap.size 3 1 (.slice (some ⟨w.heap.size, 0, none⟩) l.length l.length) l.length (cellsOf .i64 o) ∧ QuoJ l o B m S ∧ Below w.heap.size w wr)
      case atStart => exact hs0.out
      case round =>
        clear hs0
        obtain ⟨S, o, hSg, hrv, hfr, hown, hJ, hB⟩ := hrel
        have hS10 := quoJ_rest hJ
        have hlS := HLB.out S hS10
        have HRV := Lib.hid hrv
        have HBV := Lib.hid (H2.out.keep hB)
        have HOW := Lib.hid hown
        obtain ⟨ar, kr, cr, rfl⟩ := hrv.shape
        by_cases hge : B ≤ S
        · have hcm := cmpN_ge hge
          obtain ⟨cc, hcc⟩ : ∃ cc, cc = cmpN S B := ⟨_, rfl⟩
          rw [← hcc] at hcm
          have HCC := Lib.hid hcc
          obtain ⟨hq, hJ'⟩ := quoJ_step hJ hge
          have hol := hJ.1
          have HJ := Lib.hid hJ'
          have HB0' := HB0.out
          clear hcc hJ hJ' hown hrv
          go_wp2_with fail
          refine (rorder_any _ _ S B _ HRV.out HBV.out (by omega) (by have := HSM.out; omega)).mono ?_
          rintro e w3 ⟨he, nn, rfl⟩
          rw [← HCC.out] at he
          subst he
          go_wp2_with fail
          refine (rtaken_own _ _ S B _ (HRV.out.drawn nn) (HBV.out.drawn nn) (by omega) hge).mono ?_
          rintro e w4 ⟨v4, rfl, hd4, hb4, hf4⟩
          obtain ⟨a4, k4, c4, rfl⟩ := hd4.shape
          have hb4' : Below wr.heap.size wr w4 := (show Below wr.heap.size wr (wr.drewN nn) from ⟨rfl, rfl, rfl, Nat.le_refl _, fun _ _ => rfl⟩).trans hb4
          have hown4 := HOW.out.kept (w' := w4) (row := none) ⟨hb4'.os, hb4'.tape, hb4'.output, hb4'.size, fun k hk _ => hb4'.block k hk⟩ (.inr (by simp [Value.ownBlock]))
          have hB4 : Below w.heap.size w w4 := hB.trans (hb4'.mono hB.size)
          have hsz0 : w.heap.size < wr.heap.size := by
            rcases HOW.out.2 with ⟨h, -⟩ | ⟨g, cap, cur, h, -, hg, -⟩
            · cases h
            · simp only [Value.slice.injEq, Option.some.injEq, Addr.mk.injEq, and_true, true_and] at h
              obtain ⟨rfl, rfl⟩ := h
              exact (Array.getElem?_eq_some_iff.1 hg).1
          have hf4' : From (w.heap.size + 1) (.slice a4 k4 c4) := fun k hk => by have := hf4 k hk; have e : (wr.drewN nn).heap.size = wr.heap.size := rfl; omega
          have hco : w4.cell? ⟨w.heap.size, m, none⟩ = some (.int .i64 ((nth o m : Nat) : Int)) := (hown4.cellAt m (by omega)).trans (cellsOf_at _ _ _ (by omega))
          have hfo : w4.frozen? ⟨w.heap.size, m, none⟩ = false := hown4.frozenAt m
          have hst := hown4.stored m (.int .i64 (((nth o m + 1 : Nat)) : Int))
          rw [← cellsOf_set] at hst
          have HS := Lib.hid hst
          have HD4 := Lib.hid hd4
          have HF4 := Lib.hid hf4'
          clear hst hd4 hf4 hf4' hown4 hb4 hb4' hsz0
          obtain ⟨q, hq'⟩ : ∃ q, q = nth o m := ⟨_, rfl⟩
          rw [← hq'] at hq hco HS HJ
          clear hq'
          have hcast : (((q + 1 : Nat)) : Int) = (q : Int) + 1 := by omega
          rw [hcast] at HS
          clear hcast
          go_wp2
          go_roundg (S - B)
          case measure => omega
          case rel => exact ⟨S - B, _, Nat.le_refl _, Rd.far HD4.out HS.out.2 (fun k hk => by have := HF4.out k hk; omega), HF4.out, HS.out.1, HJ.out, below_own hB4 HS.out.2⟩
        · have hcm := cmpN_lt (show S < B by omega)
          obtain ⟨cc, hcc⟩ : ∃ cc, cc = cmpN S B := ⟨_, rfl⟩
          rw [← hcc] at hcm
          have HCC := Lib.hid hcc
          have HI := Lib.hid (quoJ_end hJ (by omega))
          clear hcc hJ hown hrv
          go_wp2_with fail
          refine (rorder_any _ _ S B _ HRV.out HBV.out (by omega) (by have := HSM.out; omega)).mono ?_
          rintro e w3 ⟨he, nn, rfl⟩
          rw [← HCC.out] at he
          subst he
          go_wp2
          go_roundw
          case rel => exact ⟨m, S, o, by omega, by go_num, HRV.out.drawn nn, hfr, HOW.out, HI.out, Below.drawn hB nn⟩
          case measure => simp [intOf]

/-- divided -/
theorem rdivided_any (v1 v2 : Value) (A B : Nat) (w : World) (h1 : Dg w v1 A) (h2 : Dg w v2 B) (hB0 : 0 < B) (hA : (dig 10 A).length ≤ 1073741823) (hB : (dig 10 B).length ≤ 1073741823) :
    Calls Tryz.prog 152 #[v1, v2] w (GivesDg2 w (A / B) (A % B)) := by
  obtain ⟨a1, c1, rfl, g1⟩ := Rd.at h1
  have := divided_at a1 c1 _ v2 B w g1 h2 (dig10_lt A) hB0 hA hB
  rwa [val_dig10] at this
end Go.Proofs.YtnfmcdfdbipeoaaGreatDoor
