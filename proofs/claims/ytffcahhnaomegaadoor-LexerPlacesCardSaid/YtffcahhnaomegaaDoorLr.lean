/- The program's text of tokens. -/
import Derived.Test.YtffcahhnaomegaaDoorLq
import Derived.Test.YtffcahhnaomegaaDoorLn
namespace Go.Proofs.YtffcahhnaomegaaDoor
open Go.RowKit Go.Proofs.Lx

theorem bld_keep {B b : Nat} {bs : List Value} {w w' : World} (h : Lib.IsBuilder 65 5 B b bs w) (hb : Below w.heap.size w w') : Lib.IsBuilder 65 5 B b bs w' := by
  have one : ∀ p, Lib.BuilderAt 65 5 B b p bs w → Lib.BuilderAt 65 5 B b p bs w' := by
    rintro p ⟨hB, v, hbk, hown, hne⟩
    have hlt : b < w.heap.size := Lib.BuilderAt.lt ⟨hB, v, hbk, hown, hne⟩
    exact ⟨hB, v, (hb.block b hlt).trans hbk, own_keep hown hb, hne⟩
  exact h.elim (fun x => .inl (one _ x)) (fun x => .inr (one _ x))
theorem oth_cell {b q : Nat} {w w' : World} {cs : Array Value} (h : Lib.OthersKept 5 (some b) w w') (hq : Blk w q 28 cs) (hne : q ≠ b) : Blk w' q 28 cs := by
  refine h q _ hq (fun e => hne (by injection e)) (fun c fz hc => ?_)
  injection hc with _ ht
  exact absurd ht (by decide)
theorem bld_lt {B b : Nat} {bs : List Value} {w : World} (h : Lib.IsBuilder 65 5 B b bs w) : b < w.heap.size := h.elim (fun x => x.lt) (fun x => x.lt)

/-- What joined comes to. -/
def joinedR (L : List Tk) : List UInt8 × Nat := if 4096 < (jl L L.length).length then ([], 19) else (jl L L.length, 0)
/-- Hands back a text and an error's number. -/
def GivesS (w : World) (R : List UInt8 × Nat) (e : Ending) (w' : World) : Prop := e = .returned (.tuple #[.string (bt R.1), .int .i64 (R.2 : Nat)]) ∧ Below w.heap.size w w'

set_option maxHeartbeats 12800000 in
set_option maxRecDepth 100000 in
theorem joined_any (a : Option Addr) (cap : Nat) (L : List Tk) (hL : L.length ≤ 4611686018427387904) (hT : ∀ j, j < L.length → (tAt L j).text.length ≤ 1099511627776) (w : World) (h : TkAt w a L) :
    Calls Tryd.prog 22 #[.slice a L.length cap] w (GivesS w (joinedR L)) := by
  have H := Lib.hid h
  have HTT := Lib.hid hT
  unfold GivesS
  clear h hT
  go_enter Tryd.func22, Tryd.ntmps22
  go_wp2
  go_loopw [9] (fun v wr => ∃ i : Nat, i ≤ L.length ∧ v = .int .i64 i ∧ (jl L i).length ≤ 4096 ∧ Lib.IsBuilder 65 5 w.heap.size w.heap.size (Lib.byteCells (jl L i)) wr ∧ Below w.heap.size w wr) (fun v _ => L.length - (intOf v).toNat)
  case atStart => exact ⟨0, by omega, rfl, by simp [jl], Lib.fresh_isBuilder 65 5 w, (Below.refl _ _).alloc (Nat.le_refl _) _⟩
  case round =>
    obtain ⟨i, hi, rfl, hli, hI, hb⟩ := hrel
    have hBw := bld_lt hI
    by_cases hlt : i < L.length
    · obtain ⟨T, hTe⟩ : ∃ T, T = tAt L i := ⟨_, rfl⟩
      have HT := Lib.hid hTe
      have hTs : Hid (T.text.length ≤ 1099511627776) := Lib.hid (by rw [hTe]; exact HTT.out i hlt)
      have HKT := Lib.hid (fun w => plain_any T w)
      obtain ⟨b1, o1, ha, q1, x1, x2, x3⟩ := (H.out.keep hb).three i hlt T (by rw [hTe, tAt_get])
      have Hb0 := Lib.hid (hb.alloc hb.size (Obj.cells #[.int .i64 T.kind, .string (bt T.text), .int .i64 T.pos] 28))
      have HI0 := Lib.hid (bld_keep hI ((Below.refl _ _).alloc (Nat.le_refl _) (Obj.cells #[.int .i64 T.kind, .string (bt T.text), .int .i64 T.pos] 28)))
      have HQ0 := Lib.hid (Blk.new wr 28 #[.int .i64 T.kind, .string (bt T.text), .int .i64 T.pos])
      have Hb := Lib.hid hb
      have hne : wr.heap.size ≠ w.heap.size := by omega
      clear hb hI hTe
      rcases Nat.eq_zero_or_pos i with h0 | h0
      · subst h0
        have HS : Hid (sepL L 0 = []) := Lib.hid (by simp [sepL])
        subst ha
        simp only [Nat.zero_mul, Nat.add_zero] at x1 x2 x3
        go_wp2_with fail
        refine (bstr_any w.heap.size w.heap.size _ (bt T.text) _ HI0.out (by have h1 := hTs.out; have h2 := hli; rw [Lib.byteCells_length, tlen]; simp; omega) Hb0.out.size).mono ?_
        rintro e x1 ⟨rfl, hi1, hb1, hk1⟩
        have HI1 : Hid (Lib.IsBuilder 65 5 w.heap.size w.heap.size (Lib.byteCells (jl L 0 ++ T.text)) x1) := by
          refine Lib.hid ?_
          have := hi1
          first | (rw [show Lib.strCells (bt T.text) = Lib.byteCells T.text from rfl, ← Lib.byteCells_append] at this; exact this) | (rw [show [Value.int IntKind.u8 32] = Lib.byteCells [32] from rfl, ← Lib.byteCells_append] at this; exact this)
        have HQ1 := Lib.hid (oth_cell hk1 HQ0.out (by omega))
        have Hb1 := Lib.hid (Hb0.out.trans hb1)
        have e1 : x1.cell? ⟨wr.heap.size, 1, none⟩ = some (.string (bt T.text)) := HQ1.out.cell 1
        clear hi1 hb1 hk1
        have hJ : Hid (jl L (0 + 1) = jl L 0 ++ T.text) := by
          refine Lib.hid ?_
          show jl L 0 ++ sepL L 0 ++ (tAt L 0).text = _
          rw [HS.out, ← HT.out]; simp
        have HL := Lib.hid (Tryd.Builder_Len w.heap.size w.heap.size _ _ HI1.out)
        rw [← hJ.out, Lib.byteCells_length] at HL
        rw [← hJ.out] at HI1
        go_wp2_with fail
        refine HL.out.mono ?_
        rintro e x2 ⟨rfl, hw⟩
        obtain rfl : x2 = x1 := hw
        by_cases hbig : 4096 < (jl L (0 + 1)).length
        · have hd : decide (4096 < (((jl L (0 + 1)).length : Nat) : Int)) = true := decide_eq_true (by omega)
          have hR : Hid (joinedR L = ([], 19)) := by
            refine Lib.hid ?_
            have := jl_mono L (0 + 1) L.length (by omega)
            unfold joinedR
            rw [if_pos (by omega)]
          clear hbig
          go_wp2
          go_ret2
          exact ⟨by rw [hR.out]; rfl, Hb1.out⟩
        · have hd : decide (4096 < (((jl L (0 + 1)).length : Nat) : Int)) = false := decide_eq_false (by omega)
          have hl9 : (jl L (0 + 1)).length ≤ 4096 := by omega
          have HL9 := Lib.hid hl9
          clear hbig hl9
          go_wp2
          go_roundw
          case rel => exact ⟨0 + 1, by omega, by go_num, HL9.out, HI1.out, Hb1.out⟩
          case measure => simp [intOf]; omega
      · obtain ⟨m, rfl⟩ : ∃ m, i = m + 1 := ⟨i - 1, by omega⟩
        clear h0
        obtain ⟨S, hSe⟩ : ∃ S, S = tAt L m := ⟨_, rfl⟩
        obtain ⟨b2, o2, ha2, q2, y1, y2, y3⟩ := (H.out.keep Hb.out).three m (by omega) S (by rw [hSe, tAt_get])
        rw [ha] at ha2
        simp only [Option.some.injEq, Addr.mk.injEq, and_true] at ha2
        obtain ⟨rfl, rfl⟩ := ha2
        subst ha
        have HKS := Lib.hid (fun w => plain_any S w)
        have HSE : Hid (sepL L (m + 1) = if plainB S = true ∧ plainB T = true then [32] else []) := by
          refine Lib.hid ?_
          unfold sepL
          rw [HT.out, hSe]
          simp
        clear hSe
        generalize plainB S = pS at *
        cases pS
        · have HS : Hid (sepL L (m + 1) = []) := Lib.hid (by rw [HSE.out]; rfl)
          clear HSE
          go_wp2_with fail
          refine (HKS.out _).mono ?_
          rintro e x1 ⟨rfl, hbz⟩
          have HI1 := Lib.hid (bld_keep HI0.out hbz)
          have HQ1 := Lib.hid (HQ0.out.below hbz HQ0.out.lt)
          have Hb1 := Lib.hid (Hb0.out.trans (hbz.mono Hb0.out.size))
          have e1 : x1.cell? ⟨wr.heap.size, 1, none⟩ = some (.string (bt T.text)) := HQ1.out.cell 1
          have d1 : x1.cell? ⟨wr.heap.size, 0, none⟩ = some (.int .i64 T.kind) := HQ1.out.cell 0
          have f1 : x1.cell? ⟨wr.heap.size, 2, none⟩ = some (.int .i64 T.pos) := HQ1.out.cell 2
          clear hbz
          go_wp2_with fail
          refine (bstr_any w.heap.size w.heap.size _ (bt T.text) _ HI1.out (by have h1 := hTs.out; have h2 := hli; rw [Lib.byteCells_length, tlen]; simp; omega) Hb1.out.size).mono ?_
          rintro e x2 ⟨rfl, hi2, hb2, hk2⟩
          have HI2 : Hid (Lib.IsBuilder 65 5 w.heap.size w.heap.size (Lib.byteCells (jl L (m + 1) ++ T.text)) x2) := by
            refine Lib.hid ?_
            have := hi2
            first | (rw [show Lib.strCells (bt T.text) = Lib.byteCells T.text from rfl, ← Lib.byteCells_append] at this; exact this) | (rw [show [Value.int IntKind.u8 32] = Lib.byteCells [32] from rfl, ← Lib.byteCells_append] at this; exact this)
          have HQ2 := Lib.hid (oth_cell hk2 HQ1.out (by omega))
          have Hb2 := Lib.hid (Hb1.out.trans hb2)
          have e2 : x2.cell? ⟨wr.heap.size, 1, none⟩ = some (.string (bt T.text)) := HQ2.out.cell 1
          clear hi2 hb2 hk2
          have hJ : Hid (jl L (m + 1 + 1) = jl L (m + 1) ++ T.text) := by
            refine Lib.hid ?_
            show jl L (m + 1) ++ sepL L (m + 1) ++ (tAt L (m + 1)).text = _
            rw [HS.out, ← HT.out]; simp
          have HL := Lib.hid (Tryd.Builder_Len w.heap.size w.heap.size _ _ HI2.out)
          rw [← hJ.out, Lib.byteCells_length] at HL
          rw [← hJ.out] at HI2
          go_wp2_with fail
          refine HL.out.mono ?_
          rintro e x3 ⟨rfl, hw⟩
          obtain rfl : x3 = x2 := hw
          by_cases hbig : 4096 < (jl L (m + 1 + 1)).length
          · have hd : decide (4096 < (((jl L (m + 1 + 1)).length : Nat) : Int)) = true := decide_eq_true (by omega)
            have hR : Hid (joinedR L = ([], 19)) := by
              refine Lib.hid ?_
              have := jl_mono L (m + 1 + 1) L.length (by omega)
              unfold joinedR
              rw [if_pos (by omega)]
            clear hbig
            go_wp2
            go_ret2
            exact ⟨by rw [hR.out]; rfl, Hb2.out⟩
          · have hd : decide (4096 < (((jl L (m + 1 + 1)).length : Nat) : Int)) = false := decide_eq_false (by omega)
            have hl9 : (jl L (m + 1 + 1)).length ≤ 4096 := by omega
            have HL9 := Lib.hid hl9
            clear hbig hl9
            go_wp2
            go_roundw
            case rel => exact ⟨m + 1 + 1, by omega, by go_num, HL9.out, HI2.out, Hb2.out⟩
            case measure => simp [intOf]; omega
        · generalize plainB T = pT at *
          cases pT
          · have HS : Hid (sepL L (m + 1) = []) := Lib.hid (by rw [HSE.out]; rfl)
            clear HSE
            go_wp2_with fail
            refine (HKS.out _).mono ?_
            rintro e x1 ⟨rfl, hbz⟩
            have HI1 := Lib.hid (bld_keep HI0.out hbz)
            have HQ1 := Lib.hid (HQ0.out.below hbz HQ0.out.lt)
            have Hb1 := Lib.hid (Hb0.out.trans (hbz.mono Hb0.out.size))
            have e1 : x1.cell? ⟨wr.heap.size, 1, none⟩ = some (.string (bt T.text)) := HQ1.out.cell 1
            have d1 : x1.cell? ⟨wr.heap.size, 0, none⟩ = some (.int .i64 T.kind) := HQ1.out.cell 0
            have f1 : x1.cell? ⟨wr.heap.size, 2, none⟩ = some (.int .i64 T.pos) := HQ1.out.cell 2
            clear hbz
            go_wp2_with fail
            refine (HKT.out _).mono ?_
            rintro e x2 ⟨rfl, hbz⟩
            have HI2 := Lib.hid (bld_keep HI1.out hbz)
            have HQ2 := Lib.hid (HQ1.out.below hbz HQ1.out.lt)
            have Hb2 := Lib.hid (Hb1.out.trans (hbz.mono Hb1.out.size))
            have e2 : x2.cell? ⟨wr.heap.size, 1, none⟩ = some (.string (bt T.text)) := HQ2.out.cell 1
            have d2 : x2.cell? ⟨wr.heap.size, 0, none⟩ = some (.int .i64 T.kind) := HQ2.out.cell 0
            have f2 : x2.cell? ⟨wr.heap.size, 2, none⟩ = some (.int .i64 T.pos) := HQ2.out.cell 2
            clear hbz
            go_wp2_with fail
            refine (bstr_any w.heap.size w.heap.size _ (bt T.text) _ HI2.out (by have h1 := hTs.out; have h2 := hli; rw [Lib.byteCells_length, tlen]; simp; omega) Hb2.out.size).mono ?_
            rintro e x3 ⟨rfl, hi3, hb3, hk3⟩
            have HI3 : Hid (Lib.IsBuilder 65 5 w.heap.size w.heap.size (Lib.byteCells (jl L (m + 1) ++ T.text)) x3) := by
              refine Lib.hid ?_
              have := hi3
              first | (rw [show Lib.strCells (bt T.text) = Lib.byteCells T.text from rfl, ← Lib.byteCells_append] at this; exact this) | (rw [show [Value.int IntKind.u8 32] = Lib.byteCells [32] from rfl, ← Lib.byteCells_append] at this; exact this)
            have HQ3 := Lib.hid (oth_cell hk3 HQ2.out (by omega))
            have Hb3 := Lib.hid (Hb2.out.trans hb3)
            have e3 : x3.cell? ⟨wr.heap.size, 1, none⟩ = some (.string (bt T.text)) := HQ3.out.cell 1
            clear hi3 hb3 hk3
            have hJ : Hid (jl L (m + 1 + 1) = jl L (m + 1) ++ T.text) := by
              refine Lib.hid ?_
              show jl L (m + 1) ++ sepL L (m + 1) ++ (tAt L (m + 1)).text = _
              rw [HS.out, ← HT.out]; simp
            have HL := Lib.hid (Tryd.Builder_Len w.heap.size w.heap.size _ _ HI3.out)
            rw [← hJ.out, Lib.byteCells_length] at HL
            rw [← hJ.out] at HI3
            go_wp2_with fail
            refine HL.out.mono ?_
            rintro e x4 ⟨rfl, hw⟩
            obtain rfl : x4 = x3 := hw
            by_cases hbig : 4096 < (jl L (m + 1 + 1)).length
            · have hd : decide (4096 < (((jl L (m + 1 + 1)).length : Nat) : Int)) = true := decide_eq_true (by omega)
              have hR : Hid (joinedR L = ([], 19)) := by
                refine Lib.hid ?_
                have := jl_mono L (m + 1 + 1) L.length (by omega)
                unfold joinedR
                rw [if_pos (by omega)]
              clear hbig
              go_wp2
              go_ret2
              exact ⟨by rw [hR.out]; rfl, Hb3.out⟩
            · have hd : decide (4096 < (((jl L (m + 1 + 1)).length : Nat) : Int)) = false := decide_eq_false (by omega)
              have hl9 : (jl L (m + 1 + 1)).length ≤ 4096 := by omega
              have HL9 := Lib.hid hl9
              clear hbig hl9
              go_wp2
              go_roundw
              case rel => exact ⟨m + 1 + 1, by omega, by go_num, HL9.out, HI3.out, Hb3.out⟩
              case measure => simp [intOf]; omega
          · have HS : Hid (sepL L (m + 1) = [32]) := Lib.hid (by rw [HSE.out]; rfl)
            clear HSE
            go_wp2_with fail
            refine (HKS.out _).mono ?_
            rintro e x1 ⟨rfl, hbz⟩
            have HI1 := Lib.hid (bld_keep HI0.out hbz)
            have HQ1 := Lib.hid (HQ0.out.below hbz HQ0.out.lt)
            have Hb1 := Lib.hid (Hb0.out.trans (hbz.mono Hb0.out.size))
            have e1 : x1.cell? ⟨wr.heap.size, 1, none⟩ = some (.string (bt T.text)) := HQ1.out.cell 1
            have d1 : x1.cell? ⟨wr.heap.size, 0, none⟩ = some (.int .i64 T.kind) := HQ1.out.cell 0
            have f1 : x1.cell? ⟨wr.heap.size, 2, none⟩ = some (.int .i64 T.pos) := HQ1.out.cell 2
            clear hbz
            go_wp2_with fail
            refine (HKT.out _).mono ?_
            rintro e x2 ⟨rfl, hbz⟩
            have HI2 := Lib.hid (bld_keep HI1.out hbz)
            have HQ2 := Lib.hid (HQ1.out.below hbz HQ1.out.lt)
            have Hb2 := Lib.hid (Hb1.out.trans (hbz.mono Hb1.out.size))
            have e2 : x2.cell? ⟨wr.heap.size, 1, none⟩ = some (.string (bt T.text)) := HQ2.out.cell 1
            have d2 : x2.cell? ⟨wr.heap.size, 0, none⟩ = some (.int .i64 T.kind) := HQ2.out.cell 0
            have f2 : x2.cell? ⟨wr.heap.size, 2, none⟩ = some (.int .i64 T.pos) := HQ2.out.cell 2
            clear hbz
            go_wp2_with fail
            refine (bbyte_any w.heap.size w.heap.size _ 32 _ HI2.out (by have h2 := hli; rw [Lib.byteCells_length]; omega) Hb2.out.size).mono ?_
            rintro e x3 ⟨rfl, hi3, hb3, hk3⟩
            have HI3 : Hid (Lib.IsBuilder 65 5 w.heap.size w.heap.size (Lib.byteCells (jl L (m + 1) ++ [32])) x3) := by
              refine Lib.hid ?_
              have := hi3
              first | (rw [show Lib.strCells (bt T.text) = Lib.byteCells T.text from rfl, ← Lib.byteCells_append] at this; exact this) | (rw [show [Value.int IntKind.u8 32] = Lib.byteCells [32] from rfl, ← Lib.byteCells_append] at this; exact this)
            have HQ3 := Lib.hid (oth_cell hk3 HQ2.out (by omega))
            have Hb3 := Lib.hid (Hb2.out.trans hb3)
            have e3 : x3.cell? ⟨wr.heap.size, 1, none⟩ = some (.string (bt T.text)) := HQ3.out.cell 1
            clear hi3 hb3 hk3
            go_wp2_with fail
            refine (bstr_any w.heap.size w.heap.size _ (bt T.text) _ HI3.out (by have h1 := hTs.out; have h2 := hli; rw [Lib.byteCells_length, tlen]; simp; omega) Hb3.out.size).mono ?_
            rintro e x4 ⟨rfl, hi4, hb4, hk4⟩
            have HI4 : Hid (Lib.IsBuilder 65 5 w.heap.size w.heap.size (Lib.byteCells ((jl L (m + 1) ++ [32]) ++ T.text)) x4) := by
              refine Lib.hid ?_
              have := hi4
              first | (rw [show Lib.strCells (bt T.text) = Lib.byteCells T.text from rfl, ← Lib.byteCells_append] at this; exact this) | (rw [show [Value.int IntKind.u8 32] = Lib.byteCells [32] from rfl, ← Lib.byteCells_append] at this; exact this)
            have HQ4 := Lib.hid (oth_cell hk4 HQ3.out (by omega))
            have Hb4 := Lib.hid (Hb3.out.trans hb4)
            have e4 : x4.cell? ⟨wr.heap.size, 1, none⟩ = some (.string (bt T.text)) := HQ4.out.cell 1
            clear hi4 hb4 hk4
            have hJ : Hid (jl L (m + 1 + 1) = (jl L (m + 1) ++ [32]) ++ T.text) := by
              refine Lib.hid ?_
              show jl L (m + 1) ++ sepL L (m + 1) ++ (tAt L (m + 1)).text = _
              rw [HS.out, ← HT.out]
            have HL := Lib.hid (Tryd.Builder_Len w.heap.size w.heap.size _ _ HI4.out)
            rw [← hJ.out, Lib.byteCells_length] at HL
            rw [← hJ.out] at HI4
            go_wp2_with fail
            refine HL.out.mono ?_
            rintro e x5 ⟨rfl, hw⟩
            obtain rfl : x5 = x4 := hw
            by_cases hbig : 4096 < (jl L (m + 1 + 1)).length
            · have hd : decide (4096 < (((jl L (m + 1 + 1)).length : Nat) : Int)) = true := decide_eq_true (by omega)
              have hR : Hid (joinedR L = ([], 19)) := by
                refine Lib.hid ?_
                have := jl_mono L (m + 1 + 1) L.length (by omega)
                unfold joinedR
                rw [if_pos (by omega)]
              clear hbig
              go_wp2
              go_ret2
              exact ⟨by rw [hR.out]; rfl, Hb4.out⟩
            · have hd : decide (4096 < (((jl L (m + 1 + 1)).length : Nat) : Int)) = false := decide_eq_false (by omega)
              have hl9 : (jl L (m + 1 + 1)).length ≤ 4096 := by omega
              have HL9 := Lib.hid hl9
              clear hbig hl9
              go_wp2
              go_roundw
              case rel => exact ⟨m + 1 + 1, by omega, by go_num, HL9.out, HI4.out, Hb4.out⟩
              case measure => simp [intOf]; omega
    · obtain rfl : i = L.length := by omega
      have hR : Hid (joinedR L = (jl L L.length, 0)) := Lib.hid (by unfold joinedR; rw [if_neg (by omega)])
      have HB := Lib.hid (Tryd.Builder_String_any w.heap.size w.heap.size (jl L L.length) wr hI hb.size)
      have Hb := Lib.hid hb
      clear hI hb
      go_wp2_with fail
      refine HB.out.mono ?_
      rintro e x1 ⟨rfl, hb1⟩
      go_wp2
      go_ret2
      exact ⟨by rw [hR.out]; rfl, Hb.out.trans hb1⟩
end Go.Proofs.YtffcahhnaomegaaDoor
