/- The law of division. -/
import Derived.Test.YtjaafneoinidkaaHr
import Derived.Test.YtjaafneoinidkaaHv
import Derived.Test.YtjaafneoinidkaaHt
import Derived.Deep.AppendLies
namespace Go.Proofs.Ytjaafneoinidkaa
open Go.RowKit Go.Shelf Go.Proofs.Gr
attribute [local go_sem] Oper.semAt_some

/-- Two own lists lie apart. -/
def OwnApart (s t : Value) : Prop := ∀ k, s.ownBlock = some k → t.ownBlock = some k → False
theorem OwnApart.nil {t : Value} : OwnApart (.slice none 0 0) t := fun _ h => by cases h
theorem OwnApart.symm {s t : Value} (h : OwnApart s t) : OwnApart t s := fun k a b => h k b a
theorem own_far {w w' : World} {row : Option Nat} {B : Nat} {e : TypeId} {z : Nat} {v : Value} {n : Nat} {xs : List Value} (h : w.ownsRow B e z v n xs) (hg : w.grownBy w' row) (hne : ∀ k, v.ownBlock = some k → row ≠ some k) : w'.ownsRow B e z v n xs := by
  refine ⟨h.1, h.2.imp id ?_⟩
  rintro ⟨g, cap, cur, hv, hb, hc, hr⟩
  refine ⟨g, cap, cur, hv, hb, ?_, hr⟩
  have hlt : g < w.heap.size := by
    rcases Nat.lt_or_ge g w.heap.size with h | h
    · exact h
    · rw [Array.getElem?_eq_none h] at hc; cases hc
  rw [hg.block g hlt (fun e => hne g (by rw [hv]; rfl) e.symm)]; exact hc
theorem OwnApart.new {w : World} {B : Nat} {e : TypeId} {z : Nat} {s t : Value} {n : Nat} {xs : List Value} (hs : w.ownsRow B e z s n xs) (h : OwnApart s t) (g H : Nat) (hl : t.ownBlock = some g ∨ g = H) (hH : w.heap.size ≤ H) (n' c' : Nat) : OwnApart s (.slice (some ⟨g, 0, none⟩) n' c') := by
  intro k h1 h2
  have h3 : g = k := by simpa [Value.ownBlock] using h2
  rcases hl with hl | hl
  · exact h k h1 (by rw [hl, h3])
  · have := (hs.lt k h1).2; omega

set_option maxHeartbeats 12800000 in
set_option maxRecDepth 100000 in
theorem divides_dark (n : Int) (a : Option Addr) (cap : Nat) (L : List E) (m : Int) (HRI : Hid (∀ w, EsAt w a L → Calls Try.prog 48 #[.agg #[.int .i64 n, .slice a L.length cap]] w (fun e w' => e = .returned (.bool false) ∧ Below w.heap.size w w'))) (HA : Awake) (w : World) (h : EsAt w a L) :
    Calls Try.prog 10 #[gv n a L.length cap, .int .u16 m] w (GivesB w true) := by
  unfold GivesB gv
  obtain ⟨W, hW⟩ : ∃ W, W = w.alloc (Obj.cells #[.int .i64 n, .slice a L.length cap] 24) := ⟨_, rfl⟩
  have hB0 : Below w.heap.size w W := by rw [hW]; exact (Below.refl _ w).alloc (Nat.le_refl _) _
  have hG : Blk W w.heap.size 24 #[.int .i64 n, .slice a L.length cap] := by rw [hW]; exact Blk.new _ _ _
  have HW := Lib.hid hW
  have HB0 := Lib.hid hB0
  have hEz : EsAt W a L := h.keep hB0
  have HF : Hid (∀ x, Below W.heap.size W x → x.cell? ⟨w.heap.size, 0, none⟩ = some (.int .i64 n) ∧ x.cell? ⟨w.heap.size, 1, none⟩ = some (.slice a L.length cap) ∧ EsAt x a L) := Lib.hid fun x hx => ⟨(hG.below hx hG.lt).cell 0, (hG.below hx hG.lt).cell 1, hEz.keep hx⟩
  have hk0 : Below W.heap.size W W := Below.refl _ _
  obtain ⟨g0, g1, -⟩ := HF.out W hk0
  clear hB0 hG hW hEz h
  go_enter Try.func10, Try.ntmps10
  go_wp2_with fail
  rw [← HW.out]
  refine (HRI.out _ (HF.out W hk0).2.2).mono ?_
  rintro e x1 ⟨rfl, hb1⟩
  have hk1 : Below W.heap.size W x1 := hk0.trans (hb1.mono hk0.size)
  clear hb1 hk0 g0 g1
  obtain ⟨g0, g1, -⟩ := HF.out x1 hk1
  go_wp2_with fail
  refine (HA _).mono ?_
  rintro e x2 ⟨rfl, hb2⟩
  have hk2 : Below W.heap.size W x2 := hk1.trans (hb2.mono hk1.size)
  clear hb2 hk1 g0 g1
  obtain ⟨g0, g1, -⟩ := HF.out x2 hk2
  have HEND := Lib.hid (HB0.out.trans (hk2.mono HB0.out.size))
  clear hk2 g0 g1
  go_wp2
  go_ret
  exact ⟨rfl, HEND.out⟩
set_option maxHeartbeats 12800000 in
set_option maxRecDepth 100000 in
theorem divides_ok (n : Int) (a : Option Addr) (cap : Nat) (L : List E) (m : Int) (N : Nat) (hn : n = N) (hN12 : N ≤ 12) (f : Nat → Bool) (I O : Nat → List Int) (D sU : Nat → Int) (K : List Int) (hKl : K.length ≤ 1000000) (p : Int) (J : List E) (Sz : Int) (HRI : Hid (∀ w, EsAt w a L → Calls Try.prog 48 #[.agg #[.int .i64 n, .slice a L.length cap]] w (fun e w' => e = .returned (.bool true) ∧ Below w.heap.size w w'))) (HA : Awake) (HT : Hid (∀ v : Nat, v < N → (bits BinOp.and IntKind.u16 (m / 2 ^ v) 1 == 0) = !(f v))) (HD : Hid (∀ v : Nat, v < N → ∀ w, EsAt w a L → Calls Try.prog 27 #[.agg #[.int .i64 (N : Int), .slice a L.length cap], .int .i64 (v : Int)] w (fun e w' => e = .returned (.tuple #[.int .i64 (D v), .int .i64 0]) ∧ Below w.heap.size w w'))) (HS0 : Hid (sU 0 = 0)) (HI0 : Hid (I 0 = [])) (HO0 : Hid (O 0 = [])) (HSN0 : Hid (∀ v, v < N → sU (v + 1) = if f v = true then sU v + D v else sU v)) (HIN0 : Hid (∀ v, v < N → I (v + 1) = if f v = true then I v ++ [(v : Int)] else I v)) (HON0 : Hid (∀ v, v < N → O (v + 1) = if f v = true then O v else O v ++ [(v : Int)])) (HIL : Hid (∀ v, v < N → (I v).length ≤ 12)) (HOL : Hid (∀ v, v < N → (O v).length ≤ 12)) (HBD : Hid (∀ v, v < N → 0 ≤ D v ∧ D v ≤ 100000 ∧ 0 ≤ sU v ∧ sU v ≤ 1000000)) (HCI : Hid (∀ b c w, EsAt w a L → IsAt w b (I N) → Calls Try.prog 37 #[.agg #[.int .i64 n, .slice a L.length cap], .slice b (I N).length c] w (fun e w' => ∃ b2 d2, e = .returned (.tuple #[.slice b2 K.length d2, .int .i64 0]) ∧ IsAt w' b2 K ∧ Below w.heap.size w w'))) (HCO : Hid (∀ b c w, EsAt w a L → IsAt w b (O N) → Calls Try.prog 37 #[.agg #[.int .i64 n, .slice a L.length cap], .slice b (O N).length c] w (fun e w' => ∃ b2 d2, e = .returned (.tuple #[.slice b2 K.length d2, .int .i64 0]) ∧ IsAt w' b2 K ∧ Below w.heap.size w w'))) (HEQ : Hid (∀ b d b2 d2 w, IsAt w b K → IsAt w b2 K → Calls Try.prog 34 #[.slice b K.length d, .slice b2 K.length d2] w (fun e w' => e = .returned (.bool true) ∧ Below w.heap.size w w'))) (HKE : Hid (I N = [] → K = [])) (HIE : Hid (I N ≠ [] → ∀ b c w, EsAt w a L → IsAt w b (I N) → Calls Try.prog 38 #[.agg #[.int .i64 n, .slice a L.length cap], .slice b (I N).length c] w (fun e w' => ∃ a2 c2, e = .returned (.tuple #[.agg #[.int .i64 p, .slice a2 J.length c2], .int .i64 0]) ∧ EsAt w' a2 J ∧ Below w.heap.size w w'))) (HSZ : Hid (I N ≠ [] → ∀ a2 c2 w, EsAt w a2 J → Calls Try.prog 15 #[.agg #[.int .i64 p, .slice a2 J.length c2]] w (fun e w' => e = .returned (.tuple #[.int .i64 Sz, .int .i64 0]) ∧ Below w.heap.size w w'))) (HSN9 : Hid (I N ≠ [] → sU N = (K.length : Int) + 2 * Sz)) (HSB : Hid (I N ≠ [] → 0 ≤ Sz ∧ Sz ≤ 100000)) (w : World) (h : EsAt w a L) :
    Calls Try.prog 10 #[gv n a L.length cap, .int .u16 m] w (GivesB w true) := by
  unfold GivesB gv
  obtain ⟨W, hW⟩ : ∃ W, W = w.alloc (Obj.cells #[.int .i64 n, .slice a L.length cap] 24) := ⟨_, rfl⟩
  have hB0 : Below w.heap.size w W := by rw [hW]; exact (Below.refl _ w).alloc (Nat.le_refl _) _
  have hG : Blk W w.heap.size 24 #[.int .i64 n, .slice a L.length cap] := by rw [hW]; exact Blk.new _ _ _
  have HW := Lib.hid hW
  have HB0 := Lib.hid hB0
  have hEz : EsAt W a L := h.keep hB0
  have HF : Hid (∀ x, Below W.heap.size W x → x.cell? ⟨w.heap.size, 0, none⟩ = some (.int .i64 n) ∧ x.cell? ⟨w.heap.size, 1, none⟩ = some (.slice a L.length cap) ∧ EsAt x a L) := Lib.hid fun x hx => ⟨(hG.below hx hG.lt).cell 0, (hG.below hx hG.lt).cell 1, hEz.keep hx⟩
  have hk0 : Below W.heap.size W W := Below.refl _ _
  obtain ⟨g0, g1, -⟩ := HF.out W hk0
  clear hB0 hG hW hEz h
  obtain ⟨i0, hi0, hz0, hz1, hz2⟩ := info_parts infoI
  have HN := Lib.hid hn
  clear hn
  go_enter Try.func10, Try.ntmps10
  go_wp2_with fail
  rw [← HW.out]
  refine (HRI.out _ (HF.out W hk0).2.2).mono ?_
  rintro e x1 ⟨rfl, hb1⟩
  have hk1 : Below W.heap.size W x1 := hk0.trans (hb1.mono hk0.size)
  clear hb1 hk0 g0 g1
  obtain ⟨g0, g1, -⟩ := HF.out x1 hk1
  have HBk := Lib.hid hk1
  rw [HN.out] at g0
  clear hk1
  go_wp2
  clear g0 g1
  go_loopw [5, 6, 7, 23] (fun s t u x wr => ∃ v : Nat, v ≤ N ∧ x = .int .i64 v ∧ u = .int .i64 (sU v) ∧ wr.ownsRow W.heap.size 3 1 s (I v).length (flat encI (I v)) ∧ wr.ownsRow W.heap.size 3 1 t (O v).length (flat encI (O v)) ∧ OwnApart s t ∧ Below W.heap.size W wr) (fun _ _ _ x _ => N - (intOf x).toNat)
  case atStart => exact ⟨0, by omega, rfl, by rw [HS0.out], by rw [HI0.out]; exact World.ownsRow_nil _ _ _ _, by rw [HO0.out]; exact World.ownsRow_nil _ _ _ _, OwnApart.nil, HBk.out⟩
  case round =>
    obtain ⟨v, hv, rfl, rfl, hs, ht, hap, hb⟩ := hrel
    by_cases hlt : v < N
    · have i1 : (v : Int) < (N : Int) := by omega
      have hTt := HT.out v hlt
      have HBr := Lib.hid hb
      have HIS := Lib.hid hs
      have HOS := Lib.hid ht
      have HAP := Lib.hid hap
      have bd := HBD.out v hlt
      have hIL := HIL.out v hlt
      have hOL := HOL.out v hlt
      have HDv := Lib.hid (fun w h => HD.out v hlt w h)
      have HIN := Lib.hid (HIN0.out v hlt)
      have HON := Lib.hid (HON0.out v hlt)
      have HSN := Lib.hid (HSN0.out v hlt)
      generalize I v = Iv at *
      generalize O v = Ov at *
      clear hs ht hap hb
      cases hf : f v
      · rw [hf] at hTt HIN HON HSN
        have HIN2 : Hid (I (v + 1) = Iv) := Lib.hid (by have := HIN.out; simpa using this)
        have HON2 : Hid (O (v + 1) = Ov ++ [(v : Int)]) := Lib.hid (by have := HON.out; simpa using this)
        have HSN2 : Hid (sU (v + 1) = sU v) := Lib.hid (by have := HSN.out; simpa using this)
        clear hf
        go_wp2_with (at_builtin; refine wpList_append_lies _ rfl _ _ 46 rfl W.heap.size 3 i0 (.int .i64 0) 1 8 Try.underlying46 hi0 hz0 hz1 hz2 rfl (by decide) _ _ _ rfl (HOS.out.alloc _) ⟨_, 0, none⟩ 1 1 [.int .i64 (v : Int)] rfl rfl (lit_row _ _ _) (by simp [Value.oneCell']) (by decide) (by unfold maxLen; omega) (by omega) (by rw [World.size_alloc]; have := HBr.out.size; omega) (wr.heap.size + 1) (World.size_alloc ..) ?_; intro gn cn w3 hown1 hgrow1 hlie _; have hB3 : Below W.heap.size W w3 := below_push (w := W) HBr.out (fun k hk => (HOS.out.lt k hk).1) hgrow1; have hfar := own_far (HIS.out.alloc _) hgrow1 (fun k h1 h2 => HAP.out k h1 h2); have hapn := OwnApart.new HIS.out HAP.out gn _ hlie (Nat.le_succ _))
        have HO3 : Hid (w3.ownsRow W.heap.size 3 1 (.slice (some ⟨gn, 0, none⟩) (Ov.length + 1) cn) (Ov ++ [(v : Int)]).length (flat encI (Ov ++ [(v : Int)]))) := by
          rw [List.length_append, flatI_snoc]
          exact hown1
        have HI3 := Lib.hid hfar
        have HA3 := Lib.hid (hapn (Ov.length + 1) cn)
        have HB3 := Lib.hid hB3
        clear hown1 hgrow1 hB3 hfar hapn hlie bd hTt
        go_wp2
        go_roundw
        case rel => exact ⟨v + 1, by omega, by go_num, by rw [HSN2.out], by rw [HIN2.out]; exact HI3.out, by rw [HON2.out]; exact HO3.out, HA3.out, HB3.out⟩
        case measure => simp [intOf]; omega
      · rw [hf] at hTt HIN HON HSN
        have HIN2 : Hid (I (v + 1) = Iv ++ [(v : Int)]) := Lib.hid (by have := HIN.out; simpa using this)
        have HON2 : Hid (O (v + 1) = Ov) := Lib.hid (by have := HON.out; simpa using this)
        have HSN2 : Hid (sU (v + 1) = sU v + D v) := Lib.hid (by have := HSN.out; simpa using this)
        clear hf
        go_wp2_with (at_builtin; refine wpList_append_lies _ rfl _ _ 46 rfl W.heap.size 3 i0 (.int .i64 0) 1 8 Try.underlying46 hi0 hz0 hz1 hz2 rfl (by decide) _ _ _ rfl (HIS.out.alloc _) ⟨_, 0, none⟩ 1 1 [.int .i64 (v : Int)] rfl rfl (lit_row _ _ _) (by simp [Value.oneCell']) (by decide) (by unfold maxLen; omega) (by omega) (by rw [World.size_alloc]; have := HBr.out.size; omega) (wr.heap.size + 1) (World.size_alloc ..) ?_; intro gn cn w3 hown1 hgrow1 hlie _; have hB3 : Below W.heap.size W w3 := below_push (w := W) HBr.out (fun k hk => (HIS.out.lt k hk).1) hgrow1; have hfar := own_far (HOS.out.alloc _) hgrow1 (fun k h1 h2 => HAP.out.symm k h1 h2); have hapn := OwnApart.new HOS.out HAP.out.symm gn _ hlie (Nat.le_succ _); obtain ⟨g0, g1, -⟩ := HF.out w3 hB3; rw [HN.out] at g0)
        have HI3 : Hid (w3.ownsRow W.heap.size 3 1 (.slice (some ⟨gn, 0, none⟩) (Iv.length + 1) cn) (Iv ++ [(v : Int)]).length (flat encI (Iv ++ [(v : Int)]))) := by
          rw [List.length_append, flatI_snoc]
          exact hown1
        have HO3 := Lib.hid hfar
        have HA3 : Hid (OwnApart (.slice (some ⟨gn, 0, none⟩) (Iv.length + 1) cn) _) := Lib.hid (hapn (Iv.length + 1) cn).symm
        have HB3 := Lib.hid hB3
        clear hown1 hgrow1 hfar hapn hlie hTt
        have hk2 := hB3
        clear hB3
        refine (HDv.out _ (HF.out _ hk2).2.2).mono ?_
        rintro e x9 ⟨rfl, hb9⟩
        have HI4 := Lib.hid (own_keep HI3.out hb9)
        have HO4 := Lib.hid (own_keep HO3.out hb9)
        have HB4 := Lib.hid (HB3.out.trans (hb9.mono HB3.out.size))
        have c1 : IntKind.i64.wrap (sU v + D v) = sU v + D v := IntWalk.i64_in _ (by omega)
        clear hb9 hk2 g0 g1 bd
        go_wp2
        go_roundw
        case rel => exact ⟨v + 1, by omega, by go_num, by rw [HSN2.out], by rw [HIN2.out]; exact HI4.out, by rw [HON2.out]; exact HO4.out, HA3.out, HB4.out⟩
        case measure => simp [intOf]; omega
    · obtain rfl : v = N := by omega
      have hk999 : Below W.heap.size W wr := hb
      generalize I v = IN at *
      generalize O v = ON at *
      obtain ⟨a2, c2, rfl, hI_0⟩ := RowAt.of_own encI_len hs
      obtain ⟨a3, c3, rfl, hO_0⟩ := RowAt.of_own encI_len ht
      clear hb hs ht hap
      by_cases h0 : IN = []
      · subst h0
        obtain rfl := HKE.out rfl
        have hk999 := hk999
        obtain ⟨g0, g1, -⟩ := HF.out wr hk999
        clear hk999
        go_wp2_with fail
        refine (HCI.out a2 c2 _ (HF.out wr hk999).2.2 hI_0).mono ?_
        rintro e x1000 ⟨a4, c4, rfl, hK_1000, hb1000⟩
        have hk1000 : Below W.heap.size W x1000 := hk999.trans (hb1000.mono hk999.size)
        have hI_1000 := hI_0.keep hb1000
        have hO_1000 := hO_0.keep hb1000
        clear hb1000 hk999 g0 g1 hI_0 hO_0
        obtain ⟨g0, g1, -⟩ := HF.out x1000 hk1000
        go_wp2_with fail
        refine (HCO.out a3 c3 _ (HF.out x1000 hk1000).2.2 hO_1000).mono ?_
        rintro e x1001 ⟨a5, c5, rfl, hM_1001, hb1001⟩
        have hk1001 : Below W.heap.size W x1001 := hk1000.trans (hb1001.mono hk1000.size)
        have hI_1001 := hI_1000.keep hb1001
        have hO_1001 := hO_1000.keep hb1001
        have hK_1001 := hK_1000.keep hb1001
        clear hb1001 hk1000 g0 g1 hI_1000 hO_1000 hK_1000
        obtain ⟨g0, g1, -⟩ := HF.out x1001 hk1001
        go_wp2_with fail
        refine (HEQ.out _ _ _ _ _ hK_1001 hM_1001).mono ?_
        rintro e x1002 ⟨rfl, hb1002⟩
        have hk1002 : Below W.heap.size W x1002 := hk1001.trans (hb1002.mono hk1001.size)
        have hI_1002 := hI_1001.keep hb1002
        have hO_1002 := hO_1001.keep hb1002
        have hK_1002 := hK_1001.keep hb1002
        have hM_1002 := hM_1001.keep hb1002
        clear hb1002 hk1001 g0 g1 hI_1001 hO_1001 hK_1001 hM_1001
        obtain ⟨g0, g1, -⟩ := HF.out x1002 hk1002
        go_wp2_with fail
        refine (HA _).mono ?_
        rintro e x1003 ⟨rfl, hb1003⟩
        have hk1003 : Below W.heap.size W x1003 := hk1002.trans (hb1003.mono hk1002.size)
        have hI_1003 := hI_1002.keep hb1003
        have hO_1003 := hO_1002.keep hb1003
        have hK_1003 := hK_1002.keep hb1003
        have hM_1003 := hM_1002.keep hb1003
        clear hb1003 hk1002 g0 g1 hI_1002 hO_1002 hK_1002 hM_1002
        obtain ⟨g0, g1, -⟩ := HF.out x1003 hk1003
        have HEND := Lib.hid (HB0.out.trans (hk1003.mono HB0.out.size))
        clear hk1003 g0 g1
        go_wp2
        go_ret
        exact ⟨rfl, HEND.out⟩
      · have hl0 : IN.length ≠ 0 := fun e => h0 (List.length_eq_zero_iff.1 e)
        have q1 : ((IN.length : Int) == 0) = false := by rw [beq_eq_false_iff_ne]; omega
        have hsn := HSN9.out h0
        have c5' : IntKind.i64.wrap (2 * Sz) = 2 * Sz := IntWalk.i64_in _ (by have := HSB.out h0; omega)
        have c6' : IntKind.i64.wrap ((K.length : Int) + 2 * Sz) = (K.length : Int) + 2 * Sz := IntWalk.i64_in _ (by have := HSB.out h0; omega)
        rw [hsn]
        clear hsn
        have hk999 := hk999
        obtain ⟨g0, g1, -⟩ := HF.out wr hk999
        clear hk999
        go_wp2_with fail
        refine (HCI.out a2 c2 _ (HF.out wr hk999).2.2 hI_0).mono ?_
        rintro e x1000 ⟨a4, c4, rfl, hK_1000, hb1000⟩
        have hk1000 : Below W.heap.size W x1000 := hk999.trans (hb1000.mono hk999.size)
        have hI_1000 := hI_0.keep hb1000
        have hO_1000 := hO_0.keep hb1000
        clear hb1000 hk999 g0 g1 hI_0 hO_0
        obtain ⟨g0, g1, -⟩ := HF.out x1000 hk1000
        go_wp2_with fail
        refine (HCO.out a3 c3 _ (HF.out x1000 hk1000).2.2 hO_1000).mono ?_
        rintro e x1001 ⟨a5, c5, rfl, hM_1001, hb1001⟩
        have hk1001 : Below W.heap.size W x1001 := hk1000.trans (hb1001.mono hk1000.size)
        have hI_1001 := hI_1000.keep hb1001
        have hO_1001 := hO_1000.keep hb1001
        have hK_1001 := hK_1000.keep hb1001
        clear hb1001 hk1000 g0 g1 hI_1000 hO_1000 hK_1000
        obtain ⟨g0, g1, -⟩ := HF.out x1001 hk1001
        go_wp2_with fail
        refine (HEQ.out _ _ _ _ _ hK_1001 hM_1001).mono ?_
        rintro e x1002 ⟨rfl, hb1002⟩
        have hk1002 : Below W.heap.size W x1002 := hk1001.trans (hb1002.mono hk1001.size)
        have hI_1002 := hI_1001.keep hb1002
        have hO_1002 := hO_1001.keep hb1002
        have hK_1002 := hK_1001.keep hb1002
        have hM_1002 := hM_1001.keep hb1002
        clear hb1002 hk1001 g0 g1 hI_1001 hO_1001 hK_1001 hM_1001
        obtain ⟨g0, g1, -⟩ := HF.out x1002 hk1002
        go_wp2_with fail
        refine (HIE.out h0 a2 c2 _ (HF.out x1002 hk1002).2.2 hI_1002).mono ?_
        rintro e x1003 ⟨a6, c6, rfl, hJ_1003, hb1003⟩
        have hk1003 : Below W.heap.size W x1003 := hk1002.trans (hb1003.mono hk1002.size)
        have hI_1003 := hI_1002.keep hb1003
        have hO_1003 := hO_1002.keep hb1003
        have hK_1003 := hK_1002.keep hb1003
        have hM_1003 := hM_1002.keep hb1003
        clear hb1003 hk1002 g0 g1 hI_1002 hO_1002 hK_1002 hM_1002
        obtain ⟨g0, g1, -⟩ := HF.out x1003 hk1003
        obtain ⟨Y1, hY1⟩ : ∃ Y, Y = x1003.alloc (Obj.cells #[.int .i64 p, .slice a6 J.length c6] 24) := ⟨_, rfl⟩
        have hy : Below x1003.heap.size x1003 Y1 := by rw [hY1]; exact (Below.refl _ _).alloc (Nat.le_refl _) _
        have hz : Below W.heap.size W Y1 := hk1003.trans (hy.mono hk1003.size)
        have hQ : Blk Y1 x1003.heap.size 24 #[.int .i64 p, .slice a6 J.length c6] := by rw [hY1]; exact Blk.new _ _ _
        have HBY1 : Hid (Below w.heap.size w Y1) := Lib.hid (HB0.out.trans (hz.mono HB0.out.size))
        have HFY1 : Hid (∀ x, Below Y1.heap.size Y1 x → x.cell? ⟨w.heap.size, 0, none⟩ = some (.int .i64 n) ∧ x.cell? ⟨w.heap.size, 1, none⟩ = some (.slice a L.length cap) ∧ x.cell? ⟨x1003.heap.size, 0, none⟩ = some (.int .i64 p) ∧ x.cell? ⟨x1003.heap.size, 1, none⟩ = some (.slice a6 J.length c6) ∧ EsAt x a L ∧ IsAt x a2 IN ∧ IsAt x a3 ON ∧ IsAt x a4 K ∧ IsAt x a5 K ∧ EsAt x a6 J) := Lib.hid fun x hx => ⟨(HF.out x (hz.trans (hx.mono hz.size))).1, (HF.out x (hz.trans (hx.mono hz.size))).2.1, (hQ.below hx hQ.lt).cell 0, (hQ.below hx hQ.lt).cell 1, (HF.out x (hz.trans (hx.mono hz.size))).2.2, (hI_1003.keep hy).keep hx, (hO_1003.keep hy).keep hx, (hK_1003.keep hy).keep hx, (hM_1003.keep hy).keep hx, (hJ_1003.keep hy).keep hx⟩
        clear g0 g1 hk1003 hz hQ hy hI_1003 hO_1003 hK_1003 hM_1003 hJ_1003
        have hk1004 : Below Y1.heap.size Y1 Y1 := Below.refl _ _
        have g0 : (x1003.alloc (Obj.cells #[.int .i64 p, .slice a6 J.length c6] 24)).cell? ⟨w.heap.size, 0, none⟩ = some (.int .i64 n) := by rw [← hY1]; exact (HFY1.out _ hk1004).1
        have g1 : (x1003.alloc (Obj.cells #[.int .i64 p, .slice a6 J.length c6] 24)).cell? ⟨w.heap.size, 1, none⟩ = some (.slice a L.length cap) := by rw [← hY1]; exact (HFY1.out _ hk1004).2.1
        have g2 : (x1003.alloc (Obj.cells #[.int .i64 p, .slice a6 J.length c6] 24)).cell? ⟨x1003.heap.size, 0, none⟩ = some (.int .i64 p) := by rw [← hY1]; exact (HFY1.out _ hk1004).2.2.1
        have g3 : (x1003.alloc (Obj.cells #[.int .i64 p, .slice a6 J.length c6] 24)).cell? ⟨x1003.heap.size, 1, none⟩ = some (.slice a6 J.length c6) := by rw [← hY1]; exact (HFY1.out _ hk1004).2.2.2.1
        have HY1 := Lib.hid hY1
        clear hY1
        go_wp2_with fail
        rw [← HY1.out]
        refine (HSZ.out h0 a6 c6 _ (HFY1.out Y1 hk1004).2.2.2.2.2.2.2.2.2).mono ?_
        rintro e x1005 ⟨rfl, hb1005⟩
        have hk1005 : Below Y1.heap.size Y1 x1005 := hk1004.trans (hb1005.mono hk1004.size)
        clear hb1005 hk1004 g0 g1 g2 g3
        obtain ⟨g0, g1, g2, g3, -⟩ := HFY1.out x1005 hk1005
        go_wp2_with fail
        refine (HA _).mono ?_
        rintro e x1006 ⟨rfl, hb1006⟩
        have hk1006 : Below Y1.heap.size Y1 x1006 := hk1005.trans (hb1006.mono hk1005.size)
        clear hb1006 hk1005 g0 g1 g2 g3
        obtain ⟨g0, g1, g2, g3, -⟩ := HFY1.out x1006 hk1006
        have HEND := Lib.hid (HBY1.out.trans (hk1006.mono HBY1.out.size))
        clear hk1006 g0 g1 g2 g3
        go_wp2
        go_ret
        exact ⟨rfl, HEND.out⟩
theorem degS_le {n : Int} {L : List E} (h : ∀ e ∈ L, 0 ≤ e.a ∧ e.a ≤ e.b ∧ e.b < n ∧ 1 ≤ e.m ∧ e.m ≤ 50) (S : List Int) : 0 ≤ sumL (degS S) L ∧ sumL (degS S) L ≤ 2 * sizeG L := by
  unfold sizeG
  induction L with
  | nil => exact ⟨Int.le_refl 0, Int.le_refl 0⟩
  | cons e r ih =>
    have h1 := ih (fun x hx => h x (by simp [hx]))
    have h2 := h e (by simp)
    have h3 : 0 ≤ degS S e ∧ degS S e ≤ 2 * e.m := by
      unfold degS
      cases S.contains e.a <;> cases S.contains e.b <;> simp <;> omega
    rw [sumL, sumL]; omega
theorem cut_nil {n : Int} {L : List E} (h : ∀ e ∈ L, 0 ≤ e.a ∧ e.a ≤ e.b ∧ e.b < n ∧ 1 ≤ e.m ∧ e.m ≤ 50) : cutG L [] = [] := by
  have h1 := cut_count h []
  have h2 : sumL (fun e => if outB [] (e.a, e.b) = true then e.m else 0) L = 0 := by
    clear h h1
    induction L with
    | nil => rfl
    | cons e r ih => rw [sumL, ih]; simp [outB]
  exact List.length_eq_zero_iff.1 (by omega)
theorem divides_any (n : Int) (a : Option Addr) (cap : Nat) (L : List E) (m : Int) (w : World) (h : EsAt w a L) :
    Calls Try.prog 10 #[gv n a L.length cap, .int .u16 m] w (GivesB w true) := by
  cases hr : rightG n L with
  | false => exact divides_dark n a cap L m (Lib.hid fun w h => by have := right_any n a cap L w h; rw [hr] at this; exact this) awake_any w h
  | true =>
    have hl : lightG n L = true := by unfold rightG at hr; exact (Bool.and_eq_true_iff.1 hr).1
    have hk : chkG n L = 0 := by unfold rightG at hr; exact of_decide_eq_true (Bool.and_eq_true_iff.1 hr).2
    have hlen := light_len hl
    have hsz : sizeG L ≤ 400 := by
      unfold lightG at hl
      have := (Bool.and_eq_true_iff.1 hl).2
      simpa [hk] using this
    have HRI : Hid (∀ w, EsAt w a L → Calls Try.prog 48 #[.agg #[.int .i64 n, .slice a L.length cap]] w (fun e w' => e = .returned (.bool true) ∧ Below w.heap.size w w')) := Lib.hid fun w h => by have := right_any n a cap L w h; rw [hr] at this; exact this
    obtain ⟨N, rfl, h1, h2⟩ := nat_of_chk hk
    have hR := right_of hk
    have c1 : ∀ v : Nat, v < N → chkV N L [(v : Int)] = 0 := fun v hv => by rw [chkV_one hk, if_pos (by simp [isV]; omega)]
    obtain ⟨f, hf⟩ : ∃ f : Nat → Bool, f = fun v => !(bits BinOp.and IntKind.u16 (m / 2 ^ v) 1 == 0) := ⟨_, rfl⟩
    have hT : ∀ v, (bits BinOp.and IntKind.u16 (m / 2 ^ v) 1 == 0) = !(f v) := fun v => by rw [hf]; simp
    have hsub : subE N (selS f N) = 0 := selS_sub f N
    have hsubo : subE N (selS (fun i => !f i) N) = 0 := selS_sub (fun i => !f i) N
    have hasc := selS_asc f N
    have hln := selS_len f N
    have hlo := selS_len (fun i => !f i) N
    have hdeg := degS_eq hR hasc
    have hdl := degS_le hR.rng (selS f N)
    have e1 : chkS N L (selS f N) = 0 := by rw [chkS_s hk]; exact hsub
    have e2 : chkS N L (selS (fun i => !f i) N) = 0 := by rw [chkS_s hk]; exact hsubo
    have hcn := cut_not hR.rng f
    refine divides_ok (N : Int) a cap L m N rfl (by omega) f (selS f) (selS (fun i => !f i)) (fun v => sumL (othE v) L + 2 * sumL (loopE v) L) (fun k => sumL (degS (selS f k)) L) (cutG L (selS f N)) (cutG_len hR hlen _) (selS f N).length (indG L (selS f N)) (sizeG (indG L (selS f N))) HRI awake_any ?_ ?_ ?_ (Lib.hid rfl) (Lib.hid rfl) ?_ ?_ ?_ ?_ ?_ ?_ ?_ ?_ ?_ ?_ ?_ ?_ ?_ ?_ w h
    · exact Lib.hid fun v _ => hT v
    · exact Lib.hid fun v hv w h => by have := pdegree_any (N : Int) a cap L (by omega) v w h; rw [c1 v hv, if_pos rfl] at this; exact this
    · refine Lib.hid ?_
      show sumL (degS []) L = 0
      clear hdeg hdl hcn e1 e2 hsz hR hlen hl hk hr h HRI c1
      induction L with
      | nil => rfl
      | cons e r ih => rw [sumL, ih]; simp [degS]
    · refine Lib.hid fun v hv => ?_
      show sumL (degS (selS f (v + 1))) L = if f v = true then sumL (degS (selS f v)) L + (sumL (othE v) L + 2 * sumL (loopE v) L) else sumL (degS (selS f v)) L
      rw [selS]
      have hno : (selS f v).contains (v : Int) = false := by
        cases hc : (selS f v).contains (v : Int) with
        | false => rfl
        | true =>
          obtain ⟨i, hi, _, he⟩ := (selS_mem f v v).1 (by simpa using hc)
          omega
      by_cases e : f v = true
      · rw [if_pos e, if_pos e]; exact degS_snoc _ _ hno
      · rw [if_neg e, if_neg e, List.append_nil]
    · refine Lib.hid fun v hv => ?_
      rw [selS]
      by_cases e : f v = true
      · rw [if_pos e, if_pos e]
      · rw [if_neg e, if_neg e, List.append_nil]
    · refine Lib.hid fun v hv => ?_
      rw [selS]
      by_cases e : f v = true
      · rw [if_pos e, if_neg (by simp [e]), List.append_nil]
      · rw [if_neg e, if_pos (by simpa using e)]
    · exact Lib.hid fun v hv => by have := selS_len f v; omega
    · exact Lib.hid fun v hv => by have := selS_len (fun i => !f i) v; omega
    · refine Lib.hid fun v hv => ?_
      have b1 := oth_le hR.rng (v : Int)
      have b2 := bet_size hR.rng (v : Int) v
      rw [bet_loop] at b2
      have b3 := degS_le hR.rng (selS f v)
      show 0 ≤ sumL (othE v) L + 2 * sumL (loopE v) L ∧ sumL (othE v) L + 2 * sumL (loopE v) L ≤ 100000 ∧ 0 ≤ sumL (degS (selS f v)) L ∧ sumL (degS (selS f v)) L ≤ 1000000
      omega
    · exact Lib.hid fun b c w h hv => by have := pcut_any (N : Int) a cap L (by omega) b c (selS f N) (by omega) w h hv; rw [e1, if_pos rfl] at this; exact this
    · exact Lib.hid fun b c w h hv => by have := pcut_any (N : Int) a cap L (by omega) b c (selS (fun i => !f i) N) (by omega) w h hv; rw [e2, if_pos rfl, hcn] at this; exact this
    · exact Lib.hid fun b d b2 d2 w p q => equalI_same _ (cutG_len hR hlen _) b d b2 d2 w p q
    · exact Lib.hid fun e => by rw [e]; exact cut_nil hR.rng
    · refine Lib.hid fun h0 b c w h hv => (pinduced_ok (N : Int) a cap L (by omega) b c (selS f N) (by omega) (List.length_pos_iff.2 h0) hk hsub w h hv).mono ?_
      rintro e w' ⟨a', c', rfl, h3, -, hb⟩
      exact ⟨a', c', rfl, h3, hb⟩
    · refine Lib.hid fun h0 a2 c2 w h => ?_
      have hJ := right_chk (ind_right hR (S := selS f N) (List.length_pos_iff.2 h0) (by omega))
      have := pSize_any ((selS f N).length : Int) a2 c2 (indG L (selS f N)) (joinT_small _ _ (by omega)) w h
      rw [hJ, if_pos rfl] at this
      exact this
    · exact Lib.hid fun _ => hdeg
    · refine Lib.hid fun h0 => ?_
      have := oth_le (ind_right hR (S := selS f N) (List.length_pos_iff.2 h0) (by omega)).rng 0
      omega
end Go.Proofs.Ytjaafneoinidkaa
