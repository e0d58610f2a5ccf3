/- The law of making. -/
import Derived.Test.YtjaafneoinidkaaHr
namespace Go.Proofs.Ytjaafneoinidkaa
open Go.RowKit Go.Shelf Go.Proofs.Gr
attribute [local go_sem] Oper.semAt_some

theorem RowAt.cells {α : Type} {k : Nat} (hk0 : 0 < k) {enc : α → List Value} (hk : ∀ x, (enc x).length = k) {w : World} {b o : Nat} {L : List α} (h : RowAt k enc w (some ⟨b, o, none⟩) L) (j : Nat) (v : Value) (hj : (flat enc L)[j]? = some v) : w.cell? ((⟨b, o, none⟩ : Addr).add j) = some v := by
  have hl : j < L.length * k := by
    have := (List.getElem?_eq_some_iff.1 hj).1
    rwa [flat_len hk] at this
  have h1 : j / k < L.length := Nat.div_lt_of_lt_mul (by rwa [Nat.mul_comm] at hl)
  have h2 : j % k < k := Nat.mod_lt _ hk0
  have h3 : j / k * k + j % k = j := by rw [Nat.mul_comm]; exact Nat.div_add_mod j k
  obtain ⟨b', o', e, _, hc⟩ := h (j / k) h1
  injection e with e
  injection e with e1 e2
  subst e1 e2
  have h4 := flat_at hk L (j / k) (j % k) h1 h2
  rw [h3, hj] at h4
  have h5 := hc (j % k) h2
  rw [← h4, Nat.add_assoc, h3] at h5
  have e3 : Addr.add ⟨b, o, none⟩ j = ⟨b, o + j, none⟩ := by unfold Addr.add; split <;> simp_all
  rw [e3]; exact h5
theorem append_pairs (w : World) (b o g : Nat) (Q : List (Int × Int)) (p : Int × Int) (hQ : PsAt w (some ⟨b, o, none⟩) Q) (hp : PsAt w (some ⟨g, 0, none⟩) [p]) (hlen : Q.length ≤ 100000) (ty : TypeId) :
    ∃ c w', (Builtin.append_ #[31, 31] ty #[.slice (some ⟨b, o, none⟩) Q.length Q.length, .slice (some ⟨g, 0, none⟩) 1 1]).run Try.prog w = .ok (.slice (some ⟨w.heap.size, 0, none⟩) (Q.length + 1) c) w' ∧ PsAt w' (some ⟨w.heap.size, 0, none⟩) (Q ++ [p]) ∧ Q.length + 1 ≤ c ∧ Below w.heap.size w w' := by
  obtain ⟨i0, hi0, hz0, hz1, hz2⟩ := info_parts infoP
  have hr := run_append_grow (P := Try.prog) w 31 ty 37 i0 _ Try.underlying31 hi0 hz0 ⟨b, o, none⟩ Q.length Q.length (flat encP Q) (by rw [hz1, flat_len (k := 2) (enc := encP) (fun _ => rfl)]) (fun j v hj => RowAt.cells (k := 2) (enc := encP) (by decide) (fun _ => rfl) hQ j v hj)
    ⟨g, 0, none⟩ 1 1 (flat encP [p]) (by rw [hz1, flat_len (k := 2) (enc := encP) (fun _ => rfl)]; rfl) (fun j v hj => RowAt.cells (k := 2) (enc := encP) (by decide) (fun _ => rfl) hp j v hj) (by omega) (by omega) (growslice_fits (by omega) (by rw [hz2]; omega))
  refine ⟨_, _, hr, ?_, grownCap_ge w (Q.length + 1) Q.length 37, (Below.refl _ w).drew.alloc (Nat.le_refl _) _⟩
  intro j hj
  have hnew := Blk.new w.drew 37 ((flat encP Q).toArray ++ (flat encP [p]).toArray ++ Builtin.zeroCells (Value.agg #[.int .i64 0, .int .i64 0]).cells (grownCap w (Q.length + 1) Q.length 37 - (Q.length + 1)))
  refine ⟨w.heap.size, 0, rfl, hnew.lt, fun i hi => ?_⟩
  have h2 := hnew.cell (0 + j * 2 + i)
  refine h2.trans ?_
  have h3 : ((flat encP Q).toArray ++ (flat encP [p]).toArray) = (flat encP (Q ++ [p])).toArray := by rw [flat_append]; simp
  rw [h3, Nat.zero_add]
  have h4 : j * 2 + i < (flat encP (Q ++ [p])).toArray.size := by
    rw [List.size_toArray, flat_len (k := 2) (enc := encP) (fun _ => rfl)]
    have : (j + 1) * 2 ≤ (Q ++ [p]).length * 2 := Nat.mul_le_mul_right 2 (by omega)
    omega
  rw [Array.getElem?_append_left h4, List.getElem?_toArray]
  exact flat_at (k := 2) (enc := encP) (fun _ => rfl) (Q ++ [p]) j i hj hi
theorem wp_append_pairs {w : World} {o : Oper} {a : Act} {K : Act → World → Prop} {Q' : Exit → Act → World → Prop} (s x : Operand) (ho : o.op = .call { callee := .builtin .append, args := #[s, x], argTypes := #[31, 31] })
    (b q g : Nat) (Q : List (Int × Int)) (p : Int × Int) (hQ : PsAt w (some ⟨b, q, none⟩) Q) (hp : PsAt w (some ⟨g, 0, none⟩) [p]) (hlen : Q.length ≤ 100000) (hs : a.eval s = .slice (some ⟨b, q, none⟩) Q.length Q.length) (hx : a.eval x = .slice (some ⟨g, 0, none⟩) 1 1)
    (h : ∀ c w', PsAt w' (some ⟨w.heap.size, 0, none⟩) (Q ++ [p]) → Q.length + 1 ≤ c → Below w.heap.size w w' → K (a.put o.dst (.slice (some ⟨w.heap.size, 0, none⟩) (Q.length + 1) c)) w') : o.wp Try.prog a w K Q' := by
  obtain ⟨c, w', hr, h1, h2, h3⟩ := append_pairs w b q g Q p hQ hp hlen o.type
  unfold Oper.wp execOp
  simp only [ho, resolve, invoke, builtin, Sem.run_bind, Sem.run_pure, Result.andThen_ok, List.map_toArray, List.map_cons, List.map_nil, hs, hx, hr]
  exact h c w' h1 h2 h3
/-- Both make the same of a list that is not long. -/
theorem make_both (n : Int) (P : List (Int × Int)) (hP : P.length ≤ 4096) : ∃ m J k, J.length ≤ 100000 ∧ (∀ b cp w, PsAt w b P → Calls Try.prog 23 #[.int .i64 n, .slice b P.length cp] w (GivesGE w m J k)) ∧ (∀ b cp w, PsAt w b P → Calls Try.prog 24 #[.int .i64 n, .slice b P.length cp] w (GivesGE w m J k)) := by
  by_cases hn : n < 1 ∨ 12 < n
  · refine ⟨0, [], 2, by simp, fun b cp w _ => pmake_bad n hn b cp P w, fun b cp w _ => ?_⟩
    rcases hn with hn | hn
    · exact rmake_n0 n hn b cp P w
    · exact rmake_n1 n hn b cp P w
  · obtain ⟨N, rfl⟩ : ∃ N : Nat, n = N := ⟨n.toNat, by omega⟩
    have hp := fun b cp w hp => pmake_ok N (by omega) (by omega) b cp P hP w hp
    have hr := fun b cp w hp => rmake_ok N (by omega) (by omega) b cp P hP w hp
    by_cases h1 : ∃ j, j < P.length ∧ pErr N P j ≠ 0
    · obtain ⟨j, hj, hk⟩ := h1
      refine ⟨0, [], 2, by simp, fun b cp w h => (hp b cp w h).mono ?_, fun b cp w h => (hr b cp w h).mono ?_⟩ <;>
      · rintro e w' ⟨k, hg, ⟨rfl, -⟩ | ⟨rfl, hz, -⟩ | ⟨rfl, hz, -⟩⟩
        · exact hg
        · exact absurd (hz j hj) hk
        · exact absurd (hz j hj) hk
    · by_cases h2 : ∃ x y, x < N ∧ y < N ∧ 50 < cntT P P.length x y
      · obtain ⟨x, y, hx, hy, hxy⟩ := h2
        refine ⟨0, [], 5, by simp, fun b cp w h => (hp b cp w h).mono ?_, fun b cp w h => (hr b cp w h).mono ?_⟩ <;>
        · rintro e w' ⟨k, hg, ⟨rfl, j, hj, hk⟩ | ⟨rfl, -, -⟩ | ⟨rfl, -, hz⟩⟩
          · exact absurd ⟨j, hj, hk⟩ h1
          · exact hg
          · have := hz x y hx hy; omega
      · refine ⟨N, joinT (cntT P P.length) N N, 0, joinT_small _ _ (by omega), fun b cp w h => (hp b cp w h).mono ?_, fun b cp w h => (hr b cp w h).mono ?_⟩ <;>
        · rintro e w' ⟨k, hg, ⟨rfl, j, hj, hk⟩ | ⟨rfl, -, hz⟩ | ⟨rfl, -, -⟩⟩
          · exact absurd ⟨j, hj, hk⟩ h1
          · exact absurd hz h2
          · exact hg
set_option maxHeartbeats 12800000 in
set_option maxRecDepth 100000 in
theorem makes_long (n : Int) (b : Option Addr) (cp : Nat) (P : List (Int × Int)) (more : Nat) (hP : 60 < P.length) (HA : Awake) (w : World) (hp : PsAt w b P) :
    Calls Try.prog 4 #[.int .i64 n, .slice b P.length cp, .int .u8 (more : Int)] w (GivesB w true) := by
  unfold GivesB
  have HB0 : Hid (Below w.heap.size w w) := Lib.hid (Below.refl _ _)
  have HF : Hid (∀ x, Below w.heap.size w x → PsAt x b P) := Lib.hid fun x hx => hp.keep hx
  have hk0 : Below w.heap.size w w := Below.refl _ _
  have l1 : decide (60 < ((P.length : Nat) : Int)) = true := decide_eq_true (by omega)
  clear hp
  go_enter Try.func4, Try.ntmps4
  go_wp2_with fail
  refine (HA _).mono ?_
  rintro e x1 ⟨rfl, hb1⟩
  have hk1 : Below w.heap.size w x1 := hk0.trans (hb1.mono hk0.size)
  clear hb1 hk0 
  have HEND := Lib.hid (HB0.out.trans (hk1.mono HB0.out.size))
  clear hk1 
  go_wp2
  go_ret
  exact ⟨rfl, HEND.out⟩
set_option maxHeartbeats 12800000 in
set_option maxRecDepth 100000 in
theorem makes_few (n : Int) (b : Option Addr) (cp : Nat) (P : List (Int × Int)) (more : Nat) (h0 : 0 < P.length) (hm : more ≤ 40) (hP : P.length ≤ 60) (m : Int) (J : List E) (k : Nat) (hJl : J.length ≤ 100000) (HA : Awake) (HM1 : Hid (∀ b cp w, PsAt w b (P) → Calls Try.prog 23 #[.int .i64 n, .slice b (P).length cp] w (fun e w' => ∃ a c, e = .returned (.tuple #[.agg #[.int .i64 m, .slice a J.length c], .int .i64 (k : Int)]) ∧ EsAt w' a J ∧ Below w.heap.size w w'))) (HM2 : Hid (∀ b cp w, PsAt w b (P) → Calls Try.prog 24 #[.int .i64 n, .slice b (P).length cp] w (fun e w' => ∃ a c, e = .returned (.tuple #[.agg #[.int .i64 m, .slice a J.length c], .int .i64 (k : Int)]) ∧ EsAt w' a J ∧ Below w.heap.size w w'))) (HSM : ∀ m a1 a2 c1 c2 (M : List E) w, M.length ≤ 100000 → EsAt w a1 M → EsAt w a2 M → Calls Try.prog 25 #[.agg #[.int .i64 m, .slice a1 M.length c1], .agg #[.int .i64 m, .slice a2 M.length c2]] w (fun e w' => e = .returned (.bool true) ∧ Below w.heap.size w w')) (w : World) (hp : PsAt w b P) :
    Calls Try.prog 4 #[.int .i64 n, .slice b P.length cp, .int .u8 (more : Int)] w (GivesB w true) := by
  unfold GivesB
  have HB0 : Hid (Below w.heap.size w w) := Lib.hid (Below.refl _ _)
  have HF : Hid (∀ x, Below w.heap.size w x → PsAt x b P) := Lib.hid fun x hx => hp.keep hx
  have hk0 : Below w.heap.size w w := Below.refl _ _
  have l1 : decide (60 < ((P.length : Nat) : Int)) = false := decide_eq_false (by omega)
  have l2 : decide (0 < ((P.length : Nat) : Int)) = true := decide_eq_true (by omega)
  have l3 : decide (40 < (more : Int)) = false := decide_eq_false (by omega)
  clear hp
  go_enter Try.func4, Try.ntmps4
  go_wp2_with fail
  refine (HM1.out _ _ _ (HF.out w hk0)).mono ?_
  rintro e x1 ⟨a7, c7, rfl, hJ_1, hb1⟩
  have hk1 : Below w.heap.size w x1 := hk0.trans (hb1.mono hk0.size)
  clear hb1 hk0 
  obtain ⟨Y1, hY1⟩ : ∃ Y, Y = x1.alloc (Obj.cells #[.int .i64 m, .slice a7 J.length c7] 24) := ⟨_, rfl⟩
  have hy : Below x1.heap.size x1 Y1 := by rw [hY1]; exact (Below.refl _ _).alloc (Nat.le_refl _) _
  have hz : Below w.heap.size w Y1 := hk1.trans (hy.mono hk1.size)
  have hQ : Blk Y1 x1.heap.size 24 #[.int .i64 m, .slice a7 J.length c7] := by rw [hY1]; exact Blk.new _ _ _
  have HBY1 : Hid (Below w.heap.size w Y1) := Lib.hid (HB0.out.trans (hz.mono HB0.out.size))
  have HFY1 : Hid (∀ x, Below Y1.heap.size Y1 x → x.cell? ⟨x1.heap.size, 0, none⟩ = some (.int .i64 m) ∧ x.cell? ⟨x1.heap.size, 1, none⟩ = some (.slice a7 J.length c7) ∧ PsAt x b P ∧ EsAt x a7 J) := Lib.hid fun x hx => ⟨(hQ.below hx hQ.lt).cell 0, (hQ.below hx hQ.lt).cell 1, (HF.out x (hz.trans (hx.mono hz.size))), (hJ_1.keep hy).keep hx⟩
  clear  hk1 hz hQ hy hJ_1
  have hk2 : Below Y1.heap.size Y1 Y1 := Below.refl _ _
  have g0 : (x1.alloc (Obj.cells #[.int .i64 m, .slice a7 J.length c7] 24)).cell? ⟨x1.heap.size, 0, none⟩ = some (.int .i64 m) := by rw [← hY1]; exact (HFY1.out _ hk2).1
  have g1 : (x1.alloc (Obj.cells #[.int .i64 m, .slice a7 J.length c7] 24)).cell? ⟨x1.heap.size, 1, none⟩ = some (.slice a7 J.length c7) := by rw [← hY1]; exact (HFY1.out _ hk2).2.1
  have HY1 := Lib.hid hY1
  clear hY1
  go_wp2_with fail
  rw [← HY1.out]
  refine (HM2.out _ _ _ (HFY1.out Y1 hk2).2.2.1).mono ?_
  rintro e x3 ⟨a8, c8, rfl, hI_3, hb3⟩
  have hk3 : Below Y1.heap.size Y1 x3 := hk2.trans (hb3.mono hk2.size)
  clear hb3 hk2 g0 g1
  obtain ⟨g0, g1, -⟩ := HFY1.out x3 hk3
  obtain ⟨Y2, hY2⟩ : ∃ Y, Y = x3.alloc (Obj.cells #[.int .i64 m, .slice a8 J.length c8] 24) := ⟨_, rfl⟩
  have hy : Below x3.heap.size x3 Y2 := by rw [hY2]; exact (Below.refl _ _).alloc (Nat.le_refl _) _
  have hz : Below Y1.heap.size Y1 Y2 := hk3.trans (hy.mono hk3.size)
  have hQ : Blk Y2 x3.heap.size 24 #[.int .i64 m, .slice a8 J.length c8] := by rw [hY2]; exact Blk.new _ _ _
  have HBY2 : Hid (Below w.heap.size w Y2) := Lib.hid (HBY1.out.trans (hz.mono HBY1.out.size))
  have HFY2 : Hid (∀ x, Below Y2.heap.size Y2 x → x.cell? ⟨x1.heap.size, 0, none⟩ = some (.int .i64 m) ∧ x.cell? ⟨x1.heap.size, 1, none⟩ = some (.slice a7 J.length c7) ∧ x.cell? ⟨x3.heap.size, 0, none⟩ = some (.int .i64 m) ∧ x.cell? ⟨x3.heap.size, 1, none⟩ = some (.slice a8 J.length c8) ∧ PsAt x b P ∧ EsAt x a7 J ∧ EsAt x a8 J) := Lib.hid fun x hx => ⟨(HFY1.out x (hz.trans (hx.mono hz.size))).1, (HFY1.out x (hz.trans (hx.mono hz.size))).2.1, (hQ.below hx hQ.lt).cell 0, (hQ.below hx hQ.lt).cell 1, (HFY1.out x (hz.trans (hx.mono hz.size))).2.2.1, (HFY1.out x (hz.trans (hx.mono hz.size))).2.2.2, (hI_3.keep hy).keep hx⟩
  clear g0 g1 hk3 hz hQ hy hI_3
  have hk4 : Below Y2.heap.size Y2 Y2 := Below.refl _ _
  have g0 : (x3.alloc (Obj.cells #[.int .i64 m, .slice a8 J.length c8] 24)).cell? ⟨x1.heap.size, 0, none⟩ = some (.int .i64 m) := by rw [← hY2]; exact (HFY2.out _ hk4).1
  have g1 : (x3.alloc (Obj.cells #[.int .i64 m, .slice a8 J.length c8] 24)).cell? ⟨x1.heap.size, 1, none⟩ = some (.slice a7 J.length c7) := by rw [← hY2]; exact (HFY2.out _ hk4).2.1
  have g2 : (x3.alloc (Obj.cells #[.int .i64 m, .slice a8 J.length c8] 24)).cell? ⟨x3.heap.size, 0, none⟩ = some (.int .i64 m) := by rw [← hY2]; exact (HFY2.out _ hk4).2.2.1
  have g3 : (x3.alloc (Obj.cells #[.int .i64 m, .slice a8 J.length c8] 24)).cell? ⟨x3.heap.size, 1, none⟩ = some (.slice a8 J.length c8) := by rw [← hY2]; exact (HFY2.out _ hk4).2.2.2.1
  have HY2 := Lib.hid hY2
  clear hY2
  go_wp2_with fail
  rw [← HY2.out]
  refine (HA _).mono ?_
  rintro e x5 ⟨rfl, hb5⟩
  have hk5 : Below Y2.heap.size Y2 x5 := hk4.trans (hb5.mono hk4.size)
  clear hb5 hk4 g0 g1 g2 g3
  obtain ⟨g0, g1, g2, g3, -⟩ := HFY2.out x5 hk5
  go_wp2_with fail
  refine (HSM m _ _ _ _ J _ hJl (HFY2.out x5 hk5).2.2.2.2.2.1 (HFY2.out x5 hk5).2.2.2.2.2.2).mono ?_
  rintro e x6 ⟨rfl, hb6⟩
  have hk6 : Below Y2.heap.size Y2 x6 := hk5.trans (hb6.mono hk5.size)
  clear hb6 hk5 g0 g1 g2 g3
  obtain ⟨g0, g1, g2, g3, -⟩ := HFY2.out x6 hk6
  have HEND := Lib.hid (HBY2.out.trans (hk6.mono HBY2.out.size))
  clear hk6 g0 g1 g2 g3
  go_wp2
  go_ret
  exact ⟨rfl, HEND.out⟩
set_option maxHeartbeats 12800000 in
set_option maxRecDepth 100000 in
theorem makes_none (n : Int) (b : Option Addr) (cp : Nat) (more : Nat) (m : Int) (J : List E) (k : Nat) (hJl : J.length ≤ 100000) (HA : Awake) (HM1 : Hid (∀ b cp w, PsAt w b ([]) → Calls Try.prog 23 #[.int .i64 n, .slice b 0 cp] w (fun e w' => ∃ a c, e = .returned (.tuple #[.agg #[.int .i64 m, .slice a J.length c], .int .i64 (k : Int)]) ∧ EsAt w' a J ∧ Below w.heap.size w w'))) (HM2 : Hid (∀ b cp w, PsAt w b ([]) → Calls Try.prog 24 #[.int .i64 n, .slice b 0 cp] w (fun e w' => ∃ a c, e = .returned (.tuple #[.agg #[.int .i64 m, .slice a J.length c], .int .i64 (k : Int)]) ∧ EsAt w' a J ∧ Below w.heap.size w w'))) (HSM : ∀ m a1 a2 c1 c2 (M : List E) w, M.length ≤ 100000 → EsAt w a1 M → EsAt w a2 M → Calls Try.prog 25 #[.agg #[.int .i64 m, .slice a1 M.length c1], .agg #[.int .i64 m, .slice a2 M.length c2]] w (fun e w' => e = .returned (.bool true) ∧ Below w.heap.size w w')) (w : World) (hp : PsAt w b []) :
    Calls Try.prog 4 #[.int .i64 n, .slice b 0 cp, .int .u8 (more : Int)] w (GivesB w true) := by
  unfold GivesB
  have HB0 : Hid (Below w.heap.size w w) := Lib.hid (Below.refl _ _)
  have HF : Hid (∀ x, Below w.heap.size w x → PsAt x b []) := Lib.hid fun x hx => hp.keep hx
  have hk0 : Below w.heap.size w w := Below.refl _ _
  clear hp
  go_enter Try.func4, Try.ntmps4
  go_wp2_with fail
  refine (HM1.out _ _ _ (HF.out w hk0)).mono ?_
  rintro e x1 ⟨a7, c7, rfl, hJ_1, hb1⟩
  have hk1 : Below w.heap.size w x1 := hk0.trans (hb1.mono hk0.size)
  clear hb1 hk0 
  obtain ⟨Y1, hY1⟩ : ∃ Y, Y = x1.alloc (Obj.cells #[.int .i64 m, .slice a7 J.length c7] 24) := ⟨_, rfl⟩
  have hy : Below x1.heap.size x1 Y1 := by rw [hY1]; exact (Below.refl _ _).alloc (Nat.le_refl _) _
  have hz : Below w.heap.size w Y1 := hk1.trans (hy.mono hk1.size)
  have hQ : Blk Y1 x1.heap.size 24 #[.int .i64 m, .slice a7 J.length c7] := by rw [hY1]; exact Blk.new _ _ _
  have HBY1 : Hid (Below w.heap.size w Y1) := Lib.hid (HB0.out.trans (hz.mono HB0.out.size))
  have HFY1 : Hid (∀ x, Below Y1.heap.size Y1 x → x.cell? ⟨x1.heap.size, 0, none⟩ = some (.int .i64 m) ∧ x.cell? ⟨x1.heap.size, 1, none⟩ = some (.slice a7 J.length c7) ∧ PsAt x b [] ∧ EsAt x a7 J) := Lib.hid fun x hx => ⟨(hQ.below hx hQ.lt).cell 0, (hQ.below hx hQ.lt).cell 1, (HF.out x (hz.trans (hx.mono hz.size))), (hJ_1.keep hy).keep hx⟩
  clear  hk1 hz hQ hy hJ_1
  have hk2 : Below Y1.heap.size Y1 Y1 := Below.refl _ _
  have g0 : (x1.alloc (Obj.cells #[.int .i64 m, .slice a7 J.length c7] 24)).cell? ⟨x1.heap.size, 0, none⟩ = some (.int .i64 m) := by rw [← hY1]; exact (HFY1.out _ hk2).1
  have g1 : (x1.alloc (Obj.cells #[.int .i64 m, .slice a7 J.length c7] 24)).cell? ⟨x1.heap.size, 1, none⟩ = some (.slice a7 J.length c7) := by rw [← hY1]; exact (HFY1.out _ hk2).2.1
  have HY1 := Lib.hid hY1
  clear hY1
  go_wp2_with fail
  rw [← HY1.out]
  refine (HM2.out _ _ _ (HFY1.out Y1 hk2).2.2.1).mono ?_
  rintro e x3 ⟨a8, c8, rfl, hI_3, hb3⟩
  have hk3 : Below Y1.heap.size Y1 x3 := hk2.trans (hb3.mono hk2.size)
  clear hb3 hk2 g0 g1
  obtain ⟨g0, g1, -⟩ := HFY1.out x3 hk3
  obtain ⟨Y2, hY2⟩ : ∃ Y, Y = x3.alloc (Obj.cells #[.int .i64 m, .slice a8 J.length c8] 24) := ⟨_, rfl⟩
  have hy : Below x3.heap.size x3 Y2 := by rw [hY2]; exact (Below.refl _ _).alloc (Nat.le_refl _) _
  have hz : Below Y1.heap.size Y1 Y2 := hk3.trans (hy.mono hk3.size)
  have hQ : Blk Y2 x3.heap.size 24 #[.int .i64 m, .slice a8 J.length c8] := by rw [hY2]; exact Blk.new _ _ _
  have HBY2 : Hid (Below w.heap.size w Y2) := Lib.hid (HBY1.out.trans (hz.mono HBY1.out.size))
  have HFY2 : Hid (∀ x, Below Y2.heap.size Y2 x → x.cell? ⟨x1.heap.size, 0, none⟩ = some (.int .i64 m) ∧ x.cell? ⟨x1.heap.size, 1, none⟩ = some (.slice a7 J.length c7) ∧ x.cell? ⟨x3.heap.size, 0, none⟩ = some (.int .i64 m) ∧ x.cell? ⟨x3.heap.size, 1, none⟩ = some (.slice a8 J.length c8) ∧ PsAt x b [] ∧ EsAt x a7 J ∧ EsAt x a8 J) := Lib.hid fun x hx => ⟨(HFY1.out x (hz.trans (hx.mono hz.size))).1, (HFY1.out x (hz.trans (hx.mono hz.size))).2.1, (hQ.below hx hQ.lt).cell 0, (hQ.below hx hQ.lt).cell 1, (HFY1.out x (hz.trans (hx.mono hz.size))).2.2.1, (HFY1.out x (hz.trans (hx.mono hz.size))).2.2.2, (hI_3.keep hy).keep hx⟩
  clear g0 g1 hk3 hz hQ hy hI_3
  have hk4 : Below Y2.heap.size Y2 Y2 := Below.refl _ _
  have g0 : (x3.alloc (Obj.cells #[.int .i64 m, .slice a8 J.length c8] 24)).cell? ⟨x1.heap.size, 0, none⟩ = some (.int .i64 m) := by rw [← hY2]; exact (HFY2.out _ hk4).1
  have g1 : (x3.alloc (Obj.cells #[.int .i64 m, .slice a8 J.length c8] 24)).cell? ⟨x1.heap.size, 1, none⟩ = some (.slice a7 J.length c7) := by rw [← hY2]; exact (HFY2.out _ hk4).2.1
  have g2 : (x3.alloc (Obj.cells #[.int .i64 m, .slice a8 J.length c8] 24)).cell? ⟨x3.heap.size, 0, none⟩ = some (.int .i64 m) := by rw [← hY2]; exact (HFY2.out _ hk4).2.2.1
  have g3 : (x3.alloc (Obj.cells #[.int .i64 m, .slice a8 J.length c8] 24)).cell? ⟨x3.heap.size, 1, none⟩ = some (.slice a8 J.length c8) := by rw [← hY2]; exact (HFY2.out _ hk4).2.2.2.1
  have HY2 := Lib.hid hY2
  clear hY2
  go_wp2_with fail
  rw [← HY2.out]
  refine (HA _).mono ?_
  rintro e x5 ⟨rfl, hb5⟩
  have hk5 : Below Y2.heap.size Y2 x5 := hk4.trans (hb5.mono hk4.size)
  clear hb5 hk4 g0 g1 g2 g3
  obtain ⟨g0, g1, g2, g3, -⟩ := HFY2.out x5 hk5
  go_wp2_with fail
  refine (HSM m _ _ _ _ J _ hJl (HFY2.out x5 hk5).2.2.2.2.2.1 (HFY2.out x5 hk5).2.2.2.2.2.2).mono ?_
  rintro e x6 ⟨rfl, hb6⟩
  have hk6 : Below Y2.heap.size Y2 x6 := hk5.trans (hb6.mono hk5.size)
  clear hb6 hk5 g0 g1 g2 g3
  obtain ⟨g0, g1, g2, g3, -⟩ := HFY2.out x6 hk6
  have HEND := Lib.hid (HBY2.out.trans (hk6.mono HBY2.out.size))
  clear hk6 g0 g1 g2 g3
  go_wp2
  go_ret
  exact ⟨rfl, HEND.out⟩
set_option maxHeartbeats 12800000 in
set_option maxRecDepth 100000 in
theorem makes_more (n : Int) (b : Option Addr) (cp : Nat) (P : List (Int × Int)) (more : Nat) (h0 : 0 < P.length) (hm : 40 < more) (hm8 : more ≤ 255) (hcp : P.length ≤ cp) (hP : P.length ≤ 60) (m : Int) (J : List E) (k : Nat) (hJl : J.length ≤ 100000) (HA : Awake) (HM1 : Hid (∀ b cp w, PsAt w b (P ++ List.replicate more (pAt P 0)) → Calls Try.prog 23 #[.int .i64 n, .slice b (P ++ List.replicate more (pAt P 0)).length cp] w (fun e w' => ∃ a c, e = .returned (.tuple #[.agg #[.int .i64 m, .slice a J.length c], .int .i64 (k : Int)]) ∧ EsAt w' a J ∧ Below w.heap.size w w'))) (HM2 : Hid (∀ b cp w, PsAt w b (P ++ List.replicate more (pAt P 0)) → Calls Try.prog 24 #[.int .i64 n, .slice b (P ++ List.replicate more (pAt P 0)).length cp] w (fun e w' => ∃ a c, e = .returned (.tuple #[.agg #[.int .i64 m, .slice a J.length c], .int .i64 (k : Int)]) ∧ EsAt w' a J ∧ Below w.heap.size w w'))) (HSM : ∀ m a1 a2 c1 c2 (M : List E) w, M.length ≤ 100000 → EsAt w a1 M → EsAt w a2 M → Calls Try.prog 25 #[.agg #[.int .i64 m, .slice a1 M.length c1], .agg #[.int .i64 m, .slice a2 M.length c2]] w (fun e w' => e = .returned (.bool true) ∧ Below w.heap.size w w')) (w : World) (hp : PsAt w b P) :
    Calls Try.prog 4 #[.int .i64 n, .slice b P.length cp, .int .u8 (more : Int)] w (GivesB w true) := by
  unfold GivesB
  have l1 : decide (60 < ((P.length : Nat) : Int)) = false := decide_eq_false (by omega)
  have l2 : decide (0 < ((P.length : Nat) : Int)) = true := decide_eq_true (by omega)
  have l3 : decide (40 < (more : Int)) = true := decide_eq_true (by omega)
  obtain ⟨p0, hp0⟩ : ∃ p0, p0 = pAt P 0 := ⟨_, rfl⟩
  rw [← hp0] at HM1 HM2
  have HR0 : Hid (P ++ List.replicate 0 p0 = P) := Lib.hid (by simp)
  have HRS : Hid (∀ i, P ++ List.replicate (i + 1) p0 = (P ++ List.replicate i p0) ++ [p0]) := Lib.hid fun i => by rw [List.replicate_succ', List.append_assoc]
  have HRL : Hid (∀ i, (P ++ List.replicate i p0).length = P.length + i) := Lib.hid fun i => by simp
  have HRA : Hid (∀ i, pAt (P ++ List.replicate i p0) 0 = p0) := Lib.hid fun i => by rw [hp0]; unfold pAt; rw [List.getD_eq_getElem?_getD, List.getD_eq_getElem?_getD, List.getElem?_append_left h0]
  have HP0 := Lib.hid hp
  clear hp hp0
  go_enter Try.func4, Try.ntmps4
  go_wp2
  go_loopw [1, 23] (fun s x wr => ∃ (i : Nat) (b1 : Option Addr) (c1 : Nat), i ≤ more ∧ x = .int .u8 i ∧ s = .slice b1 (P ++ List.replicate i p0).length c1 ∧ (P ++ List.replicate i p0).length ≤ c1 ∧ PsAt wr b1 (P ++ List.replicate i p0) ∧ Below w.heap.size w wr) (fun _ x _ => more - (intOf x).toNat)
  case atStart => exact ⟨0, b, cp, by omega, rfl, by rw [HR0.out], by rw [HR0.out]; exact hcp, by rw [HR0.out]; exact HP0.out, Below.refl _ _⟩
  case round =>
    obtain ⟨i, b1, c1, hi, rfl, rfl, hc1, hq, hb⟩ := hrel
    by_cases hlt : i < more
    · have i1 : (i : Int) < (more : Int) := by omega
      have hQL := HRL.out i
      have hQA := HRA.out i
      have hQS := HRS.out i
      generalize P ++ List.replicate i p0 = Q at *
      obtain ⟨b2, o2, rfl, q1, x1, x2⟩ := hq.two 0 (by omega)
      rw [hQA] at x1 x2
      have HQS := Lib.hid hQS
      have HQ := Lib.hid hq
      have HB := Lib.hid hb
      have j1 : (Q.length : Int) ≤ (c1 : Int) := by omega
      have j2 : (0 : Int) < (Q.length : Int) := by omega
      have j3 : ¬ Q = [] := by intro e; rw [e] at j2; exact absurd j2 (by decide)
      have HQL : Hid (Q.length ≤ 100000) := Lib.hid (by omega)
      obtain ⟨pa, pb⟩ := p0
      simp only [Nat.zero_mul, Nat.add_zero] at x1 x2
      have HS : Hid (∀ u, Below wr.heap.size wr u → u.cell? ⟨b2, o2, none⟩ = some (.int .i64 pa) ∧ u.cell? ⟨b2, o2 + 1, none⟩ = some (.int .i64 pb)) := Lib.hid fun u hu => ⟨(hu.cell (p := ⟨b2, o2, none⟩) q1).trans x1, (hu.cell (p := ⟨b2, o2 + 1, none⟩) q1).trans x2⟩
      have hk2 : Below wr.heap.size wr wr.drew := (Below.refl _ _).drew
      clear hQA hQS hq hb x1 x2 hQL
      go_wp2
      refine wp_region_late (S := fun u => Below wr.heap.size wr u) (X := [11]) (by kernel_rfl) ?_
      refine wpAnyL_pureD (i := 0) 25 (.slice (some ⟨b2, o2, none⟩) Q.length c1) rfl rfl (by kernel_rfl) (by kernel_rfl) (by kernel_rfl) (fun _ _ _ h => h) (Or.inl ⟨by rfl, fun u _ => ?_⟩) ?_
      · go_simp
      try simp only [Act.put, List.setIfInBounds_toArray, List.set_cons_zero, List.set_cons_succ]
      refine wpAnyL_pureD (i := 1) 26 (.slice (some ⟨b2, o2, none⟩) Q.length c1) rfl rfl (by kernel_rfl) (by kernel_rfl) (by kernel_rfl) (fun _ _ _ h => h) (Or.inl ⟨by rfl, fun u _ => ?_⟩) ?_
      · go_simp
      try simp only [Act.put, List.setIfInBounds_toArray, List.set_cons_zero, List.set_cons_succ]
      refine wpAnyL_pureD (i := 2) 27 (.int .i64 (Q.length : Int)) rfl rfl (by kernel_rfl) (by kernel_rfl) (by kernel_rfl) (fun _ _ _ h => h) (Or.inl ⟨by rfl, fun u _ => ?_⟩) ?_
      · go_simp
      try simp only [Act.put, List.setIfInBounds_toArray, List.set_cons_zero, List.set_cons_succ]
      refine wpAnyL_pureD (i := 3) 28 (.slice (some ⟨b2, o2, none⟩) Q.length c1) rfl rfl (by kernel_rfl) (by kernel_rfl) (by kernel_rfl) (fun _ _ _ h => h) (Or.inl ⟨by rfl, fun u _ => ?_⟩) ?_
      · go_simp
      try simp only [Act.put, List.setIfInBounds_toArray, List.set_cons_zero, List.set_cons_succ]
      refine wpAnyL_pureD (i := 4) 29 (.int .i64 (Q.length : Int)) rfl rfl (by kernel_rfl) (by kernel_rfl) (by kernel_rfl) (fun _ _ _ h => h) (Or.inl ⟨by rfl, fun u _ => ?_⟩) ?_
      · go_simp
      try simp only [Act.put, List.setIfInBounds_toArray, List.set_cons_zero, List.set_cons_succ]
      refine wpAnyL_pureD (i := 5) 30 (.slice (some ⟨b2, o2, none⟩) Q.length Q.length) rfl rfl (by kernel_rfl) (by kernel_rfl) (by kernel_rfl) (fun _ _ _ h => h) (Or.inl ⟨by rfl, fun u _ => ?_⟩) ?_
      · go_simp
      try simp only [Act.put, List.setIfInBounds_toArray, List.set_cons_zero, List.set_cons_succ]
      refine wpAnyL_pureD (i := 6) 31 (.slice (some ⟨b2, o2, none⟩) Q.length c1) rfl rfl (by kernel_rfl) (by kernel_rfl) (by kernel_rfl) (fun _ _ _ h => h) (Or.inl ⟨by rfl, fun u _ => ?_⟩) ?_
      · go_simp
      try simp only [Act.put, List.setIfInBounds_toArray, List.set_cons_zero, List.set_cons_succ]
      refine wpAnyL_pureD (i := 7) 32 (.pointer (some ⟨b2, o2, none⟩)) rfl rfl (by kernel_rfl) (by kernel_rfl) (by kernel_rfl) (fun _ _ _ h => h) (Or.inl ⟨by rfl, fun u _ => ?_⟩) ?_
      · go_simp
      try simp only [Act.put, List.setIfInBounds_toArray, List.set_cons_zero, List.set_cons_succ]
      refine wpAnyL_takeD (i := 8) 33 (.agg #[.int .i64 pa, .int .i64 pb]) rfl rfl (by kernel_rfl) (by kernel_rfl) (by kernel_rfl) (by kernel_rfl) (by kernel_rfl) (fun _ _ _ h => h) hk2 (Or.inl ⟨by rfl, fun u hu => ?_⟩) ?_
      · obtain ⟨t0, t1⟩ := HS.out u hu
        go_simp
      try simp only [Act.put, List.setIfInBounds_toArray, List.set_cons_zero, List.set_cons_succ]
      refine wpAnyL_one (i := 9) (by kernel_rfl) rfl (fun K hK => ?_)
      go_simp
      refine hK.out _ _ (fun _ _ => ((Below.refl _ wr).alloc (Nat.le_refl _) _).drew) ?_
      clear hK K
      try simp only [Act.put, List.setIfInBounds_toArray, List.set_cons_zero, List.set_cons_succ]
      refine wpAnyL_one (i := 10) (by kernel_rfl) rfl (fun K hK => ?_)
      rw [if_pos (by kernel_rfl)]
      have hPn : PsAt (wr.alloc (Obj.cells #[.int .i64 pa, .int .i64 pb] 37)) (some ⟨wr.heap.size, 0, none⟩) [(pa, pb)] := RowAt.of_blk (k := 2) (enc := encP) (fun _ => rfl) (Blk.new _ _ _) rfl
      have hPd : PsAt (wr.drew.alloc (Obj.cells #[.int .i64 pa, .int .i64 pb] 37)) (some ⟨wr.heap.size, 0, none⟩) [(pa, pb)] := hPn.keep ((Below.refl _ _).drew)
      have hBd : Below wr.heap.size wr (wr.drew.alloc (Obj.cells #[.int .i64 pa, .int .i64 pb] 37)) := ((Below.refl _ wr).alloc (Nat.le_refl _) _).drew
      refine wp_append_pairs _ _ (by rfl) b2 o2 wr.heap.size Q (pa, pb) (HQ.out.keep hBd) hPd HQL.out (by rfl) (by rfl) ?_
      intro c3 w3 h31 h32 h33
      have hW3 : Below wr.heap.size wr w3 := hBd.trans (h33.mono hBd.size)
      have HB3 := Lib.hid (HB.out.trans (hW3.mono HB.out.size))
      have h31b : PsAt w3 (some ⟨wr.heap.size + 1, 0, none⟩) (Q ++ [(pa, pb)]) := by
        have es : (wr.alloc (Obj.cells #[.int .i64 pa, .int .i64 pb] 37)).drew.heap.size = wr.heap.size + 1 := World.size_alloc ..
        rw [← es]; exact h31
      have H31 := Lib.hid h31b
      have H32 := Lib.hid h32
      clear h31 h31b h32 h33 hPn hPd hBd
      refine hK.out _ _ (fun _ _ => hW3) ?_
      clear hK K hW3
      try simp only [Act.put, List.setIfInBounds_toArray]
      refine wpAnyL_one (i := 11) (by kernel_rfl) rfl (fun K hK => ?_)
      go_simp
      refine hK.out _ _ (fun h => absurd (by decide) h) ?_
      clear hK K
      refine wpAnyL_done (by kernel_rfl) ?_ _
      try simp only [Act.put, List.setIfInBounds_toArray, List.set_cons_zero, List.set_cons_succ]
      have c8 : IntKind.u8.wrap ((i : Int) + 1) = i + 1 := IntWalk.u8_in _ (by omega)
      go_wp2
      go_roundw
      case rel => exact ⟨i + 1, _, c3, by omega, by go_num, by rw [HQS.out, List.length_append]; rfl, by rw [HQS.out, List.length_append]; exact H32.out, by rw [HQS.out]; exact H31.out, HB3.out⟩
      case measure => simp [intOf]; omega
    · obtain rfl : i = more := by omega
      generalize P ++ List.replicate i p0 = Q at *
      have hq0 := hq
      have hb0 := hb
      clear hq hb
      have HB0 : Hid (Below w.heap.size w wr) := Lib.hid hb0
      have HF : Hid (∀ x, Below wr.heap.size wr x → PsAt x b1 Q) := Lib.hid fun x hx => hq0.keep hx
      have hk0 : Below wr.heap.size wr wr := Below.refl _ _
      clear hq0 hb0
      go_wp2_with fail
      refine (HM1.out _ _ _ (HF.out wr hk0)).mono ?_
      rintro e x1 ⟨a7, c7, rfl, hJ_1, hb1⟩
      have hk1 : Below wr.heap.size wr x1 := hk0.trans (hb1.mono hk0.size)
      clear hb1 hk0 
      obtain ⟨Y1, hY1⟩ : ∃ Y, Y = x1.alloc (Obj.cells #[.int .i64 m, .slice a7 J.length c7] 24) := ⟨_, rfl⟩
      have hy : Below x1.heap.size x1 Y1 := by rw [hY1]; exact (Below.refl _ _).alloc (Nat.le_refl _) _
      have hz : Below wr.heap.size wr Y1 := hk1.trans (hy.mono hk1.size)
      have hQ : Blk Y1 x1.heap.size 24 #[.int .i64 m, .slice a7 J.length c7] := by rw [hY1]; exact Blk.new _ _ _
      have HBY1 : Hid (Below w.heap.size w Y1) := Lib.hid (HB0.out.trans (hz.mono HB0.out.size))
      have HFY1 : Hid (∀ x, Below Y1.heap.size Y1 x → x.cell? ⟨x1.heap.size, 0, none⟩ = some (.int .i64 m) ∧ x.cell? ⟨x1.heap.size, 1, none⟩ = some (.slice a7 J.length c7) ∧ PsAt x b1 Q ∧ EsAt x a7 J) := Lib.hid fun x hx => ⟨(hQ.below hx hQ.lt).cell 0, (hQ.below hx hQ.lt).cell 1, (HF.out x (hz.trans (hx.mono hz.size))), (hJ_1.keep hy).keep hx⟩
      clear  hk1 hz hQ hy hJ_1
      have hk2 : Below Y1.heap.size Y1 Y1 := Below.refl _ _
      have g0 : (x1.alloc (Obj.cells #[.int .i64 m, .slice a7 J.length c7] 24)).cell? ⟨x1.heap.size, 0, none⟩ = some (.int .i64 m) := by rw [← hY1]; exact (HFY1.out _ hk2).1
      have g1 : (x1.alloc (Obj.cells #[.int .i64 m, .slice a7 J.length c7] 24)).cell? ⟨x1.heap.size, 1, none⟩ = some (.slice a7 J.length c7) := by rw [← hY1]; exact (HFY1.out _ hk2).2.1
      have HY1 := Lib.hid hY1
      clear hY1
      go_wp2_with fail
      rw [← HY1.out]
      refine (HM2.out _ _ _ (HFY1.out Y1 hk2).2.2.1).mono ?_
      rintro e x3 ⟨a8, c8, rfl, hI_3, hb3⟩
      have hk3 : Below Y1.heap.size Y1 x3 := hk2.trans (hb3.mono hk2.size)
      clear hb3 hk2 g0 g1
      obtain ⟨g0, g1, -⟩ := HFY1.out x3 hk3
      obtain ⟨Y2, hY2⟩ : ∃ Y, Y = x3.alloc (Obj.cells #[.int .i64 m, .slice a8 J.length c8] 24) := ⟨_, rfl⟩
      have hy : Below x3.heap.size x3 Y2 := by rw [hY2]; exact (Below.refl _ _).alloc (Nat.le_refl _) _
      have hz : Below Y1.heap.size Y1 Y2 := hk3.trans (hy.mono hk3.size)
      have hQ : Blk Y2 x3.heap.size 24 #[.int .i64 m, .slice a8 J.length c8] := by rw [hY2]; exact Blk.new _ _ _
      have HBY2 : Hid (Below w.heap.size w Y2) := Lib.hid (HBY1.out.trans (hz.mono HBY1.out.size))
      have HFY2 : Hid (∀ x, Below Y2.heap.size Y2 x → x.cell? ⟨x1.heap.size, 0, none⟩ = some (.int .i64 m) ∧ x.cell? ⟨x1.heap.size, 1, none⟩ = some (.slice a7 J.length c7) ∧ x.cell? ⟨x3.heap.size, 0, none⟩ = some (.int .i64 m) ∧ x.cell? ⟨x3.heap.size, 1, none⟩ = some (.slice a8 J.length c8) ∧ PsAt x b1 Q ∧ EsAt x a7 J ∧ EsAt x a8 J) := Lib.hid fun x hx => ⟨(HFY1.out x (hz.trans (hx.mono hz.size))).1, (HFY1.out x (hz.trans (hx.mono hz.size))).2.1, (hQ.below hx hQ.lt).cell 0, (hQ.below hx hQ.lt).cell 1, (HFY1.out x (hz.trans (hx.mono hz.size))).2.2.1, (HFY1.out x (hz.trans (hx.mono hz.size))).2.2.2, (hI_3.keep hy).keep hx⟩
      clear g0 g1 hk3 hz hQ hy hI_3
      have hk4 : Below Y2.heap.size Y2 Y2 := Below.refl _ _
      have g0 : (x3.alloc (Obj.cells #[.int .i64 m, .slice a8 J.length c8] 24)).cell? ⟨x1.heap.size, 0, none⟩ = some (.int .i64 m) := by rw [← hY2]; exact (HFY2.out _ hk4).1
      have g1 : (x3.alloc (Obj.cells #[.int .i64 m, .slice a8 J.length c8] 24)).cell? ⟨x1.heap.size, 1, none⟩ = some (.slice a7 J.length c7) := by rw [← hY2]; exact (HFY2.out _ hk4).2.1
      have g2 : (x3.alloc (Obj.cells #[.int .i64 m, .slice a8 J.length c8] 24)).cell? ⟨x3.heap.size, 0, none⟩ = some (.int .i64 m) := by rw [← hY2]; exact (HFY2.out _ hk4).2.2.1
      have g3 : (x3.alloc (Obj.cells #[.int .i64 m, .slice a8 J.length c8] 24)).cell? ⟨x3.heap.size, 1, none⟩ = some (.slice a8 J.length c8) := by rw [← hY2]; exact (HFY2.out _ hk4).2.2.2.1
      have HY2 := Lib.hid hY2
      clear hY2
      go_wp2_with fail
      rw [← HY2.out]
      refine (HA _).mono ?_
      rintro e x5 ⟨rfl, hb5⟩
      have hk5 : Below Y2.heap.size Y2 x5 := hk4.trans (hb5.mono hk4.size)
      clear hb5 hk4 g0 g1 g2 g3
      obtain ⟨g0, g1, g2, g3, -⟩ := HFY2.out x5 hk5
      go_wp2_with fail
      refine (HSM m _ _ _ _ J _ hJl (HFY2.out x5 hk5).2.2.2.2.2.1 (HFY2.out x5 hk5).2.2.2.2.2.2).mono ?_
      rintro e x6 ⟨rfl, hb6⟩
      have hk6 : Below Y2.heap.size Y2 x6 := hk5.trans (hb6.mono hk5.size)
      clear hb6 hk5 g0 g1 g2 g3
      obtain ⟨g0, g1, g2, g3, -⟩ := HFY2.out x6 hk6
      have HEND := Lib.hid (HBY2.out.trans (hk6.mono HBY2.out.size))
      clear hk6 g0 g1 g2 g3
      go_wp2
      go_ret
      exact ⟨rfl, HEND.out⟩
theorem weakG {f : Nat} {args : Array Value} {w : World} {m : Int} {J : List E} {k : Nat} (h : Calls Try.prog f args w (GivesGE w m J k)) : Calls Try.prog f args w (fun e w' => ∃ a c, e = .returned (.tuple #[.agg #[.int .i64 m, .slice a J.length c], .int .i64 (k : Int)]) ∧ EsAt w' a J ∧ Below w.heap.size w w') :=
  h.mono fun _ _ ⟨a, c, e1, e2, _, e4⟩ => ⟨a, c, e1, e2, e4⟩
theorem makes_any (n : Int) (b : Option Addr) (cp : Nat) (P : List (Int × Int)) (more : Int) (hm0 : 0 ≤ more) (hm1 : more ≤ 255) (hcp : P.length ≤ cp) (w : World) (hp : PsAt w b P) :
    Calls Try.prog 4 #[.int .i64 n, .slice b P.length cp, .int .u8 more] w (GivesB w true) := by
  obtain ⟨t, rfl⟩ : ∃ t : Nat, more = t := ⟨more.toNat, by omega⟩
  have hSM : ∀ m a1 a2 c1 c2 (M : List E) w, M.length ≤ 100000 → EsAt w a1 M → EsAt w a2 M → Calls Try.prog 25 #[.agg #[.int .i64 m, .slice a1 M.length c1], .agg #[.int .i64 m, .slice a2 M.length c2]] w (fun e w' => e = .returned (.bool true) ∧ Below w.heap.size w w') := fun m a1 a2 c1 c2 M w hM h1 h2 => same_any m a1 a2 c1 c2 M w hM h1 h2
  by_cases hl : 60 < P.length
  · exact makes_long n b cp P t hl awake_any w hp
  · by_cases h0 : P = []
    · subst h0
      obtain ⟨m, J, k, hJ, h1, h2⟩ := make_both n [] (by simp)
      exact makes_none n b cp t m J k hJ awake_any (Lib.hid fun b cp w h => weakG (h1 b cp w h)) (Lib.hid fun b cp w h => weakG (h2 b cp w h)) hSM w hp
    · have hlp : 0 < P.length := List.length_pos_iff.2 h0
      by_cases ht : t ≤ 40
      · obtain ⟨m, J, k, hJ, h1, h2⟩ := make_both n P (by omega)
        exact makes_few n b cp P t hlp ht (by omega) m J k hJ awake_any (Lib.hid fun b cp w h => weakG (h1 b cp w h)) (Lib.hid fun b cp w h => weakG (h2 b cp w h)) hSM w hp
      · obtain ⟨m, J, k, hJ, h1, h2⟩ := make_both n (P ++ List.replicate t (pAt P 0)) (by simp; omega)
        exact makes_more n b cp P t hlp (by omega) (by omega) hcp (by omega) m J k hJ awake_any (Lib.hid fun b cp w h => weakG (h1 b cp w h)) (Lib.hid fun b cp w h => weakG (h2 b cp w h)) hSM w hp
end Go.Proofs.Ytjaafneoinidkaa
