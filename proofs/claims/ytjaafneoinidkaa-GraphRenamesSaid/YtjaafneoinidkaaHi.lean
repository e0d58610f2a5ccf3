/- The graph of a collection. -/
import Derived.Test.YtjaafneoinidkaaHg
import Derived.Test.YtjaafneoinidkaaHh
namespace Go.Proofs.Ytjaafneoinidkaa
open Go.RowKit Go.Shelf Go.Proofs.Gr Go.Maps
attribute [local go_sem] Oper.semAt_some

/-- What has been taken out of a collection. -/
structure Tk (F : Int × Int → Int) (left : Lit → Bool) (cnt m : Nat) (P : List E) : Prop where
  mem : ∀ x, x ∈ P ↔ (W64 x.a ∧ W64 x.b) ∧ (0 < x.m ∧ x.m = F (x.a, x.b)) ∧ left (kl (x.a, x.b)) = false
  ap : P.Pairwise Apart
  len : P.length + cnt ≤ m
theorem Tk.start {D : DataW Unit} {F : Int × Int → Int} (h : Says D F) {m : Nat} (hm : Maps.size D ≤ m) : Tk F (Maps.has D) (Maps.size D) m [] := by
  refine ⟨fun x => ⟨fun hx => by simp at hx, fun hx => ?_⟩, List.Pairwise.nil, by simpa using hm⟩
  obtain ⟨⟨h1, h2⟩, ⟨h3, h4⟩, h5⟩ := hx
  rw [(h (x.a, x.b) h1 h2).1, decide_eq_false_iff_not] at h5
  omega
theorem apart_of {x y : E} (h : (x.a, x.b) ≠ (y.a, y.b)) : Apart x y := by
  unfold Apart
  simp only [ltE, Bool.or_eq_true, Bool.and_eq_true, decide_eq_true_eq]
  by_cases e : x.a = y.a
  · have : x.b ≠ y.b := fun e2 => h (by rw [e, e2])
    omega
  · omega
theorem Tk.step {D : DataW Unit} {F : Int × Int → Int} (h : Says D F) {left : Lit → Bool} {cnt cnt' m : Nat} {P : List E} (hT : Tk F left cnt m P) {p : Int × Int} {c : Int} (w1 : W64 p.1) (w2 : W64 p.2)
    (hl : left (kl p) = true) (hat : ∀ zd, D.atKey (kl p) zd = .lit (.int .i64 c)) (hc : cnt' < cnt) : Tk F (fun z => left z && !z.sameKey (kl p)) cnt' m (P ++ [⟨p.1, p.2, c⟩]) := by
  have hF := (h p w1 w2).2
  rw [hat] at hF
  have hcF : c = F p := by injection hF with hF; injection hF
  have hpos : 0 < F p := by
    have := (h p w1 w2).1
    rw [has_true_of_atKey hat] at this
    exact of_decide_eq_true this.symm
  refine ⟨fun x => ?_, ?_, by have := hT.len; rw [List.length_append, List.length_singleton]; omega⟩
  · rw [List.mem_append, hT.mem, List.mem_singleton]
    have hk : W64 x.a → W64 x.b → ((kl (x.a, x.b)).sameKey (kl p) = true ↔ (x.a, x.b) = p) := fun h1 h2 => ⟨fun hs => kl_inj h1 h2 w1 w2 (WideAt.sameKey_eq hs), fun e => by rw [e]; exact WideAt.sameKey_self (kl_key p)⟩
    constructor
    · rintro (⟨h1, h2, h3⟩ | rfl)
      · exact ⟨h1, h2, by simp [h3]⟩
      · exact ⟨⟨w1, w2⟩, ⟨by show 0 < c; omega, hcF⟩, by simp [WideAt.sameKey_self (kl_key p)]⟩
    · rintro ⟨h1, h2, h3⟩
      by_cases e : (x.a, x.b) = p
      · refine .inr ?_
        obtain ⟨xa, xb, xm⟩ := x
        subst e
        have : xm = c := by rw [hcF]; exact h2.2
        rw [this]
      · refine .inl ⟨h1, h2, ?_⟩
        have h4 : (kl (x.a, x.b)).sameKey (kl p) = false := by
          cases h5 : (kl (x.a, x.b)).sameKey (kl p) with
          | false => rfl
          | true => exact absurd ((hk h1.1 h1.2).1 h5) e
        simpa [h4] using h3
  · rw [List.pairwise_append]
    refine ⟨hT.ap, List.pairwise_singleton _ _, fun x hx y hy => ?_⟩
    obtain rfl : y = ⟨p.1, p.2, c⟩ := by simpa using hy
    refine apart_of fun e => ?_
    have h6 := ((hT.mem x).1 hx).2.2
    have e' : (x.a, x.b) = p := e
    rw [e', hl] at h6
    cases h6
theorem Tk.done {F : Int × Int → Int} {left : Lit → Bool} {cnt m : Nat} {P : List E} (hT : Tk F left cnt m P) (hl : ∀ k, left k = false) (x : E) : x ∈ P ↔ (W64 x.a ∧ W64 x.b) ∧ 0 < x.m ∧ x.m = F (x.a, x.b) := by
  rw [hT.mem, hl]
  exact ⟨fun h => ⟨h.1, h.2.1⟩, fun h => ⟨h.1, h.2, rfl⟩⟩
theorem size_le {P : Program} {k : TypeId} {R : Value → Option (DataW Unit × List MemPlace)} {w : World} {b n : Nat} {D : DataW Unit} (h : w.ownsMap P k R b n D) : Maps.size D ≤ n := by
  obtain ⟨es, clock, _, _, hs, rfl⟩ := h
  simp [Maps.size, length_sorted]; exact hs
theorem ne_EG : (71 : TypeId) ≠ 24 := by decide
/-- A block that is no row of cells is not the one that a list owns. -/
theorem own_obj_ne {w : World} {g : Nat} {o : Obj} {base : Nat} {e : TypeId} {size n : Nat} {v : Value} {xs : List Value} (h : w.ownsRow base e size v n xs) (hg : w.heap[g]? = some o) (ho : ∀ cs t fr, o ≠ .cells cs t fr) : some g ≠ v.ownBlock := by
  rcases h.2 with ⟨rfl, _⟩ | ⟨g', cap, cur, rfl, _, hh, _⟩
  · simp [Value.ownBlock]
  · intro he
    have h1 : g = g' := by simpa [Value.ownBlock] using he
    subst h1
    rw [hg] at hh
    injection hh with hh
    exact ho _ _ _ hh
theorem own_map_ne {w : World} {P : Program} {k : TypeId} {R : Value → Option (DataW Unit × List MemPlace)} {b m : Nat} {D : DataW Unit} (hm : w.ownsMap P k R b m D) {base : Nat} {e : TypeId} {size n : Nat} {v : Value} {xs : List Value} (h : w.ownsRow base e size v n xs) : some b ≠ v.ownBlock := by
  obtain ⟨es, clock, hb, _⟩ := hm
  exact own_obj_ne h hb fun _ _ _ => by intro h; cases h
theorem own_iter_ne {w : World} {P : Program} {k : TypeId} {R : Value → Option (DataW Unit × List MemPlace)} {b r m : Nat} {D : DataW Unit} {left : Lit → Bool} {cnt : Nat} (hm : w.ranges P k R b r m D left cnt) {base : Nat} {e : TypeId} {size n : Nat} {v : Value} {xs : List Value} (h : w.ownsRow base e size v n xs) : some r ≠ v.ownBlock := by
  obtain ⟨_, _, _, _, _, _, _, _, _, hr, _⟩ := hm
  exact own_obj_ne h hr fun _ _ _ => by intro h; cases h
theorem ranges_setCell {w : World} {P : Program} {k : TypeId} {R : Value → Option (DataW Unit × List MemPlace)} {b r m : Nat} {D : DataW Unit} {left : Lit → Bool} {cnt : Nat} (h : w.ranges P k R b r m D left cnt) {p : Addr} (h1 : b ≠ p.block) (h2 : r ≠ p.block) (u : Value) : (w.setCell p u).ranges P k R b r m D left cnt := by
  obtain ⟨es, clock, since, seen, c0, hb, F, hs, hD, hr, rest⟩ := h
  exact ⟨es, clock, since, seen, c0, (Below.heap_setCell w p u b h1).trans hb, F, hs, hD, (Below.heap_setCell w p u r h2).trans hr, rest⟩
theorem graph_push {w V w3 : World} {b m : Nat} {D : DataW Unit} {left : Lit → Bool} {cnt : Nat} {n : Int} {s s' : Value} {k k' : Nat} {xs ys : List Value} {o : Obj} (hb : b < w.heap.size) (hK : Blk V (w.heap.size + 1) 24 #[.int .i64 n, s])
    (hR : Blk V w.heap.size 24 #[.int .i64 0, .slice none 0 0]) (hO : V.ownsRow (w.heap.size + 2) 71 3 s k xs) (hG : V.ranges Try.prog 37 plE b (w.heap.size + 2) m D left cnt) (hB : Below w.heap.size w V)
    (hg : (V.alloc o).grownBy w3 s.ownBlock) (hown : w3.ownsRow (w.heap.size + 2) 71 3 s' k' ys) :
    w3.cell? ⟨w.heap.size + 1, 1, none⟩ = some s ∧ w3.frozen? ⟨w.heap.size + 1, 1, none⟩ = false ∧ Blk (w3.setCell ⟨w.heap.size + 1, 1, none⟩ s') (w.heap.size + 1) 24 #[.int .i64 n, s'] ∧ (w3.setCell ⟨w.heap.size + 1, 1, none⟩ s').ownsRow (w.heap.size + 2) 71 3 s' k' ys ∧ Below w.heap.size w (w3.setCell ⟨w.heap.size + 1, 1, none⟩ s') ∧
      Blk (w3.setCell ⟨w.heap.size + 1, 1, none⟩ s') w.heap.size 24 #[.int .i64 0, .slice none 0 0] ∧ (w3.setCell ⟨w.heap.size + 1, 1, none⟩ s').ranges Try.prog 37 plE b (w.heap.size + 2) m D left cnt := by
  obtain ⟨h1, h2, h3, h4⟩ := kept_push hK hO hg hown
  refine ⟨h1.cell 1, h1.frozen 1, h2, h3, hB.trans (h4.mono (by omega)), ?_, ?_⟩
  · exact ((hR.alloc o).grown hg (own_blk_ne (hO.alloc o) (hR.alloc o) ne_EG)).far (p := ⟨w.heap.size + 1, 1, none⟩) (by show w.heap.size ≠ w.heap.size + 1; omega) s'
  · exact ranges_setCell ((hG.alloc o).kept hg (own_map_ne (hG.alloc o).owns (hO.alloc o)) (own_iter_ne (hG.alloc o) (hO.alloc o))) (p := ⟨w.heap.size + 1, 1, none⟩) (by show b ≠ w.heap.size + 1; omega) (by show w.heap.size + 2 ≠ w.heap.size + 1; omega) s'
section
variable {w : World} {ops : Array Oper} {rest : List Oper} {o : Oper} {a : Act} {Q : Exit → Act → World → Prop}
theorem wpList_next_coll (hg : o.guard = none) (it : Operand) (hop : o.op = Op.next it false) (b r n : Nat) (D : DataW Unit) (left : Lit → Bool) (cnt : Nat) (hit : a.eval it = .pointer (some ⟨r, 0, none⟩)) (h : w.ranges Try.prog 37 plE b r n D left cnt)
    (hDone : cnt = 0 → (∀ kl, left kl = false) → wpList Try.prog ops Q rest (a.put o.dst (.tuple #[.bool false])) w)
    (hMore : ∀ (p1 p2 c : Int) (w' : World) (cnt' : Nat), W64 p1 → W64 p2 → W64 c → left (kl (p1, p2)) = true → (∀ zd, D.atKey (kl (p1, p2)) zd = .lit (.int .i64 c)) → w'.ranges Try.prog 37 plE b r n D (fun z => left z && !z.sameKey (kl (p1, p2))) cnt' → cnt' < cnt →
      w.grownBy w' (some r) → w'.heap.size = w.heap.size → (Instr.entry (.pointer (some ⟨r, 0, none⟩))).run Try.prog w' = .ok (.tuple #[.agg #[.int .i64 p1, .int .i64 p2], .int .i64 c]) w' → wpList Try.prog ops Q rest (a.put o.dst (.tuple #[.bool true, .agg #[.int .i64 p1, .int .i64 p2], .int .i64 c])) w') :
    wpList Try.prog ops Q (o :: rest) a w :=
  wpList_next_ranges w hg it hop 37 lawK plE pv (Value.int .i64) (fun key l hkey => by obtain ⟨p, rfl, _⟩ := key_inv hkey; exact ⟨p, rfl⟩) (fun v y hv => by obtain ⟨c, rfl, _⟩ := plainElem_int_inv Try.underlying3 hv; exact ⟨c, rfl⟩)
    b r n D left cnt hit h hDone (fun x c l y w' cnt' hkey hlk hv hat hrg hlt hgr hsz hen => by
      obtain ⟨p, e1, rfl, w1, w2⟩ := key_inv hkey
      obtain ⟨x1, x2⟩ := x
      obtain ⟨p1, p2⟩ := p
      have e2 : x1 = p1 ∧ x2 = p2 := by
        unfold pv at e1
        injection e1 with e1
        have e3 := congrArg Array.toList e1
        simp at e3
        exact e3
      obtain ⟨rfl, rfl⟩ := e2
      obtain ⟨c', ec, rfl, hwc⟩ := plainElem_int_inv Try.underlying3 hv
      cases ec
      exact hMore x1 x2 c w' cnt' w1 w2 hwc hlk hat hrg hlt hgr hsz hen)
end
set_option maxHeartbeats 12800000 in
set_option maxRecDepth 100000 in
theorem pgraph_any (b m : Nat) (hm : m ≤ 100000) (F : Int × Int → Int) (n : Int) (w : World) (h : Coll w b m F) :
    Calls Try.prog 60 #[.map (some b), .int .i64 n] w (fun e w' => ∃ L : List E, L.Pairwise (fun x y => ltE x y = true) ∧ (∀ x, x ∈ L ↔ (W64 x.a ∧ W64 x.b) ∧ 0 < x.m ∧ x.m = F (x.a, x.b)) ∧ L.length ≤ m ∧ GivesG w n L e w') := by
  obtain ⟨i0, hi0, hz0, hz1, hz2⟩ := info_parts infoE
  obtain ⟨D, ho, hs⟩ := h
  have hszD := size_le ho
  have HS := Lib.hid hs
  unfold GivesG gv
  obtain ⟨W, hW⟩ : ∃ W, W = (w.alloc (Obj.cells #[.int .i64 0, .slice none 0 0] 24)).alloc (Obj.cells #[.int .i64 n, .slice none 0 0] 24) := ⟨_, rfl⟩
  have hB0 : Below w.heap.size w W := by rw [hW]; exact ((Below.refl _ w).alloc (Nat.le_refl _) _).alloc (by simp) _
  have hRW : Blk W w.heap.size 24 #[.int .i64 0, .slice none 0 0] := by rw [hW]; exact (Blk.new _ _ _).alloc _
  have hKW : Blk W (w.heap.size + 1) 24 #[.int .i64 n, .slice none 0 0] := by
    rw [hW]
    have h9 := Blk.new (w.alloc (Obj.cells #[.int .i64 0, .slice none 0 0] 24)) 24 #[.int .i64 n, .slice none 0 0]
    rwa [World.size_alloc] at h9
  have hWs : W.heap.size = w.heap.size + 2 := by rw [hW]; simp
  have hoW : W.ownsMap Try.prog 37 plE b m D := by rw [hW]; exact (ho.alloc _).alloc _
  have HW := Lib.hid hW
  have HB0 := Lib.hid hB0
  have HRW := Lib.hid hRW
  have HKW := Lib.hid hKW
  have HWS := Lib.hid hWs
  have HST := Lib.hid (Tk.start hs hszD)
  clear hB0 hRW hKW hWs hW hs
  go_enter Try.func60, Try.ntmps60
  go_wp2_with (first
    | (at_range; rw [← HW.out]; refine wpList_range_own _ rfl _ 77 rfl 37 3 lawK Try.underlying77 _ b m D rfl hoW ?_; intro w0 hrg0 hg0 hs0)
    | go_in)
  go_frame
  rw [HWS.out] at hrg0 hs0 ⊢
  go_loopw [6] (fun _ wr => ∃ (left : Lit → Bool) (cnt : Nat) (s : Value) (P : List E), wr.ranges Try.prog 37 plE b (w.heap.size + 2) m D left cnt ∧ Tk F left cnt m P ∧ Blk wr (w.heap.size + 1) 24 #[.int .i64 n, s] ∧ wr.ownsRow (w.heap.size + 2) 71 3 s P.length (flat encE P) ∧ Blk wr w.heap.size 24 #[.int .i64 0, .slice none 0 0] ∧ Below w.heap.size w wr)
    (fun _ wr => wr.rangeLeft b (w.heap.size + 2))
  case atStart =>
    exact ⟨_, _, _, [], hrg0, HST.out, HKW.out.grown hg0 (by simp), World.ownsRow_nil _ _ _ _, HRW.out.grown hg0 (by simp), HB0.out.grown hg0 HB0.out.size (fun j hj => by cases hj)⟩
  case round =>
    obtain ⟨left, cnt, s, P, hrg, hT, hK, hown, hR, hb⟩ := hrel
    obtain ⟨sa, sc, rfl, -⟩ := RowAt.of_own encE_len3 hown
    have hlenP := hT.len
    have HRG := Lib.hid hrg
    have HT := Lib.hid hT
    have HOW := Lib.hid hown
    have HK := Lib.hid hK
    have HR := Lib.hid hR
    have HB := Lib.hid hb
    have HWR : Hid (w.heap.size + 2 < wr.heap.size) := Lib.hid hrg.lt
    clear hT hown hK hR hb
    go_wp2_with (first
      | (at_next; refine wpList_next_coll rfl _ rfl b (w.heap.size + 2) m D left cnt rfl hrg ?_ ?_)
      | go_in)
    · intro hc0 hl0
      have hMem := HT.out.done hl0
      have hAp := HT.out.ap
      have k1 : wr.cell? ⟨w.heap.size + 1, 1, none⟩ = some (.slice sa P.length sc) := HK.out.cell 1
      have HSO := Lib.hid (psort_any (w.heap.size + 2) sa sc P (by omega) hAp wr HOW.out)
      have HMem := Lib.hid hMem
      clear hMem hAp hrg hl0 hc0
      go_wp2_with fail
      refine HSO.out.mono ?_
      rintro e w2 ⟨rfl, M, hMl, hM1, hM2, hown2, hg2⟩
      have hK2 := HK.out.grown hg2 (own_blk_ne HOW.out HK.out (by decide))
      have hR2 := HR.out.grown hg2 (own_blk_ne HOW.out HR.out (by decide))
      have hb2 : Below w.heap.size w w2 := HB.out.grown hg2 HB.out.size (fun j hj => by have := (HOW.out.lt j hj).1; omega)
      rw [← hMl] at hown2 hK2
      have e0 := (ownsRow_setCell_below (ownsRow_setCell_below hown2 (a := ⟨w.heap.size, 0, none⟩) (by show w.heap.size < w.heap.size + 2; omega) (.int .i64 n)) (a := ⟨w.heap.size, 1, none⟩) (by show w.heap.size < w.heap.size + 2; omega) (.slice sa M.length sc))
      have E3 := Lib.hid (e0.mono (base' := w.heap.size) (by omega))
      obtain ⟨a', c', e1, e2⟩ := RowAt.of_own encE_len3 e0
      clear e0
      have E1 := Lib.hid e1
      have E2 := Lib.hid e2
      have r1 : w2.cell? ⟨w.heap.size, 0, none⟩ = some (.int .i64 0) := hR2.cell 0
      have r3 : w2.frozen? ⟨w.heap.size, 0, none⟩ = false := hR2.frozen 0
      have r2 : (w2.setCell ⟨w.heap.size, 0, none⟩ (.int .i64 n)).cell? ⟨w.heap.size, 1, none⟩ = some (.slice none 0 0) := (hR2.set_ 0 (.int .i64 n)).cell 1
      have r4 : (w2.setCell ⟨w.heap.size, 0, none⟩ (.int .i64 n)).frozen? ⟨w.heap.size, 1, none⟩ = false := (hR2.set_ 0 (.int .i64 n)).frozen 1
      have k2 : w2.cell? ⟨w.heap.size + 1, 0, none⟩ = some (.int .i64 n) := hK2.cell 0
      have k3 : w2.cell? ⟨w.heap.size + 1, 1, none⟩ = some (.slice sa M.length sc) := hK2.cell 1
      have hRf := (hR2.set_ 0 (.int .i64 n)).set_ 1 (.slice sa M.length sc)
      have r5 : ((w2.setCell ⟨w.heap.size, 0, none⟩ (.int .i64 n)).setCell ⟨w.heap.size, 1, none⟩ (.slice sa M.length sc)).cell? ⟨w.heap.size, 0, none⟩ = some (.int .i64 n) := hRf.cell 0
      have r6 : ((w2.setCell ⟨w.heap.size, 0, none⟩ (.int .i64 n)).setCell ⟨w.heap.size, 1, none⟩ (.slice sa M.length sc)).cell? ⟨w.heap.size, 1, none⟩ = some (.slice sa M.length sc) := hRf.cell 1
      have HBF : Hid (Below w.heap.size w ((w2.setCell ⟨w.heap.size, 0, none⟩ (.int .i64 n)).setCell ⟨w.heap.size, 1, none⟩ (.slice sa M.length sc))) := Lib.hid ((hb2.setCell (p := ⟨w.heap.size, 0, none⟩) (Nat.le_refl _) _).setCell (p := ⟨w.heap.size, 1, none⟩) (Nat.le_refl _) _)
      have HMl := Lib.hid hMl
      have HM1 := Lib.hid hM1
      have HM2 := Lib.hid hM2
      clear hb2 hK2 hR2 hown2 hg2 hRf hMl hM1 hM2 e1 e2 k1
      go_wp2
      refine bodyPost_ret (v := .agg #[.int .i64 n, .slice sa M.length sc]) (by simp [results, Try.results60, go_sem, r5, r6]) rfl ?_
      injection E1.out with q1 q2 q3
      have hq := E2.out
      rw [← q1] at hq
      exact ⟨M, HM2.out, fun x => (HM1.out x).trans (HMem.out x), by rw [HMl.out]; omega, sa, sc, rfl, hq, E3.out, HBF.out⟩
    · intro p1 p2 c w1 cnt1 hp1 hp2 hwc hlx hat hrg1 hlt hg1 hs1 hen
      have hT1 := HT.out.step HS.out (p := (p1, p2)) hp1 hp2 hlx hat hlt
      have hK1 := HK.out.grown hg1 (by intro he; injection he with he; omega)
      have hR1 := HR.out.grown hg1 (by intro he; injection he with he; omega)
      have hown1 := HOW.out.kept hg1 (.inr (own_iter_ne hrg HOW.out).symm)
      have hb1 : Below w.heap.size w w1 := HB.out.grown hg1 HB.out.size (fun j hj => by cases hj; omega)
      have HRGV : Hid ((w1.alloc (Obj.cells #[.int .i64 p1, .int .i64 p2] 37)).ranges Try.prog 37 plE b (w.heap.size + 2) m D (fun z => left z && !z.sameKey (kl (p1, p2))) cnt1) := Lib.hid (hrg1.alloc _)
      have HKV : Hid (Blk (w1.alloc (Obj.cells #[.int .i64 p1, .int .i64 p2] 37)) (w.heap.size + 1) 24 #[.int .i64 n, .slice sa P.length sc]) := Lib.hid (hK1.alloc _)
      have HRV : Hid (Blk (w1.alloc (Obj.cells #[.int .i64 p1, .int .i64 p2] 37)) w.heap.size 24 #[.int .i64 0, .slice none 0 0]) := Lib.hid (hR1.alloc _)
      have HOV : Hid ((w1.alloc (Obj.cells #[.int .i64 p1, .int .i64 p2] 37)).ownsRow (w.heap.size + 2) 71 3 (.slice sa P.length sc) P.length (flat encE P)) := Lib.hid (hown1.alloc _)
      have HBV : Hid (Below w.heap.size w (w1.alloc (Obj.cells #[.int .i64 p1, .int .i64 p2] 37))) := Lib.hid (hb1.alloc hb1.size _)
      have hBs : w.heap.size + 2 ≤ (w1.alloc (Obj.cells #[.int .i64 p1, .int .i64 p2] 37)).heap.size := HKV.out.lt
      have HBs := Lib.hid hBs
      have v1 : (w1.alloc (Obj.cells #[.int .i64 p1, .int .i64 p2] 37)).cell? ⟨w.heap.size + 1, 1, none⟩ = some (.slice sa P.length sc) := HKV.out.cell 1
      have v2 : (w1.alloc (Obj.cells #[.int .i64 p1, .int .i64 p2] 37)).cell? ⟨w1.heap.size, 0, none⟩ = some (.int .i64 p1) := (Blk.new w1 37 #[.int .i64 p1, .int .i64 p2]).cell 0
      have v3 : (w1.alloc (Obj.cells #[.int .i64 p1, .int .i64 p2] 37)).cell? ⟨w1.heap.size, 1, none⟩ = some (.int .i64 p2) := (Blk.new w1 37 #[.int .i64 p1, .int .i64 p2]).cell 1
      have HT1 := Lib.hid hT1
      have HLE : Hid (w1.rangeLeft b (w.heap.size + 2) = cnt1 ∧ wr.rangeLeft b (w.heap.size + 2) = cnt) := Lib.hid ⟨hrg1.left_eq, hrg.left_eq⟩
      clear hT1 hK1 hR1 hown1 hb1 hBs hrg1 hg1 hrg hs1
      go_wp2_with (at_builtin; refine wpList_append_own _ rfl _ _ 22 rfl (w.heap.size + 2) 71 i0 (.agg #[.int .i64 0, .int .i64 0, .int .i64 0]) 3 24 Try.underlying22 hi0 hz0 hz1 hz2 rfl (by decide) _ _ _ rfl (HOV.out.alloc _) ⟨w1.heap.size + 1, 0, none⟩ 1 1 [.int .i64 p1, .int .i64 p2, .int .i64 c] rfl rfl (by have h9 := lit_row (w1.alloc (Obj.cells #[.int .i64 p1, .int .i64 p2] 37)) [.int .i64 p1, .int .i64 p2, .int .i64 c] 71; rwa [World.size_alloc] at h9) (by simp [Value.oneCell']) (by unfold maxLen; omega) (by omega) (by rw [World.size_alloc]; have := HBs.out; omega) ?_; intro v1 w3 hown1 hgrow1 _; obtain ⟨g', cap', rfl⟩ := own_succ hown1; obtain ⟨hc1, hf1, h32, h33, h34, h35, h36⟩ := graph_push ho.lt HKV.out HRV.out HOV.out HRGV.out HBV.out hgrow1 hown1; have HX2 := Lib.hid h32; have HX3 := Lib.hid h33; have HX4 := Lib.hid h34; have HX5 := Lib.hid h35; have HX6 := Lib.hid h36; clear h32 h33 h34 h35 h36 hown1 hgrow1)
      go_wp2
      go_roundw
      case rel => exact ⟨_, cnt1, _, P ++ [⟨p1, p2, c⟩], HX6.out, HT1.out, HX2.out, by rw [List.length_append, flatE_snoc]; exact HX3.out, HX5.out, HX4.out⟩
      case measure => rw [HX6.out.left_eq, HLE.out.2]; exact hlt
end Go.Proofs.Ytjaafneoinidkaa
