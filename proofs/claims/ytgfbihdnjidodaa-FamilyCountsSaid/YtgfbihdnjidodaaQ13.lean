/- The graph of a collection. And: The graph made from ends, by the program. And: The numbers of the vertices of a set, as a map; what an induced graph collects. And: The graph on a set of vertices, by the program. And: The graph with other numbers of its vertices, by the program. And: The graph with other numbers of its vertices, by the reference. And: The chapter's examples. And: The law of checks. And: The law of counts. And: The law of cuts. And: The law of making. -/
import Derived.Test.YtgfbihdnjidodaaQ12
import Derived.Test.YtgfbihdnjidodaaQ11
import Derived.Maps.OwnSet
import Derived.Test.YtgfbihdnjidodaaQ06
import Derived.Test.YtgfbihdnjidodaaQ01
namespace Go.Proofs.Ytgfbihdnjidodaa
open Go.RowKit Go.Shelf Go.Proofs.Gr Go.Maps
attribute [local go_sem] Oper.semAt_some

/-- What has been taken out of a collection. -/
structure Tk (F : Int × Int → Int) (left : Lit → Bool) (cnt m : Nat) (P : List E) : Prop where
  mem : ∀ x, x ∈ P ↔ (W64 x.a ∧ W64 x.b) ∧ (0 < x.m ∧ x.m = F (x.a, x.b)) ∧ left (kl (x.a, x.b)) = false
  ap : P.Pairwise Apart
  len : P.length + cnt ≤ m
theorem Tk.start {D : DataW Unit} {F : Int × Int → Int} (h : Says D F) {m : Nat} (hm : Maps.size D ≤ m) : Tk F (Maps.has D) (Maps.size D) m [] := by
  refine ⟨fun x => ⟨fun hx => by simp at hx, fun hx => ?_⟩, List.Pairwise.nil, by simpa using hm⟩
  obtain ⟨⟨h1, h2⟩, ⟨h3, h4⟩, h5⟩ := hx
  rw [(h (x.a, x.b) h1 h2).1, decide_eq_false_iff_not] at h5
  omega
theorem apart_of {x y : E} (h : (x.a, x.b) ≠ (y.a, y.b)) : Apart x y := by
  unfold Apart
  simp only [ltE, Bool.or_eq_true, Bool.and_eq_true, decide_eq_true_eq]
  by_cases e : x.a = y.a
  · have : x.b ≠ y.b := fun e2 => h (by rw [e, e2])
    omega
  · omega
theorem Tk.step {D : DataW Unit} {F : Int × Int → Int} (h : Says D F) {left : Lit → Bool} {cnt cnt' m : Nat} {P : List E} (hT : Tk F left cnt m P) {p : Int × Int} {c : Int} (w1 : W64 p.1) (w2 : W64 p.2)
    (hl : left (kl p) = true) (hat : ∀ zd, D.atKey (kl p) zd = .lit (.int .i64 c)) (hc : cnt' < cnt) : Tk F (fun z => left z && !z.sameKey (kl p)) cnt' m (P ++ [⟨p.1, p.2, c⟩]) := by
  have hF := (h p w1 w2).2
  rw [hat] at hF
  have hcF : c = F p := by injection hF with hF; injection hF
  have hpos : 0 < F p := by
    have := (h p w1 w2).1
    rw [has_true_of_atKey hat] at this
    exact of_decide_eq_true this.symm
  refine ⟨fun x => ?_, ?_, by have := hT.len; rw [List.length_append, List.length_singleton]; omega⟩
  · rw [List.mem_append, hT.mem, List.mem_singleton]
    have hk : W64 x.a → W64 x.b → ((kl (x.a, x.b)).sameKey (kl p) = true ↔ (x.a, x.b) = p) := fun h1 h2 => ⟨fun hs => kl_inj h1 h2 w1 w2 (WideAt.sameKey_eq hs), fun e => by rw [e]; exact WideAt.sameKey_self (kl_key p)⟩
    constructor
    · rintro (⟨h1, h2, h3⟩ | rfl)
      · exact ⟨h1, h2, by simp [h3]⟩
      · exact ⟨⟨w1, w2⟩, ⟨by show 0 < c; omega, hcF⟩, by simp [WideAt.sameKey_self (kl_key p)]⟩
    · rintro ⟨h1, h2, h3⟩
      by_cases e : (x.a, x.b) = p
      · refine .inr ?_
        obtain ⟨xa, xb, xm⟩ := x
        subst e
        have : xm = c := by rw [hcF]; exact h2.2
        rw [this]
      · refine .inl ⟨h1, h2, ?_⟩
        have h4 : (kl (x.a, x.b)).sameKey (kl p) = false := by
          cases h5 : (kl (x.a, x.b)).sameKey (kl p) with
          | false => rfl
          | true => exact absurd ((hk h1.1 h1.2).1 h5) e
        simpa [h4] using h3
  · rw [List.pairwise_append]
    refine ⟨hT.ap, List.pairwise_singleton _ _, fun x hx y hy => ?_⟩
    obtain rfl : y = ⟨p.1, p.2, c⟩ := by simpa using hy
    refine apart_of fun e => ?_
    have h6 := ((hT.mem x).1 hx).2.2
    have e' : (x.a, x.b) = p := e
    rw [e', hl] at h6
    cases h6
theorem Tk.done {F : Int × Int → Int} {left : Lit → Bool} {cnt m : Nat} {P : List E} (hT : Tk F left cnt m P) (hl : ∀ k, left k = false) (x : E) : x ∈ P ↔ (W64 x.a ∧ W64 x.b) ∧ 0 < x.m ∧ x.m = F (x.a, x.b) := by
  rw [hT.mem, hl]
  exact ⟨fun h => ⟨h.1, h.2.1⟩, fun h => ⟨h.1, h.2, rfl⟩⟩
theorem size_le {P : Program} {k : TypeId} {R : Value → Option (DataW Unit × List MemPlace)} {w : World} {b n : Nat} {D : DataW Unit} (h : w.ownsMap P k R b n D) : Maps.size D ≤ n := by
  obtain ⟨es, clock, _, _, hs, rfl⟩ := h
  simp [Maps.size, length_sorted]; exact hs
theorem ne_EG : (66 : TypeId) ≠ 31 := by decide
/-- A block that is no row of cells is not the one that a list owns. -/
theorem own_obj_ne {w : World} {g : Nat} {o : Obj} {base : Nat} {e : TypeId} {size n : Nat} {v : Value} {xs : List Value} (h : w.ownsRow base e size v n xs) (hg : w.heap[g]? = some o) (ho : ∀ cs t fr, o ≠ .cells cs t fr) : some g ≠ v.ownBlock := by
  rcases h.2 with ⟨rfl, _⟩ | ⟨g', cap, cur, rfl, _, hh, _⟩
  · simp [Value.ownBlock]
  · intro he
    have h1 : g = g' := by simpa [Value.ownBlock] using he
    subst h1
    rw [hg] at hh
    injection hh with hh
    exact ho _ _ _ hh
theorem own_map_ne {w : World} {P : Program} {k : TypeId} {R : Value → Option (DataW Unit × List MemPlace)} {b m : Nat} {D : DataW Unit} (hm : w.ownsMap P k R b m D) {base : Nat} {e : TypeId} {size n : Nat} {v : Value} {xs : List Value} (h : w.ownsRow base e size v n xs) : some b ≠ v.ownBlock := by
  obtain ⟨es, clock, hb, _⟩ := hm
  exact own_obj_ne h hb fun _ _ _ => by intro h; cases h
theorem own_iter_ne {w : World} {P : Program} {k : TypeId} {R : Value → Option (DataW Unit × List MemPlace)} {b r m : Nat} {D : DataW Unit} {left : Lit → Bool} {cnt : Nat} (hm : w.ranges P k R b r m D left cnt) {base : Nat} {e : TypeId} {size n : Nat} {v : Value} {xs : List Value} (h : w.ownsRow base e size v n xs) : some r ≠ v.ownBlock := by
  obtain ⟨_, _, _, _, _, _, _, _, _, hr, _⟩ := hm
  exact own_obj_ne h hr fun _ _ _ => by intro h; cases h
theorem ranges_setCell {w : World} {P : Program} {k : TypeId} {R : Value → Option (DataW Unit × List MemPlace)} {b r m : Nat} {D : DataW Unit} {left : Lit → Bool} {cnt : Nat} (h : w.ranges P k R b r m D left cnt) {p : Addr} (h1 : b ≠ p.block) (h2 : r ≠ p.block) (u : Value) : (w.setCell p u).ranges P k R b r m D left cnt := by
  obtain ⟨es, clock, since, seen, c0, hb, F, hs, hD, hr, rest⟩ := h
  exact ⟨es, clock, since, seen, c0, (Below.heap_setCell w p u b h1).trans hb, F, hs, hD, (Below.heap_setCell w p u r h2).trans hr, rest⟩
theorem graph_push {w V w3 : World} {b m : Nat} {D : DataW Unit} {left : Lit → Bool} {cnt : Nat} {n : Int} {s s' : Value} {k k' : Nat} {xs ys : List Value} {o : Obj} (hb : b < w.heap.size) (hK : Blk V (w.heap.size + 1) 31 #[.int .i64 n, s])
    (hR : Blk V w.heap.size 31 #[.int .i64 0, .slice none 0 0]) (hO : V.ownsRow (w.heap.size + 2) 66 3 s k xs) (hG : V.ranges Try.prog 56 plE b (w.heap.size + 2) m D left cnt) (hB : Below w.heap.size w V)
    (hg : (V.alloc o).grownBy w3 s.ownBlock) (hown : w3.ownsRow (w.heap.size + 2) 66 3 s' k' ys) :
    w3.cell? ⟨w.heap.size + 1, 1, none⟩ = some s ∧ w3.frozen? ⟨w.heap.size + 1, 1, none⟩ = false ∧ Blk (w3.setCell ⟨w.heap.size + 1, 1, none⟩ s') (w.heap.size + 1) 31 #[.int .i64 n, s'] ∧ (w3.setCell ⟨w.heap.size + 1, 1, none⟩ s').ownsRow (w.heap.size + 2) 66 3 s' k' ys ∧ Below w.heap.size w (w3.setCell ⟨w.heap.size + 1, 1, none⟩ s') ∧
      Blk (w3.setCell ⟨w.heap.size + 1, 1, none⟩ s') w.heap.size 31 #[.int .i64 0, .slice none 0 0] ∧ (w3.setCell ⟨w.heap.size + 1, 1, none⟩ s').ranges Try.prog 56 plE b (w.heap.size + 2) m D left cnt := by
  obtain ⟨h1, h2, h3, h4⟩ := kept_push hK hO hg hown
  refine ⟨h1.cell 1, h1.frozen 1, h2, h3, hB.trans (h4.mono (by omega)), ?_, ?_⟩
  · exact ((hR.alloc o).grown hg (own_blk_ne (hO.alloc o) (hR.alloc o) ne_EG)).far (p := ⟨w.heap.size + 1, 1, none⟩) (by show w.heap.size ≠ w.heap.size + 1; omega) s'
  · exact ranges_setCell ((hG.alloc o).kept hg (own_map_ne (hG.alloc o).owns (hO.alloc o)) (own_iter_ne (hG.alloc o) (hO.alloc o))) (p := ⟨w.heap.size + 1, 1, none⟩) (by show b ≠ w.heap.size + 1; omega) (by show w.heap.size + 2 ≠ w.heap.size + 1; omega) s'
section
variable {w : World} {ops : Array Oper} {rest : List Oper} {o : Oper} {a : Act} {Q : Exit → Act → World → Prop}
theorem wpList_next_coll (hg : o.guard = none) (it : Operand) (hop : o.op = Op.next it false) (b r n : Nat) (D : DataW Unit) (left : Lit → Bool) (cnt : Nat) (hit : a.eval it = .pointer (some ⟨r, 0, none⟩)) (h : w.ranges Try.prog 56 plE b r n D left cnt)
    (hDone : cnt = 0 → (∀ kl, left kl = false) → wpList Try.prog ops Q rest (a.put o.dst (.tuple #[.bool false])) w)
    (hMore : ∀ (p1 p2 c : Int) (w' : World) (cnt' : Nat), W64 p1 → W64 p2 → W64 c → left (kl (p1, p2)) = true → (∀ zd, D.atKey (kl (p1, p2)) zd = .lit (.int .i64 c)) → w'.ranges Try.prog 56 plE b r n D (fun z => left z && !z.sameKey (kl (p1, p2))) cnt' → cnt' < cnt →
      w.grownBy w' (some r) → w'.heap.size = w.heap.size → (Instr.entry (.pointer (some ⟨r, 0, none⟩))).run Try.prog w' = .ok (.tuple #[.agg #[.int .i64 p1, .int .i64 p2], .int .i64 c]) w' → wpList Try.prog ops Q rest (a.put o.dst (.tuple #[.bool true, .agg #[.int .i64 p1, .int .i64 p2], .int .i64 c])) w') :
    wpList Try.prog ops Q (o :: rest) a w :=
  wpList_next_ranges w hg it hop 56 lawK plE pv (Value.int .i64) (fun key l hkey => by obtain ⟨p, rfl, _⟩ := key_inv hkey; exact ⟨p, rfl⟩) (fun v y hv => by obtain ⟨c, rfl, _⟩ := plainElem_int_inv Try.underlying3 hv; exact ⟨c, rfl⟩)
    b r n D left cnt hit h hDone (fun x c l y w' cnt' hkey hlk hv hat hrg hlt hgr hsz hen => by
      obtain ⟨p, e1, rfl, w1, w2⟩ := key_inv hkey
      obtain ⟨x1, x2⟩ := x
      obtain ⟨p1, p2⟩ := p
      have e2 : x1 = p1 ∧ x2 = p2 := by
        unfold pv at e1
        injection e1 with e1
        have e3 := congrArg Array.toList e1
        simp at e3
        exact e3
      obtain ⟨rfl, rfl⟩ := e2
      obtain ⟨c', ec, rfl, hwc⟩ := plainElem_int_inv Try.underlying3 hv
      cases ec
      exact hMore x1 x2 c w' cnt' w1 w2 hwc hlk hat hrg hlt hgr hsz hen)
end
set_option maxHeartbeats 12800000 in
set_option maxRecDepth 100000 in
theorem pgraph_any (b m : Nat) (hm : m ≤ 100000) (F : Int × Int → Int) (n : Int) (w : World) (h : Coll w b m F) :
    Calls Try.prog 70 #[.map (some b), .int .i64 n] w (fun e w' => ∃ L : List E, L.Pairwise (fun x y => ltE x y = true) ∧ (∀ x, x ∈ L ↔ (W64 x.a ∧ W64 x.b) ∧ 0 < x.m ∧ x.m = F (x.a, x.b)) ∧ L.length ≤ m ∧ GivesG w n L e w') := by
  obtain ⟨i0, hi0, hz0, hz1, hz2⟩ := info_parts infoE
  obtain ⟨D, ho, hs⟩ := h
  have hszD := size_le ho
  have HS := Lib.hid hs
  unfold GivesG gv
  obtain ⟨W, hW⟩ : ∃ W, W = (w.alloc (Obj.cells #[.int .i64 0, .slice none 0 0] 31)).alloc (Obj.cells #[.int .i64 n, .slice none 0 0] 31) := ⟨_, rfl⟩
  have hB0 : Below w.heap.size w W := by rw [hW]; exact ((Below.refl _ w).alloc (Nat.le_refl _) _).alloc (by simp) _
  have hRW : Blk W w.heap.size 31 #[.int .i64 0, .slice none 0 0] := by rw [hW]; exact (Blk.new _ _ _).alloc _
  have hKW : Blk W (w.heap.size + 1) 31 #[.int .i64 n, .slice none 0 0] := by
    rw [hW]
    have h9 := Blk.new (w.alloc (Obj.cells #[.int .i64 0, .slice none 0 0] 31)) 31 #[.int .i64 n, .slice none 0 0]
    rwa [World.size_alloc] at h9
  have hWs : W.heap.size = w.heap.size + 2 := by rw [hW]; simp
  have hoW : W.ownsMap Try.prog 56 plE b m D := by rw [hW]; exact (ho.alloc _).alloc _
  have HW := Lib.hid hW
  have HB0 := Lib.hid hB0
  have HRW := Lib.hid hRW
  have HKW := Lib.hid hKW
  have HWS := Lib.hid hWs
  have HST := Lib.hid (Tk.start hs hszD)
  clear hB0 hRW hKW hWs hW hs
  go_enter Try.func70, Try.ntmps70
  go_wp2_with (first
    | (at_range; rw [← HW.out]; refine wpList_range_own _ rfl _ 89 rfl 56 3 lawK Try.underlying89 _ b m D rfl hoW ?_; intro w0 hrg0 hg0 hs0)
    | go_in)
  go_frame
  rw [HWS.out] at hrg0 hs0 ⊢
  go_loopw [6] (fun _ wr => ∃ (left : Lit → Bool) (cnt : Nat) (s : Value) (P : List E), wr.ranges Try.prog 56 plE b (w.heap.size + 2) m D left cnt ∧ Tk F left cnt m P ∧ Blk wr (w.heap.size + 1) 31 #[.int .i64 n, s] ∧ wr.ownsRow (w.heap.size + 2) 66 3 s P.length (flat encE P) ∧ Blk wr w.heap.size 31 #[.int .i64 0, .slice none 0 0] ∧ Below w.heap.size w wr)
    (fun _ wr => wr.rangeLeft b (w.heap.size + 2))
  case atStart =>
    exact ⟨_, _, _, [], hrg0, HST.out, HKW.out.grown hg0 (by simp), World.ownsRow_nil _ _ _ _, HRW.out.grown hg0 (by simp), HB0.out.grown hg0 HB0.out.size (fun j hj => by cases hj)⟩
  case round =>
    obtain ⟨left, cnt, s, P, hrg, hT, hK, hown, hR, hb⟩ := hrel
    obtain ⟨sa, sc, rfl, -⟩ := RowAt.of_own encE_len3 hown
    have hlenP := hT.len
    have HRG := Lib.hid hrg
    have HT := Lib.hid hT
    have HOW := Lib.hid hown
    have HK := Lib.hid hK
    have HR := Lib.hid hR
    have HB := Lib.hid hb
    have HWR : Hid (w.heap.size + 2 < wr.heap.size) := Lib.hid hrg.lt
    clear hT hown hK hR hb
    go_wp2_with (first
      | (at_next; refine wpList_next_coll rfl _ rfl b (w.heap.size + 2) m D left cnt rfl hrg ?_ ?_)
      | go_in)
    · intro hc0 hl0
      have hMem := HT.out.done hl0
      have hAp := HT.out.ap
      have k1 : wr.cell? ⟨w.heap.size + 1, 1, none⟩ = some (.slice sa P.length sc) := HK.out.cell 1
      have HSO := Lib.hid (psort_any (w.heap.size + 2) sa sc P (by omega) hAp wr HOW.out)
      have HMem := Lib.hid hMem
      clear hMem hAp hrg hl0 hc0
      go_wp2_with fail
      refine HSO.out.mono ?_
      rintro e w2 ⟨rfl, M, hMl, hM1, hM2, hown2, hg2⟩
      have hK2 := HK.out.grown hg2 (own_blk_ne HOW.out HK.out (by decide))
      have hR2 := HR.out.grown hg2 (own_blk_ne HOW.out HR.out (by decide))
      have hb2 : Below w.heap.size w w2 := HB.out.grown hg2 HB.out.size (fun j hj => by have := (HOW.out.lt j hj).1; omega)
      rw [← hMl] at hown2 hK2
      have e0 := (ownsRow_setCell_below (ownsRow_setCell_below hown2 (a := ⟨w.heap.size, 0, none⟩) (by show w.heap.size < w.heap.size + 2; omega) (.int .i64 n)) (a := ⟨w.heap.size, 1, none⟩) (by show w.heap.size < w.heap.size + 2; omega) (.slice sa M.length sc))
      have E3 := Lib.hid (e0.mono (base' := w.heap.size) (by omega))
      obtain ⟨a', c', e1, e2⟩ := RowAt.of_own encE_len3 e0
      clear e0
      have E1 := Lib.hid e1
      have E2 := Lib.hid e2
      have r1 : w2.cell? ⟨w.heap.size, 0, none⟩ = some (.int .i64 0) := hR2.cell 0
      have r3 : w2.frozen? ⟨w.heap.size, 0, none⟩ = false := hR2.frozen 0
      have r2 : (w2.setCell ⟨w.heap.size, 0, none⟩ (.int .i64 n)).cell? ⟨w.heap.size, 1, none⟩ = some (.slice none 0 0) := (hR2.set_ 0 (.int .i64 n)).cell 1
      have r4 : (w2.setCell ⟨w.heap.size, 0, none⟩ (.int .i64 n)).frozen? ⟨w.heap.size, 1, none⟩ = false := (hR2.set_ 0 (.int .i64 n)).frozen 1
      have k2 : w2.cell? ⟨w.heap.size + 1, 0, none⟩ = some (.int .i64 n) := hK2.cell 0
      have k3 : w2.cell? ⟨w.heap.size + 1, 1, none⟩ = some (.slice sa M.length sc) := hK2.cell 1
      have hRf := (hR2.set_ 0 (.int .i64 n)).set_ 1 (.slice sa M.length sc)
      have r5 : ((w2.setCell ⟨w.heap.size, 0, none⟩ (.int .i64 n)).setCell ⟨w.heap.size, 1, none⟩ (.slice sa M.length sc)).cell? ⟨w.heap.size, 0, none⟩ = some (.int .i64 n) := hRf.cell 0
      have r6 : ((w2.setCell ⟨w.heap.size, 0, none⟩ (.int .i64 n)).setCell ⟨w.heap.size, 1, none⟩ (.slice sa M.length sc)).cell? ⟨w.heap.size, 1, none⟩ = some (.slice sa M.length sc) := hRf.cell 1
      have HBF : Hid (Below w.heap.size w ((w2.setCell ⟨w.heap.size, 0, none⟩ (.int .i64 n)).setCell ⟨w.heap.size, 1, none⟩ (.slice sa M.length sc))) := Lib.hid ((hb2.setCell (p := ⟨w.heap.size, 0, none⟩) (Nat.le_refl _) _).setCell (p := ⟨w.heap.size, 1, none⟩) (Nat.le_refl _) _)
      have HMl := Lib.hid hMl
      have HM1 := Lib.hid hM1
      have HM2 := Lib.hid hM2
      clear hb2 hK2 hR2 hown2 hg2 hRf hMl hM1 hM2 e1 e2 k1
      go_wp2
      refine bodyPost_ret (v := .agg #[.int .i64 n, .slice sa M.length sc]) (by simp [results, Try.results70, go_sem, r5, r6]) rfl ?_
      injection E1.out with q1 q2 q3
      have hq := E2.out
      rw [← q1] at hq
      exact ⟨M, HM2.out, fun x => (HM1.out x).trans (HMem.out x), by rw [HMl.out]; omega, sa, sc, rfl, hq, E3.out, HBF.out⟩
    · intro p1 p2 c w1 cnt1 hp1 hp2 hwc hlx hat hrg1 hlt hg1 hs1 hen
      have hT1 := HT.out.step HS.out (p := (p1, p2)) hp1 hp2 hlx hat hlt
      have hK1 := HK.out.grown hg1 (by intro he; injection he with he; omega)
      have hR1 := HR.out.grown hg1 (by intro he; injection he with he; omega)
      have hown1 := HOW.out.kept hg1 (.inr (own_iter_ne hrg HOW.out).symm)
      have hb1 : Below w.heap.size w w1 := HB.out.grown hg1 HB.out.size (fun j hj => by cases hj; omega)
      have HRGV : Hid ((w1.alloc (Obj.cells #[.int .i64 p1, .int .i64 p2] 56)).ranges Try.prog 56 plE b (w.heap.size + 2) m D (fun z => left z && !z.sameKey (kl (p1, p2))) cnt1) := Lib.hid (hrg1.alloc _)
      have HKV : Hid (Blk (w1.alloc (Obj.cells #[.int .i64 p1, .int .i64 p2] 56)) (w.heap.size + 1) 31 #[.int .i64 n, .slice sa P.length sc]) := Lib.hid (hK1.alloc _)
      have HRV : Hid (Blk (w1.alloc (Obj.cells #[.int .i64 p1, .int .i64 p2] 56)) w.heap.size 31 #[.int .i64 0, .slice none 0 0]) := Lib.hid (hR1.alloc _)
      have HOV : Hid ((w1.alloc (Obj.cells #[.int .i64 p1, .int .i64 p2] 56)).ownsRow (w.heap.size + 2) 66 3 (.slice sa P.length sc) P.length (flat encE P)) := Lib.hid (hown1.alloc _)
      have HBV : Hid (Below w.heap.size w (w1.alloc (Obj.cells #[.int .i64 p1, .int .i64 p2] 56))) := Lib.hid (hb1.alloc hb1.size _)
      have hBs : w.heap.size + 2 ≤ (w1.alloc (Obj.cells #[.int .i64 p1, .int .i64 p2] 56)).heap.size := HKV.out.lt
      have HBs := Lib.hid hBs
      have v1 : (w1.alloc (Obj.cells #[.int .i64 p1, .int .i64 p2] 56)).cell? ⟨w.heap.size + 1, 1, none⟩ = some (.slice sa P.length sc) := HKV.out.cell 1
      have v2 : (w1.alloc (Obj.cells #[.int .i64 p1, .int .i64 p2] 56)).cell? ⟨w1.heap.size, 0, none⟩ = some (.int .i64 p1) := (Blk.new w1 56 #[.int .i64 p1, .int .i64 p2]).cell 0
      have v3 : (w1.alloc (Obj.cells #[.int .i64 p1, .int .i64 p2] 56)).cell? ⟨w1.heap.size, 1, none⟩ = some (.int .i64 p2) := (Blk.new w1 56 #[.int .i64 p1, .int .i64 p2]).cell 1
      have HT1 := Lib.hid hT1
      have HLE : Hid (w1.rangeLeft b (w.heap.size + 2) = cnt1 ∧ wr.rangeLeft b (w.heap.size + 2) = cnt) := Lib.hid ⟨hrg1.left_eq, hrg.left_eq⟩
      clear hT1 hK1 hR1 hown1 hb1 hBs hrg1 hg1 hrg hs1
      go_wp2_with (at_builtin; refine wpList_append_own _ rfl _ _ 29 rfl (w.heap.size + 2) 66 i0 (.agg #[.int .i64 0, .int .i64 0, .int .i64 0]) 3 24 Try.underlying29 hi0 hz0 hz1 hz2 rfl (by decide) _ _ _ rfl (HOV.out.alloc _) ⟨w1.heap.size + 1, 0, none⟩ 1 1 [.int .i64 p1, .int .i64 p2, .int .i64 c] rfl rfl (by have h9 := lit_row (w1.alloc (Obj.cells #[.int .i64 p1, .int .i64 p2] 56)) [.int .i64 p1, .int .i64 p2, .int .i64 c] 66; rwa [World.size_alloc] at h9) (by simp [Value.oneCell']) (by unfold maxLen; omega) (by omega) (by rw [World.size_alloc]; have := HBs.out; omega) ?_; intro v1 w3 hown1 hgrow1 _; obtain ⟨g', cap', rfl⟩ := own_succ hown1; obtain ⟨hc1, hf1, h32, h33, h34, h35, h36⟩ := graph_push ho.lt HKV.out HRV.out HOV.out HRGV.out HBV.out hgrow1 hown1; have HX2 := Lib.hid h32; have HX3 := Lib.hid h33; have HX4 := Lib.hid h34; have HX5 := Lib.hid h35; have HX6 := Lib.hid h36; clear h32 h33 h34 h35 h36 hown1 hgrow1)
      go_wp2
      go_roundw
      case rel => exact ⟨_, cnt1, _, P ++ [⟨p1, p2, c⟩], HX6.out, HT1.out, HX2.out, by rw [List.length_append, flatE_snoc]; exact HX3.out, HX5.out, HX4.out⟩
      case measure => rw [HX6.out.left_eq, HLE.out.2]; exact hlt
end Go.Proofs.Ytgfbihdnjidodaa

namespace Go.Proofs.Ytgfbihdnjidodaa
open Go.RowKit Go.Shelf Go.Proofs.Gr Go.Maps
attribute [local go_sem] Oper.semAt_some

/-- The graph of sums is the one that a table says. -/
theorem coll_join {A : List ((Int × Int) × Int)} {t : Nat → Nat → Int} {n : Nat} (hn : n ≤ 1000000) (hA : ∀ x ∈ A, 1 ≤ x.2 ∧ 0 ≤ x.1.1 ∧ x.1.1 ≤ x.1.2 ∧ x.1.2 < n) (ht : ∀ a b : Nat, a < n → b < n → a ≤ b → t a b = accF A ((a : Int), (b : Int)))
    {L : List E} (hs : L.Pairwise (fun x y => ltE x y = true)) (hm : ∀ x, x ∈ L ↔ (W64 x.a ∧ W64 x.b) ∧ 0 < x.m ∧ x.m = accF A (x.a, x.b)) : L = joinT t n n := by
  refine ltE_ext hs (joinT_asc _ _ _) fun e => ?_
  rw [hm, joinT_mem]
  constructor
  · rintro ⟨h1, h2, h3⟩
    have h4 : 0 < accF A (e.a, e.b) := by omega
    obtain ⟨x, hx, hk⟩ := (accF_pos A (fun x hx => (hA x hx).1) _).1 h4
    have h5 := hA x hx
    rw [hk] at h5
    simp only at h5
    refine ⟨e.a.toNat, e.b.toNat, by omega, by omega, by omega, ?_, ?_⟩
    · rw [ht _ _ (by omega) (by omega) (by omega), show ((e.a.toNat : Int), (e.b.toNat : Int)) = (e.a, e.b) by rw [Int.toNat_of_nonneg (by omega), Int.toNat_of_nonneg (by omega)]]; exact h4
    · rw [ht _ _ (by omega) (by omega) (by omega), Int.toNat_of_nonneg (by omega), Int.toNat_of_nonneg (by omega), ← h3]
  · rintro ⟨a, b, h1, h2, h3, h4, rfl⟩
    rw [ht a b h1 h2 h3] at h4 ⊢
    exact ⟨⟨w64_of (by simp only; omega) (by simp only; omega), w64_of (by simp only; omega) (by simp only; omega)⟩, h4, rfl⟩
/-- The single edges of some pairs. -/
def prs (P : List (Int × Int)) (i : Nat) : List ((Int × Int) × Int) := (P.take i).map fun p => ((mnP p, mxP p), 1)
theorem prs_succ (P : List (Int × Int)) (i : Nat) (h : i < P.length) : prs P (i + 1) = prs P i ++ [((mnP (pAt P i), mxP (pAt P i)), 1)] := by
  unfold prs
  rw [List.take_succ_eq_append_getElem h, List.map_append, pAt_get]; rfl
theorem prs_one (P : List (Int × Int)) (i : Nat) : ∀ x ∈ prs P i, 1 ≤ x.2 := by
  intro x hx
  obtain ⟨p, _, rfl⟩ := List.mem_map.1 hx
  exact Int.le_refl _
theorem prs_le (P : List (Int × Int)) (i : Nat) (p : Int × Int) : accF (prs P i) p ≤ i := by
  have h := accF_le (prs P i) 1 (by omega) (fun x hx => by
    obtain ⟨q, _, rfl⟩ := List.mem_map.1 hx
    exact Int.le_refl _) p
  have : (prs P i).length ≤ i := by unfold prs; rw [List.length_map, List.length_take]; omega
  omega
theorem mem_pAt {P : List (Int × Int)} {i : Nat} {p : Int × Int} (h : p ∈ P.take i) : ∃ j, j < i ∧ j < P.length ∧ p = pAt P j := by
  obtain ⟨j, hj, rfl⟩ := List.mem_iff_getElem.1 h
  rw [List.length_take] at hj
  refine ⟨j, by omega, by omega, ?_⟩
  rw [List.getElem_take, pAt_get]
theorem pErr_zero {n : Int} {P : List (Int × Int)} {j : Nat} (h : pErr n P j = 0) : (0 ≤ (pAt P j).1 ∧ (pAt P j).1 < n) ∧ 0 ≤ (pAt P j).2 ∧ (pAt P j).2 < n := by
  unfold pErr at h
  split at h
  · rename_i h1
    simp only [isV, Bool.and_eq_true, decide_eq_true_eq] at h1
    exact h1
  · omega
theorem prs_rng {n : Int} {P : List (Int × Int)} {i : Nat} (h : ∀ j, j < i → pErr n P j = 0) : ∀ x ∈ prs P i, 1 ≤ x.2 ∧ 0 ≤ x.1.1 ∧ x.1.1 ≤ x.1.2 ∧ x.1.2 < n := by
  intro x hx
  obtain ⟨p, hp, rfl⟩ := List.mem_map.1 hx
  obtain ⟨j, hj, _, rfl⟩ := mem_pAt hp
  have h1 := pErr_zero (h j hj)
  unfold mnP mxP
  simp only
  split <;> split <;> omega
theorem cntT_acc {n : Int} (P : List (Int × Int)) (i : Nat) (hi : i ≤ P.length) (h : ∀ j, j < i → pErr n P j = 0) (x y : Nat) : cntT P i x y = accF (prs P i) ((x : Int), (y : Int)) := by
  induction i with
  | zero => rfl
  | succ i ih =>
    have h1 := ih (by omega) (fun j hj => h j (by omega))
    have h2 := pErr_zero (h i (by omega))
    rw [prs_succ P i (by omega), accF_snoc, ← h1]
    show (if x = (mnP (pAt P i)).toNat ∧ y = (mxP (pAt P i)).toNat then cntT P i x y + 1 else cntT P i x y) = _
    have h3 : 0 ≤ mnP (pAt P i) ∧ 0 ≤ mxP (pAt P i) := by unfold mnP mxP; split <;> split <;> omega
    by_cases e : x = (mnP (pAt P i)).toNat ∧ y = (mxP (pAt P i)).toNat
    · rw [if_pos e, if_pos]
      rw [Prod.mk.injEq]; omega
    · rw [if_neg e, if_neg]
      · omega
      · rw [Prod.mk.injEq]; omega
theorem make_k5 {n : Nat} {P : List (Int × Int)} (h : ∀ j, j < P.length → pErr n P j = 0) (p : Int × Int) (hp : 50 < accF (prs P P.length) p) : ∃ x y, x < n ∧ y < n ∧ 50 < cntT P P.length x y := by
  obtain ⟨x, hx, hk⟩ := (accF_pos _ (prs_one P P.length) p).1 (by omega)
  have h5 := prs_rng h x hx
  rw [hk] at h5
  refine ⟨p.1.toNat, p.2.toNat, by omega, by omega, ?_⟩
  rw [cntT_acc P P.length (Nat.le_refl _) h, Int.toNat_of_nonneg (by omega), Int.toNat_of_nonneg (by omega)]
  exact hp
theorem make_k0 {n : Nat} (hn : n ≤ 12) {P : List (Int × Int)} (h : ∀ j, j < P.length → pErr n P j = 0) (hp : ∀ p : Int × Int, W64 p.1 → W64 p.2 → accF (prs P P.length) p ≤ 50) (x y : Nat) (hx : x < n) (hy : y < n) : cntT P P.length x y ≤ 50 := by
  rw [cntT_acc P P.length (Nat.le_refl _) h]
  exact hp _ (w64_of (by simp only; omega) (by simp only; omega)) (w64_of (by simp only; omega) (by simp only; omega))
set_option maxHeartbeats 12800000 in
set_option maxRecDepth 100000 in
theorem pmake_ok (n : Nat) (hn0 : 1 ≤ n) (hn : n ≤ 12) (b : Option Addr) (cp : Nat) (P : List (Int × Int)) (hP : P.length ≤ 4096) (w : World) (hp : PsAt w b P) :
    Calls Try.prog 44 #[.int .i64 n, .slice b P.length cp] w (fun e w' => ∃ k, GivesGE w (if k = 0 then n else 0) (if k = 0 then joinT (cntT P P.length) n n else []) k e w' ∧
      ((k = 2 ∧ ∃ j, j < P.length ∧ pErr n P j ≠ 0) ∨ (k = 5 ∧ (∀ j, j < P.length → pErr n P j = 0) ∧ ∃ x y, x < n ∧ y < n ∧ 50 < cntT P P.length x y) ∨ (k = 0 ∧ (∀ j, j < P.length → pErr n P j = 0) ∧ ∀ x y, x < n → y < n → cntT P P.length x y ≤ 50))) := by
  have hmm := @run_makeMap Try.prog
  have HC := Lib.hid (fun w => check_any (n : Int) none 0 [] (by simp) w (RowAt.nil _ _ _ _))
  have hc0 : chkG (n : Int) [] = 0 := by unfold chkG; rw [if_neg (by omega)]; rfl
  rw [hc0] at HC
  have HV := Lib.hid (fun v w => isVertex_any (n : Int) none 0 0 v w)
  have HADD := Lib.hid (fun b m hm A hA x y c hx hy hc hbd w h => padd_any b m hm A hA x y c hx hy hc hbd w h)
  have HGR := Lib.hid (fun b m hm F w h => pgraph_any b m hm F (n : Int) w h)
  unfold GivesGE
  unfold GivesG at HGR
  unfold GivesN gv at *
  simp only [List.length_nil] at HC
  obtain ⟨W, hW⟩ : ∃ W, W = (w.alloc (Obj.cells #[.int .i64 0, .slice none 0 0] 31)).alloc (Obj.cells #[.int .i64 n, .slice none 0 0] 31) := ⟨_, rfl⟩
  have hB0 : Below w.heap.size w W := by rw [hW]; exact ((Below.refl _ w).alloc (Nat.le_refl _) _).alloc (by simp) _
  have hR : Blk W w.heap.size 31 #[.int .i64 0, .slice none 0 0] := by rw [hW]; exact (Blk.new _ _ _).alloc _
  have hG : Blk W (w.heap.size + 1) 31 #[.int .i64 n, .slice none 0 0] := by
    rw [hW]
    have h9 := Blk.new (w.alloc (Obj.cells #[.int .i64 0, .slice none 0 0] 31)) 31 #[.int .i64 n, .slice none 0 0]
    rwa [World.size_alloc] at h9
  have HW := Lib.hid hW
  have HB0 := Lib.hid hB0
  have HR0 := Lib.hid hR
  have HG := Lib.hid hG
  have HPs := Lib.hid (hp.keep hB0)
  have g0 : W.cell? ⟨w.heap.size + 1, 0, none⟩ = some (.int .i64 n) := hG.cell 0
  have g1 : W.cell? ⟨w.heap.size + 1, 1, none⟩ = some (.slice none 0 0) := hG.cell 1
  have a3 : decide (4096 < ((P.length : Nat) : Int)) = false := decide_eq_false (by omega)
  clear hB0 hR hG hW hp hc0
  go_enter Try.func44, Try.ntmps44
  go_wp2_with fail
  rw [← HW.out]
  refine (HC.out W).mono ?_
  rintro e w1 ⟨rfl, hb⟩
  have HB1 := Lib.hid hb
  have HC1 := Lib.hid (Coll.made w1)
  have HBM : Hid (Below W.heap.size W (w1.alloc (.map #[] 0))) := Lib.hid (hb.alloc hb.size _)
  have HMS : Hid (W.heap.size ≤ w1.heap.size) := Lib.hid hb.size
  clear hb
  go_wp2
  go_loopw [28] (fun x wr => ∃ i : Nat, i ≤ P.length ∧ x = .int .i64 i ∧ (∀ j, j < i → pErr n P j = 0) ∧ Coll wr w1.heap.size i (accF (prs P i)) ∧ Below W.heap.size W wr) (fun x _ => P.length - (intOf x).toNat)
  case atStart => exact ⟨0, by omega, rfl, fun j hj => by omega, HC1.out, HBM.out⟩
  case round =>
    obtain ⟨i, hi, rfl, hz, hcl, hb⟩ := hrel
    have HZ := Lib.hid hz
    have HCL := Lib.hid hcl
    have HBR := Lib.hid hb
    by_cases hlt : i < P.length
    · obtain ⟨b1, o1, rfl, q1, x1, x2⟩ := (HPs.out.keep hb).two i hlt
      have HEr : Hid (pErr n P i = if isV n (pAt P i).1 = true ∧ isV n (pAt P i).2 = true then 0 else 2) := Lib.hid rfl
      have HPS := Lib.hid (prs_succ P i hlt)
      have hLE := prs_le P i
      have hON := prs_one P i
      obtain ⟨T, hTe⟩ : ∃ T, T = pAt P i := ⟨_, rfl⟩
      rw [← hTe] at x1 x2 HEr HPS
      obtain ⟨p1, p2⟩ := T
      simp only at x1 x2 HEr
      have i1 : (i : Int) < ((P.length : Nat) : Int) := by omega
      have HVA := Lib.hid (fun w => HV.out p1 w)
      have HVB := Lib.hid (fun w => HV.out p2 w)
      have HRA : Hid (isV n p1 = true → 0 ≤ p1 ∧ p1 < n) := Lib.hid (fun h => by simpa [isV] using h)
      have HRB : Hid (isV n p2 = true → 0 ≤ p2 ∧ p2 < n) := Lib.hid (fun h => by simpa [isV] using h)
      generalize isV n p1 = va at *
      generalize isV n p2 = vb at *
      have HBV : Hid (Below W.heap.size W (wr.alloc (Obj.cells #[.int .i64 p1, .int .i64 p2] 56))) := Lib.hid (hb.alloc hb.size _)
      have HCV : Hid (Coll (wr.alloc (Obj.cells #[.int .i64 p1, .int .i64 p2] 56)) w1.heap.size i (accF (prs P i))) := Lib.hid (hcl.alloc _)
      obtain ⟨V, hV⟩ : ∃ V, V = wr.alloc (Obj.cells #[.int .i64 p1, .int .i64 p2] 56) := ⟨_, rfl⟩
      have HQV : Hid (Blk V wr.heap.size 56 #[.int .i64 p1, .int .i64 p2]) := Lib.hid (by rw [hV]; exact Blk.new _ _ _)
      rw [← hV] at HBV HCV
      have HVe := Lib.hid hV
      have HFAC : Hid (∀ x, Below V.heap.size V x → (x.cell? ⟨w.heap.size + 1, 0, none⟩ = some (.int .i64 n) ∧ x.cell? ⟨w.heap.size + 1, 1, none⟩ = some (.slice none 0 0) ∧ x.cell? ⟨wr.heap.size, 0, none⟩ = some (.int .i64 p1) ∧ x.cell? ⟨wr.heap.size, 1, none⟩ = some (.int .i64 p2))) :=
        Lib.hid fun x hx => ⟨(HG.out.below (HBV.out.trans (hx.mono HBV.out.size)) HG.out.lt).cell 0, (HG.out.below (HBV.out.trans (hx.mono HBV.out.size)) HG.out.lt).cell 1, (HQV.out.below hx HQV.out.lt).cell 0, (HQV.out.below hx HQV.out.lt).cell 1⟩
      have y0 : (wr.alloc (Obj.cells #[.int .i64 p1, .int .i64 p2] 56)).cell? ⟨w.heap.size + 1, 0, none⟩ = some (.int .i64 n) := by rw [← hV]; exact (HFAC.out _ (Below.refl _ V)).1
      have y1 : (wr.alloc (Obj.cells #[.int .i64 p1, .int .i64 p2] 56)).cell? ⟨w.heap.size + 1, 1, none⟩ = some (.slice none 0 0) := by rw [← hV]; exact (HFAC.out _ (Below.refl _ V)).2.1
      clear hb hTe hz hV hcl
      cases va
      · have HE2 : Hid (pErr n P i = 2) := Lib.hid (by rw [HEr.out]; rfl)
        go_wp2_with fail
        rw [← HVe.out]
        refine (HVA.out _).mono ?_
        rintro e w4 ⟨rfl, hb4⟩
        have hk4 := HBV.out.trans (hb4.mono HBV.out.size)
        have hRr : Blk w4 w.heap.size 31 #[.int .i64 0, .slice none 0 0] := HR0.out.below hk4 HR0.out.lt
        have r1 : w4.cell? ⟨w.heap.size, 0, none⟩ = some (.int .i64 0) := hRr.cell 0
        have r3 : w4.frozen? ⟨w.heap.size, 0, none⟩ = false := hRr.frozen 0
        have r2 : (w4.setCell ⟨w.heap.size, 0, none⟩ (.int .i64 0)).cell? ⟨w.heap.size, 1, none⟩ = some (.slice none 0 0) := (hRr.set_ 0 (.int .i64 0)).cell 1
        have r4 : (w4.setCell ⟨w.heap.size, 0, none⟩ (.int .i64 0)).frozen? ⟨w.heap.size, 1, none⟩ = false := (hRr.set_ 0 (.int .i64 0)).frozen 1
        have hRf := (hRr.set_ 0 (.int .i64 0)).set_ 1 (.slice none 0 0)
        have r5 : ((w4.setCell ⟨w.heap.size, 0, none⟩ (.int .i64 0)).setCell ⟨w.heap.size, 1, none⟩ (.slice none 0 0)).cell? ⟨w.heap.size, 0, none⟩ = some (.int .i64 0) := hRf.cell 0
        have r6 : ((w4.setCell ⟨w.heap.size, 0, none⟩ (.int .i64 0)).setCell ⟨w.heap.size, 1, none⟩ (.slice none 0 0)).cell? ⟨w.heap.size, 1, none⟩ = some (.slice none 0 0) := hRf.cell 1
        have HBF : Hid (Below w.heap.size w ((w4.setCell ⟨w.heap.size, 0, none⟩ (.int .i64 0)).setCell ⟨w.heap.size, 1, none⟩ (.slice none 0 0))) := Lib.hid (((HB0.out.trans (hk4.mono HB0.out.size)).setCell (p := ⟨w.heap.size, 0, none⟩) (Nat.le_refl _) _).setCell (p := ⟨w.heap.size, 1, none⟩) (Nat.le_refl _) _)
        clear hRr hRf
        clear hb4 hk4
        go_wp2
        refine bodyPost_ret (v := .tuple #[.agg #[.int .i64 0, .slice none 0 0], .int .i64 2]) (by simp [results, Try.results44, go_sem, r5, r6]) rfl ?_
        exact ⟨2, ⟨none, 0, rfl, RowAt.nil _ _ _ _, World.ownsRow_nil _ _ _ _, HBF.out⟩, Or.inl ⟨rfl, i, hlt, by rw [HE2.out]; decide⟩⟩
      · cases vb
        · have HE2 : Hid (pErr n P i = 2) := Lib.hid (by rw [HEr.out]; rfl)
          go_wp2_with fail
          rw [← HVe.out]
          refine (HVA.out _).mono ?_
          rintro e w3 ⟨rfl, hb3⟩
          obtain ⟨f0, f1, f2, f3⟩ := HFAC.out _ hb3
          have HK3 := Lib.hid hb3
          clear hb3
          go_wp2_with fail
          refine (HVB.out _).mono ?_
          rintro e w4 ⟨rfl, hb4⟩
          have hk4 := HBV.out.trans ((HK3.out.trans (hb4.mono HK3.out.size)).mono HBV.out.size)
          have hRr : Blk w4 w.heap.size 31 #[.int .i64 0, .slice none 0 0] := HR0.out.below hk4 HR0.out.lt
          have r1 : w4.cell? ⟨w.heap.size, 0, none⟩ = some (.int .i64 0) := hRr.cell 0
          have r3 : w4.frozen? ⟨w.heap.size, 0, none⟩ = false := hRr.frozen 0
          have r2 : (w4.setCell ⟨w.heap.size, 0, none⟩ (.int .i64 0)).cell? ⟨w.heap.size, 1, none⟩ = some (.slice none 0 0) := (hRr.set_ 0 (.int .i64 0)).cell 1
          have r4 : (w4.setCell ⟨w.heap.size, 0, none⟩ (.int .i64 0)).frozen? ⟨w.heap.size, 1, none⟩ = false := (hRr.set_ 0 (.int .i64 0)).frozen 1
          have hRf := (hRr.set_ 0 (.int .i64 0)).set_ 1 (.slice none 0 0)
          have r5 : ((w4.setCell ⟨w.heap.size, 0, none⟩ (.int .i64 0)).setCell ⟨w.heap.size, 1, none⟩ (.slice none 0 0)).cell? ⟨w.heap.size, 0, none⟩ = some (.int .i64 0) := hRf.cell 0
          have r6 : ((w4.setCell ⟨w.heap.size, 0, none⟩ (.int .i64 0)).setCell ⟨w.heap.size, 1, none⟩ (.slice none 0 0)).cell? ⟨w.heap.size, 1, none⟩ = some (.slice none 0 0) := hRf.cell 1
          have HBF : Hid (Below w.heap.size w ((w4.setCell ⟨w.heap.size, 0, none⟩ (.int .i64 0)).setCell ⟨w.heap.size, 1, none⟩ (.slice none 0 0))) := Lib.hid (((HB0.out.trans (hk4.mono HB0.out.size)).setCell (p := ⟨w.heap.size, 0, none⟩) (Nat.le_refl _) _).setCell (p := ⟨w.heap.size, 1, none⟩) (Nat.le_refl _) _)
          clear hRr hRf
          clear hb4 hk4
          go_wp2
          refine bodyPost_ret (v := .tuple #[.agg #[.int .i64 0, .slice none 0 0], .int .i64 2]) (by simp [results, Try.results44, go_sem, r5, r6]) rfl ?_
          exact ⟨2, ⟨none, 0, rfl, RowAt.nil _ _ _ _, World.ownsRow_nil _ _ _ _, HBF.out⟩, Or.inl ⟨rfl, i, hlt, by rw [HE2.out]; decide⟩⟩
        · have HE0 : Hid (pErr n P i = 0) := Lib.hid (by rw [HEr.out]; rfl)
          have hra := HRA.out rfl
          have hrb := HRB.out rfl
          have HSUM := Lib.hid (fun w h => HADD.out w1.heap.size i (by omega) (prs P i) hON p1 p2 1 (w64_of (by omega) (by omega)) (w64_of (by omega) (by omega)) (by omega) (by have := hLE (mnP (p1, p2), mxP (p1, p2)); omega) w h)
          rw [← HPS.out] at HSUM
          clear hra hrb hLE hON
          go_wp2_with fail
          rw [← HVe.out]
          refine (HVA.out _).mono ?_
          rintro e w3 ⟨rfl, hb3⟩
          obtain ⟨f0, f1, f2, f3⟩ := HFAC.out _ hb3
          have HK3 := Lib.hid hb3
          clear hb3
          go_wp2_with fail
          refine (HVB.out _).mono ?_
          rintro e w4 ⟨rfl, hb4⟩
          have HK4 : Hid (Below V.heap.size V w4) := Lib.hid (HK3.out.trans (hb4.mono HK3.out.size))
          obtain ⟨d0, d1, d2, d3⟩ := HFAC.out _ HK4.out
          clear hb4 f0 f1 f2 f3
          go_wp2_with fail
          refine (HSUM.out w4 (HCV.out.below HK4.out HCV.out.lt)).mono ?_
          rintro e w5 ⟨rfl, hc5, hg5⟩
          have hb5 := (HBV.out.trans (HK4.out.mono HBV.out.size)).grown hg5 (by have := HBV.out.size; have := HK4.out.size; omega) (fun j hj => by injection hj with hj; have := HMS.out; omega)
          have HB5 := Lib.hid hb5
          have HC5 := Lib.hid hc5
          clear hb5 hc5 hg5
          go_wp2
          go_roundw
          case rel => exact ⟨i + 1, by omega, by go_num, fun j hj => by
            by_cases e : j = i
            · subst e; exact HE0.out
            · exact HZ.out j (by omega), HC5.out, HB5.out⟩
          case measure => simp [intOf]; omega
    · obtain rfl : i = P.length := by omega
      have HCJ := Lib.hid (fun L hs hm => coll_join (t := cntT P P.length) (n := n) (L := L) (by omega) (prs_rng HZ.out) (fun a b _ _ _ => cntT_acc P P.length (Nat.le_refl _) HZ.out a b) hs hm)
      have HK5 := Lib.hid (fun p hp => make_k5 HZ.out p hp)
      have HK0 := Lib.hid (fun hp => make_k0 hn HZ.out hp)
      generalize accF (prs P P.length) = F at *
      obtain ⟨D, ho, hs⟩ := hcl
      have HS := Lib.hid hs
      have hbr := HBR.out
      clear hz hb hs
      go_wp2_with (first
        | (at_range; refine wpList_range_own _ rfl _ 89 rfl 56 3 lawK Try.underlying89 _ w1.heap.size P.length D rfl ho ?_; intro w0 hrg0 hg0 hs0)
        | go_in)
      go_frame
      have hb0 : Below W.heap.size W w0 := hbr.grown hg0 hbr.size (fun j hj => by cases hj)
      have HWR : Hid (W.heap.size ≤ wr.heap.size) := Lib.hid hbr.size
      clear hbr hg0 hs0
      generalize wr.heap.size = rb at *
      clear HCL HBR ho
      go_loopw [12] (fun _ wr => ∃ (left : Lit → Bool) (cnt : Nat), wr.ranges Try.prog 56 plE w1.heap.size rb P.length D left cnt ∧ (∀ p : Int × Int, W64 p.1 → W64 p.2 → Maps.has D (kl p) = true → left (kl p) = false → F p ≤ 50) ∧ Below W.heap.size W wr) (fun _ wr => wr.rangeLeft w1.heap.size rb)
      case atStart => exact ⟨_, _, hrg0, (fun p _ _ h1 h2 => by rw [h1] at h2; cases h2), hb0⟩
      case round =>
        obtain ⟨left, cnt, hrg, hle, hb⟩ := hrel
        have HLE := Lib.hid hle
        have HB := Lib.hid hb
        clear hle hb
        go_wp2_with (first
          | (at_next; refine wpList_next_coll rfl _ rfl w1.heap.size rb P.length D left cnt rfl hrg ?_ ?_)
          | go_in)
        · intro hc0 hl0
          have HALL := Lib.hid (HK0.out fun p h1 h2 => by
            cases h3 : Maps.has D (kl p) with
            | true => exact HLE.out p h1 h2 h3 (hl0 _)
            | false =>
              have h4 := (HS.out p h1 h2).1
              rw [h3] at h4
              have := of_decide_eq_false h4.symm
              omega)
          have HCO : Hid (Coll wr w1.heap.size P.length F) := Lib.hid ⟨D, hrg.owns, HS.out⟩
          clear hrg hl0 hc0
          go_wp2_with fail
          refine (HGR.out w1.heap.size P.length (by omega) F wr HCO.out).mono ?_
          rintro e w2 ⟨L, hL1, hL2, hL3, a9, c9, rfl, hEs, hown2, hb2⟩
          have hbw := HB.out.trans (hb2.mono HB.out.size)
          obtain rfl := HCJ.out L hL1 hL2
          generalize hJ : joinT (cntT P P.length) n n = J at *
          have HJ := Lib.hid hJ
          clear hJ
          have hRr : Blk w2 w.heap.size 31 #[.int .i64 0, .slice none 0 0] := HR0.out.below hbw HR0.out.lt
          have r1 : w2.cell? ⟨w.heap.size, 0, none⟩ = some (.int .i64 0) := hRr.cell 0
          have r3 : w2.frozen? ⟨w.heap.size, 0, none⟩ = false := hRr.frozen 0
          have r2 : (w2.setCell ⟨w.heap.size, 0, none⟩ (.int .i64 n)).cell? ⟨w.heap.size, 1, none⟩ = some (.slice none 0 0) := (hRr.set_ 0 (.int .i64 n)).cell 1
          have r4 : (w2.setCell ⟨w.heap.size, 0, none⟩ (.int .i64 n)).frozen? ⟨w.heap.size, 1, none⟩ = false := (hRr.set_ 0 (.int .i64 n)).frozen 1
          have hRf := (hRr.set_ 0 (.int .i64 n)).set_ 1 (.slice a9 J.length c9)
          have r5 : ((w2.setCell ⟨w.heap.size, 0, none⟩ (.int .i64 n)).setCell ⟨w.heap.size, 1, none⟩ (.slice a9 J.length c9)).cell? ⟨w.heap.size, 0, none⟩ = some (.int .i64 n) := hRf.cell 0
          have r6 : ((w2.setCell ⟨w.heap.size, 0, none⟩ (.int .i64 n)).setCell ⟨w.heap.size, 1, none⟩ (.slice a9 J.length c9)).cell? ⟨w.heap.size, 1, none⟩ = some (.slice a9 J.length c9) := hRf.cell 1
          have e0 := (ownsRow_setCell_below (ownsRow_setCell_below (hown2.mono (base' := w.heap.size + 1) (by have := HB.out.size; have := HR0.out.lt; omega)) (a := ⟨w.heap.size, 0, none⟩) (Nat.lt_succ_self _) (.int .i64 n)) (a := ⟨w.heap.size, 1, none⟩) (Nat.lt_succ_self _) (.slice a9 J.length c9))
          have E3 := Lib.hid (e0.mono (base' := w.heap.size) (by omega))
          obtain ⟨a', c', e1, e2⟩ := RowAt.of_own encE_len3 e0
          clear e0
          have E1 := Lib.hid e1
          have E2 := Lib.hid e2
          have HBF : Hid (Below w.heap.size w ((w2.setCell ⟨w.heap.size, 0, none⟩ (.int .i64 n)).setCell ⟨w.heap.size, 1, none⟩ (.slice a9 J.length c9))) := Lib.hid (((HB0.out.trans (hbw.mono HB0.out.size)).setCell (p := ⟨w.heap.size, 0, none⟩) (Nat.le_refl _) _).setCell (p := ⟨w.heap.size, 1, none⟩) (Nat.le_refl _) _)
          clear hRr hRf hbw hEs hown2 hb2 e1 e2 hL1 hL2 hL3
          go_wp2
          refine bodyPost_ret (v := .tuple #[.agg #[.int .i64 n, .slice a9 J.length c9], .int .i64 0]) (by simp [results, Try.results44, go_sem, r5, r6]) rfl ?_
          injection E1.out with q1 q2 q3
          have hq := E2.out
          rw [← q1] at hq
          refine ⟨0, ?_, Or.inr (Or.inr ⟨rfl, HZ.out, HALL.out⟩)⟩
          rw [if_pos rfl, if_pos rfl, HJ.out]
          exact ⟨a9, c9, rfl, hq, E3.out, HBF.out⟩
        · intro p1 p2 c w3 cnt1 hp1 hp2 hwc hlx hat hrg1 hlt1 hg1 hs1 hen
          have hF := (HS.out (p1, p2) hp1 hp2).2
          rw [hat] at hF
          have HcF : Hid (c = F (p1, p2)) := Lib.hid (by injection hF with hF; injection hF)
          have hb3 : Below W.heap.size W w3 := HB.out.grown hg1 HB.out.size (fun j hj => by injection hj with hj; have := HWR.out; omega)
          have HB3 := Lib.hid hb3
          have HRG := Lib.hid hrg1
          have HLL : Hid (w3.rangeLeft w1.heap.size rb = cnt1 ∧ wr.rangeLeft w1.heap.size rb = cnt) := Lib.hid ⟨hrg1.left_eq, hrg.left_eq⟩
          clear hF hrg1 hg1 hs1 hat hwc hrg
          by_cases h50 : 50 < c
          · have d50 : decide (50 < c) = true := decide_eq_true h50
            have hRr : Blk w3 w.heap.size 31 #[.int .i64 0, .slice none 0 0] := HR0.out.below hb3 HR0.out.lt
            have r1 : w3.cell? ⟨w.heap.size, 0, none⟩ = some (.int .i64 0) := hRr.cell 0
            have r3 : w3.frozen? ⟨w.heap.size, 0, none⟩ = false := hRr.frozen 0
            have r2 : (w3.setCell ⟨w.heap.size, 0, none⟩ (.int .i64 0)).cell? ⟨w.heap.size, 1, none⟩ = some (.slice none 0 0) := (hRr.set_ 0 (.int .i64 0)).cell 1
            have r4 : (w3.setCell ⟨w.heap.size, 0, none⟩ (.int .i64 0)).frozen? ⟨w.heap.size, 1, none⟩ = false := (hRr.set_ 0 (.int .i64 0)).frozen 1
            have hRf := (hRr.set_ 0 (.int .i64 0)).set_ 1 (.slice none 0 0)
            have r5 : ((w3.setCell ⟨w.heap.size, 0, none⟩ (.int .i64 0)).setCell ⟨w.heap.size, 1, none⟩ (.slice none 0 0)).cell? ⟨w.heap.size, 0, none⟩ = some (.int .i64 0) := hRf.cell 0
            have r6 : ((w3.setCell ⟨w.heap.size, 0, none⟩ (.int .i64 0)).setCell ⟨w.heap.size, 1, none⟩ (.slice none 0 0)).cell? ⟨w.heap.size, 1, none⟩ = some (.slice none 0 0) := hRf.cell 1
            have HBF : Hid (Below w.heap.size w ((w3.setCell ⟨w.heap.size, 0, none⟩ (.int .i64 0)).setCell ⟨w.heap.size, 1, none⟩ (.slice none 0 0))) := Lib.hid (((HB0.out.trans (hb3.mono HB0.out.size)).setCell (p := ⟨w.heap.size, 0, none⟩) (Nat.le_refl _) _).setCell (p := ⟨w.heap.size, 1, none⟩) (Nat.le_refl _) _)
            clear hRr hRf
            clear hb3
            go_wp2
            refine bodyPost_ret (v := .tuple #[.agg #[.int .i64 0, .slice none 0 0], .int .i64 5]) (by simp [results, Try.results44, go_sem, r5, r6]) rfl ?_
            exact ⟨5, ⟨none, 0, rfl, RowAt.nil _ _ _ _, World.ownsRow_nil _ _ _ _, HBF.out⟩, Or.inr (Or.inl ⟨rfl, HZ.out, HK5.out (p1, p2) (by rw [← HcF.out]; exact h50)⟩)⟩
          · have d50 : decide (50 < c) = false := decide_eq_false h50
            clear hb3
            go_wp2
            go_roundw
            case rel => exact ⟨_, cnt1, HRG.out, fun p h1 h2 h3 h4 => by
              by_cases e : p = (p1, p2)
              · subst e; rw [← HcF.out]; omega
              · refine HLE.out p h1 h2 h3 ?_
                have h5 : (kl p).sameKey (kl (p1, p2)) = false := Maps.sameKey_ne (fun e' => e (kl_inj h1 h2 hp1 hp2 e'))
                simpa [h5] using h4, HB3.out⟩
            case measure => rw [HLL.out.1, HLL.out.2]; exact hlt1
set_option maxHeartbeats 12800000 in
set_option maxRecDepth 100000 in
theorem pmake_bad (n : Int) (hn : n < 1 ∨ 12 < n) (b : Option Addr) (cp : Nat) (P : List (Int × Int))  (w : World) :
    Calls Try.prog 44 #[.int .i64 n, .slice b P.length cp] w (GivesGE w 0 [] 2) := by
  have HC := Lib.hid (fun w => check_any n none 0 [] (by simp) w (RowAt.nil _ _ _ _))
  have hc0 : chkG n [] = 2 := by unfold chkG; rw [if_pos (by omega)]
  rw [hc0] at HC
  unfold GivesGE
  unfold GivesN gv at *
  simp only [List.length_nil] at HC
  obtain ⟨W, hW⟩ : ∃ W, W = (w.alloc (Obj.cells #[.int .i64 0, .slice none 0 0] 31)).alloc (Obj.cells #[.int .i64 n, .slice none 0 0] 31) := ⟨_, rfl⟩
  have hB0 : Below w.heap.size w W := by rw [hW]; exact ((Below.refl _ w).alloc (Nat.le_refl _) _).alloc (by simp) _
  have hR : Blk W w.heap.size 31 #[.int .i64 0, .slice none 0 0] := by rw [hW]; exact (Blk.new _ _ _).alloc _
  have hG : Blk W (w.heap.size + 1) 31 #[.int .i64 n, .slice none 0 0] := by
    rw [hW]
    have h9 := Blk.new (w.alloc (Obj.cells #[.int .i64 0, .slice none 0 0] 31)) 31 #[.int .i64 n, .slice none 0 0]
    rwa [World.size_alloc] at h9
  have HW := Lib.hid hW
  have HB0 := Lib.hid hB0
  have HR0 := Lib.hid hR
  have g0 : W.cell? ⟨w.heap.size + 1, 0, none⟩ = some (.int .i64 n) := hG.cell 0
  have g1 : W.cell? ⟨w.heap.size + 1, 1, none⟩ = some (.slice none 0 0) := hG.cell 1
  clear hB0 hR hG hW hc0
  go_enter Try.func44, Try.ntmps44
  go_wp2_with fail
  rw [← HW.out]
  refine (HC.out W).mono ?_
  rintro e w1 ⟨rfl, hb⟩
  have hRr : Blk w1 w.heap.size 31 #[.int .i64 0, .slice none 0 0] := HR0.out.below hb HR0.out.lt
  have r1 : w1.cell? ⟨w.heap.size, 0, none⟩ = some (.int .i64 0) := hRr.cell 0
  have r3 : w1.frozen? ⟨w.heap.size, 0, none⟩ = false := hRr.frozen 0
  have r2 : (w1.setCell ⟨w.heap.size, 0, none⟩ (.int .i64 0)).cell? ⟨w.heap.size, 1, none⟩ = some (.slice none 0 0) := (hRr.set_ 0 (.int .i64 0)).cell 1
  have r4 : (w1.setCell ⟨w.heap.size, 0, none⟩ (.int .i64 0)).frozen? ⟨w.heap.size, 1, none⟩ = false := (hRr.set_ 0 (.int .i64 0)).frozen 1
  have hRf := (hRr.set_ 0 (.int .i64 0)).set_ 1 (.slice none 0 0)
  have r5 : ((w1.setCell ⟨w.heap.size, 0, none⟩ (.int .i64 0)).setCell ⟨w.heap.size, 1, none⟩ (.slice none 0 0)).cell? ⟨w.heap.size, 0, none⟩ = some (.int .i64 0) := hRf.cell 0
  have r6 : ((w1.setCell ⟨w.heap.size, 0, none⟩ (.int .i64 0)).setCell ⟨w.heap.size, 1, none⟩ (.slice none 0 0)).cell? ⟨w.heap.size, 1, none⟩ = some (.slice none 0 0) := hRf.cell 1
  have HBF : Hid (Below w.heap.size w ((w1.setCell ⟨w.heap.size, 0, none⟩ (.int .i64 0)).setCell ⟨w.heap.size, 1, none⟩ (.slice none 0 0))) := Lib.hid (((HB0.out.trans (hb.mono HB0.out.size)).setCell (p := ⟨w.heap.size, 0, none⟩) (Nat.le_refl _) _).setCell (p := ⟨w.heap.size, 1, none⟩) (Nat.le_refl _) _)
  clear hRr hRf
  clear hb
  go_wp2
  refine bodyPost_ret (v := .tuple #[.agg #[.int .i64 0, .slice none 0 0], .int .i64 2]) (by simp [results, Try.results44, go_sem, r5, r6]) rfl ?_
  exact ⟨none, 0, rfl, RowAt.nil _ _ _ _, World.ownsRow_nil _ _ _ _, HBF.out⟩
set_option maxHeartbeats 12800000 in
set_option maxRecDepth 100000 in
theorem pmake_many (n : Int) (hn0 : 1 ≤ n) (hn : n ≤ 12) (b : Option Addr) (cp : Nat) (P : List (Int × Int)) (hP : 4096 < P.length) (w : World) :
    Calls Try.prog 44 #[.int .i64 n, .slice b P.length cp] w (GivesGE w 0 [] 5) := by
  have HC := Lib.hid (fun w => check_any n none 0 [] (by simp) w (RowAt.nil _ _ _ _))
  have hc0 : chkG n [] = 0 := by unfold chkG; rw [if_neg (by omega)]; rfl
  rw [hc0] at HC
  unfold GivesGE
  unfold GivesN gv at *
  simp only [List.length_nil] at HC
  obtain ⟨W, hW⟩ : ∃ W, W = (w.alloc (Obj.cells #[.int .i64 0, .slice none 0 0] 31)).alloc (Obj.cells #[.int .i64 n, .slice none 0 0] 31) := ⟨_, rfl⟩
  have hB0 : Below w.heap.size w W := by rw [hW]; exact ((Below.refl _ w).alloc (Nat.le_refl _) _).alloc (by simp) _
  have hR : Blk W w.heap.size 31 #[.int .i64 0, .slice none 0 0] := by rw [hW]; exact (Blk.new _ _ _).alloc _
  have hG : Blk W (w.heap.size + 1) 31 #[.int .i64 n, .slice none 0 0] := by
    rw [hW]
    have h9 := Blk.new (w.alloc (Obj.cells #[.int .i64 0, .slice none 0 0] 31)) 31 #[.int .i64 n, .slice none 0 0]
    rwa [World.size_alloc] at h9
  have HW := Lib.hid hW
  have HB0 := Lib.hid hB0
  have HR0 := Lib.hid hR
  have g0 : W.cell? ⟨w.heap.size + 1, 0, none⟩ = some (.int .i64 n) := hG.cell 0
  have g1 : W.cell? ⟨w.heap.size + 1, 1, none⟩ = some (.slice none 0 0) := hG.cell 1
  have a3 : decide (4096 < ((P.length : Nat) : Int)) = true := decide_eq_true (by omega)
  clear hB0 hR hG hW hc0
  go_enter Try.func44, Try.ntmps44
  go_wp2_with fail
  rw [← HW.out]
  refine (HC.out W).mono ?_
  rintro e w1 ⟨rfl, hb⟩
  have hRr : Blk w1 w.heap.size 31 #[.int .i64 0, .slice none 0 0] := HR0.out.below hb HR0.out.lt
  have r1 : w1.cell? ⟨w.heap.size, 0, none⟩ = some (.int .i64 0) := hRr.cell 0
  have r3 : w1.frozen? ⟨w.heap.size, 0, none⟩ = false := hRr.frozen 0
  have r2 : (w1.setCell ⟨w.heap.size, 0, none⟩ (.int .i64 0)).cell? ⟨w.heap.size, 1, none⟩ = some (.slice none 0 0) := (hRr.set_ 0 (.int .i64 0)).cell 1
  have r4 : (w1.setCell ⟨w.heap.size, 0, none⟩ (.int .i64 0)).frozen? ⟨w.heap.size, 1, none⟩ = false := (hRr.set_ 0 (.int .i64 0)).frozen 1
  have hRf := (hRr.set_ 0 (.int .i64 0)).set_ 1 (.slice none 0 0)
  have r5 : ((w1.setCell ⟨w.heap.size, 0, none⟩ (.int .i64 0)).setCell ⟨w.heap.size, 1, none⟩ (.slice none 0 0)).cell? ⟨w.heap.size, 0, none⟩ = some (.int .i64 0) := hRf.cell 0
  have r6 : ((w1.setCell ⟨w.heap.size, 0, none⟩ (.int .i64 0)).setCell ⟨w.heap.size, 1, none⟩ (.slice none 0 0)).cell? ⟨w.heap.size, 1, none⟩ = some (.slice none 0 0) := hRf.cell 1
  have HBF : Hid (Below w.heap.size w ((w1.setCell ⟨w.heap.size, 0, none⟩ (.int .i64 0)).setCell ⟨w.heap.size, 1, none⟩ (.slice none 0 0))) := Lib.hid (((HB0.out.trans (hb.mono HB0.out.size)).setCell (p := ⟨w.heap.size, 0, none⟩) (Nat.le_refl _) _).setCell (p := ⟨w.heap.size, 1, none⟩) (Nat.le_refl _) _)
  clear hRr hRf
  clear hb
  go_wp2
  refine bodyPost_ret (v := .tuple #[.agg #[.int .i64 0, .slice none 0 0], .int .i64 5]) (by simp [results, Try.results44, go_sem, r5, r6]) rfl ?_
  exact ⟨none, 0, rfl, RowAt.nil _ _ _ _, World.ownsRow_nil _ _ _ _, HBF.out⟩
end Go.Proofs.Ytgfbihdnjidodaa

namespace Go.Proofs.Ytgfbihdnjidodaa
open Go.RowKit Go.Shelf Go.Proofs.Gr Go.Maps

theorem lawI : Keyed Try.prog 3 := int_keyed Try.underlying3
theorem key_int {z : Int} (h : W64 z) : keyOf Try.prog 3 (.int .i64 z) = some (.int .i64 z) := keyOf_int_mk Try.underlying3 h
theorem key_lit (z : Int) : WideAt.IsKeyLit (.int .i64 z) := trivial
/-- The place of a number in a list, or 0. -/
def ixZ (S : List Int) (z : Int) : Int := if S.contains z = true then (S.idxOf z : Int) else 0
theorem ixZ_snoc (S : List Int) (v z : Int) (hv : S.contains v = false) : ixZ (S ++ [v]) z = if z = v then (S.length : Int) else ixZ S z := by
  unfold ixZ
  by_cases e : z = v
  · subst e
    rw [if_pos rfl, if_pos (by simp)]
    have : z ∉ S := by simpa using hv
    rw [List.idxOf_append, if_neg this]; simp
  · rw [if_neg e]
    by_cases h : S.contains z = true
    · rw [if_pos h, if_pos (by simp at h; simp [h])]
      rw [List.idxOf_append, if_pos (by simpa using h)]
    · rw [if_neg h, if_neg (by simp at h; simp [h, e])]
/-- The block b is a map that holds the places of the numbers of a list. -/
def Idx (w : World) (b m : Nat) (S : List Int) : Prop := ∃ D : DataW Unit, w.ownsMap Try.prog 3 plE b m D ∧ ∀ z, W64 z → Maps.has D (.int .i64 z) = S.contains z ∧ D.atKey (.int .i64 z) (.lit (.int .i64 0)) = .lit (.int .i64 (ixZ S z))
theorem Idx.made (w : World) : Idx (w.alloc (.map #[] 0)) w.heap.size 0 [] := ⟨_, World.ownsMap_made w _ _ _, fun z _ => ⟨by simp [Maps.has], by simp [ixZ, DataW.atKey]⟩⟩
theorem Idx.lt {w : World} {b m : Nat} {S : List Int} (h : Idx w b m S) : b < w.heap.size := by
  obtain ⟨D, h1, _⟩ := h; exact h1.lt
theorem Idx.kept {w w' : World} {b m : Nat} {S : List Int} (h : Idx w b m S) {row : Option Nat} (hg : w.grownBy w' row) (hne : some b ≠ row) : Idx w' b m S := by
  obtain ⟨D, h1, h2⟩ := h; exact ⟨D, h1.kept hg hne, h2⟩
theorem Idx.alloc {w : World} {b m : Nat} {S : List Int} (h : Idx w b m S) (o : Obj) : Idx (w.alloc o) b m S := h.kept (World.grownBy_alloc w o none) (by simp)
theorem Idx.below {w w' : World} {b m B : Nat} {S : List Int} (h : Idx w b m S) (hb : Below B w w') (hB : b < B) : Idx w' b m S := by
  obtain ⟨D, ⟨es, clock, h1, h2⟩, h3⟩ := h
  exact ⟨D, ⟨es, clock, (hb.block b hB).trans h1, h2⟩, h3⟩
theorem Idx.put {b m : Nat} {S : List Int} {D : DataW Unit} (h : ∀ z, W64 z → Maps.has D (.int .i64 z) = S.contains z ∧ D.atKey (.int .i64 z) (.lit (.int .i64 0)) = .lit (.int .i64 (ixZ S z))) (hm : Maps.IsMap D) {v : Int} (hv : W64 v) (hn : S.contains v = false)
    {w' : World} (ho : w'.ownsMap Try.prog 3 plE b m (D.put (.int .i64 v) (.lit (.int .i64 (S.length : Int))))) : Idx w' b m (S ++ [v]) := by
  refine ⟨_, ho, fun z hz => ?_⟩
  rw [ixZ_snoc S v z hn]
  by_cases e : z = v
  · subst e
    rw [if_pos rfl]
    exact ⟨by rw [Maps.has_put_same hm (key_lit z)]; simp, by rw [Maps.atKey_put_same hm (key_lit z)]⟩
  · have hne : (Lit.int .i64 z) ≠ .int .i64 v := fun he => e (by injection he)
    rw [if_neg e, Maps.has_put_other hne, Maps.atKey_put_other hne]
    have h1 := h z hz
    exact ⟨by rw [h1.1]; by_cases h2 : z ∈ S <;> simp [h2, e], h1.2⟩
theorem sub_asc {n : Int} {S : List Int} (h : subE n S = 0) : S.Pairwise (· < ·) := by
  have h1 : ∀ i, i + 1 < S.length → iAt S i < iAt S (i + 1) := fun i hi => by
    have := firstE_all h (i + 1) hi
    unfold sErr at this
    split at this
    · omega
    · split at this
      · omega
      · rename_i h2; simp at h2; omega
  rw [List.pairwise_iff_getElem]
  intro i j hi hj hij
  rw [iAt_get, iAt_get]
  obtain ⟨d, rfl⟩ : ∃ d, j = i + 1 + d := ⟨j - i - 1, by omega⟩
  clear hij
  induction d with
  | zero => exact h1 i hj
  | succ d ih => exact Int.lt_trans (ih (by omega)) (h1 (i + 1 + d) hj)
theorem asc_nodup {S : List Int} (h : S.Pairwise (· < ·)) : S.Nodup := h.imp fun h => by omega
theorem ixZ_at {S : List Int} (h : S.Pairwise (· < ·)) (i : Nat) (hi : i < S.length) : ixZ S (iAt S i) = i := by
  unfold ixZ
  rw [← iAt_get S i hi]
  have hm : S.contains S[i] = true := by simp
  rw [if_pos hm]
  have := (asc_nodup h).idxOf_getElem i hi
  rw [this]
theorem ixZ_mem {S : List Int} {z : Int} (h : S.contains z = true) : 0 ≤ ixZ S z ∧ ixZ S z < S.length ∧ iAt S (ixZ S z).toNat = z := by
  unfold ixZ
  rw [if_pos h]
  have h1 : S.idxOf z < S.length := List.idxOf_lt_length_of_mem (by simpa using h)
  refine ⟨by omega, by omega, ?_⟩
  rw [Int.toNat_natCast, ← iAt_get S _ h1]
  exact List.getElem_idxOf h1
theorem asc_lt {S : List Int} (h : S.Pairwise (· < ·)) {i j : Nat} (hi : i < S.length) (hj : j < S.length) (hij : i ≤ j) : iAt S i ≤ iAt S j := by
  rcases Nat.lt_or_ge i j with h1 | h1
  · have := List.pairwise_iff_getElem.1 h i j hi hj h1
    rw [iAt_get, iAt_get] at this
    omega
  · obtain rfl : i = j := by omega
    exact Int.le_refl _
theorem asc_inj {S : List Int} (h : S.Pairwise (· < ·)) {i j : Nat} (hi : i < S.length) (hj : j < S.length) (he : iAt S i = iAt S j) : i = j := by
  have h1 := ixZ_at h i hi
  have h2 := ixZ_at h j hj
  rw [he, h2] at h1
  omega
theorem take_not {S : List Int} (h : S.Pairwise (· < ·)) (i : Nat) (hi : i < S.length) : (S.take i).contains (iAt S i) = false := by
  cases hc : (S.take i).contains (iAt S i) with
  | false => rfl
  | true =>
    have h1 : iAt S i ∈ S.take i := by simpa using hc
    obtain ⟨j, hj, he⟩ := List.mem_iff_getElem.1 h1
    rw [List.length_take] at hj
    rw [List.getElem_take, iAt_get] at he
    have := asc_inj h (show j < S.length by omega) hi he
    omega
theorem take_iAt (S : List Int) (i : Nat) (hi : i < S.length) : S.take (i + 1) = S.take i ++ [iAt S i] := by
  rw [List.take_succ_eq_append_getElem hi, iAt_get]
/-- What an edge adds to an induced graph. -/
def indO (S : List Int) (e : E) : Option ((Int × Int) × Int) := if S.contains e.a = true ∧ S.contains e.b = true then some ((mnP (ixZ S e.a, ixZ S e.b), mxP (ixZ S e.a, ixZ S e.b)), e.m) else none
def indA (L : List E) (S : List Int) : List ((Int × Int) × Int) := L.filterMap (indO S)
theorem indA_succ (L : List E) (S : List Int) (i : Nat) (h : i < L.length) : indA (L.take (i + 1)) S = indA (L.take i) S ++ (indO S (eAt L i)).toList := by
  unfold indA
  rw [List.take_succ_eq_append_getElem h, List.filterMap_append, eAt_get]
  cases hq : indO S (eAt L i) <;> simp [hq]
theorem indA_rng {n : Int} {L : List E} (hr : ∀ e ∈ L, 0 ≤ e.a ∧ e.a ≤ e.b ∧ e.b < n ∧ 1 ≤ e.m ∧ e.m ≤ 50) (S : List Int) : ∀ x ∈ indA L S, 1 ≤ x.2 ∧ x.2 ≤ 50 ∧ 0 ≤ x.1.1 ∧ x.1.1 ≤ x.1.2 ∧ x.1.2 < (S.length : Int) := by
  intro x hx
  obtain ⟨e, he, h1⟩ := List.mem_filterMap.1 hx
  unfold indO at h1
  split at h1
  · rename_i h2
    injection h1 with h1
    subst h1
    have h3 := hr e he
    have h4 := ixZ_mem h2.1
    have h5 := ixZ_mem h2.2
    refine ⟨h3.2.2.2.1, h3.2.2.2.2, ?_⟩
    unfold mnP mxP
    simp only
    split <;> split <;> omega
  · cases h1
theorem indA_bound {n : Int} {L : List E} (hr : ∀ e ∈ L, 0 ≤ e.a ∧ e.a ≤ e.b ∧ e.b < n ∧ 1 ≤ e.m ∧ e.m ≤ 50) (S : List Int) (i : Nat) (p : Int × Int) : accF (indA (L.take i) S) p ≤ 50 * L.length := by
  have h1 := accF_le (indA (L.take i) S) 50 (by omega) (fun x hx => (indA_rng (fun e he => hr e (List.mem_of_mem_take he)) S x hx).2.1) p
  have h2 : (indA (L.take i) S).length ≤ L.length := by
    have := List.length_filterMap_le (indO S) (L.take i)
    unfold indA
    rw [List.length_take] at this
    omega
  have h3 : (50 : Int) * ((indA (L.take i) S).length : Int) ≤ 50 * (L.length : Int) := Int.mul_le_mul_of_nonneg_left (by omega) (by omega)
  omega
theorem indA_acc {n : Int} {L : List E} (hr : ∀ e ∈ L, 0 ≤ e.a ∧ e.a ≤ e.b ∧ e.b < n ∧ 1 ≤ e.m ∧ e.m ≤ 50) {S : List Int} (hS : S.Pairwise (· < ·)) (x y : Nat) (hx : x < S.length) (hy : y < S.length) (hxy : x ≤ y) : betw (iAt S x) (iAt S y) L = accF (indA L S) ((x : Int), (y : Int)) := by
  have h0 := asc_lt hS hx hy hxy
  unfold betw
  rw [Int.min_eq_left h0, Int.max_eq_right h0]
  induction L with
  | nil => rfl
  | cons e r ih =>
    have h1 := ih (fun z hz => hr z (List.mem_cons_of_mem _ hz))
    have h2 := hr e (by simp)
    rw [bet, h1]
    unfold indA
    rw [List.filterMap_cons]
    unfold indO
    by_cases hc : S.contains e.a = true ∧ S.contains e.b = true
    · rw [if_pos hc]
      simp only
      rw [accF]
      congr 1
      have h4 := ixZ_mem hc.1
      have h5 := ixZ_mem hc.2
      have hle : ixZ S e.a ≤ ixZ S e.b := by
        refine Int.not_lt.1 fun hlt => ?_
        have h6 := List.pairwise_iff_getElem.1 hS (ixZ S e.b).toNat (ixZ S e.a).toNat (by omega) (by omega) (by omega)
        rw [iAt_get, iAt_get, h4.2.2, h5.2.2] at h6
        omega
      have hmn : mnP (ixZ S e.a, ixZ S e.b) = ixZ S e.a := by unfold mnP; rw [if_neg (by simp only; omega)]
      have hmx : mxP (ixZ S e.a, ixZ S e.b) = ixZ S e.b := by
        unfold mxP
        simp only
        split
        · rfl
        · omega
      simp only [hmn, hmx, Prod.mk.injEq]
      by_cases hk : e.a = iAt S x ∧ e.b = iAt S y
      · rw [if_pos hk, if_pos]
        rw [hk.1, hk.2, ixZ_at hS x hx, ixZ_at hS y hy]
        exact ⟨rfl, rfl⟩
      · rw [if_neg hk, if_neg]
        rintro ⟨k1, k2⟩
        refine hk ⟨?_, ?_⟩
        · rw [← h4.2.2, k1, Int.toNat_natCast]
        · rw [← h5.2.2, k2, Int.toNat_natCast]
    · rw [if_neg hc]
      simp only
      have : ¬ (e.a = iAt S x ∧ e.b = iAt S y) := fun hk => hc (by
        rw [hk.1, hk.2, ← iAt_get S x hx, ← iAt_get S y hy]
        simp)
      rw [if_neg this]
      exact Int.zero_add _
end Go.Proofs.Ytgfbihdnjidodaa

namespace Go.Proofs.Ytgfbihdnjidodaa
open Go.RowKit Go.Shelf Go.Proofs.Gr Go.Maps
attribute [local go_sem] Oper.semAt_some

end Go.Proofs.Ytgfbihdnjidodaa

namespace Go.Proofs.Ytgfbihdnjidodaa
open Go.RowKit Go.Shelf Go.Proofs.Gr Go.Maps
attribute [local go_sem] Oper.semAt_some

/-- What the edges add under new numbers. -/
def relA (L : List E) (S : List Int) : List ((Int × Int) × Int) := L.map fun e => ((mnP (iAt S e.a.toNat, iAt S e.b.toNat), mxP (iAt S e.a.toNat, iAt S e.b.toNat)), e.m)
theorem relA_succ (L : List E) (S : List Int) (i : Nat) (h : i < L.length) : relA (L.take (i + 1)) S = relA (L.take i) S ++ [((mnP (iAt S (eAt L i).a.toNat, iAt S (eAt L i).b.toNat), mxP (iAt S (eAt L i).a.toNat, iAt S (eAt L i).b.toNat)), (eAt L i).m)] := by
  unfold relA
  rw [List.take_succ_eq_append_getElem h, List.map_append, eAt_get]; rfl
/-- The new graph. -/
def relG (L : List E) (S : List Int) : List E := joinT (fun x y => betw (ixZ S x) (ixZ S y) L) S.length S.length
theorem nErr_rng {n : Int} {S : List Int} {i : Nat} (h : nErr n S i = 0) : 0 ≤ iAt S i ∧ iAt S i < n ∧ (S.take i).contains (iAt S i) = false := by
  unfold nErr at h
  split at h
  · omega
  · split at h
    · omega
    · rename_i h1 h2
      exact ⟨by omega, by omega, by simpa using h2⟩
theorem nErr_nodup {n : Int} {S : List Int} (h : ∀ j, j < S.length → nErr n S j = 0) : S.Nodup := by
  rw [List.nodup_iff_pairwise_ne, List.pairwise_iff_getElem]
  intro i j hi hj hij he
  have h1 := (nErr_rng (h j hj)).2.2
  rw [← iAt_get S j hj, ← he] at h1
  have : S[i] ∈ S.take j := List.mem_iff_getElem.2 ⟨i, by rw [List.length_take]; omega, by rw [List.getElem_take]⟩
  simp [this] at h1
theorem ren_all {S : List Int} (h : ∀ j, j < S.length → nErr S.length S j = 0) (x : Nat) (hx : x < S.length) : S.contains (x : Int) = true := by
  cases hc : S.contains (x : Int) with
  | true => rfl
  | false =>
    have hm : (x : Int) ∉ S := by simpa using hc
    have h1 := len_le ((x : Int) :: S) ((List.range S.length).map fun k : Nat => (k : Int)) (List.pairwise_cons.2 ⟨fun y hy e => hm (e ▸ hy), nErr_nodup h⟩) fun y hy => by
      rw [List.mem_map]
      rcases List.mem_cons.1 hy with rfl | hy
      · exact ⟨x, List.mem_range.2 hx, rfl⟩
      · obtain ⟨j, hj, rfl⟩ := List.mem_iff_getElem.1 hy
        have h2 := nErr_rng (h j hj)
        rw [← iAt_get S j hj] at h2
        exact ⟨S[j].toNat, List.mem_range.2 (by omega), by omega⟩
    rw [List.length_cons, List.length_map, List.length_range] at h1
    omega
theorem ren_ix {S : List Int} (h : ∀ j, j < S.length → nErr S.length S j = 0) (i : Nat) (hi : i < S.length) : ixZ S (iAt S i) = i := by
  unfold ixZ
  rw [← iAt_get S i hi, if_pos (by simp), (nErr_nodup h).idxOf_getElem i hi]
theorem relA_rng {L : List E} {S : List Int} (hr : ∀ e ∈ L, 0 ≤ e.a ∧ e.a ≤ e.b ∧ e.b < (S.length : Int) ∧ 1 ≤ e.m ∧ e.m ≤ 50) (h : ∀ j, j < S.length → nErr S.length S j = 0) : ∀ x ∈ relA L S, 1 ≤ x.2 ∧ x.2 ≤ 50 ∧ 0 ≤ x.1.1 ∧ x.1.1 ≤ x.1.2 ∧ x.1.2 < (S.length : Int) := by
  intro x hx
  obtain ⟨e, he, rfl⟩ := List.mem_map.1 hx
  have h3 := hr e he
  have h4 := nErr_rng (h e.a.toNat (by omega))
  have h5 := nErr_rng (h e.b.toNat (by omega))
  refine ⟨h3.2.2.2.1, h3.2.2.2.2, ?_⟩
  unfold mnP mxP
  simp only
  split <;> split <;> omega
theorem relA_bound {L : List E} {S : List Int} (hr : ∀ e ∈ L, 0 ≤ e.a ∧ e.a ≤ e.b ∧ e.b < (S.length : Int) ∧ 1 ≤ e.m ∧ e.m ≤ 50) (i : Nat) (p : Int × Int) : accF (relA (L.take i) S) p ≤ 50 * L.length := by
  have h1 := accF_le (relA (L.take i) S) 50 (by omega) (fun x hx => by
    obtain ⟨e, he, rfl⟩ := List.mem_map.1 hx
    exact (hr e (List.mem_of_mem_take he)).2.2.2.2) p
  have h2 : (relA (L.take i) S).length ≤ L.length := by unfold relA; rw [List.length_map, List.length_take]; omega
  have h3 : (50 : Int) * ((relA (L.take i) S).length : Int) ≤ 50 * (L.length : Int) := Int.mul_le_mul_of_nonneg_left (by omega) (by omega)
  omega
theorem relA_acc {L : List E} {S : List Int} (hr : ∀ e ∈ L, 0 ≤ e.a ∧ e.a ≤ e.b ∧ e.b < (S.length : Int) ∧ 1 ≤ e.m ∧ e.m ≤ 50) (h : ∀ j, j < S.length → nErr S.length S j = 0) (x y : Nat) (hx : x < S.length) (hy : y < S.length) (hxy : x ≤ y) : betw (ixZ S x) (ixZ S y) L = accF (relA L S) ((x : Int), (y : Int)) := by
  have hX := ixZ_mem (ren_all h x hx)
  have hY := ixZ_mem (ren_all h y hy)
  unfold betw
  induction L with
  | nil => rfl
  | cons e r ih =>
    have h1 := ih (fun z hz => hr z (List.mem_cons_of_mem _ hz))
    have h2 := hr e (by simp)
    rw [bet, h1]
    show _ = accF (_ :: _) _
    rw [accF]
    congr 1
    have ha : e.a.toNat < S.length := by omega
    have hb : e.b.toNat < S.length := by omega
    have ea := ren_ix h e.a.toNat ha
    have eb := ren_ix h e.b.toNat hb
    have key : (e.a = min (ixZ S x) (ixZ S y) ∧ e.b = max (ixZ S x) (ixZ S y)) ↔ (mnP (iAt S e.a.toNat, iAt S e.b.toNat), mxP (iAt S e.a.toNat, iAt S e.b.toNat)) = ((x : Int), (y : Int)) := by
      rw [Prod.mk.injEq]
      constructor
      · rintro ⟨k1, k2⟩
        unfold mnP mxP
        simp only
        rcases Int.le_total (ixZ S x) (ixZ S y) with h3 | h3
        · rw [Int.min_eq_left h3] at k1
          rw [Int.max_eq_right h3] at k2
          rw [k1, k2, hX.2.2, hY.2.2]
          split <;> split <;> omega
        · rw [Int.min_eq_right h3] at k1
          rw [Int.max_eq_left h3] at k2
          rw [k1, k2, hX.2.2, hY.2.2]
          split <;> split <;> omega
      · unfold mnP mxP
        simp only
        rintro ⟨k1, k2⟩
        by_cases h3 : iAt S e.b.toNat < iAt S e.a.toNat
        · rw [if_pos h3] at k1
          rw [if_neg (by omega)] at k2
          rw [k2] at ea
          rw [k1] at eb
          omega
        · rw [if_neg h3] at k1
          have k3 : iAt S e.b.toNat = (y : Int) := by
            split at k2
            · exact k2
            · omega
          rw [k1] at ea
          rw [k3] at eb
          omega
    by_cases hk : e.a = min (ixZ S x) (ixZ S y) ∧ e.b = max (ixZ S x) (ixZ S y)
    · rw [if_pos hk, if_pos (key.1 hk)]
    · rw [if_neg hk, if_neg (fun h => hk (key.2 h))]
end Go.Proofs.Ytgfbihdnjidodaa

namespace Go.Proofs.Ytgfbihdnjidodaa
open Go.RowKit Go.Shelf Go.Proofs.Gr
attribute [local go_sem] Oper.semAt_some

/-- The table of new numbers, filled as far as a pair of old ones. -/
def ixN (S : List Int) (x : Nat) : Nat := (ixZ S x).toNat
def partQ (L : List E) (S : List Int) (i k : Nat) : Nat → Nat → Int := fun x y => if x ≤ y ∧ (min (ixN S x) (ixN S y) < i ∨ (min (ixN S x) (ixN S y) = i ∧ max (ixN S x) (ixN S y) < k)) then betw (ixZ S x) (ixZ S y) L else 0
theorem partQ_zero (L : List E) (S : List Int) (x y : Nat) : partQ L S 0 0 x y = 0 := by unfold partQ; rw [if_neg (by omega)]
theorem betw_symm (u v : Int) (L : List E) : betw u v L = betw v u L := by unfold betw; rw [Int.min_comm, Int.max_comm]
theorem ixN_at {S : List Int} (h : ∀ j, j < S.length → nErr S.length S j = 0) {i X : Nat} (hi : i < S.length) (hX : iAt S i = (X : Int)) : ixN S X = i := by
  unfold ixN; rw [← hX, ren_ix h i hi]; rfl
theorem ixN_back {S : List Int} (h : ∀ j, j < S.length → nErr S.length S j = 0) {x : Nat} (hx : x < S.length) : iAt S (ixN S x) = x ∧ ixN S x < S.length := by
  have h1 := ixZ_mem (ren_all h x hx)
  exact ⟨h1.2.2, by unfold ixN; omega⟩
theorem partQ_set (L : List E) {S : List Int} (h : ∀ j, j < S.length → nErr S.length S j = 0) {i k X Y : Nat} (hi : i ≤ k) (hk : k < S.length) (hX : (if iAt S k < iAt S i then iAt S k else iAt S i) = (X : Int)) (hY : (if iAt S i < iAt S k then iAt S k else iAt S i) = (Y : Int)) (x y : Nat) (hx : x < S.length) (hy : y < S.length) :
    partQ L S i (k + 1) x y = if x = X ∧ y = Y then betw (i : Int) (k : Int) L else partQ L S i k x y := by
  have bx := ixN_back h hx
  have by' := ixN_back h hy
  have zx : ixZ S x = (ixN S x : Int) := by unfold ixN; have := (ixZ_mem (ren_all h x hx)).1; omega
  have zy : ixZ S y = (ixN S y : Int) := by unfold ixN; have := (ixZ_mem (ren_all h y hy)).1; omega
  unfold partQ
  rw [zx, zy]
  by_cases e : x = X ∧ y = Y
  · rw [if_pos e]
    obtain ⟨rfl, rfl⟩ := e
    by_cases h1 : iAt S k < iAt S i
    · rw [if_pos h1] at hX
      rw [if_neg (by omega)] at hY
      have e1 := ixN_at h hk hX
      have e2 := ixN_at h (by omega) hY
      rw [e1, e2, if_pos (by omega)]
      exact betw_symm _ _ _
    · rw [if_neg h1] at hX
      have hY' : iAt S k = (y : Int) := by split at hY <;> omega
      have e1 := ixN_at h (by omega) hX
      have e2 := ixN_at h hk hY'
      rw [e1, e2, if_pos (by omega)]
  · rw [if_neg e]
    by_cases h2 : x ≤ y ∧ (min (ixN S x) (ixN S y) < i ∨ (min (ixN S x) (ixN S y) = i ∧ max (ixN S x) (ixN S y) < k))
    · rw [if_pos h2, if_pos (by omega)]
    · rw [if_neg h2, if_neg]
      rintro ⟨h3, h4⟩
      refine e ?_
      have h5 : min (ixN S x) (ixN S y) = i ∧ max (ixN S x) (ixN S y) = k := by omega
      rcases Nat.le_total (ixN S x) (ixN S y) with h6 | h6
      · have e1 : ixN S x = i := by omega
        have e2 : ixN S y = k := by omega
        rw [e1] at bx
        rw [e2] at by'
        rw [bx.1, by'.1] at hX hY
        split at hX <;> split at hY <;> omega
      · have e1 : ixN S x = k := by omega
        have e2 : ixN S y = i := by omega
        rw [e1] at bx
        rw [e2] at by'
        rw [bx.1, by'.1] at hX hY
        split at hX <;> split at hY <;> omega
theorem partQ_next (L : List E) {S : List Int} (h : ∀ j, j < S.length → nErr S.length S j = 0) (i x y : Nat) (hx : x < S.length) (hy : y < S.length) : partQ L S (i + 1) (i + 1) x y = partQ L S i S.length x y := by
  have bx := ixN_back h hx
  have by' := ixN_back h hy
  unfold partQ
  by_cases h1 : x ≤ y ∧ (min (ixN S x) (ixN S y) < i ∨ (min (ixN S x) (ixN S y) = i ∧ max (ixN S x) (ixN S y) < S.length))
  · rw [if_pos h1, if_pos (by omega)]
  · rw [if_neg h1, if_neg (by omega)]
theorem relG_part (L : List E) {S : List Int} (h : ∀ j, j < S.length → nErr S.length S j = 0) : joinT (partQ L S S.length S.length) S.length S.length = relG L S :=
  joinT_congr _ _ _ _ fun a b h1 h2 h3 => by
    have bx := ixN_back h h1
    unfold partQ
    rw [if_pos ⟨h2, .inl (by omega)⟩]

end Go.Proofs.Ytgfbihdnjidodaa

namespace Go.Proofs.Ytgfbihdnjidodaa
open Go.RowKit Go.Shelf Go.Proofs.Gr
attribute [local go_sem] Oper.semAt_some

/-- A block of cells, as a list. -/
theorem RowAt.of_blk {α : Type} {k : Nat} {enc : α → List Value} (hk : ∀ x, (enc x).length = k) {w : World} {g : Nat} {t : TypeId} {cs : Array Value} {L : List α} (h : Blk w g t cs) (hc : cs.toList = flat enc L) : RowAt k enc w (some ⟨g, 0, none⟩) L := by
  intro j hj
  refine ⟨g, 0, rfl, h.lt, fun i hi => ?_⟩
  rw [Nat.zero_add, h.cell, ← Array.getElem?_toList, hc, flat_at hk L j i hj hi]
/-- Two lists of ints, compared by the library. -/
theorem pequalI_any (a b : Option Addr) (c d : Nat) (X Y : List Int) (hX : X.length ≤ 1000000) (hY : Y.length ≤ 1000000) (w : World) (hx : IsAt w a X) (hy : IsAt w b Y) :
    Calls Try.prog 25 #[.slice a X.length c, .slice b Y.length d] w (GivesB w (decide (X = Y))) := by
  by_cases hl : X.length = Y.length
  · by_cases h0 : X.length = 0
    · have e1 : X = [] := List.length_eq_zero_iff.1 h0
      have e2 : Y = [] := List.length_eq_zero_iff.1 (hl ▸ h0)
      subst e1 e2
      refine (Try.slices_Equal_int_empty a b c 0 d w (by omega)).mono ?_
      rintro e w' ⟨rfl, rfl⟩
      exact ⟨by simp, Below.refl _ _⟩
    · obtain ⟨b1, o1, rfl, -, -⟩ := hx.one 0 (by omega)
      obtain ⟨b2, o2, rfl, -, -⟩ := hy.one 0 (by omega)
      refine (Try.slices_Equal_int b1 o1 X.length c b2 o2 Y.length d X Y w (Nat.le_refl _) (Nat.le_refl _) (by omega) (by omega) (fun j hj => ?_) (fun j hj => ?_)).mono ?_
      · obtain ⟨b', o', h1, h2, h3⟩ := hx.one j hj
        injection h1 with h1
        injection h1 with e1 e2
        subst e1 e2
        exact h3
      · obtain ⟨b', o', h1, h2, h3⟩ := hy.one j hj
        injection h1 with h1
        injection h1 with e1 e2
        subst e1 e2
        exact h3
      · rintro e w' ⟨rfl, q, rfl⟩
        refine ⟨?_, below_drewN (Below.refl _ _) q⟩
        rw [List.take_length, List.take_length, Bool.beq_eq_decide_eq]
  · refine (Try.slices_Equal_int_lens a b X.length c Y.length d w hl).mono ?_
    rintro e w' ⟨rfl, rfl⟩
    exact ⟨by rw [decide_eq_false (fun h => hl (by rw [h]))], Below.refl _ _⟩
/-- The house. -/
def hsE : List E := [⟨0, 1, 2⟩, ⟨0, 3, 1⟩, ⟨1, 2, 1⟩, ⟨2, 2, 1⟩, ⟨2, 3, 1⟩]
def hsP : List (Int × Int) := [(3, 2), (1, 0), (2, 2), (0, 1), (0, 3), (2, 1)]
def hsI : List E := [⟨0, 1, 2⟩, ⟨0, 2, 1⟩]
theorem hs_chk : chkG 4 hsE = 0 := by decide
theorem hs_right : Right 4 hsE := right_of hs_chk
theorem hs_err (j : Nat) (hj : j < hsP.length) : pErr 4 hsP j = 0 := by
  have : ∀ j : Fin 6, pErr 4 hsP j = 0 := by decide
  exact this ⟨j, hj⟩
theorem hs_cnt (x y : Nat) (hx : x < 4) (hy : y < 4) : cntT hsP hsP.length x y ≤ 50 := by
  have : ∀ x y : Fin 4, cntT hsP 6 x y ≤ 50 := by decide
  exact this ⟨x, hx⟩ ⟨y, hy⟩
theorem hs_join : joinT (cntT hsP hsP.length) 4 4 = hsE := by decide
theorem hs_make (b : Option Addr) (cp : Nat) (w : World) (hp : PsAt w b hsP) : Calls Try.prog 44 #[.int .i64 4, .slice b 6 cp] w (fun e w' => ∃ a c, e = .returned (.tuple #[.agg #[.int .i64 4, .slice a 5 c], .int .i64 0]) ∧ EsAt w' a hsE ∧ Below w.heap.size w w') := by
  refine (pmake_ok 4 (by decide) (by decide) b cp hsP (by decide) w hp).mono ?_
  rintro e w' ⟨k, ⟨a, c, rfl, h1, -, h3⟩, h⟩
  rcases h with ⟨rfl, j, hj, hk⟩ | ⟨rfl, -, x, y, hx, hy, hk⟩ | ⟨rfl, -, -⟩
  · exact absurd (hs_err j hj) hk
  · have := hs_cnt x y hx hy; omega
  · rw [if_pos rfl, hs_join] at h1
    exact ⟨a, c, by rw [if_pos rfl, if_pos rfl, hs_join]; rfl, h1, h3⟩
theorem hs_genus (a : Option Addr) (c : Nat) (w : World) (h : EsAt w a hsE) : Calls Try.prog 36 #[.agg #[.int .i64 4, .slice a 5 c]] w (fun e w' => e = .returned (.tuple #[.int .i64 3, .int .i64 0]) ∧ Below w.heap.size w w') := by
  refine (pGenus_any 4 a c hsE (by decide) w h).mono ?_
  rintro e w' ⟨rfl, hb⟩
  exact ⟨by rw [hs_chk, if_pos rfl, show genU 4 hsE = 3 by decide]; rfl, hb⟩
theorem hs_v : chkV 4 hsE [2] = 0 := by decide
theorem hs_s01 : chkS 4 hsE [0, 1] = 0 := by decide
theorem hs_same (a b : Option Addr) (c d : Nat) (w : World) (h1 : EsAt w a hsE) (h2 : EsAt w b hsE) : Calls Try.prog 14 #[.agg #[.int .i64 4, .slice a 5 c], .agg #[.int .i64 4, .slice b 5 d]] w (fun e w' => e = .returned (.bool true) ∧ Below w.heap.size w w') := same_true 4 a b c d hsE (by decide) w h1 h2
theorem hs_sameI (a b : Option Addr) (c d : Nat) (w : World) (h1 : EsAt w a hsI) (h2 : EsAt w b hsI) : Calls Try.prog 14 #[.agg #[.int .i64 3, .slice a 2 c], .agg #[.int .i64 3, .slice b 2 d]] w (fun e w' => e = .returned (.bool true) ∧ Below w.heap.size w w') := same_true 3 a b c d hsI (by decide) w h1 h2
theorem hs_eqN (a b : Option Addr) (c d : Nat) (w : World) (h1 : IsAt w a [1, 3]) (h2 : IsAt w b [1, 3]) : Calls Try.prog 25 #[.slice a 2 c, .slice b 2 d] w (fun e w' => e = .returned (.bool true) ∧ Below w.heap.size w w') := pequalI_any a b c d [1, 3] [1, 3] (by decide) (by decide) w h1 h2
theorem hs_eqC (a b : Option Addr) (c d : Nat) (w : World) (h1 : IsAt w a [2, 3]) (h2 : IsAt w b [2, 3]) : Calls Try.prog 25 #[.slice a 2 c, .slice b 2 d] w (fun e w' => e = .returned (.bool true) ∧ Below w.heap.size w w') := pequalI_any a b c d [2, 3] [2, 3] (by decide) (by decide) w h1 h2
end Go.Proofs.Ytgfbihdnjidodaa

namespace Go.Proofs.Ytgfbihdnjidodaa
open Go.RowKit Go.Shelf Go.Proofs.Gr
attribute [local go_sem] Oper.semAt_some

theorem light_len {n : Int} {L : List E} (h : lightG n L = true) : L.length ≤ 40 := by
  unfold lightG at h
  simp only [Bool.and_eq_true, decide_eq_true_eq] at h
  exact h.1
theorem nat_of_chk {n : Int} {L : List E} (h : chkG n L = 0) : ∃ N : Nat, n = N ∧ 1 ≤ N ∧ N ≤ 12 := by
  have := chkG_n h
  exact ⟨n.toNat, by omega, by omega, by omega⟩
end Go.Proofs.Ytgfbihdnjidodaa

namespace Go.Proofs.Ytgfbihdnjidodaa
open Go.RowKit Go.Shelf Go.Proofs.Gr
attribute [local go_sem] Oper.semAt_some

theorem chkV_one {n : Int} {L : List E} (h0 : chkG n L = 0) (v : Int) : chkV n L [v] = if isV n v = true then 0 else 2 := by
  unfold chkV; rw [if_neg (by omega)]; simp
theorem chkV_two {n : Int} {L : List E} (h0 : chkG n L = 0) (v u : Int) : chkV n L [v, u] = if isV n v = true ∧ isV n u = true then 0 else 2 := by
  unfold chkV; rw [if_neg (by omega)]; simp
theorem chkV_bad {n : Int} {L : List E} (h0 : chkG n L ≠ 0) (l : List Int) : chkV n L l = chkG n L := by
  unfold chkV; rw [if_pos h0]
theorem deg_eq {N : Nat} {L : List E} (hR : Right N L) (v : Int) : sumL (othE v) L + 2 * sumL (loopE v) L = valZ v L N + 2 * betw v v L := by
  rw [valZ_oth v L hR.rng]
  unfold betw
  rw [Int.min_self, Int.max_self, bet_loop]
end Go.Proofs.Ytgfbihdnjidodaa

namespace Go.Proofs.Ytgfbihdnjidodaa
open Go.RowKit Go.Shelf Go.Proofs.Gr
attribute [local go_sem] Oper.semAt_some

theorem same_any (m : Int) (a1 a2 : Option Addr) (c1 c2 : Nat) (M : List E) (w : World) (hM : M.length ≤ 100000) (h1 : EsAt w a1 M) (h2 : EsAt w a2 M) :
    Calls Try.prog 14 #[.agg #[.int .i64 m, .slice a1 M.length c1], .agg #[.int .i64 m, .slice a2 M.length c2]] w (fun e w' => e = .returned (.bool true) ∧ Below w.heap.size w w') := same_true m a1 a2 c1 c2 M hM w h1 h2
theorem equalI_same (K : List Int) (hK : K.length ≤ 1000000) (b : Option Addr) (d : Nat) (b2 : Option Addr) (d2 : Nat) (w : World) (p : IsAt w b K) (q : IsAt w b2 K) :
    Calls Try.prog 25 #[.slice b K.length d, .slice b2 K.length d2] w (fun e w' => e = .returned (.bool true) ∧ Below w.heap.size w w') := by
  have := pequalI_any b b2 d d2 _ _ hK hK w p q
  rw [decide_eq_true rfl] at this
  exact this
theorem chkS_g {n : Int} {L : List E} (h : chkG n L ≠ 0) (S : List Int) : chkS n L S = chkG n L := by unfold chkS; rw [if_pos h]
theorem chkS_s {n : Int} {L : List E} (h : chkG n L = 0) (S : List Int) : chkS n L S = subE n S := by unfold chkS; rw [if_neg (fun h' => h' h)]
theorem cutG_len {n : Int} {L : List E} (hR : Right n L) (hL : L.length ≤ 40) (S : List Int) : (cutG L S).length ≤ 1000000 := by
  have h1 := cutI_le (fun e => outB S (pAt (endsG L) e)) (endsG L).length
  have h2 := ends_all hR
  have h3 : (cutG L S).length ≤ (endsG L).length := h1
  omega
theorem joinT_small (t : Nat → Nat → Int) (n : Nat) (hn : n ≤ 40) : (joinT t n n).length ≤ 100000 := by
  have := joinT_len t n n
  have : n * n ≤ 40 * 40 := Nat.mul_le_mul hn hn
  omega
end Go.Proofs.Ytgfbihdnjidodaa

namespace Go.Proofs.Ytgfbihdnjidodaa
open Go.RowKit Go.Shelf Go.Proofs.Gr
attribute [local go_sem] Oper.semAt_some

theorem RowAt.cells {α : Type} {k : Nat} (hk0 : 0 < k) {enc : α → List Value} (hk : ∀ x, (enc x).length = k) {w : World} {b o : Nat} {L : List α} (h : RowAt k enc w (some ⟨b, o, none⟩) L) (j : Nat) (v : Value) (hj : (flat enc L)[j]? = some v) : w.cell? ((⟨b, o, none⟩ : Addr).add j) = some v := by
  have hl : j < L.length * k := by
    have := (List.getElem?_eq_some_iff.1 hj).1
    rwa [flat_len hk] at this
  have h1 : j / k < L.length := Nat.div_lt_of_lt_mul (by rwa [Nat.mul_comm] at hl)
  have h2 : j % k < k := Nat.mod_lt _ hk0
  have h3 : j / k * k + j % k = j := by rw [Nat.mul_comm]; exact Nat.div_add_mod j k
  obtain ⟨b', o', e, _, hc⟩ := h (j / k) h1
  injection e with e
  injection e with e1 e2
  subst e1 e2
  have h4 := flat_at hk L (j / k) (j % k) h1 h2
  rw [h3, hj] at h4
  have h5 := hc (j % k) h2
  rw [← h4, Nat.add_assoc, h3] at h5
  have e3 : Addr.add ⟨b, o, none⟩ j = ⟨b, o + j, none⟩ := by unfold Addr.add; split <;> simp_all
  rw [e3]; exact h5
theorem append_pairs (w : World) (b o g : Nat) (Q : List (Int × Int)) (p : Int × Int) (hQ : PsAt w (some ⟨b, o, none⟩) Q) (hp : PsAt w (some ⟨g, 0, none⟩) [p]) (hlen : Q.length ≤ 100000) (ty : TypeId) :
    ∃ c w', (Builtin.append_ #[54, 54] ty #[.slice (some ⟨b, o, none⟩) Q.length Q.length, .slice (some ⟨g, 0, none⟩) 1 1]).run Try.prog w = .ok (.slice (some ⟨w.heap.size, 0, none⟩) (Q.length + 1) c) w' ∧ PsAt w' (some ⟨w.heap.size, 0, none⟩) (Q ++ [p]) ∧ Q.length + 1 ≤ c ∧ Below w.heap.size w w' := by
  obtain ⟨i0, hi0, hz0, hz1, hz2⟩ := info_parts infoP
  have hr := run_append_grow (P := Try.prog) w 54 ty 56 i0 _ Try.underlying54 hi0 hz0 ⟨b, o, none⟩ Q.length Q.length (flat encP Q) (by rw [hz1, flat_len (k := 2) (enc := encP) (fun _ => rfl)]) (fun j v hj => RowAt.cells (k := 2) (enc := encP) (by decide) (fun _ => rfl) hQ j v hj)
    ⟨g, 0, none⟩ 1 1 (flat encP [p]) (by rw [hz1, flat_len (k := 2) (enc := encP) (fun _ => rfl)]; rfl) (fun j v hj => RowAt.cells (k := 2) (enc := encP) (by decide) (fun _ => rfl) hp j v hj) (by omega) (by omega) (growslice_fits (by omega) (by rw [hz2]; omega))
  refine ⟨_, _, hr, ?_, grownCap_ge w (Q.length + 1) Q.length 56, (Below.refl _ w).drew.alloc (Nat.le_refl _) _⟩
  intro j hj
  have hnew := Blk.new w.drew 56 ((flat encP Q).toArray ++ (flat encP [p]).toArray ++ Builtin.zeroCells (Value.agg #[.int .i64 0, .int .i64 0]).cells (grownCap w (Q.length + 1) Q.length 56 - (Q.length + 1)))
  refine ⟨w.heap.size, 0, rfl, hnew.lt, fun i hi => ?_⟩
  have h2 := hnew.cell (0 + j * 2 + i)
  refine h2.trans ?_
  have h3 : ((flat encP Q).toArray ++ (flat encP [p]).toArray) = (flat encP (Q ++ [p])).toArray := by rw [flat_append]; simp
  rw [h3, Nat.zero_add]
  have h4 : j * 2 + i < (flat encP (Q ++ [p])).toArray.size := by
    rw [List.size_toArray, flat_len (k := 2) (enc := encP) (fun _ => rfl)]
    have : (j + 1) * 2 ≤ (Q ++ [p]).length * 2 := Nat.mul_le_mul_right 2 (by omega)
    omega
  rw [Array.getElem?_append_left h4, List.getElem?_toArray]
  exact flat_at (k := 2) (enc := encP) (fun _ => rfl) (Q ++ [p]) j i hj hi
theorem wp_append_pairs {w : World} {o : Oper} {a : Act} {K : Act → World → Prop} {Q' : Exit → Act → World → Prop} (s x : Operand) (ho : o.op = .call { callee := .builtin .append, args := #[s, x], argTypes := #[54, 54] })
    (b q g : Nat) (Q : List (Int × Int)) (p : Int × Int) (hQ : PsAt w (some ⟨b, q, none⟩) Q) (hp : PsAt w (some ⟨g, 0, none⟩) [p]) (hlen : Q.length ≤ 100000) (hs : a.eval s = .slice (some ⟨b, q, none⟩) Q.length Q.length) (hx : a.eval x = .slice (some ⟨g, 0, none⟩) 1 1)
    (h : ∀ c w', PsAt w' (some ⟨w.heap.size, 0, none⟩) (Q ++ [p]) → Q.length + 1 ≤ c → Below w.heap.size w w' → K (a.put o.dst (.slice (some ⟨w.heap.size, 0, none⟩) (Q.length + 1) c)) w') : o.wp Try.prog a w K Q' := by
  obtain ⟨c, w', hr, h1, h2, h3⟩ := append_pairs w b q g Q p hQ hp hlen o.type
  unfold Oper.wp execOp
  simp only [ho, resolve, invoke, builtin, Sem.run_bind, Sem.run_pure, Result.andThen_ok, List.map_toArray, List.map_cons, List.map_nil, hs, hx, hr]
  exact h c w' h1 h2 h3
/-- Both make the same of a list that is not long. -/
theorem make_both (n : Int) (P : List (Int × Int)) (hP : P.length ≤ 4096) : ∃ m J k, J.length ≤ 100000 ∧ (∀ b cp w, PsAt w b P → Calls Try.prog 44 #[.int .i64 n, .slice b P.length cp] w (GivesGE w m J k)) ∧ (∀ b cp w, PsAt w b P → Calls Try.prog 45 #[.int .i64 n, .slice b P.length cp] w (GivesGE w m J k)) := by
  by_cases hn : n < 1 ∨ 12 < n
  · refine ⟨0, [], 2, by simp, fun b cp w _ => pmake_bad n hn b cp P w, fun b cp w _ => ?_⟩
    rcases hn with hn | hn
    · exact rmake_n0 n hn b cp P w
    · exact rmake_n1 n hn b cp P w
  · obtain ⟨N, rfl⟩ : ∃ N : Nat, n = N := ⟨n.toNat, by omega⟩
    have hp := fun b cp w hp => pmake_ok N (by omega) (by omega) b cp P hP w hp
    have hr := fun b cp w hp => rmake_ok N (by omega) (by omega) b cp P hP w hp
    by_cases h1 : ∃ j, j < P.length ∧ pErr N P j ≠ 0
    · obtain ⟨j, hj, hk⟩ := h1
      refine ⟨0, [], 2, by simp, fun b cp w h => (hp b cp w h).mono ?_, fun b cp w h => (hr b cp w h).mono ?_⟩ <;>
      · rintro e w' ⟨k, hg, ⟨rfl, -⟩ | ⟨rfl, hz, -⟩ | ⟨rfl, hz, -⟩⟩
        · exact hg
        · exact absurd (hz j hj) hk
        · exact absurd (hz j hj) hk
    · by_cases h2 : ∃ x y, x < N ∧ y < N ∧ 50 < cntT P P.length x y
      · obtain ⟨x, y, hx, hy, hxy⟩ := h2
        refine ⟨0, [], 5, by simp, fun b cp w h => (hp b cp w h).mono ?_, fun b cp w h => (hr b cp w h).mono ?_⟩ <;>
        · rintro e w' ⟨k, hg, ⟨rfl, j, hj, hk⟩ | ⟨rfl, -, -⟩ | ⟨rfl, -, hz⟩⟩
          · exact absurd ⟨j, hj, hk⟩ h1
          · exact hg
          · have := hz x y hx hy; omega
      · refine ⟨N, joinT (cntT P P.length) N N, 0, joinT_small _ _ (by omega), fun b cp w h => (hp b cp w h).mono ?_, fun b cp w h => (hr b cp w h).mono ?_⟩ <;>
        · rintro e w' ⟨k, hg, ⟨rfl, j, hj, hk⟩ | ⟨rfl, -, hz⟩ | ⟨rfl, -, -⟩⟩
          · exact absurd ⟨j, hj, hk⟩ h1
          · exact absurd hz h2
          · exact hg
theorem weakG {f : Nat} {args : Array Value} {w : World} {m : Int} {J : List E} {k : Nat} (h : Calls Try.prog f args w (GivesGE w m J k)) : Calls Try.prog f args w (fun e w' => ∃ a c, e = .returned (.tuple #[.agg #[.int .i64 m, .slice a J.length c], .int .i64 (k : Int)]) ∧ EsAt w' a J ∧ Below w.heap.size w w') :=
  h.mono fun _ _ ⟨a, c, e1, e2, _, e4⟩ => ⟨a, c, e1, e2, e4⟩
end Go.Proofs.Ytgfbihdnjidodaa
