/- The graph of a table. -/
import Derived.Test.YtjaafneoinidkaaGw
import Derived.Test.YtjaafneoinidkaaLateD
namespace Go.Proofs.Ytjaafneoinidkaa
open Go.RowKit Go.Shelf Go.Proofs.Gr
attribute [local go_sem] Oper.semAt_some

theorem rowJ_low (t : Nat → Nat → Int) (a b : Nat) (h : b ≤ a) : rowJ t a b = [] := by
  induction b with
  | zero => rfl
  | succ b ih => rw [rowJ, ih (by omega), if_neg (by omega)]; rfl
theorem rowJ_len (t : Nat → Nat → Int) (a b : Nat) : (rowJ t a b).length ≤ b := by
  induction b with
  | zero => simp [rowJ]
  | succ b ih => rw [rowJ, List.length_append]; split <;> simp <;> omega
theorem joinT_len (t : Nat → Nat → Int) (n k : Nat) : (joinT t n k).length ≤ k * n := by
  induction k with
  | zero => simp [joinT]
  | succ k ih => rw [joinT, List.length_append, Nat.succ_mul]; have := rowJ_len t k n; omega
theorem Tab.keep {w w' : World} {base : Nat} {v : Value} {n : Nat} {G : List Nat} {t : Nat → Nat → Int} (h : Tab w base v n G t) (hb : Below w.heap.size w w') : Tab w' base v n G t :=
  ⟨own_keep h.own hb, fun j hj => ⟨(h.row j hj).1.below hb (h.row j hj).1.lt, (h.row j hj).2⟩, h.srt⟩
theorem Tab.at {w : World} {base : Nat} {v : Value} {n : Nat} {G : List Nat} {t : Nat → Nat → Int} (h : Tab w base v n G t) (hG : G.length = n) (a b : Nat) (ha : a < n) (hb : b < n) :
    ∃ gb c g, v = .slice (some ⟨gb, 0, none⟩) n c ∧ gb < w.heap.size ∧ g < w.heap.size ∧ w.cell? ⟨gb, a, none⟩ = some (.slice (some ⟨g, 0, none⟩) n n) ∧ w.cell? ⟨g, b, none⟩ = some (.int .i64 (t a b)) := by
  obtain ⟨gb, c, hv⟩ := own_pos h.own (by omega)
  have ho := h.own
  subst hv
  have h1 := (ho.lt gb rfl).2
  have h2 := h.row a (by omega)
  refine ⟨gb, c, G[a]'(by omega), by rw [hG], h1, h2.1.lt, ?_, (h2.1.cell b).trans (enR_at n _ b hb)⟩
  rw [ho.cellAt a (by omega), List.getElem?_map, List.getElem?_eq_getElem (by omega)]; rfl

set_option maxHeartbeats 12800000 in
set_option maxRecDepth 100000 in
theorem rjoined_any (n : Nat) (hn : n ≤ 100) (v : Value) (base : Nat) (G : List Nat) (t : Nat → Nat → Int) (hG : G.length = n) (w : World) (h : Tab w base v n G t) :
    Calls Try.prog 62 #[.int .i64 n, v] w (GivesG w n (joinT t n n)) := by
  obtain ⟨i0, hi0, hz0, hz1, hz2⟩ := info_parts infoE
  unfold GivesG gv
  have HJ0 : Hid (joinT t n 0 = []) := Lib.hid rfl
  have HJS : Hid (∀ a, joinT t n (a + 1) = joinT t n a ++ rowJ t a n) := Lib.hid fun a => rfl
  have HRS : Hid (∀ a b, rowJ t a (b + 1) = rowJ t a b ++ (if a ≤ b ∧ 0 < t a b then [⟨a, b, t a b⟩] else [])) := Lib.hid fun a b => rfl
  have HR0 : Hid (∀ a, rowJ t a a = []) := Lib.hid fun a => rowJ_low t a a (Nat.le_refl _)
  have HJL : Hid (∀ a b, a ≤ n → b ≤ n → (joinT t n a ++ rowJ t a b).length ≤ 20000) := Lib.hid fun a b ha hb => by
    have h1 := joinT_len t n a
    have h2 := rowJ_len t a b
    have h3 : a * n ≤ 100 * 100 := Nat.mul_le_mul (by omega) hn
    rw [List.length_append]; omega
  obtain ⟨W, hW⟩ : ∃ W, W = w.alloc (Obj.cells #[.int .i64 0, .slice none 0 0] 24) := ⟨_, rfl⟩
  have hB0 : Below w.heap.size w W := by rw [hW]; exact (Below.refl _ w).alloc (Nat.le_refl _) _
  have hR : Blk W w.heap.size 24 #[.int .i64 0, .slice none 0 0] := by rw [hW]; exact Blk.new _ _ _
  have hs : W.heap.size = w.heap.size + 1 := by rw [hW]; simp
  have HWS := Lib.hid hs
  have HW := Lib.hid hW
  have HB0 := Lib.hid hB0
  have HR1 := Lib.hid hR
  have HT1 := Lib.hid (h.keep hB0)
  have HK0 : Hid (Blk (W.alloc (Obj.cells #[.int .i64 n, .slice none 0 0] 24)) (w.heap.size + 1) 24 #[.int .i64 n, .slice none 0 0]) := Lib.hid (by rw [← hs]; exact Blk.new _ _ _)
  have HBK : Hid (Below W.heap.size W (W.alloc (Obj.cells #[.int .i64 n, .slice none 0 0] 24))) := Lib.hid ((Below.refl _ _).alloc (Nat.le_refl _) _)
  clear hB0 hR hW h hs
  go_enter Try.func62, Try.ntmps62
  go_wp2
  rw [← HW.out]
  go_loopw [6] (fun x wr => ∃ (a : Nat) (s : Value), a ≤ n ∧ x = .int .i64 a ∧ Blk wr (w.heap.size + 1) 24 #[.int .i64 n, s] ∧ wr.ownsRow (w.heap.size + 2) 71 3 s (joinT t n a).length (flat encE (joinT t n a)) ∧ Below W.heap.size W wr) (fun x _ => n - (intOf x).toNat)
  case atStart => exact ⟨0, _, by omega, rfl, HK0.out, by rw [HJ0.out]; exact World.ownsRow_nil _ _ _ _, HBK.out⟩
  case round =>
    obtain ⟨a, s, ha, rfl, hK, hown, hb⟩ := hrel
    by_cases hlt : a < n
    · have i1 : (a : Int) < (n : Int) := by omega
      have HK := Lib.hid hK
      have HOW : Hid (wr.ownsRow (w.heap.size + 2) 71 3 s (joinT t n a ++ rowJ t a a).length (flat encE (joinT t n a ++ rowJ t a a))) := Lib.hid (by rw [HR0.out, List.append_nil]; exact hown)
      have HBr := Lib.hid hb
      have HJS2 := Lib.hid (HJS.out a)
      clear hK hown hb
      go_wp2
      go_loopw [7] (fun x wr => ∃ (b : Nat) (s : Value), a ≤ b ∧ b ≤ n ∧ x = .int .i64 b ∧ Blk wr (w.heap.size + 1) 24 #[.int .i64 n, s] ∧ wr.ownsRow (w.heap.size + 2) 71 3 s (joinT t n a ++ rowJ t a b).length (flat encE (joinT t n a ++ rowJ t a b)) ∧ Below W.heap.size W wr) (fun x _ => n - (intOf x).toNat)
      case atStart => exact ⟨a, _, by omega, by omega, rfl, HK.out, HOW.out, HBr.out⟩
      case round =>
        obtain ⟨b, s, hab, hbn, rfl, hK, hown, hb⟩ := hrel
        by_cases hlb : b < n
        · have hJL := HJL.out a b (by omega) (by omega)
          have hRS := HRS.out a b
          obtain ⟨gb, c, g, hv, q1, q2, x1, x2⟩ := HT1.out.at hG a b hlt hlb
          have y1 := (hb.cell (p := ⟨gb, a, none⟩) q1).trans x1
          have y2 := (hb.cell (p := ⟨g, b, none⟩) q2).trans x2
          subst hv
          have j1 : (b : Int) < (n : Int) := by omega
          have j2 : (0 : Int) ≤ (b : Int) := by omega
          have j3 : (0 : Int) ≤ (a : Int) := by omega
          generalize t a b = T at *
          have HK := Lib.hid hK
          have HB2 := Lib.hid hb
          obtain ⟨J, hJ⟩ : ∃ J, J = joinT t n a ++ rowJ t a b := ⟨_, rfl⟩
          rw [← hJ] at hown hJL
          have HJN : Hid (joinT t n a ++ rowJ t a (b + 1) = J ++ (if a ≤ b ∧ 0 < T then [⟨a, b, T⟩] else [])) := Lib.hid (by rw [hRS, hJ, List.append_assoc])
          have HOW := Lib.hid hown
          by_cases hT : 0 < T
          · have HJ2 : Hid (joinT t n a ++ rowJ t a (b + 1) = J ++ [⟨a, b, T⟩]) := Lib.hid (by rw [HJN.out, if_pos ⟨hab, hT⟩])
            have k1 : wr.cell? ⟨w.heap.size + 1, 1, none⟩ = some s := hK.cell 1
            have HAB := Lib.hid hab
            clear hK hb hown hRS hJ x1 x2 hab
            go_wp2
            have HS : Hid (∀ x, Below wr.heap.size wr x → (x.cell? ⟨w.heap.size + 1, 1, none⟩ = some s ∧ x.cell? ⟨gb, a, none⟩ = some (.slice (some ⟨g, 0, none⟩) n n) ∧ x.cell? ⟨g, b, none⟩ = some (.int .i64 T))) := Lib.hid fun x hx => ⟨(hx.cell (p := ⟨w.heap.size + 1, 1, none⟩) HK.out.lt).trans k1, (hx.cell (p := ⟨gb, a, none⟩) (Nat.lt_of_lt_of_le q1 HB2.out.size)).trans y1, (hx.cell (p := ⟨g, b, none⟩) (Nat.lt_of_lt_of_le q2 HB2.out.size)).trans y2⟩
            have hk2 : Below wr.heap.size wr wr.drew := (Below.refl _ _).drew
            have hSd := HS.out _ hk2
            clear y1 y2 k1
            refine wp_region_late (S := fun u => u.cell? ⟨w.heap.size + 1, 1, none⟩ = some s ∧ u.cell? ⟨gb, a, none⟩ = some (.slice (some ⟨g, 0, none⟩) n n) ∧ u.cell? ⟨g, b, none⟩ = some (.int .i64 T)) (X := [13, 15]) (by kernel_rfl) ?_
            refine wpAnyL_pureD (i := 0) 29 (.pointer (some ⟨w.heap.size + 1, 1, none⟩)) rfl rfl (by kernel_rfl) (by kernel_rfl) (by kernel_rfl) (fun _ _ _ h => h) (Or.inl ⟨by rfl, fun u _ => ?_⟩) ?_
            · go_simp
            try simp only [Act.put, List.setIfInBounds_toArray, List.set_cons_zero, List.set_cons_succ]
            refine wpAnyL_takeD (i := 1) 30 s rfl rfl (by kernel_rfl) (by kernel_rfl) (by kernel_rfl) (by kernel_rfl) (by kernel_rfl) (fun _ _ _ h => h) hSd (Or.inl ⟨by rfl, fun u hu => ?_⟩) ?_
            · obtain ⟨z0, z1, z2⟩ := hu
              go_simp
            try simp only [Act.put, List.setIfInBounds_toArray, List.set_cons_zero, List.set_cons_succ]
            refine wpAnyL_pureD (i := 2) 31 (.int .i64 (a : Int)) rfl rfl (by kernel_rfl) (by kernel_rfl) (by kernel_rfl) (fun _ _ _ h => h) (Or.inl ⟨by rfl, fun u _ => ?_⟩) ?_
            · go_simp
            try simp only [Act.put, List.setIfInBounds_toArray, List.set_cons_zero, List.set_cons_succ]
            refine wpAnyL_pureD (i := 3) 32 (.int .i64 (b : Int)) rfl rfl (by kernel_rfl) (by kernel_rfl) (by kernel_rfl) (fun _ _ _ h => h) (Or.inl ⟨by rfl, fun u _ => ?_⟩) ?_
            · go_simp
            try simp only [Act.put, List.setIfInBounds_toArray, List.set_cons_zero, List.set_cons_succ]
            refine wpAnyL_pureD (i := 4) 33 (.slice (some ⟨gb, 0, none⟩) n c) rfl rfl (by kernel_rfl) (by kernel_rfl) (by kernel_rfl) (fun _ _ _ h => h) (Or.inl ⟨by rfl, fun u _ => ?_⟩) ?_
            · go_simp
            try simp only [Act.put, List.setIfInBounds_toArray, List.set_cons_zero, List.set_cons_succ]
            refine wpAnyL_pureD (i := 5) 34 (.int .i64 (a : Int)) rfl rfl (by kernel_rfl) (by kernel_rfl) (by kernel_rfl) (fun _ _ _ h => h) (Or.inl ⟨by rfl, fun u _ => ?_⟩) ?_
            · go_simp
            try simp only [Act.put, List.setIfInBounds_toArray, List.set_cons_zero, List.set_cons_succ]
            refine wpAnyL_pureD (i := 6) 35 (.pointer (some ⟨gb, a, none⟩)) rfl rfl (by kernel_rfl) (by kernel_rfl) (by kernel_rfl) (fun _ _ _ h => h) (Or.inl ⟨by rfl, fun u _ => ?_⟩) ?_
            · go_simp
            try simp only [Act.put, List.setIfInBounds_toArray, List.set_cons_zero, List.set_cons_succ]
            refine wpAnyL_takeD (i := 7) 36 (.slice (some ⟨g, 0, none⟩) n n) rfl rfl (by kernel_rfl) (by kernel_rfl) (by kernel_rfl) (by kernel_rfl) (by kernel_rfl) (fun _ _ _ h => h) hSd (Or.inl ⟨by rfl, fun u hu => ?_⟩) ?_
            · obtain ⟨z0, z1, z2⟩ := hu
              go_simp
            try simp only [Act.put, List.setIfInBounds_toArray, List.set_cons_zero, List.set_cons_succ]
            refine wpAnyL_pureD (i := 8) 37 (.int .i64 (b : Int)) rfl rfl (by kernel_rfl) (by kernel_rfl) (by kernel_rfl) (fun _ _ _ h => h) (Or.inl ⟨by rfl, fun u _ => ?_⟩) ?_
            · go_simp
            try simp only [Act.put, List.setIfInBounds_toArray, List.set_cons_zero, List.set_cons_succ]
            refine wpAnyL_pureD (i := 9) 38 (.pointer (some ⟨g, b, none⟩)) rfl rfl (by kernel_rfl) (by kernel_rfl) (by kernel_rfl) (fun _ _ _ h => h) (Or.inl ⟨by rfl, fun u _ => ?_⟩) ?_
            · go_simp
            try simp only [Act.put, List.setIfInBounds_toArray, List.set_cons_zero, List.set_cons_succ]
            refine wpAnyL_takeD (i := 10) 39 (.int .i64 T) rfl rfl (by kernel_rfl) (by kernel_rfl) (by kernel_rfl) (by kernel_rfl) (by kernel_rfl) (fun _ _ _ h => h) hSd (Or.inl ⟨by rfl, fun u hu => ?_⟩) ?_
            · obtain ⟨z0, z1, z2⟩ := hu
              go_simp
            try simp only [Act.put, List.setIfInBounds_toArray, List.set_cons_zero, List.set_cons_succ]
            refine wpAnyL_pureD (i := 11) 40 (.agg #[.int .i64 (a : Int), .int .i64 (b : Int), .int .i64 T]) rfl rfl (by kernel_rfl) (by kernel_rfl) (by kernel_rfl) (fun _ _ _ h => h) (Or.inl ⟨by rfl, fun u _ => ?_⟩) ?_
            · go_simp
            try simp only [Act.put, List.setIfInBounds_toArray, List.set_cons_zero, List.set_cons_succ]
            refine wpAnyL_one (i := 12) (by kernel_rfl) rfl (fun K hK => ?_)
            go_simp
            refine hK.out _ _ (fun _ _ => HS.out _ ((Below.refl _ wr).alloc (Nat.le_refl _) _).drew) ?_
            clear hK K
            refine wpAnyL_one (i := 13) (by kernel_rfl) rfl (fun K hK => ?_)
            rw [if_pos (by kernel_rfl)]
            have hKd : Blk wr.drew (w.heap.size + 1) 24 #[.int .i64 n, s] := HK.out
            have hOd : wr.drew.ownsRow (w.heap.size + 2) 71 3 s J.length (flat encE J) := HOW.out
            have hsz : w.heap.size + 2 ≤ wr.heap.size := HK.out.lt
            refine wp_append_own _ _ _ 22 rfl (w.heap.size + 2) 71 i0 (.agg #[.int .i64 0, .int .i64 0, .int .i64 0]) 3 24 Try.underlying22 hi0 hz0 hz1 hz2 rfl (by decide) s _ _ (by rfl) ((HOW.out.alloc (Obj.cells #[.int .i64 (a : Int), .int .i64 (b : Int), .int .i64 T] 71)).drew) ⟨wr.heap.size, 0, none⟩ 1 1 [.int .i64 (a : Int), .int .i64 (b : Int), .int .i64 T] (by rfl) rfl (lit_row wr _ _) (by simp [Value.oneCell']) (by unfold maxLen; omega) (by omega) (by show w.heap.size + 2 ≤ (wr.alloc _).heap.size; rw [World.size_alloc]; omega) ?_
            intro v1 w3 hown1 hgrow1 _
            obtain ⟨g', cap', rfl⟩ := own_succ hown1
            obtain ⟨h31, h32, h33, h34⟩ := kept_push (V := wr.drew) hKd hOd hgrow1 hown1
            have hc1 : w3.cell? ⟨w.heap.size + 1, 1, none⟩ = some s := h31.cell 1
            have hf1 : w3.frozen? ⟨w.heap.size + 1, 1, none⟩ = false := h31.frozen 1
            have HX2 := Lib.hid h32
            have HX3 := Lib.hid h33
            have HX4 : Hid (Below W.heap.size W (w3.setCell ⟨w.heap.size + 1, 1, none⟩ (.slice (some ⟨g', 0, none⟩) (J.length + 1) cap'))) := Lib.hid (HB2.out.drew.trans (by rw [HWS.out]; exact h34))
            clear h31 h32 h33 h34 hown1 hgrow1 hKd hOd hSd hsz
            refine hK.out _ _ (fun h => absurd (by decide) h) ?_
            clear hK K
            refine wpAnyL_one (i := 14) (by kernel_rfl) rfl (fun K hK => ?_)
            go_simp
            refine hK.out _ _ (fun _ h => h) ?_
            clear hK K
            refine wpAnyL_one (i := 15) (by kernel_rfl) rfl (fun K hK => ?_)
            go_simp
            refine hK.out _ _ (fun h => absurd (by decide) h) ?_
            clear hK K
            refine wpAnyL_done (by kernel_rfl) ?_ _
            go_wp2
            go_roundw
            case rel => exact ⟨b + 1, _, by have := HAB.out; omega, by omega, by go_num, HX2.out, by rw [HJ2.out, List.length_append, flatE_snoc]; exact HX3.out, HX4.out⟩
            case measure => simp [intOf]; omega
          · have HJ2 : Hid (joinT t n a ++ rowJ t a (b + 1) = J) := Lib.hid (by rw [HJN.out, if_neg (fun h => hT h.2), List.append_nil])
            clear hK hb hown hRS hJ x1 x2
            go_wp2
            go_roundw
            case rel => exact ⟨b + 1, _, by omega, by omega, by go_num, HK.out, by rw [HJ2.out]; exact HOW.out, HB2.out⟩
            case measure => simp [intOf]; omega
        · obtain rfl : b = n := by omega
          have HK := Lib.hid hK
          have HOW := Lib.hid hown
          have HB2 := Lib.hid hb
          clear hK hown hb
          go_wp2
          go_roundw
          case rel => exact ⟨a + 1, _, by omega, by go_num, HK.out, by rw [HJS2.out]; exact HOW.out, HB2.out⟩
          case measure => simp [intOf]; omega
    · obtain rfl : a = n := by omega
      generalize hM : joinT t a a = M at *
      obtain ⟨sa, sc, rfl, -⟩ := RowAt.of_own encE_len3 hown
      have e0 := (ownsRow_setCell_below (ownsRow_setCell_below hown (a := ⟨w.heap.size, 0, none⟩) (by show w.heap.size < w.heap.size + 2; omega) (.int .i64 a)) (a := ⟨w.heap.size, 1, none⟩) (by show w.heap.size < w.heap.size + 2; omega) (.slice sa M.length sc))
      have E3 := Lib.hid (e0.mono (base' := w.heap.size) (by omega))
      obtain ⟨a', c', e1, e2⟩ := RowAt.of_own encE_len3 e0
      clear e0
      have E1 := Lib.hid e1
      have E2 := Lib.hid e2
      have hRr : Blk wr w.heap.size 24 #[.int .i64 0, .slice none 0 0] := HR1.out.below hb HR1.out.lt
      have r1 : wr.cell? ⟨w.heap.size, 0, none⟩ = some (.int .i64 0) := hRr.cell 0
      have r3 : wr.frozen? ⟨w.heap.size, 0, none⟩ = false := hRr.frozen 0
      have r2 : (wr.setCell ⟨w.heap.size, 0, none⟩ (.int .i64 a)).cell? ⟨w.heap.size, 1, none⟩ = some (.slice none 0 0) := (hRr.set_ 0 (.int .i64 a)).cell 1
      have r4 : (wr.setCell ⟨w.heap.size, 0, none⟩ (.int .i64 a)).frozen? ⟨w.heap.size, 1, none⟩ = false := (hRr.set_ 0 (.int .i64 a)).frozen 1
      have k2 : wr.cell? ⟨w.heap.size + 1, 0, none⟩ = some (.int .i64 a) := hK.cell 0
      have k3 : wr.cell? ⟨w.heap.size + 1, 1, none⟩ = some (.slice sa M.length sc) := hK.cell 1
      have hRf := (hRr.set_ 0 (.int .i64 a)).set_ 1 (.slice sa M.length sc)
      have r5 : ((wr.setCell ⟨w.heap.size, 0, none⟩ (.int .i64 a)).setCell ⟨w.heap.size, 1, none⟩ (.slice sa M.length sc)).cell? ⟨w.heap.size, 0, none⟩ = some (.int .i64 a) := hRf.cell 0
      have r6 : ((wr.setCell ⟨w.heap.size, 0, none⟩ (.int .i64 a)).setCell ⟨w.heap.size, 1, none⟩ (.slice sa M.length sc)).cell? ⟨w.heap.size, 1, none⟩ = some (.slice sa M.length sc) := hRf.cell 1
      have HBF : Hid (Below w.heap.size w ((wr.setCell ⟨w.heap.size, 0, none⟩ (.int .i64 a)).setCell ⟨w.heap.size, 1, none⟩ (.slice sa M.length sc))) := Lib.hid (((HB0.out.trans (hb.mono HB0.out.size)).setCell (p := ⟨w.heap.size, 0, none⟩) (Nat.le_refl _) _).setCell (p := ⟨w.heap.size, 1, none⟩) (Nat.le_refl _) _)
      clear hb hK hown hRr hRf e1 e2
      go_wp2
      refine bodyPost_ret (v := .agg #[.int .i64 a, .slice sa M.length sc]) (by simp [results, Try.results62, go_sem, r5, r6]) rfl ?_
      injection E1.out with q1 q2 q3
      have hq := E2.out
      rw [← q1] at hq
      exact ⟨sa, sc, by rw [hM], by rw [hM]; exact hq, by rw [hM]; exact E3.out, HBF.out⟩
end Go.Proofs.Ytjaafneoinidkaa
