/- Stores into tables; the graph on a set of vertices. -/
import Derived.Test.YtjaafneoinidkaaGx
import Derived.OneCell
namespace Go.Proofs.Ytjaafneoinidkaa
open Go.RowKit Go.Shelf Go.Proofs.Gr
attribute [local go_sem] Oper.semAt_some

theorem enR_eq (n : Nat) (f g : Nat → Int) (h : ∀ k, k < n → g k = f k) : enR n f = enR n g := by
  unfold enR
  refine congrArg List.toArray (List.map_congr_left fun k hk => ?_)
  rw [h k (List.mem_range.1 hk)]
theorem Tab.congr {w : World} {base : Nat} {v : Value} {n : Nat} {G : List Nat} {t s : Nat → Nat → Int} (h : Tab w base v n G t) (hG : G.length = n) (ht : ∀ x y, x < n → y < n → s x y = t x y) : Tab w base v n G s :=
  ⟨h.own, fun j hj => ⟨by rw [← enR_eq n (t j) (s j) (fun k hk => ht j k (by omega) hk)]; exact (h.row j hj).1, (h.row j hj).2⟩, h.srt⟩
/-- A store into a table's row. -/
theorem Tab.set {w : World} {base : Nat} {v : Value} {n : Nat} {G : List Nat} {t : Nat → Nat → Int} (h : Tab w base v n G t) (a b : Nat) (ha : a < G.length) (z : Int) :
    Tab (w.setCell ⟨G[a], b, none⟩ (.int .i64 z)) base v n G (fun x y => if x = a ∧ y = b then z else t x y) := by
  refine ⟨ownsRow_setCell_other h.own (a := ⟨G[a], b, none⟩) (fun e => own_blk_ne h.own (h.row a ha).1 (by decide) e.symm) _, fun j hj => ⟨?_, (h.row j hj).2⟩, h.srt⟩
  by_cases e : j = a
  · subst e
    have h1 := (h.row j ha).1.set_ b (.int .i64 z)
    rw [enR_set n (t j) (fun y => if j = j ∧ y = b then z else t j y) b z (fun y => by simp)] at h1
    exact h1
  · have hne : G[j] ≠ G[a] := fun e2 => by
      rcases Nat.lt_or_ge j a with h3 | h3
      · exact Nat.lt_irrefl _ (e2 ▸ (List.pairwise_iff_getElem.1 h.srt) j a hj ha h3)
      · exact Nat.lt_irrefl _ (e2 ▸ (List.pairwise_iff_getElem.1 h.srt) a j ha hj (by omega))
    have h1 := (h.row j hj).1.far (p := ⟨G[a], b, none⟩) hne (.int .i64 z)
    rw [enR_eq n (t j) (fun y => if j = a ∧ y = b then z else t j y) (fun k _ => by rw [if_neg (fun h => e h.1)])] at h1
    exact h1
/-- What a table's place is, and that it may be written. -/
theorem Tab.at2 {w : World} {base : Nat} {v : Value} {n : Nat} {G : List Nat} {t : Nat → Nat → Int} (h : Tab w base v n G t) (hG : G.length = n) (a b : Nat) (ha : a < n) (hb : b < n) :
    ∃ gb c, ∃ g, v = .slice (some ⟨gb, 0, none⟩) n c ∧ gb < w.heap.size ∧ g < w.heap.size ∧ base ≤ g ∧ w.cell? ⟨gb, a, none⟩ = some (.slice (some ⟨g, 0, none⟩) n n) ∧ w.cell? ⟨g, b, none⟩ = some (.int .i64 (t a b)) ∧ w.frozen? ⟨g, b, none⟩ = false ∧
      ∀ z, Tab (w.setCell ⟨g, b, none⟩ (.int .i64 z)) base v n G (fun x y => if x = a ∧ y = b then z else t x y) := by
  obtain ⟨gb, c, hv⟩ := own_pos h.own (by omega)
  have ho := h.own
  have hset := fun z => h.set a b (by omega) z
  subst hv
  have h1 := (ho.lt gb rfl).2
  have h2 := h.row a (by omega)
  refine ⟨gb, c, G[a]'(by omega), by rw [hG], h1, h2.1.lt, h2.2, ?_, (h2.1.cell b).trans (enR_at n _ b hb), h2.1.frozen b, hset⟩
  rw [ho.cellAt a (by omega), List.getElem?_map, List.getElem?_eq_getElem (by omega)]; rfl

/-- A table filled as far as a place. -/
def partT (t : Nat → Nat → Int) (i k : Nat) : Nat → Nat → Int := fun x y => if (x < i ∨ (x = i ∧ y < k)) ∧ x ≤ y then t x y else 0
theorem partT_zero (t : Nat → Nat → Int) (x y : Nat) : partT t 0 0 x y = 0 := by unfold partT; rw [if_neg (by omega)]
theorem partT_set (t : Nat → Nat → Int) (i k : Nat) (h : i ≤ k) (x y : Nat) : partT t i (k + 1) x y = if x = i ∧ y = k then t i k else partT t i k x y := by
  unfold partT
  by_cases e : x = i ∧ y = k
  · obtain ⟨rfl, rfl⟩ := e
    rw [if_pos ⟨Or.inr ⟨rfl, by omega⟩, h⟩, if_pos ⟨rfl, rfl⟩]
  · rw [if_neg e]
    by_cases h1 : (x < i ∨ (x = i ∧ y < k)) ∧ x ≤ y
    · rw [if_pos h1, if_pos (by omega)]
    · rw [if_neg h1, if_neg (by omega)]
theorem partT_next (t : Nat → Nat → Int) (n i x y : Nat) (hy : y < n) : partT t (i + 1) (i + 1) x y = partT t i n x y := by
  unfold partT
  by_cases h1 : (x < i ∨ (x = i ∧ y < n)) ∧ x ≤ y
  · rw [if_pos h1, if_pos (by omega)]
  · rw [if_neg h1, if_neg (by omega)]
theorem rowJ_congr (s t : Nat → Nat → Int) (a n : Nat) (h : ∀ b, a ≤ b → b < n → s a b = t a b) : rowJ s a n = rowJ t a n := by
  induction n with
  | zero => rfl
  | succ n ih =>
    rw [rowJ, rowJ, ih (fun b h1 h2 => h b h1 (by omega))]
    congr 1
    by_cases e : a ≤ n
    · rw [h n e (by omega)]
    · rw [if_neg (fun h => e h.1), if_neg (fun h => e h.1)]
theorem joinT_congr (s t : Nat → Nat → Int) (n k : Nat) (h : ∀ a b, a < k → a ≤ b → b < n → s a b = t a b) : joinT s n k = joinT t n k := by
  induction k with
  | zero => rfl
  | succ k ih => rw [joinT, joinT, ih (fun a b h1 => h a b (by omega)), rowJ_congr s t k n (fun b h1 h2 => h k b (by omega) h1 h2)]
/-- The graph on a set. -/
def indG (L : List E) (S : List Int) : List E := joinT (fun x y => betw (iAt S x) (iAt S y) L) S.length S.length
theorem indG_part (L : List E) (S : List Int) : joinT (partT (fun x y => betw (iAt S x) (iAt S y) L) S.length S.length) S.length S.length = indG L S :=
  joinT_congr _ _ _ _ fun a b h1 h2 _ => by unfold partT; rw [if_pos ⟨Or.inl h1, h2⟩]

set_option maxHeartbeats 12800000 in
set_option maxRecDepth 100000 in
theorem rinduced_any (n : Int) (a : Option Addr) (cap : Nat) (L : List E) (hL : L.length ≤ 100000) (hs : L.Pairwise (fun x y => ltE x y = true)) (b : Option Addr) (cs : Nat) (S : List Int) (hS : S.length ≤ 100) (w : World) (h : EsAt w a L) (hv : IsAt w b S) :
    Calls Try.prog 41 #[gv n a L.length cap, .slice b S.length cs] w (GivesG w S.length (indG L S)) := by
  have HBT := Lib.hid (fun u v w h => rbetween_any n a cap L hL hs u v w h)
  have HTB := Lib.hid (fun w => rtable_any S.length hS w)
  have HJO := Lib.hid (fun v base G t hG w h => rjoined_any S.length hS v base G t hG w h)
  have HIP := Lib.hid (indG_part L S)
  obtain ⟨t, ht⟩ : ∃ t : Nat → Nat → Int, t = fun x y => betw (iAt S x) (iAt S y) L := ⟨_, rfl⟩
  have HTV : Hid (∀ x y, t x y = betw (iAt S x) (iAt S y) L) := Lib.hid fun x y => by rw [ht]
  rw [← ht] at HIP
  generalize indG L S = R at *
  clear ht
  unfold GivesG at *
  unfold GivesN gv at *
  obtain ⟨W, hW⟩ : ∃ W, W = (w.alloc (Obj.cells #[.int .i64 n, .slice a L.length cap] 24)).alloc (Obj.cells #[.int .i64 0, .slice none 0 0] 24) := ⟨_, rfl⟩
  have hB0 : Below w.heap.size w W := by rw [hW]; exact ((Below.refl _ w).alloc (Nat.le_refl _) _).alloc (by simp) _
  have hG : Blk W w.heap.size 24 #[.int .i64 n, .slice a L.length cap] := by rw [hW]; exact (Blk.new _ _ _).alloc _
  have hR : Blk W (w.heap.size + 1) 24 #[.int .i64 0, .slice none 0 0] := by
    rw [hW]
    have h9 := Blk.new (w.alloc (Obj.cells #[.int .i64 n, .slice a L.length cap] 24)) 24 #[.int .i64 0, .slice none 0 0]
    rwa [World.size_alloc] at h9
  have HW := Lib.hid hW
  have HB0 := Lib.hid hB0
  have HG := Lib.hid hG
  have HR1 := Lib.hid hR
  have HE := Lib.hid (h.keep hB0)
  have HV := Lib.hid (hv.keep hB0)
  clear hB0 hG hR hW h hv
  go_enter Try.func41, Try.ntmps41
  go_wp2_with fail
  rw [← HW.out]
  refine (HTB.out W).mono ?_
  rintro e w1 ⟨v, G, rfl, hG, hT, hb⟩
  have HT0 : Hid (Tab w1 W.heap.size v S.length G (partT t 0 0)) := Lib.hid (hT.congr hG fun x y _ _ => partT_zero t x y)
  have HB1 := Lib.hid hb
  clear hT hb
  go_wp2
  go_loopw [6] (fun x wr => ∃ i : Nat, i ≤ S.length ∧ x = .int .i64 i ∧ Tab wr W.heap.size v S.length G (partT t i i) ∧ Below W.heap.size W wr) (fun x _ => S.length - (intOf x).toNat)
  case atStart => exact ⟨0, by omega, rfl, HT0.out, HB1.out⟩
  case round =>
    obtain ⟨i, hi, rfl, hT, hb⟩ := hrel
    by_cases hlt : i < S.length
    · have i1 : (i : Int) < ((S.length : Nat) : Int) := by omega
      have i0 : (0 : Int) ≤ (i : Int) := by omega
      have HTi := Lib.hid hT
      have HBi := Lib.hid hb
      clear hT hb
      go_wp2
      go_loopw [7] (fun x wr => ∃ k : Nat, i ≤ k ∧ k ≤ S.length ∧ x = .int .i64 k ∧ Tab wr W.heap.size v S.length G (partT t i k) ∧ Below W.heap.size W wr) (fun x _ => S.length - (intOf x).toNat)
      case atStart => exact ⟨i, by omega, by omega, rfl, HTi.out, HBi.out⟩
      case round =>
        obtain ⟨k, hik, hk, rfl, hT, hb⟩ := hrel
        by_cases hlk : k < S.length
        · have k1 : (k : Int) < ((S.length : Nat) : Int) := by omega
          have k0 : (0 : Int) ≤ (k : Int) := by omega
          obtain ⟨gb, c, g, hv, q1, q2, q3, y1, y2, y3, -⟩ := hT.at2 hG i k hlt hlk
          obtain ⟨b1, o1, rfl, q4, x1⟩ := (HV.out.keep hb).one i hlt
          obtain ⟨b1', o1', he, q5, x2⟩ := (HV.out.keep hb).one k hlk
          injection he with he
          injection he with he1 he2
          subst he1 he2
          subst hv
          have HBV : Hid (t i k = betw (iAt S i) (iAt S k) L) := Lib.hid (HTV.out i k)
          have HBT2 := Lib.hid (fun w h => HBT.out (iAt S i) (iAt S k) w h)
          generalize betw (iAt S i) (iAt S k) L = B at *
          generalize iAt S i = z1 at *
          generalize iAt S k = z2 at *
          generalize partT t i k i k = tv at *
          have HTr := Lib.hid hT
          have HBr := Lib.hid hb
          have HIK := Lib.hid hik
          have HEr := Lib.hid (HE.out.keep hb)
          have HS : Hid (∀ x, Below wr.heap.size wr x → (x.cell? ⟨w.heap.size, 0, none⟩ = some (.int .i64 n) ∧ x.cell? ⟨w.heap.size, 1, none⟩ = some (.slice a L.length cap) ∧ x.cell? ⟨gb, i, none⟩ = some (.slice (some ⟨g, 0, none⟩) S.length S.length) ∧ x.cell? ⟨b1, o1 + i, none⟩ = some (.int .i64 z1) ∧ x.cell? ⟨b1, o1 + k, none⟩ = some (.int .i64 z2))) := Lib.hid fun x hx => by
            have hg := HG.out.below (HBr.out.trans (hx.mono HBr.out.size)) HG.out.lt
            exact ⟨hg.cell 0, hg.cell 1, (hx.cell (p := ⟨gb, i, none⟩) q1).trans y1, (hx.cell (p := ⟨b1, o1 + i, none⟩) q4).trans x1, (hx.cell (p := ⟨b1, o1 + k, none⟩) q4).trans x2⟩
          clear hT hb hik x1 x2
          go_wp2
          have hk2 : Below wr.heap.size wr wr.drew := (Below.refl _ _).drew
          refine wp_region_late (S := fun u => Below wr.heap.size wr u) (X := [16]) (by kernel_rfl) ?_
          refine wpAnyL_pureD (i := 0) 24 (.slice (some ⟨gb, 0, none⟩) S.length c) rfl rfl (by kernel_rfl) (by kernel_rfl) (by kernel_rfl) (fun _ _ _ h => h) (Or.inl ⟨by rfl, fun u _ => ?_⟩) ?_
          · go_simp
          try simp only [Act.put, List.setIfInBounds_toArray, List.set_cons_zero, List.set_cons_succ]
          refine wpAnyL_pureD (i := 1) 25 (.int .i64 (i : Int)) rfl rfl (by kernel_rfl) (by kernel_rfl) (by kernel_rfl) (fun _ _ _ h => h) (Or.inl ⟨by rfl, fun u _ => ?_⟩) ?_
          · go_simp
          try simp only [Act.put, List.setIfInBounds_toArray, List.set_cons_zero, List.set_cons_succ]
          refine wpAnyL_pureD (i := 2) 26 (.pointer (some ⟨gb, i, none⟩)) rfl rfl (by kernel_rfl) (by kernel_rfl) (by kernel_rfl) (fun _ _ _ h => h) (Or.inl ⟨by rfl, fun u _ => ?_⟩) ?_
          · go_simp
          try simp only [Act.put, List.setIfInBounds_toArray, List.set_cons_zero, List.set_cons_succ]
          refine wpAnyL_takeD (i := 3) 27 (.slice (some ⟨g, 0, none⟩) S.length S.length) rfl rfl (by kernel_rfl) (by kernel_rfl) (by kernel_rfl) (by kernel_rfl) (by kernel_rfl) (fun _ _ _ h => h) hk2 (Or.inl ⟨by rfl, fun u hu => ?_⟩) ?_
          · obtain ⟨z0', z1', z2', z3', z4'⟩ := HS.out u hu
            go_simp
          try simp only [Act.put, List.setIfInBounds_toArray, List.set_cons_zero, List.set_cons_succ]
          refine wpAnyL_pureD (i := 4) 28 (.int .i64 (k : Int)) rfl rfl (by kernel_rfl) (by kernel_rfl) (by kernel_rfl) (fun _ _ _ h => h) (Or.inl ⟨by rfl, fun u _ => ?_⟩) ?_
          · go_simp
          try simp only [Act.put, List.setIfInBounds_toArray, List.set_cons_zero, List.set_cons_succ]
          refine wpAnyL_takeD (i := 5) 29 (.agg #[.int .i64 n, .slice a L.length cap]) rfl rfl (by kernel_rfl) (by kernel_rfl) (by kernel_rfl) (by kernel_rfl) (by kernel_rfl) (fun _ _ _ h => h) hk2 (Or.inl ⟨by rfl, fun u hu => ?_⟩) ?_
          · obtain ⟨z0', z1', z2', z3', z4'⟩ := HS.out u hu
            go_simp
          try simp only [Act.put, List.setIfInBounds_toArray, List.set_cons_zero, List.set_cons_succ]
          refine wpAnyL_pureD (i := 6) 30 (.slice (some ⟨b1, o1, none⟩) S.length cs) rfl rfl (by kernel_rfl) (by kernel_rfl) (by kernel_rfl) (fun _ _ _ h => h) (Or.inl ⟨by rfl, fun u _ => ?_⟩) ?_
          · go_simp
          try simp only [Act.put, List.setIfInBounds_toArray, List.set_cons_zero, List.set_cons_succ]
          refine wpAnyL_pureD (i := 7) 31 (.int .i64 (i : Int)) rfl rfl (by kernel_rfl) (by kernel_rfl) (by kernel_rfl) (fun _ _ _ h => h) (Or.inl ⟨by rfl, fun u _ => ?_⟩) ?_
          · go_simp
          try simp only [Act.put, List.setIfInBounds_toArray, List.set_cons_zero, List.set_cons_succ]
          refine wpAnyL_pureD (i := 8) 32 (.pointer (some ⟨b1, o1 + i, none⟩)) rfl rfl (by kernel_rfl) (by kernel_rfl) (by kernel_rfl) (fun _ _ _ h => h) (Or.inl ⟨by rfl, fun u _ => ?_⟩) ?_
          · go_simp
          try simp only [Act.put, List.setIfInBounds_toArray, List.set_cons_zero, List.set_cons_succ]
          refine wpAnyL_takeD (i := 9) 33 (.int .i64 z1) rfl rfl (by kernel_rfl) (by kernel_rfl) (by kernel_rfl) (by kernel_rfl) (by kernel_rfl) (fun _ _ _ h => h) hk2 (Or.inl ⟨by rfl, fun u hu => ?_⟩) ?_
          · obtain ⟨z0', z1', z2', z3', z4'⟩ := HS.out u hu
            go_simp
          try simp only [Act.put, List.setIfInBounds_toArray, List.set_cons_zero, List.set_cons_succ]
          refine wpAnyL_pureD (i := 10) 34 (.slice (some ⟨b1, o1, none⟩) S.length cs) rfl rfl (by kernel_rfl) (by kernel_rfl) (by kernel_rfl) (fun _ _ _ h => h) (Or.inl ⟨by rfl, fun u _ => ?_⟩) ?_
          · go_simp
          try simp only [Act.put, List.setIfInBounds_toArray, List.set_cons_zero, List.set_cons_succ]
          refine wpAnyL_pureD (i := 11) 35 (.int .i64 (k : Int)) rfl rfl (by kernel_rfl) (by kernel_rfl) (by kernel_rfl) (fun _ _ _ h => h) (Or.inl ⟨by rfl, fun u _ => ?_⟩) ?_
          · go_simp
          try simp only [Act.put, List.setIfInBounds_toArray, List.set_cons_zero, List.set_cons_succ]
          refine wpAnyL_pureD (i := 12) 36 (.pointer (some ⟨b1, o1 + k, none⟩)) rfl rfl (by kernel_rfl) (by kernel_rfl) (by kernel_rfl) (fun _ _ _ h => h) (Or.inl ⟨by rfl, fun u _ => ?_⟩) ?_
          · go_simp
          try simp only [Act.put, List.setIfInBounds_toArray, List.set_cons_zero, List.set_cons_succ]
          refine wpAnyL_takeD (i := 13) 37 (.int .i64 z2) rfl rfl (by kernel_rfl) (by kernel_rfl) (by kernel_rfl) (by kernel_rfl) (by kernel_rfl) (fun _ _ _ h => h) hk2 (Or.inl ⟨by rfl, fun u hu => ?_⟩) ?_
          · obtain ⟨z0', z1', z2', z3', z4'⟩ := HS.out u hu
            go_simp
          try simp only [Act.put, List.setIfInBounds_toArray, List.set_cons_zero, List.set_cons_succ]
          refine wpAnyL_one (i := 14) (by kernel_rfl) rfl (fun K hK => ?_)
          go_simp
          go_at_call 31
          refine (HBT2.out _ (HEr.out.keep hk2)).mono ?_
          rintro e w2 ⟨rfl, hb2⟩
          have hk3 := hk2.trans (hb2.mono hk2.size)
          show K _ _
          refine hK.out _ _ (fun _ _ => hk3) ?_
          clear hK K
          have hT2 := HTr.out.keep hk3
          have hc1 : w2.cell? ⟨g, k, none⟩ = some (.int .i64 tv) := (hk3.cell (p := ⟨g, k, none⟩) q2).trans y2
          have hf1 : w2.frozen? ⟨g, k, none⟩ = false := (hk3.frozen (p := ⟨g, k, none⟩) q2).trans y3
          have HN : Hid (Tab (w2.setCell ⟨g, k, none⟩ (.int .i64 B)) W.heap.size (.slice (some ⟨gb, 0, none⟩) S.length c) S.length G (partT t i (k + 1))) := Lib.hid (by
            obtain ⟨gb', c', g', hv', -, -, -, x1', -, -, hset⟩ := hT2.at2 hG i k hlt hlk
            injection hv' with e1 e2 e3
            injection e1 with e1
            injection e1 with e1
            subst e1
            rw [((hk3.cell (p := ⟨gb, i, none⟩) q1).trans y1)] at x1'
            injection x1' with x1'
            injection x1' with e4 e5 e6
            injection e4 with e4
            injection e4 with e4
            subst e4
            exact (hset B).congr hG fun x y _ _ => by rw [partT_set t i k HIK.out x y, HBV.out])
          have HBN : Hid (Below W.heap.size W (w2.setCell ⟨g, k, none⟩ (.int .i64 B))) := Lib.hid ((HBr.out.trans (hk3.mono HBr.out.size)).setCell (p := ⟨g, k, none⟩) q3 _)
          clear hT2 hb2 hk2 hk3 y1 y2 y3
          refine wpAnyL_one (i := 15) (by kernel_rfl) rfl (fun K hK => ?_)
          go_simp
          refine hK.out _ _ (fun _ h => h) ?_
          clear hK K
          refine wpAnyL_one (i := 16) (by kernel_rfl) rfl (fun K hK => ?_)
          go_simp
          refine hK.out _ _ (fun h => absurd (by decide) h) ?_
          clear hK K
          refine wpAnyL_done (by kernel_rfl) ?_ _
          try simp only [Act.put, List.setIfInBounds_toArray, List.set_cons_zero, List.set_cons_succ]
          go_wp2
          go_roundw
          case rel => exact ⟨k + 1, by have := HIK.out; omega, by omega, by go_num, HN.out, HBN.out⟩
          case measure => simp [intOf]; omega
        · obtain rfl : k = S.length := by omega
          have HTN := Lib.hid (hT.congr hG fun x y _ hy => partT_next t S.length i x y hy)
          have HBN := Lib.hid hb
          clear hT hb
          go_wp2
          go_roundw
          case rel => exact ⟨i + 1, by omega, by go_num, HTN.out, HBN.out⟩
          case measure => simp [intOf]; omega
    · obtain rfl : i = S.length := by omega
      have HTr := Lib.hid hT
      have HBr := Lib.hid (HB0.out.trans (hb.mono HB0.out.size))
      have HRr := Lib.hid (HR1.out.below hb HR1.out.lt)
      clear hT hb
      go_wp2_with fail
      refine (HJO.out _ _ _ _ hG _ HTr.out).mono ?_
      rintro e w2 ⟨a2, c2, rfl, -, he2, hb2⟩
      rw [HIP.out] at he2 ⊢
      have hlt := HRr.out.lt
      have hRr : Blk w2 (w.heap.size + 1) 24 #[.int .i64 0, .slice none 0 0] := HRr.out.below hb2 HRr.out.lt
      have e0 := ownsRow_setCell_below (ownsRow_setCell_below he2 (a := ⟨w.heap.size + 1, 0, none⟩) hlt (.int .i64 (S.length : Nat))) (a := ⟨w.heap.size + 1, 1, none⟩) hlt (.slice a2 R.length c2)
      have E3 := Lib.hid (e0.mono (base' := w.heap.size) (by omega))
      obtain ⟨a', c', e1, e2⟩ := RowAt.of_own encE_len3 e0
      have E1 := Lib.hid e1
      have E2 := Lib.hid e2
      have r1 : w2.cell? ⟨w.heap.size + 1, 0, none⟩ = some (.int .i64 0) := hRr.cell 0
      have r3 : w2.frozen? ⟨w.heap.size + 1, 0, none⟩ = false := hRr.frozen 0
      have r2 : (w2.setCell ⟨w.heap.size + 1, 0, none⟩ (.int .i64 (S.length : Nat))).cell? ⟨w.heap.size + 1, 1, none⟩ = some (.slice none 0 0) := (hRr.set_ 0 (.int .i64 (S.length : Nat))).cell 1
      have r4 : (w2.setCell ⟨w.heap.size + 1, 0, none⟩ (.int .i64 (S.length : Nat))).frozen? ⟨w.heap.size + 1, 1, none⟩ = false := (hRr.set_ 0 (.int .i64 (S.length : Nat))).frozen 1
      have hRf := (hRr.set_ 0 (.int .i64 (S.length : Nat))).set_ 1 (.slice a2 R.length c2)
      have r5 : ((w2.setCell ⟨w.heap.size + 1, 0, none⟩ (.int .i64 (S.length : Nat))).setCell ⟨w.heap.size + 1, 1, none⟩ (.slice a2 R.length c2)).cell? ⟨w.heap.size + 1, 0, none⟩ = some (.int .i64 (S.length : Nat)) := hRf.cell 0
      have r6 : ((w2.setCell ⟨w.heap.size + 1, 0, none⟩ (.int .i64 (S.length : Nat))).setCell ⟨w.heap.size + 1, 1, none⟩ (.slice a2 R.length c2)).cell? ⟨w.heap.size + 1, 1, none⟩ = some (.slice a2 R.length c2) := hRf.cell 1
      have HBF : Hid (Below w.heap.size w ((w2.setCell ⟨w.heap.size + 1, 0, none⟩ (.int .i64 (S.length : Nat))).setCell ⟨w.heap.size + 1, 1, none⟩ (.slice a2 R.length c2))) := Lib.hid (((HBr.out.trans (hb2.mono HBr.out.size)).setCell (p := ⟨w.heap.size + 1, 0, none⟩) (Nat.le_succ _) _).setCell (p := ⟨w.heap.size + 1, 1, none⟩) (Nat.le_succ _) _)
      clear hb2 he2 hRr hRf e0 e1 e2 hlt
      go_wp2
      refine bodyPost_ret (v := .agg #[.int .i64 (S.length : Nat), .slice a2 R.length c2]) (by simp [results, Try.results41, go_sem, r5, r6]) rfl ?_
      injection E1.out with q1 q2 q3
      have hq := E2.out
      rw [← q1] at hq
      exact ⟨a2, c2, rfl, hq, E3.out, HBF.out⟩
end Go.Proofs.Ytjaafneoinidkaa
